import PyProof.Rows.All
import Wide.All
import OpenK.AllK
import Wide.FinOn
import HandS.ForMost
import HandS.IsInst
import HandS.Codes
import HandS.DictComp
import HandS.DictTup
import HandS.Ends
import HandS.ExcIs
import HandS.SortRule
import HandS.TupAny
import HandS.TupLen
import HandS.TupMul
import HandS.TupSets
import HandS.WordsExc
import KE.KDictCopyH
import KE.KDictOf
import KE.KDictSum
import KE.KDictWalk
import KE.KLam
import KE.RegKIsAll
import HandS.FStr
import HandS.Text
import HandS.StrMore
import HandS.MapJoin
import KE.DataEq
import HandS.RaiseMore
import HandS.Style
import HandS.AnyAll
import HandS.GenList
import KE.KDictKeyed
import KE.KeyNested
import HandS.Zip
import KE.KNestM
import KE.KDictDisplayH
import HandS.Iter
import HandS.SortOrd
import HandS.SortInts
import HandS.Keys
import HandS.More
import PyProof.DictCalls
import PyProof.CompFree
import HandS.Comp
import HandS.Exc
import KE.KDictList
import PyProof.StrWalks
import PySem.Challenge.RW_manydoors_k14_texts_that_are_none
set_option Elab.async false
set_option linter.all false
set_option maxRecDepth 100000
set_option maxHeartbeats 4000000
namespace MD
open PySem PySem.Spec PyProof.Rows L2
/-! ### what changes: only what stands at M; tuples never; what is tracked stays tracked; tables of code objects only grow -/
def NB : HO → Prop
  | .tbl _ => False
  | _ => True
structure Kp (M : List Addr) (H H' : Hp) : Prop where
  keep : ∀ b o, H b = some o → b ∉ M → NB o → H' b = some o
  tup : ∀ b xs, H b = some (.tup xs) → H' b = some (.tup xs)
  live : ∀ b o, H b = some o → ∃ o', H' b = some o'
  tab : ∀ b, GxR.TabG H b → GxR.TabG H' b
theorem Kp.refl {M : List Addr} {H : Hp} : Kp M H H := ⟨fun _ _ h _ _ => h, fun _ _ h => h, fun _ o h => ⟨o, h⟩, fun _ h => h⟩
theorem Kp.trans {M : List Addr} {H H1 H2 : Hp} (a : Kp M H H1) (b : Kp M H1 H2) : Kp M H H2 :=
  ⟨fun x o h n z => b.keep x o (a.keep x o h n z) n z, fun x xs h => b.tup x xs (a.tup x xs h), fun x o h => let ⟨o', h'⟩ := a.live x o h; b.live x o' h', fun x h => b.tab x (a.tab x h)⟩
theorem Kp.mono {M M' : List Addr} {H H' : Hp} (k : Kp M H H') (h : ∀ a, a ∈ M → a ∈ M') : Kp M' H H' :=
  ⟨fun b o e n => k.keep b o e fun z => n (h b z), k.tup, k.live, k.tab⟩
/-- addresses that were not there may be left out -/
theorem Kp.drop {M M' : List Addr} {H H' : Hp} (k : Kp M H H') (h : ∀ a, a ∈ M → a ∈ M' ∨ H a = none) : Kp M' H H' :=
  ⟨fun b o e n => k.keep b o e fun z => (h b z).elim n fun q => (by rw [q] at e; cases e), k.tup, k.live, k.tab⟩
theorem Kp.free {M : List Addr} {H H' : Hp} (k : Kp M H H') {b : Addr} (h : H' b = none) : H b = none := by
  cases e : H b with
  | none => rfl
  | some o => obtain ⟨o', h'⟩ := k.live b o e; rw [h] at h'; cases h'
theorem tabG_ne {H : Hp} {p b : Addr} {o : HO} (t : GxR.TabG H b) (h : b ≠ p) : GxR.TabG (upd H p o) b := by
  obtain ⟨ps, e, r⟩ := t
  exact ⟨ps, by rw [upd_ne h]; exact e, r⟩
theorem Kp.new {M : List Addr} {H : Hp} {p : Addr} {o : HO} (h : H p = none) : Kp M H (upd H p o) :=
  ⟨fun b u e _ _ => by rw [upd_ne (ne_of_none e h)]; exact e, fun b u e => by rw [upd_ne (ne_of_none e h)]; exact e, fun b u e => ⟨u, by rw [upd_ne (ne_of_none e h)]; exact e⟩, fun b t => tabG_ne t (let ⟨_, e, _⟩ := t; ne_of_none e h)⟩
/-- what may be written over: not a tuple, no table -/
def NT : HO → Prop
  | .tup _ => False
  | .tbl _ => False
  | _ => True
theorem Kp.old {M : List Addr} {H : Hp} {p : Addr} {o u : HO} (h : H p = some u) (nt : NT u) (m : p ∈ M) : Kp M H (upd H p o) := by
  refine ⟨fun b v e n _ => ?_, fun b v e => ?_, fun b v e => ?_, fun b t => ?_⟩
  · rw [upd_ne (fun z : b = p => n (by rw [z]; exact m))]; exact e
  · rw [upd_ne (fun z => by rw [z, h] at e; cases e; exact nt)]; exact e
  · by_cases z : b = p
    · rw [z]; exact ⟨o, upd_same⟩
    · exact ⟨v, by rw [upd_ne z]; exact e⟩
  · refine tabG_ne t fun z => ?_
    obtain ⟨ps, e, _⟩ := t
    rw [z, h] at e; cases e; exact nt
/-- a table grows -/
theorem Kp.grow {M : List Addr} {H : Hp} {p : Addr} {ps more : Array Value} (h : H p = some (.tbl ps)) (t : TriplesOk (ps ++ more).toList) : Kp M H (upd H p (.tbl (ps ++ more))) := by
  refine ⟨fun b v e _ nb => ?_, fun b v e => ?_, fun b v e => ?_, fun b t' => ?_⟩
  · rw [upd_ne (fun z => by rw [z, h] at e; cases e; exact nb)]; exact e
  · rw [upd_ne (fun z => by rw [z, h] at e; cases e)]; exact e
  · by_cases z : b = p
    · rw [z]; exact ⟨_, upd_same⟩
    · exact ⟨v, by rw [upd_ne z]; exact e⟩
  · by_cases z : b = p
    · rw [z]; exact ⟨_, upd_same, t⟩
    · exact tabG_ne t' z
/-- an object that was not there is written -/
theorem Kp.own {M : List Addr} {H H1 : Hp} {p : Addr} {o : HO} (k : Kp M H H1) (h : H p = none) : Kp M H (upd H1 p o) :=
  ⟨fun b u e n z => by rw [upd_ne (ne_of_none e h)]; exact k.keep b u e n z, fun b u e => by rw [upd_ne (ne_of_none e h)]; exact k.tup b u e, fun b u e => by rw [upd_ne (ne_of_none e h)]; exact k.live b u e, fun b t => tabG_ne (k.tab b t) (let ⟨_, e, _⟩ := t; ne_of_none e h)⟩
theorem Kp.wr {M : List Addr} {H H1 : Hp} {p : Addr} {o u : HO} (k : Kp M H H1) (h : H1 p = some u) (nt : NT u) (m : p ∈ M) : Kp M H (upd H1 p o) := k.trans (Kp.old h nt m)
theorem Kp.nw {M : List Addr} {H H1 : Hp} {p : Addr} {o : HO} (k : Kp M H H1) (h : H1 p = none) : Kp M H (upd H1 p o) := k.own (k.free h)
theorem Kp.at {M : List Addr} {H H' : Hp} {b : Addr} {o : HO} (k : Kp M H H') (h : H b = some o) (n : b ∉ M) (nb : NB o := by trivial) : H' b = some o := k.keep b o h n nb
theorem Kp.seq {M : List Addr} {K : PySem.W.Frag} {H H' : Hp} {a : Addr} {xs : List V} (k : Kp M H H') (h : SqL K H a xs) (n : a ∉ M) : SqL K H' a xs := by
  rcases h with (h | ⟨o, h⟩) | h
  · exact .inl (.inl (k.at h n))
  · exact .inl (.inr ⟨o, k.at h n⟩)
  · exact .inr h
theorem Kp.sqt {M : List Addr} {K : PySem.W.Frag} {H H' : Hp} {a : Addr} {xs : List V} (k : Kp M H H') (h : H a = some (.tup xs)) : SqT K H' a xs := .inl (.inl (k.tup _ _ h))
theorem nmem_nil {a : Addr} : a ∉ ([] : List Addr) := fun h => nomatch h
theorem nmem_one {a b : Addr} (h : a ≠ b) : a ∉ [b] := fun z => h (by simpa using z)
theorem nmem_two {a b c : Addr} (h : a ≠ b) (h2 : a ≠ c) : a ∉ [b, c] := fun z => by
  rcases List.mem_cons.mp z with e | e
  · exact h e
  · exact nmem_one h2 e
theorem nmem_cons {a b : Addr} {M : List Addr} (h : a ≠ b) (h2 : a ∉ M) : a ∉ b :: M := fun z => (List.mem_cons.mp z).elim h h2

/-! ### defs, methods, classes of the text; what may be called -/
structure DefAt (K : PySem.W.Frag) (mg : Str → Option Value) (x : Str) (st : Stmt) (ps : List Str) : Prop where
  ex : ∃ (f : Addr) (fd : FuncData), mg x = some (.ref f) ∧ L2.Fun K x x st f fd ∧ Binds K fd ps []
structure MethAt (K : PySem.W.Frag) (C : Addr) (m qual : Str) (st : Stmt) (ps : List Str) : Prop where
  ex : ∃ (f : Addr) (fd : FuncData), Meth K C m f ∧ L2.Fun K m qual st f fd ∧ Binds K fd ps []
structure MakeAt (K : PySem.W.Frag) (mg : Str → Option Value) (C : Addr) (x qual : Str) (st : Stmt) (ps : List Str) : Prop where
  ex : ∃ (f : Addr) (fd : FuncData), Mk K C f ∧ mg x = some (.ref C) ∧ L2.Fun K "__init__" qual st f fd ∧ Binds K fd ps []
structure Cal (P : Program) (w : World) (K : PySem.W.Frag) (mg : Str → Option Value) (base : Heap) (k : Nat) (x : Str) (sp : Sp) : Prop where
  ex : ∃ (f : Addr) (fd : FuncData) (ps : List Str), FnOk P w K mg base L2.CX0 k f fd ps sp ∧ mg x = some (.ref f) ∧ PySem.W.keepIn K (.ref f) = true ∧ Binds K fd ps []
structure Met (P : Program) (w : World) (K : PySem.W.Frag) (mg : Str → Option Value) (base : Heap) (k : Nat) (C : Addr) (m : Str) (sp : Sp) : Prop where
  ex : ∃ (f : Addr) (fd : FuncData) (ps : List Str), Cls K C ∧ Meth K C m f ∧ FnOk P w K mg base L2.CX0 k f fd ps sp ∧ Binds K fd ps []
structure Mak (P : Program) (w : World) (K : PySem.W.Frag) (mg : Str → Option Value) (base : Heap) (k : Nat) (x : Str) (C : Addr) (sp : Sp) : Prop where
  ex : ∃ (f : Addr) (fd : FuncData) (ps : List Str), Mk K C f ∧ FnOk P w K mg base L2.CX0 k f fd ps sp ∧ mg x = some (.ref C) ∧ Binds K fd ps []
section
variable {P : Program} {w : World} {K : PySem.W.Frag} {mg : Str → Option Value} {base : Heap}
theorem cal_of {x : Str} {st : Stmt} {N ps : List Str} {k : Nat} {sp : Sp} (D : DefAt K mg x st ps) (S : FnScope N ps (defScope st)) (len : ∀ vs H Q E, sp vs H Q E → vs.length = ps.length)
    (hbody : ∀ (f : Addr) (cdv : Value) (A : Around) (outer : List Env) (s : Shared) (H : Hp) (vs : List V) (Q : VK) (E : XK), Room k (A.deeper (envOfC x (defScope st) s.heap.objs.size f cdv)) → sp vs H Q E →
      ∃ t, PSs (cxOf L2.CX0 P w K mg base N x (defScope st) f cdv A outer s H E).nox (defBody st) t ∧ t { nx := fun _ H' => Q .non H', rt := Q } (start N vs) H) : Cal P w K mg base (k + 1) x sp := by
  obtain ⟨f, fd, hm, F, b⟩ := D.ex
  exact ⟨f, fd, ps, F.ok S len (hbody f), hm, F.kp, b⟩
theorem met_of {C : Addr} {m qual : Str} {st : Stmt} {N ps : List Str} {k : Nat} {sp : Sp} (c : Cls K C) (D : MethAt K C m qual st ps) (S : FnScope N ps (defScope st)) (len : ∀ vs H Q E, sp vs H Q E → vs.length = ps.length)
    (hbody : ∀ (f : Addr) (cdv : Value) (A : Around) (outer : List Env) (s : Shared) (H : Hp) (vs : List V) (Q : VK) (E : XK), Room k (A.deeper (envOfC qual (defScope st) s.heap.objs.size f cdv)) → sp vs H Q E →
      ∃ t, PSs (cxOf L2.CX0 P w K mg base N qual (defScope st) f cdv A outer s H E).nox (defBody st) t ∧ t { nx := fun _ H' => Q .non H', rt := Q } (start N vs) H) : Met P w K mg base (k + 1) C m sp := by
  obtain ⟨f, fd, hm, F, b⟩ := D.ex
  exact ⟨f, fd, ps, c, hm, F.ok S len (hbody f), b⟩
theorem mak_of {C : Addr} {x qual : Str} {st : Stmt} {N ps : List Str} {k : Nat} {sp : Sp} (D : MakeAt K mg C x qual st ps) (S : FnScope N ps (defScope st)) (len : ∀ vs H Q E, sp vs H Q E → vs.length = ps.length)
    (hbody : ∀ (f : Addr) (cdv : Value) (A : Around) (outer : List Env) (s : Shared) (H : Hp) (vs : List V) (Q : VK) (E : XK), Room k (A.deeper (envOfC qual (defScope st) s.heap.objs.size f cdv)) → sp vs H Q E →
      ∃ t, PSs (cxOf L2.CX0 P w K mg base N qual (defScope st) f cdv A outer s H E).nox (defBody st) t ∧ t { nx := fun _ H' => Q .non H', rt := Q } (start N vs) H) : Mak P w K mg base (k + 1) x C sp := by
  obtain ⟨f, fd, hm, mgx, F, b⟩ := D.ex
  exact ⟨f, fd, ps, hm, F.ok S len (hbody f), mgx, b⟩
theorem Cal.imp {x : Str} {k : Nat} {sp sp' : Sp} (c : Cal P w K mg base k x sp) (h : ∀ vs H Q E, sp' vs H Q E → sp vs H Q E) : Cal P w K mg base k x sp' := by
  obtain ⟨f, fd, ps, F, a, b, d⟩ := c.ex
  exact ⟨f, fd, ps, F.imp h, a, b, d⟩
theorem Cal.mono {x : Str} {k j : Nat} {sp : Sp} (c : Cal P w K mg base k x sp) (h : k ≤ j) : Cal P w K mg base j x sp := by
  obtain ⟨f, fd, ps, F, a, b, d⟩ := c.ex
  exact ⟨f, fd, ps, F.mono h, a, b, d⟩
end
section
variable {X : Cx} {k j : Nat} {C : Addr} {x m : Str} {sp : Sp} {p pos apos : Pos} {e o : Expr} {es : List Expr} {ta : TE} {t : TA} {E : XK}
/-- nothing is wanted of an exception: none comes -/
theorem passE : Passes L2.CX0 X E := fun _ _ _ _ _ _ _ h => h.elim
theorem pe_c (c : Cal X.prog X.w X.K X.mg X.base k x sp) (hr : Room k X.A) (hg : Gl X x) (ha : PA X (e :: es) t)
    (hdb : (x == ("__debug__" : Str)) = false := by decide) (he : starEach (e :: es) X.env = (false, eval e X.env) :: starEach es X.env := by rfl) (hpl : (backTo pos (starEach es X.env)).any (·.1) = false := by rfl) :
    PE X (.Call (.Name x p) (e :: es) [] pos) (tCall sp [] L2.E0 t) := by
  obtain ⟨f, fd, ps, F, hm, kp, b⟩ := c.ex
  exact pe_call F hr hg hm kp b .nil pass0 ha hdb he hpl
theorem pe_mt {pl : Sem Bool} (c : Met X.prog X.w X.K X.mg X.base k C m sp) (hr : Room k X.A) (he : PE X o ta) (ha : PA X (e :: es) t)
    (hst : starEach (e :: es) X.env = (false, eval e X.env) :: starEach es X.env := by rfl) (hpl : (backTo pos (starEach es X.env)).any (·.1) = false := by rfl)
    (ht : eval (.Call (.Attribute o m apos) (e :: es) [] pos) X.env = (do
      let ov ← eval o X.env
      standAt apos.atName
      let (f, first) ← holding [ov] (getMethod ov m pl)
      callWith pos f first (backTo pos (starEach (e :: es) X.env)) (backToKw pos (keywordEach [] X.env))) := by rfl) :
    PE X (.Call (.Attribute o m apos) (e :: es) [] pos) (tMeth C m sp [] L2.E0 ta t) := by
  obtain ⟨f, fd, ps, hc, hm, F, b⟩ := c.ex
  exact pe_meth (pl := pl) he hc hm F hr b .nil pass0 ha hst hpl ht
theorem pe_mt0 {pl : Sem Bool} (c : Met X.prog X.w X.K X.mg X.base k C m sp) (hr : Room k X.A) (he : PE X o ta)
    (ht : eval (.Call (.Attribute o m apos) [] [] pos) X.env = (do
      let ov ← eval o X.env
      standAt apos.atName
      let (f, first) ← holding [ov] (getMethod ov m pl)
      callWith pos f first (backTo pos (starEach [] X.env)) (backToKw pos (keywordEach [] X.env))) := by rfl) :
    PE X (.Call (.Attribute o m apos) [] [] pos) (tMeth C m sp [] L2.E0 ta tNil) := by
  obtain ⟨f, fd, ps, hc, hm, F, b⟩ := c.ex
  exact pe_meth0 (pl := pl) he hc hm F hr b .nil pass0 ht
theorem pe_mk (c : Mak X.prog X.w X.K X.mg X.base k x C sp) (hr : Room (k + 1) X.A) (hg : Gl X x) (ha : PA X (e :: es) t)
    (hdb : (x == ("__debug__" : Str)) = false := by decide) (he : starEach (e :: es) X.env = (false, eval e X.env) :: starEach es X.env := by rfl) (hpl : (backTo pos (starEach es X.env)).any (·.1) = false := by rfl) :
    PE X (.Call (.Name x p) (e :: es) [] pos) (tMake C sp [] L2.E0 t) := by
  obtain ⟨f, fd, ps, M, F, hm, b⟩ := c.ex
  exact pe_make M F hr hg hm b .nil pass0 ha hdb he hpl
theorem pe_mk0 (c : Mak X.prog X.w X.K X.mg X.base k x C sp) (hr : Room (k + 1) X.A) (hg : Gl X x)
    (hdb : (x == ("__debug__" : Str)) = false := by decide) :
    PE X (.Call (.Name x p) [] [] pos) (tMake C sp [] L2.E0 tNil) := by
  obtain ⟨f, fd, ps, M, F, hm, b⟩ := c.ex
  exact pe_make0 M F hr hg hm b .nil pass0 hdb
end
/-! ### data: scalars, and lists and tuples of data -/
inductive D where
  | v (x : V)
  | sq (l : Bool) (xs : List D)
/-- a list (l) or a tuple of these values is read at a -/
def SqB (K : PySem.W.Frag) (H : Hp) (l : Bool) (a : Addr) (xs : List V) : Prop := if l = true then SqL K H a xs else SqT K H a xs
def scl : V → Prop
  | .non => True
  | .bl _ => True
  | .int _ => True
  | .str _ => True
  | _ => False
mutual
def Rep (K : PySem.W.Frag) (H : Hp) : D → V → Prop
  | .v y, x => x = y ∧ scl y
  | .sq l ds, x => ∃ a vs, x = .ref a ∧ SqB K H l a vs ∧ Reps K H ds vs
def Reps (K : PySem.W.Frag) (H : Hp) : List D → List V → Prop
  | [], vs => vs = []
  | d :: ds, vs => ∃ v r, vs = v :: r ∧ Rep K H d v ∧ Reps K H ds r
end
mutual
def D.depth : D → Nat
  | .v _ => 0
  | .sq _ ds => Ds.depth ds + 1
def Ds.depth : List D → Nat
  | [] => 0
  | d :: ds => max d.depth (Ds.depth ds)
end
theorem Reps.len {K : PySem.W.Frag} {H : Hp} : ∀ {ds : List D} {vs : List V}, Reps K H ds vs → vs.length = ds.length
  | [], vs, h => by unfold Reps at h; subst h; rfl
  | d :: ds, vs, h => by
    unfold Reps at h
    obtain ⟨v, r, rfl, _, h2⟩ := h
    simp [Reps.len h2]
theorem Reps.get {K : PySem.W.Frag} {H : Hp} : ∀ {ds : List D} {vs : List V} {i : Nat} {d : D}, Reps K H ds vs → ds[i]? = some d → ∃ v, vs[i]? = some v ∧ Rep K H d v
  | [], _, i, _, _, e => by simp at e
  | d :: ds, vs, 0, d', h, e => by
    unfold Reps at h
    obtain ⟨v, r, rfl, h1, _⟩ := h
    simp at e; subst e
    exact ⟨v, rfl, h1⟩
  | d :: ds, vs, i + 1, d', h, e => by
    unfold Reps at h
    obtain ⟨v, r, rfl, _, h2⟩ := h
    obtain ⟨u, e1, e2⟩ := Reps.get h2 (by simpa using e)
    exact ⟨u, by simpa using e1, e2⟩
theorem Ds.depth_mem : ∀ {ds : List D} {i : Nat} {d : D}, ds[i]? = some d → d.depth ≤ Ds.depth ds
  | [], i, _, e => by simp at e
  | d :: ds, 0, d', e => by simp at e; subst e; unfold Ds.depth; omega
  | d :: ds, i + 1, d', e => by
    have := Ds.depth_mem (ds := ds) (i := i) (d := d') (by simpa using e)
    unfold Ds.depth; omega
theorem Rep.int {K : PySem.W.Frag} {H : Hp} {i : Int} : Rep K H (.v (.int i)) (.int i) := by unfold Rep; exact ⟨rfl, trivial⟩
theorem Rep.bl {K : PySem.W.Frag} {H : Hp} {i : Bool} : Rep K H (.v (.bl i)) (.bl i) := by unfold Rep; exact ⟨rfl, trivial⟩
theorem Rep.str {K : PySem.W.Frag} {H : Hp} {i : Str} : Rep K H (.v (.str i)) (.str i) := by unfold Rep; exact ⟨rfl, trivial⟩
theorem Rep.non {K : PySem.W.Frag} {H : Hp} : Rep K H (.v .non) .non := by unfold Rep; exact ⟨rfl, trivial⟩
theorem Reps.nil {K : PySem.W.Frag} {H : Hp} : Reps K H [] [] := by unfold Reps; rfl
theorem Reps.cons {K : PySem.W.Frag} {H : Hp} {d : D} {ds : List D} {v : V} {vs : List V} (h : Rep K H d v) (r : Reps K H ds vs) : Reps K H (d :: ds) (v :: vs) := by unfold Reps; exact ⟨v, vs, rfl, h, r⟩
theorem Rep.lst {K : PySem.W.Frag} {H : Hp} {a : Addr} {vs : List V} {ds : List D} (h : SqL K H a vs) (r : Reps K H ds vs) : Rep K H (.sq true ds) (.ref a) := by unfold Rep; exact ⟨a, vs, rfl, by unfold SqB; rw [if_pos rfl]; exact h, r⟩
theorem Rep.tup {K : PySem.W.Frag} {H : Hp} {a : Addr} {vs : List V} {ds : List D} (h : SqT K H a vs) (r : Reps K H ds vs) : Rep K H (.sq false ds) (.ref a) := by unfold Rep; exact ⟨a, vs, rfl, by unfold SqB; rw [if_neg Bool.false_ne_true]; exact h, r⟩
mutual
/-- data of tuples alone -/
def D.imm : D → Prop
  | .v _ => True
  | .sq l ds => l = false ∧ Ds.imm ds
def Ds.imm : List D → Prop
  | [] => True
  | d :: ds => d.imm ∧ Ds.imm ds
end
mutual
/-- .. that this law has made: tracked tuples -/
def RepT (H : Hp) : D → V → Prop
  | .v y, x => x = y ∧ scl y
  | .sq l ds, x => l = false ∧ ∃ a vs, x = .ref a ∧ H a = some (.tup vs) ∧ RepTs H ds vs
def RepTs (H : Hp) : List D → List V → Prop
  | [], vs => vs = []
  | d :: ds, vs => ∃ v r, vs = v :: r ∧ RepT H d v ∧ RepTs H ds r
end
mutual
theorem RepT.kp {M : List Addr} {H H' : Hp} (k : Kp M H H') : ∀ {d : D} {x : V}, RepT H d x → RepT H' d x
  | .v y, x, h => by unfold RepT at h ⊢; exact h
  | .sq l ds, x, h => by
    unfold RepT at h ⊢
    obtain ⟨e, a, vs, e1, e2, r⟩ := h
    exact ⟨e, a, vs, e1, k.tup _ _ e2, RepTs.kp k r⟩
theorem RepTs.kp {M : List Addr} {H H' : Hp} (k : Kp M H H') : ∀ {ds : List D} {vs : List V}, RepTs H ds vs → RepTs H' ds vs
  | [], vs, h => by unfold RepTs at h ⊢; exact h
  | d :: ds, vs, h => by
    unfold RepTs at h ⊢
    obtain ⟨v, r, e, h1, h2⟩ := h
    exact ⟨v, r, e, RepT.kp k h1, RepTs.kp k h2⟩
end
mutual
theorem RepT.rep {K : PySem.W.Frag} {H : Hp} : ∀ {d : D} {x : V}, RepT H d x → Rep K H d x
  | .v y, x, h => by unfold RepT at h; unfold Rep; exact h
  | .sq l ds, x, h => by
    unfold RepT at h
    obtain ⟨rfl, a, vs, rfl, e2, r⟩ := h
    exact Rep.tup (SqT.of e2) (RepTs.reps r)
theorem RepTs.reps {K : PySem.W.Frag} {H : Hp} : ∀ {ds : List D} {vs : List V}, RepTs H ds vs → Reps K H ds vs
  | [], vs, h => by unfold RepTs at h; unfold Reps; exact h
  | d :: ds, vs, h => by
    unfold RepTs at h
    obtain ⟨v, r, rfl, h1, h2⟩ := h
    exact Reps.cons (RepT.rep h1) (RepTs.reps h2)
end
theorem RepTs.len {H : Hp} : ∀ {ds : List D} {vs : List V}, RepTs H ds vs → vs.length = ds.length
  | [], vs, h => by unfold RepTs at h; subst h; rfl
  | d :: ds, vs, h => by
    unfold RepTs at h
    obtain ⟨v, r, rfl, _, h2⟩ := h
    simp [RepTs.len h2]
theorem RepT.int {H : Hp} {i : Int} : RepT H (.v (.int i)) (.int i) := by unfold RepT; exact ⟨rfl, trivial⟩
theorem RepT.bl {H : Hp} {i : Bool} : RepT H (.v (.bl i)) (.bl i) := by unfold RepT; exact ⟨rfl, trivial⟩
theorem RepT.str {H : Hp} {i : Str} : RepT H (.v (.str i)) (.str i) := by unfold RepT; exact ⟨rfl, trivial⟩
theorem RepT.non {H : Hp} : RepT H (.v .non) .non := by unfold RepT; exact ⟨rfl, trivial⟩
theorem RepTs.nil {H : Hp} : RepTs H [] [] := by unfold RepTs; rfl
theorem RepTs.cons {H : Hp} {d : D} {ds : List D} {v : V} {vs : List V} (h : RepT H d v) (r : RepTs H ds vs) : RepTs H (d :: ds) (v :: vs) := by unfold RepTs; exact ⟨v, vs, rfl, h, r⟩
theorem RepT.tup {H : Hp} {a : Addr} {vs : List V} {ds : List D} (h : H a = some (.tup vs)) (r : RepTs H ds vs) : RepT H (.sq false ds) (.ref a) := by unfold RepT; exact ⟨rfl, a, vs, rfl, h, r⟩
theorem RepTs.snoc {H : Hp} {d : D} {v : V} (h : RepT H d v) : ∀ {ds : List D} {vs : List V}, RepTs H ds vs → RepTs H (ds ++ [d]) (vs ++ [v])
  | [], vs, q => by unfold RepTs at q; subst q; exact RepTs.cons h RepTs.nil
  | e :: ds, vs, q => by
    unfold RepTs at q
    obtain ⟨u, r, rfl, h1, h2⟩ := q
    exact RepTs.cons h1 (RepTs.snoc h h2)
theorem RepTs.get {H : Hp} : ∀ {ds : List D} {vs : List V} {i : Nat} {v : V}, RepTs H ds vs → vs[i]? = some v → ∃ d, ds[i]? = some d ∧ RepT H d v
  | [], _, i, _, h, e => by unfold RepTs at h; subst h; simp at e
  | d :: ds, vs, 0, v', h, e => by
    unfold RepTs at h
    obtain ⟨v, r, rfl, h1, _⟩ := h
    simp at e; subst e
    exact ⟨d, rfl, h1⟩
  | d :: ds, vs, i + 1, v', h, e => by
    unfold RepTs at h
    obtain ⟨v, r, rfl, _, h2⟩ := h
    obtain ⟨u, e1, e2⟩ := RepTs.get h2 (by simpa using e)
    exact ⟨u, by simpa using e1, e2⟩
/-! ### lists of ints -/
theorem int_item {ns : List Int} {i : Nat} {y : V} (h : (ns.map V.int)[i]? = some y) : ∃ z, y = V.int z ∧ ns[i]? = some z := by
  rw [List.getElem?_map] at h
  cases e : ns[i]? with
  | none => rw [e] at h; cases h
  | some z => rw [e] at h; exact ⟨z, (Option.some.inj h).symm, rfl⟩
theorem int_snoc (ms : List Int) (v : Int) : ms.map V.int ++ [V.int v] = (ms ++ [v]).map V.int := by rw [List.map_append]; rfl
theorem at_of {α : Type} {xs : List α} {i : Int} {v : α} (h0 : 0 ≤ i) (h : xs[i.toNat]? = some v) : atI xs i = some v := by
  have q := atI_nat h
  rw [Int.toNat_of_nonneg h0] at q
  exact q
theorem int_at {ns : List Int} {i : Int} {z : Int} (h0 : 0 ≤ i) (h : ns[i.toNat]? = some z) : atI (ns.map V.int) i = some (V.int z) :=
  at_of h0 (by rw [List.getElem?_map, h]; rfl)
def Rg (ns : List Int) : Prop := ∀ x ∈ ns, 0 ≤ x ∧ x < 1000000
theorem Rg.nil : Rg [] := fun _ h => nomatch h
theorem Rg.snoc {ns : List Int} {v : Int} (h : Rg ns) (h0 : 0 ≤ v) (h1 : v < 1000000) : Rg (ns ++ [v]) := fun x hx => by
  rcases List.mem_append.mp hx with z | z
  · exact h x z
  · rw [List.mem_singleton.mp z]; exact ⟨h0, h1⟩
theorem sz {n m : Nat} (h : n ≤ m) (hm : m < 100000 := by omega) : n < sizeLine := Nat.lt_of_le_of_lt h (Nat.lt_of_lt_of_le hm (by decide))
theorem szl {n m : Nat} (h : n ≤ m) (hm : m < 100000 := by omega) : n ≤ sizeLine := Nat.le_of_lt (sz h hm)
/-! ### deep equality: what the data may be -/
def D.ok : Nat → D → Prop
  | _, .v _ => True
  | 0, .sq _ _ => False
  | n + 1, .sq _ ds => ds.length ≤ 100000 ∧ ∀ d ∈ ds, D.ok n d
theorem ty_sq {K : PySem.W.Frag} {H : Hp} {l : Bool} {a : Addr} {vs : List V} (h : SqB K H l a vs) : TyX K H (.ref a) (.type (if l = true then "list" else "tuple")) := by
  cases l with
  | true =>
    have h : SqL K H a vs := h
    rcases h with (h | ⟨o, h⟩) | ⟨o, its, n, hk, hc, _⟩
    · exact .base (.lst h)
    · exact .base (.frz h)
    · exact .kList hk hc
  | false =>
    have h : SqT K H a vs := h
    rcases h with (h | ⟨o, h⟩) | ⟨o, its, n, hk, hc, _⟩
    · exact .base (.tup h)
    · exact .fTuple h
    · exact .kTuple hk hc
theorem SqB.any {K : PySem.W.Frag} {H : Hp} {l : Bool} {a : Addr} {vs : List V} (h : SqB K H l a vs) : SqL K H a vs ∨ SqT K H a vs := by
  cases l with
  | true => exact .inl h
  | false => exact .inr h
theorem SqB.ix {K : PySem.W.Frag} {H : Hp} {l : Bool} {a : Addr} {vs : List V} {i : Int} {v : V} {Q : VK} (h : SqB K H l a vs) (e : atI vs i = some v) (q : Q v H) : rIx K (.ref a) (.int i) H Q := by
  cases l with
  | true => exact .inl ⟨a, vs, i, v, rfl, rfl, h, e, q⟩
  | false => exact .inr (.inl ⟨a, vs, i, v, rfl, rfl, h, e, q⟩)
/-- the type of a scalar, by name -/
def tyS : V → String
  | .non => "NoneType"
  | .bl _ => "bool"
  | .int _ => "int"
  | .str _ => "str"
  | _ => ""
theorem ty_scl {K : PySem.W.Frag} {H : Hp} {v : V} (h : scl v) : TyX K H v (.type (tyS v)) := by
  cases v with
  | non => exact .base .non
  | bl b => exact .base (.bl b)
  | int i => exact .base (.int i)
  | str x => exact .base (.str x)
  | _ => cases h
theorem r_isi {K : PySem.W.Frag} {H : Hp} {x : V} {t c : String} {b : Bool} {Q : VK} (ty : TyX K H x (.type t)) (k : kitB t c = some b) (q : Q (.bl b) H) : rIsi K [x, .ty c] H Q :=
  ⟨x, .ty c, _, _, b, rfl, .ty c, ty, kit_ty k, q⟩
/-! ### rules with the written part by name (within comprehensions the context is another one) -/
section
variable {X : Cx} {K : PySem.W.Frag}
def rLenK (K : PySem.W.Frag) : List V → Hp → VK → Prop := fun xs H Q => ∃ p ys, xs = [.ref p] ∧ (SqL K H p ys ∨ SqT K H p ys) ∧ Q (.int ys.length) H
def rListK (K : PySem.W.Frag) : List V → Hp → VK → Prop := fun xs H Q => ∃ p ys, xs = [.ref p] ∧ (SqL K H p ys ∨ SqT K H p ys) ∧ ∀ l, H l = none → Q (.ref l) (upd H l (.lst ys))
def rTupleK (K : PySem.W.Frag) : List V → Hp → VK → Prop := fun xs H Q => ∃ p ys, xs = [.ref p] ∧ ((SqL K H p ys ∧ ∀ l, H l = none → Q (.ref l) (upd H l (.tup ys))) ∨ (SqT K H p ys ∧ Q (.ref p) H))
theorem ixL (h : X.K = K := by rfl) : IxR X (rIxL K) := by subst h; exact ix_list
theorem ixT (h : X.K = K := by rfl) : IxR X (rIxT K) := by subst h; exact ix_tup
theorem ixS (h : X.K = K := by rfl) : IxR X (rIx K) := by subst h; exact ix_seq
theorem slL (h : X.K = K := by rfl) : SlR X (rSlL K) := by subst h; exact sl_list
theorem slT (h : X.K = K := by rfl) : SlR X (rSlT K) := by subst h; exact sl_tup
theorem lenK (h : X.K = K := by rfl) : CallR X (.builtin "len") (rLenK K) := by subst h; exact call_len_seq
theorem listK (h : X.K = K := by rfl) : CallR X (.type "list") (rListK K) := by subst h; exact call_list_of
theorem tupleK (h : X.K = K := by rfl) : CallR X (.type "tuple") (rTupleK K) := by subst h; exact call_tuple_of
theorem isiK (h : X.K = K := by rfl) : CallR X (.builtin "isinstance") (rIsi K) := by subst h; exact call_isi
theorem inK (h : X.K = K := by rfl) : OpR X (compareOp .In) (rIn K false) := by subst h; exact op_in_seq
theorem niK (h : X.K = K := by rfl) : OpR X (compareOp .NotIn) (rIn K true) := by subst h; exact op_notIn_seq
theorem fldK {e : Expr} {f : Str} {pos : Pos} {ta : TE} (he : PE X e ta) (hb : attributeBase e f X.env (eval e X.env) = eval e X.env) (h : X.K = K := by rfl) : PE X (.Attribute e f pos) (tFld K ta f) := by subst h; exact pe_fld he hb
end
theorem Kp.wrI {M : List Addr} {H H1 : Hp} {p C dx : Addr} {fs : List (Str × V)} {o : HO} (k : Kp M H H1) (h : H1 p = some (.ins C dx fs)) (m : p ∈ M) : Kp M H (upd H1 p o) := k.wr h trivial m
theorem Kp.wrL {M : List Addr} {H H1 : Hp} {p : Addr} {xs : List V} {o : HO} (k : Kp M H H1) (h : H1 p = some (.lst xs)) (m : p ∈ M) : Kp M H (upd H1 p o) := k.wr h trivial m
theorem Kp.wrT {M : List Addr} {H H1 : Hp} {p : Addr} {kvs : List (List Key × V)} {o : HO} (k : Kp M H H1) (h : H1 p = some (.dT kvs)) (m : p ∈ M) : Kp M H (upd H1 p o) := k.wr h trivial m
end MD

namespace MD
open PySem PySem.Spec PyProof.Rows L2
/-! ### rules whose readings tell the heap behind a change by what is kept (Kp), not as a term -/
def mE (t : TE) : TE := fun σ H Q => ∃ R : VK, t σ H R ∧ ∀ x H1, R x H1 → Q x H1
def mA (t : TA) : TA := fun σ H Q => ∃ R : List V → Hp → Prop, t σ H R ∧ ∀ x H1, R x H1 → Q x H1
section
variable {X : Cx} {e : Expr} {es : List Expr} {st : Stmt} {pos : Pos}
theorem peM {t : TE} (h : PE X e t) : PE X e (mE t) := ⟨fun pins s σ H Q I ⟨R, h1, h2⟩ => thn (h.run pins s σ H R I h1) fun _ _ ⟨v, H', J, r, q⟩ => ⟨v, H', J, r, h2 _ _ q⟩⟩
theorem paM {t : TA} (h : PA X es t) : PA X es (mA t) := ⟨fun pos pins s σ H Q I ⟨R, h1, h2⟩ => thn (h.run pos pins s σ H R I h1) fun _ _ ⟨v, H', J, r, q⟩ => ⟨v, H', J, r, h2 _ _ q⟩⟩
theorem peI {t t' : TE} (h : PE X e t) (i : ∀ σ H Q, t' σ H Q → t σ H Q) : PE X e t' := ⟨fun pins s σ H Q I q => h.run pins s σ H Q I (i _ _ _ q)⟩
theorem ptI {t t' : TT} (h : PT X e t) (i : ∀ σ H Q, t' σ H Q → t σ H Q) : PT X e t' := ⟨fun pins s σ H Q I q => h.run pins s σ H Q I (i _ _ _ q)⟩
theorem psI {t t' : TS} (h : PS X st t) (i : ∀ D σ H, t' D σ H → t D σ H) : PS X st t' := ⟨fun pins s σ H D I q => h.run pins s σ H D I (i _ _ _ q)⟩
theorem callI {f : Value} {r r' : List V → Hp → VK → Prop} (h : CallR X f r) (i : ∀ xs H Q, r' xs H Q → r xs H Q) : CallR X f r' := fun pins s σ H xs us Q I v q => h pins s σ H xs us Q I v (i _ _ _ q)
theorem mtI {f : String} {r r' : V → List V → Hp → VK → Prop} (h : MtR X f r) (i : ∀ x xs H Q, r' x xs H Q → r x xs H Q) : MtR X f r' := fun pins s σ H x xs v us Q I a b q => h pins s σ H x xs v us Q I a b (i _ _ _ _ q)
theorem oprI {f : Value → Value → Sem Value} {r r' : R2} (h : OpR X f r) (i : ∀ x y H Q, r' x y H Q → r x y H Q) : OpR X f r' := fun pins s σ H x y v u Q I a b q => h pins s σ H x y v u Q I a b (i _ _ _ _ q)
theorem slrI {r r' : V → Option Int → Option Int → Hp → VK → Prop} (h : SlR X r) (i : ∀ x lo hi H Q, r' x lo hi H Q → r x lo hi H Q) : SlR X r' := fun pins s σ H x v vl vu lo hi sl Q I a b c d q => h pins s σ H x v vl vu lo hi sl Q I a b c d (i _ _ _ _ _ q)
theorem psetI {t t' : TSet} (h : PSet X t) (i : ∀ o i v H Q, t' o i v H Q → t o i v H Q) : PSet X t' := fun pins s σ H o j v ov iv u Q I a b c q => h pins s σ H o j v ov iv u Q I a b c (i _ _ _ _ _ q)

/-- a new object u, told by what is kept -/
def New (H : Hp) (u : HO) (Q : VK) : Prop := ∀ p H2, H p = none → Kp [] H H2 → H2 p = some u → Q (.ref p) H2
theorem New.old {H : Hp} {u : HO} {Q : VK} (h : New H u Q) : ∀ p, H p = none → Q (.ref p) (upd H p u) := fun p hp => h p _ hp (Kp.new hp) upd_same
/-- the object at p is now u -/
def Wr (H : Hp) (p : Addr) (u : HO) (Q : Hp → Prop) : Prop := ∀ H2, Kp [p] H H2 → H2 p = some u → Q H2
theorem Wr.old {H : Hp} {p : Addr} {u o : HO} {Q : Hp → Prop} (h : Wr H p u Q) (e : H p = some o) (nt : NT o) : Q (upd H p u) := h _ (Kp.old e nt List.mem_cons_self) upd_same

def kTup (t : TA) : TE := fun σ H Q => t σ H fun xs H1 => xs.length ≤ sizeLine ∧ New H1 (.tup xs) Q
def kLst (t : TA) : TE := fun σ H Q => t σ H fun xs H1 => xs.length ≤ sizeLine ∧ New H1 (.lst xs) Q
theorem ke_tup {x1} {t : TA} (h : PA X es t) : PE X (.Tuple es x1 pos) (kTup t) := peI (pe_tup (paM h)) fun σ H Q q => ⟨_, q, fun xs H1 r => ⟨r.1, r.2.old⟩⟩
theorem ke_lst {t : TA} (h : PA X es t) : PE X (.List es pos) (kLst t) := peI (pe_lst (paM h)) fun σ H Q q => ⟨_, q, fun xs H1 r => ⟨r.1, r.2.old⟩⟩
def kList (K : PySem.W.Frag) : List V → Hp → VK → Prop := fun xs H Q => ∃ p ys, xs = [.ref p] ∧ (SqL K H p ys ∨ SqT K H p ys) ∧ New H (.lst ys) Q
theorem klistK {K : PySem.W.Frag} (h : X.K = K := by rfl) : CallR X (.type "list") (kList K) := callI (listK h) fun xs H Q ⟨p, ys, a, b, c⟩ => ⟨p, ys, a, b, c.old⟩
def kTuple (K : PySem.W.Frag) : List V → Hp → VK → Prop := fun xs H Q => ∃ p ys, xs = [.ref p] ∧ ((SqL K H p ys ∧ New H (.tup ys) Q) ∨ (SqT K H p ys ∧ Q (.ref p) H))
theorem ktupleK {K : PySem.W.Frag} (h : X.K = K := by rfl) : CallR X (.type "tuple") (kTuple K) := callI (tupleK h) fun xs H Q ⟨p, ys, a, b⟩ => ⟨p, ys, a, b.elim (fun z => .inl ⟨z.1, z.2.old⟩) .inr⟩
def kSlL (K : PySem.W.Frag) : V → Option Int → Option Int → Hp → VK → Prop := fun x lo hi H Q => ∃ a xs, x = .ref a ∧ SqL K H a xs ∧ New H (.lst (cutV xs lo hi)) Q
theorem kslL {K : PySem.W.Frag} (h : X.K = K := by rfl) : SlR X (kSlL K) := slrI (slL h) fun x lo hi H Q ⟨a, xs, e, b, c⟩ => ⟨a, xs, e, b, c.old⟩
def kSlT (K : PySem.W.Frag) : V → Option Int → Option Int → Hp → VK → Prop := fun x lo hi H Q => ∃ a xs, x = .ref a ∧ SqT K H a xs ∧
  ¬ (HT.sIx xs.length 0 lo = 0 ∧ HT.sIx xs.length xs.length hi = xs.length) ∧ New H (.tup (cutV xs lo hi)) Q
theorem kslT {K : PySem.W.Frag} (h : X.K = K := by rfl) : SlR X (kSlT K) := slrI (slT h) fun x lo hi H Q ⟨a, xs, e, b, n, c⟩ => ⟨a, xs, e, b, n, c.old⟩
def kCat : R2 := fun x y H Q => ∃ l b xs zs, x = .ref l ∧ y = .ref b ∧ H l = some (.lst xs) ∧ H b = some (.lst zs) ∧ xs.length + zs.length ≤ sizeLine ∧ New H (.lst (xs ++ zs)) Q
theorem kcat : OpR X (binaryOp .Add) kCat := oprI op_cat fun x y H Q ⟨l, b, xs, zs, h1, h2, h3, h4, h5, q⟩ => ⟨l, b, xs, zs, h1, h2, h3, h4, h5, q.old⟩
def kRep : R2 := fun x y H Q => ∃ l k xs, x = .ref l ∧ y = .int k ∧ H l = some (.lst xs) ∧ -(2 ^ 63) ≤ k ∧ k < 2 ^ 63 ∧ xs.length * k.toNat ≤ sizeLine ∧ New H (.lst (List.replicate k.toNat xs).flatten) Q
theorem krep : OpR X (binaryOp .Mult) kRep := oprI op_rep fun x y H Q ⟨l, k, xs, h1, h2, h3, h4, h5, h6, q⟩ => ⟨l, k, xs, h1, h2, h3, h4, h5, h6, q.old⟩
def kCatT (K : PySem.W.Frag) : R2 := fun x y H Q => ∃ a b xs ys, x = .ref a ∧ y = .ref b ∧ SqT K H a xs ∧ SqT K H b ys ∧ xs ≠ [] ∧ xs.length + ys.length ≤ sizeLine ∧
  (ys = [] → Q (.ref a) H) ∧ (ys ≠ [] → New H (.tup (xs ++ ys)) Q)
theorem kcatT {K : PySem.W.Frag} (h : X.K = K := by rfl) : OpR X (binaryOp .Add) (kCatT K) := by
  subst h
  exact oprI op_catT fun x y H Q ⟨a, b, xs, ys, h1, h2, h3, h4, h5, h6, h7, q⟩ => ⟨a, b, xs, ys, h1, h2, h3, h4, h5, h6, h7, fun z => (q z).old⟩
def kAppend : V → List V → Hp → VK → Prop := fun x vs H Q => ∃ l xs y, x = .ref l ∧ vs = [y] ∧ H l = some (.lst xs) ∧ xs.length < sizeLine ∧ Wr H l (.lst (xs ++ [y])) (Q .non)
theorem mk_append : MtR X "list.append" kAppend := mtI mt_append fun x xs H Q ⟨l, ys, y, h1, h2, h3, h4, q⟩ => ⟨l, ys, y, h1, h2, h3, h4, q.old h3 trivial⟩
def kExtend : V → List V → Hp → VK → Prop := fun x vs H Q => ∃ l b xs zs, x = .ref l ∧ vs = [.ref b] ∧ H l = some (.lst xs) ∧ H b = some (.lst zs) ∧ xs.length + zs.length ≤ sizeLine ∧ Wr H l (.lst (xs ++ zs)) (Q .non)
theorem mk_extend : MtR X "list.extend" kExtend := mtI mt_extend fun x xs H Q ⟨l, b, ys, y, h1, h2, h3, h4, h5, q⟩ => ⟨l, b, ys, y, h1, h2, h3, h4, h5, q.old h3 trivial⟩
def kPop : V → List V → Hp → VK → Prop := fun x vs H Q => ∃ l xs y, x = .ref l ∧ vs = [] ∧ H l = some (.lst xs) ∧ xs[xs.length - 1]? = some y ∧ Wr H l (.lst xs.dropLast) (Q y)
theorem mk_pop : MtR X "list.pop" kPop := mtI mt_pop fun x xs H Q ⟨l, ys, y, h1, h2, h3, h4, q⟩ => ⟨l, ys, y, h1, h2, h3, h4, q.old h3 trivial⟩
def kPopAt : V → List V → Hp → VK → Prop := fun x vs H Q => ∃ l xs i k y, x = .ref l ∧ vs = [.int i] ∧ H l = some (.lst xs) ∧ -(2 ^ 63) ≤ i ∧ i < 2 ^ 63 ∧ seqIndex? i xs.length = some k ∧ xs[k]? = some y ∧ Wr H l (.lst (xs.eraseIdx k)) (Q y)
theorem mk_popAt : MtR X "list.pop" kPopAt := mtI mt_popAt fun x xs H Q ⟨l, ys, i, k, y, h1, h2, h3, h4, h5, h6, h7, q⟩ => ⟨l, ys, i, k, y, h1, h2, h3, h4, h5, h6, h7, q.old h3 trivial⟩
def kClear : V → List V → Hp → VK → Prop := fun x vs H Q => ∃ l xs, x = .ref l ∧ vs = [] ∧ H l = some (.lst xs) ∧ Wr H l (.lst []) (Q .non)
theorem mk_clear : MtR X "list.clear" kClear := mtI mt_clear fun x xs H Q ⟨l, ys, h1, h2, h3, q⟩ => ⟨l, ys, h1, h2, h3, q.old h3 trivial⟩
def kSetL : V → V → V → Hp → (Hp → Prop) → Prop := fun o i v H Q => ∃ p xs k j, o = .ref p ∧ i = .int k ∧ H p = some (.lst xs) ∧ ixN xs.length k = some j ∧ Wr H p (.lst (xs.set j v)) Q
theorem kset_list : PSet X kSetL := psetI set_list fun o i v H Q ⟨p, xs, k, j, h1, h2, h3, h4, q⟩ => ⟨p, xs, k, j, h1, h2, h3, h4, q.old h3 trivial⟩
def kFld (K : PySem.W.Frag) (ta tv : TE) (f : Str) : TS := fun D σ H => tv σ H fun y H1 => ta σ H1 fun x H2 => ∃ a C dx fs, x = .ref a ∧ H2 a = some (.ins C dx fs) ∧ Cls K C ∧ NoAttr K C f ∧ fs.length < 1000 ∧
  Wr H2 a (.ins C dx (putF f y fs)) (D.nx σ)
theorem ks_fld {K : PySem.W.Frag} {o value : Expr} {f : Str} {pos' : Pos} {ta tv : TE} (ha : PE X o ta) (hv : PE X value tv) (hs : swapsWith value (some (.Attribute o f pos')) pos.line X.env = pure false) (h : X.K = K := by rfl) : PS X (.Assign [.Attribute o f pos'] value pos) (kFld K ta tv f) := by
  subst h
  refine psI (ps_fld (peM ha) (peM hv) hs) fun D σ H q => ⟨_, q, fun y H1 r => ⟨_, r, fun x H2 ⟨a, C, dx, fs, h1, h2, h3, h4, h5, q⟩ => ⟨a, C, dx, fs, h1, h2, h3, h4, h5, q.old h2 trivial⟩⟩⟩
def kFldAug (K : PySem.W.Frag) (ta tv : TE) (rd : V → V → Hp → VK → Prop) (f : Str) : TS := fun D σ H => ta σ H fun x H1 => ∃ a C dx fs v, x = .ref a ∧ H1 a = some (.ins C dx fs) ∧ Cls K C ∧ NoAttr K C f ∧ fs.lookup f = some v ∧
  tv σ H1 fun y H2 => rd v y H2 fun z H3 => ∃ dx' fs', H3 a = some (.ins C dx' fs') ∧ fs'.length < 1000 ∧ Wr H3 a (.ins C dx' (putF f z fs')) (D.nx σ)
def mR (r : V → V → Hp → VK → Prop) : V → V → Hp → VK → Prop := fun x y H Q => ∃ R : VK, r x y H R ∧ ∀ z H1, R z H1 → Q z H1
theorem inM {op : Operator} {rd : V → V → Hp → VK → Prop} (h : InOp X op rd) : InOp X op (mR rd) := fun pins s σ H x y u v Q I a b ⟨R, h1, h2⟩ => thn (h pins s σ H x y u v R I a b h1) fun _ _ ⟨v, H', J, r, q⟩ => ⟨v, H', J, r, h2 _ _ q⟩
theorem ks_fldaug {K : PySem.W.Frag} {o value : Expr} {f : Str} {tpos : Pos} {ta tv : TE} {op : Operator} {rd : V → V → Hp → VK → Prop} (ha : PE X o ta) (hv : PE X value tv) (hop : InOp X op rd) (h : X.K = K := by rfl) : PS X (.AugAssign (.Attribute o f tpos) op value pos) (kFldAug K ta tv rd f) := by
  subst h
  refine psI (ps_fldaug (peM ha) (peM hv) (inM hop)) fun D σ H q => ⟨_, q, fun x H1 ⟨a, C, dx, fs, v, h1, h2, h3, h4, h5, q⟩ => ⟨a, C, dx, fs, v, h1, h2, h3, h4, h5, _, q, fun y H2 q => ⟨_, q, fun z H3 ⟨dx', fs', h1, h2, q⟩ => ⟨dx', fs', h1, h2, q.old h1 trivial⟩⟩⟩⟩
def kMake (C : Addr) (sp : Sp) (t : TA) : TE := fun σ H Q => t σ H fun vs H1 => ∀ x dx H2, H1 x = none → Kp [] H1 H2 → H2 x = some (.ins C dx []) → sp (.ref x :: vs) H2 (fun v H3 => v = .non ∧ Q (.ref x) H3) L2.E0
theorem kMake.old {C : Addr} {sp : Sp} {vs : List V} {H1 : Hp} {Q : VK} (h : ∀ x dx H2, H1 x = none → Kp [] H1 H2 → H2 x = some (.ins C dx []) → sp (.ref x :: vs) H2 (fun v H3 => v = .non ∧ Q (.ref x) H3) L2.E0) :
    ∀ x dx, H1 x = none → H1 dx = none → dx ≠ x → sp (.ref x :: (vs ++ [])) (upd (upd H1 dx (.own x)) x (.ins C dx [])) (fun v H2 => v = .non ∧ Q (.ref x) H2) L2.E0 := fun x dx hx hdx hne => by
  rw [List.append_nil]
  exact h x dx _ hx ((Kp.new hdx).own hx) upd_same
theorem ke_mk {k : Nat} {x : Str} {C : Addr} {sp : Sp} {p : Pos} {t : TA} (c : Mak X.prog X.w X.K X.mg X.base k x C sp) (hr : Room (k + 1) X.A) (hg : Gl X x) (ha : PA X (e :: es) t)
    (hdb : (x == ("__debug__" : Str)) = false := by decide) (he : starEach (e :: es) X.env = (false, eval e X.env) :: starEach es X.env := by rfl) (hpl : (backTo pos (starEach es X.env)).any (·.1) = false := by rfl) :
    PE X (.Call (.Name x p) (e :: es) [] pos) (kMake C sp t) := peI (pe_mk c hr hg (paM ha) hdb he hpl) fun σ H Q q => ⟨_, q, fun vs H1 r => kMake.old r⟩
theorem ke_mk0 {k : Nat} {x : Str} {C : Addr} {sp : Sp} {p : Pos} (c : Mak X.prog X.w X.K X.mg X.base k x C sp) (hr : Room (k + 1) X.A) (hg : Gl X x)
    (hdb : (x == ("__debug__" : Str)) = false := by decide) : PE X (.Call (.Name x p) [] [] pos) (kMake C sp tNil) := peI (pe_mk0 c hr hg hdb) fun σ H Q q => kMake.old q
end
/-! ### comprehensions: what the made list holds (acc) apart from the rest -/
def mI (t : TI) : TI := fun σ H Q => ∃ R : It → Hp → Prop, t σ H R ∧ ∀ x H1, R x H1 → Q x H1
def mG (t : TG) : TG := fun v σ H Q => ∃ R : L2.St → Hp → Prop, t v σ H R ∧ ∀ x H1, R x H1 → Q x H1
def mT (t : TT) : TT := fun σ H Q => ∃ R : Bool → Hp → Prop, t σ H R ∧ ∀ x H1, R x H1 → Q x H1
section
variable {X : Cx}
theorem piM {tg iter : Expr} {t : TI} (h : PI X tg iter t) : PI X tg iter (mI t) := ⟨fun pins s σ H Q I ⟨R, h1, h2⟩ => thn (h.run pins s σ H R I h1) fun _ _ q => thn q fun _ _ ⟨it, fp, tn, J, H', a, b, c, d, e, r⟩ => ⟨it, fp, tn, J, H', a, b, c, d, e, h2 _ _ r⟩⟩
theorem pgM {tg : Expr} {t : TG} (h : PG X tg t) : PG X tg (mG t) := ⟨fun pins s σ H v u Q I r ⟨R, h1, h2⟩ => thn (h.run pins s σ H v u R I r h1) fun _ _ ⟨σ', H', J, q⟩ => ⟨σ', H', J, h2 _ _ q⟩⟩
theorem ptsM {ifs : List Expr} {t : TT} (h : PTs X ifs t) : PTs X ifs (mT t) := ⟨fun pins s σ H Q I ⟨R, h1, h2⟩ => thn (h.run pins s σ H R I h1) fun _ _ ⟨H', J, q⟩ => ⟨H', J, h2 _ _ q⟩⟩
end
/-- behind an element: y goes to the list at D -/
def Put (D : Addr) (acc : List V) (Nx : List V → Hp → Prop) (y : V) (H4 : Hp) : Prop := H4 D = some (.lst acc) ∧ acc.length < sizeLine ∧ ∀ H5, Kp [D] H4 H5 → H5 D = some (.lst (acc ++ [y])) → Nx (acc ++ [y]) H5
/-- one turn of a comprehension -/
def Turn1 (g : TG) (tt : TT) (te : TE) (vs : List Nat) (σ : L2.St) (D : Addr) (acc : List V) (Nx : List V → Hp → Prop) (x : V) (H' : Hp) : Prop :=
  g x (wipe σ vs) H' fun σ2 H2 => wipe σ2 vs = wipe σ vs ∧ tt σ2 H2 fun b H3 => if b = true then te σ2 H3 (Put D acc Nx) else H3 D = some (.lst acc) ∧ Nx acc H3
def kLcW (g : TG) (tt : TT) (te : TE) (vs : List Nat) (σ : L2.St) (J : It) (D : Addr) (H1' : Hp) (Qd : Hp → Prop) : Prop := ∃ W : Nat → Nat → List V → Hp → Prop, (∃ m, W 0 m [] H1') ∧ ∀ i m acc H, H D = some (.lst acc) → W i m acc H →
  (J.stop i H ∧ Qd H) ∨ (J.go i H ∧ ∃ Nx : List V → Hp → Prop, (∀ acc H', Nx acc H' → ∃ m', m' < m ∧ W (i + 1) m' acc H') ∧ ∀ x H', J.yld i H x H' → Turn1 g tt te vs σ D acc Nx x H')
def kLc (wi : TI) (g : TG) (tt : TT) (te : TE) (vs : List Nat) : TE := fun σ H Q => wi σ H fun J H1 => ∀ D H1', H1 D = none → Kp [] H1 H1' → H1' D = some (.lst []) → kLcW g tt te vs σ J D H1' (Q (.ref D))
theorem kLc.old {wi : TI} {g : TG} {tt : TT} {te : TE} {vs : List Nat} {σ : L2.St} {H : Hp} {Q : VK} (h : kLc wi g tt te vs σ H Q) : tLc (mI wi) (mG g) (mT tt) (mE te) vs σ H Q := by
  refine ⟨_, h, fun J H1 r D hD => ?_⟩
  obtain ⟨W, ⟨m, w0⟩, turn⟩ := r D _ hD (Kp.new hD) upd_same
  refine ⟨fun i m H => ∃ acc, H D = some (.lst acc) ∧ W i m acc H, ⟨m, [], upd_same, w0⟩, ?_⟩
  rintro i m H ⟨acc, hD, w⟩
  rcases turn i m acc H hD w with ⟨a, b⟩ | ⟨go, Nx, hN, step⟩
  · exact .inl ⟨a, b⟩
  · refine .inr ⟨go, fun H' => ∃ acc, H' D = some (.lst acc) ∧ Nx acc H', fun H' ⟨acc', h1, h2⟩ => let ⟨m', a, b⟩ := hN acc' H' h2; ⟨m', a, acc', h1, b⟩, fun x H' y => ?_⟩
    refine ⟨_, step x H' y, fun σ2 H2 ⟨e, t⟩ => ⟨e, _, t, fun b H3 q => ?_⟩⟩
    cases b with
    | true =>
      refine iteT ?_
      refine ⟨_, (show te σ2 H3 (Put D acc Nx) from q), fun y H4 ⟨h1, h2, h3⟩ => ⟨acc, h1, h2, _, upd_same, h3 _ (Kp.old h1 trivial List.mem_cons_self) upd_same⟩⟩
    | false => exact iteF ⟨acc, q⟩
section
variable {X : Cx}
theorem ke_lc {elt tg iter : Expr} {ifs : List Expr} {scope : Scope} {own : List (Str × Nat)} {pos : Pos} {wi : TI} {g : TG} {tt : TT} {te : TE} (hc : X.calm = true) (hN : X.N.Nodup) (hi : PI X tg iter wi) (ok : BlkOk X.N X.env.scope scope own)
    (hg : ∀ (s : Shared) (H : Hp) (C : Addr) (cl : List (Str × Addr)) (fp : List Addr), PG (X.blk s H scope (compEnvC scope cl C X.env) fp) tg g) (ht : ∀ (s : Shared) (H : Hp) (C : Addr) (cl : List (Str × Addr)) (fp : List Addr), PTs (X.blk s H scope (compEnvC scope cl C X.env) fp) ifs tt)
    (he : ∀ (s : Shared) (H : Hp) (C : Addr) (cl : List (Str × Addr)) (fp : List Addr), PE (X.blk s H scope (compEnvC scope cl C X.env) fp) elt te) (hs : ∀ x, foldedSetIterable iter X.env x = pure x := by intro _; rfl) :
    PE X (.ListComp elt [⟨tg, iter, ifs, 0⟩] scope pos) (kLc wi g tt te (own.map (·.2))) :=
  peI (pe_lc hc hN (piM hi) ok (fun a b c d e => pgM (hg a b c d e)) (fun a b c d e => ptsM (ht a b c d e)) (fun a b c d e => peM (he a b c d e)) hs) fun σ H Q q => kLc.old q
theorem ks_setLc {i : Nat} {y : Str} {py : Pos} {elt tg iter : Expr} {ifs : List Expr} {scope : Scope} {own : List (Str × Nat)} {pos spos : Pos} {wi : TI} {g : TG} {tt : TT} {te : TE} (hc : X.calm = true) (hN : X.N.Nodup) (hy : X.N[i]? = some y) (hyl : X.env.scope.names.lookup y = some .local)
    (hsw : swapsWith (.ListComp elt [⟨tg, iter, ifs, 0⟩] scope pos) (some (.Name y py)) spos.line X.env = pure true) (hi : PI X tg iter wi) (ok : BlkOk X.N X.env.scope scope own)
    (hg : ∀ (s : Shared) (H : Hp) (C : Addr) (cl : List (Str × Addr)) (fp : List Addr), PG (X.blk s H scope (compEnvC scope cl C X.env) fp) tg g) (ht : ∀ (s : Shared) (H : Hp) (C : Addr) (cl : List (Str × Addr)) (fp : List Addr), PTs (X.blk s H scope (compEnvC scope cl C X.env) fp) ifs tt)
    (he : ∀ (s : Shared) (H : Hp) (C : Addr) (cl : List (Str × Addr)) (fp : List Addr), PE (X.blk s H scope (compEnvC scope cl C X.env) fp) elt te) (hs : ∀ x, foldedSetIterable iter X.env x = pure x := by intro _; rfl) :
    PS X (.Assign [.Name y py] (.ListComp elt [⟨tg, iter, ifs, 0⟩] scope pos) spos) (tAsg (kLc wi g tt te (own.map (·.2))) (gName i)) :=
  psI (ps_setLc hc hN hy hyl hsw (piM hi) ok (fun a b c d e => pgM (hg a b c d e)) (fun a b c d e => ptsM (ht a b c d e)) (fun a b c d e => peM (he a b c d e)) hs) fun D σ H q => kLc.old q
end
section
variable {K : PySem.W.Frag} {a : Addr} {xs : List V} {g : TG} {tt : TT} {te : TE} {vs : List Nat} {σ : L2.St} {H1 : Hp} {D : Addr} {Qd : Hp → Prop}
theorem kl_list (Pv : Nat → List V → Hp → Prop) (h0 : Pv 0 [] H1) (hl : ∀ i acc H, Pv i acc H → SqL K H a xs)
    (hs : ∀ i x acc H, xs[i]? = some x → H D = some (.lst acc) → Pv i acc H → Turn1 g tt te vs σ D acc (Pv (i + 1)) x H) (hd : ∀ acc H, H D = some (.lst acc) → Pv xs.length acc H → Qd H) : kLcW g tt te vs σ (Itl K a) D H1 Qd := by
  refine ⟨fun i m acc H => m = xs.length - i ∧ i ≤ xs.length ∧ Pv i acc H, ⟨xs.length, by simp, Nat.zero_le _, h0⟩, ?_⟩
  rintro i m acc H hD ⟨rfl, hi, p⟩
  have q := hl i acc H p
  by_cases hlt : i < xs.length
  · refine .inr ⟨⟨xs, xs[i], q, by simp [hlt]⟩, Pv (i + 1), fun acc H' p' => ⟨xs.length - (i + 1), by omega, rfl, hlt, p'⟩, fun x H' y => ?_⟩
    obtain ⟨e, y⟩ := y
    subst e
    exact hs i x acc _ (y xs q) hD p
  · have e : i = xs.length := by omega
    subst e
    exact .inl ⟨⟨xs, q, Nat.le_refl _⟩, hd acc H hD p⟩
theorem kl_tup (Pv : Nat → List V → Hp → Prop) (h0 : Pv 0 [] H1) (hl : ∀ i acc H, Pv i acc H → SqT K H a xs)
    (hs : ∀ i x acc H, xs[i]? = some x → H D = some (.lst acc) → Pv i acc H → Turn1 g tt te vs σ D acc (Pv (i + 1)) x H) (hd : ∀ acc H, H D = some (.lst acc) → Pv xs.length acc H → Qd H) : kLcW g tt te vs σ (Itt K a) D H1 Qd := by
  refine ⟨fun i m acc H => m = xs.length - i ∧ i ≤ xs.length ∧ Pv i acc H, ⟨xs.length, by simp, Nat.zero_le _, h0⟩, ?_⟩
  rintro i m acc H hD ⟨rfl, hi, p⟩
  have q := hl i acc H p
  by_cases hlt : i < xs.length
  · refine .inr ⟨⟨xs, xs[i], q, by simp [hlt]⟩, Pv (i + 1), fun acc H' p' => ⟨xs.length - (i + 1), by omega, rfl, hlt, p'⟩, fun x H' y => ?_⟩
    obtain ⟨e, y⟩ := y
    subst e
    exact hs i x acc _ (y xs q) hD p
  · have e : i = xs.length := by omega
    subst e
    exact .inl ⟨⟨xs, q, Nat.le_refl _⟩, hd acc H hD p⟩
theorem kl_range {lo : Int} {n : Nat} (Pv : Nat → List V → Hp → Prop) (h0 : Pv 0 [] H1)
    (hs : ∀ i acc H, i < n → H D = some (.lst acc) → Pv i acc H → Turn1 g tt te vs σ D acc (Pv (i + 1)) (.int (lo + i)) H) (hd : ∀ acc H, H D = some (.lst acc) → Pv n acc H → Qd H) : kLcW g tt te vs σ (Itr lo n) D H1 Qd := by
  refine ⟨fun i m acc H => m = n - i ∧ i ≤ n ∧ Pv i acc H, ⟨n, by simp, Nat.zero_le _, h0⟩, ?_⟩
  rintro i m acc H hD ⟨rfl, hi, p⟩
  by_cases hlt : i < n
  · refine .inr ⟨hlt, Pv (i + 1), fun acc H' p' => ⟨n - (i + 1), by omega, rfl, hlt, p'⟩, fun x H' y => ?_⟩
    obtain ⟨e, y⟩ := y
    subst e y
    exact hs i acc _ hlt hD p
  · have e : i = n := by omega
    subst e
    exact .inl ⟨Nat.le_refl _, hd acc H hD p⟩
end
end MD

namespace MD
open PySem PySem.Spec PyProof.Rows L2
/-! ### more of what is kept; tuples of numbers -/
theorem Kp.then' {M M' : List Addr} {H0 H H5 : Hp} (k : Kp M H0 H) (k' : Kp M' H H5) (h : ∀ a, a ∈ M' → a ∈ M ∨ H0 a = none) : Kp M H0 H5 := by
  refine ⟨fun b o e n nb => k'.keep b o (k.keep b o e n nb) (fun z => ?_) nb, fun b xs e => k'.tup b xs (k.tup b xs e), fun b o e => let ⟨o', e'⟩ := k.live b o e; k'.live b o' e', fun b t => k'.tab b (k.tab b t)⟩
  rcases h b z with q | q
  · exact n q
  · rw [q] at e; cases e
theorem Kp.th0 {M : List Addr} {H0 H H5 : Hp} (k : Kp M H0 H) (k' : Kp [] H H5) : Kp M H0 H5 := k.then' k' fun _ z => nomatch z
theorem Kp.put {M : List Addr} {H0 H H5 : Hp} {p : Addr} (k : Kp M H0 H) (k' : Kp [p] H H5) (h : H0 p = none) : Kp M H0 H5 := k.then' k' fun a z => .inr (by rw [List.mem_singleton.mp z]; exact h)
theorem Kp.putM {M : List Addr} {H0 H H5 : Hp} {p : Addr} (k : Kp M H0 H) (k' : Kp [p] H H5) (h : p ∈ M) : Kp M H0 H5 := k.then' k' fun a z => .inl (by rw [List.mem_singleton.mp z]; exact h)
theorem Kp.nil {M : List Addr} {H H' : Hp} (k : Kp [] H H') : Kp M H H' := k.mono fun _ z => nomatch z
def intD (rs : List Int) : List D := rs.map fun r => D.v (.int r)
theorem ints_rep {H : Hp} : ∀ rs : List Int, RepTs H (intD rs) (rs.map V.int)
  | [] => RepTs.nil
  | _ :: r => RepTs.cons RepT.int (ints_rep r)
theorem ints_of {H : Hp} : ∀ {rs : List Int} {vs : List V}, RepTs H (intD rs) vs → vs = rs.map V.int
  | [], vs, h => by unfold intD RepTs at h; exact h
  | a :: r, vs, h => by
    unfold intD at h
    rw [List.map_cons] at h
    unfold RepTs at h
    obtain ⟨v, w, rfl, h1, h2⟩ := h
    unfold RepT at h1
    obtain ⟨rfl, _⟩ := h1
    rw [ints_of (rs := r) h2]; rfl
/-- a tuple of data, opened -/
theorem RepT.tupE {H : Hp} {l : Bool} {ds : List D} {x : V} (h : RepT H (.sq l ds) x) : ∃ a vs, x = .ref a ∧ H a = some (.tup vs) ∧ RepTs H ds vs := by
  unfold RepT at h
  obtain ⟨_, h⟩ := h
  exact h
theorem RepT.tupI {H : Hp} {rs : List Int} {x : V} (h : RepT H (.sq false (intD rs)) x) : ∃ a, x = .ref a ∧ H a = some (.tup (rs.map V.int)) := by
  obtain ⟨a, vs, e, h1, h2⟩ := h.tupE
  rw [ints_of h2] at h1
  exact ⟨a, e, h1⟩
theorem RepT.tupI' {H : Hp} {rs : List Int} {a : Addr} (h : H a = some (.tup (rs.map V.int))) : RepT H (.sq false (intD rs)) (.ref a) := RepT.tup h (ints_rep rs)
theorem RepTs.consE {H : Hp} {d : D} {ds : List D} {vs : List V} (h : RepTs H (d :: ds) vs) : ∃ v r, vs = v :: r ∧ RepT H d v ∧ RepTs H ds r := by unfold RepTs at h; exact h
theorem RepTs.nilE {H : Hp} {vs : List V} (h : RepTs H [] vs) : vs = [] := by unfold RepTs at h; exact h
theorem RepT.intE {H : Hp} {i : Int} {x : V} (h : RepT H (.v (.int i)) x) : x = .int i := by unfold RepT at h; exact h.1
theorem RepT.vE {H : Hp} {y : V} {x : V} (h : RepT H (.v y) x) : x = y := by unfold RepT at h; exact h.1
theorem at_mem (zs : List Int) {i : Int} (h0 : 0 ≤ i) (h1 : i < zs.length) : ∃ z, atI (zs.map V.int) i = some (.int z) ∧ z ∈ zs := by
  have hl : i.toNat < zs.length := by omega
  exact ⟨zs[i.toNat], int_at h0 (by simp [hl]), List.getElem_mem hl⟩
theorem md (z : Int) (n : Int) (h : 0 < n) : 0 ≤ z % n ∧ z % n < n := ⟨Int.emod_nonneg _ (by omega), Int.emod_lt_of_pos _ h⟩
/-- an inn: rooms, nights, sellers, prices, share -/
structure Su where
  rooms : List Int
  nights : Int
  sellers : Int
  prices : List (List Int)
  share : Int
structure Su.ok (s : Su) : Prop where
  r1 : 1 ≤ s.rooms.length
  r3 : s.rooms.length ≤ 3
  rr : ∀ r ∈ s.rooms, 0 ≤ r ∧ r ≤ 4
  n1 : 1 ≤ s.nights
  n12 : s.nights ≤ 12
  s1 : 1 ≤ s.sellers
  s4 : s.sellers ≤ 4
  pl : s.prices.length = s.rooms.length
  pr : ∀ r ∈ s.prices, (r.length : Int) = s.nights ∧ ∀ p ∈ r, 0 ≤ p ∧ p ≤ 1000000
  h0 : 0 ≤ s.share
  h100 : s.share ≤ 100
def suD (s : Su) : D := .sq false [.sq false (intD s.rooms), .v (.int s.nights), .v (.int s.sellers), .sq false (s.prices.map fun r => .sq false (intD r)), .v (.int s.share)]
/-- the tuple of an inn's setup, opened -/
structure SuAt (H : Hp) (a r p : Addr) (s : Su) : Prop where
  ha : H a = some (.tup [.ref r, .int s.nights, .int s.sellers, .ref p, .int s.share])
  hr : H r = some (.tup (s.rooms.map V.int))
  hp : ∃ ps, H p = some (.tup ps) ∧ RepTs H (s.prices.map fun r => D.sq false (intD r)) ps
theorem SuAt.kp {M : List Addr} {H H' : Hp} {a r p : Addr} {s : Su} (h : SuAt H a r p s) (k : Kp M H H') : SuAt H' a r p s :=
  ⟨k.tup _ _ h.ha, k.tup _ _ h.hr, h.hp.elim fun ps q => ⟨ps, k.tup _ _ q.1, q.2.kp k⟩⟩
theorem SuAt.rep {H : Hp} {a r p : Addr} {s : Su} (h : SuAt H a r p s) : RepT H (suD s) (.ref a) := by
  obtain ⟨ps, h1, h2⟩ := h.hp
  exact RepT.tup h.ha (RepTs.cons (RepT.tupI' h.hr) (RepTs.cons RepT.int (RepTs.cons RepT.int (RepTs.cons (RepT.tup h1 h2) (RepTs.cons RepT.int RepTs.nil)))))
/-- prices[k]: a row -/
theorem SuAt.row {H : Hp} {a r p : Addr} {s : Su} (h : SuAt H a r p s) {k : Nat} {row : List Int} (e : s.prices[k]? = some row) : ∃ ps q, H p = some (.tup ps) ∧ ps[k]? = some (.ref q) ∧ H q = some (.tup (row.map V.int)) := by
  obtain ⟨ps, h1, h2⟩ := h.hp
  have hl : ps.length = s.prices.length := by rw [h2.len, List.length_map]
  obtain ⟨hk, _⟩ := List.getElem?_eq_some_iff.mp e
  have e1 : ps[k]? = some (ps[k]'(by omega)) := by simp [show k < ps.length by omega]
  obtain ⟨d, hd, rd⟩ := h2.get e1
  rw [List.getElem?_map, e] at hd
  cases hd
  obtain ⟨q, eq, hq⟩ := rd.tupI
  exact ⟨ps, q, h1, by rw [e1, eq], hq⟩
theorem turn1 {te : TE} {vs : List Nat} {σ : L2.St} {D : Addr} {acc : List V} {Nx : List V → Hp → Prop} {x : V} {H : Hp} {i : Nat} (hw : wipe ((wipe σ vs).set i (some x)) vs = wipe σ vs) (h : te ((wipe σ vs).set i (some x)) H (Put D acc Nx)) :
    Turn1 (gName i) tYes te vs σ D acc Nx x H := by
  refine ⟨hw, ?_⟩
  show (if true = true then te ((wipe σ vs).set i (some x)) H (Put D acc Nx) else H D = some (.lst acc) ∧ Nx acc H)
  exact iteT h
end MD

namespace MD
open PySem PySem.Spec PyProof.Rows L2
/-! ### stays and parties -/
abbrev Sy := Int × Int × Int
def syI (s : Sy) : List Int := [s.1, s.2.1, s.2.2]
def syD (s : Sy) : D := .sq false (intD (syI s))
def ptD (p : List Sy) : D := .sq false (p.map syD)
structure Sy.ok (su : Su) (s : Sy) : Prop where
  k0 : 0 ≤ s.1
  k1 : s.1 < su.rooms.length
  f0 : 0 ≤ s.2.1
  fe : s.2.1 < s.2.2
  e1 : s.2.2 ≤ su.nights
/-- not later, by kind, first night, end -/
def Sy.le (a b : Sy) : Prop := a.1 < b.1 ∨ (a.1 = b.1 ∧ (a.2.1 < b.2.1 ∨ (a.2.1 = b.2.1 ∧ a.2.2 ≤ b.2.2)))
structure Pty (su : Su) (p : List Sy) : Prop where
  l1 : 1 ≤ p.length
  l4 : p.length ≤ 4
  ok : ∀ s ∈ p, Sy.ok su s
  srt : p.Pairwise Sy.le
theorem RepTs.perm {α : Type} {H : Hp} {f : α → D} {ys xs : List V} (p : ys.Perm xs) : ∀ {ss : List α}, RepTs H (ss.map f) xs → ∃ ss' : List α, ss'.Perm ss ∧ RepTs H (ss'.map f) ys := by
  induction p with
  | nil =>
    intro ss h
    cases ss with
    | nil => exact ⟨[], .refl _, h⟩
    | cons a r => obtain ⟨v, w, e, _⟩ := h.consE; cases e
  | cons x p ih =>
    intro ss h
    cases ss with
    | nil => have := h.nilE; cases this
    | cons a r =>
      obtain ⟨v, w, e, h1, h2⟩ := h.consE
      injection e with e1 e2
      subst e1 e2
      obtain ⟨ss', p', h'⟩ := ih h2
      exact ⟨a :: ss', p'.cons a, RepTs.cons h1 h'⟩
  | swap x y l =>
    intro ss h
    cases ss with
    | nil => have := h.nilE; cases this
    | cons a r =>
      obtain ⟨v, w, e, h1, h2⟩ := h.consE
      injection e with e1 e2
      subst e1 e2
      cases r with
      | nil => have := h2.nilE; cases this
      | cons b r =>
        obtain ⟨v2, w2, e, h3, h4⟩ := h2.consE
        injection e with e1 e2
        subst e1 e2
        exact ⟨b :: a :: r, .swap _ _ _, RepTs.cons h3 (RepTs.cons h1 h4)⟩
  | trans p1 p2 ih1 ih2 =>
    intro ss h
    obtain ⟨s2, q2, h2⟩ := ih2 h
    obtain ⟨s1, q1, h1⟩ := ih1 h2
    exact ⟨s1, q1.trans q2, h1⟩
theorem RepTs.at {α : Type} {H : Hp} {f : α → D} {ss : List α} {vs : List V} {i : Nat} {v : V} (h : RepTs H (ss.map f) vs) (e : vs[i]? = some v) : ∃ s, ss[i]? = some s ∧ RepT H (f s) v := by
  obtain ⟨d, hd, r⟩ := h.get e
  rw [List.getElem?_map] at hd
  cases q : ss[i]? with
  | none => rw [q] at hd; cases hd
  | some s => rw [q] at hd; cases hd; exact ⟨s, rfl, r⟩
theorem RepTs.lenM {α : Type} {H : Hp} {f : α → D} {ss : List α} {vs : List V} (h : RepTs H (ss.map f) vs) : vs.length = ss.length := by rw [h.len, List.length_map]
theorem RepTs.set {H : Hp} : ∀ {ds : List D} {vs : List V} {i : Nat} {d : D} {v : V}, RepTs H ds vs → RepT H d v → RepTs H (ds.set i d) (vs.set i v)
  | [], vs, _, _, _, h, _ => by have := h.nilE; subst this; exact RepTs.nil
  | e :: ds, vs, 0, d, v, h, r => by
    obtain ⟨u, w, rfl, h1, h2⟩ := h.consE
    exact RepTs.cons r h2
  | e :: ds, vs, i + 1, d, v, h, r => by
    obtain ⟨u, w, rfl, h1, h2⟩ := h.consE
    exact RepTs.cons h1 (RepTs.set h2 r)
theorem syD_at {H : Hp} {s : Sy} {x : V} (h : RepT H (syD s) x) : ∃ a, x = .ref a ∧ H a = some (.tup [.int s.1, .int s.2.1, .int s.2.2]) := h.tupI
theorem syD_of {H : Hp} {a : Addr} {k f e : Int} (h : H a = some (.tup [.int k, .int f, .int e])) : RepT H (syD (k, f, e)) (.ref a) := RepT.tupI' h
theorem code3 (a b c : Int) : TS.code 16 [a, b, c] = a * 256 + b * 16 + c := by
  simp only [TS.code, List.length_cons, List.length_nil]
  omega
theorem sy_le {su : Su} {a b : Sy} (ha : Sy.ok su a) (hb : Sy.ok su b) (hn : su.nights ≤ 12) (h : TS.code 16 (syI a) ≤ TS.code 16 (syI b)) : Sy.le a b := by
  unfold syI at h
  rw [code3, code3] at h
  have := ha.f0; have := ha.fe; have := ha.e1; have := hb.f0; have := hb.fe; have := hb.e1
  unfold Sy.le
  omega
/-- sorted(..) of a list of tuples of d ints below B, fewer than 64 -/
def kSortU (K : PySem.W.Frag) (d : Nat) (B : Int) : List V → Hp → VK → Prop := fun vs H Q => ∃ (a : Addr) (xs : List V), vs = [V.ref a] ∧ SqL K H a xs ∧ xs.length < 64 ∧ (∀ x ∈ xs, ∃ ns, TupI K H x ns ∧ ns.length = d ∧ TS.Bd B ns) ∧
  ∀ ys : List V, ys.Perm xs → ys.Pairwise (fun x y => ∀ n m, TupI K H x n → TupI K H y m → TS.code B n ≤ TS.code B m) → New H (.lst ys) Q
theorem ksortU {X : Cx} {K : PySem.W.Frag} {d : Nat} {B : Int} (hd : 1 ≤ d) (h : X.K = K := by rfl) : CallR X (.builtin "sorted") (kSortU K d B) := by
  subst h
  exact callI (cr_sortT hd) fun xs H Q ⟨a, ys, h1, h2, h3, h4, h5⟩ => ⟨a, ys, h1, h2, h3, h4, fun zs p h6 h7 h8 => (h5 zs h6 h7).old p h8⟩
theorem tupI_of {K : PySem.W.Frag} {H : Hp} {a : Addr} {ns : List Int} (h : H a = some (.tup (ns.map V.int))) : TupI K H (.ref a) ns := ⟨a, rfl, SqT.of h⟩
end MD

/-! pairs ((i, j), x), sorted by their distinct (i, j) -/
namespace MD
open PySem PySem.Spec PyProof.Rows L2 SrtO Srt
section
variable {prog : Program} {w : World} {A : Around} {E : Value → Shared → Prop} {s : Shared}
theorem eqBool_self {v : Value} {Q : Bool → Shared → Prop} (hv : (v == v) = true) (h : Q true s) : wpAny (model prog w) A (eqBool v v) Q E s := by
  unfold eqBool
  try with_reducible refine wpAny_holding ?_
  show wpAny _ _ (if (v == v) = true then _ else _) Q E s
  rw [if_pos hv]
  exact wpAny_bind (wpAny_rule (wpAny_pure h))
/-- v is a tuple of a tuple of the ints i, j, and of something -/
def IsNP (h : Heap) (v : Value) (i j : Int) : Prop := ∃ a q x t u o n o2 n2, v = .ref a ∧ h.get? a = some o ∧ o.cls = .type "tuple" ∧ o.data = .seq #[.ref q, x] n ∧ h.get? q = some o2 ∧ o2.cls = .type "tuple" ∧ o2.data = .seq #[.int i t, .int j u] n2 ∧ (x == x) = true
theorem IsNP.keeps {h h' : Heap} {v : Value} {i j : Int} (p : IsNP h v i j) (k : ∀ b o, h.get? b = some o → o.cls = .type "tuple" → h'.get? b = some o) : IsNP h' v i j := by
  obtain ⟨a, q, x, t, u, o, n, o2, n2, e, h1, h2, h3, h4, h5, h6, h7⟩ := p
  exact ⟨a, q, x, t, u, o, n, o2, n2, e, k _ _ h1 h2, h2, h3, k _ _ h4 h5, h5, h6, h7⟩
theorem np_cmp {vs : List Value} {k : Value → Int × Int} (hu : A.units < cLine) (hp : ∀ v ∈ vs, IsNP s.heap v (k v).1 (k v).2) (hd : ∀ v ∈ vs, ∀ u ∈ vs, k v = k u → v = u) : Cmp prog w A s (tuples' false) (fun p => p.1 ∈ vs) (lt2 fun v u => lexB (k v) (k u)) := by
  intro p q hm hm'
  have h1 := hp _ hm
  have h2 := hp _ hm'
  have hdd := hd _ hm _ hm'
  show wpAny (model prog w) A (keyLt' (tuples' false) p.1 q.1) (fun r s' => s' = s ∧ r = lexB (k p.1) (k q.1)) (fun _ _ => False) s
  unfold lexB
  generalize k p.1 = kp at h1 hdd ⊢
  generalize k q.1 = kq at h2 hdd ⊢
  obtain ⟨x, y⟩ := kp
  obtain ⟨x', y'⟩ := kq
  obtain ⟨a, c, z, t, u, o, n, o2, n2, e, ho, hc, hdt, ho2, hc2, hd2, hz⟩ := h1
  obtain ⟨a', c', z', t', u', o', n', o2', n2', e', ho', hc', hdt', ho2', hc2', hd2', hz'⟩ := h2
  have k1 : IsTupleKey (L2.mixKind prog w) s.heap [Sum.inl x, Sum.inl y] c := ⟨o2, _, n2, ho2, hc2, hd2, .cons (L2.mixKind_int prog w x t) (.cons (L2.mixKind_int prog w y u) .nil)⟩
  have k2 : IsTupleKey (L2.mixKind prog w) s.heap [Sum.inl x', Sum.inl y'] c' := ⟨o2', _, n2', ho2', hc2', hd2', .cons (L2.mixKind_int prog w x' t') (.cons (L2.mixKind_int prog w y' u') .nil)⟩
  by_cases ek : (x, y) = (x', y')
  · have ee := hdd ek
    have hb : lexB (x, y) (x', y') = false := by rw [ek]; exact lexB_no.mpr (by omega)
    have hb' : (if (x, y).1 = (x', y').1 then decide ((x, y).2 < (x', y').2) else decide ((x, y).1 < (x', y').1)) = false := hb
    rw [hb']
    have ea : a = a' := by rw [e, e'] at ee; injection ee
    subst ea
    rw [ho] at ho'; cases ho'
    rw [hdt] at hdt'
    injection hdt' with hd5 hd6
    subst hd6
    have l1 := congrArg Array.toList hd5
    injection l1 with l2 l3
    injection l3 with l4 l5
    subst l4
    rw [e, e']
    refine PySem.W.kat_lt ho hdt ho hdt ?_
    show PySem.W.KatLex prog w A false (decide (2 < 2)) _ [(.ref c, .ref c), (z, z)] 0 s
    refine PySem.W.kat_cons (eqBool_self (by simp) ?_)
    refine PySem.W.kat_yes (PySem.W.kat_cons (eqBool_self hz ?_))
    exact PySem.W.kat_yes (PySem.W.kat_nil ⟨rfl, rfl⟩)
  · rw [e, e']
    refine PySem.W.kat_lt ho hdt ho' hdt' ?_
    show PySem.W.KatLex prog w A false (decide (2 < 2)) _ [(.ref c, .ref c'), (z, z')] 0 s
    refine PySem.W.kat_cons (wpAny_eqBool_tuple hu k1 k2 ?_)
    refine PySem.W.kat_go (fun e0 => ?_) (fun _ => ?_)
    · exfalso
      have z0 := of_decide_eq_true e0
      injection z0 with z1 z2
      injection z2 with z3 _
      exact ek (by rw [Sum.inl.inj z1, Sum.inl.inj z3])
    · refine PySem.W.kat_no ?_
      show wpAny _ _ (oneLt' false _ _) _ _ _
      refine PySem.W.kat_one _ _ (HT.lt_tupInts (ns := [x, y]) (ms := [x', y']) ⟨o2, ho2, hc2, n2, hd2⟩ ⟨o2', ho2', hc2', n2', hd2'⟩ ?_ ?_ hu ?_)
      · exact intsAre_of (ns := [x, y]) (.cons ⟨t, rfl⟩ (.cons ⟨u, rfl⟩ .nil))
      · exact intsAre_of (ns := [x', y']) (.cons ⟨t', rfl⟩ (.cons ⟨u', rfl⟩ .nil))
      · refine ⟨rfl, ?_⟩
        show HT.lexLt [x, y] [x', y'] = (if x = x' then decide (y < y') else decide (x < x'))
        rw [HT.lexLt_cons]
        by_cases h : x = x'
        · rw [if_pos h, if_pos h, HT.lexLt_cons]
          by_cases h2 : y = y'
          · exact absurd (by rw [h, h2]) ek
          · rw [if_neg h2]
        · rw [if_neg h, if_neg h]
theorem np_firsts {h : Heap} : ∀ {vs : List Value}, (∀ v ∈ vs, ∃ i j, IsNP h v i j) → ∃ fs : List Value, PySem.W.KatTups h vs fs ∧ fs.length = vs.length ∧ ∀ f ∈ fs, ∃ (q : Addr) (o : Obj), f = Value.ref q ∧ h.get? q = some o ∧ o.cls = .type "tuple"
  | [], _ => ⟨[], PySem.W.KatTups.nil, rfl, fun f hf => by simp at hf⟩
  | v :: vs, x => by
    obtain ⟨fs, k, hl, hi⟩ := np_firsts (vs := vs) fun u hu => x u (List.mem_cons_of_mem _ hu)
    obtain ⟨i, j, a, q, z, t, u, o, n, o2, n2, rfl, ho, hc, hd, ho2, hc2, _⟩ := x v List.mem_cons_self
    refine ⟨.ref q :: fs, PySem.W.KatTups.cons ho hc hd rfl k, by rw [List.length_cons, List.length_cons, hl], fun f hf => ?_⟩
    rcases List.mem_cons.mp hf with rfl | hf
    · exact ⟨q, o2, rfl, ho2, hc2⟩
    · exact hi f hf
theorem np_sortable {a : Addr} {vs : List Value} {k : Value → Int × Int} (hu : A.units < cLine) (h0 : 0 < vs.length) (hp : ∀ v ∈ vs, IsNP s.heap v (k v).1 (k v).2) (hdd : ∀ v ∈ vs, ∀ u ∈ vs, k v = k u → v = u) (ha : ∀ o, s.heap.get? a = some o → o.cls ≠ .type "tuple") :
    SortableO prog w A s a vs fun v u => lexB (k v) (k u) := by
  intro h' keep
  have hp' : ∀ v ∈ vs, IsNP h' v (k v).1 (k v).2 := fun v hm => (hp v hm).keeps fun b o e c => keep b o (fun z => by subst z; exact ha o e c) e
  obtain ⟨fs, h1, h2, h3⟩ := np_firsts fun v hm => ⟨_, _, hp' v hm⟩
  refine ⟨tuples' false, fun Q E hq => ?_, np_cmp hu hp' hdd⟩
  refine PySem.W.kat_kind (T := .type "tuple") h1 (by omega) (fun f hm => ?_) (by rfl) ?_
  · obtain ⟨q, o, rfl, ho, hc⟩ := h3 f hm
    have z : PySem.W.Looks (model prog w) h' (typeOf (.ref q)) o.cls := (PySem.W.Looks.ld ho).andThen .now
    rw [hc] at z
    exact z
  · have e : (Value.type "tuple" != Value.type "tuple") = false := by first | rfl | decide | simp
    rw [e]
    exact hq
theorem sorted_np {l : Addr} {vs : List Value} {k : Value → Int × Int} {Q : Value → Shared → Prop} (hu : A.in1.in1.units < cLine) (hl : s.heap.IsList l vs.toArray) (hz : vs.length ≤ sizeLine) (hp : ∀ v ∈ vs, IsNP s.heap v (k v).1 (k v).2) (hdd : ∀ v ∈ vs, ∀ u ∈ vs, k v = k u → v = u)
    (h : ∀ (h' : Heap) (d : Addr) (out : List Value), Srtd (fun v u => lexB (k v) (k u)) out → Stb (fun v u => lexB (k v) (k u)) out vs → (∀ b o, s.heap.get? b = some o → h'.get? b = some o) → s.heap.objs.size ≤ d → (∃ n, h'.get? d = some (seqObj "list" out.toArray n)) → Q (.ref d) { s with heap := h' }) :
    wpAny (model prog w) A (call (.builtin "sorted") [.ref l]) Q E s := by
  refine sorted_ord (swo_lex k) hl hz (fun h2 h₁ a ha kk => ?_) fun out hs hb => ?_
  · refine np_sortable (s := { s with heap := h₁ }) hu (by omega) (fun v hm => (hp v hm).keeps fun b o e _ => (kk b o e).2) hdd fun o e => ?_
    have e' : some o = some (seqObj "list" vs.toArray 0) := e.symm.trans ha
    cases e'
    intro c
    exact absurd (Value.type.inj c) (by decide)
  · exact h _ _ out hs hb (fun b o e => sortedAll_old e) (Nat.le_succ _) (sortedAll_at s.heap vs out.toArray)
end
/-- sorted(xs), xs a list of pairs ((i, j), x) with distinct (i, j) (k says which) -/
def kSortN (K : PySem.W.Frag) : List V → Hp → VK → Prop := fun vs H Q => ∃ (a : Addr) (xs : List V) (k : V → Int × Int), vs = [V.ref a] ∧ SqL K H a xs ∧ (∀ x ∈ xs, ∃ t q z, x = V.ref t ∧ H t = some (.tup [.ref q, z]) ∧ H q = some (.tup [.int (k x).1, .int (k x).2])) ∧
  (∀ x ∈ xs, ∀ y ∈ xs, k x = k y → x = y) ∧ ∀ ys, Srtd (ltP k) ys → Stb (ltP k) ys xs → New H (.lst ys) Q
theorem relV_beq {v : V} {u : Value} (h : RelV v u) (n : ∀ b, v ≠ .flt b) : (u == u) = true := by
  first | exact beq_self_eq_true u | simp
theorem ksortN {X : Cx} {K : PySem.W.Frag} (hu : X.A.in1.in1.units < cLine) (h : X.K = K := by rfl) : CallR X (.builtin "sorted") (kSortN K) := by
  subst h
  intro pins s σ H vs us Q I r h
  obtain ⟨a, xs, k, rfl, hs, hx, hdd, q⟩ := h
  obtain ⟨its, rv, hl, hz⟩ := I.list hs
  obtain ⟨u, rfl, ru⟩ := vals1 r
  obtain rfl : u = Value.ref a := ru
  obtain ⟨e1, e2⟩ := refs_back rv fun x m => by
    obtain ⟨t, _, _, e, _⟩ := hx x m
    exact ⟨t, e⟩
  refine sorted_np (k := fun u => k (backV u)) hu hl.isList (by rw [← rv.length]; exact hz) (fun v hv => ?_) (fun v hv u hu2 ek => ?_) fun h' d out h1 h2 kp hd hn => ?_
  · obtain ⟨t, rfl⟩ := e2 v hv
    have hm : V.ref t ∈ xs := by rw [e1]; exact List.mem_map.mpr ⟨_, hv, rfl⟩
    obtain ⟨t', q', z, e, ht, hq⟩ := hx _ hm
    cases e
    obtain ⟨_, its2, r2, o, ho, hc, n, hd⟩ := I.hok _ _ ht
    obtain ⟨u1, u2, rfl, ri, rj⟩ := vals2 r2
    obtain rfl : u1 = Value.ref q' := ri
    obtain ⟨_, its3, r3, o3, ho3, hc3, n3, hd3⟩ := I.hok _ _ hq
    obtain ⟨w1, w2, rfl, rk, rl⟩ := vals2 r3
    obtain ⟨t1, rfl⟩ := rk
    obtain ⟨t2, rfl⟩ := rl
    exact ⟨t, q', u2, t1, t2, o, n, o3, n3, rfl, ho, hc, hd, ho3, hc3, hd3, by simp⟩
  · obtain ⟨t, rfl⟩ := e2 v hv
    obtain ⟨t', rfl⟩ := e2 u hu2
    have := hdd (.ref t) (by rw [e1]; exact List.mem_map.mpr ⟨_, hv, rfl⟩) (.ref t') (by rw [e1]; exact List.mem_map.mpr ⟨_, hu2, rfl⟩) ek
    cases this
    rfl
  · have h3 : ∀ u ∈ out, ∃ a, u = Value.ref a := fun u hu => e2 u (h2.perm.mem_iff.mp hu)
    obtain ⟨n, hn⟩ := hn
    have hb : Stb (ltP k) (out.map backV) xs := by
      rw [e1]
      exact Stb.map (ltP_swo k) backV h2
    refine ⟨.ref d, upd H d (.lst (out.map backV)), I.laid (t' := s.toks) kp hd ⟨?_, out, n, vals_back h3, hn⟩, rfl, (q _ (srtd_map h1) hb).old d (I.hok.fresh hd)⟩
    rw [hb.len]
    exact hz
end MD

namespace MD
open PySem PySem.Spec PyProof.Rows L2
/-! ### dicts with tuple keys; locks; comprehensions of two clauses; sums -/
theorem Kp.same {M : List Addr} {H H2 : Hp} {d : Addr} {u : HO} (k : Kp (d :: M) H H2) (h : H d = some u) (h2 : H2 d = some u) : Kp M H H2 := by
  refine ⟨fun b o e n nb => ?_, k.tup, k.live, k.tab⟩
  by_cases z : b = d
  · rw [z] at e ⊢
    rw [h] at e; cases e; exact h2
  · exact k.keep b o e (fun q => (List.mem_cons.mp q).elim z n) nb
section
variable {X : Cx} {pos : Pos}
def kNewT : TE := fun _ H Q => New H (.dT []) Q
theorem ke_dnewT : PE X (.Dict [] [] pos) kNewT := peI pe_dnewT fun σ H Q q => New.old q
def kNewK : TE := fun _ H Q => New H (.dK []) Q
theorem ke_dnewK : PE X (.Dict [] [] pos) kNewK := peI pe_dnewK fun σ H Q q => New.old q
def kDPutT (td ty tv : TE) : TS := fun D σ H => tv σ H fun v H1 => td σ H1 fun x H2 => ty σ H2 fun y H3 => ∃ a kvs k b, x = .ref a ∧ y = .ref b ∧ H3 a = some (.dT kvs) ∧ H3 b = some (.tup (k.map kV)) ∧ kvs.length < sizeLine ∧ Wr H3 a (.dT (putK kvs k v)) (D.nx σ)
theorem ks_dputT {o i value : Expr} {pos' : Pos} {td ty tv : TE} (hu : X.A.units + 1 < cLine) (ho : PE X o td) (hi : PE X i ty) (hv : PE X value tv) (hs : swapsWith value (some (.Subscript o i pos')) pos.line X.env = pure false) :
    PS X (.Assign [.Subscript o i pos'] value pos) (kDPutT td ty tv) :=
  psI (ps_dput hu (peM ho) (peM hi) (peM hv) hs) fun D σ H q => ⟨_, q, fun v H1 q => ⟨_, q, fun x H2 q => ⟨_, q, fun y H3 ⟨a, kvs, k, b, h1, h2, h3, h4, h5, q⟩ => ⟨a, _, h1, .inr ⟨kvs, k, b, h3, h2, h4, h5, rfl⟩, q.old h3 trivial⟩⟩⟩⟩
def kLockE (t : TE) : TE := fun σ H Q => ∃ d u, H d = some u ∧ Mut (some u) ∧ NT u ∧ ∀ od H1, Kp [d] H H1 → H1 d = some (.frz od u) → t σ H1 fun v H' => H' d = some (.frz od u) ∧ Wr H' d u (Q v)
theorem ke_lock {e : Expr} {t : TE} (h : PE X e t) : PE X e (kLockE t) :=
  peI (pe_lock (peM h)) fun σ H Q ⟨d, u, h1, h2, nt, q⟩ => ⟨d, u, h1, h2, fun od => ⟨_, q od _ (Kp.old h1 nt List.mem_cons_self) upd_same, fun v H' ⟨h3, w⟩ => ⟨h3, w.old h3 trivial⟩⟩⟩
end
/-! the keys of a locked dict, one by one -/
section
variable {d : Addr} {od : Obj} {kvs : List (List Key × V)} {g : TG} {tt : TT} {te : TE} {vs : List Nat} {σ : L2.St} {H1 : Hp} {D : Addr} {Qd : Hp → Prop}
theorem kl_keysT (Pv : Nat → List V → Hp → Prop) (h0 : Pv 0 [] H1) (hl : ∀ i acc H, Pv i acc H → H d = some (.frz od (.dT kvs)))
    (hs : ∀ i k v q acc H, kvs[i]? = some (k, v) → H q = some (.tup (k.map kV)) → H D = some (.lst acc) → Pv i acc H → Turn1 g tt te vs σ D acc (Pv (i + 1)) (.ref q) H) (hd : ∀ acc H, H D = some (.lst acc) → Pv kvs.length acc H → Qd H) : kLcW g tt te vs σ (Itkt d od kvs) D H1 Qd := by
  refine ⟨fun i m acc H => m = kvs.length - i ∧ i ≤ kvs.length ∧ Pv i acc H, ⟨kvs.length, by simp, Nat.zero_le _, h0⟩, ?_⟩
  rintro i m acc H hD ⟨rfl, hi, p⟩
  have q := hl i acc H p
  by_cases hlt : i < kvs.length
  · refine .inr ⟨⟨q, hlt⟩, Pv (i + 1), fun acc H' p' => ⟨kvs.length - (i + 1), by omega, rfl, hlt, p'⟩, fun x H' y => ?_⟩
    obtain ⟨e, k, v, b, e1, e2, e3⟩ := y
    subst e e2
    exact hs i k v b acc _ e1 e3 hD p
  · have e : i = kvs.length := by omega
    subst e
    exact .inl ⟨⟨q, Nat.le_refl _⟩, hd acc H hD p⟩
end
/-! two clauses: the inner loop goes on with what the list holds -/
def kGo (g : TG) (tt : TT) (te : TE) (vs : List Nat) (σ : L2.St) (J : It) (D : Addr) (acc0 : List V) (H0 : Hp) (Nx : List V → Hp → Prop) : Prop := ∃ W : Nat → Nat → List V → Hp → Prop, (∃ m, W 0 m acc0 H0) ∧ ∀ i m acc H, H D = some (.lst acc) → W i m acc H →
  (J.stop i H ∧ Nx acc H) ∨ (J.go i H ∧ ∃ Nx1 : List V → Hp → Prop, (∀ acc H', Nx1 acc H' → ∃ m', m' < m ∧ W (i + 1) m' acc H') ∧ ∀ x H', J.yld i H x H' → Turn1 g tt te vs σ D acc Nx1 x H')
def Turn2 (g : TG) (tt : TT) (wi1 : TI) (g1 : TG) (tt1 : TT) (te : TE) (vs vs1 : List Nat) (σ : L2.St) (D : Addr) (acc : List V) (Nx : List V → Hp → Prop) (x : V) (H' : Hp) : Prop :=
  g x (wipe σ vs) H' fun σ2 H2 => wipe σ2 vs = wipe σ vs ∧ tt σ2 H2 fun b H3 => if b = true then wi1 σ2 H3 (fun J1 H4 => H4 D = some (.lst acc) ∧ kGo g1 tt1 te vs1 σ2 J1 D acc H4 Nx) else H3 D = some (.lst acc) ∧ Nx acc H3
def kLc2W (g : TG) (tt : TT) (wi1 : TI) (g1 : TG) (tt1 : TT) (te : TE) (vs vs1 : List Nat) (σ : L2.St) (J : It) (D : Addr) (H1' : Hp) (Qd : Hp → Prop) : Prop := ∃ W : Nat → Nat → List V → Hp → Prop, (∃ m, W 0 m [] H1') ∧ ∀ i m acc H, H D = some (.lst acc) → W i m acc H →
  (J.stop i H ∧ Qd H) ∨ (J.go i H ∧ ∃ Nx : List V → Hp → Prop, (∀ acc H', Nx acc H' → ∃ m', m' < m ∧ W (i + 1) m' acc H') ∧ ∀ x H', J.yld i H x H' → Turn2 g tt wi1 g1 tt1 te vs vs1 σ D acc Nx x H')
def kLc2 (wi : TI) (g : TG) (tt : TT) (wi1 : TI) (g1 : TG) (tt1 : TT) (te : TE) (vs vs1 : List Nat) : TE := fun σ H Q => wi σ H fun J H1 => ∀ D H1', H1 D = none → Kp [] H1 H1' → H1' D = some (.lst []) → kLc2W g tt wi1 g1 tt1 te vs vs1 σ J D H1' (Q (.ref D))
theorem kLc2.old {wi wi1 : TI} {g g1 : TG} {tt tt1 : TT} {te : TE} {vs vs1 : List Nat} {σ : L2.St} {H : Hp} {Q : VK} (h : kLc2 wi g tt wi1 g1 tt1 te vs vs1 σ H Q) : tLc2 (mI wi) (mG g) (mT tt) (mI wi1) (mG g1) (mT tt1) (mE te) vs vs1 σ H Q := by
  refine ⟨_, h, fun J H1 r D hD => ?_⟩
  obtain ⟨W, ⟨m, w0⟩, turn⟩ := r D _ hD (Kp.new hD) upd_same
  refine ⟨fun i m H => ∃ acc, H D = some (.lst acc) ∧ W i m acc H, ⟨m, [], upd_same, w0⟩, ?_⟩
  rintro i m H ⟨acc, hD, w⟩
  rcases turn i m acc H hD w with ⟨a, b⟩ | ⟨go, Nx, hN, step⟩
  · exact .inl ⟨a, b⟩
  · refine .inr ⟨go, fun H' => ∃ acc, H' D = some (.lst acc) ∧ Nx acc H', fun H' ⟨acc', h1, h2⟩ => let ⟨m', a, b⟩ := hN acc' H' h2; ⟨m', a, acc', h1, b⟩, fun x H' y => ?_⟩
    refine ⟨_, step x H' y, fun σ2 H2 ⟨e, t⟩ => ⟨e, _, t, fun b H3 q => ?_⟩⟩
    cases b with
    | false => exact iteF ⟨acc, q⟩
    | true =>
      refine iteT ⟨_, (show wi1 σ2 H3 (fun J1 H4 => H4 D = some (.lst acc) ∧ kGo g1 tt1 te vs1 σ2 J1 D acc H4 Nx) from q), fun J1 H4 ⟨hD4, W1, ⟨m1, w1⟩, turn1⟩ => ?_⟩
      refine ⟨fun i m H => ∃ acc, H D = some (.lst acc) ∧ W1 i m acc H, ⟨m1, acc, hD4, w1⟩, ?_⟩
      rintro j k H ⟨acc1, hD1, w⟩
      rcases turn1 j k acc1 H hD1 w with ⟨a, b⟩ | ⟨go1, Nx1, hN1, step1⟩
      · exact .inl ⟨a, acc1, hD1, b⟩
      · refine .inr ⟨go1, fun H' => ∃ acc, H' D = some (.lst acc) ∧ Nx1 acc H', fun H' ⟨acc', h1, h2⟩ => let ⟨m', a, b⟩ := hN1 acc' H' h2; ⟨m', a, acc', h1, b⟩, fun x H' y => ?_⟩
        refine ⟨_, step1 x H' y, fun σ3 H5 ⟨e, t⟩ => ⟨e, _, t, fun b H6 q => ?_⟩⟩
        cases b with
        | true =>
          refine iteT ?_
          refine ⟨_, (show te σ3 H6 (Put D acc1 Nx1) from q), fun y H4 ⟨h1, h2, h3⟩ => ⟨acc1, h1, h2, _, upd_same, h3 _ (Kp.old h1 trivial List.mem_cons_self) upd_same⟩⟩
        | false => exact iteF ⟨acc1, q⟩
section
variable {X : Cx}
theorem ke_lc2 {elt tg iter tg1 iter1 : Expr} {ifs ifs1 : List Expr} {scope : Scope} {own : List (Str × Nat)} {vs1 : List Nat} {pos : Pos} {wi wi1 : TI} {g g1 : TG} {tt tt1 : TT} {te : TE} (hc : X.calm = true) (hN : X.N.Nodup) (hi : PI X tg iter wi) (ok : BlkOk X.N X.env.scope scope own) (hv : ∀ i ∈ vs1, i ∈ own.map (·.2))
    (hg : ∀ (s : Shared) (H : Hp) (C : Addr) (cl : List (Str × Addr)) (fp : List Addr), PG (X.blk s H scope (compEnvC scope cl C X.env) fp) tg g) (ht : ∀ (s : Shared) (H : Hp) (C : Addr) (cl : List (Str × Addr)) (fp : List Addr), PTs (X.blk s H scope (compEnvC scope cl C X.env) fp) ifs tt)
    (hi1 : ∀ (s : Shared) (H : Hp) (C : Addr) (cl : List (Str × Addr)) (fp : List Addr), PI (X.blk s H scope (compEnvC scope cl C X.env) fp) tg1 iter1 wi1)
    (hg1 : ∀ (s : Shared) (H : Hp) (C : Addr) (cl : List (Str × Addr)) (fp : List Addr), PG (X.blk s H scope (compEnvC scope cl C X.env) fp) tg1 g1) (ht1 : ∀ (s : Shared) (H : Hp) (C : Addr) (cl : List (Str × Addr)) (fp : List Addr), PTs (X.blk s H scope (compEnvC scope cl C X.env) fp) ifs1 tt1)
    (he : ∀ (s : Shared) (H : Hp) (C : Addr) (cl : List (Str × Addr)) (fp : List Addr), PE (X.blk s H scope (compEnvC scope cl C X.env) fp) elt te) (hs : ∀ x, foldedSetIterable iter X.env x = pure x := by intro _; rfl) (hs1 : ∀ env x, foldedSetIterable iter1 env x = pure x := by intro _ _; rfl) :
    PE X (.ListComp elt [⟨tg, iter, ifs, 0⟩, ⟨tg1, iter1, ifs1, 0⟩] scope pos) (kLc2 wi g tt wi1 g1 tt1 te (own.map (·.2)) vs1) :=
  peI (pe_lc2 hc hN (piM hi) ok hv (fun a b c d e => pgM (hg a b c d e)) (fun a b c d e => ptsM (ht a b c d e)) (fun a b c d e => piM (hi1 a b c d e)) (fun a b c d e => pgM (hg1 a b c d e)) (fun a b c d e => ptsM (ht1 a b c d e)) (fun a b c d e => peM (he a b c d e)) hs hs1) fun σ H Q q => kLc2.old q
theorem sumK {K : PySem.W.Frag} (hc : X.calm = true) (h : X.K = K := by rfl) : CallR X (.builtin "sum") (rSum K) := by subst h; exact cr_sum hc
theorem pgtK {K : PySem.W.Frag} {es : List Expr} {k : Nat} {t : TGs} {n : Nat} {pos : Pos} (hc : X.calm = true) (h : PGs X es t)
    (hn : (assignEach es X.env).length = n := by rfl) (hst : (assignEach es X.env).findIdx? (·.1) = none := by rfl) (hK : X.K = K := by rfl) : PG X (.Tuple es k pos) (gTup K n t) := by subst hK; exact pg_tup hc h hn hst
theorem pitK {K : PySem.W.Frag} {tg l : Expr} {tl : TE} (hl : PE X l tl) (hK : X.K = K := by rfl) : PI X tg l (iTup K tl) := by subst hK; exact pi_tup hl
theorem pilK {K : PySem.W.Frag} {tg l : Expr} {tl : TE} (hl : PE X l tl) (hK : X.K = K := by rfl) : PI X tg l (iList K tl) := by subst hK; exact pi_list hl
end
section
variable {K : PySem.W.Frag} {a : Addr} {xs : List V} {g : TG} {tt : TT} {te : TE} {vs : List Nat} {σ : L2.St} {H1 : Hp} {D : Addr}
theorem kg_range {lo : Int} {n : Nat} {acc0 : List V} {Nx : List V → Hp → Prop} (Pv : Nat → List V → Hp → Prop) (h0 : Pv 0 acc0 H1)
    (hs : ∀ i acc H, i < n → H D = some (.lst acc) → Pv i acc H → Turn1 g tt te vs σ D acc (Pv (i + 1)) (.int (lo + i)) H) (hd : ∀ acc H, H D = some (.lst acc) → Pv n acc H → Nx acc H) : kGo g tt te vs σ (Itr lo n) D acc0 H1 Nx := by
  refine ⟨fun i m acc H => m = n - i ∧ i ≤ n ∧ Pv i acc H, ⟨n, by simp, Nat.zero_le _, h0⟩, ?_⟩
  rintro i m acc H hD ⟨rfl, hi, p⟩
  by_cases hlt : i < n
  · refine .inr ⟨hlt, Pv (i + 1), fun acc H' p' => ⟨n - (i + 1), by omega, rfl, hlt, p'⟩, fun x H' y => ?_⟩
    obtain ⟨e, y⟩ := y
    subst e y
    exact hs i acc _ hlt hD p
  · have e : i = n := by omega
    subst e
    exact .inl ⟨Nat.le_refl _, hd acc H hD p⟩
theorem k2_tup {wi1 : TI} {g1 : TG} {tt1 : TT} {vs1 : List Nat} {Qd : Hp → Prop} (Pv : Nat → List V → Hp → Prop) (h0 : Pv 0 [] H1) (hl : ∀ i acc H, Pv i acc H → SqT K H a xs)
    (hs : ∀ i x acc H, xs[i]? = some x → H D = some (.lst acc) → Pv i acc H → Turn2 g tt wi1 g1 tt1 te vs vs1 σ D acc (Pv (i + 1)) x H) (hd : ∀ acc H, H D = some (.lst acc) → Pv xs.length acc H → Qd H) : kLc2W g tt wi1 g1 tt1 te vs vs1 σ (Itt K a) D H1 Qd := by
  refine ⟨fun i m acc H => m = xs.length - i ∧ i ≤ xs.length ∧ Pv i acc H, ⟨xs.length, by simp, Nat.zero_le _, h0⟩, ?_⟩
  rintro i m acc H hD ⟨rfl, hi, p⟩
  have q := hl i acc H p
  by_cases hlt : i < xs.length
  · refine .inr ⟨⟨xs, xs[i], q, by simp [hlt]⟩, Pv (i + 1), fun acc H' p' => ⟨xs.length - (i + 1), by omega, rfl, hlt, p'⟩, fun x H' y => ?_⟩
    obtain ⟨e, y⟩ := y
    subst e
    exact hs i x acc _ (y xs q) hD p
  · have e : i = xs.length := by omega
    subst e
    exact .inl ⟨⟨xs, q, Nat.le_refl _⟩, hd acc H hD p⟩
end
theorem if_true {A B : Prop} (h : A) : if true = true then A else B := iteT h
/-! ### what a party needs -/
abbrev Kvs := List (List Key × V)
def cellK (k t : Int) : List Key := [.inl k, .inl t]
def cntV (kvs : Kvs) (c : List Key) : Int := match valV kvs c with
  | some (.int n) => n
  | _ => 0
def bump (kvs : Kvs) (c : List Key) : Kvs := putK kvs c (.int (cntV kvs c + 1))
def bumps (kvs : Kvs) (k f : Int) : Nat → Kvs
  | 0 => kvs
  | n + 1 => bump (bumps kvs k f n) (cellK k (f + n))
def needs1 (kvs : Kvs) (s : Sy) : Kvs := bumps kvs s.1 s.2.1 (s.2.2 - s.2.1).toNat
def needsL (p : List Sy) : Kvs := p.foldl needs1 []
def AllI (kvs : Kvs) : Prop := ∀ c v, valV kvs c = some v → ∃ n, v = .int n
theorem AllI.nil : AllI [] := fun c v h => by rw [valV_nil] at h; cases h
theorem AllI.bump {kvs : Kvs} (h : AllI kvs) (c : List Key) : AllI (bump kvs c) := fun d v e => by
  unfold MD.bump at e
  rw [valV_put] at e
  split at e
  · exact ⟨_, (Option.some.inj e).symm⟩
  · exact h d v e
theorem AllI.bumps {kvs : Kvs} (h : AllI kvs) (k f : Int) : ∀ n, AllI (bumps kvs k f n)
  | 0 => h
  | n + 1 => (AllI.bumps h k f n).bump _
theorem cnt_get {kvs : Kvs} (h : AllI kvs) (c : List Key) : (valV kvs c).getD (.int 0) = .int (cntV kvs c) := by
  unfold cntV
  cases e : valV kvs c with
  | none => rfl
  | some v => obtain ⟨n, rfl⟩ := h c v e; rfl
theorem putK_le {κ : Type} [DecidableEq κ] (kvs : List (κ × V)) (k : κ) (v : V) : (putK kvs k v).length ≤ kvs.length + 1 := by
  unfold putK
  split
  · rw [List.length_map]; omega
  · rw [List.length_append]; simp
theorem bumps_le (kvs : Kvs) (k f : Int) : ∀ n, (bumps kvs k f n).length ≤ kvs.length + n
  | 0 => Nat.le_refl _
  | n + 1 => by
    have := bumps_le kvs k f n
    have h2 := putK_le (bumps kvs k f n) (cellK k (f + n)) (.int (cntV (bumps kvs k f n) (cellK k (f + n)) + 1))
    show (bump _ _).length ≤ _
    unfold bump
    omega
/-- stays within twelve nights -/
def Sb (s : Sy) : Prop := 0 ≤ s.2.1 ∧ s.2.1 ≤ s.2.2 ∧ s.2.2 ≤ 12
theorem Sy.ok.sb {su : Su} {s : Sy} (h : Sy.ok su s) (hs : su.ok) : Sb s := by
  have := h.f0; have := h.fe; have := h.e1; have := hs.n12
  exact ⟨by omega, by omega, by omega⟩
theorem needs_snoc {p : List Sy} {i : Nat} {s : Sy} (h : p[i]? = some s) : needsL (p.take (i + 1)) = needs1 (needsL (p.take i)) s := by
  unfold needsL
  rw [List.take_add_one, h, List.foldl_append]; rfl
theorem needs_le : ∀ (p : List Sy) (kvs : Kvs), (∀ s ∈ p, Sb s) → (p.foldl needs1 kvs).length ≤ kvs.length + 12 * p.length
  | [], kvs, _ => Nat.le_refl _
  | s :: r, kvs, h => by
    have h1 := needs_le r (needs1 kvs s) fun x hx => h x (List.mem_cons_of_mem _ hx)
    have h2 := bumps_le kvs s.1 s.2.1 (s.2.2 - s.2.1).toNat
    have h3 := h s List.mem_cons_self
    unfold Sb at h3
    rw [List.foldl_cons, List.length_cons]
    unfold needs1 at h1 ⊢
    omega
theorem needs_int : ∀ (p : List Sy) (kvs : Kvs), AllI kvs → AllI (p.foldl needs1 kvs)
  | [], _, h => h
  | s :: r, kvs, h => needs_int r _ (h.bumps _ _ _)
theorem cell_tup {H : Hp} {a : Addr} {k t : Int} (h : H a = some (.tup [.int k, .int t])) : H a = some (.tup ((cellK k t).map kV)) := h
end MD

namespace MD
open PySem PySem.Spec PyProof.Rows L2
/-! ### the prices of nights -/
def priceAt (su : Su) (k t : Int) : Int := (su.prices.getD k.toNat []).getD t.toNat 0
def stayL (su : Su) (s : Sy) : Nat → List Int := fun n => (List.range n).map fun (j : Nat) => priceAt su s.1 (s.2.1 + j)
def nightL (su : Su) (p : List Sy) : List Int := p.flatMap fun s => stayL su s (s.2.2 - s.2.1).toNat
theorem stayL_snoc (su : Su) (s : Sy) (n : Nat) : stayL su s (n + 1) = stayL su s n ++ [priceAt su s.1 (s.2.1 + n)] := by
  unfold stayL
  rw [List.range_succ, List.map_append]; rfl
theorem nightL_snoc {su : Su} {p : List Sy} {i : Nat} {s : Sy} (h : p[i]? = some s) : nightL su (p.take (i + 1)) = nightL su (p.take i) ++ stayL su s (s.2.2 - s.2.1).toNat := by
  unfold nightL
  rw [List.take_add_one, h, List.flatMap_append]
  simp
theorem stayL_len (su : Su) (s : Sy) (n : Nat) : (stayL su s n).length = n := by unfold stayL; rw [List.length_map, List.length_range]
theorem nightL_len {su : Su} : ∀ {p : List Sy}, (∀ s ∈ p, Sb s) → (nightL su p).length ≤ 12 * p.length
  | [], _ => Nat.le_refl _
  | s :: r, h => by
    have h1 := nightL_len (su := su) (p := r) fun x hx => h x (List.mem_cons_of_mem _ hx)
    have h3 := h s List.mem_cons_self
    unfold Sb at h3
    unfold nightL at h1 ⊢
    rw [List.flatMap_cons, List.length_append, List.length_cons, stayL_len]
    omega
theorem sum_map_flat (φ : Int → Int) {α : Type} (f : α → List Int) : ∀ l : List α, ((l.flatMap f).map φ).sum = (l.map fun s => ((f s).map φ).sum).sum
  | [] => rfl
  | a :: r => by
    rw [List.flatMap_cons, List.map_append, List.sum_append, List.map_cons, List.sum_cons, sum_map_flat φ f r]
/-- a price, read off the setup -/
theorem SuAt.price {H : Hp} {a r p : Addr} {su : Su} (h : SuAt H a r p su) (so : su.ok) {k t : Int} (k0 : 0 ≤ k) (k1 : k < su.rooms.length) (t0 : 0 ≤ t) (t1 : t < su.nights) :
    ∃ (ps : List V) (q : Addr) (row : List Int), H p = some (.tup ps) ∧ atI ps k = some (.ref q) ∧ H q = some (.tup (row.map V.int)) ∧ atI (row.map V.int) t = some (.int (priceAt su k t)) ∧ 0 ≤ priceAt su k t ∧ priceAt su k t ≤ 1000000 := by
  have hl := so.pl
  have hk : k.toNat < su.prices.length := by omega
  have e : su.prices[k.toNat]? = some (su.prices[k.toNat]) := by simp [hk]
  obtain ⟨ps, q, h1, h2, h3⟩ := h.row e
  have hr := so.pr _ (List.getElem_mem hk)
  have ht : t.toNat < (su.prices[k.toNat]).length := by omega
  have e2 : (su.prices[k.toNat])[t.toNat]? = some ((su.prices[k.toNat])[t.toNat]) := by simp [ht]
  have e3 : priceAt su k t = (su.prices[k.toNat])[t.toNat] := by
    unfold priceAt
    rw [List.getD_eq_getElem?_getD, List.getD_eq_getElem?_getD, e, Option.getD_some, e2, Option.getD_some]
  have hp := hr.2 _ (List.getElem_mem ht)
  exact ⟨ps, q, _, h1, at_of k0 h2, h3, by rw [e3]; exact int_at t0 e2, by rw [e3]; exact hp.1, by rw [e3]; exact hp.2⟩
theorem yesT {σ : L2.St} {H : Hp} {A B : Hp → Prop} (h : A H) : tYes σ H (fun b H3 => if b = true then A H3 else B H3) := by
  show (if true = true then A H else B H)
  exact iteT h
end MD

namespace MD
open PySem PySem.Spec PyProof.Rows L2
/-! ### dicts from pairs of ints to data, as lists of entries -/
def enD (f : V → D) (e : (Int × Int) × V) : D := .sq false [.sq false [.v (.int e.1.1), .v (.int e.1.2)], f e.2]
def kvsOf (es : List ((Int × Int) × V)) : Kvs := es.map fun e => (cellK e.1.1 e.1.2, e.2)
theorem cellK_inj {a b c d : Int} (h : cellK a b = cellK c d) : (a, b) = (c, d) := by
  unfold cellK at h
  injection h with h1 h2
  injection h2 with h3 _
  rw [Sum.inl.inj h1, Sum.inl.inj h3]
theorem valV_kvs {es : List ((Int × Int) × V)} (nd : (es.map (·.1)).Nodup) {e : (Int × Int) × V} (h : e ∈ es) : valV (kvsOf es) (cellK e.1.1 e.1.2) = some e.2 := by
  induction es with
  | nil => cases h
  | cons a r ih =>
    rw [List.map_cons, List.nodup_cons] at nd
    by_cases q : cellK a.1.1 a.1.2 = cellK e.1.1 e.1.2
    · have ek : a.1 = e.1 := cellK_inj q
      have : a = e := by
        rcases List.mem_cons.mp h with z | z
        · exact z.symm
        · exact absurd (List.mem_map.mpr ⟨e, z, ek.symm⟩) nd.1
      subst this
      exact valV_pos (p := (cellK a.1.1 a.1.2, a.2)) rfl
    · have : e ∈ r := by
        rcases List.mem_cons.mp h with z | z
        · exact absurd (by rw [z]) q
        · exact z
      exact (valV_neg (p := (cellK a.1.1 a.1.2, a.2)) q).trans (ih nd.2 this)
/-- the pair's two ints, read off the heap -/
def kyOf (H : Hp) : V → Int × Int
  | .ref t => match H t with
    | some (.tup (.ref q :: _)) => (match H q with
      | some (.tup [.int i, .int j]) => (i, j)
      | _ => (0, 0))
    | _ => (0, 0)
  | _ => (0, 0)
theorem enD_at {H : Hp} {f : V → D} {e : (Int × Int) × V} {x : V} (h : RepT H (enD f e) x) : ∃ t q z, x = .ref t ∧ H t = some (.tup [.ref q, z]) ∧ H q = some (.tup [.int e.1.1, .int e.1.2]) ∧ RepT H (f e.2) z ∧ kyOf H x = e.1 := by
  obtain ⟨t, vs, rfl, ht, r⟩ := h.tupE
  obtain ⟨v1, r1, rfl, h1, h2⟩ := r.consE
  obtain ⟨v2, r2, rfl, h3, h4⟩ := h2.consE
  have := h4.nilE; subst this
  obtain ⟨q, vs2, rfl, hq, r3⟩ := h1.tupE
  obtain ⟨w1, s1, rfl, g1, g2⟩ := r3.consE
  obtain ⟨w2, s2, rfl, g3, g4⟩ := g2.consE
  have := g4.nilE; subst this
  have := g1.vE; subst this
  have := g3.vE; subst this
  refine ⟨t, q, v2, rfl, ht, hq, h3, ?_⟩
  show (match H t with
    | some (.tup (.ref q :: _)) => (match H q with
      | some (.tup [.int i, .int j]) => (i, j)
      | _ => (0, 0))
    | _ => (0, 0)) = e.1
  rw [ht]
  show (match H q with
      | some (.tup [.int i, .int j]) => (i, j)
      | _ => ((0 : Int), (0 : Int))) = e.1
  rw [hq]
theorem RepTs.mem {α : Type} {H : Hp} {f : α → D} {ss : List α} {vs : List V} {x : V} (h : RepTs H (ss.map f) vs) (hx : x ∈ vs) : ∃ (i : Nat) (s : α), vs[i]? = some x ∧ ss[i]? = some s ∧ RepT H (f s) x := by
  obtain ⟨i, hi⟩ := List.mem_iff_getElem?.mp hx
  obtain ⟨s, hs, r⟩ := h.at hi
  exact ⟨i, s, hi, hs, r⟩
/-- what sorted asks of such a list -/
theorem en_sortable {H : Hp} {f : V → D} {es : List ((Int × Int) × V)} {xs : List V} (nd : (es.map (·.1)).Nodup) (r : RepTs H (es.map (enD f)) xs) :
    (∀ x ∈ xs, ∃ t q z, x = V.ref t ∧ H t = some (.tup [.ref q, z]) ∧ H q = some (.tup [.int (kyOf H x).1, .int (kyOf H x).2])) ∧ (∀ x ∈ xs, ∀ y ∈ xs, kyOf H x = kyOf H y → x = y) := by
  refine ⟨fun x hx => ?_, fun x hx y hy e => ?_⟩
  · obtain ⟨i, s, hi, hs, r1⟩ := r.mem hx
    obtain ⟨t, q, z, e, ht, hq, _, ek⟩ := enD_at r1
    exact ⟨t, q, z, e, ht, by rw [ek]; exact hq⟩
  · obtain ⟨i, s, hi, hs, r1⟩ := r.mem hx
    obtain ⟨j, s', hj, hs', r2⟩ := r.mem hy
    obtain ⟨_, _, _, _, _, _, _, e1⟩ := enD_at r1
    obtain ⟨_, _, _, _, _, _, _, e2⟩ := enD_at r2
    rw [e1, e2] at e
    have a1 : (es.map (·.1))[i]? = some s.1 := by rw [List.getElem?_map, hs]; rfl
    have a2 : (es.map (·.1))[j]? = some s'.1 := by rw [List.getElem?_map, hs']; rfl
    have ij : i = j := by
      obtain ⟨h1, g1⟩ := List.getElem?_eq_some_iff.mp a1
      obtain ⟨h2, g2⟩ := List.getElem?_eq_some_iff.mp a2
      exact (List.getElem_inj nd).mp (by rw [g1, g2, e])
    subst ij
    rw [hi] at hj
    exact Option.some.inj hj
/-- the sorted list's data: a rearrangement of the entries, by ascending keys -/
theorem en_sorted {H : Hp} {f : V → D} {es : List ((Int × Int) × V)} {xs ys : List V} (r : RepTs H (es.map (enD f)) xs) (hs : SrtO.Srtd (ltP (kyOf H)) ys) (hp : ys.Perm xs) :
    ∃ es' : List ((Int × Int) × V), es'.Perm es ∧ RepTs H (es'.map (enD f)) ys ∧ es'.Pairwise fun a b => SrtO.lexB b.1 a.1 = false := by
  obtain ⟨es', p, r'⟩ := RepTs.perm hp r
  refine ⟨es', p, r', ?_⟩
  have hl : ys.length = es'.length := r'.lenM
  rw [List.pairwise_iff_getElem]
  intro i j hi hj hij
  obtain ⟨s1, e1, q1⟩ := r'.at (show ys[i]? = some (ys[i]'(by omega)) by simp [show i < ys.length by omega])
  obtain ⟨s2, e2, q2⟩ := r'.at (show ys[j]? = some (ys[j]'(by omega)) by simp [show j < ys.length by omega])
  obtain ⟨_, _, _, _, _, _, _, k1⟩ := enD_at q1
  obtain ⟨_, _, _, _, _, _, _, k2⟩ := enD_at q2
  have h := (List.pairwise_iff_getElem.mp hs) i j (by omega) (by omega) hij
  have h' : SrtO.lexB (kyOf H (ys[j]'(by omega))) (kyOf H (ys[i]'(by omega))) = false := h
  rw [k1, k2] at h'
  have f1 : es'[i] = s1 := by
    have : es'[i]? = some es'[i] := by simp
    rw [this] at e1; exact Option.some.inj e1
  have f2 : es'[j] = s2 := by
    have : es'[j]? = some es'[j] := by simp
    rw [this] at e2; exact Option.some.inj e2
  rw [f1, f2]
  exact h'
theorem en_uniq {es e1 e2 : List ((Int × Int) × V)} (nd : (es.map (·.1)).Nodup) (p1 : e1.Perm es) (p2 : e2.Perm es) (s1 : e1.Pairwise fun a b => SrtO.lexB b.1 a.1 = false) (s2 : e2.Pairwise fun a b => SrtO.lexB b.1 a.1 = false) : e1 = e2 := by
  refine List.Perm.eq_of_pairwise (le := fun a b => SrtO.lexB b.1 a.1 = false) (fun a b ha hb h1 h2 => ?_) s1 s2 (p1.trans p2.symm)
  have a1 := SrtO.lexB_no.mp h1
  have a2 := SrtO.lexB_no.mp h2
  have ek : a.1 = b.1 := by
    refine Prod.ext ?_ ?_ <;> omega
  have ma := p1.mem_iff.mp ha
  have mb := p2.mem_iff.mp hb
  obtain ⟨i, hi⟩ := List.mem_iff_getElem?.mp ma
  obtain ⟨j, hj⟩ := List.mem_iff_getElem?.mp mb
  have g1 : (es.map (·.1))[i]? = some a.1 := by rw [List.getElem?_map, hi]; rfl
  have g2 : (es.map (·.1))[j]? = some b.1 := by rw [List.getElem?_map, hj]; rfl
  have ij : i = j := by
    obtain ⟨h1, g1⟩ := List.getElem?_eq_some_iff.mp g1
    obtain ⟨h2, g2⟩ := List.getElem?_eq_some_iff.mp g2
    exact (List.getElem_inj nd).mp (by rw [g1, g2, ek])
  subst ij
  rw [hi] at hj
  exact Option.some.inj hj
/-! needs, as entries -/
theorem kvs_map (es : List ((Int × Int) × V)) (k t : Int) (v : V) : (kvsOf es).map (fun kv => if kv.1 = cellK k t then (kv.1, v) else kv) = kvsOf (es.map fun e => if e.1 = (k, t) then (e.1, v) else e) := by
  unfold kvsOf
  rw [List.map_map, List.map_map]
  refine List.map_congr_left fun e _ => ?_
  show (if cellK e.1.1 e.1.2 = cellK k t then (cellK e.1.1 e.1.2, v) else (cellK e.1.1 e.1.2, e.2)) = (fun e : (Int × Int) × V => (cellK e.1.1 e.1.2, e.2)) (if e.1 = (k, t) then (e.1, v) else e)
  by_cases h : e.1 = (k, t)
  · rw [if_pos h, if_pos (by rw [h])]
  · rw [if_neg h, if_neg (fun q => h (cellK_inj q))]
theorem putK_kvs {es : List ((Int × Int) × V)} (nd : (es.map (·.1)).Nodup) (k t : Int) (v : V) : ∃ es' : List ((Int × Int) × V), putK (kvsOf es) (cellK k t) v = kvsOf es' ∧ (es'.map (·.1)).Nodup ∧ ∀ e ∈ es', e ∈ es ∨ e.2 = v := by
  unfold putK
  by_cases h : ((kvsOf es).any fun kv => decide (kv.1 = cellK k t)) = true
  · rw [if_pos h, kvs_map]
    refine ⟨_, rfl, ?_, fun e he => ?_⟩
    · have e1 : (es.map fun e => if e.1 = (k, t) then (e.1, v) else e).map (·.1) = es.map (·.1) := by
        rw [List.map_map]
        refine List.map_congr_left fun e _ => ?_
        show (if e.1 = (k, t) then (e.1, v) else e).1 = e.1
        by_cases q : e.1 = (k, t)
        · rw [if_pos q]
        · rw [if_neg q]
      rw [e1]; exact nd
    · obtain ⟨e0, h0, rfl⟩ := List.mem_map.mp he
      by_cases q : e0.1 = (k, t)
      · rw [if_pos q]; exact .inr rfl
      · rw [if_neg q]; exact .inl h0
  · rw [if_neg h]
    refine ⟨es ++ [((k, t), v)], by unfold kvsOf; rw [List.map_append]; rfl, ?_, fun e he => ?_⟩
    · rw [List.map_append, List.nodup_append]
      refine ⟨nd, by simp, fun x hx y hy => ?_⟩
      intro exy
      subst exy
      simp only [List.map_cons, List.map_nil, List.mem_singleton] at hy
      obtain ⟨e0, h0, rfl⟩ := List.mem_map.mp hx
      refine h (List.any_eq_true.mpr ⟨(cellK e0.1.1 e0.1.2, e0.2), List.mem_map.mpr ⟨e0, h0, rfl⟩, ?_⟩)
      simp only [decide_eq_true_eq]
      rw [hy]
    · rcases List.mem_append.mp he with z | z
      · exact .inl z
      · rw [List.mem_singleton.mp z]; exact .inr rfl
def IntE (es : List ((Int × Int) × V)) : Prop := ∀ e ∈ es, ∃ n, e.2 = .int n
theorem bumps_en (k f : Int) : ∀ (n : Nat) {es : List ((Int × Int) × V)}, (es.map (·.1)).Nodup → IntE es → ∃ es' : List ((Int × Int) × V), bumps (kvsOf es) k f n = kvsOf es' ∧ (es'.map (·.1)).Nodup ∧ IntE es'
  | 0, es, nd, hi => ⟨es, rfl, nd, hi⟩
  | n + 1, es, nd, hi => by
    obtain ⟨e1, h1, h2, h3⟩ := bumps_en k f n nd hi
    obtain ⟨e2, h4, h5, h6⟩ := putK_kvs h2 k (f + n) (.int (cntV (kvsOf e1) (cellK k (f + n)) + 1))
    refine ⟨e2, ?_, h5, fun e he => ?_⟩
    · show bump (bumps (kvsOf es) k f n) (cellK k (f + n)) = _
      rw [h1]; exact h4
    · rcases h6 e he with z | z
      · exact h3 e z
      · exact ⟨_, z⟩
theorem needs_en : ∀ (p : List Sy) {es : List ((Int × Int) × V)}, (es.map (·.1)).Nodup → IntE es → ∃ es' : List ((Int × Int) × V), p.foldl needs1 (kvsOf es) = kvsOf es' ∧ (es'.map (·.1)).Nodup ∧ IntE es'
  | [], es, nd, hi => ⟨es, rfl, nd, hi⟩
  | s :: r, es, nd, hi => by
    obtain ⟨e1, h1, h2, h3⟩ := bumps_en s.1 s.2.1 (s.2.2 - s.2.1).toNat nd hi
    obtain ⟨e2, h4, h5, h6⟩ := needs_en r h2 h3
    refine ⟨e2, ?_, h5, h6⟩
    rw [List.foldl_cons]
    show List.foldl needs1 (bumps (kvsOf es) s.1 s.2.1 (s.2.2 - s.2.1).toNat) r = _
    rw [h1]; exact h4
theorem needsL_en (p : List Sy) : ∃ es : List ((Int × Int) × V), needsL p = kvsOf es ∧ (es.map (·.1)).Nodup ∧ IntE es := needs_en p (es := []) List.nodup_nil fun _ h => nomatch h
theorem in12 {A : Around} {k : Nat} (r : Room k A) : A.in1.in1.units < cLine := by
  have := r.un
  show A.units + 1 + 1 < cLine
  omega
def ensD (f : V → D) (es : List ((Int × Int) × V)) : D := .sq true (es.map (enD f))
theorem enD_ok {f : V → D} {e : (Int × Int) × V} {n : Nat} (h : (f e.2).ok n) (hn : 1 ≤ n) : (enD f e).ok (n + 1) := by
  refine ⟨by simp, fun d hd => ?_⟩
  rcases List.mem_cons.mp hd with rfl | hd
  · obtain ⟨m, rfl⟩ : ∃ m, n = m + 1 := ⟨n - 1, by omega⟩
    refine ⟨by simp, fun d hd => ?_⟩
    rcases List.mem_cons.mp hd with rfl | hd
    · cases m <;> trivial
    rcases List.mem_cons.mp hd with rfl | hd
    · cases m <;> trivial
    · cases hd
  rcases List.mem_cons.mp hd with rfl | hd
  · exact h
  · cases hd
theorem kvs_len (es : List ((Int × Int) × V)) : (kvsOf es).length = es.length := by unfold kvsOf; rw [List.length_map]
theorem kvs_at {es : List ((Int × Int) × V)} {i : Nat} {c : List Key} {v : V} (h : (kvsOf es)[i]? = some (c, v)) : ∃ e, es[i]? = some e ∧ c = cellK e.1.1 e.1.2 ∧ v = e.2 := by
  unfold kvsOf at h
  rw [List.getElem?_map] at h
  cases q : es[i]? with
  | none => rw [q] at h; cases h
  | some e => rw [q] at h; cases h; exact ⟨e, rfl, rfl, rfl⟩
end MD

namespace MD
open PySem PySem.Spec PyProof.Rows L2
/-! ### dicts with tuple keys: clear, del -/
section
variable {X : Cx} {pins : List (Addr × Obj)} {σ : L2.St} {H : Hp} {s : Shared} {a : Addr} {kvs : Kvs} {A : Around} {E : Value → Shared → Prop}
theorem dT_clear {Q : Value → Shared → Prop} (I : Inv X pins σ H s) (e : H a = some (.dT kvs)) (h : ∀ s', Inv X pins σ (upd H a (.dT [])) s' → Q .none s') : wpAny (model X.prog X.w) A (call (.builtin "dict.clear") [.ref a]) Q E s := by
  obtain ⟨z, hd, xs, rel, dd⟩ := dt_of I.hok e
  have hz : xs.length ≤ sizeLine := by rw [← Paired.length rel]; exact z
  obtain ⟨o, es, ep, ho, hc, hdat, he, his, hn⟩ := id dd
  have hes : es.size = xs.length := size_of_entries he
  refine call_meetsIn PySem.F.slot_dict_clear dd.typeIs PySem.F.entry_dict_clear (PySem.F.args_dict_clear_1 _) (meets_dict_clear_raw a) ⟨es, ep, ⟨o, ho, hc, hdat⟩, by omega, fun h' dd' hs => h _ ?_⟩
  obtain ⟨o', ho', hc', hd'⟩ := dd'
  exact d_write (t' := s.toks) I (by rw [e]; exact True.intro) hs ⟨o', ho'⟩ ⟨Nat.zero_le _, hd, [], .nil, o', #[], ep + 1, ho', hc', hd', rfl, List.nodup_nil⟩
end
def kClearT : V → List V → Hp → VK → Prop := fun x vs H Q => ∃ (a : Addr) (kvs : Kvs), x = .ref a ∧ vs = [] ∧ H a = some (.dT kvs) ∧ Wr H a (.dT []) (Q .non)
theorem mk_clearT {X : Cx} : MtR X "dict.clear" kClearT := by
  intro pins s σ H x vs v us Q I rx rv h
  obtain ⟨a, kvs, rfl, rfl, e, q⟩ := h
  obtain rfl : v = Value.ref a := rx
  have hus := rv.zero
  subst hus
  exact dT_clear I e fun s' I' => ⟨.non, _, I', rfl, q.old e trivial⟩
end MD

namespace MD
open PySem PySem.Spec PyProof.Rows L2
/-! ### for .. in d.items(), d with tuple keys: each a new pair of the key's own tuple and the value -/
def Itit (d : Addr) (o : Obj) (kvs : List (List Key × V)) : It :=
  ⟨fun i H => H d = some (.frz o (.dT kvs)) ∧ i < kvs.length, fun i H x H' => ∃ (T : Addr) (k : List Key) (v : V) (q : Addr), kvs[i]? = some (k, v) ∧ H q = some (.tup (k.map kV)) ∧ x = .ref T ∧ H T = none ∧ H' = upd H T (.tup [.ref q, v]), fun i H => H d = some (.frz o (.dT kvs)) ∧ kvs.length ≤ i⟩
section
variable {X : Cx} {pins : List (Addr × Obj)} {σ : L2.St} {H : Hp} {s : Shared} {d : Addr} {o : Obj}
theorem frzTv {kvs : List (List Key × V)} (I : Inv X pins σ H s) (h : H d = some (.frz o (.dT kvs))) :
    (d == sysModules) = false ∧ s.heap.get? d = some o ∧ o.ExactDict ∧ ∃ (es : Array DictEntry) (ep : Nat), o.data = .dict es ep ∧ es.size = kvs.length ∧
      ∀ (i : Nat) (k : List Key) (v : V), kvs[i]? = some (k, v) → ∃ (en : DictEntry) (q : Addr), es[i]? = some en ∧ en.key = .ref q ∧ H q = some (.tup (k.map kV)) ∧ RelV v en.val := by
  obtain ⟨hd, z, hs, xs, pr, o', es, ep, ho, hx, hdt, he, _⟩ := I.hok d _ h
  rw [hd] at ho
  cases ho
  refine ⟨hs, hd, hx, es, ep, hdt, ?_, fun i k v e => ?_⟩
  · have l1 : es.size = xs.length := size_of_entries he
    have l2 : kvs.length = xs.length := Paired.length pr
    omega
  · obtain ⟨b, hb, e1, e2, e3⟩ := paired_get pr e
    have q := entry_at he i
    rw [hb] at q
    exact ⟨_, b.2.1, q, rfl, e2, e3⟩
theorem rawT {kvs : List (List Key × V)} (I : Inv X pins σ H s) (h : H d = some (.frz o (.dT kvs))) : True := trivial
end
section
variable {P : Program} {w : World} {K : PySem.W.Frag} {d : Addr} {o : Obj} {es : Array DictEntry} {ep : Nat}
theorem turn_itemsT {kvs : List (List Key × V)} {elts : List Expr} {kk : Nat} {tpos : Pos} (it : Addr) (hod : o.data = .dict es ep) :
    Turn P w K (.Tuple elts kk tpos) (Itit d o kvs) [it] it (fun i h => ∃ ok ov, IsItemIter h it d i kvs.length ep ok ov) where
  mem := by simp
  obj := fun i h st b hb => by
    have e : b = it := by simpa using hb
    subst e
    obtain ⟨ok, ov, e⟩ := st
    exact ⟨_, e, fun v z => nomatch z⟩
  keep := fun i h h' st k => let ⟨ok, ov, e⟩ := st; ⟨ok, ov, k it (by simp) _ e⟩
  item := by
    intro X hP hw hK hc i pins s σ H E I hf st hg
    subst hP hw hK
    obtain ⟨hd, hi⟩ := hg
    obtain ⟨hs, hgd, hx, es', ep', hdt, hsz, ent⟩ := frzTv I hd
    obtain ⟨rfl, rfl⟩ := dict_ep hod hdt
    obtain ⟨⟨k, v⟩, hkv⟩ : ∃ p, kvs[i]? = some p := ⟨kvs[i], List.getElem?_eq_getElem hi⟩
    obtain ⟨en, q, hen, hkey, hq, rv⟩ := ent i k v hkv
    obtain ⟨ok, ov, he⟩ := st
    rw [← hsz] at he
    have hlt : it < s.heap.objs.size := Heap.lt_size he
    obtain ⟨hie, hee⟩ := Array.getElem?_eq_some_iff.mp hen
    refine wpAny_pyNext_items_item_raw he ⟨o, hgd, hx, hdt⟩ hie fun h' ho hT hz hk => ?_
    rw [hee, hkey] at hT ho
    refine ⟨_, rfl, wpAny_letOwnedTupleGo_items (s := { s with heap := h' }) ho fun h'' he' sb => ?_⟩
    have hT2 : h''.get? s.heap.objs.size = some { cls := .type "tuple", data := .seq #[.ref q, en.val] } := (sb.2 _ (Nat.ne_of_gt hlt)).trans hT
    have new : ObjOk X.prog X.w (upd H s.heap.objs.size (.tup [.ref q, v])) h'' s.heap.objs.size (.tup [.ref q, v]) :=
      ⟨by show 2 ≤ sizeLine; decide, [.ref q, en.val], .cons rfl (.cons rv .nil), ⟨_, hT2, rfl, _, rfl⟩⟩
    have I1 : Inv X pins σ (upd H s.heap.objs.size (.tup [.ref q, v])) { s with heap := h'' } :=
      I.turnedNew (t' := s.toks) (ch := [it]) (fun b ob hb e => (sb.2 b (by simpa using hb)).trans (hk b ob (by simpa using hb) e)) hf (Nat.le_refl _) new
    refine ⟨.ref s.heap.objs.size, _, I1, rfl, ⟨_, k, v, q, hkv, hq, rfl, I.hok.fresh (Nat.le_refl _), rfl⟩, ⟨.ref q, en.val, ?_⟩, fun b hb => ?_⟩
    · rw [← hsz]; exact he'
    · have e : b = it := by simpa using hb
      rw [e, upd_ne (Nat.ne_of_lt hlt)]
      exact (hf it (by simp)).1
  done := by
    intro X hP hw hK hc i pins s σ H E I hf st hg
    subst hP hw hK
    obtain ⟨hd, hi⟩ := hg
    obtain ⟨f0, f1, f2, f3, f4, f5⟩ := hf it (by simp)
    obtain ⟨hs, hgd, hx, es', ep', hdt, hsz, ent⟩ := frzTv I hd
    obtain ⟨rfl, rfl⟩ := dict_ep hod hdt
    obtain ⟨ok, ov, he⟩ := st
    rw [← hsz] at he
    exact wpAny_pyNext_items_end_raw (I.ok.hd hc) he ⟨o, hgd, hx, hdt⟩ (by omega) fun h' eb => ⟨rfl, I.turned (t' := s.toks) (fun b ob hb e => eb b ob hb e) f0 f1 f3 f4 f5⟩
  self := fun A i s Q E st h => let ⟨_, _, e⟩ := st; PySem.W.kcp_self e h
end
def iItemsT (td : TE) : TI := fun σ H R => td σ H fun x H1 => ∃ d o kvs, x = .ref d ∧ H1 d = some (.frz o (.dT kvs)) ∧ R (Itit d o kvs) H1
section
variable {X : Cx} {tg e : Expr} {td : TE} {apos cpos : Pos}
theorem pi_itemsT {elts : List Expr} {kk : Nat} {tpos : Pos} (he : PE X e td) (hbase : attributeBase e "items" X.env (eval e X.env) = eval e X.env := by rfl) (hline : (apos.endLine == cpos.line) = true := by rfl) :
    PI X (.Tuple elts kk tpos) (.Call (.Attribute e "items" apos) [] [] cpos) (iItemsT td) := by
  refine ⟨fun pins s σ H R I h => ?_⟩
  refine wpAny_Call_method (T := "dict") (id := "dict.items") hbase rfl hline F.plainAttrs_dict F.slot_dict_items F.type_dict_items (thn (he.run pins s σ H _ I h) fun u s1 ⟨x, H1, I1, rx, d, o, kvs, ex, hd, q⟩ => ?_)
  subst ex
  obtain rfl : u = Value.ref d := rx
  obtain ⟨hs, hgd, hx, es, ep, hdt, hsz, ent⟩ := frzTv I1 hd
  have hr : s1.heap.DictRaw d es ep := ⟨o, hgd, hx, hdt⟩
  refine ⟨hr.typeIs, fun b e => by cases e; exact ⟨o, hgd, hx.2.1⟩, ?_⟩
  have I2 : Inv X pins σ H1 { s1 with heap := s1.heap.push { cls := .type "dict_items", data := .fields #[.ref d] } } := I1.kept (t' := s1.toks) fun b ob q => Heap.get?_push_of_some _ q
  have fin : wpAny (model X.prog X.w) X.A (pyIter (.ref s1.heap.objs.size)) (PIE X pins σ (.Tuple elts kk tpos) R) X.xe { s1 with heap := s1.heap.push { cls := .type "dict_items", data := .fields #[.ref d] } } := by
    refine wpAny_pyIter_items_raw (d := d) ⟨_, Heap.get?_push_size _ rfl, rfl, rfl⟩ ⟨o, Heap.get?_push_of_some _ hgd, hx, hdt⟩ (pi_one (tk := s1.toks) I2 _ (turn_itemsT _ hdt) ⟨.none, .none, ?_⟩ q)
    rw [← hsz]
    exact Heap.get?_push_size _ rfl
  show wpAny _ _ (callWith cpos (.builtin "dict.items") [.ref d] [] []) _ X.xe s1
  exact method_meetsIn F.slot_dict_items F.entry_dict_items rfl (PySem.evalArgs_none ⟨rfl, hr.typeIs, F.args_dict_items_1 _, _, meets_dict_items_raw d hs, ⟨es, ep, hr⟩, fin⟩)
/-- a new dict, locked from here on -/
def kFrz (t : TE) : TE := fun σ H Q => t σ H fun x H1 => ∃ d kvs, x = .ref d ∧ H1 d = some (.dT kvs) ∧ ∀ od H2, Kp [d] H1 H2 → H2 d = some (.frz od (.dT kvs)) → Q x H2
theorem pe_frz (h : PE X e td) : PE X e (kFrz td) := by
  refine ⟨fun pins s σ H Q I hw => ?_⟩
  refine thn (h.run pins s σ H _ I hw) fun v s1 ⟨x, H1, I1, r, d, kvs, ex, hd, q⟩ => ?_
  obtain ⟨od, I2⟩ := I1.lock hd trivial
  exact ⟨x, _, I2, r, q od _ (Kp.old hd trivial List.mem_cons_self) upd_same⟩
end
/-- the walk of a for -/
theorem for_itemsT {d : Addr} {od : Obj} {kvs : List (List Key × V)} {g : TG} {tb : TS} {D0 : Ends} {σ : L2.St} {H : Hp} (Pv : Nat → L2.St → Hp → Prop) (h0 : Pv 0 σ H) (hl : ∀ i σ H, Pv i σ H → H d = some (.frz od (.dT kvs)))
    (hs : ∀ i k v q T σ H H', kvs[i]? = some (k, v) → H q = some (.tup (k.map kV)) → Pv i σ H → H T = none → Kp [] H H' → H' T = some (.tup [.ref q, v]) → g (.ref T) σ H' fun σ2 H2 => tb { D0 with nx := Pv (i + 1), ct := Pv (i + 1), bk := D0.nx } σ2 H2) (hd : ∀ σ H, Pv kvs.length σ H → D0.nx σ H) :
    ∃ W : Nat → Nat → L2.St → Hp → Prop, (∃ m, W 0 m σ H) ∧ ∀ i m σ H, W i m σ H →
      ((Itit d od kvs).stop i H ∧ D0.nx σ H) ∨ ((Itit d od kvs).go i H ∧ ∃ N : L2.St → Hp → Prop, (∀ σ' H', N σ' H' → ∃ m', m' < m ∧ W (i + 1) m' σ' H') ∧ ∀ x H', (Itit d od kvs).yld i H x H' → g x σ H' fun σ2 H2 => tb { D0 with nx := N, ct := N, bk := D0.nx } σ2 H2) := by
  refine ⟨fun i m σ H => m = kvs.length - i ∧ i ≤ kvs.length ∧ Pv i σ H, ⟨kvs.length, by simp, Nat.zero_le _, h0⟩, ?_⟩
  rintro i m σ H ⟨rfl, hi, p⟩
  have q := hl i σ H p
  by_cases hlt : i < kvs.length
  · refine .inr ⟨⟨q, hlt⟩, Pv (i + 1), fun σ' H' p' => ⟨kvs.length - (i + 1), by omega, rfl, hlt, p'⟩, fun x H' y => ?_⟩
    obtain ⟨T, k, v, b, e1, e2, e3, e4, e5⟩ := y
    subst e3 e5
    exact hs i k v b T σ H _ e1 e2 p e4 (Kp.new e4) upd_same
  · have e : i = kvs.length := by omega
    subst e
    exact .inl ⟨⟨q, Nat.le_refl _⟩, hd σ H p⟩
end MD

namespace MD
open PySem PySem.Spec PyProof.Rows L2
/-! ### stays and their rooms -/
def meetB (s t : Sy) : Bool := decide (s.1 = t.1) && (decide (s.2.1 < t.2.2) && decide (t.2.1 < s.2.2))
theorem meetB_iff {s t : Sy} : meetB s t = true ↔ s.1 = t.1 ∧ s.2.1 < t.2.2 ∧ t.2.1 < s.2.2 := by
  unfold meetB; simp
theorem meetB_comm (s t : Sy) : meetB s t = meetB t s := by
  rw [Bool.eq_iff_iff, meetB_iff, meetB_iff]
  constructor <;> (rintro ⟨a, b, c⟩; exact ⟨a.symm, c, b⟩)
/-- the stay s needs a room of the kind k in the night t -/
def inN (k t : Int) (s : Sy) : Bool := decide (s.1 = k) && (decide (s.2.1 ≤ t) && decide (t < s.2.2))
theorem inN_iff {k t : Int} {s : Sy} : inN k t s = true ↔ s.1 = k ∧ s.2.1 ≤ t ∧ t < s.2.2 := by
  unfold inN; simp
def capK (su : Su) (k : Int) : Int := su.rooms.getD k.toNat 0
/-- no night has too many -/
def Fits (su : Su) (ss : List Sy) : Prop := ∀ k t : Int, 0 ≤ k → k < su.rooms.length → 0 ≤ t → t < su.nights → ((ss.countP (inN k t) : Nat) : Int) ≤ capK su k
def odD : Option Int → D
  | none => .v .non
  | some r => .v (.int r)
def syN : Sy := (0, 0, 0)
def gS (ss : List Sy) (k : Nat) : Sy := ss.getD k syN
def gR (rm : List (Option Int)) (k : Nat) : Option Int := rm.getD k none
theorem gS_of {ss : List Sy} {k : Nat} {s : Sy} (h : ss[k]? = some s) : gS ss k = s := by unfold gS; rw [List.getD_eq_getElem?_getD, h]; rfl
theorem gR_of {rm : List (Option Int)} {k : Nat} {r : Option Int} (h : rm[k]? = some r) : gR rm k = r := by unfold gR; rw [List.getD_eq_getElem?_getD, h]; rfl
theorem gS_mem {ss : List Sy} {k : Nat} (h : k < ss.length) : gS ss k ∈ ss := by
  unfold gS; rw [List.getD_eq_getElem?_getD]; simp [h]
theorem gR_set {rm : List (Option Int)} {k j : Nat} {x : Option Int} (h : k < rm.length) : gR (rm.set k x) j = if j = k then x else gR rm j := by
  unfold gR
  rw [List.getD_eq_getElem?_getD, List.getD_eq_getElem?_getD]
  by_cases e : j = k
  · subst e
    rw [if_pos rfl, List.getElem?_set_self h]; rfl
  · rw [if_neg e, List.getElem?_set_ne (fun z => e z.symm)]
/-- the rooms that stays which meet the k-th have -/
def takenL (ss : List Sy) (rm : List (Option Int)) (k : Nat) : List Int := (List.range ss.length).filterMap fun j => if meetB (gS ss j) (gS ss k) = true then gR rm j else none
theorem mem_taken {ss : List Sy} {rm : List (Option Int)} {k : Nat} {r : Int} : r ∈ takenL ss rm k ↔ ∃ j, j < ss.length ∧ meetB (gS ss j) (gS ss k) = true ∧ gR rm j = some r := by
  unfold takenL
  rw [List.mem_filterMap]
  constructor
  · rintro ⟨j, hj, h⟩
    split at h
    · rename_i hm
      exact ⟨j, List.mem_range.mp hj, hm, h⟩
    · cases h
  · rintro ⟨j, hj, hm, h⟩
    exact ⟨j, List.mem_range.mpr hj, by rw [if_pos hm]; exact h⟩
structure RmOk (su : Su) (ss : List Sy) (rm : List (Option Int)) : Prop where
  len : rm.length = ss.length
  rg : ∀ k r, k < ss.length → gR rm k = some r → 0 ≤ r ∧ r < capK su (gS ss k).1
  ne : ∀ j k r, j < ss.length → k < ss.length → j ≠ k → meetB (gS ss j) (gS ss k) = true → gR rm j = some r → gR rm k ≠ some r
theorem RmOk.set {su : Su} {ss : List Sy} {rm : List (Option Int)} (h : RmOk su ss rm) {k : Nat} {r : Int} (hk : k < ss.length) (h0 : 0 ≤ r) (h1 : r < capK su (gS ss k).1) (hn : r ∉ takenL ss rm k) : RmOk su ss (rm.set k (some r)) := by
  have hkr : k < rm.length := by rw [h.len]; exact hk
  refine ⟨by rw [List.length_set]; exact h.len, fun j x hj e => ?_, fun i j x hi hj hij hm e1 e2 => ?_⟩
  · rw [gR_set hkr] at e
    by_cases z : j = k
    · subst z
      rw [if_pos rfl] at e
      cases e
      exact ⟨h0, h1⟩
    · rw [if_neg z] at e
      exact h.rg j x hj e
  · rw [gR_set hkr] at e1 e2
    by_cases z1 : i = k
    · subst z1
      rw [if_pos rfl] at e1
      cases e1
      rw [if_neg (fun z => hij z.symm)] at e2
      exact hn (mem_taken.mpr ⟨j, hj, by rw [meetB_comm]; exact hm, e2⟩)
    · rw [if_neg z1] at e1
      by_cases z2 : j = k
      · subst z2
        rw [if_pos rfl] at e2
        cases e2
        exact hn (mem_taken.mpr ⟨i, hi, hm, e1⟩)
      · rw [if_neg z2] at e2
        exact h.ne i j x hi hj hij hm e1 e2
theorem countP_lt {α : Type} {p q : α → Bool} (h : ∀ x, p x = true → q x = true) : ∀ {l : List α} {k : α}, k ∈ l → q k = true → p k = false → l.countP p + 1 ≤ l.countP q
  | a :: l, k, hk, hq, hp => by
    have mono : l.countP p ≤ l.countP q := List.countP_mono_left fun x _ => h x
    rcases List.mem_cons.mp hk with rfl | hk
    · rw [List.countP_cons_of_neg (by rw [hp]; exact Bool.false_ne_true), List.countP_cons_of_pos hq]
      omega
    · have ih := countP_lt h hk hq hp
      by_cases z : p a = true
      · rw [List.countP_cons_of_pos z, List.countP_cons_of_pos (h a z)]; omega
      · rw [List.countP_cons_of_neg z]
        have : l.countP q ≤ (a :: l).countP q := by rw [List.countP_cons]; omega
        omega
theorem countP_range (ss : List Sy) (p : Sy → Bool) : (List.range ss.length).countP (fun j => p (gS ss j)) = ss.countP p := by
  have e : (List.range ss.length).map (gS ss) = ss := by
    refine List.ext_getElem? fun i => ?_
    rw [List.getElem?_map]
    by_cases h : i < ss.length
    · rw [List.getElem?_range h]
      have : ss[i]? = some ss[i] := by simp [h]
      rw [this]
      show some (gS ss i) = _
      rw [gS_of this]
    · rw [List.getElem?_eq_none (by rw [List.length_range]; omega), List.getElem?_eq_none (by omega)]; rfl
  have := List.countP_map (p := p) (f := gS ss) (l := List.range ss.length)
  rw [e] at this
  exact this.symm
theorem filterMap_len {α β : Type} (f : α → Option β) (p : α → Bool) (h : ∀ x, (f x).isSome = true → p x = true) : ∀ l : List α, (l.filterMap f).length ≤ l.countP p
  | [] => Nat.le_refl _
  | a :: l => by
    have ih := filterMap_len f p h l
    rw [List.filterMap_cons]
    cases e : f a with
    | none =>
      have : l.countP p ≤ (a :: l).countP p := by rw [List.countP_cons]; omega
      show (l.filterMap f).length ≤ _
      omega
    | some b =>
      have hp := h a (by rw [e]; rfl)
      rw [List.countP_cons_of_pos hp]
      show (b :: l.filterMap f).length ≤ _
      rw [List.length_cons]; omega
/-- all that have a room begin no later than the k-th: fewer are taken than there are -/
theorem taken_lt {su : Su} {ss : List Sy} {rm : List (Option Int)} (F : Fits su ss) (ok : ∀ s ∈ ss, Sy.ok su s) {k : Nat} (hk : k < ss.length) (hn : gR rm k = none)
    (hf : ∀ j r, j < ss.length → gR rm j = some r → (gS ss j).2.1 ≤ (gS ss k).2.1) : ((takenL ss rm k).length : Int) < capK su (gS ss k).1 := by
  have o := ok _ (gS_mem hk)
  have h1 := F (gS ss k).1 (gS ss k).2.1 o.k0 o.k1 o.f0 (by have := o.fe; have := o.e1; omega)
  have h2 : (takenL ss rm k).length ≤ (List.range ss.length).countP fun j => decide (j < ss.length) && (meetB (gS ss j) (gS ss k) && (gR rm j).isSome) := by
    unfold takenL
    have e : ∀ l : List Nat, (∀ j ∈ l, j < ss.length) → (l.filterMap fun j => if meetB (gS ss j) (gS ss k) = true then gR rm j else none).length ≤ l.countP fun j => decide (j < ss.length) && (meetB (gS ss j) (gS ss k) && (gR rm j).isSome) := by
      intro l hl
      induction l with
      | nil => exact Nat.le_refl _
      | cons a l ih =>
        have ih := ih fun j hj => hl j (List.mem_cons_of_mem _ hj)
        have ha := hl a List.mem_cons_self
        rw [List.filterMap_cons, List.countP_cons]
        by_cases hm : meetB (gS ss a) (gS ss k) = true
        · rw [if_pos hm]
          cases e : gR rm a with
          | none => show (List.filterMap _ l).length ≤ _; omega
          | some b =>
            show (List.filterMap _ l).length + 1 ≤ _
            rw [if_pos (by simp [ha, hm, e])]
            omega
        · rw [if_neg hm]
          show (List.filterMap _ l).length ≤ _
          omega
    exact e _ fun j hj => List.mem_range.mp hj
  have h3 := countP_lt (p := fun j => decide (j < ss.length) && (meetB (gS ss j) (gS ss k) && (gR rm j).isSome)) (q := fun j => inN (gS ss k).1 (gS ss k).2.1 (gS ss j)) (l := List.range ss.length) (k := k) (fun j hj => by
    simp only [Bool.and_eq_true, decide_eq_true_eq] at hj
    obtain ⟨a, b, c⟩ := hj
    obtain ⟨m1, m2, m3⟩ := meetB_iff.mp b
    obtain ⟨r, hr⟩ := Option.isSome_iff_exists.mp c
    exact inN_iff.mpr ⟨m1, hf j r a hr, m3⟩) (List.mem_range.mpr hk) (inN_iff.mpr ⟨rfl, Int.le_refl _, o.fe⟩) (by rw [hn]; simp)
  rw [countP_range ss (inN (gS ss k).1 (gS ss k).2.1)] at h3
  omega
/-! the least number that is not in a list -/
theorem free_len (T : List Int) : ∀ n : Nat, n ≤ ((List.range n).filter fun (r : Nat) => decide ((r : Int) ∉ T)).length + T.length := by
  intro n
  induction T with
  | nil =>
    have : ((List.range n).filter fun (r : Nat) => decide ((r : Int) ∉ ([] : List Int))) = List.range n := List.filter_eq_self.mpr fun x _ => by simp
    rw [this, List.length_range, List.length_nil]; omega
  | cons a T ih =>
    have h : ∀ l : List Nat, l.Nodup → (l.filter fun (r : Nat) => decide ((r : Int) ∉ T)).length ≤ (l.filter fun (r : Nat) => decide ((r : Int) ∉ a :: T)).length + 1 := by
      intro l nd
      have key : ∀ l : List Nat, l.Nodup → (∀ r ∈ l, (r : Int) ≠ a) → (l.filter fun (r : Nat) => decide ((r : Int) ∉ T)) = (l.filter fun (r : Nat) => decide ((r : Int) ∉ a :: T)) := fun l _ hl => List.filter_congr fun r hr => by
        have := hl r hr
        simp [this]
      induction l with
      | nil => exact Nat.zero_le _
      | cons b l ihl =>
        obtain ⟨n1, n2⟩ := List.nodup_cons.mp nd
        have ihl := ihl n2
        by_cases e : (b : Int) = a
        · have hl : ∀ r ∈ l, (r : Int) ≠ a := fun r hr z => n1 (by have : r = b := by omega
                                                                   rw [← this]; exact hr)
          have k := key l n2 hl
          rw [List.filter_cons, List.filter_cons, ← k]
          split <;> split <;> (try simp only [List.length_cons]) <;> omega
        · have e2 : decide ((b : Int) ∉ T) = decide ((b : Int) ∉ a :: T) := by simp [e]
          rw [List.filter_cons, List.filter_cons, e2]
          split
          · simp only [List.length_cons]; omega
          · exact ihl
    have := h (List.range n) List.nodup_range
    rw [List.length_cons]
    omega
def IsL (T : List Int) (r : Nat) : Prop := (r : Int) ∉ T ∧ ∀ s : Nat, s < r → (s : Int) ∈ T
theorem IsL.uniq {T : List Int} {r s : Nat} (h : IsL T r) (g : IsL T s) : r = s := by
  rcases Nat.lt_trichotomy r s with z | z | z
  · exact absurd (g.2 r z) h.1
  · exact z
  · exact absurd (h.2 s z) g.1
theorem IsL.ex (T : List Int) : ∃ r, IsL T r ∧ r ≤ T.length := by
  have h : ∃ r : Nat, (r : Int) ∉ T ∧ r ≤ T.length := by
    have h := free_len T (T.length + 1)
    cases e : (List.range (T.length + 1)).filter fun (r : Nat) => decide ((r : Int) ∉ T) with
    | nil => rw [e, List.length_nil] at h; omega
    | cons a l =>
      have ha : a ∈ (List.range (T.length + 1)).filter fun (r : Nat) => decide ((r : Int) ∉ T) := by rw [e]; exact List.mem_cons_self
      obtain ⟨h1, h2⟩ := List.mem_filter.mp ha
      exact ⟨a, of_decide_eq_true h2, by have := List.mem_range.mp h1; omega⟩
  obtain ⟨r, h1, h2⟩ := h
  have : ∀ n r : Nat, r ≤ n → (r : Int) ∉ T → ∃ s, IsL T s ∧ s ≤ r := by
    intro n
    induction n with
    | zero => intro r hr hn; exact ⟨r, ⟨hn, fun s hs => by omega⟩, Nat.le_refl _⟩
    | succ n ih =>
      intro r hr hn
      by_cases z : ∀ s : Nat, s < r → (s : Int) ∈ T
      · exact ⟨r, ⟨hn, z⟩, Nat.le_refl _⟩
      · have ⟨s, hs⟩ := Classical.not_forall.mp z
        have ⟨h3, h4⟩ := Classical.not_imp.mp hs
        obtain ⟨u, hu, hl⟩ := ih s (by omega) h4
        exact ⟨u, hu, by omega⟩
  obtain ⟨s, hs, hl⟩ := this r r (Nat.le_refl _) h1
  exact ⟨s, hs, by omega⟩
noncomputable def leastN (T : List Int) : Nat := Classical.choose (IsL.ex T)
theorem leastN_is (T : List Int) : IsL T (leastN T) := (Classical.choose_spec (IsL.ex T)).1
theorem leastN_le (T : List Int) : leastN T ≤ T.length := (Classical.choose_spec (IsL.ex T)).2
/-- the first of the free ones is the least -/
theorem free_head {T : List Int} {n a : Nat} {l : List Nat} (h : (List.range n).filter (fun (r : Nat) => decide ((r : Int) ∉ T)) = a :: l) : a = leastN T := by
  refine IsL.uniq ⟨?_, fun s hs => ?_⟩ (leastN_is T)
  · have ha : a ∈ (List.range n).filter fun (r : Nat) => decide ((r : Int) ∉ T) := by rw [h]; exact List.mem_cons_self
    exact of_decide_eq_true (List.mem_filter.mp ha).2
  · refine Classical.byContradiction fun z => ?_
    have ha : a ∈ (List.range n).filter fun (r : Nat) => decide ((r : Int) ∉ T) := by rw [h]; exact List.mem_cons_self
    have hs' : s ∈ (List.range n).filter fun (r : Nat) => decide ((r : Int) ∉ T) := List.mem_filter.mpr ⟨List.mem_range.mpr (by have := List.mem_range.mp (List.mem_filter.mp ha).1; omega), decide_eq_true z⟩
    have pw : ((List.range n).filter fun (r : Nat) => decide ((r : Int) ∉ T)).Pairwise (· < ·) := List.Pairwise.filter _ List.pairwise_lt_range
    rw [h] at pw hs'
    rcases List.mem_cons.mp hs' with e | e
    · omega
    · have := (List.pairwise_cons.mp pw).1 s e
      omega
/-- each of the given order takes the least room that is left -/
noncomputable def stepH (ss : List Sy) (rm : List (Option Int)) (k : Nat) : List (Option Int) := if gR rm k = none then rm.set k (some (leastN (takenL ss rm k) : Int)) else rm
noncomputable def runH (ss : List Sy) (rm : List (Option Int)) (os : List Nat) : List (Option Int) := os.foldl (stepH ss) rm
/-- of those in rest that have no room none begins before one that has -/
def Lat (ss : List Sy) (rm : List (Option Int)) (rest : List Nat) : Prop := ∀ j k r, j < ss.length → gR rm j = some r → k ∈ rest → gR rm k = none → (gS ss j).2.1 ≤ (gS ss k).2.1
theorem stepH_ok {su : Su} {ss : List Sy} {rm : List (Option Int)} {k : Nat} {rest : List Nat} (F : Fits su ss) (ok : ∀ s ∈ ss, Sy.ok su s) (h : RmOk su ss rm) (hk : k < ss.length) (hl : Lat ss rm (k :: rest)) (hs : ∀ j ∈ rest, (gS ss k).2.1 ≤ (gS ss j).2.1) :
    RmOk su ss (stepH ss rm k) ∧ Lat ss (stepH ss rm k) rest ∧ (gR rm k = none → ((takenL ss rm k).length : Int) < capK su (gS ss k).1) := by
  unfold stepH
  by_cases z : gR rm k = none
  · have hc := taken_lt F ok hk z fun j r hj e => hl j k r hj e List.mem_cons_self z
    have hle := leastN_le (takenL ss rm k)
    have hkr : k < rm.length := by rw [h.len]; exact hk
    rw [if_pos z]
    refine ⟨h.set hk (by omega) (by omega) (leastN_is _).1, fun j i r hj e hi hn => ?_, fun _ => hc⟩
    rw [gR_set hkr] at e hn
    by_cases zi : i = k
    · rw [if_pos zi] at hn; cases hn
    · rw [if_neg zi] at hn
      by_cases zj : j = k
      · subst zj
        exact hs i hi
      · rw [if_neg zj] at e
        exact hl j i r hj e (List.mem_cons_of_mem _ hi) hn
  · rw [if_neg z]
    exact ⟨h, fun j i r hj e hi hn => hl j i r hj e (List.mem_cons_of_mem _ hi) hn, fun q => absurd q z⟩
end MD

namespace MD
open PySem PySem.Spec PyProof.Rows L2
/-! ### enumerate; sorted pairs of ints -/
theorem pi_enumK {X : Cx} {K : PySem.W.Frag} {e : Expr} {ta : TA} {p pos tpos : Pos} {elts : List Expr} {kk : Nat} (hg : Gl X "enumerate") (hm : X.mg "enumerate" = none) (ha : PA X [e] ta) (hs : starEach [e] X.env = [(false, eval e X.env)] := by rfl) (hK : X.K = K := by rfl) :
    PI X (.Tuple elts kk tpos) (.Call (.Name "enumerate" p) [e] [] pos) (iEnum K ta) := by subst hK; exact pi_enum hg hm ha hs
section
variable {K : PySem.W.Frag} {a : Addr} {xs : List V} {g : TG} {σ : L2.St}
theorem kl_enum {tt : TT} {te : TE} {vs : List Nat} {H1 : Hp} {D : Addr} {Qd : Hp → Prop} (Pv : Nat → List V → Hp → Prop) (h0 : Pv 0 [] H1) (hl : ∀ i acc H, Pv i acc H → SqL K H a xs)
    (hs : ∀ i x T acc H H', xs[i]? = some x → H T = none → Kp [] H H' → H' T = some (.tup [.int (i : Nat), x]) → H D = some (.lst acc) → Pv i acc H → Turn1 g tt te vs σ D acc (Pv (i + 1)) (.ref T) H') (hd : ∀ acc H, H D = some (.lst acc) → Pv xs.length acc H → Qd H) : kLcW g tt te vs σ (Ite K a) D H1 Qd := by
  refine ⟨fun i m acc H => m = xs.length - i ∧ i ≤ xs.length ∧ Pv i acc H, ⟨xs.length, by simp, Nat.zero_le _, h0⟩, ?_⟩
  rintro i m acc H hD ⟨rfl, hi, p⟩
  have q := hl i acc H p
  by_cases hlt : i < xs.length
  · refine .inr ⟨⟨xs, xs[i], q, by simp [hlt]⟩, Pv (i + 1), fun acc H' p' => ⟨xs.length - (i + 1), by omega, rfl, hlt, p'⟩, fun x H' y => ?_⟩
    obtain ⟨T, x1, e1, e2, e3, y⟩ := y
    subst e1 e3
    exact hs i x1 T acc H _ (y xs q) e2 (Kp.new e2) upd_same hD p
  · have e : i = xs.length := by omega
    subst e
    exact .inl ⟨⟨xs, q, Nat.le_refl _⟩, hd acc H hD p⟩
theorem for_enum {tb : TS} {D0 : Ends} {H : Hp} (Pv : Nat → L2.St → Hp → Prop) (h0 : Pv 0 σ H) (hl : ∀ i σ H, Pv i σ H → SqL K H a xs)
    (hs : ∀ i x T σ H H', xs[i]? = some x → Pv i σ H → H T = none → Kp [] H H' → H' T = some (.tup [.int (i : Nat), x]) → g (.ref T) σ H' fun σ2 H2 => tb { D0 with nx := Pv (i + 1), ct := Pv (i + 1), bk := D0.nx } σ2 H2) (hd : ∀ σ H, Pv xs.length σ H → D0.nx σ H) :
    ∃ W : Nat → Nat → L2.St → Hp → Prop, (∃ m, W 0 m σ H) ∧ ∀ i m σ H, W i m σ H →
      ((Ite K a).stop i H ∧ D0.nx σ H) ∨ ((Ite K a).go i H ∧ ∃ N : L2.St → Hp → Prop, (∀ σ' H', N σ' H' → ∃ m', m' < m ∧ W (i + 1) m' σ' H') ∧ ∀ x H', (Ite K a).yld i H x H' → g x σ H' fun σ2 H2 => tb { D0 with nx := N, ct := N, bk := D0.nx } σ2 H2) := by
  refine ⟨fun i m σ H => m = xs.length - i ∧ i ≤ xs.length ∧ Pv i σ H, ⟨xs.length, by simp, Nat.zero_le _, h0⟩, ?_⟩
  rintro i m σ H ⟨rfl, hi, p⟩
  have q := hl i σ H p
  by_cases hlt : i < xs.length
  · refine .inr ⟨⟨xs, xs[i], q, by simp [hlt]⟩, Pv (i + 1), fun σ' H' p' => ⟨xs.length - (i + 1), by omega, rfl, hlt, p'⟩, fun x H' y => ?_⟩
    obtain ⟨T, x1, e1, e2, e3, y⟩ := y
    subst e1 e3
    exact hs i x1 T σ H _ (y xs q) p e2 (Kp.new e2) upd_same
  · have e : i = xs.length := by omega
    subst e
    exact .inl ⟨⟨xs, q, Nat.le_refl _⟩, hd σ H p⟩
end
def kSortPO (K : PySem.W.Frag) : List V → Hp → VK → Prop := fun vs H Q => ∃ (a : Addr) (xs : List V) (k : V → Int × Int), vs = [V.ref a] ∧ SqL K H a xs ∧ (∀ x ∈ xs, ∃ t, x = V.ref t ∧ H t = some (.tup [.int (k x).1, .int (k x).2])) ∧
  ∀ ys, SrtO.Srtd (ltP k) ys → ys.Perm xs → New H (.lst ys) Q
theorem ksortPO {X : Cx} {K : PySem.W.Frag} (h : X.K = K := by rfl) : CallR X (.builtin "sorted") (kSortPO K) := by
  subst h
  exact callI cr_sortedPO fun xs H Q ⟨a, ys, k, h1, h2, h3, h4⟩ => ⟨a, ys, k, h1, h2, h3, fun zs p h5 h6 h7 => (h4 zs h5 h6.perm).old p h7⟩
def prD (a b : Int) : D := .sq false [.v (.int a), .v (.int b)]
def kyP (H : Hp) : V → Int × Int := fun x => match x with
  | .ref t => (match H t with | some (.tup [.int i, .int j]) => (i, j) | _ => (0, 0))
  | _ => (0, 0)
theorem prD_at {H : Hp} {a b : Int} {x : V} (h : RepT H (prD a b) x) : ∃ t, x = .ref t ∧ H t = some (.tup [.int a, .int b]) ∧ kyP H x = (a, b) := by
  obtain ⟨t, vs, rfl, ht, rw⟩ := RepT.tupE h
  obtain ⟨v1, r1, rfl, g1, rw⟩ := rw.consE
  obtain ⟨v2, r2, rfl, g2, rw⟩ := rw.consE
  have := rw.nilE; subst this
  have := g1.vE; subst this
  have := g2.vE; subst this
  refine ⟨t, rfl, ht, ?_⟩
  show (match H t with | some (.tup [.int i, .int j]) => (i, j) | _ => (0, 0)) = (a, b)
  rw [ht]
def kf (ss : List Sy) (k : Nat) : Int := (gS ss k).2.1
/-- in the order of the first nights -/
def IsOrd (ss : List Sy) (ks os : List Nat) : Prop := os.Perm ks ∧ os.Pairwise fun i j => ¬ (kf ss j < kf ss i ∨ (kf ss j = kf ss i ∧ j < i))
theorem IsOrd.uniq {ss : List Sy} {ks o1 o2 : List Nat} (h1 : IsOrd ss ks o1) (h2 : IsOrd ss ks o2) : o1 = o2 :=
  List.Perm.eq_of_pairwise (le := fun i j => ¬ (kf ss j < kf ss i ∨ (kf ss j = kf ss i ∧ j < i))) (fun a b _ _ q1 q2 => by omega) h1.2 h2.2 (h1.1.trans h2.1.symm)
theorem IsOrd.filter {ss : List Sy} {ks os : List Nat} (h : IsOrd ss ks os) (p : Nat → Bool) : IsOrd ss (ks.filter p) (os.filter p) := ⟨h.1.filter p, h.2.filter p⟩
theorem ord_of {H : Hp} {ss : List Sy} {ks : List Nat} {xs ys : List V} (r : RepTs H (ks.map fun k => prD (kf ss k) (k : Nat)) xs) (hs : SrtO.Srtd (ltP (kyP H)) ys) (hp : ys.Perm xs) :
    ∃ os, IsOrd ss ks os ∧ RepTs H (os.map fun k => prD (kf ss k) (k : Nat)) ys := by
  obtain ⟨os, p, r'⟩ := RepTs.perm hp r
  refine ⟨os, ⟨p, ?_⟩, r'⟩
  have hl : ys.length = os.length := r'.lenM
  rw [List.pairwise_iff_getElem]
  intro i j hi hj hij
  obtain ⟨s1, e1, q1⟩ := r'.at (show ys[i]? = some (ys[i]'(by omega)) by simp [show i < ys.length by omega])
  obtain ⟨s2, e2, q2⟩ := r'.at (show ys[j]? = some (ys[j]'(by omega)) by simp [show j < ys.length by omega])
  obtain ⟨_, _, _, k1⟩ := prD_at q1
  obtain ⟨_, _, _, k2⟩ := prD_at q2
  have h := (List.pairwise_iff_getElem.mp hs) i j (by omega) (by omega) hij
  have h' : SrtO.lexB (kyP H (ys[j]'(by omega))) (kyP H (ys[i]'(by omega))) = false := h
  rw [k1, k2] at h'
  have f1 : os[i] = s1 := by
    have : os[i]? = some os[i] := by simp
    rw [this] at e1; exact Option.some.inj e1
  have f2 : os[j] = s2 := by
    have : os[j]? = some os[j] := by simp
    rw [this] at e2; exact Option.some.inj e2
  rw [f1, f2]
  have := SrtO.lexB_no.mp h'
  simp only at this
  omega
/-- who has a room already is passed over -/
theorem runH_filter {ss : List Sy} {rm0 : List (Option Int)} : ∀ {os : List Nat} {rm : List (Option Int)}, os.Nodup → (∀ k ∈ os, k < rm.length) → (∀ k ∈ os, gR rm k = none ↔ gR rm0 k = none) →
    runH ss rm os = runH ss rm (os.filter fun k => decide (gR rm0 k = none))
  | [], _, _, _, _ => rfl
  | k :: os, rm, nd, hl, h => by
    obtain ⟨n1, n2⟩ := List.nodup_cons.mp nd
    have hk := hl k List.mem_cons_self
    have hs : ∀ j ∈ os, gR (stepH ss rm k) j = gR rm j := fun j hj => by
      unfold stepH
      split
      · rw [gR_set hk, if_neg (fun z => n1 (by rw [← z]; exact hj))]
      · rfl
    have hlen : (stepH ss rm k).length = rm.length := by
      unfold stepH
      split
      · rw [List.length_set]
      · rfl
    have ih := runH_filter (ss := ss) (rm0 := rm0) (os := os) (rm := stepH ss rm k) n2 (fun j hj => by rw [hlen]; exact hl j (List.mem_cons_of_mem _ hj)) (fun j hj => by rw [hs j hj]; exact h j (List.mem_cons_of_mem _ hj))
    show runH ss (stepH ss rm k) os = _
    rw [List.filter_cons]
    by_cases z : gR rm0 k = none
    · rw [if_pos (by simp [z])]
      exact ih
    · rw [if_neg (by simp [z]), ih]
      have : gR rm k ≠ none := fun q => z ((h k List.mem_cons_self).mp q)
      have e : stepH ss rm k = rm := if_neg this
      rw [e]
theorem runH_ok {su : Su} {ss : List Sy} (F : Fits su ss) (ok : ∀ s ∈ ss, Sy.ok su s) : ∀ {os : List Nat} {rm : List (Option Int)}, RmOk su ss rm → (∀ k ∈ os, k < ss.length) → os.Pairwise (fun i j => kf ss i ≤ kf ss j) → Lat ss rm os →
    RmOk su ss (runH ss rm os) ∧ (∀ k ∈ os, gR (runH ss rm os) k ≠ none) ∧ ∀ k, gR rm k ≠ none → gR (runH ss rm os) k = gR rm k
  | [], rm, h, _, _, _ => ⟨h, (fun _ z => nomatch z), fun _ _ => rfl⟩
  | k :: os, rm, h, hl, pw, la => by
    obtain ⟨p1, p2⟩ := List.pairwise_cons.mp pw
    have hk := hl k List.mem_cons_self
    obtain ⟨s1, s2, s3⟩ := stepH_ok F ok h hk la p1
    obtain ⟨r1, r2, r3⟩ := runH_ok F ok (os := os) s1 (fun j hj => hl j (List.mem_cons_of_mem _ hj)) p2 s2
    have hkr : k < rm.length := by rw [h.len]; exact hk
    have kn : gR (stepH ss rm k) k ≠ none := by
      unfold stepH
      by_cases z : gR rm k = none
      · rw [if_pos z, gR_set hkr, if_pos rfl]; exact fun q => by cases q
      · rw [if_neg z]; exact z
    refine ⟨r1, fun j hj => ?_, fun j hj => ?_⟩
    · rcases List.mem_cons.mp hj with rfl | hj
      · show gR (runH ss (stepH ss rm j) os) j ≠ none
        rw [r3 j kn]; exact kn
      · exact r2 j hj
    · have e : gR (stepH ss rm k) j = gR rm j := by
        unfold stepH
        by_cases z : gR rm k = none
        · rw [if_pos z, gR_set hkr, if_neg (fun q => hj (by rw [q]; exact z))]
        · rw [if_neg z]
      show gR (runH ss (stepH ss rm k) os) j = gR rm j
      rw [r3 j (by rw [e]; exact hj), e]
end MD

namespace MD
open PySem PySem.Spec PyProof.Rows L2
/-! ### what needs count -/
theorem cntV_bump (kvs : Kvs) (c d : List Key) : cntV (bump kvs c) d = cntV kvs d + (if d = c then 1 else 0) := by
  unfold bump cntV
  rw [valV_put]
  by_cases h : d = c
  · subst h; simp
  · simp [h]
theorem cellK_iff {a b c d : Int} : cellK a b = cellK c d ↔ a = c ∧ b = d := ⟨fun h => by have := cellK_inj h; exact ⟨congrArg Prod.fst this, congrArg Prod.snd this⟩, fun h => by rw [h.1, h.2]⟩
theorem cntV_bumps (kvs : Kvs) (k f k' t : Int) : ∀ n : Nat, cntV (bumps kvs k f n) (cellK k' t) = cntV kvs (cellK k' t) + (if k' = k ∧ f ≤ t ∧ t < f + n then 1 else 0)
  | 0 => by
    rw [if_neg (by omega)]
    show cntV kvs _ = _
    omega
  | n + 1 => by
    show cntV (bump (bumps kvs k f n) (cellK k (f + n))) (cellK k' t) = _
    rw [cntV_bump, cntV_bumps kvs k f k' t n]
    by_cases h : cellK k' t = cellK k (f + n)
    · rw [if_pos h]
      obtain ⟨h1, h2⟩ := cellK_iff.mp h
      rw [if_neg (by omega), if_pos (by omega)]; omega
    · rw [if_neg h]
      have h' : ¬ (k' = k ∧ t = f + n) := fun z => h (cellK_iff.mpr z)
      by_cases z : k' = k ∧ f ≤ t ∧ t < f + n
      · rw [if_pos z, if_pos (by omega)]; omega
      · rw [if_neg z, if_neg (by omega)]; omega
theorem cnt_fold (k t : Int) : ∀ (p : List Sy) (kvs : Kvs), (∀ s ∈ p, s.2.1 ≤ s.2.2) → cntV (p.foldl needs1 kvs) (cellK k t) = cntV kvs (cellK k t) + ((p.countP (inN k t) : Nat) : Int)
  | [], kvs, _ => by simp
  | s :: p, kvs, h => by
    have hs := h s List.mem_cons_self
    rw [List.foldl_cons, cnt_fold k t p _ fun x hx => h x (List.mem_cons_of_mem _ hx)]
    unfold needs1
    rw [cntV_bumps, List.countP_cons]
    by_cases z : inN k t s = true
    · obtain ⟨z1, z2, z3⟩ := inN_iff.mp z
      rw [if_pos (by omega), if_pos z]; omega
    · have z' : ¬ (s.1 = k ∧ s.2.1 ≤ t ∧ t < s.2.2) := fun q => z (inN_iff.mpr q)
      rw [if_neg (by omega), if_neg z]; omega
theorem cnt_needs {p : List Sy} (h : ∀ s ∈ p, s.2.1 ≤ s.2.2) (k t : Int) : cntV (needsL p) (cellK k t) = ((p.countP (inN k t) : Nat) : Int) := by
  unfold needsL
  rw [cnt_fold k t p [] h]
  show (0 : Int) + _ = _
  omega
def roomsOf (su : Su) (k : Int) : Int := if 0 ≤ k ∧ k < su.rooms.length then capK su k else 0
/-- an entry of the needs, in an inn whose nights have not too many -/
theorem need_le {su : Su} {p : List Sy} (so : su.ok) (ok : ∀ s ∈ p, Sy.ok su s) (F : Fits su p) (c0 : ∀ k : Int, 0 ≤ k → k < su.rooms.length → 0 ≤ capK su k) (k t : Int) : ((p.countP (inN k t) : Nat) : Int) ≤ roomsOf su k := by
  by_cases z : p.countP (inN k t) = 0
  · rw [z]
    unfold roomsOf
    split
    · rename_i h; exact c0 k h.1 h.2
    · exact Int.le_refl _
  · obtain ⟨s, hs, h⟩ := List.countP_pos_iff.mp (Nat.pos_of_ne_zero z)
    obtain ⟨h1, h2, h3⟩ := inN_iff.mp h
    have o := ok s hs
    have := o.k0; have := o.k1; have := o.f0; have := o.e1
    unfold roomsOf
    rw [if_pos (by omega)]
    exact F k t (by omega) (by omega) (by omega) (by omega)
/-- the rooms of those that meet s -/
def besideU (ss : List Sy) (rm : List (Option Int)) (s : Sy) (n : Nat) : List (Option Int) := (List.range n).filterMap fun j => if meetB (gS ss j) s = true then some (gR rm j) else none
theorem besideU_s (ss : List Sy) (rm : List (Option Int)) (s : Sy) (n : Nat) : besideU ss rm s (n + 1) = besideU ss rm s n ++ (if meetB (gS ss n) s = true then [gR rm n] else []) := by
  unfold besideU
  rw [List.range_succ, List.filterMap_append]
  congr 1
  rw [List.filterMap_cons, List.filterMap_nil]
  by_cases h : meetB (gS ss n) s = true
  · rw [if_pos h, if_pos h]
  · rw [if_neg h, if_neg h]
theorem besideU_len (ss : List Sy) (rm : List (Option Int)) (s : Sy) (n : Nat) : (besideU ss rm s n).length ≤ n := by
  have := List.length_filterMap_le (fun j => if meetB (gS ss j) s = true then some (gR rm j) else none) (List.range n)
  rw [List.length_range] at this
  exact this
theorem mem_beside {ss : List Sy} {rm : List (Option Int)} {s : Sy} {n : Nat} {r : Option Int} : r ∈ besideU ss rm s n ↔ ∃ j, j < n ∧ meetB (gS ss j) s = true ∧ gR rm j = r := by
  unfold besideU
  rw [List.mem_filterMap]
  constructor
  · rintro ⟨j, hj, h⟩
    split at h
    · rename_i hm
      exact ⟨j, List.mem_range.mp hj, hm, Option.some.inj h⟩
    · cases h
  · rintro ⟨j, hj, hm, h⟩
    exact ⟨j, List.mem_range.mpr hj, by rw [if_pos hm, h]⟩
theorem beside_taken {ss : List Sy} {rm : List (Option Int)} {k : Nat} {r : Int} : some r ∈ besideU ss rm (gS ss k) ss.length ↔ r ∈ takenL ss rm k := by
  rw [mem_beside, mem_taken]
theorem RepTs.take {H : Hp} : ∀ {ds : List D} {vs : List V} {i : Nat}, RepTs H ds vs → RepTs H (ds.take i) (vs.take i)
  | [], vs, i, h => by
    have := h.nilE; subst this
    rw [List.take_nil, List.take_nil]
    exact RepTs.nil
  | d :: ds, vs, i, h => by
    obtain ⟨v, r, rfl, h1, h2⟩ := h.consE
    cases i with
    | zero => exact RepTs.nil
    | succ i => exact RepTs.cons h1 (RepTs.take h2)
end MD

namespace MD
open PySem PySem.Spec PyProof.Rows L2
/-! ### defs that may raise -/
structure CalX (P : Program) (w : World) (K : PySem.W.Frag) (mg : Str → Option Value) (base : Heap) (k : Nat) (x : Str) (sp : Sp) : Prop where
  ex : ∃ (f : Addr) (fd : FuncData) (ps : List Str), FnOk P w K mg base (L2.CX P w) k f fd ps sp ∧ mg x = some (.ref f) ∧ PySem.W.keepIn K (.ref f) = true ∧ Binds K fd ps []
section
variable {P : Program} {w : World} {K : PySem.W.Frag} {mg : Str → Option Value} {base : Heap}
theorem calX_of {x : Str} {st : Stmt} {N ps : List Str} {k : Nat} {sp : Sp} (D : DefAt K mg x st ps) (S : FnScope N ps (defScope st)) (len : ∀ vs H Q E, sp vs H Q E → vs.length = ps.length)
    (hbody : ∀ (f : Addr) (cdv : Value) (A : Around) (outer : List Env) (s : Shared) (H : Hp) (vs : List V) (Q : VK) (E : XK), Room k (A.deeper (envOfC x (defScope st) s.heap.objs.size f cdv)) → sp vs H Q E →
      ∃ t, PSs (cxOf (L2.CX P w) P w K mg base N x (defScope st) f cdv A outer s H E) (defBody st) t ∧ t { nx := fun _ H' => Q .non H', rt := Q } (start N vs) H) : CalX P w K mg base (k + 1) x sp := by
  obtain ⟨f, fd, hm, F, b⟩ := D.ex
  exact ⟨f, fd, ps, F.okX S len (hbody f), hm, F.kp, b⟩
end
section
variable {X : Cx} {k : Nat} {x : Str} {sp : Sp} {p pos : Pos} {e : Expr} {es : List Expr} {t : TA} {E : L2.St → XK}
theorem pe_cX (c : CalX X.prog X.w X.K X.mg X.base k x sp) (hr : Room k X.A) (hg : Gl X x) (hx : ∀ σ, PassesAt (L2.CX X.prog X.w) X σ (E σ)) (ha : PA X (e :: es) t)
    (hdb : (x == ("__debug__" : Str)) = false := by decide) (he : starEach (e :: es) X.env = (false, eval e X.env) :: starEach es X.env := by rfl) (hpl : (backTo pos (starEach es X.env)).any (·.1) = false := by rfl) :
    PE X (.Call (.Name x p) (e :: es) [] pos) (tCallS sp E t) := by
  obtain ⟨f, fd, ps, F, hm, kp, b⟩ := c.ex
  exact pe_callS F hr hg hm kp b hx ha hdb he hpl
end
/-- what a raise of the class C asks: facts of the class -/
structure ExcC (K : PySem.W.Frag) (mg : Str → Option Value) (x : Str) (C : Addr) : Prop where
  g : mg x = some (.ref C)
  e : PySem.W.excIn K C [.type "ValueError", .type "Exception", .type "BaseException", .type "object"] "ValueError.__new__" = true
  k : PySem.W.keepIn K (.ref C) = true
  b : PySem.W.subIn K (.ref C) (.type "BaseException") = some true
  t : PySem.W.typeIn K (.ref C) = some (.type "type")
theorem ps_rz {X : Cx} {x m : Str} {C : Addr} {W : WX} {j : Nat} {p p2 pos pos' : Pos} (c : ExcC X.K X.mg x C) (hc : X.calm = true) (tk : Takes X W) (hg : Gl X x) (hdb : (x == ("__debug__" : Str)) = false := by decide) :
    PS X (.Raise (some (.Call (.Name x p) [.Constant (.str m) j p2] [] pos)) none pos') (fun _ σ H => W (.ref C) none σ H) :=
  ps_raise hc tk (pmk_own PySem.F.excBase_ValueError c.e c.g c.k (raises_own c.b c.t) hg hdb)
theorem exm_self {K : PySem.W.Frag} {C : Addr} (b : PySem.W.subIn K (.ref C) (.type "BaseException") = some true) (i : PySem.W.isClsIn K C = true) (t : PySem.W.typeIn K (.ref C) = some (.type "type")) (s : PySem.W.subIn K (.ref C) (.ref C) = some true) :
    PySem.W.exmOne K (.ref C) (.ref C) = some true := by
  have i : (PySem.W.clsIn K C).isSome = true := i
  show (if (PySem.W.subIn K (.ref C) (.type "BaseException") == some true) = true then PySem.W.kitCls K (.ref C) (.ref C) else none) = some true
  rw [b, if_pos (by rfl)]
  show (if ((PySem.W.clsIn K C).isSome && PySem.W.typeIn K (.ref C) == some (.type "type")) = true then PySem.W.subIn K (.ref C) (.ref C) else none) = some true
  rw [i, t, if_pos (by rfl), s]
end MD

namespace MD
open PySem PySem.Spec PyProof.Rows L2
/-! ### defs that are called while nothing is being shown (no guard): for str(..) of nested data -/
structure FnG (P : Program) (w : World) (K : PySem.W.Frag) (mg : Str → Option Value) (base : Heap) (Z : CXT)
    (k : Nat) (f : Addr) (fd : FuncData) (ps : List Str) (sp : Sp) : Prop where
  ln : ∀ vs H Q E, sp vs H Q E → vs.length = ps.length
  go : ∀ (A : Around) (up : List Env) (s : Shared) (H : Hp) (ar : Args) (us : List Value) (vs : List V) (Q : VK) (E : XK),
    Room k A → A.guards = some [] → Env0 P w K mg base A up s H → BindsTo s fd ar (ps.zip us) → Vals vs us →
    sp vs H Q E → codeAny (model P w) A (.call (.ref f) ar) (CR Z up P w H s Q E) s
section
variable {P : Program} {w : World} {K : PySem.W.Frag} {mg : Str → Option Value} {base : Heap}
theorem fnG_of {Z : CXT} {x qual : Str} {st : Stmt} {f : Addr} {fd : FuncData} {N ps : List Str} {k : Nat} {sp : Sp}
    (F : Fun K x qual st f fd) (S : FnScope N ps (defScope st)) (ln : ∀ vs H Q E, sp vs H Q E → vs.length = ps.length)
    (body : ∀ (cdv : Value) (A : Around) (up : List Env) (s : Shared) (H : Hp) (vs : List V) (Q : VK) (E : XK),
      Room k (A.deeper (envOfC qual (defScope st) s.heap.objs.size f cdv)) → A.guards = some [] → sp vs H Q E →
      ∃ t, PSs (cxOf Z P w K mg base N qual (defScope st) f cdv A up s H E).nox (defBody st) t ∧
        t { nx := fun _ H' => Q .non H', rt := Q } (start N vs) H) : FnG P w K mg base Z (k + 1) f fd ps sp := by
  obtain ⟨oc, od, kV, doc, pm, an, cdv, ct, osl, rfl, lk, hcd⟩ := F.ex
  refine ⟨ln, fun A up s H ar us vs Q E rm gu e0 bi rv h => ?_⟩
  have inK : K.In s.heap := e0.mod.kin.keeps fun b o q => (e0.bs b o q).1
  have hl := ln _ _ _ _ h
  refine codeAny_call_function rm.depth (inK _ _ lk) rfl S.co S.gen rfl (PySem.W.codeRec_of inK hcd) (bi _ _ _ _ ?_)
  have kd : ∀ y ∈ ps.zip us, (defScope st).names.lookup y.1 = some .local ∨
      ((defScope st).names.lookup y.1 = some .cell ∧ ((cellsFrom (s.heap.objs.size + 1) (defScope st).names []).lookup y.1).isSome = true) := by
    rintro ⟨n, v⟩ hy
    cases S.par n (List.of_mem_zip hy).1 with
    | inl q => exact .inl q
    | inr q => exact .inr ⟨q, PySem.W.cellsFrom_some _ _ _ (.inl q)⟩
  refine wpAny_newFunctionEnv_cells S.kind kd fun env he s1 ic => ?_
  subst he
  have lim := e0.mod.nolimit.keeps (h' := s.heap) fun b o q => (e0.bs b o q).1
  refine ⟨lim.keeps ic.toInCall.keep, codeAny_func ?_⟩
  obtain ⟨t, ht, hq⟩ := body cdv A up s H vs Q E (rm.deeper _) gu h
  have st0 := inv_start (CX := Z) (E := E) S rm.hd e0 hl rv ic
  refine wpAny_mono (ht.nox.run [] s1 (start N vs) H _ st0 hq) (fun fl s' hs => ?_) fun e s' hs => hs
  cases fl with
  | ret u =>
    obtain ⟨v, σ', H', J, r', q⟩ := hs
    exact ⟨v, H', J.os, J.bare, J.base, J.hok, r', q⟩
  | next =>
    obtain ⟨σ', H', J, q⟩ := hs
    exact ⟨V.non, H', J.os, J.bare, J.base, J.hok, rfl, q⟩
  | brk => exact hs.elim fun _ q => q.elim fun _ q => q.2.elim
  | cont => exact hs.elim fun _ q => q.elim fun _ q => q.2.elim
structure CalG (P : Program) (w : World) (K : PySem.W.Frag) (mg : Str → Option Value) (base : Heap) (k : Nat) (x : Str) (sp : Sp) : Prop where
  ex : ∃ (f : Addr) (fd : FuncData) (ps : List Str), FnG P w K mg base L2.CX0 k f fd ps sp ∧ mg x = some (.ref f) ∧
    PySem.W.keepIn K (.ref f) = true ∧ Binds K fd ps []
theorem calG_of {x : Str} {st : Stmt} {N ps : List Str} {k : Nat} {sp : Sp} (D : DefAt K mg x st ps) (S : FnScope N ps (defScope st))
    (ln : ∀ vs H Q E, sp vs H Q E → vs.length = ps.length)
    (body : ∀ (f : Addr) (cdv : Value) (A : Around) (up : List Env) (s : Shared) (H : Hp) (vs : List V) (Q : VK) (E : XK),
      Room k (A.deeper (envOfC x (defScope st) s.heap.objs.size f cdv)) → A.guards = some [] → sp vs H Q E →
      ∃ t, PSs (cxOf L2.CX0 P w K mg base N x (defScope st) f cdv A up s H E).nox (defBody st) t ∧
        t { nx := fun _ H' => Q .non H', rt := Q } (start N vs) H) : CalG P w K mg base (k + 1) x sp := by
  obtain ⟨f, fd, hm, F, b⟩ := D.ex
  exact ⟨f, fd, ps, fnG_of F S ln (body f), hm, F.kp, b⟩
end
section
variable {X : Cx} {k : Nat} {x : Str} {sp : Sp} {p pos : Pos} {e : Expr} {es : List Expr} {t : TA}
theorem pe_cG (c : CalG X.prog X.w X.K X.mg X.base k x sp) (hr : Room k X.A) (gu : X.A.guards = some []) (hg : Gl X x) (ha : PA X (e :: es) t)
    (hdb : (x == ("__debug__" : Str)) = false := by decide) (he : starEach (e :: es) X.env = (false, eval e X.env) :: starEach es X.env := by rfl)
    (hpl : (backTo pos (starEach es X.env)).any (·.1) = false := by rfl) :
    PE X (.Call (.Name x p) (e :: es) [] pos) (tCall sp [] L2.E0 t) := by
  obtain ⟨f, fd, ps, F, hm, kp, b⟩ := c.ex
  refine ⟨fun pins s σ H Q I h => wpAny_Call_Name_kw (ld_glob I hg hm ?_ hdb)⟩
  refine PySem.W.callWith_K (h₀ := X.base) I.ok.mod.kin kp (thn (ha.run pos pins s σ H _ I h) fun us s1 ⟨vs, H1, I1, r, q⟩ => ⟨I1.kIn, ?_⟩) he hpl
  have q : sp (vs ++ []) H1 Q L2.E0 := q
  rw [List.append_nil] at q
  have hl : us.length = ps.length := by rw [← r.length]; exact F.ln _ _ _ _ q
  have bb := b s1 us I1.kIn (by rw [List.append_nil]; exact hl)
  rw [List.append_nil] at bb
  refine wpAny_call (codeAny_mono (F.go X.A X.stack s1 H1 ⟨us, []⟩ us vs Q L2.E0 hr gu I1.env0 bb r q) fun o s' ho => ?_)
  cases o with
  | error z => exact (ho : False).elim
  | ok fl =>
    cases fl with
    | ret u => exact I1.after ho
    | next => exact (ho : False).elim
    | brk => exact (ho : False).elim
    | cont => exact (ho : False).elim
end
/-! ### the head, for a law of this kind -/
section
variable {P : Program} {w : World} {K : PySem.W.Frag} {mg mb : Str → Option Value}
theorem head_core {k : Nat} {fa a : Addr} {fd : FuncData} {x : Str} {sp : Sp} {s1 : Shared} {vs : List Value} {ns : List Int} (H : Hp)
    (KX : K.In s1.heap) (hn : s1.heap.Ns mainGlobals mg) (hb : s1.heap.Ns builtinsNs mb)
    (hbb : ∀ x : Str, x ≠ "__name__" → mb x = bootBuiltins x) (lim : s1.heap.NoLimit) (hg : s1.gens = #[])
    (ha : s1.heap.get? a = some { cls := .type "list", data := .seq vs.toArray }) (rm : Room k callerA)
    (F : ∀ base : Heap, K.In base → base.Ns mainGlobals mg → FnG P w K mg base CX0 k fa fd [x] sp)
    (bi : ∀ (s : Shared) (u : Value), BindsTo s fd ⟨[u], []⟩ [(x, u)])
    (h : sp [.ref a] H (fun v _ => v = .bl true) fun _ _ _ => False) (on : Only H) (ok : HOk P w H s1.heap)
    (hA : ∀ b, H b ≠ none → b = a) (hK : H a ≠ none → K.lookup a = none) :
    codeAny (model P w) callerA (.call (.ref fa) ⟨[.ref a], []⟩)
      (fun r s' => r = .ok (.ret (.bool true)) ∧ OldK s1.heap s'.heap ∧ s'.os = s1.os ∧ AllBare s'.gens) s1 := by
  have fr : ∀ {b : Addr} {o : Obj}, s1.heap.get? b = some o → (∀ d n, o.data = .dict d n → H b = none) := fun {b o} e d n hd => by
    refine Classical.byContradiction fun z => ?_
    have := hA b z
    subst this
    rw [ha] at e
    cases e
    cases hd
  have mv : ∀ {b : Addr} {m : Str → Option Value}, s1.heap.Ns b m → (hidT s1.heap H).Ns b m := fun {b m} q => by
    obtain ⟨o, es, ep, e, d, r⟩ := q
    exact ⟨o, es, ep, hidT_get e (fr e _ _ d), d, r⟩
  have kIn : K.In (hidT s1.heap H) := fun b o e => hidT_get (KX b o e) (Classical.byContradiction fun z => by
    have := hA b z
    subst this
    rw [hK z] at e
    cases e)
  obtain ⟨mc, l1, l2⟩ := lim
  have md : Mod K mg (hidT s1.heap H) := ⟨kIn, mv hn, ⟨mb, mv hb, hbb⟩, ⟨mc, mv l1, l2⟩⟩
  have e0 : Env0 P w K mg (hidT s1.heap H) callerA [] s1 H :=
    ⟨rfl, md, fun b o e => of_hidT e, Nat.le_of_eq (hidT_size _ _), trivial,
      (fun b hb => (List.not_mem_nil (show b ∈ ([] : List Addr) from hb)).elim),
      ok, .of_eq hg⟩
  refine codeAny_mono ((F _ kIn (mv hn)).go callerA [] s1 H ⟨[.ref a], []⟩ [.ref a] [.ref a] _ _ rm rfl e0 (bi s1 (.ref a)) (.cons rfl .nil) h) fun r s' q => ?_
  cases r with
  | error e => exact (q : False).elim
  | ok fl =>
    cases fl with
    | next => exact (q : False).elim
    | brk => exact (q : False).elim
    | cont => exact (q : False).elim
    | ret u =>
      obtain ⟨v, H', os, bare, un, ok', rv, e⟩ := q
      have e : v = .bl true := e
      subst e
      have rv : u = Value.bool true := rv
      subst rv
      refine ⟨rfl, OldK.of_keep fun b o e => ?_, os, bare⟩
      cases z : H b with
      | none => exact un.keep b o e z (fun y => nomatch (show b ∈ ([] : List Addr) from y)) (fun y => nomatch y)
      | some u =>
        rcases on b with y | ⟨ob, xs, y⟩
        · rw [z] at y; cases y
        · obtain ⟨g1, _⟩ := ok b _ y
          obtain ⟨g2, _⟩ := ok' b _ (un.frzs b ob _ y)
          rw [g1] at e
          cases e
          exact g2
theorem head_call {k : Nat} {fa a : Addr} {fd : FuncData} {x : Str} {sp : Sp} {s1 : Shared} {vs : List Value} {ns : List Int}
    (KX : K.In s1.heap) (hn : s1.heap.Ns mainGlobals mg) (hb : s1.heap.Ns builtinsNs mb)
    (hbb : ∀ x : Str, x ≠ "__name__" → mb x = bootBuiltins x) (lim : s1.heap.NoLimit) (hg : s1.gens = #[])
    (ha : s1.heap.get? a = some { cls := .type "list", data := .seq vs.toArray }) (hi : IntsAre vs ns) (hl : ns.length ≤ sizeLine) (rm : Room k callerA)
    (F : ∀ base : Heap, K.In base → base.Ns mainGlobals mg → FnG P w K mg base CX0 k fa fd [x] sp)
    (bi : ∀ (s : Shared) (u : Value), BindsTo s fd ⟨[u], []⟩ [(x, u)])
    (h : ∀ H : Hp, SqL K H a (ns.map V.int) → sp [.ref a] H (fun v _ => v = .bl true) fun _ _ _ => False) :
    codeAny (model P w) callerA (.call (.ref fa) ⟨[.ref a], []⟩)
      (fun r s' => r = .ok (.ret (.bool true)) ∧ OldK s1.heap s'.heap ∧ s'.os = s1.os ∧ AllBare s'.gens) s1 := by
  have ri := vals_ints hi
  have li := hi.length
  by_cases hk : K.lookup a = none
  · obtain ⟨H, eH⟩ : ∃ H : Hp, H = fun b => if b = a then some (.frz { cls := .type "list", data := .seq vs.toArray } (.lst (ns.map V.int))) else none := ⟨_, rfl⟩
    have at' : H a = some (.frz { cls := .type "list", data := .seq vs.toArray } (.lst (ns.map V.int))) := by rw [eH]; exact if_pos rfl
    have no : ∀ b, b ≠ a → H b = none := fun b z => by rw [eH]; exact if_neg z
    refine head_core (ns := ns) H KX hn hb hbb lim hg ha rm F bi (h H (.inl (.inr ⟨_, at'⟩))) (fun b => ?_) (fun b u q => ?_) (fun b q => ?_) fun _ => hk
    · by_cases z : b = a
      · rw [z]; exact .inr ⟨_, _, at'⟩
      · exact .inl (no b z)
    · by_cases z : b = a
      · subst z
        rw [at'] at q
        cases q
        exact ⟨ha, by rw [List.length_map]; exact hl, vs, _, ri, ha⟩
      · rw [no b z] at q; cases q
    · exact Classical.byContradiction fun z => q (no b z)
  · obtain ⟨o, ho⟩ := Option.ne_none_iff_exists'.mp hk
    have e := KX a o ho
    rw [ha] at e
    cases e
    refine head_core (ns := ns) (fun _ => none) KX hn hb hbb lim hg ha rm F bi (h _ (.inr ⟨_, vs.toArray, _, ho, rfl, rfl, rfl, ?_, ?_⟩)) (fun _ => .inl rfl) (fun b u q => ?_) (fun b q => absurd rfl q) fun q => absurd rfl q
    · rw [List.size_toArray, li]; exact hl
    · simpa using ri
    · have q : (none : Option HO) = some u := q
      cases q
end
theorem walkG {l : PySem.W.OpenLaw} {n k : Nat} {q : Program} {loose : List Str} {XP : (Str → Option Value) → Heap → Prop} {YP : World → Heap → Prop}
    {d : DefRec} {K : Params → PySem.W.Frag} {sp : World → Sp} {x : Str}
    (hn : l.most = some n) (hz : n ≤ sizeLine) (hdf : d.params.defaults = []) (rm : Room k callerA)
    (hY : ∀ (w : World) (h : Heap), YP w h → (K w.params).In h)
    (F : ∀ (w : World) (mg : Str → Option Value) (fa : Addr) (h : Heap), (K w.params).In h → h.Ns mainGlobals mg → mg d.name = some (.ref fa) →
      ∃ fd : FuncData, (∀ (s : Shared) (u : Value), BindsTo s fd ⟨[u], []⟩ [(x, u)]) ∧
        ∀ base : Heap, (K w.params).In base → base.Ns mainGlobals mg → FnG l.prog w (K w.params) mg base CX0 k fa fd [x] (sp w))
    (hsp : ∀ (w : World) (H : Hp) (a : Addr) (ns : List Int), ns.length ≤ n → SqL (K w.params) H a (ns.map V.int) → sp w [.ref a] H (fun v _ => v = .bl true) fun _ _ _ => False) :
    PySem.W.WalkO q loose XP YP l.row.toRowW d [] (fun f vs => PySem.call f vs) := by
  refine Att.attach_call hn hdf ?_
  intro w s0 s1 mg mb fa o pm cd doc a vs ns G Y ho hd hcd hmg hobj hints hlen hg
  obtain ⟨fd, hb, hF⟩ := F w mg fa _ (hY w _ Y) G.T.g hmg
  exact head_call (hY w _ Y) G.T.g G.T.b G.T.builtins G.T.nolimit hg hobj hints (Nat.le_trans hlen hz) rm hF hb fun H hS => hsp w H a ns hlen hS
end MD

namespace MD
open PySem PySem.Spec PyProof.Rows L2
/-! ### str(..) of data -/
mutual
def D.py : D → PyData
  | .v .non => .none
  | .v (.bl b) => .bool b
  | .v (.int i) => .int i
  | .v (.str x) => .str x
  | .v _ => .none
  | .sq true ds => .list (Ds.py ds)
  | .sq false ds => .tuple (Ds.py ds)
def Ds.py : List D → List PyData
  | [] => []
  | d :: ds => d.py :: Ds.py ds
end
mutual
theorem Rep.dp {K : PySem.W.Frag} {H : Hp} : ∀ {d : D} {x : V}, Rep K H d x → Dp K H x d.py
  | .v u, x, h => by
    unfold Rep at h
    obtain ⟨rfl, su⟩ := h
    cases x with
    | non => exact Dp.non
    | bl b => exact Dp.bl b
    | int i => exact Dp.int i
    | str y => exact Dp.str y
    | _ => exact su.elim
  | .sq l ds, x, h => by
    unfold Rep at h
    obtain ⟨a, vs, rfl, hq, hr⟩ := h
    have r := Reps.dp hr
    unfold SqB at hq
    cases l with
    | true => rw [if_pos rfl] at hq; exact Dp.lst hq r
    | false => rw [if_neg Bool.false_ne_true] at hq; exact Dp.tup hq r
theorem Reps.dp {K : PySem.W.Frag} {H : Hp} : ∀ {ds : List D} {vs : List V}, Reps K H ds vs → DpAll K H vs (Ds.py ds)
  | [], vs, h => by
    unfold Reps at h
    subst h
    exact DpAll.nil
  | d :: ds, vs, h => by
    unfold Reps at h
    obtain ⟨v, r, rfl, h1, h2⟩ := h
    exact DpAll.cons (Rep.dp h1) (Reps.dp h2)
end
mutual
theorem D.noDict : ∀ d : D, d.py.hasDict = false
  | .v u => by cases u <;> rfl
  | .sq true ds => Ds.noDict ds
  | .sq false ds => Ds.noDict ds
theorem Ds.noDict : ∀ ds : List D, PyData.hasDictAll (Ds.py ds) = false
  | [] => rfl
  | d :: ds => by
    show (PyData.hasDict d.py || PyData.hasDictAll (Ds.py ds)) = false
    rw [D.noDict d, Ds.noDict ds]; rfl
end
/-- what str makes of it -/
def D.txt (d : D) : Str := match d with
  | .v (.str x) => x
  | d => d.py.shown
structure D.Fit (d : D) : Prop where
  sh : d.py.showable = true
  sz : d.py.shown.length ≤ sizeLine
  dp : d.py.depth ≤ 60
def kStrD (K : PySem.W.Frag) : List V → Hp → VK → Prop := fun xs H Q => ∃ (x : V) (d : D), xs = [x] ∧ Rep K H d x ∧ d.Fit ∧ Q (.str d.txt) H
theorem kstrD {X : Cx} {K : PySem.W.Frag} (gu : X.A.guards = some []) (hu : X.A.units + 100 < cLine) (hK : X.K = K := by rfl) : CallR X (.type "str") (kStrD K) := by
  subst hK
  intro pins s σ H xs us Q I r h
  obtain ⟨x, d, rfl, rd, ft, q⟩ := h
  obtain ⟨u, rfl, ru⟩ := vals1 r
  cases d with
  | v z =>
    have rd' := rd
    unfold Rep at rd'
    obtain ⟨rfl, su⟩ := rd'
    cases x with
    | non =>
      cases (show u = Value.none from ru)
      exact PySem.P.str_of_none ⟨.str _, H, I.tok _, ⟨_, rfl⟩, q⟩
    | bl b =>
      cases (show u = Value.bool b from ru)
      exact PySem.P.str_of_bool ⟨.str _, H, I.tok _, ⟨_, rfl⟩, q⟩
    | int i =>
      obtain ⟨t, rfl⟩ := ru
      have hi : i.natAbs.log2 < 1920 := of_decide_eq_true ft.sh
      exact PySem.P.str_of_int hi ⟨.str _, H, I.tok _, ⟨_, rfl⟩, q⟩
    | str y =>
      obtain ⟨t, rfl⟩ := ru
      exact PySem.P.str_of_str ⟨.str _, H, I, ⟨_, rfl⟩, q⟩
    | _ => exact su.elim
  | sq l ds =>
    obtain ⟨as, rr⟩ := Dp.reads I _ _ _ rd.dp ru
    have rd' := rd
    unfold Rep at rd'
    obtain ⟨a, vs, rfl, _, _⟩ := rd'
    cases (show u = Value.ref a from ru)
    have hd := ft.dp
    have hnd := D.noDict (.sq l ds)
    refine str_of_reads (h₀ := s.heap) rr ft.sh (fun z => by rw [hnd] at z; cases z) gu (by omega) (fun _ _ e => e) (fun h' t tk hk => ?_) ft.sz
    exact ⟨.str _, H, I.kept hk, ⟨_, rfl⟩, q⟩
/-- isinstance(e, (c1, c2, ..)), e the exception that the suite holds -/
def rIsET (K : PySem.W.Frag) (D a : Addr) : List V → Hp → VK → Prop := fun xs H Q => ∃ (tp : Addr) (cs : List V) (us : List Value) (b : Bool),
  xs = [.ref a, .ref tp] ∧ H tp = some (.tup cs) ∧ Paired ClsV cs us ∧ PySem.W.kitAny K (.ref D) us = some b ∧ Q (.bl b) H
theorem call_isET {X : Cx} {a D : Addr} {oe : Obj} {pn : List (Addr × Obj)} (C : L2.ExcC X.K D) (hz : Zc (.ref D) none oe) (hf : ∃ vs, oe.data = .fields vs) :
    CallR (X.suite a ((a, oe) :: pn)) (.builtin "isinstance") (rIsET X.K D a) := by
  intro pins s σ H xs us Q I r h
  obtain ⟨tp, cs, ws, b, rfl, hT, k, e, q⟩ := h
  obtain ⟨u1, u2, rfl, r1, r2⟩ := vals2 r
  cases (show u1 = Value.ref a from r1)
  cases (show u2 = Value.ref tp from r2)
  obtain ⟨hget, _⟩ := I.pin (a, oe) (List.mem_append.mpr (.inl List.mem_cons_self))
  have J : PySem.W.InstAt s.heap a oe D none := by
    obtain ⟨fv, hv⟩ := hf
    obtain ⟨h1, h2⟩ := hz
    obtain ⟨oc, od, oda, osl⟩ := oe
    dsimp only at h1 h2 hv
    subst h1 h2 hv
    exact ⟨hget, rfl, rfl, trivial⟩
  obtain ⟨_, its, rv, ot, g1, g2, n, g3⟩ := (show ObjOk X.prog X.w H s.heap tp (.tup cs) from I.hok tp _ hT)
  have e3 := ClsV.all k rv
  subst e3
  obtain ⟨tc, td, tt, tl⟩ := ot
  dsimp only at g2 g3
  subst g2 g3
  have Z := PySem.W.handS_kitx_exc (x := a) (ox := oe) C.hg C.hk C.hs C.hd C.ha C.hn C.ht C.hm
  exact PySem.W.kia_tup Z I.kIn J g1 e (fun z => nomatch z) fun tk => ⟨.bl b, H, I.kept (t' := tk) fun _ _ z => z, rfl, q⟩
end MD

namespace MD
open PySem PySem.Spec PyProof.Rows L2
/-! ### data that str can show: small ints, not too many of them -/
def Vl : V → Prop
  | .non => True
  | .bl _ => True
  | .int i => i.natAbs < 10 ^ 12 ∨ i = 10 ^ 12
  | .str x => PyData.canLay0 (.str x) = true ∧ x.cps.size ≤ 42
  | _ => False
mutual
def D.Il : D → Prop
  | .v u => Vl u
  | .sq _ ds => Ds.Il ds
def Ds.Il : List D → Prop
  | [] => True
  | d :: ds => d.Il ∧ Ds.Il ds
end
mutual
def D.nz : D → Nat
  | .v _ => 1
  | .sq _ ds => Ds.nz ds + 1
def Ds.nz : List D → Nat
  | [] => 0
  | d :: ds => d.nz + Ds.nz ds
end
theorem log_le {n : Nat} (h : n < 10 ^ 12) : n.log2 ≤ 40 := by
  by_cases z : n = 0
  · subst z; decide
  · have : n.log2 < 41 := (Nat.log2_lt z).mpr (by omega)
    omega
structure Fit4 (p : PyData) (nz : Nat) : Prop where
  sh : p.showable = true
  cl : p.canLay0 = true
  sm : p.intsShort 13 = true
  wt : p.weight + 1 ≤ 43 * nz
structure FitA (p : List PyData) (nz : Nat) : Prop where
  sh : PyData.showableAll p = true
  cl : PyData.canLayAll0 p = true
  sm : PyData.intsShortAll 13 p = true
  wt : PyData.weightAll p ≤ 43 * nz
theorem fit_int {i : Int} (h : i.natAbs < 10 ^ 12) : Fit4 (.int i) 1 := by
  have hl := log_le h
  refine ⟨decide_eq_true (by omega), rfl, decide_eq_true ?_, ?_⟩
  · show (Str.ofString (toString i)).length ≤ 13
    have e := int_text_length_le10 (a := i) (k := 12) (by decide) h
    rw [PySem.ofString_length]
    exact e
  · show (if (i == 0) = true then 0 else i.natAbs.log2 + 1) + 1 ≤ 43 * 1
    split <;> omega
theorem fit_int2 {i : Int} (h : i.natAbs < 10 ^ 12 ∨ i = 10 ^ 12) : Fit4 (.int i) 1 := by
  rcases h with h | rfl
  · exact fit_int h
  · exact ⟨by decide +kernel, rfl, by decide +kernel, by decide +kernel⟩
mutual
theorem D.f4 : ∀ {d : D}, d.Il → Fit4 d.py d.nz
  | .v u, h => by
    unfold D.Il at h
    cases u with
    | non => exact ⟨rfl, rfl, rfl, by show 0 + 1 ≤ 43 * 1; decide⟩
    | bl b => exact ⟨rfl, rfl, rfl, by show 0 + 1 ≤ 43 * 1; decide⟩
    | int i => exact fit_int2 h
    | str x => exact ⟨rfl, h.1, rfl, by have := h.2; show x.cps.size + 1 ≤ 43 * 1; omega⟩
    | _ => exact h.elim
  | .sq l ds, h => by
    unfold D.Il at h
    have r := Ds.f4 h
    have e : (D.sq l ds).nz = Ds.nz ds + 1 := rfl
    have w := r.wt
    cases l with
    | true => exact ⟨r.sh, r.cl, r.sm, by rw [e]; show PyData.weightAll (Ds.py ds) + 1 ≤ _; omega⟩
    | false => exact ⟨r.sh, r.cl, r.sm, by rw [e]; show PyData.weightAll (Ds.py ds) + 1 ≤ _; omega⟩
theorem Ds.f4 : ∀ {ds : List D}, Ds.Il ds → FitA (Ds.py ds) (Ds.nz ds)
  | [], _ => ⟨rfl, rfl, rfl, Nat.le_refl _⟩
  | d :: ds, h => by
    unfold Ds.Il at h
    have a := D.f4 h.1
    have b := Ds.f4 h.2
    have wa := a.wt
    have wb := b.wt
    refine ⟨?_, ?_, ?_, ?_⟩
    · show (PyData.showable d.py && PyData.showableAll (Ds.py ds)) = true
      rw [a.sh, b.sh]; rfl
    · show (PyData.canLay0 d.py && PyData.canLayAll0 (Ds.py ds)) = true
      rw [a.cl, b.cl]; rfl
    · show (PyData.intsShort 13 d.py && PyData.intsShortAll 13 (Ds.py ds)) = true
      rw [a.sm, b.sm]; rfl
    · show PyData.weight d.py + 1 + PyData.weightAll (Ds.py ds) ≤ 43 * (d.nz + Ds.nz ds)
      omega
end
theorem D.fit {d : D} (h : d.Il) (hn : d.nz ≤ 20000) (hd : d.py.depth ≤ 60) : d.Fit := by
  have f := D.f4 h
  have w := f.wt
  refine ⟨f.sh, ?_, hd⟩
  have l0 : PyData.layable0 d.py = true := by
    show (PyData.canLay0 d.py && decide (PyData.depth d.py ≤ 64) && decide (PyData.weight d.py ≤ 2 ^ 20)) = true
    rw [f.cl, decide_eq_true (show PyData.depth d.py ≤ 64 by omega), decide_eq_true (show PyData.weight d.py ≤ 2 ^ 20 by omega)]; rfl
  exact Nat.le_trans (shown_le13 l0 f.sm) (by decide)
end MD

namespace MD
open PySem PySem.Spec PyProof.Rows L2
/-! ### a comprehension's turns, whatever is done with the item -/
abbrev Bd := L2.St → Hp → (Hp → Prop) → Prop
def turnTree (place : Pos) (tgt : Expr) (cs : List Expr) (be : Env) (itv : Value) (body : Sem PySem.Fin) (nxt : Code) : Sem PySem.Fin := do
  standAt place
  match ← pyNext itv with
  | none => pure (.done .next)
  | some got =>
    letOwnedTupleGo tgt itv got
    assign tgt be got
    let mut good := true
    for q in cs do
      if good then good ← isTrue q be (eval q be)
    if good then body else again nxt
theorem loop_tree {M : Model} {A : Around} {R : Result → Shared → Prop} {s : Shared} {place : Pos} {tgt : Expr} {cs : List Expr} {be : Env} {itv : Value} {body : Sem PySem.Fin} {cd : Code} (hq : cd.quiet = true)
    (hden : M.den cd = (turnTree place tgt cs be itv body cd).onRaise (fun z => do noteFrame z be; theTreesLotGoes z)) (hA : A.under cd = A) (V : Nat → Shared → Prop)
    (one : ∀ n t, V n t → wpAny M A (pyNext itv) (fun r t1 => match r with
      | none => R (.ok .next) t1
      | some got => wpAny M A (letOwnedTupleGo tgt itv got) (fun _ t2 => wpAny M A (assign tgt be got) (fun _ t3 =>
          wpAny M A (forIn cs true fun q r => if r = true then do let yes ← isTrue q be (eval q be); pure (ForInStep.yield yes) else pure (ForInStep.yield r)) (fun yes t4 =>
            if yes = true then wpAny M A body (fun fin t5 => fin = .again cd ∧ ∃ m, m < n ∧ V m t5) (fun _ _ => False) t4 else ∃ m, m < n ∧ V m t4) (fun _ _ => False) t3) (fun _ _ => False) t2) (fun _ _ => False) t1) (fun _ _ => False) t)
    (n : Nat) (h : V n s) : codeAny M A cd R s := by
  refine codeAny_loop hq V (fun n t hV => ?_) n h
  rw [hden, hA]
  refine wpAny_noted ?_
  unfold turnTree
  refine wpAny_bind (wpAny_standAt (wpAny_bind (wpAny_mono (one n t hV) (fun r t1 h1 => ?_) fun _ _ z => z.elim)))
  cases r with
  | none => exact wpAny_pure h1
  | some got =>
    refine wpAny_bind (wpAny_mono h1 (fun _ t2 h2 => ?_) fun _ _ z => z.elim)
    refine wpAny_bind (wpAny_mono h2 (fun _ t3 h3 => wpAny_bind (wpAny_mono h3 (fun yes t4 h4 => ?_) fun _ _ z => z.elim)) fun _ _ z => z.elim)
    cases yes with
    | false => exact wpAny_pure ⟨rfl, h4⟩
    | true =>
      refine wpAny_mono h4 (fun fin t5 h5 => ?_) fun _ _ z => z.elim
      obtain ⟨rfl, h5⟩ := h5
      exact ⟨rfl, h5⟩
/-- what the body does in the block B, by the reading b, ahead of going on with cd; only the slots vs may be lost -/
def ActK (B : Cx) (body : Sem PySem.Fin) (cd : Code) (b : Bd) (vs : List Nat) : Prop :=
  ∀ (pins : List (Addr × Obj)) (s : Shared) (σ : L2.St) (H : Hp) (Nx : Hp → Prop), Inv B pins σ H s → b σ H Nx →
    wpAny (model B.prog B.w) B.A body (fun fin s' => fin = .again cd ∧ ∃ σ' H', Inv B pins σ' H' s' ∧ σ'.length = σ.length ∧ (∀ (j : Nat) v, j ∉ vs → σ[j]? = some (some v) → σ'[j]? = some (some v)) ∧ Nx H') (fun _ _ => False) s
def kTurn (g : TG) (tt : TT) (b : Bd) (vs : List Nat) (σ : L2.St) (Nx : Hp → Prop) (x : V) (H : Hp) : Prop :=
  g x (wipe σ vs) H fun σ2 H2 => wipe σ2 vs = wipe σ vs ∧ tt σ2 H2 fun c H3 => if c = true then b σ2 H3 Nx else Nx H3
def kWalk (g : TG) (tt : TT) (b : Bd) (vs : List Nat) (σ : L2.St) (J : It) (H0 : Hp) (Qd : Hp → Prop) : Prop :=
  ∃ W : Nat → Nat → Hp → Prop, (∃ m, W 0 m H0) ∧ ∀ i m H, W i m H → (J.stop i H ∧ Qd H) ∨ (J.go i H ∧ ∃ Nx : Hp → Prop, (∀ H', Nx H' → ∃ m', m' < m ∧ W (i + 1) m' H') ∧ ∀ x H', J.yld i H x H' → kTurn g tt b vs σ Nx x H')
section
variable {B : Cx} {tg : Expr} {J : It} {fp : List Addr} {it : Addr} {tn : Nat → Heap → Prop} {g : TG} {tt : TT} {cs : List Expr} {body : Sem PySem.Fin} {b : Bd} {vs va : List Nat} {place : Pos} {cd : Code} {R : Result → Shared → Prop}
theorem loop_inv (T : Turn B.prog B.w B.K tg J fp it tn) (pg : PG B tg g) (pt : PTs B cs tt) (hc : B.calm = true) (ha : ActK B body cd b va) (hva : ∀ i ∈ va, i ∈ vs) (hq : cd.quiet = true)
    (hden : (model B.prog B.w).den cd = (turnTree place tg cs B.env (.ref it) body cd).onRaise (fun z => do noteFrame z B.env; theTreesLotGoes z)) (hA : B.A.under cd = B.A) (hxe : B.xe = fun _ _ => False)
    {pins : List (Addr × Obj)} {σ : L2.St} {H0 : Hp} {s0 : Shared} {Qd : Hp → Prop} (I0 : Inv B pins (wipe σ vs) H0 s0) (st0 : tn 0 s0.heap) (n0 : ∀ c ∈ fp, H0 c = none)
    (ff : ∀ H' : Hp, (∀ c ∈ fp, H' c = none) → ∀ c ∈ fp, FpOk B pins H' c) (hw : kWalk g tt b vs σ J H0 Qd) (hR : ∀ H' s', Inv B pins (wipe σ vs) H' s' → Qd H' → R (.ok .next) s') :
    codeAny (model B.prog B.w) B.A cd R s0 := by
  obtain ⟨W, ⟨m0, w0⟩, turn⟩ := hw
  refine loop_tree hq hden hA (fun n t => ∃ i H', Inv B pins (wipe σ vs) H' t ∧ tn i t.heap ∧ (∀ c ∈ fp, H' c = none) ∧ W i n H') ?_ m0 ⟨0, H0, I0, st0, n0, w0⟩
  rintro n t ⟨i, H, I, st, nn, w⟩
  rcases turn i n H w with ⟨stop, qd⟩ | ⟨go, Nx, less, step⟩
  · refine thn (T.done B rfl rfl rfl hc i pins t _ H _ I (ff H nn) st stop) fun r t1 ⟨er, I1⟩ => ?_
    subst er
    exact hR H t1 I1 qd
  refine thn (T.item B rfl rfl rfl hc i pins t _ H _ I (ff H nn) st go) fun r t1 ⟨u, er, h1⟩ => ?_
  subst er
  refine thn h1 fun _ t2 ⟨x, H2, I2, rx, yl, st2, n2⟩ => ?_
  have P2 := I2.pinned (ff H2 n2) (T.obj _ _ st2)
  have run1 := pg.run _ t2 _ H2 x u _ P2 rx (step x H2 yl)
  rw [hxe] at run1
  refine thn run1 fun _ t3 ⟨σ3, H3, I3, w3, q3⟩ => ?_
  have run2 := pt.run _ t3 σ3 H3 _ I3 q3
  rw [hxe] at run2
  refine thn run2 fun yes t4 ⟨H4, I4, q4⟩ => ?_
  have close : ∀ {t' : Shared} {σ' : L2.St} {H' : Hp}, Inv B (pins ++ pinsAt fp t2.heap) σ' H' t' → σ'.length = σ3.length → (∀ (j : Nat) v, j ∉ va → σ3[j]? = some (some v) → σ'[j]? = some (some v)) → Nx H' →
      ∃ m, m < n ∧ ∃ i H', Inv B pins (wipe σ vs) H' t' ∧ tn i t'.heap ∧ (∀ c ∈ fp, H' c = none) ∧ W i m H' := fun {t' σ' H'} I' hl hk nx => by
    obtain ⟨m', hm, w'⟩ := less H' nx
    have same : ∀ c ∈ fp, ∀ o, t2.heap.get? c = some o → t'.heap.get? c = some o ∧ H' c = none := fun c hcf o e => by
      have z := I'.pin (c, o) (List.mem_append_right _ (List.mem_append_right _ (mem_pinsAt hcf e)))
      exact ⟨z.1, z.2.1⟩
    refine ⟨m', hm, i + 1, H', I'.unpinned.weak (by rw [hl, ← wipe_length σ3 vs, w3]) (fun j v e => ?_), T.keep _ _ _ st2 fun c hcf o e => (same c hcf o e).1, fun c hcf => ?_, w'⟩
    · rw [← w3] at e
      obtain ⟨e1, e2⟩ := wipe_some e
      exact hk j v (fun z => e2 (hva j z)) e1
    · obtain ⟨o, e, _⟩ := T.obj _ _ st2 c hcf
      exact (same c hcf o e).2
  cases yes with
  | false =>
    simp only [Bool.false_eq_true, if_false] at q4 ⊢
    exact close I4 rfl (fun _ _ _ e => e) q4
  | true =>
    simp only [if_true] at q4 ⊢
    exact thn (ha _ t4 σ3 H4 Nx I4 q4) fun fin t5 ⟨ef, σ5, H5, I5, l5, k5, nx⟩ => ⟨ef, close I5 l5 k5 nx⟩
end
/-! ### a dict with tuple keys takes an entry -/
theorem d_storeT {X : Cx} {pins : List (Addr × Obj)} {σ : L2.St} {H : Hp} {s : Shared} {E : Value → Shared → Prop} {D q : Addr} {kvs : Kvs} {k : List Key} {v : V} {r : Value} {Q : Unit → Shared → Prop} (hu : X.A.units < cLine) (I : Inv X pins σ H s) (hD : H D = some (.dT kvs)) (hq : H q = some (.tup (k.map kV))) (hz : kvs.length < sizeLine)
    (rv : RelV v r) (h : ∀ s', Inv X pins σ (upd H D (.dT (putK kvs k v))) s' → Q () s') : wpAny (model X.prog X.w) X.A (dictSet D (.ref q) r) Q E s := by
  obtain ⟨big, notSys, ent, rel, dd⟩ := dt_of I.hok hD
  have few : ent.length ≤ sizeLine := by rw [← Paired.length rel]; exact big
  have more := length_putK kvs k v
  have here := key_of I.hok hq
  unfold dictSet
  refine wpAny_holding (wpAny_bind ((tupleKind (mixKind X.prog X.w)).pyHash (k := k) hu here ?_))
  generalize ((tupleKind (mixKind X.prog X.w)).draws k) = dr
  refine wpAny_dictSetHashed_heap (s := { s with toks := s.toks + dr }) hu here dd (fun hp made but => h _ ?_) few
  obtain ⟨ob, rows, ep, o1, o2, o3, o4, _, o5⟩ := made
  exact d_write (t' := s.toks + dr) (I.tok (s.toks + dr)) (by rw [hD]; trivial) but ⟨ob, o1⟩
    ⟨by omega, notSys, _, (rel.put k hq rv).keeps fun c ys ec => (upd_ne (ne_of ec hD fun z => nomatch z)).trans ec, ob, rows, ep, o1, o2, o3, o4, o5⟩
/-! ### dict comprehensions with tuple keys -/
def bStore (tk tv : TE) (D : Addr) : Bd := fun σ H Nx => tk σ H fun y H4 => tv σ H4 fun z H5 => ∃ (kvs : Kvs) (k : List Key) (q : Addr), y = .ref q ∧ H5 q = some (.tup (k.map kV)) ∧ H5 D = some (.dT kvs) ∧ kvs.length < sizeLine ∧ Wr H5 D (.dT (putK kvs k z)) Nx
def bInner (wi : TI) (g : TG) (tt : TT) (b : Bd) (vs : List Nat) : Bd := fun σ H Nx => wi σ H fun J H4 => kWalk g tt b vs σ J H4 Nx
def storeT (kx vx : Expr) (D : Addr) (be : Env) : Sem Unit := do
  let key ← eval kx be
  let it ← holding [key] (eval vx be)
  standAt { kx.pos with endLine := vx.pos.endLine, endCol := vx.pos.endCol }
  holding [key, it] (dictSet D key it)
theorem act_store {B : Cx} {cd : Code} {kx vx : Expr} {tk tv : TE} {D : Addr} (hu : B.A.units < cLine) (hxe : B.xe = fun _ _ => False) (pk : PE B kx tk) (pv : PE B vx tv) : ActK B (storeT kx vx D B.env >>= fun _ => again cd) cd (bStore tk tv D) [] := by
  intro pins s σ H Nx I h
  have r1 := pk.run pins s σ H _ I h
  rw [hxe] at r1
  unfold storeT
  refine wpAny_bind (wpAny_bind (thn r1 fun key s1 ⟨y, H1, I1, ry, h1⟩ => ?_))
  have r2 := pv.run pins s1 σ H1 _ I1 h1
  rw [hxe] at r2
  refine wpAny_bind (wpAny_holding (thn r2 fun val s2 ⟨z, H2, I2, rz, kvs, k, q, ey, hq, hD, few, wr⟩ => ?_))
  subst ey
  obtain rfl : key = .ref q := ry
  exact wpAny_bind (wpAny_standAt (wpAny_holding (d_storeT hu I2 hD hq few rz fun s3 I3 => wpAny_pure ⟨rfl, σ, _, I3, rfl, fun _ _ _ e => e, wr.old hD trivial⟩)))
theorem turn_one (kx vx tg iter : Expr) (cs : List Expr) (sc : Scope) (ps : Pos) (itv : Value) (D : Addr) (be : Env) :
    compTurn (.DictComp kx vx [⟨tg, iter, cs, 0⟩] sc ps) 0 itv (.ref D) be = turnTree iter.pos tg cs be itv (storeT kx vx D be >>= fun _ => again (.compLoop (.DictComp kx vx [⟨tg, iter, cs, 0⟩] sc ps) 0 itv (.ref D) be)) (.compLoop (.DictComp kx vx [⟨tg, iter, cs, 0⟩] sc ps) 0 itv (.ref D) be) := by rfl
theorem turn_in (kx vx tg iter tg1 iter1 : Expr) (cs cs1 : List Expr) (sc : Scope) (ps : Pos) (itv : Value) (D : Addr) (be : Env) :
    compTurn (.DictComp kx vx [⟨tg, iter, cs, 0⟩, ⟨tg1, iter1, cs1, 0⟩] sc ps) 1 itv (.ref D) be = turnTree iter1.pos tg1 cs1 be itv (storeT kx vx D be >>= fun _ => again (.compLoop (.DictComp kx vx [⟨tg, iter, cs, 0⟩, ⟨tg1, iter1, cs1, 0⟩] sc ps) 1 itv (.ref D) be)) (.compLoop (.DictComp kx vx [⟨tg, iter, cs, 0⟩, ⟨tg1, iter1, cs1, 0⟩] sc ps) 1 itv (.ref D) be) := by rfl
def nested (ce : Expr) (iter1 : Expr) (acc : Value) (be : Env) (cd : Code) : Sem PySem.Fin := do
  let over ← eval iter1 be
  standAt iter1.pos
  let over ← foldedSetIterable iter1 be over
  let _ ← runOwn (.compStart ce 1 (← holding [over] (pyIter over)) acc be) be
  again cd
theorem turn_out (kx vx tg iter tg1 iter1 : Expr) (cs cs1 : List Expr) (sc : Scope) (ps : Pos) (itv acc : Value) (be : Env) :
    compTurn (.DictComp kx vx [⟨tg, iter, cs, 0⟩, ⟨tg1, iter1, cs1, 0⟩] sc ps) 0 itv acc be = turnTree iter.pos tg cs be itv (nested (.DictComp kx vx [⟨tg, iter, cs, 0⟩, ⟨tg1, iter1, cs1, 0⟩] sc ps) iter1 acc be (.compLoop (.DictComp kx vx [⟨tg, iter, cs, 0⟩, ⟨tg1, iter1, cs1, 0⟩] sc ps) 0 itv acc be)) (.compLoop (.DictComp kx vx [⟨tg, iter, cs, 0⟩, ⟨tg1, iter1, cs1, 0⟩] sc ps) 0 itv acc be) := by rfl
theorem wipe_away {σ : L2.St} {i : Nat} : ∀ {l : List Nat}, i ∉ l → (wipe σ l)[i]? = σ[i]? := fun h => wipe_out h
theorem start_inner {prog : Program} {w : World} {A : Around} {R : Result → Shared → Prop} {s : Shared} {kx vx tg iter tg1 iter1 : Expr} {cs cs1 : List Expr} {sc : Scope} {ps : Pos} {itv acc : Value} {be : Env}
    (now : codeAny (model prog w) A (.compLoop (.DictComp kx vx [⟨tg, iter, cs, 0⟩, ⟨tg1, iter1, cs1, 0⟩] sc ps) 1 itv acc be) R s)
    (same : wpAny (model prog w) A (pyIter itv) (fun i2 s' => codeAny (model prog w) A (.compLoop (.DictComp kx vx [⟨tg, iter, cs, 0⟩, ⟨tg1, iter1, cs1, 0⟩] sc ps) 1 i2 acc be) R s') (fun _ _ => False) s) :
    codeAny (model prog w) A (.compStart (.DictComp kx vx [⟨tg, iter, cs, 0⟩, ⟨tg1, iter1, cs1, 0⟩] sc ps) 1 itv acc be) R s := by
  refine codeAny_of_tree ?_
  show wpAny _ _ ((compStart (.DictComp kx vx [⟨tg, iter, cs, 0⟩, ⟨tg1, iter1, cs1, 0⟩] sc ps) 1 itv acc be).onRaise fun z => (do noteFrame z be; standAt theWindowsPlace)) _ _ s
  refine wpAny_notedAt ?_
  unfold compStart
  show wpAny _ _ (ask >>= _) _ _ s
  refine wpAny_bind (wpAny_askSetting (wpAny_ite ?_))
  split
  · first
      | exact wpAny_pure ⟨rfl, now⟩
      | exact wpAny_bind (wpAny_pure (wpAny_pure ⟨rfl, now⟩))
  · first
      | exact wpAny_bind (wpAny_rule (wpAny_bind (wpAny_standAt (wpAny_bind (wpAny_mono same (fun i2 s' z => wpAny_pure ⟨rfl, z⟩) fun _ _ z => z.elim)))))
      | (refine wpAny_bind (wpAny_rule ?_); show wpAny _ _ (standAt iter1.pos >>= _) _ _ s; exact wpAny_bind (wpAny_standAt (wpAny_bind (wpAny_mono same (fun i2 s' z => wpAny_pure ⟨rfl, z⟩) fun _ _ z => z.elim))))
theorem act_nested {B : Cx} {cd : Code} {kx vx tg iter tg1 iter1 : Expr} {cs cs1 : List Expr} {sc : Scope} {ps : Pos} {wi : TI} {g : TG} {tt : TT} {tk tv : TE} {D : Addr} {vs : List Nat} (hu : B.A.units < cLine) (hc : B.calm = true) (hxe : B.xe = fun _ _ => False)
    (ps1 : PI B tg1 iter1 wi) (pg : PG B tg1 g) (pt : PTs B cs1 tt) (pk : PE B kx tk) (pv : PE B vx tv) (hs : ∀ z, foldedSetIterable iter1 B.env z = pure z) :
    ActK B (nested (.DictComp kx vx [⟨tg, iter, cs, 0⟩, ⟨tg1, iter1, cs1, 0⟩] sc ps) iter1 (.ref D) B.env cd) cd (bInner wi g tt (bStore tk tv D) vs) vs := by
  intro pins s σ H Nx I h
  have r := ps1.run pins s σ H _ I h
  rw [hxe] at r
  unfold nested
  refine wpAny_bind (thn r fun xv s1 h1 => wpAny_bind (wpAny_standAt (wpAny_bind (wpAny_of_eq (hs xv) (wpAny_bind (wpAny_holding (thn h1 fun itv s2 hp => ?_)))))))
  obtain ⟨it, fp, tn, J, H2, rfl, I2, T, st, ff, hw⟩ := hp
  have loop : codeAny (model B.prog B.w) B.A (.compLoop (.DictComp kx vx [⟨tg, iter, cs, 0⟩, ⟨tg1, iter1, cs1, 0⟩] sc ps) 1 (.ref it) (.ref D) B.env)
      (fun r s' => match r with
        | .ok _ => ∃ σ' H', Inv B pins σ' H' s' ∧ σ'.length = σ.length ∧ (∀ (j : Nat) v, j ∉ vs → σ[j]? = some (some v) → σ'[j]? = some (some v)) ∧ Nx H'
        | .error _ => False) s2 :=
    loop_inv T pg pt hc (act_store hu hxe pk pv) (fun _ z => nomatch z) rfl (by show (compTurn _ _ _ _ _).onRaise _ = _; rw [turn_in]) rfl hxe (I2.weak (wipe_length σ vs) fun j v e => (wipe_some e).1) st (fun c hcf => (ff c hcf).1)
      (fun H' hn c hcf => ⟨hn c hcf, (ff c hcf).2⟩) hw fun H' s' I' nx => ⟨wipe σ vs, H', I', wipe_length σ vs, fun j v hj e => by rw [wipe_away hj]; exact e, nx⟩
  refine wpAny_bind (wpAny_runOwn ?_)
  rw [Around.mark_none]
  refine codeAny_mono (start_inner loop (T.self B.A 0 _ _ _ st loop)) fun r s' hr => ?_
  cases r with
  | ok f => exact wpAny_pure ⟨rfl, hr⟩
  | error e => exact hr.elim
def kDc (wi : TI) (g : TG) (tt : TT) (b : Addr → Bd) (vs : List Nat) : TE := fun σ H Q => wi σ H fun J H1 => ∀ D H1', H1 D = none → Kp [] H1 H1' → H1' D = some (.dT []) → kWalk g tt (b D) vs σ J H1' (Q (.ref D))
theorem dict_comp {X : Cx} {kx vx tg iter : Expr} {cs : List Expr} {rest : List Comprehension} {scope : Scope} {own : List (Str × Nat)} {ps : Pos} {wi : TI} {g : TG} {tt : TT} {b : Addr → Bd} {va : List Nat} {body : Value → Addr → Env → Sem PySem.Fin}
    (hc : X.calm = true) (hN : X.N.Nodup) (hi : PI X tg iter wi) (ok : BlkOk X.N X.env.scope scope own) (hva : ∀ i ∈ va, i ∈ own.map (·.2))
    (tree : ∀ itv D be, compTurn (.DictComp kx vx (⟨tg, iter, cs, 0⟩ :: rest) scope ps) 0 itv (.ref D) be = turnTree iter.pos tg cs be itv (body itv D be) (.compLoop (.DictComp kx vx (⟨tg, iter, cs, 0⟩ :: rest) scope ps) 0 itv (.ref D) be))
    (hg : ∀ (s : Shared) (H : Hp) (C : Addr) (cl : List (Str × Addr)) (fp : List Addr), PG (X.blk s H scope (compEnvC scope cl C X.env) fp) tg g)
    (ht : ∀ (s : Shared) (H : Hp) (C : Addr) (cl : List (Str × Addr)) (fp : List Addr), PTs (X.blk s H scope (compEnvC scope cl C X.env) fp) cs tt)
    (ha : ∀ (s : Shared) (H : Hp) (C : Addr) (cl : List (Str × Addr)) (fp : List Addr) (it D : Addr), ActK (X.blk s H scope (compEnvC scope cl C X.env) fp) (body (.ref it) D (compEnvC scope cl C X.env)) (.compLoop (.DictComp kx vx (⟨tg, iter, cs, 0⟩ :: rest) scope ps) 0 (.ref it) (.ref D) (compEnvC scope cl C X.env)) (b D) va)
    (hs : ∀ z, foldedSetIterable iter X.env z = pure z) : PE X (.DictComp kx vx (⟨tg, iter, cs, 0⟩ :: rest) scope ps) (kDc wi g tt b (own.map (·.2))) := by
  refine ⟨fun pins s σ H Q I h => ?_⟩
  rw [arm_eval_DictComp]
  have known : ∀ y ∈ scope.names, y.2 = .free → ∃ c, X.env.cells.lookup y.1 = some c := fun y hy e => I.ok.has _ (ok.free y hy e)
  refine wpAny_comprehension_free (use := none) rfl hs (closure_ok known) ok.kind (fun y hy e => (ok.uniq y hy).trans (congrArg some e)) (thn (hi.run pins s σ H _ I h) fun xv s1 hx => thn hx fun itv s2 hp => ?_)
  obtain ⟨it, fp, tn, J, H2, rfl, I2, T, st2, f2, q⟩ := hp
  refine wpAny_newObj_type (newEnv_comp ?_)
  have newD : H2 s2.heap.objs.size = none := I2.hok.fresh (Nat.le_refl _)
  have walk := q s2.heap.objs.size _ newD (Kp.new newD) upd_same
  obtain ⟨s3, e3⟩ : ∃ s3 : Shared, s3 = { s2 with heap := s2.heap.push { cls := .type "dict", data := .dict #[] } } := ⟨_, rfl⟩
  have I3 : Inv X pins σ (upd H2 s2.heap.objs.size (.dT [])) s3 := by
    rw [e3]
    exact I2.laid (t' := s2.toks) (fun c o e => Heap.get?_push_of_some _ e) (Nat.le_refl _) (dt_empty s2.heap I2.big)
  have f3 : ∀ c ∈ fp, FpOk X pins (upd H2 s2.heap.objs.size (.dT [])) c ∧ c < s3.heap.objs.size := fun c hcf => by
    obtain ⟨o, e, _⟩ := T.obj _ _ st2 c hcf
    have lt := Heap.lt_size e
    exact ⟨⟨(upd_ne (Nat.ne_of_lt lt)).trans (f2 c hcf).1, (f2 c hcf).2⟩, by rw [e3, Heap.size_push]; exact Nat.lt_succ_of_lt lt⟩
  have st3 : tn 0 s3.heap := T.keep _ _ _ st2 fun c _ o e => by rw [e3]; exact Heap.get?_push_of_some _ e
  rw [← e3]
  generalize s2.heap.objs.size = D at newD walk I3 f3 ⊢
  generalize upd H2 D (.dT []) = H3 at walk I3 f3
  have I4 := block_start I3 ok hN f3
  have pg := hg s3 H3 s3.heap.objs.size (cellsFrom (s3.heap.objs.size + 1) scope.names (cloFrom X.env.cells scope.names [])) fp
  have pt := ht s3 H3 s3.heap.objs.size (cellsFrom (s3.heap.objs.size + 1) scope.names (cloFrom X.env.cells scope.names [])) fp
  have pa := ha s3 H3 s3.heap.objs.size (cellsFrom (s3.heap.objs.size + 1) scope.names (cloFrom X.env.cells scope.names [])) fp it D
  show codeAny _ _ (.compStart _ 0 (.ref it) (.ref D) (compEnvC scope (cellsFrom (s3.heap.objs.size + 1) scope.names (cloFrom X.env.cells scope.names [])) s3.heap.objs.size X.env)) (compPost (model X.prog X.w) X.A X.xe none (EP X pins σ Q) (.ref D) s3.heap.objs.size) { s3 with heap := pushCells (s3.heap.push { cls := .type "dict", data := .dict #[] }) scope.names }
  obtain ⟨ce, ece⟩ : ∃ ce : Env, ce = compEnvC scope (cellsFrom (s3.heap.objs.size + 1) scope.names (cloFrom X.env.cells scope.names [])) s3.heap.objs.size X.env := ⟨_, rfl⟩
  have locals : ce.locals = s3.heap.objs.size := by rw [ece]; rfl
  obtain ⟨s4, e4⟩ : ∃ s4 : Shared, s4 = { s3 with heap := pushCells (s3.heap.push { cls := .type "dict", data := .dict #[] }) scope.names } := ⟨_, rfl⟩
  rw [← ece] at I4 pg pt pa ⊢
  rw [← e4] at I4 ⊢
  have st4 : tn 0 s4.heap := T.keep _ _ _ st3 fun c _ o e => by rw [e4]; exact pushCells_keeps _ _ _ _ (Heap.get?_push_of_some _ e)
  have loop : codeAny (model X.prog X.w) X.A (.compLoop (.DictComp kx vx (⟨tg, iter, cs, 0⟩ :: rest) scope ps) 0 (.ref it) (.ref D) ce) (compPost (model X.prog X.w) X.A X.xe none (EP X pins σ Q) (.ref D) s3.heap.objs.size) s4 := by
    refine loop_inv (B := X.blk s3 H3 scope ce fp) T pg pt hc pa hva rfl (by show (compTurn _ _ _ _ _).onRaise _ = _; rw [tree]) rfl rfl I4 st4 (fun c hcf => (f3 c hcf).1.1) (fun H' hn c hcf => ?_) walk fun H' s' I' qd => ?_
    · exact ⟨hn c hcf, (I4.ok.exf c hcf).1, I4.ok.exfs c hcf, .inl hcf, fun x d e => (I4.ok.exf c hcf).2 x d e, fun p hp => absurd hp (by simp)⟩
    · have back : Inv X pins σ H' s' := I3.call' (ch := fp) I'.os I'.base I'.hok I'.bare fun c hcf => ⟨(f3 c hcf).1.2.2.2.1, (f3 c hcf).1.2.1, (f3 c hcf).1.2.2.2.2.1, (f3 c hcf).1.2.2.2.2.2⟩
      have gone : H' s3.heap.objs.size = none := locals ▸ (I'.free : H' ce.locals = none)
      obtain ⟨m, hn, _⟩ := I'.loc
      have hn : s'.heap.Ns s3.heap.objs.size m := locals ▸ (hn : s'.heap.Ns ce.locals m)
      obtain ⟨c0, c1, c2, c3, c4, c5⟩ := I3.fpOk (Nat.le_refl _) gone
      exact ⟨m, hn, fun h'' sb => ⟨.ref D, H', back.turned (t' := s'.toks) (fun c o hcn e => (sb.2 c hcn).trans e) c0 c1 c3 c4 c5, rfl, qd⟩⟩
  exact codeAny_compStart_dict loop (T.self X.A 0 _ _ _ st4 loop)
section
variable {X : Cx} {kx vx tg iter tg1 iter1 : Expr} {cs cs1 : List Expr} {scope : Scope} {own : List (Str × Nat)} {ps : Pos} {wi wi1 : TI} {g g1 : TG} {tt tt1 : TT} {tk tv : TE} {vs1 : List Nat}
theorem ke_dcT (hu : X.A.units < cLine) (hc : X.calm = true) (hN : X.N.Nodup) (hi : PI X tg iter wi) (ok : BlkOk X.N X.env.scope scope own)
    (hg : ∀ (s : Shared) (H : Hp) (C : Addr) (cl : List (Str × Addr)) (fp : List Addr), PG (X.blk s H scope (compEnvC scope cl C X.env) fp) tg g)
    (ht : ∀ (s : Shared) (H : Hp) (C : Addr) (cl : List (Str × Addr)) (fp : List Addr), PTs (X.blk s H scope (compEnvC scope cl C X.env) fp) cs tt)
    (hk : ∀ (s : Shared) (H : Hp) (C : Addr) (cl : List (Str × Addr)) (fp : List Addr), PE (X.blk s H scope (compEnvC scope cl C X.env) fp) kx tk)
    (hv : ∀ (s : Shared) (H : Hp) (C : Addr) (cl : List (Str × Addr)) (fp : List Addr), PE (X.blk s H scope (compEnvC scope cl C X.env) fp) vx tv)
    (hs : ∀ z, foldedSetIterable iter X.env z = pure z := by intro _; rfl) : PE X (.DictComp kx vx [⟨tg, iter, cs, 0⟩] scope ps) (kDc wi g tt (bStore tk tv) (own.map (·.2))) :=
  dict_comp (va := []) (body := fun itv D be => storeT kx vx D be >>= fun _ => again (.compLoop (.DictComp kx vx [⟨tg, iter, cs, 0⟩] scope ps) 0 itv (.ref D) be)) hc hN hi ok (fun _ z => nomatch z) (fun itv D be => turn_one kx vx tg iter cs scope ps itv D be) hg ht
    (fun s H C cl fp it D => act_store (B := X.blk s H scope (compEnvC scope cl C X.env) fp) hu rfl (hk s H C cl fp) (hv s H C cl fp)) hs
theorem ke_dcT2 (hu : X.A.units < cLine) (hc : X.calm = true) (hN : X.N.Nodup) (hi : PI X tg iter wi) (ok : BlkOk X.N X.env.scope scope own) (hvs : ∀ i ∈ vs1, i ∈ own.map (·.2))
    (hg : ∀ (s : Shared) (H : Hp) (C : Addr) (cl : List (Str × Addr)) (fp : List Addr), PG (X.blk s H scope (compEnvC scope cl C X.env) fp) tg g)
    (ht : ∀ (s : Shared) (H : Hp) (C : Addr) (cl : List (Str × Addr)) (fp : List Addr), PTs (X.blk s H scope (compEnvC scope cl C X.env) fp) cs tt)
    (hi1 : ∀ (s : Shared) (H : Hp) (C : Addr) (cl : List (Str × Addr)) (fp : List Addr), PI (X.blk s H scope (compEnvC scope cl C X.env) fp) tg1 iter1 wi1)
    (hg1 : ∀ (s : Shared) (H : Hp) (C : Addr) (cl : List (Str × Addr)) (fp : List Addr), PG (X.blk s H scope (compEnvC scope cl C X.env) fp) tg1 g1)
    (ht1 : ∀ (s : Shared) (H : Hp) (C : Addr) (cl : List (Str × Addr)) (fp : List Addr), PTs (X.blk s H scope (compEnvC scope cl C X.env) fp) cs1 tt1)
    (hk : ∀ (s : Shared) (H : Hp) (C : Addr) (cl : List (Str × Addr)) (fp : List Addr), PE (X.blk s H scope (compEnvC scope cl C X.env) fp) kx tk)
    (hv : ∀ (s : Shared) (H : Hp) (C : Addr) (cl : List (Str × Addr)) (fp : List Addr), PE (X.blk s H scope (compEnvC scope cl C X.env) fp) vx tv)
    (hs : ∀ z, foldedSetIterable iter X.env z = pure z := by intro _; rfl) (hs1 : ∀ be z, foldedSetIterable iter1 be z = pure z := by intro _ _; rfl) :
    PE X (.DictComp kx vx [⟨tg, iter, cs, 0⟩, ⟨tg1, iter1, cs1, 0⟩] scope ps) (kDc wi g tt (fun D => bInner wi1 g1 tt1 (bStore tk tv D) vs1) (own.map (·.2))) :=
  dict_comp (va := vs1) (body := fun itv D be => nested (.DictComp kx vx [⟨tg, iter, cs, 0⟩, ⟨tg1, iter1, cs1, 0⟩] scope ps) iter1 (.ref D) be (.compLoop (.DictComp kx vx [⟨tg, iter, cs, 0⟩, ⟨tg1, iter1, cs1, 0⟩] scope ps) 0 itv (.ref D) be)) hc hN hi ok hvs
    (fun itv D be => turn_out kx vx tg iter tg1 iter1 cs cs1 scope ps itv (.ref D) be) hg ht
    (fun s H C cl fp it D => act_nested (B := X.blk s H scope (compEnvC scope cl C X.env) fp) hu hc rfl (hi1 s H C cl fp) (hg1 s H C cl fp) (ht1 s H C cl fp) (hk s H C cl fp) (hv s H C cl fp) (hs1 _)) hs
end
section
variable {g : TG} {tt : TT} {b : Bd} {vs : List Nat} {σ : L2.St} {H0 : Hp} {Qd : Hp → Prop}
/-- the walk over range(lo, lo + n) -/
theorem kw_range {lo : Int} {n : Nat} (Pv : Nat → Hp → Prop) (h0 : Pv 0 H0) (hs : ∀ i H, i < n → Pv i H → kTurn g tt b vs σ (Pv (i + 1)) (.int (lo + i)) H) (hd : ∀ H, Pv n H → Qd H) : kWalk g tt b vs σ (Itr lo n) H0 Qd := by
  refine ⟨fun i m H => m = n - i ∧ i ≤ n ∧ Pv i H, ⟨n, by simp, Nat.zero_le _, h0⟩, ?_⟩
  rintro i m H ⟨rfl, hi, p⟩
  by_cases hlt : i < n
  · refine .inr ⟨hlt, Pv (i + 1), fun H' p' => ⟨n - (i + 1), by omega, rfl, hlt, p'⟩, fun x H' y => ?_⟩
    obtain ⟨e, y⟩ := y
    subst e y
    exact hs i _ hlt p
  · have e : i = n := by omega
    subst e
    exact .inl ⟨Nat.le_refl _, hd H p⟩
/-- the walk over a locked dict's keys -/
theorem kw_keysT {d : Addr} {od : Obj} {kvs : Kvs} (Pv : Nat → Hp → Prop) (h0 : Pv 0 H0) (hl : ∀ i H, Pv i H → H d = some (.frz od (.dT kvs)))
    (hs : ∀ i k v q H, kvs[i]? = some (k, v) → H q = some (.tup (k.map kV)) → Pv i H → kTurn g tt b vs σ (Pv (i + 1)) (.ref q) H) (hd : ∀ H, Pv kvs.length H → Qd H) : kWalk g tt b vs σ (Itkt d od kvs) H0 Qd := by
  refine ⟨fun i m H => m = kvs.length - i ∧ i ≤ kvs.length ∧ Pv i H, ⟨kvs.length, by simp, Nat.zero_le _, h0⟩, ?_⟩
  rintro i m H ⟨rfl, hi, p⟩
  have q := hl i H p
  by_cases hlt : i < kvs.length
  · refine .inr ⟨⟨q, hlt⟩, Pv (i + 1), fun H' p' => ⟨kvs.length - (i + 1), by omega, rfl, hlt, p'⟩, fun x H' y => ?_⟩
    obtain ⟨e, k, v, c, e1, e2, e3⟩ := y
    subst e e2
    exact hs i k v c _ e1 e3 p
  · have e : i = kvs.length := by omega
    subst e
    exact .inl ⟨⟨q, Nat.le_refl _⟩, hd H p⟩
end
end MD

namespace MD
open PySem PySem.Spec PyProof.Rows L2
/-! ### dicts with tuple keys: an entry is taken out -/
section
variable {X : Cx} {pins : List (Addr × Obj)} {σ : L2.St} {H : Hp} {s : Shared} {a b : Addr} {kvs : Kvs} {k : List Key}
theorem inv_drop {xs : List (List Key × Addr × Value)} {h' : Heap} {tk : Nat} (I : Inv X pins σ H s) (ha : H a = some (.dT kvs)) (big : kvs.length ≤ sizeLine) (ns : (a == sysModules) = false) (rel : KT H kvs xs)
    (made : h'.DictOfH (tupleKind (mixKind X.prog X.w)) a (DT.dropH xs k)) (but : Heap.SameBut a s.heap h') : Inv X pins σ (upd H a (.dT (dropK kvs k))) { s with heap := h', toks := tk } := by
  obtain ⟨ob, rows, ep, o1, o2, o3, o4, _, o5⟩ := made
  exact d_write (t' := tk) I (by rw [ha]; trivial) but ⟨ob, o1⟩
    ⟨Nat.le_trans (dropK_le kvs k) big, ns, _, (L2.DX.KT_drop k rel).keeps (fun c ys ec => (upd_ne (ne_of ec ha fun z => nomatch z)).trans ec), ob, rows, ep, o1, o2, o3, o4, o5⟩
theorem kt_at {xs : List (List Key × Addr × Value)} (rel : KT H kvs xs) {v : V} (e : valV kvs k = some v) : ∃ p, atKey xs k = some p ∧ RelV v p.2 := by
  have r := rel.val k
  rw [e] at r
  cases q : atKey xs k with
  | none => rw [q] at r; exact (show False from r).elim
  | some p => rw [q] at r; exact ⟨p, rfl, r⟩
/-- the entry at k, which is there, leaves the dict -/
theorem take_there {A : Around} {E : Value → Shared → Prop} {v : V} {Q : Option DictEntry → Shared → Prop} (hu : A.units < cLine) (I : Inv X pins σ H s) (ha : H a = some (.dT kvs)) (hb : H b = some (.tup (k.map kV))) (e : valV kvs k = some v)
    (h : ∀ (r : DictEntry) s', RelV v r.val → Inv X pins σ (upd H a (.dT (dropK kvs k))) s' → Q (some r) s') : wpAny (model X.prog X.w) A (Builtin.Dict.takeOut a (.ref b)) Q E s := by
  obtain ⟨big, ns, xs, rel, dd⟩ := dt_of I.hok ha
  obtain ⟨p, hp, rv⟩ := kt_at rel e
  refine DT.takeH (knd := tupleKind (mixKind X.prog X.w)) (k := k) hu (key_of I.hok hb) dd (by rw [← Paired.length rel]; exact big) (fun z => by rw [hp] at z; cases z) fun p' r hp' er h' made but => ?_
  rw [hp] at hp'
  cases hp'
  exact h r _ (by rw [er]; exact rv) (inv_drop I ha big ns rel made but)
theorem is_dict (I : Inv X pins σ H s) (ha : H a = some (.dT kvs)) : s.TypeIs (.ref a) "dict" ∧ (a == sysModules) = false := by
  obtain ⟨big, ns, xs, rel, dd⟩ := dt_of I.hok ha
  exact ⟨dd.typeIs, ns⟩
end
def kDelT (td ty : TE) : TS := fun D σ H => td σ H fun x H1 => ty σ H1 fun y H2 => ∃ (a b : Addr) (kvs : Kvs) (k : List Key), x = .ref a ∧ y = .ref b ∧ H2 a = some (.dT kvs) ∧ H2 b = some (.tup (k.map kV)) ∧ (valV kvs k).isSome = true ∧ Wr H2 a (.dT (dropK kvs k)) (D.nx σ)
section
variable {X : Cx}
theorem ks_delT {o i : Expr} {tpos pos : Pos} {td ty : TE} (hu : X.A.units + 1 < cLine) (ho : PE X o td) (hi : PE X i ty) : PS X (.Delete [.Subscript o i tpos] pos) (kDelT td ty) := by
  refine ⟨fun pins s σ H D I h => ?_⟩
  refine wpAny_Delete (wpAny_deleteEach_cons (wpAny_delete_Subscript (thn (ho.run pins s σ H _ I h) fun u s1 ⟨x, H1, I1, rx, h1⟩ => thn (hi.run pins s1 σ H1 _ I1 h1) fun iv s2 ⟨y, H2, I2, ry, a, b, kvs, k, ex, ey, ha, hb, hk, wr⟩ => ?_)))
  subst ex ey
  obtain rfl : u = .ref a := rx
  obtain rfl : iv = .ref b := ry
  obtain ⟨v, hv⟩ := Option.isSome_iff_exists.mp hk
  obtain ⟨ty', ns⟩ := is_dict I2 ha
  refine wpAny_delItem_slot ty' (by decide) PySem.F.slot_dict_delitem ?_
  refine call_meetsIn PySem.F.slot_dict_delitem ty' PySem.F.entry_dict_delitem (PySem.F.args_dict_delitem_2 _ _)
    (S := fun A' R s' => A' = X.A ∧ s' = s2 ∧ ∀ s3, Inv X pins σ (upd H2 a (.dT (dropK kvs k))) s3 → R (.ok (.ret .none)) s3) (.of_wp fun A' R s' hS => ?_) ⟨rfl, rfl, fun s3 I3 => wpAny_deleteEach_nil ⟨σ, _, I3, wr.old ha trivial⟩⟩
  obtain ⟨rfl, rfl, done⟩ := hS
  unfold Builtin.«dict.__delitem__»
  refine wpAny_bind ?_
  unfold Builtin.Dict.dictSlotArgs
  refine wpAny_bind (wpAny_notOrdered_dict ty' ?_)
  show wpAny _ _ (pure (Value.ref a, Value.ref b)) _ _ _
  refine wpAny_pure ?_
  show wpAny _ _ (Builtin.Dict.takeOut a (.ref b) >>= _) _ _ _
  exact wpAny_bind (take_there hu I2 ha hb hv fun r s3 _ I3 => wpAny_bind (wpAny_letGo (wpAny_pure ⟨.none, rfl, done s3 I3⟩)))
def kPopT : V → List V → Hp → VK → Prop := fun x xs H Q => ∃ (a b : Addr) (kvs : Kvs) (k : List Key) (d : V), x = .ref a ∧ xs = [.ref b, d] ∧ H a = some (.dT kvs) ∧ H b = some (.tup (k.map kV)) ∧
  (∀ v, valV kvs k = some v → Wr H a (.dT (dropK kvs k)) (Q v)) ∧ (valV kvs k = none → Q d H)
theorem mk_popT (hu : X.A.units + 1 < cLine) : MtR X "dict.pop" kPopT := mtI (L2.DX.mt_popT hu) fun x xs H Q ⟨a, b, kvs, k, d, h1, h2, h3, h4, h5, h6⟩ => ⟨a, kvs, k, b, d, h1, h2, h3, h4, fun v e => (h5 v e).old h3 trivial, h6⟩
def kPop1T : V → List V → Hp → VK → Prop := fun x xs H Q => ∃ (a b : Addr) (kvs : Kvs) (k : List Key) (v : V), x = .ref a ∧ xs = [.ref b] ∧ H a = some (.dT kvs) ∧ H b = some (.tup (k.map kV)) ∧ valV kvs k = some v ∧ Wr H a (.dT (dropK kvs k)) (Q v)
theorem mk_pop1T (hu : X.A.units + 1 < cLine) : MtR X "dict.pop" kPop1T := by
  intro pins s σ H x xs v us Q I rx rxs h
  obtain ⟨a, b, kvs, k, u, rfl, rfl, ha, hb, e, wr⟩ := h
  obtain rfl : v = .ref a := rx
  obtain ⟨w1, rfl, rw⟩ := vals1 rxs
  obtain rfl : w1 = .ref b := rw
  obtain ⟨ty', ns⟩ := is_dict I ha
  obtain ⟨big, _, ent, rel, dd⟩ := dt_of I.hok ha
  refine call_meetsIn PySem.F.slot_dict_pop ty' PySem.F.entry_dict_pop (PySem.F.args_dict_pop_2 _ _)
    (S := fun A' R s' => A' = X.A ∧ s' = s ∧ ∀ (r : Value) s3, RelV u r → Inv X pins σ (upd H a (.dT (dropK kvs k))) s3 → R (.ok (.ret r)) s3) (.of_wp fun A' R s' hS => ?_) ⟨rfl, rfl, fun r s3 rr I3 => ⟨u, _, I3, rr, wr.old ha trivial⟩⟩
  obtain ⟨rfl, rfl, done⟩ := hS
  unfold Builtin.«dict.pop»
  refine wpAny_bind ?_
  unfold Builtin.Dict.keyAndDefault
  refine wpAny_bind (wpAny_notOrdered_dict ty' ?_)
  show wpAny _ _ (pure (a, Value.ref b, (none : Option Value))) _ _ _
  refine wpAny_pure ?_
  obtain ⟨ob, rows, ep, o1, o2, o3, o4, _, o5⟩ := dd
  have full : rows.isEmpty = false := by
    obtain ⟨p, hp, _⟩ := kt_at rel e
    cases q : rows.isEmpty with
    | false => rfl
    | true =>
      have z : rows.toList = [] := by simpa using q
      rw [z] at o4
      have z2 : ent = [] := by
        cases ent with
        | nil => rfl
        | cons y r => cases o4
      rw [z2] at hp
      cases hp
  have notPart : (keyPart (Value.ref b)).isSome = false := rfl
  simp only [notPart, Bool.false_eq_true, if_false]
  refine wpAny_bind (wpAny_dictEntries o1 o3 (wpAny_bind (wpAny_pure ?_)))
  rw [full]
  simp only [Bool.false_eq_true, if_false]
  refine wpAny_bind (take_there hu I ha hb e fun r s3 rr I3 => ?_)
  simp only [Option.isNone_some, Bool.false_eq_true, if_false]
  exact wpAny_bind (wpAny_letGo (wpAny_pure ⟨r.val, rfl, done r.val s3 rr I3⟩))
end
end MD

namespace MD
open PySem PySem.Spec PyProof.Rows L2
/-! ### a copy of a dict with tuple keys; its keys, sorted -/
theorem copy_raw {prog : Program} {w : World} {A : Around} {E : Value → Shared → Prop} {s : Shared} {K : Type} [DecidableEq K] {knd : HeapKind prog w K} {o : Addr} {ent : List (K × Addr × Value)} {Q : Value → Shared → Prop} (hu : knd.room A.in1.in1) (ns : (o == sysModules) = false) (ho : s.heap.DictOfH knd o ent)
    (few : ent.length ≤ sizeLine) (stay : ∀ h', (∀ c u, s.heap.get? c = some u → h'.get? c = some u) → ∀ x ∈ ent, knd.is h' x.1 x.2.1 ∧ ({ s with heap := h' } : Shared).TypeIs (.ref x.2.1) "tuple") (apart : (ent.map fun x => knd.hash x.1).Nodup)
    (h : ∀ h', h'.DictOfH knd s.heap.objs.size ent → Heap.SameBut s.heap.objs.size (s.heap.push { cls := .type "dict", data := .dict #[] }) h' → Q (.ref s.heap.objs.size) { s with heap := h' }) : wpAny (model prog w) A (call (.type "dict") [.ref o]) Q E s := by
  refine callType_codes (Q₁ := fun x t => x = .ref s.heap.objs.size ∧ t = { s with heap := s.heap.push { cls := .type "dict", data := .dict #[] } }) PySem.F.kt_called_dict (PySem.F.kt_typeCall_dict_1 _) PySem.F.entry_dict_init (kt_code_dict_new _ ⟨rfl, rfl⟩) (fun x t hx => ?_)
  obtain ⟨rfl, rfl⟩ := hx
  have born : (s.heap.push { cls := .type "dict", data := .dict #[] }).DictOfH knd s.heap.objs.size [] := ⟨_, #[], 0, Heap.get?_push_size _ rfl, ⟨rfl, rfl, rfl⟩, rfl, rfl, (fun _ z => nomatch z), List.nodup_nil⟩
  have old : (s.heap.push { cls := .type "dict", data := .dict #[] }).DictOfH knd o ent := by
    obtain ⟨ob, rows, ep, o1, o2, o3, o4, o5, o6⟩ := ho
    refine ⟨ob, rows, ep, Heap.get?_push_of_some _ o1, o2, o3, o4, fun x hx => ?_, o6⟩
    exact (stay _ (fun c u e => Heap.get?_push_of_some _ e) x hx).1
  have ne : s.heap.objs.size ≠ o := fun e => by
    obtain ⟨ob, _, _, o1, _⟩ := ho
    have := Heap.lt_size o1
    rw [e] at this
    exact Nat.lt_irrefl _ this
  refine ⟨born.typeIs, PySem.F.args_dict_init_2 _ _, ?_⟩
  unfold Builtin.«dict.__init__» Builtin.Dict.selfAndRest
  refine wpAny_bind (wpAny_bind (wpAny_notOrdered_dict born.typeIs ?_))
  show wpAny _ _ (pure (s.heap.objs.size, [Value.ref o])) _ _ _
  refine wpAny_pure ?_
  show wpAny _ _ (Builtin.Dict.updateFrom "dict.__init__" s.heap.objs.size (.ref o) [] .none) _ _ _
  refine updateFrom_dictH (A := A.in1) .none hu ne ns born old (.inr ⟨fun x hx => (stay _ (fun c u e => Heap.get?_push_of_some _ e) x hx).2, apart⟩) (by simpa using few) fun h' made _ but => ⟨rfl, h h' ?_ but⟩
  rw [storedAllH_nil_of_nodup ent (Heap.DictOfH.nodup ho)] at made
  exact made
def hash2 (i j : Int) : Int := reduceHash (Builtin.Tuple.tupleHashOf [hashInt i, hashInt j])
theorem hash_cell (P : Program) (w : World) (i j : Int) : (tupleKind (mixKind P w)).hash (cellK i j) = hash2 i j := rfl
theorem kt_keys {H : Hp} {kvs : Kvs} {ent : List (List Key × Addr × Value)} (r : KT H kvs ent) : ent.map (·.1) = kvs.map (·.1) := by
  induction r with
  | nil => rfl
  | cons p t ih => rw [List.map_cons, List.map_cons, ih, p.1]
theorem kt_tups {H : Hp} {kvs : Kvs} {ent : List (List Key × Addr × Value)} (r : KT H kvs ent) : ∀ x ∈ ent, H x.2.1 = some (.tup (x.1.map kV)) := by
  induction r with
  | nil => intro x hx; cases hx
  | cons p t ih =>
    intro x hx
    rcases List.mem_cons.mp hx with rfl | hx
    · rw [← p.1]; exact p.2.1
    · exact ih x hx
def kCopyT : List V → Hp → VK → Prop := fun xs H Q => ∃ (a : Addr) (kvs : Kvs) (es : List (Int × Int)), xs = [.ref a] ∧ H a = some (.dT kvs) ∧ kvs.map (·.1) = es.map (fun c => cellK c.1 c.2) ∧ (es.map fun c => hash2 c.1 c.2).Nodup ∧ New H (.dT kvs) Q
theorem kcopyT {X : Cx} (hu : X.A.units + 2 < cLine) : CallR X (.type "dict") kCopyT := by
  intro pins s σ H xs us Q I r h
  obtain ⟨a, kvs, es, rfl, ha, hk, hn, q⟩ := h
  obtain ⟨u, rfl, ru⟩ := vals1 r
  obtain rfl : u = .ref a := ru
  obtain ⟨big, ns, ent, rel, dd⟩ := dt_of I.hok ha
  have el : ent.length = kvs.length := (Paired.length rel).symm
  have ek := kt_keys rel
  have tups := kt_tups rel
  refine copy_raw (knd := tupleKind (mixKind X.prog X.w)) (show X.A.units + 1 + 1 < cLine from hu) ns dd (by rw [el]; exact big) (fun h' keep x hx => ?_) ?_ fun h' made but => ?_
  · obtain ⟨o, its, n, g, c, d, r⟩ := key_of I.hok (tups x hx)
    exact ⟨⟨o, its, n, keep _ _ g, c, d, r⟩, ⟨o, keep _ _ g, c⟩⟩
  · have e : (ent.map fun x => (tupleKind (mixKind X.prog X.w)).hash x.1) = (ent.map (·.1)).map (tupleKind (mixKind X.prog X.w)).hash := by rw [List.map_map]; rfl
    rw [e, ek, hk, List.map_map]
    exact hn
  · have fresh : H s.heap.objs.size = none := I.hok.fresh (Nat.le_refl _)
    refine ⟨.ref s.heap.objs.size, _, I.laid (t' := s.toks) (fun c u e => (but.2 c (Nat.ne_of_lt (Heap.lt_size e))).trans (Heap.get?_push_of_some _ e)) (Nat.le_refl _) ?_, rfl, q.old _ fresh⟩
    exact ⟨big, beq_eq_false_iff_ne.mpr (Nat.ne_of_gt I.big), ent, rel.keeps fun c ys ec => (upd_ne (ne_of_none ec fresh)).trans ec, (let ⟨ob, rows, ep, o1, o2, o3, o4, _, o5⟩ := made; ⟨ob, rows, ep, o1, o2, o3, o4, o5⟩)⟩
def lexP (c d : Int × Int) : Prop := SrtO.lexB d c = false
def kSortKT : List V → Hp → VK → Prop := fun xs H Q => ∃ (a : Addr) (kvs : Kvs) (es : List (Int × Int)), xs = [.ref a] ∧ H a = some (.dT kvs) ∧ kvs.map (·.1) = es.map (fun c => cellK c.1 c.2) ∧
  ∀ qs : List (Addr × (Int × Int)), (qs.map (·.2)).Perm es → (qs.map (·.2)).Pairwise lexP → (∀ q ∈ qs, H q.1 = some (.tup [.int q.2.1, .int q.2.2])) → New H (.lst (qs.map fun q => V.ref q.1)) Q
theorem sorted_raw {prog : Program} {w : World} {A : Around} {E : Value → Shared → Prop} {s : Shared} {d : Addr} {es : Array DictEntry} {ep : Nat} {k : Value → Int × Int} {Q : Value → Shared → Prop} (hh : A.handled = none) (lo : (d == sysModules) = false) (hr : s.heap.DictRaw d es ep) (few : es.size ≤ sizeLine)
    (hp : ∀ e ∈ es.toList, Srt.IsPair s.heap e.key (k e.key).1 (k e.key).2)
    (h : ∀ (g h' : Heap) (tk : Nat) (out : List Value), SrtO.Srtd (fun v u => SrtO.lexB (k v) (k u)) out → out.Perm (es.toList.map (·.key)) → (∀ b o, s.heap.get? b = some o → g.get? b = some o) → (∀ b o, g.get? b = some o → h'.get? b = some o) → (∃ n, h'.get? g.objs.size = some (seqObj "list" out.toArray n)) →
      Q (.ref g.objs.size) { s with heap := h', toks := tk }) :
    wpAny (model prog w) A (call (.builtin "sorted") [.ref d]) Q E s := by
  refine Calls.call_function_entry kind_sorted plain_sorted entry_sorted (args_sorted1 _) ?_
  unfold Builtin.«sorted»
  refine wpAny_bind (m := checkCount "sorted" 1 1 _) (wpAny_pure (wpAny_bind (PySem.W.kdu_collect (A := A.in1) (PySem.KdlSrc.rawDict (ep := ep) lo) hh hr few fun h1 tk acc keep items => ?_)))
  have ea : acc.toList = es.toList.map (·.key) := by
    obtain ⟨sz, at'⟩ := items
    refine List.ext_getElem (by rw [List.length_map, Array.length_toList, Array.length_toList, sz]) fun i h1 h2 => ?_
    obtain ⟨hi, e⟩ := at' i _ (Array.getElem?_eq_getElem (by simpa using h1))
    simpa using e
  have el : acc.toList.length ≤ sizeLine := by rw [ea, List.length_map, Array.length_toList]; exact few
  refine wpAny_bind (wpAny_newList ?_ el)
  generalize acc.toList = vs at ea el
  generalize eD : ({ s with heap := h1, toks := tk } : Shared).heap.objs.size = D
  have eD : h1.objs.size = D := eD
  have atD : (h1.push (seqObj "list" vs.toArray 0)).get? D = some (seqObj "list" vs.toArray 0) := by rw [← eD]; exact Heap.get?_push_size _ rfl
  have keep2 : ∀ b o, s.heap.get? b = some o → b ≠ D ∧ (h1.push (seqObj "list" vs.toArray 0)).get? b = some o := fun b o e => ⟨by rw [← eD]; exact Nat.ne_of_lt (Heap.lt_size (keep b o e)), Heap.get?_push_of_some _ (keep b o e)⟩
  show wpAny _ _ _ _ _ { s with heap := h1.push (seqObj "list" vs.toArray 0), toks := tk }
  have hv : ∀ v ∈ vs, Srt.IsPair s.heap v (k v).1 (k v).2 := fun v hm => by
    rw [ea] at hm
    obtain ⟨e, he, rfl⟩ := List.mem_map.mp hm
    exact hp e he
  refine wpAny_bind (wpAny_holding (wpAny_call_entry slot_list_sort ⟨_, atD, rfl⟩ entry_list_sort (SrtO.list_sort_ord (SrtO.swo_lex k) atD el (fun h2 => ?_) fun out hs hb => ⟨_, rfl, ?_⟩) (args_list_sort _)))
  · refine SrtO.pairs_sortableO (by omega) (fun v hm => (hv v hm).keeps fun b o e _ => (keep2 b o e).2) fun o e c => ?_
    have e : (h1.push (seqObj "list" vs.toArray 0)).get? D = some o := e
    rw [atD] at e
    cases e
    exact absurd (Value.type.inj c) (by decide)
  · rw [ea] at hb
    have lt : ∀ b o, h1.get? b = some o → b ≠ D ∧ (h1.push (seqObj "list" vs.toArray 0)).get? b = some o := fun b o e => ⟨by rw [← eD]; exact Nat.ne_of_lt (Heap.lt_size e), Heap.get?_push_of_some _ e⟩
    have fin := h h1 (sortedHeap (h1.push (seqObj "list" vs.toArray 0)) D vs out.toArray) tk out hs hb.perm keep (fun b o e => by rw [sortedHeap_old (lt b o e).1 (Heap.lt_size (lt b o e).2)]; exact (lt b o e).2) (by rw [eD]; exact sortedHeap_at atD)
    rw [eD] at fin
    exact wpAny_pure ⟨_, rfl, fin⟩
def pairAt (H : Hp) : Value → Int × Int
  | .ref q => (match H q with
    | some (.tup [.int i, .int j]) => (i, j)
    | _ => (0, 0))
  | _ => (0, 0)
def addrOfV : Value → Addr
  | .ref q => q
  | _ => 0
theorem pairAt_of {H : Hp} {q : Addr} {c : Int × Int} (h : H q = some (.tup [.int c.1, .int c.2])) : pairAt H (.ref q) = c := by
  show (match H q with
    | some (.tup [.int i, .int j]) => (i, j)
    | _ => ((0 : Int), (0 : Int))) = c
  rw [h]
theorem ksortKT {X : Cx} (hc : X.calm = true) : CallR X (.builtin "sorted") kSortKT := by
  intro pins s σ H xs us Q I r h
  obtain ⟨a, kvs, es, rfl, ha, hk, q⟩ := h
  obtain ⟨u, rfl, ru⟩ := vals1 r
  obtain rfl : u = .ref a := ru
  obtain ⟨big, ns, ent, rel, ob, rows, ep, o1, o2, o3, o4, o5, o6⟩ := dt_of I.hok ha
  have el : ent.length = kvs.length := (Paired.length rel).symm
  have ek := kt_keys rel
  have tups := kt_tups rel
  have rl : rows.size = ent.length := size_of_entries o4
  have keyE : rows.toList.map (·.key) = ent.map fun x => Value.ref x.2.1 := by rw [o4, List.map_map]; rfl
  have cellOf : ∀ x ∈ ent, ∃ c : Int × Int, x.1 = cellK c.1 c.2 ∧ H x.2.1 = some (.tup [.int c.1, .int c.2]) := fun x hx => by
    have hm : x.1 ∈ ent.map (·.1) := List.mem_map.mpr ⟨x, hx, rfl⟩
    rw [ek, hk] at hm
    obtain ⟨c, _, e⟩ := List.mem_map.mp hm
    refine ⟨c, e.symm, ?_⟩
    have t := tups x hx
    rw [← e] at t
    exact t
  have keyIn : ∀ v ∈ ent.map (fun x => Value.ref x.2.1), ∃ c : Int × Int, ∃ q : Addr, v = .ref q ∧ H q = some (.tup [.int c.1, .int c.2]) := fun v hv => by
    obtain ⟨x, hx, rfl⟩ := List.mem_map.mp hv
    obtain ⟨c, _, h2⟩ := cellOf x hx
    exact ⟨c, _, rfl, h2⟩
  refine sorted_raw (k := pairAt H) (I.ok.hd hc) ns ⟨ob, o1, o2, o3⟩ (by omega) (fun e he => ?_) fun g h' tk out hs hp k1 k2 hn => ?_
  · obtain ⟨c, p, e1, e2⟩ := keyIn e.key (by rw [← keyE]; exact List.mem_map.mpr ⟨e, he, rfl⟩)
    rw [e1, pairAt_of e2]
    obtain ⟨_, its, ri, o, g1, g2, n, g3⟩ := I.hok _ _ e2
    obtain ⟨u1, u2, rfl, r1, r2⟩ := vals2 ri
    obtain ⟨t1, rfl⟩ := r1
    obtain ⟨t2, rfl⟩ := r2
    exact ⟨p, o, t1, t2, n, rfl, g1, g2, g3⟩
  · rw [keyE] at hp
    have each : ∀ v ∈ out, ∃ c : Int × Int, ∃ p : Addr, v = .ref p ∧ H p = some (.tup [.int c.1, .int c.2]) := fun v hv => keyIn v (hp.mem_iff.mp hv)
    have J := I.kept (t' := tk) k1
    have fresh : H g.objs.size = none := J.hok.fresh (Nat.le_refl _)
    have sec : (out.map fun v => (addrOfV v, pairAt H v)).map (·.2) = out.map (pairAt H) := by rw [List.map_map]; rfl
    have refs : (out.map fun v => (addrOfV v, pairAt H v)).map (fun q => V.ref q.1) = out.map backV := by
      rw [List.map_map]
      refine List.map_congr_left fun v hv => ?_
      obtain ⟨c, p, rfl, _⟩ := each v hv
      rfl
    have val : (ent.map fun x => Value.ref x.2.1).map (pairAt H) = es := by
      refine (List.map_inj_right (f := fun c : Int × Int => cellK c.1 c.2) fun c d e => cellK_inj e).mp ?_
      rw [← hk, ← ek, List.map_map, List.map_map]
      refine List.map_congr_left fun x hx => ?_
      obtain ⟨c, h1, h2⟩ := cellOf x hx
      show cellK (pairAt H (.ref x.2.1)).1 (pairAt H (.ref x.2.1)).2 = x.1
      rw [pairAt_of h2, h1]
    have w := q (out.map fun v => (addrOfV v, pairAt H v)) (by rw [sec, ← val]; exact hp.map _) (by rw [sec]; exact List.pairwise_map.mpr hs) fun z hz => by
      obtain ⟨v, hv, rfl⟩ := List.mem_map.mp hz
      obtain ⟨c, p, rfl, h2⟩ := each v hv
      show H p = some (.tup [.int (pairAt H (.ref p)).1, .int (pairAt H (.ref p)).2])
      rw [pairAt_of h2]; exact h2
    rw [refs] at w
    obtain ⟨n, hn⟩ := hn
    refine ⟨.ref g.objs.size, upd H g.objs.size (.lst (out.map backV)), J.laid (t' := tk) k2 (Nat.le_refl _) ⟨?_, out, n, vals_back (fun u hu => ?_), hn⟩, rfl, w.old _ fresh⟩
    · rw [List.length_map, hp.length_eq, List.length_map, el]; exact big
    · obtain ⟨c, p, e, _⟩ := each u hu
      exact ⟨p, e⟩
end MD

namespace MD
open PySem PySem.Spec PyProof.Rows L2
/-! ### statements: a lock, an entry that grows, a walk over keys -/
def kLockS (t : TS) : TS := fun D σ H => ∃ d u, H d = some u ∧ Mut (some u) ∧ NT u ∧ ∀ od H1, Kp [d] H H1 → H1 d = some (.frz od u) →
  t { nx := fun σ' H' => H' d = some (.frz od u) ∧ Wr H' d u (D.nx σ'), rt := fun v H' => H' d = some (.frz od u) ∧ Wr H' d u (D.rt v), bk := fun σ' H' => H' d = some (.frz od u) ∧ Wr H' d u (D.bk σ'), ct := fun σ' H' => H' d = some (.frz od u) ∧ Wr H' d u (D.ct σ') } σ H1
/-- ends that only grow weaker -/
def mS (t : TS) : TS := fun D σ H => ∃ D1 : Ends, t D1 σ H ∧ (∀ σ H, D1.nx σ H → D.nx σ H) ∧ (∀ v H, D1.rt v H → D.rt v H) ∧ (∀ σ H, D1.bk σ H → D.bk σ H) ∧ ∀ σ H, D1.ct σ H → D.ct σ H
section
variable {X : Cx}
theorem psM {st : Stmt} {t : TS} (h : PS X st t) : PS X st (mS t) := by
  refine ⟨fun pins s σ H D I ⟨D1, h1, a, b, c, d⟩ => thn (h.run pins s σ H D1 I h1) fun f s1 q => ?_⟩
  cases f with
  | next => obtain ⟨σ', H', J, q⟩ := q; exact ⟨σ', H', J, a _ _ q⟩
  | brk => obtain ⟨σ', H', J, q⟩ := q; exact ⟨σ', H', J, c _ _ q⟩
  | cont => obtain ⟨σ', H', J, q⟩ := q; exact ⟨σ', H', J, d _ _ q⟩
  | ret v => obtain ⟨x, σ', H', J, r, q⟩ := q; exact ⟨x, σ', H', J, r, b _ _ q⟩
theorem ks_lock {st : Stmt} {t : TS} (h : PS X st t) : PS X st (kLockS t) :=
  psI (ps_lock (psM h)) fun D σ H ⟨d, u, h1, h2, nt, q⟩ => ⟨d, u, h1, h2, fun od => ⟨_, q od _ (Kp.old h1 nt List.mem_cons_self) upd_same,
    fun σ' H' ⟨h3, w⟩ => ⟨h3, w.old h3 trivial⟩, fun v H' ⟨h3, w⟩ => ⟨h3, w.old h3 trivial⟩, fun σ' H' ⟨h3, w⟩ => ⟨h3, w.old h3 trivial⟩, fun σ' H' ⟨h3, w⟩ => ⟨h3, w.old h3 trivial⟩⟩⟩
def kDAugT (td ty tv : TE) (rd : V → V → Hp → VK → Prop) : TS := fun D σ H => td σ H fun x H1 => ty σ H1 fun y H2 => ∃ (a b : Addr) (kvs : Kvs) (k : List Key) (v : V), x = .ref a ∧ y = .ref b ∧ H2 a = some (.dT kvs) ∧ H2 b = some (.tup (k.map kV)) ∧ valV kvs k = some v ∧
  tv σ H2 fun y2 H3 => rd v y2 H3 fun z H4 => ∃ kvs' : Kvs, H4 a = some (.dT kvs') ∧ H4 b = some (.tup (k.map kV)) ∧ kvs'.length < sizeLine ∧ Wr H4 a (.dT (putK kvs' k z)) (D.nx σ)
theorem ks_daugT {o i value : Expr} {tpos pos : Pos} {td ty tv : TE} {op : Operator} {rd : V → V → Hp → VK → Prop} (hu : X.A.units + 1 < cLine) (ho : PE X o td) (hi : PE X i ty) (hv : PE X value tv) (hop : InOp X op rd)
    (ha : ∀ ov iv new, augStore i ov iv new = (do holding [new, ov, iv] (setItem ov iv new); release [new, ov, iv] []; pure .next)) : PS X (.AugAssign (.Subscript o i tpos) op value pos) (kDAugT td ty tv rd) :=
  psI (ps_daug hu (peM ho) (peM hi) (peM hv) (inM hop) ha) fun D σ H q => ⟨_, q, fun x H1 q => ⟨_, q, fun y H2 ⟨a, b, kvs, k, v, ex, ey, h1, h2, h3, q⟩ => by
    subst ey
    exact ⟨a, v, ex, by rw [← h3]; exact DGet.t h1 h2, _, q, fun y2 H3 q => ⟨_, q, fun z H4 ⟨kvs', g1, g2, g3, w⟩ => ⟨_, DPut.t g1 g2 g3, w.old g1 trivial⟩⟩⟩⟩⟩
end
/-- for k in d, d locked -/
theorem for_keysT {d : Addr} {od : Obj} {kvs : Kvs} {g : TG} {tb : TS} {D0 : Ends} {σ : L2.St} {H : Hp} (Pv : Nat → L2.St → Hp → Prop) (h0 : Pv 0 σ H) (hl : ∀ i σ H, Pv i σ H → H d = some (.frz od (.dT kvs)))
    (hs : ∀ i k v q σ H, kvs[i]? = some (k, v) → H q = some (.tup (k.map kV)) → Pv i σ H → g (.ref q) σ H fun σ2 H2 => tb { D0 with nx := Pv (i + 1), ct := Pv (i + 1), bk := D0.nx } σ2 H2) (hd : ∀ σ H, Pv kvs.length σ H → D0.nx σ H) :
    ∃ W : Nat → Nat → L2.St → Hp → Prop, (∃ m, W 0 m σ H) ∧ ∀ i m σ H, W i m σ H →
      ((Itkt d od kvs).stop i H ∧ D0.nx σ H) ∨ ((Itkt d od kvs).go i H ∧ ∃ N : L2.St → Hp → Prop, (∀ σ' H', N σ' H' → ∃ m', m' < m ∧ W (i + 1) m' σ' H') ∧ ∀ x H', (Itkt d od kvs).yld i H x H' → g x σ H' fun σ2 H2 => tb { D0 with nx := N, ct := N, bk := D0.nx } σ2 H2) := by
  refine ⟨fun i m σ H => m = kvs.length - i ∧ i ≤ kvs.length ∧ Pv i σ H, ⟨kvs.length, by simp, Nat.zero_le _, h0⟩, ?_⟩
  rintro i m σ H ⟨rfl, hi, p⟩
  have q := hl i σ H p
  by_cases hlt : i < kvs.length
  · refine .inr ⟨⟨q, hlt⟩, Pv (i + 1), fun σ' H' p' => ⟨kvs.length - (i + 1), by omega, rfl, hlt, p'⟩, fun x H' y => ?_⟩
    obtain ⟨e, k, v, b, e1, e2, e3⟩ := y
    subst e e2
    exact hs i k v b σ _ e1 e3 p
  · have e : i = kvs.length := by omega
    subst e
    exact .inl ⟨⟨q, Nat.le_refl _⟩, hd σ H p⟩
theorem hu1 {n : Nat} (h : n + 1 < cLine) : n < cLine := Nat.lt_of_succ_lt h
theorem hu2_of {A : Around} {k : Nat} (r : Room k A) : A.units + 2 < cLine := by
  have := r.un
  omega
end MD

namespace MD
open PySem PySem.Spec PyProof.Rows L2
/-! ### a dict with an int for each cell of an inn -/
theorem flatCongr {α β : Type} {f g : α → List β} : ∀ {l : List α}, (∀ x ∈ l, f x = g x) → l.flatMap f = l.flatMap g
  | [], _ => rfl
  | a :: l, h => by rw [List.flatMap_cons, List.flatMap_cons, h a List.mem_cons_self, flatCongr fun x hx => h x (List.mem_cons_of_mem _ hx)]
theorem flatNodup {α β : Type} {f : α → List β} : ∀ {l : List α}, (∀ x ∈ l, (f x).Nodup) → l.Pairwise (fun x y => ∀ z, z ∈ f x → z ∈ f y → False) → (l.flatMap f).Nodup
  | [], _, _ => List.nodup_nil
  | a :: l, h, p => by
    rw [List.flatMap_cons, List.nodup_append]
    obtain ⟨p1, p2⟩ := List.pairwise_cons.mp p
    refine ⟨h a List.mem_cons_self, flatNodup (fun x hx => h x (List.mem_cons_of_mem _ hx)) p2, fun x hx y hy e => ?_⟩
    subst e
    obtain ⟨b, hb, hy⟩ := List.mem_flatMap.mp hy
    exact p1 b hb x hx hy
theorem mapNodup {α β : Type} {f : α → β} (hf : ∀ a b, f a = f b → a = b) {l : List α} (h : l.Nodup) : (l.map f).Nodup := List.pairwise_map.mpr (h.imp fun hne e => hne (hf _ _ e))
def grid (n m : Nat) (f : Int → Int → Int) : List ((Int × Int) × V) := (List.range n).flatMap fun (k : Nat) => (List.range m).map fun (t : Nat) => (((k : Int), (t : Int)), V.int (f k t))
def gridT (n m : Nat) (f : Int → Int → Int) : Kvs := kvsOf (grid n m f)
def InG (n m : Nat) (k t : Int) : Prop := 0 ≤ k ∧ k < n ∧ 0 ≤ t ∧ t < m
theorem grid_mem {n m : Nat} {f : Int → Int → Int} {e : (Int × Int) × V} : e ∈ grid n m f ↔ InG n m e.1.1 e.1.2 ∧ e.2 = .int (f e.1.1 e.1.2) := by
  unfold grid InG
  rw [List.mem_flatMap]
  constructor
  · rintro ⟨k, hk, h⟩
    obtain ⟨t, ht, rfl⟩ := List.mem_map.mp h
    have := List.mem_range.mp hk
    have := List.mem_range.mp ht
    exact ⟨⟨by show (0 : Int) ≤ k; omega, by show (k : Int) < n; omega, by show (0 : Int) ≤ t; omega, by show (t : Int) < m; omega⟩, rfl⟩
  · obtain ⟨⟨k, t⟩, v⟩ := e
    rintro ⟨⟨h1, h2, h3, h4⟩, h5⟩
    have h1 : 0 ≤ k := h1
    have h2 : k < n := h2
    have h3 : 0 ≤ t := h3
    have h4 : t < m := h4
    have h5 : v = .int (f k t) := h5
    refine ⟨k.toNat, List.mem_range.mpr (by omega), List.mem_map.mpr ⟨t.toNat, List.mem_range.mpr (by omega), ?_⟩⟩
    rw [Int.toNat_of_nonneg h1, Int.toNat_of_nonneg h3, h5]
theorem grid_nodup (n m : Nat) (f : Int → Int → Int) : ((grid n m f).map (·.1)).Nodup := by
  have e : (grid n m f).map (·.1) = (List.range n).flatMap fun (k : Nat) => (List.range m).map fun (t : Nat) => ((k : Int), (t : Int)) := by
    unfold grid
    rw [List.map_flatMap]
    refine flatCongr fun k _ => ?_
    rw [List.map_map]; rfl
  rw [e]
  refine flatNodup (fun k _ => mapNodup (fun a b h => by have := congrArg Prod.snd h; exact Int.ofNat.inj this) List.nodup_range) (List.nodup_range.imp fun {a b} hab x h1 h2 => ?_)
  obtain ⟨t, _, rfl⟩ := List.mem_map.mp h1
  obtain ⟨u, _, e⟩ := List.mem_map.mp h2
  have : (b : Int) = a := congrArg Prod.fst e
  omega
theorem grid_len (n m : Nat) (f : Int → Int → Int) : (grid n m f).length = n * m := by
  induction n with
  | zero => unfold grid; simp
  | succ n ih =>
    unfold grid at ih ⊢
    rw [List.range_succ, List.flatMap_append, List.length_append, ih, Nat.add_mul, Nat.one_mul]
    simp
theorem gridT_len (n m : Nat) (f : Int → Int → Int) : (gridT n m f).length = n * m := by unfold gridT; rw [kvs_len, grid_len]
theorem grid_get {n m : Nat} {f : Int → Int → Int} {k t : Int} (h : InG n m k t) : valV (gridT n m f) (cellK k t) = some (.int (f k t)) :=
  valV_kvs (e := ((k, t), .int (f k t))) (grid_nodup n m f) (grid_mem.mpr ⟨h, rfl⟩)
def set2 (f : Int → Int → Int) (k t v : Int) : Int → Int → Int := fun a b => if a = k ∧ b = t then v else f a b
theorem grid_put {n m : Nat} {f : Int → Int → Int} {k t v : Int} (h : InG n m k t) : putK (gridT n m f) (cellK k t) (.int v) = gridT n m (set2 f k t v) := by
  have there : ((kvsOf (grid n m f)).any fun kv => decide (kv.1 = cellK k t)) = true := by
    refine List.any_eq_true.mpr ⟨(cellK k t, .int (f k t)), ?_, by simp⟩
    unfold kvsOf
    exact List.mem_map.mpr ⟨((k, t), .int (f k t)), grid_mem.mpr ⟨h, rfl⟩, rfl⟩
  unfold gridT putK
  rw [if_pos there, kvs_map]
  congr 1
  unfold grid
  rw [List.map_flatMap]
  refine flatCongr fun a _ => ?_
  rw [List.map_map]
  refine List.map_congr_left fun b _ => ?_
  show (if ((a : Int), (b : Int)) = (k, t) then (((a : Int), (b : Int)), V.int v) else (((a : Int), (b : Int)), V.int (f a b))) = (((a : Int), (b : Int)), V.int (set2 f k t v a b))
  unfold set2
  by_cases z : (a : Int) = k ∧ (b : Int) = t
  · rw [if_pos z, if_pos (by rw [z.1, z.2])]
  · rw [if_neg z, if_neg (fun e => z (by injection e with e1 e2; exact ⟨e1, e2⟩))]
theorem grid_ext {n m : Nat} {f g : Int → Int → Int} (h : ∀ k t, InG n m k t → f k t = g k t) : gridT n m f = gridT n m g := by
  unfold gridT grid
  congr 1
  refine flatCongr fun a ha => ?_
  refine List.map_congr_left fun b hb => ?_
  have := List.mem_range.mp ha
  have := List.mem_range.mp hb
  rw [h a b ⟨by omega, by omega, by omega, by omega⟩]
/-- the first kinds whole, of the next one the first nights: what a walk over kinds and nights has made -/
def gridU (n m j : Nat) (f : Int → Int → Int) : Kvs := kvsOf (grid n m f ++ (List.range j).map fun (t : Nat) => (((n : Int), (t : Int)), V.int (f n t)))
theorem gridU_zero (n m : Nat) (f : Int → Int → Int) : gridU n m 0 f = gridT n m f := by unfold gridU gridT; simp
theorem gridU_full (n m : Nat) (f : Int → Int → Int) : gridU n m m f = gridT (n + 1) m f := by
  unfold gridU gridT grid
  rw [List.range_succ, List.flatMap_append]
  simp
theorem gridU_put (n m j : Nat) (f : Int → Int → Int) : putK (gridU n m j f) (cellK n j) (.int (f n j)) = gridU n m (j + 1) f := by
  have no : ((gridU n m j f).any fun kv => decide (kv.1 = cellK n j)) = false := by
    rw [List.any_eq_false]
    intro kv hkv
    unfold gridU kvsOf at hkv
    obtain ⟨e, he, rfl⟩ := List.mem_map.mp hkv
    intro z
    have z := of_decide_eq_true z
    have z := cellK_inj z
    rcases List.mem_append.mp he with h | h
    · have := (grid_mem.mp h).1
      have e1 := congrArg Prod.fst z
      have h2 := this.2.1
      have e1 : e.1.1 = n := e1
      omega
    · obtain ⟨t, ht, rfl⟩ := List.mem_map.mp h
      have := List.mem_range.mp ht
      have e1 : (t : Int) = j := congrArg Prod.snd z
      omega
  unfold putK
  rw [no]
  show gridU n m j f ++ [(cellK n j, V.int (f n j))] = gridU n m (j + 1) f
  unfold gridU kvsOf
  rw [List.range_succ, List.map_append, List.map_append, List.map_append, List.map_append, List.append_assoc]
  rfl
theorem gridU_len (n m j : Nat) (f : Int → Int → Int) : (gridU n m j f).length = n * m + j := by
  unfold gridU
  rw [kvs_len, List.length_append, grid_len, List.length_map, List.length_range]
/-! ### parties that are kept by names -/
def cn (p : List Sy) (k t : Int) : Int := ((p.countP (inN k t) : Nat) : Int)
theorem cn_nn (p : List Sy) (k t : Int) : 0 ≤ cn p k t := Int.natCast_nonneg _
theorem cn_nil (k t : Int) : cn [] k t = 0 := rfl
abbrev Us := List ((Int × Int) × V × List Sy)
def ent (us : Us) : List ((Int × Int) × V) := us.map fun u => (u.1, u.2.1)
def tot (us : Us) (k t : Int) : Int := (us.map fun u => cn u.2.2 k t).sum
def lose (us : Us) (nm : Int × Int) : Us := us.filter fun u => decide (u.1 ≠ nm)
def swap (us : Us) (nm : Int × Int) (v : V) (p : List Sy) : Us := us.map fun u => if u.1 = nm then (nm, v, p) else u
theorem ent_keys (us : Us) : (ent us).map (·.1) = us.map (·.1) := by unfold ent; rw [List.map_map]; rfl
theorem ent_len (us : Us) : (ent us).length = us.length := by unfold ent; rw [List.length_map]
theorem tot_snoc (us : Us) (u) (k t : Int) : tot (us ++ [u]) k t = tot us k t + cn u.2.2 k t := by
  unfold tot
  rw [List.map_append, List.sum_append]
  simp
theorem tot_nn : ∀ (us : Us) (k t : Int), 0 ≤ tot us k t
  | [], _, _ => Int.le_refl _
  | u :: us, k, t => by
    have := tot_nn us k t
    have := cn_nn u.2.2 k t
    unfold tot at *
    rw [List.map_cons, List.sum_cons]
    omega
theorem lose_same {us : Us} {nm : Int × Int} (h : nm ∉ us.map (·.1)) : lose us nm = us := by
  unfold lose
  refine List.filter_eq_self.mpr fun u hu => decide_eq_true fun e => h ?_
  exact List.mem_map.mpr ⟨u, hu, e⟩
theorem tot_lose : ∀ {us : Us} {u : (Int × Int) × V × List Sy}, (us.map (·.1)).Nodup → u ∈ us → ∀ k t, tot us k t = tot (lose us u.1) k t + cn u.2.2 k t
  | a :: us, u, nd, hu, k, t => by
    rw [List.map_cons, List.nodup_cons] at nd
    have e1 : tot (a :: us) k t = cn a.2.2 k t + tot us k t := rfl
    rcases List.mem_cons.mp hu with rfl | hu
    · have e : lose (u :: us) u.1 = us := by
        have := lose_same nd.1
        unfold lose at *
        rw [List.filter_cons_of_neg (by simp), this]
      rw [e, e1]; omega
    · have ne : a.1 ≠ u.1 := fun e => nd.1 (by rw [e]; exact List.mem_map.mpr ⟨u, hu, rfl⟩)
      have e : lose (a :: us) u.1 = a :: lose us u.1 := by
        unfold lose
        rw [List.filter_cons_of_pos (by simpa using ne)]
      have ih := tot_lose nd.2 hu k t
      rw [e, e1, ih]
      show _ = cn a.2.2 k t + tot (lose us u.1) k t + _
      omega
theorem tot_swap : ∀ {us : Us} {u : (Int × Int) × V × List Sy} {v : V} {p : List Sy}, (us.map (·.1)).Nodup → u ∈ us → ∀ k t, tot (swap us u.1 v p) k t = tot (lose us u.1) k t + cn p k t
  | a :: us, u, v, p, nd, hu, k, t => by
    rw [List.map_cons, List.nodup_cons] at nd
    have e1 : tot (swap (a :: us) u.1 v p) k t = cn (if a.1 = u.1 then (u.1, v, p) else a).2.2 k t + tot (swap us u.1 v p) k t := rfl
    rcases List.mem_cons.mp hu with rfl | hu
    · have e : lose (u :: us) u.1 = us := by
        have := lose_same nd.1
        unfold lose at *
        rw [List.filter_cons_of_neg (by simp), this]
      have e2 : swap us u.1 v p = us := by
        unfold swap
        refine (List.map_congr_left (g := id) fun x hx => if_neg fun z => nd.1 ?_).trans (List.map_id us)
        rw [← z]; exact List.mem_map.mpr ⟨x, hx, rfl⟩
      rw [e1, e, e2, if_pos rfl]
      show cn p k t + _ = _
      omega
    · have ne : a.1 ≠ u.1 := fun e => nd.1 (by rw [e]; exact List.mem_map.mpr ⟨u, hu, rfl⟩)
      have e : lose (a :: us) u.1 = a :: lose us u.1 := by
        unfold lose
        rw [List.filter_cons_of_pos (by simpa using ne)]
      have ih := tot_swap (v := v) (p := p) nd.2 hu k t
      rw [e1, e, ih, if_neg ne]
      show _ = cn a.2.2 k t + tot (lose us u.1) k t + _
      omega
theorem swap_keys (us : Us) (nm : Int × Int) (v : V) (p : List Sy) : (swap us nm v p).map (·.1) = us.map (·.1) := by
  unfold swap
  rw [List.map_map]
  refine List.map_congr_left fun u _ => ?_
  show (if u.1 = nm then (nm, v, p) else u).1 = u.1
  by_cases e : u.1 = nm
  · rw [if_pos e]; exact e.symm
  · rw [if_neg e]
theorem lose_nodup {us : Us} (nd : (us.map (·.1)).Nodup) (nm : Int × Int) : ((lose us nm).map (·.1)).Nodup := nd.sublist (List.filter_sublist.map _)
theorem drop_kvs (us : Us) (i j : Int) : dropK (kvsOf (ent us)) (cellK i j) = kvsOf (ent (lose us (i, j))) := by
  unfold dropK kvsOf ent lose
  rw [List.filter_map, List.filter_map, List.map_map, List.map_map]
  congr 1
  refine List.filter_congr fun u _ => ?_
  show decide (cellK u.1.1 u.1.2 ≠ cellK i j) = decide (u.1 ≠ (i, j))
  by_cases e : u.1 = (i, j)
  · rw [e]; simp
  · rw [decide_eq_true e]
    exact decide_eq_true fun z => e (cellK_inj z)
theorem put_new {us : Us} {i j : Int} {v : V} {p : List Sy} (h : (i, j) ∉ us.map (·.1)) : putK (kvsOf (ent us)) (cellK i j) v = kvsOf (ent (us ++ [((i, j), v, p)])) := by
  have no : ((kvsOf (ent us)).any fun kv => decide (kv.1 = cellK i j)) = false := by
    rw [List.any_eq_false]
    intro kv hkv z
    unfold kvsOf at hkv
    obtain ⟨e, he, rfl⟩ := List.mem_map.mp hkv
    have z := cellK_inj (of_decide_eq_true z)
    rw [← ent_keys] at h
    exact h (List.mem_map.mpr ⟨e, he, z⟩)
  unfold putK
  rw [no]
  show kvsOf (ent us) ++ [(cellK i j, v)] = _
  unfold kvsOf ent
  rw [List.map_append, List.map_append]
  rfl
theorem put_old {us : Us} {i j : Int} {v : V} {p : List Sy} (h : (i, j) ∈ us.map (·.1)) : putK (kvsOf (ent us)) (cellK i j) v = kvsOf (ent (swap us (i, j) v p)) := by
  have yes : ((kvsOf (ent us)).any fun kv => decide (kv.1 = cellK i j)) = true := by
    rw [← ent_keys] at h
    obtain ⟨e, he, e1⟩ := List.mem_map.mp h
    refine List.any_eq_true.mpr ⟨(cellK e.1.1 e.1.2, e.2), List.mem_map.mpr ⟨e, he, rfl⟩, ?_⟩
    rw [e1]; simp
  unfold putK
  rw [if_pos yes, kvs_map]
  congr 1
  unfold ent swap
  rw [List.map_map, List.map_map]
  refine List.map_congr_left fun u _ => ?_
  show (if u.1 = (i, j) then (u.1, v) else (u.1, u.2.1)) = ((if u.1 = (i, j) then ((i, j), v, p) else u).1, (if u.1 = (i, j) then ((i, j), v, p) else u).2.1)
  by_cases e : u.1 = (i, j)
  · rw [if_pos e, if_pos e, e]
  · rw [if_neg e, if_neg e]
theorem get_ent {us : Us} (nd : (us.map (·.1)).Nodup) {u : (Int × Int) × V × List Sy} (h : u ∈ us) : valV (kvsOf (ent us)) (cellK u.1.1 u.1.2) = some u.2.1 :=
  valV_kvs (e := (u.1, u.2.1)) (by rw [ent_keys]; exact nd) (List.mem_map.mpr ⟨u, h, rfl⟩)
theorem get_none {us : Us} {i j : Int} (h : (i, j) ∉ us.map (·.1)) : valV (kvsOf (ent us)) (cellK i j) = none := by
  cases e : valV (kvsOf (ent us)) (cellK i j) with
  | none => rfl
  | some v =>
    exfalso
    unfold valV at e
    cases f : (kvsOf (ent us)).find? fun kv => decide (kv.1 = cellK i j) with
    | none => rw [f] at e; cases e
    | some kv =>
      have m := List.mem_of_find?_eq_some f
      have z := List.find?_some f
      unfold kvsOf at m
      obtain ⟨x, hx, rfl⟩ := List.mem_map.mp m
      have z := cellK_inj (of_decide_eq_true z)
      rw [← ent_keys] at h
      exact h (List.mem_map.mpr ⟨x, hx, z⟩)
/-! what a party needs, entry by entry -/
theorem needs_keys : ∀ (p : List Sy) (kvs : Kvs) (c : List Key), valV (p.foldl needs1 kvs) c ≠ none → valV kvs c ≠ none ∨ ∃ s ∈ p, ∃ t, c = cellK s.1 t ∧ s.2.1 ≤ t ∧ t < s.2.2
  | [], kvs, c, h => .inl h
  | s :: r, kvs, c, h => by
    have bk : ∀ n : Nat, (n : Int) ≤ s.2.2 - s.2.1 → valV (bumps kvs s.1 s.2.1 n) c ≠ none → valV kvs c ≠ none ∨ ∃ t, c = cellK s.1 t ∧ s.2.1 ≤ t ∧ t < s.2.2 := by
      intro n
      induction n with
      | zero => intro _ h; exact .inl h
      | succ n ih =>
        intro hn h
        have h : valV (putK (bumps kvs s.1 s.2.1 n) (cellK s.1 (s.2.1 + n)) _) c ≠ none := h
        rw [valV_put] at h
        by_cases e : c = cellK s.1 (s.2.1 + n)
        · exact .inr ⟨_, e, by omega, by omega⟩
        · rw [if_neg e] at h
          exact ih (by omega) h
    rw [List.foldl_cons] at h
    rcases needs_keys r _ c h with h | ⟨s', hs, t, h⟩
    · by_cases le : s.2.1 ≤ s.2.2
      · rcases bk (s.2.2 - s.2.1).toNat (by omega) h with h | ⟨t, h⟩
        · exact .inl h
        · exact .inr ⟨s, List.mem_cons_self, t, h⟩
      · have e : (s.2.2 - s.2.1).toNat = 0 := by omega
        unfold needs1 at h
        rw [e] at h
        exact .inl h
    · exact .inr ⟨s', List.mem_cons_of_mem _ hs, t, h⟩
/-- the entries of what p needs -/
structure NeedE (su : Su) (p : List Sy) (es : List ((Int × Int) × V)) : Prop where
  eq : needsL p = kvsOf es
  nd : (es.map (·.1)).Nodup
  val : ∀ e ∈ es, e.2 = .int (cn p e.1.1 e.1.2)
  inn : ∀ e ∈ es, InG su.rooms.length su.nights.toNat e.1.1 e.1.2
  out : ∀ k t, (k, t) ∉ es.map (·.1) → cn p k t = 0
  pos : ∀ e ∈ es, 0 < cn p e.1.1 e.1.2
theorem needE {su : Su} {p : List Sy} (ok : ∀ s ∈ p, Sy.ok su s) : ∃ es, NeedE su p es := by
  obtain ⟨es, h1, h2, h3⟩ := needsL_en p
  have le : ∀ s ∈ p, s.2.1 ≤ s.2.2 := fun s hs => Int.le_of_lt (ok s hs).fe
  have src : ∀ e ∈ es, ∃ s ∈ p, e.1.1 = s.1 ∧ s.2.1 ≤ e.1.2 ∧ e.1.2 < s.2.2 := fun e he => by
    have v := valV_kvs h2 he
    rw [← h1] at v
    rcases needs_keys p [] (cellK e.1.1 e.1.2) (by show valV (needsL p) _ ≠ none; rw [v]; exact fun z => nomatch z) with h | ⟨s, hs, t, e1, t1, t2⟩
    · exact absurd valV_nil h
    · have q := cellK_inj e1
      have q1 : e.1.1 = s.1 := congrArg Prod.fst q
      have q2 : e.1.2 = t := congrArg Prod.snd q
      exact ⟨s, hs, q1, by omega, by omega⟩
  refine ⟨es, h1, h2, fun e he => ?_, fun e he => ?_, fun k t h => ?_, fun e he => ?_⟩
  · obtain ⟨n, hn⟩ := h3 e he
    have v := valV_kvs h2 he
    have c := cnt_needs le e.1.1 e.1.2
    rw [h1] at c
    unfold cntV at c
    rw [v, hn] at c
    have c : n = _ := c
    rw [hn, c]; rfl
  · obtain ⟨s, hs, q1, t1, t2⟩ := src e he
    have o := ok s hs
    have := o.k0; have := o.k1; have := o.f0; have := o.e1
    exact ⟨by omega, by omega, by omega, by omega⟩
  · have c := cnt_needs le k t
    have n : valV (needsL p) (cellK k t) = none := by
      cases e : valV (needsL p) (cellK k t) with
      | none => rfl
      | some v =>
        exfalso
        rw [h1] at e
        unfold valV at e
        cases f : (kvsOf es).find? fun kv => decide (kv.1 = cellK k t) with
        | none => rw [f] at e; cases e
        | some kv =>
          have m := List.mem_of_find?_eq_some f
          have z := List.find?_some f
          unfold kvsOf at m
          obtain ⟨x, hx, rfl⟩ := List.mem_map.mp m
          exact h (List.mem_map.mpr ⟨x, hx, cellK_inj (of_decide_eq_true z)⟩)
    unfold cntV at c
    rw [n] at c
    exact c.symm
  · obtain ⟨s, hs, q1, t1, t2⟩ := src e he
    have := List.countP_pos_iff.mpr ⟨s, hs, (inN_iff (k := e.1.1) (t := e.1.2)).mpr ⟨q1.symm, t1, t2⟩⟩
    unfold cn
    omega
theorem iteTe {c : Bool} {A B : Prop} (h : c = true) (a : A) : if c = true then A else B := by rw [h]; exact iteT a
theorem iteFe {c : Bool} {A B : Prop} (h : c = false) (b : B) : if c = true then A else B := by rw [h]; exact iteF b
theorem put_take {es : List ((Int × Int) × V)} {i : Nat} {e : (Int × Int) × V} (nd : (es.map (·.1)).Nodup) (he : es[i]? = some e) : putK (kvsOf (es.take i)) (cellK e.1.1 e.1.2) e.2 = kvsOf (es.take (i + 1)) := by
  have no : ((kvsOf (es.take i)).any fun kv => decide (kv.1 = cellK e.1.1 e.1.2)) = false := by
    rw [List.any_eq_false]
    intro kv hkv z
    unfold kvsOf at hkv
    obtain ⟨x, hx, rfl⟩ := List.mem_map.mp hkv
    have z : x.1 = e.1 := cellK_inj (of_decide_eq_true z)
    obtain ⟨hi, e1⟩ := List.getElem?_eq_some_iff.mp he
    rw [← List.take_append_drop i es, List.map_append, List.nodup_append, List.drop_eq_getElem_cons hi] at nd
    exact nd.2.2 _ (List.mem_map.mpr ⟨x, hx, rfl⟩) _ List.mem_cons_self (by rw [e1]; exact z)
  unfold putK
  rw [no]
  show kvsOf (es.take i) ++ [(cellK e.1.1 e.1.2, e.2)] = _
  rw [List.take_add_one, he]
  unfold kvsOf
  rw [List.map_append]
  rfl
/-! ### a dict of counts -/
structure CntE (n m : Nat) (g : Int → Int → Int) (kvs : Kvs) : Prop where
  ex : ∃ es : List ((Int × Int) × V), kvs = kvsOf es ∧ (es.map (·.1)).Nodup ∧ (∀ e ∈ es, e.2 = .int (g e.1.1 e.1.2) ∧ InG n m e.1.1 e.1.2) ∧ ∀ k t, (k, t) ∉ es.map (·.1) → g k t = 0
theorem valV_out {es : List ((Int × Int) × V)} {k t : Int} (h : (k, t) ∉ es.map (·.1)) : valV (kvsOf es) (cellK k t) = none := by
  cases e : valV (kvsOf es) (cellK k t) with
  | none => rfl
  | some v =>
    exfalso
    unfold valV at e
    cases f : (kvsOf es).find? fun kv => decide (kv.1 = cellK k t) with
    | none => rw [f] at e; cases e
    | some kv =>
      have m := List.mem_of_find?_eq_some f
      have z := List.find?_some f
      unfold kvsOf at m
      obtain ⟨x, hx, rfl⟩ := List.mem_map.mp m
      exact h (List.mem_map.mpr ⟨x, hx, cellK_inj (of_decide_eq_true z)⟩)
theorem CntE.get {n m : Nat} {g : Int → Int → Int} {kvs : Kvs} (h : CntE n m g kvs) (k t : Int) : (valV kvs (cellK k t)).getD (.int 0) = .int (g k t) := by
  obtain ⟨es, rfl, nd, val, out⟩ := h.ex
  by_cases z : (k, t) ∈ es.map (·.1)
  · obtain ⟨e, he, e1⟩ := List.mem_map.mp z
    have v := valV_kvs nd he
    rw [(val e he).1, e1] at v
    have v : valV (kvsOf es) (cellK k t) = some (.int (g k t)) := v
    rw [v]; rfl
  · rw [valV_out z, out k t z]; rfl
theorem CntE.put {n m : Nat} {g : Int → Int → Int} {kvs : Kvs} (h : CntE n m g kvs) {k t : Int} (ig : InG n m k t) (v : Int) : CntE n m (set2 g k t v) (putK kvs (cellK k t) (.int v)) := by
  obtain ⟨es, rfl, nd, val, out⟩ := h.ex
  by_cases z : (k, t) ∈ es.map (·.1)
  · have yes : ((kvsOf es).any fun kv => decide (kv.1 = cellK k t)) = true := by
      obtain ⟨e, he, e1⟩ := List.mem_map.mp z
      refine List.any_eq_true.mpr ⟨(cellK e.1.1 e.1.2, e.2), List.mem_map.mpr ⟨e, he, rfl⟩, ?_⟩
      rw [e1]; simp
    have keys : (es.map fun e => if e.1 = (k, t) then (e.1, V.int v) else e).map (·.1) = es.map (·.1) := by
      rw [List.map_map]
      refine List.map_congr_left fun e _ => ?_
      show (if e.1 = (k, t) then (e.1, V.int v) else e).1 = e.1
      by_cases q : e.1 = (k, t)
      · rw [if_pos q]
      · rw [if_neg q]
    refine ⟨⟨es.map fun e => if e.1 = (k, t) then (e.1, V.int v) else e, ?_, by rw [keys]; exact nd, fun e he => ?_, fun a b h => ?_⟩⟩
    · unfold putK
      rw [if_pos yes, kvs_map]
    · obtain ⟨e0, h0, rfl⟩ := List.mem_map.mp he
      have v0 := val e0 h0
      by_cases q : e0.1 = (k, t)
      · rw [if_pos q]
        refine ⟨?_, v0.2⟩
        show V.int v = .int (set2 g k t v e0.1.1 e0.1.2)
        rw [q]
        unfold set2
        rw [if_pos ⟨rfl, rfl⟩]
      · rw [if_neg q]
        refine ⟨?_, v0.2⟩
        unfold set2
        rw [if_neg fun y => q (Prod.ext y.1 y.2)]
        exact v0.1
    · rw [keys] at h
      unfold set2
      rw [if_neg fun y => h (by rw [y.1, y.2]; exact z)]
      exact out a b h
  · have no : ((kvsOf es).any fun kv => decide (kv.1 = cellK k t)) = false := by
      rw [List.any_eq_false]
      intro kv hkv q
      unfold kvsOf at hkv
      obtain ⟨x, hx, rfl⟩ := List.mem_map.mp hkv
      exact z (List.mem_map.mpr ⟨x, hx, cellK_inj (of_decide_eq_true q)⟩)
    refine ⟨⟨es ++ [((k, t), .int v)], ?_, ?_, fun e he => ?_, fun a b h => ?_⟩⟩
    · unfold putK
      rw [no]
      show kvsOf es ++ [(cellK k t, V.int v)] = _
      unfold kvsOf
      rw [List.map_append]; rfl
    · rw [List.map_append, List.nodup_append]
      refine ⟨nd, by simp, fun x hx y hy e => ?_⟩
      simp only [List.map_cons, List.map_nil, List.mem_singleton] at hy
      rw [e, hy] at hx
      exact z hx
    · rcases List.mem_append.mp he with h | h
      · refine ⟨?_, (val e h).2⟩
        unfold set2
        rw [if_neg fun y => z (List.mem_map.mpr ⟨e, h, Prod.ext y.1 y.2⟩)]
        exact (val e h).1
      · rw [List.mem_singleton.mp h]
        refine ⟨?_, ig⟩
        show V.int v = .int (set2 g k t v k t)
        unfold set2
        rw [if_pos ⟨rfl, rfl⟩]
    · rw [List.map_append, List.mem_append] at h
      unfold set2
      rw [if_neg fun y => h (.inr (by rw [y.1, y.2]; simp))]
      exact out a b fun q => h (.inl q)
theorem CntE.ext {n m : Nat} {g g' : Int → Int → Int} {kvs : Kvs} (h : CntE n m g kvs) (e : ∀ k t, g k t = g' k t) : CntE n m g' kvs := by
  have : g = g' := funext fun k => funext fun t => e k t
  rw [← this]; exact h
theorem NeedE.cnt {su : Su} {p : List Sy} {es : List ((Int × Int) × V)} (N : NeedE su p es) : CntE su.rooms.length su.nights.toNat (cn p) (needsL p) :=
  ⟨⟨es, N.eq, N.nd, fun e he => ⟨N.val e he, N.inn e he⟩, N.out⟩⟩
theorem needs_len {su : Su} {p : List Sy} (so : su.ok) (ok : ∀ s ∈ p, Sy.ok su s) : (needsL p).length ≤ 12 * p.length := by
  have := needs_le p [] fun s hs => (ok s hs).sb so
  rw [List.length_nil, Nat.zero_add] at this
  exact this
/-! names of 4 sellers and 26 numbers -/
def NmOk (us : Us) : Prop := ∀ u ∈ us, 0 ≤ u.1.1 ∧ u.1.1 < 4 ∧ 0 ≤ u.1.2 ∧ u.1.2 < 26
def allNm : List (Nat × Nat) := (List.range 4).flatMap fun i => (List.range 26).map fun j => (i, j)
theorem hash_all : (allNm.map fun c => hash2 c.1 c.2).Nodup := by decide +kernel
theorem nodup_map_on {α β : Type} {f : α → β} : ∀ {l : List α}, l.Nodup → (∀ x ∈ l, ∀ y ∈ l, f x = f y → x = y) → (l.map f).Nodup
  | [], _, _ => List.nodup_nil
  | a :: l, nd, h => by
    rw [List.nodup_cons] at nd
    rw [List.map_cons, List.nodup_cons]
    refine ⟨fun z => ?_, nodup_map_on nd.2 fun x hx y hy => h x (List.mem_cons_of_mem _ hx) y (List.mem_cons_of_mem _ hy)⟩
    obtain ⟨b, hb, e⟩ := List.mem_map.mp z
    exact nd.1 (by rw [← h b (List.mem_cons_of_mem _ hb) a List.mem_cons_self e]; exact hb)
theorem inj_of_nodup {α β : Type} {f : α → β} {l : List α} (nd : (l.map f).Nodup) {x y : α} (hx : x ∈ l) (hy : y ∈ l) (e : f x = f y) : x = y := by
  obtain ⟨i, hi, rfl⟩ := List.mem_iff_getElem.mp hx
  obtain ⟨j, hj, rfl⟩ := List.mem_iff_getElem.mp hy
  have : (l.map f)[i]'(by rw [List.length_map]; exact hi) = (l.map f)[j]'(by rw [List.length_map]; exact hj) := by simpa using e
  have ij := (List.getElem_inj nd).mp this
  subst ij
  rfl
theorem mem_allNm {c : Int × Int} (h : 0 ≤ c.1 ∧ c.1 < 4 ∧ 0 ≤ c.2 ∧ c.2 < 26) : (c.1.toNat, c.2.toNat) ∈ allNm :=
  List.mem_flatMap.mpr ⟨c.1.toNat, List.mem_range.mpr (by omega), List.mem_map.mpr ⟨c.2.toNat, List.mem_range.mpr (by omega), rfl⟩⟩
theorem hash_names {us : Us} (nd : (us.map (·.1)).Nodup) (nm : NmOk us) : ((us.map (·.1)).map fun c => hash2 c.1 c.2).Nodup := by
  have inn : ∀ c ∈ us.map (·.1), 0 ≤ c.1 ∧ c.1 < 4 ∧ 0 ≤ c.2 ∧ c.2 < 26 := fun c hc => by
    obtain ⟨u, hu, rfl⟩ := List.mem_map.mp hc
    exact nm u hu
  refine nodup_map_on nd fun c hc d hd e => ?_
  have ic := inn c hc
  have id := inn d hd
  have q := inj_of_nodup hash_all (mem_allNm ic) (mem_allNm id) (by
    show hash2 (c.1.toNat : Int) (c.2.toNat : Int) = hash2 (d.1.toNat : Int) (d.2.toNat : Int)
    rw [Int.toNat_of_nonneg ic.1, Int.toNat_of_nonneg ic.2.2.1, Int.toNat_of_nonneg id.1, Int.toNat_of_nonneg id.2.2.1]
    exact e)
  have q1 := congrArg Prod.fst q
  have q2 := congrArg Prod.snd q
  simp only at q1 q2
  exact Prod.ext (by omega) (by omega)
theorem Kp.dropN {M : List Addr} {H H' : Hp} {d : Addr} (k : Kp (d :: M) H H') (h : H d = none) : Kp M H H' := k.drop fun a ha => (List.mem_cons.mp ha).elim (fun e => .inr (by rw [e]; exact h)) .inl
theorem take_split {α : Type} {l : List α} {i : Nat} {e : α} (he : l[i]? = some e) (x : α) : x ∈ l.take (i + 1) ↔ x ∈ l.take i ∨ x = e := by
  rw [List.take_add_one, he, List.mem_append]
  simp
theorem key_split {es : List ((Int × Int) × V)} {i : Nat} {e : (Int × Int) × V} (he : es[i]? = some e) (x : Int × Int) : x ∈ (es.take (i + 1)).map (·.1) ↔ x ∈ (es.take i).map (·.1) ∨ x = e.1 := by
  rw [List.take_add_one, he, List.map_append, List.mem_append]
  simp
theorem key_new {es : List ((Int × Int) × V)} {i : Nat} {e : (Int × Int) × V} (nd : (es.map (·.1)).Nodup) (he : es[i]? = some e) : e.1 ∉ (es.take i).map (·.1) := fun z => by
  obtain ⟨hi, e1⟩ := List.getElem?_eq_some_iff.mp he
  rw [← List.take_append_drop i es, List.map_append, List.nodup_append, List.drop_eq_getElem_cons hi] at nd
  exact nd.2.2 _ z _ List.mem_cons_self (by rw [e1])
theorem ent_at {us : Us} {i : Nat} {e : (Int × Int) × V} (h : (ent us)[i]? = some e) : ∃ u, us[i]? = some u ∧ e = (u.1, u.2.1) := by
  unfold ent at h
  rw [List.getElem?_map] at h
  cases q : us[i]? with
  | none => rw [q] at h; cases h
  | some u => rw [q] at h; cases h; exact ⟨u, rfl, rfl⟩
theorem tot_take {us : Us} {i : Nat} {u} (h : us[i]? = some u) (k t : Int) : tot (us.take (i + 1)) k t = tot (us.take i) k t + cn u.2.2 k t := by
  rw [List.take_add_one, h]
  exact tot_snoc (us.take i) u k t
end MD

namespace MD
open PySem PySem.Spec PyProof.Rows L2 GxR GenW
/-! ### a generator expression that all or any consumes at once -/
/-- the block of a generator expression that is made at s -/
abbrev gxC (X : Cx) (A : Around) (s : Shared) (H : Hp) (ge : Env) (fp : List Addr) : Cx :=
  { X with A := A, s_0 := s, H_0 := H, env := ge, outer := X.stack, stack := ge :: X.stack, ex := fp, fn := fun _ => false, pn := [], xe := fun _ _ => False }
abbrev gxE (X : Cx) (scope : Scope) (C : Addr) (code : Value) : Env := genEnv scope (cloFrom X.env.cells scope.names []) C code builtinsNs X.env
theorem gx_start {X : Cx} {pins pn : List (Addr × Obj)} {σ : L2.St} {H : Hp} {s s5 : Shared} {scope : Scope} {own : List (Str × Nat)} {fp : List Addr} {A : Around} {code : Value} {m : Str → Option Value} (I : Inv X pins σ H s) (ok : BlkOk X.N X.env.scope scope own) (hN : X.N.Nodup)
    (hcell : ∀ y ∈ scope.names, y.2 ≠ .cell) (hd : A.handled = none) (hA : A.frames = some (gxE X scope s.heap.objs.size code :: X.stack)) (hfp : ∀ b ∈ fp, FpOk X pins H b ∧ b < s.heap.objs.size) (os : s5.os = s.os) (ab : AllBare s5.gens)
    (kp : ∀ b o, s.heap.get? b = some o → s5.heap.get? b = some o) (hn : s5.heap.Ns s.heap.objs.size m) (hp : ∀ p ∈ pn, s5.heap.get? p.1 = some p.2 ∧ s.heap.objs.size < p.1 ∧ ∀ v, p.2.data ≠ .cell v) :
    Inv (gxC X A s H (gxE X scope s.heap.objs.size code) fp) pn (wipe σ (own.map (·.2))) H s5 := by
  generalize hge : gxE X scope s.heap.objs.size code = ge at hA ⊢
  have hL : ge.locals = s.heap.objs.size := by rw [← hge]; rfl
  have hcl : ge.cells = cloFrom X.env.cells scope.names [] := by rw [← hge]; rfl
  have hsc : ge.scope = scope := by rw [← hge]; rfl
  have hfr : ge.frame = some ge.locals := by rw [← hge]; rfl
  have hglob : ge.globals = X.env.globals := by rw [← hge]; rfl
  have hbi : ge.builtins = builtinsNs := by rw [← hge]; rfl
  have hfree : ∀ y ∈ scope.names, y.2 = .free → ∃ c, X.env.cells.lookup y.1 = some c := fun y hy e => I.ok.has _ (ok.free y hy e)
  have cm : ∀ {y c}, ge.cells.lookup y = some c → X.env.cells.lookup y = some c ∧ c < s.heap.objs.size := fun {y c} e => by
    rw [hcl] at e
    rcases cloFrom_mem (PySem.mem_of_lookup e) with hm | ⟨h1, rfl⟩
    · cases hm
    · obtain ⟨c, hc⟩ := hfree _ h1 rfl
      rw [hc]
      obtain ⟨w, z⟩ := I.cell _ _ hc
      exact ⟨rfl, z.lt⟩
  have look : ∀ {y}, scope.names.lookup y = some .free → ∃ c, ge.cells.lookup y = some c ∧ X.env.cells.lookup y = some c := fun {y} hl => by
    have hy : (y, NameKind.free) ∈ scope.names := PySem.mem_of_lookup hl
    obtain ⟨c', e'⟩ := mem_lookup (cloFrom_has (cells := X.env.cells) (acc := []) hy)
    rw [← hcl] at e'
    exact ⟨c', e', (cm e').1⟩
  have okB : (gxC X A s H ge fp).Ok := by
    refine ⟨I.ok.mod, by show ge.scope.kind = _; rw [hsc]; exact ok.kind, by show ge.globals = _; rw [hglob]; exact I.ok.glob, hbi, by show s.heap.objs.size ≤ ge.locals; rw [hL]; exact Nat.le_refl _,
      fun y z c e1 e2 => I.ok.inj y z c (cm e1).1 (cm e2).1, fun y hy => ?_, fun y c z _ => ?_, fun _ => hd, hA, .inr ⟨rfl, hfr⟩, fun b hb => ⟨?_, fun y c e z => ?_⟩, I.bs, Nat.le_trans I.ok.bsz I.sz, fun b o e hb => ?_, fun b hb z => ?_, I.stack, I.stkFree⟩
    · show ∃ c, ge.cells.lookup y = some c
      have hy : scope.names.lookup y = some .cell ∨ scope.names.lookup y = some .free := by
        have hy : ge.scope.names.lookup y = some .cell ∨ ge.scope.names.lookup y = some .free := hy
        rw [hsc] at hy; exact hy
      rcases hy with hy | hy
      · exact absurd rfl (hcell _ (PySem.mem_of_lookup hy))
      · obtain ⟨c, e, _⟩ := look hy
        exact ⟨c, e⟩
    · exact absurd (show false = true from z) Bool.false_ne_true
    · show b ≠ ge.locals
      rw [hL]; exact Nat.ne_of_lt (hfp b hb).2
    · exact (hfp b hb).1.2.2.2.2.1 y c (cm e).1 z
    · rcases (hfp b hb).1.2.2.2.1 with z | z
      · exact I.ok.noex b o e z
      · exact absurd (Nat.lt_of_lt_of_le (Heap.lt_size e) (Nat.le_trans I.ok.bsz z)) (Nat.lt_irrefl _)
    · rcases List.mem_cons.mp (I.stkSub b z) with z | z
      · exact (hfp b hb).1.2.1 z
      · exact (hfp b hb).1.2.2.1 z
  refine ⟨okB, os, ab, Un.kept kp, ⟨m, ?_, fun i y av e1 e2 e3 => ?_⟩, fun y c e => ?_, ?_, fun y c e => ?_, fun p h => ?_, I.hok.kept kp, by rw [wipe_length]; exact I.len⟩
  · show s5.heap.Ns ge.locals m
    rw [hL]; exact hn
  · obtain ⟨e2, hne⟩ := wipe_some e2
    have e3 : Vis ge.scope y := e3
    rw [hsc] at e3
    have no : ∀ k', scope.names.lookup y = some k' → ¬ (k' = .local ∨ k' = .cell) := fun k' e hh => by
      rcases ok.own _ (PySem.mem_of_lookup e) hh with e' | e'
      · obtain ⟨p, hp, hpy⟩ := List.mem_map.mp e'
        have e3 := ok.ix p hp
        have : p.1 = y := hpy
        rw [this] at e3
        exact hne (List.mem_map.mpr ⟨p, hp, nodup_ix hN e3 e1⟩)
      · exact e' (List.mem_of_getElem? e1)
    have hfr : scope.names.lookup y = some .free := by
      rcases e3 with e | e | e
      · exact absurd (.inl rfl) (no _ e)
      · exact absurd (.inr rfl) (no _ e)
      · exact e
    obtain ⟨m, hn, hl⟩ := I.loc
    have hvis : Vis X.env.scope y := (ok.free _ (PySem.mem_of_lookup hfr) rfl).elim (fun k => .inr (.inl k)) (fun k => .inr (.inr k))
    obtain ⟨w, r, q⟩ := hl i y av e1 e2 hvis
    obtain ⟨c, h1, h2⟩ := look hfr
    refine ⟨w, r, .inr ⟨.inr (by show ge.scope.names.lookup y = _; rw [hsc]; exact hfr), ?_⟩⟩
    rcases q with ⟨k, _⟩ | ⟨_, c', e', z⟩
    · have k : X.env.scope.names.lookup y = some .local := k
      rcases ok.free _ (PySem.mem_of_lookup hfr) rfl with k' | k' <;> rw [show X.env.scope.names.lookup y = _ from k'] at k <;> cases k
    · rw [h2] at e'; cases e'
      exact ⟨c, h1, z.keeps kp⟩
  · obtain ⟨w, z⟩ := I.cell y c (cm e).1
    exact ⟨w, z.keeps kp⟩
  · show H ge.locals = none
    rw [hL]; exact I.hok.fresh (Nat.le_refl _)
  · exact I.freeC y c (cm e).1
  · have h : p ∈ pn := by simpa using h
    obtain ⟨p1, p2, p3⟩ := hp p h
    refine ⟨p1, I.hok.fresh (Nat.le_of_lt p2), ?_, fun z => ?_, p3⟩
    · show p.1 ≠ ge.locals
      rw [hL]; exact Nat.ne_of_gt p2
    · have z : p.1 ∈ frs X.stack := z
      rcases List.mem_cons.mp (I.stkSub _ z) with e | e
      · have := I.lt
        rw [← e] at this
        exact Nat.lt_asymm this p2
      · exact I.nofs (Nat.le_of_lt p2) e
/-- out of the block -/
theorem gx_exit {X : Cx} {pins pn : List (Addr × Obj)} {σ σ' : L2.St} {H H' : Hp} {s s' : Shared} {A : Around} {ge : Env} {fp : List Addr} (I : Inv X pins σ H s) (I' : Inv (gxC X A s H ge fp) pn σ' H' s') (hfp : ∀ b ∈ fp, FpOk X pins H b) : Inv X pins σ H' s' :=
  I.call' (ch := fp) I'.os I'.base I'.hok I'.bare fun c hcf => ⟨(hfp c hcf).2.2.2.1, (hfp c hcf).2.1, (hfp c hcf).2.2.2.2.1, (hfp c hcf).2.2.2.2.2⟩
/-- the same heap -/
theorem inv_same {X : Cx} {pins : List (Addr × Obj)} {σ : L2.St} {H : Hp} {s s' : Shared} (I : Inv X pins σ H s) (os : s'.os = s.os) (hh : s'.heap = s.heap) (ab : AllBare s'.gens) : Inv X pins σ H s' :=
  ⟨I.ok, os.trans I.os, ab, by rw [hh]; exact I.base, by rw [hh]; exact I.loc, by rw [hh]; exact I.cell, I.free, I.freeC, by rw [hh]; exact I.pin, by rw [hh]; exact I.hok, I.len⟩
/-- a value's truth, where it is plain -/
def Tr (H : Hp) (x : V) (b : Bool) : Prop := x = .bl b ∨ ∃ a xs, x = .ref a ∧ H a = some (.lst xs) ∧ b = !xs.isEmpty
theorem tr_run {B : Cx} {pins : List (Addr × Obj)} {σ : L2.St} {H : Hp} {s : Shared} {x : V} {v : Value} {b : Bool} {A : Around} {Q : Bool → Shared → Prop} {E : Value → Shared → Prop} (I : Inv B pins σ H s) (r : RelV x v) (t : Tr H x b) (h : ∀ k, Q b { s with toks := k }) : wpAny (model B.prog B.w) A (truthy v) Q E s := by
  rcases t with e | ⟨a, xs, e, hx, eb⟩
  · subst e
    obtain rfl : v = .bool b := r
    exact wpAny_truthy_bool (h s.toks)
  · subst e
    obtain rfl : v = .ref a := r
    obtain ⟨big, its, n, ri, e⟩ := I.hok a _ hx
    have hl := ri.length
    refine wpAny_truthy_list (items := its.toArray) ⟨_, e, rfl, ⟨_, rfl⟩⟩ ?_ ?_
    · rw [List.size_toArray, ← hl]
      have : (xs.length : Int) ≤ sizeLine := by exact_mod_cast big
      unfold sizeLine at this
      omega
    · have e2 : (!its.toArray.isEmpty) = b := by
        rw [eb, List.isEmpty_toArray]
        cases ri <;> rfl
      rw [e2]; exact h _
/-! ### the running block -/
def gxY (B : Cx) (pins : List (Addr × Obj)) (isAll : Bool) (Q : Bool → Hp → Prop) : Protocol := fun _ _ v s kap =>
  ∃ x H σ b, RelV x v ∧ Inv B pins σ H s ∧ Tr H x b ∧ if b = isAll then ∀ s' : Shared, s'.os = s.os → s'.heap = s.heap → AllBare s'.gens → kap (.send .none) s' else Q (!isAll) H
def gxF (B : Cx) (pins : List (Addr × Obj)) (isAll : Bool) (Q : Bool → Hp → Prop) : Nat → Shared → Shared → Prop := fun _ _ s => ∃ H σ, Inv B pins σ H s ∧ Q isAll H
abbrev gxR (B : Cx) (pins : List (Addr × Obj)) (isAll : Bool) (Q : Bool → Hp → Prop) : GenEnd := fun n s₀ r s => ((r = .ok (.ret .none) ∨ r = .ok .next) ∧ gxF B pins isAll Q n s₀ s) ∨ ∃ e, r = .error e ∧ (fun _ _ => False : Value → Shared → Prop) e s
/-- what is asked of an item, and of going on -/
def kItem (isAll : Bool) (g : TG) (t : TE) (vs : List Nat) (σ : L2.St) (Nx : Hp → Prop) (Q : Bool → Hp → Prop) (x : V) (H : Hp) : Prop :=
  g x (wipe σ vs) H fun σ2 H2 => wipe σ2 vs = wipe σ vs ∧ t σ2 H2 fun y H3 => ∃ b, Tr H3 y b ∧ if b = isAll then Nx H3 else Q (!isAll) H3
def kGx (isAll : Bool) (g : TG) (t : TE) (vs : List Nat) (σ : L2.St) (J : It) (Q : Bool → Hp → Prop) (W : Nat → Nat → Hp → Prop) : Prop :=
  ∀ i m H, W i m H → (J.stop i H ∧ Q isAll H) ∨ (J.go i H ∧ ∃ Nx : Hp → Prop, (∀ H', Nx H' → ∃ m', m' < m ∧ W (i + 1) m' H') ∧ ∀ x H', J.yld i H x H' → kItem isAll g t vs σ Nx Q x H')
def kAW (isAll : Bool) (g : TG) (t : TE) (vs : List Nat) (σ : L2.St) (J : It) (H0 : Hp) (Q : Bool → Hp → Prop) : Prop :=
  ∃ W : Nat → Nat → Hp → Prop, (∃ m, W 0 m H0) ∧ kGx isAll g t vs σ J Q W
section
variable {B : Cx} {tg iter elt : Expr} {scope : Scope} {gp : Pos} {J : It} {fp : List Addr} {it : Addr} {tn : Nat → Heap → Prop} {g : TG} {t : TE} {vs : List Nat} {A : Around} {pins : List (Addr × Obj)} {isAll : Bool} {Q : Bool → Hp → Prop} {W : Nat → Nat → Hp → Prop} {σ : L2.St}
theorem turn_gx (place : Pos) : compTurn (.GeneratorExp elt [⟨tg, iter, [], 0⟩] scope gp) 0 (.ref it) .none B.env = (do
      standAt iter.pos
      match ← pyNext (.ref it) with
      | none => pure (.done .next)
      | some v =>
        letOwnedTupleGo tg (.ref it) v
        assign tg B.env v
        (do let v ← eval elt B.env; standAt elt.pos; let _ ← yieldOut B.env v)
        again (.compLoop (.GeneratorExp elt [⟨tg, iter, [], 0⟩] scope gp) 0 (.ref it) .none B.env)) := by rfl
theorem seg_gx (T : Turn B.prog B.w B.K tg J fp it tn) (pg : PG B tg g) (pe : PE B elt t) (hc : B.calm = true) (hxe : B.xe = fun _ _ => False) (hco : B.env.scope.isCoroutine = false)
    (hA : A.over (.compLoop (.GeneratorExp elt [⟨tg, iter, [], 0⟩] scope gp) 0 (.ref it) .none B.env) [] = B.A) (ff : ∀ H' : Hp, (∀ c ∈ fp, H' c = none) → ∀ c ∈ fp, FpOk B pins H' c) (turn : kGx isAll g t vs σ J Q W) :
    ∀ (m n i : Nat) (s₀ s : Shared) (H : Hp), m ≤ n → W i m H → Inv B pins (wipe σ vs) H s → tn i s.heap → (∀ c ∈ fp, H c = none) →
      Seg (model B.prog B.w) A (gxR B pins isAll Q) (gxY B pins isAll Q) (n + 1) s₀ (.compLoop (.GeneratorExp elt [⟨tg, iter, [], 0⟩] scope gp) 0 (.ref it) .none B.env)
        ((model B.prog B.w).den (.compLoop (.GeneratorExp elt [⟨tg, iter, [], 0⟩] scope gp) 0 (.ref it) .none B.env)) [] s := by
  intro m
  induction m using Nat.strongRecOn with
  | ind m ih =>
    intro n i s₀ s H hmn w I st nn
    show Seg _ A _ _ _ s₀ _ ((compTurn (.GeneratorExp elt [⟨tg, iter, [], 0⟩] scope gp) 0 (.ref it) .none B.env).onRaise (leaving B.env)) [] s
    rw [turn_gx iter.pos, Sem.onRaise_eq_wrap]
    refine seg_bind_wrap (wpAny_standAt ?_)
    rcases turn i m H w with ⟨stop, qd⟩ | ⟨go, Nx, less, step⟩
    · refine seg_bind_wrap ?_
      rw [hA]
      refine thn (T.done B rfl rfl rfl hc i pins s _ H _ I (ff H nn) st stop) fun r s1 ⟨er, I1⟩ => ?_
      subst er
      exact seg_end (.ok .next) (.inl ⟨.inr rfl, H, _, I1, qd⟩)
    · refine seg_bind_wrap ?_
      rw [hA]
      refine thn (T.item B rfl rfl rfl hc i pins s _ H _ I (ff H nn) st go) fun r s1 ⟨u, er, h1⟩ => ?_
      subst er
      refine seg_bind_wrap ?_
      rw [hA]
      refine thn h1 fun _ s2 ⟨x, H2, I2, rx, yl, st2, n2⟩ => ?_
      have P2 := I2.pinned (ff H2 n2) (T.obj _ _ st2)
      have run1 := pg.run _ s2 _ H2 x u _ P2 rx (step x H2 yl)
      rw [hxe] at run1
      refine seg_bind_wrap ?_
      rw [hA]
      refine thnF run1 fun _ s3 ⟨σ3, H3, I3, w3, q3⟩ => ?_
      have run2 := pe.run _ s3 σ3 H3 _ I3 q3
      rw [hxe] at run2
      have hy : ∀ v, yieldOut B.env v = yieldValue v := fun v => by simp only [yieldOut, hco, Bool.false_eq_true, if_false]
      simp only [hy]
      rw [Sem.bind_eq_wrap', Sem.bind_eq_wrap', Sem.wrap_wrap, Sem.wrap_wrap]
      refine seg_wrap ?_
      rw [hA]
      refine thnF run2 fun y s4 ⟨z, H4, I4, rz, b, tr, q4⟩ => ?_
      refine seg_at (seg_yield rfl rfl rfl ⟨z, H4, _, b, rz, I4.unpinned, tr, ?_⟩)
      by_cases hb : b = isAll
      · rw [if_pos hb] at q4 ⊢
        obtain ⟨m', hm, w'⟩ := less _ q4
        intro s' os hh ab
        have same : ∀ c ∈ fp, ∀ o, s2.heap.get? c = some o → s4.heap.get? c = some o ∧ H4 c = none := fun c hcf o e => by
          have z := I4.pin (c, o) (List.mem_append_right _ (List.mem_append_right _ (mem_pinsAt hcf e)))
          exact ⟨z.1, z.2.1⟩
        obtain ⟨k, rfl⟩ : ∃ k, n = k + 1 := ⟨n - 1, by omega⟩
        refine seg_again rfl (ih m' hm k (i + 1) s' s' H4 (by omega) w' ?_ ?_ fun c hcf => ?_)
        · refine inv_same (I4.unpinned.weak (by rw [wipe_length, ← wipe_length σ3 vs, w3, wipe_length]) fun j v e => ?_) os hh ab
          rw [← w3] at e
          exact (wipe_some e).1
        · rw [hh]
          exact T.keep _ _ _ st2 fun c hcf o e => (same c hcf o e).1
        · obtain ⟨o, e, _⟩ := T.obj _ _ st2 c hcf
          exact (same c hcf o e).2
      · rw [if_neg hb] at q4 ⊢
        exact q4
theorem seg_gx0 (hA : A.over (.compLoop (.GeneratorExp elt [⟨tg, iter, [], 0⟩] scope gp) 0 (.ref it) .none B.env) [] = B.A) (T : Turn B.prog B.w B.K tg J fp it tn) {n : Nat} {s₀ s : Shared} {R : GenEnd} {Y : Protocol} (st : tn 0 s.heap)
    (loop : Seg (model B.prog B.w) A R Y n s₀ (.compLoop (.GeneratorExp elt [⟨tg, iter, [], 0⟩] scope gp) 0 (.ref it) .none B.env) ((model B.prog B.w).den (.compLoop (.GeneratorExp elt [⟨tg, iter, [], 0⟩] scope gp) 0 (.ref it) .none B.env)) [] s) :
    Seg (model B.prog B.w) A R Y n s₀ (.compStart (.GeneratorExp elt [⟨tg, iter, [], 0⟩] scope gp) 0 (.ref it) .none B.env) ((model B.prog B.w).den (.compStart (.GeneratorExp elt [⟨tg, iter, [], 0⟩] scope gp) 0 (.ref it) .none B.env)) [] s := by
  show Seg _ A _ _ _ s₀ _ ((compStart (.GeneratorExp elt [⟨tg, iter, [], 0⟩] scope gp) 0 (.ref it) .none B.env).onRaise (leaving B.env)) [] s
  unfold compStart
  rw [Sem.onRaise_eq_wrap]
  show Seg _ A _ _ _ s₀ _ ((ask >>= _).wrap _ _ _ _) [] s
  refine seg_bind_wrap (wpAny_askSetting ?_)
  split
  · exact seg_again rfl loop
  · first
      | exact seg_bind_wrap (wpAny_rule (seg_bind_wrap (wpAny_standAt (seg_bind_wrap (T.self _ 0 s _ _ st (seg_again rfl loop))))))
      | (refine seg_bind_wrap (wpAny_rule ?_); show Seg _ A _ _ _ s₀ _ ((standAt iter.pos >>= _).wrap _ _ _ _) [] s; exact seg_bind_wrap (wpAny_standAt (seg_bind_wrap (T.self _ 0 s _ _ st (seg_again rfl loop)))))
end
/-! ### the consumer -/
def isGenO (g : Nat) (o : Obj) : Prop := ∃ nm qn, o.cls = .type "generator" ∧ o.data = .fields #[.int g 0, nm, qn] ∧ o.slots = #[]
section
variable {B : Cx} {pins : List (Addr × Obj)} {Q : Bool → Hp → Prop} {A : Around} {R : Result → Shared → Prop} {a : Addr} {g : Nat} {o : Obj}
theorem gx_all (hh : A.handled = none) (hd : A.depth < recursionLimit) (ho : isGenO g o) (hin : (a, o) ∈ pins)
    (hR : ∀ b H σ s s', Inv B pins σ H s → Q b H → s'.os = s.os → AllBare s'.gens → (∀ c u, s.heap.get? c = some u → s'.heap.get? c = some u) → R (.ok (.ret (.bool b))) s') :
    ∀ (m : Nat) (s : Shared), s.heap.IsGen a g → s.heap.NoLimit → (∃ gs, s.gens[g]? = some gs ∧ gs.Goes (model B.prog B.w) A.in1.in1 (gxR B pins true Q) (gxY B pins true Q) m (.send .none) (s.setGen g .running)) →
      codeAny (model B.prog B.w) A (.builtin "all.loop" ⟨[.ref a], []⟩) R s := by
  have isgen : ∀ {σ : L2.St} {H : Hp} {s : Shared}, Inv B pins σ H s → s.heap.IsGen a g := fun {σ H s} I => by
    obtain ⟨nm, qn, h⟩ := ho
    exact ⟨o, nm, qn, (I.pin (a, o) (List.mem_append_right _ hin)).1, h⟩
  have core : ∀ (m : Nat) (s : Shared) (next : ∀ s' k, m = k + 1 → s'.heap.IsGen a g → s'.heap.NoLimit → (∃ gs, s'.gens[g]? = some gs ∧ gs.Goes (model B.prog B.w) A.in1.in1 (gxR B pins true Q) (gxY B pins true Q) k (.send .none) (s'.setGen g .running)) → codeAny (model B.prog B.w) A (.builtin "all.loop" ⟨[.ref a], []⟩) R s'),
      s.heap.IsGen a g → s.heap.NoLimit → (∃ gs, s.gens[g]? = some gs ∧ gs.Goes (model B.prog B.w) A.in1.in1 (gxR B pins true Q) (gxY B pins true Q) m (.send .none) (s.setGen g .running)) →
      codeAny (model B.prog B.w) A (.builtin "all.loop" ⟨[.ref a], []⟩) R s := by
    intro m s next hg hl ⟨gs, hgs, hgo⟩
    have hgl : g < s.gens.size := (Array.getElem?_eq_some_iff.mp hgs).1
    refine codeAny_builtin F.entry_all_loop ?_
    rw [Around.under_plainId F.plain_all_loop _]
    show wpAny _ A.in1 (pyNext (.ref a) >>= _) _ _ s
    refine wpAny_bind (wpAny_gsz (n := g + 1) hgl (next_genG (A := A.in1) hh hl hd hg hgs hgo (fun v s₁ gs' hbare hv => ?_) (fun s₁ hp h' hk => ?_) fun e s₁ he => he.elim))
    · intro hsz
      obtain ⟨x, H, σ, b, rx, I, tr, hk⟩ := hv
      have hsz1 : g < s₁.gens.size := by
        have q : (s₁.setGen g gs').gens.size = s₁.gens.size := setGen_size _ _ _
        have hsz' : g + 1 ≤ (s₁.setGen g gs').gens.size := hsz
        omega
      have bare1 : AllBare (s₁.setGen g gs').gens := allBare_setGen I.bare hbare
      have I1 : Inv B pins σ H (s₁.setGen g gs') := inv_same I rfl rfl bare1
      refine wpAny_bind (wpAny_holding (tr_run I1 rx tr fun k => ?_))
      refine wpAny_bind (wpAny_letGo ?_)
      have I2 : Inv B pins σ H { s₁.setGen g gs' with toks := k } := I1.tok k
      cases b with
      | true =>
        simp only [if_true] at hk ⊢
        refine wpAny_pure ⟨plainId_quiet F.plain_all_loop _, ?_⟩
        have again := hk ({ s₁.setGen g gs' with toks := k }.setGen g .running) rfl rfl (allBare_setGen I2.bare rfl)
        cases m with
        | zero => exact again.elim
        | succ m => exact next _ m rfl (isgen I2) I2.nolimit ⟨gs', setGen_at hsz1, again⟩
      | false =>
        simp only [Bool.false_eq_true, if_false] at hk ⊢
        exact wpAny_bind (wpAny_rule (wpAny_pure (hR _ H σ _ _ I2 hk rfl I2.bare fun c u e => e)))
    · intro hsz
      obtain ⟨H, σ, I, q⟩ := hp
      exact wpAny_bind (wpAny_rule (wpAny_pure (hR _ H σ _ _ I q rfl (allBare_setGen I.bare rfl) hk)))
  intro m
  induction m with
  | zero => exact fun s => core 0 s fun s' k e => by cases e
  | succ m ih => exact fun s => core (m + 1) s fun s' k e => by cases e; exact ih s'
theorem gx_any (hh : A.handled = none) (hd : A.depth < recursionLimit) (ho : isGenO g o) (hin : (a, o) ∈ pins)
    (hR : ∀ b H σ s s', Inv B pins σ H s → Q b H → s'.os = s.os → AllBare s'.gens → (∀ c u, s.heap.get? c = some u → s'.heap.get? c = some u) → R (.ok (.ret (.bool b))) s') :
    ∀ (m : Nat) (s : Shared), s.heap.IsGen a g → s.heap.NoLimit → (∃ gs, s.gens[g]? = some gs ∧ gs.Goes (model B.prog B.w) A.in1.in1 (gxR B pins false Q) (gxY B pins false Q) m (.send .none) (s.setGen g .running)) →
      codeAny (model B.prog B.w) A (.builtin "any.loop" ⟨[.ref a], []⟩) R s := by
  have isgen : ∀ {σ : L2.St} {H : Hp} {s : Shared}, Inv B pins σ H s → s.heap.IsGen a g := fun {σ H s} I => by
    obtain ⟨nm, qn, h⟩ := ho
    exact ⟨o, nm, qn, (I.pin (a, o) (List.mem_append_right _ hin)).1, h⟩
  have core : ∀ (m : Nat) (s : Shared) (next : ∀ s' k, m = k + 1 → s'.heap.IsGen a g → s'.heap.NoLimit → (∃ gs, s'.gens[g]? = some gs ∧ gs.Goes (model B.prog B.w) A.in1.in1 (gxR B pins false Q) (gxY B pins false Q) k (.send .none) (s'.setGen g .running)) → codeAny (model B.prog B.w) A (.builtin "any.loop" ⟨[.ref a], []⟩) R s'),
      s.heap.IsGen a g → s.heap.NoLimit → (∃ gs, s.gens[g]? = some gs ∧ gs.Goes (model B.prog B.w) A.in1.in1 (gxR B pins false Q) (gxY B pins false Q) m (.send .none) (s.setGen g .running)) →
      codeAny (model B.prog B.w) A (.builtin "any.loop" ⟨[.ref a], []⟩) R s := by
    intro m s next hg hl ⟨gs, hgs, hgo⟩
    have hgl : g < s.gens.size := (Array.getElem?_eq_some_iff.mp hgs).1
    refine codeAny_builtin F.entry_any_loop ?_
    rw [Around.under_plainId F.plain_any_loop _]
    show wpAny _ A.in1 (pyNext (.ref a) >>= _) _ _ s
    refine wpAny_bind (wpAny_gsz (n := g + 1) hgl (next_genG (A := A.in1) hh hl hd hg hgs hgo (fun v s₁ gs' hbare hv => ?_) (fun s₁ hp h' hk => ?_) fun e s₁ he => he.elim))
    · intro hsz
      obtain ⟨x, H, σ, b, rx, I, tr, hk⟩ := hv
      have hsz1 : g < s₁.gens.size := by
        have q : (s₁.setGen g gs').gens.size = s₁.gens.size := setGen_size _ _ _
        have hsz' : g + 1 ≤ (s₁.setGen g gs').gens.size := hsz
        omega
      have bare1 : AllBare (s₁.setGen g gs').gens := allBare_setGen I.bare hbare
      have I1 : Inv B pins σ H (s₁.setGen g gs') := inv_same I rfl rfl bare1
      refine wpAny_bind (wpAny_holding (tr_run I1 rx tr fun k => ?_))
      refine wpAny_bind (wpAny_letGo ?_)
      have I2 : Inv B pins σ H { s₁.setGen g gs' with toks := k } := I1.tok k
      cases b with
      | false =>
        simp only [Bool.false_eq_true, if_true, if_false] at hk ⊢
        refine wpAny_pure ⟨plainId_quiet F.plain_any_loop _, ?_⟩
        have again := hk ({ s₁.setGen g gs' with toks := k }.setGen g .running) rfl rfl (allBare_setGen I2.bare rfl)
        cases m with
        | zero => exact again.elim
        | succ m => exact next _ m rfl (isgen I2) I2.nolimit ⟨gs', setGen_at hsz1, again⟩
      | true =>
        simp only [if_true, Bool.true_eq_false, if_false] at hk ⊢
        exact wpAny_bind (wpAny_rule (wpAny_pure (hR _ H σ _ _ I2 hk rfl I2.bare fun c u e => e)))
    · intro hsz
      obtain ⟨H, σ, I, q⟩ := hp
      exact wpAny_bind (wpAny_rule (wpAny_pure (hR _ H σ _ _ I q rfl (allBare_setGen I.bare rfl) hk)))
  intro m
  induction m with
  | zero => exact fun s => core 0 s fun s' k e => by cases e
  | succ m ih => exact fun s => core (m + 1) s fun s' k e => by cases e; exact ih s'
end
/-! ### the expression -/
def kGen (P : Addr) (isAll : Bool) (wi : TI) (g : TG) (t : TE) (vs : List Nat) : TE := fun σ H Q => wi σ H fun J H1 => TabG H1 P ∧ ∀ H2, Kp [] H1 H2 → kAW isAll g t vs σ J H2 fun b H3 => Q (.bl b) H3
theorem gx_made {X : Cx} {k : Nat} {c P : Addr} {tg iter elt : Expr} {gpos : Pos} {scope : Scope} {own : List (Str × Nat)} {wi : TI} {g : TG} {t : TE} {isAll : Bool} {Q' : Value → Shared → Prop} {pins : List (Addr × Obj)} {s : Shared} {σ : L2.St} {H : Hp} {QE : VK}
    (hr : Room (k + 2) X.A) (hc : X.calm = true) (hN : X.N.Nodup) (TB : TabB X.base X.mg c P) (hcode : X.env.code = .ref c) (hi : PI X tg iter wi) (ok : BlkOk X.N X.env.scope scope own)
    (hcell : ∀ y ∈ scope.names, y.2 ≠ .cell) (hdot : scope.names.lookup (".0" : Str) = some NameKind.local) (hco : scope.isCoroutine = false)
    (hg : ∀ (A : Around) (s : Shared) (H : Hp) (C : Addr) (code : Value) (fp : List Addr), Room k A → PG (gxC X A s H (gxE X scope C code) fp) tg g)
    (ht : ∀ (A : Around) (s : Shared) (H : Hp) (C : Addr) (code : Value) (fp : List Addr), Room k A → PE (gxC X A s H (gxE X scope C code) fp) elt t)
    (hs : ∀ v, genFold iter X.env v = pure v) (I : Inv X pins σ H s) (h : kGen P isAll wi g t (own.map (·.2)) σ H QE)
    (hQ : ∀ (a gi : Addr) (B : Cx) (pn : List (Addr × Obj)) (o : Obj) (m : Nat) (s5 : Shared), B.prog = X.prog → B.w = X.w → isGenO gi o → (a, o) ∈ pn → s5.heap.IsGen a gi → s5.heap.NoLimit →
      (∃ gs, s5.gens[gi]? = some gs ∧ gs.Goes (model X.prog X.w) X.A.in1.in1 (gxR B pn isAll fun b H3 => QE (.bl b) H3) (gxY B pn isAll fun b H3 => QE (.bl b) H3) m (.send .none) (s5.setGen gi .running)) →
      (∀ (b : Bool) H' σ' s6 s7, Inv B pn σ' H' s6 → QE (.bl b) H' → s7.os = s6.os → AllBare s7.gens → (∀ c u, s6.heap.get? c = some u → s7.heap.get? c = some u) → EP X pins σ QE (.bool b) s7) → Q' (.ref a) s5) :
    wpAny (model X.prog X.w) X.A (eval (.GeneratorExp elt [⟨tg, iter, [], 0⟩] scope gpos) X.env) Q' X.xe s := by
  have known : ∀ y ∈ scope.names, y.2 = .free → ∃ c, X.env.cells.lookup y.1 = some c := fun y hy e => I.ok.has _ (ok.free y hy e)
  refine wpAny_GeneratorExp_make hco (closure_ok known) hcell hdot ok.kind (by have := hr.dp; omega) ?_ hs
  refine thn (hi.run pins s σ H _ I h) fun xv s1 hx => thn hx fun itv s2 hp => ?_
  obtain ⟨it, fp, tn, J, H2, rfl, I2, T, st2, f2, ⟨ps, hP, htr⟩, hw⟩ := hp
  refine ⟨I2.nolimit, ?_⟩
  have hPs : s2.heap.get? P = some { cls := .none, data := .fields ps } := I2.hok P _ hP
  have cd : PySem.W.CodeHd s2.heap c P := TB.code.keeps I2.bk
  have Pfp : P ∉ fp := fun z => by have := (f2 P z).1; rw [hP] at this; cases this
  have cont : ∀ (code : Value) (s3 : Shared) (H3 : Hp), Inv X pins σ H3 s3 → Kp [] H2 H3 → (∀ b o, b ≠ P → s2.heap.get? b = some o → s3.heap.get? b = some o) → (∀ b, H2 b = none → H3 b = none) → s2.heap.objs.size ≤ s3.heap.objs.size →
      wpAny (model X.prog X.w) X.A (builtinsFor X.env.globals X.env.builtins) (fun bi s₄ =>
        ∀ h' : Heap, h'.Ns s₄.heap.objs.size (fun y => if y = ".0" then some (.ref it) else none) → Heap.SameBut s₄.heap.objs.size (s₄.heap.push { cls := .type "frame", data := .dict #[] }) h' →
          Q' (.ref h'.objs.size) { s₄ with
            gens := s₄.gens.push (.fresh (.compStart (.GeneratorExp elt [⟨tg, iter, [], 0⟩] scope gpos) 0 (.ref it) .none (genEnv scope (cloFrom X.env.cells scope.names []) s₄.heap.objs.size code bi X.env))),
            toks := s₄.toks + 1 + 1 + 1,
            heap := h'.push { cls := .type "generator", data := .fields #[.int s₄.gens.size 0, .str "<genexpr>" (s₄.toks + 1), .str (X.env.qual ++ "<genexpr>") (s₄.toks + 1 + 1)] } }) X.xe s3 := by
    intro code s3 H3 I3 k23 old none3 hsz
    obtain ⟨bm, ob, e1, e2, e3, e4, e5, e6, e7, e8⟩ := TB.bm
    refine wpAny_builtinsFor (m := X.mg) (by rw [I3.ok.glob]; exact I3.mod.glob.keeps I3.bk) e1 e2 (I3.bk _ _ e5) e6 e7 e8 ?_
    intro h' hn' hs'
    have keep' : ∀ b o, s3.heap.get? b = some o → h'.get? b = some o := fun b o e => hs'.extBut b o (Nat.ne_of_lt (Heap.lt_size e)) (Heap.get?_push_of_some _ e)
    have hsz' : h'.objs.size = s3.heap.objs.size + 1 := by rw [hs'.1, Heap.size_push]
    obtain ⟨o, eo⟩ : ∃ o : Obj, o = { cls := .type "generator", data := .fields #[.int s3.gens.size 0, .str "<genexpr>" (s3.toks + 1), .str (X.env.qual ++ "<genexpr>") (s3.toks + 1 + 1)] } := ⟨_, rfl⟩
    rw [← eo]
    have hgo : isGenO s3.gens.size o := by rw [eo]; exact ⟨_, _, rfl, rfl, rfl⟩
    have ho : (h'.push o).get? h'.objs.size = some o := Heap.get?_push_size _ (by rw [eo]; rfl)
    have keep5 : ∀ b u, s3.heap.get? b = some u → (h'.push o).get? b = some u := fun b u e => Heap.get?_push_of_some _ (keep' b u e)
    have f3 : ∀ b ∈ fp, FpOk X pins H3 b ∧ b < s3.heap.objs.size := fun b hb => by
      obtain ⟨u, e, _⟩ := T.obj _ _ st2 b hb
      exact ⟨⟨none3 b (f2 b hb).1, (f2 b hb).2⟩, Nat.lt_of_lt_of_le (Heap.lt_size e) hsz⟩
    have st3 : tn 0 s3.heap := T.keep _ _ _ st2 fun b hb u e => old b u (fun z => Pfp (z ▸ hb)) e
    obtain ⟨A', eA⟩ : ∃ A' : Around, A' = X.A.in1.in1.over (.compLoop (.GeneratorExp elt [⟨tg, iter, [], 0⟩] scope gpos) 0 (.ref it) .none (gxE X scope s3.heap.objs.size code)) [] := ⟨_, rfl⟩
    have rA : Room k A' := by
      rw [eA]
      refine ⟨hr.hd, ?_, ?_⟩
      · have := hr.dp
        show X.A.depth + 0 + 1 + 3 * k + 5 < _
        omega
      · have := hr.un
        show X.A.units + 1 + 1 + 0 + 3 + 16 * k + 200 < _
        omega
    have fA : A'.frames = some (gxE X scope s3.heap.objs.size code :: X.stack) := by
      rw [eA]
      simp only [Around.over]
      rw [show X.A.in1.in1.frames = some X.stack from I3.ok.frames]
      rfl
    obtain ⟨m0, w0⟩ : ∃ m : Nat, True := ⟨0, trivial⟩
    obtain ⟨W, ⟨m1, w1⟩, turn⟩ := hw H3 k23
    refine hQ h'.objs.size s3.gens.size (gxC X A' s3 H3 (gxE X scope s3.heap.objs.size code) fp) [(h'.objs.size, o)] o (m1 + 1) _ rfl rfl hgo List.mem_cons_self ?_ (I3.nolimit.keeps keep5) ⟨_, Array.getElem?_push_size .., rfl, ?_⟩ ?_
    · obtain ⟨nm, qn, r⟩ := hgo
      exact ⟨o, nm, qn, ho, r⟩
    · have I5 : ∀ s6 : Shared, s6.os = s3.os → s6.heap = h'.push o → AllBare s6.gens → Inv (gxC X A' s3 H3 (gxE X scope s3.heap.objs.size code) fp) [(h'.objs.size, o)] (wipe σ (own.map (·.2))) H3 s6 := fun s6 os hh ab =>
        gx_start I3 ok hN hcell rA.hd fA f3 os ab (by rw [hh]; exact keep5) (by rw [hh]; exact hn'.push _) fun p hp => by
          have e : p = (h'.objs.size, o) := by simpa using hp
          subst e
          refine ⟨by rw [hh]; exact ho, by show s3.heap.objs.size < h'.objs.size; omega, fun v z => ?_⟩
          rw [eo] at z; cases z
      have I6 := I5 ({ s3 with gens := s3.gens.push (.fresh (.compStart (.GeneratorExp elt [⟨tg, iter, [], 0⟩] scope gpos) 0 (.ref it) .none (gxE X scope s3.heap.objs.size code))), toks := s3.toks + 1 + 1 + 1, heap := h'.push o }.setGen s3.gens.size .running) rfl rfl
        (allBare_setGen (I3.bare.push rfl) rfl)
      have st6 : tn 0 (h'.push o) := T.keep _ _ _ st3 fun b _ u e => keep5 b u e
      refine seg_gx0 (B := gxC X A' s3 H3 (gxE X scope s3.heap.objs.size code) fp) eA.symm T st6 ?_
      exact seg_gx (B := gxC X A' s3 H3 (gxE X scope s3.heap.objs.size code) fp) T (hg A' s3 H3 _ code fp rA) (ht A' s3 H3 _ code fp rA) hc rfl hco eA.symm
        (fun H' hn c hcf => ⟨hn c hcf, (I6.ok.exf c hcf).1, I6.ok.exfs c hcf, .inl hcf, fun x d e => (I6.ok.exf c hcf).2 x d e, fun p hp => by
          have e : p = (h'.objs.size, o) := by simpa using hp
          rw [e]
          exact Nat.ne_of_gt (Nat.lt_trans (f3 c hcf).2 (by rw [hsz']; exact Nat.lt_succ_self _))⟩) turn m1 m1 0 _ _ H3 (Nat.le_refl _) w1 I6 st6 fun c hcf => (f3 c hcf).1.1
    · intro b H' σ' s6 s7 I' q os ab k67
      have back : Inv X pins σ H' s6 := gx_exit I3 I' fun c hcf => (f3 c hcf).1
      have b2 := back.kept (t' := s7.toks) k67
      exact ⟨.bl b, H', inv_same b2 os rfl ab, rfl, q⟩
  cases hf : codeAmong gpos ps.toList with
  | none =>
    refine wpAny_genexprCodeX hcode (cd.code hPs htr) (cd.tab hPs) hf fun c' h3 tk hx hge hlt hco' _ htab' _ => ?_
    obtain ⟨o1, vs, f1, tf, fl, tg', inF, tx, tt, op, _, _, _, _, _, _, _, _, _, htr3, _⟩ := hco'
    have J := inv_tab (more := #[rawInt gpos.line, rawInt gpos.col, .ref c']) (h' := h3) (g' := s2.gens) (d' := s2.drawn) (t' := tk) I2 hP (fun b u hb e => hx b u hb e) htab'.2 I2.bare
    refine cont _ _ _ J (Kp.grow hP htr3) (fun b u hb e => hx b u hb e) (fun b e => ?_) (Nat.le_trans hge (Nat.le_of_lt hlt))
    rw [upd_ne fun z => by rw [z, hP] at e; cases e]; exact e
  | some cv =>
    refine wpAny_genexprCode_hit hcode (cd.code hPs htr) hf ?_
    exact cont cv s2 H2 I2 Kp.refl (fun b u _ e => e) (fun _ e => e) (Nat.le_refl _)
section
variable {X : Cx} {k : Nat} {c P : Addr} {tg iter elt : Expr} {gpos p pos : Pos} {scope : Scope} {own : List (Str × Nat)} {wi : TI} {g : TG} {t : TE}
theorem pe_allG (hr : Room (k + 2) X.A) (hc : X.calm = true) (hN : X.N.Nodup) (hgl : Gl X "all") (hm : X.mg "all" = none) (TB : TabB X.base X.mg c P) (hcode : X.env.code = .ref c) (hi : PI X tg iter wi) (ok : BlkOk X.N X.env.scope scope own)
    (hcell : ∀ y ∈ scope.names, y.2 ≠ .cell) (hdot : scope.names.lookup (".0" : Str) = some NameKind.local) (hco : scope.isCoroutine = false)
    (hg : ∀ (A : Around) (s : Shared) (H : Hp) (C : Addr) (code : Value) (fp : List Addr), Room k A → PG (gxC X A s H (gxE X scope C code) fp) tg g)
    (ht : ∀ (A : Around) (s : Shared) (H : Hp) (C : Addr) (code : Value) (fp : List Addr), Room k A → PE (gxC X A s H (gxE X scope C code) fp) elt t)
    (hs : ∀ v, genFold iter X.env v = pure v := by intro _; rfl)
    (he : starEach [.GeneratorExp elt [⟨tg, iter, [], 0⟩] scope gpos] X.env = (false, eval (.GeneratorExp elt [⟨tg, iter, [], 0⟩] scope gpos) X.env) :: starEach [] X.env := by rfl) :
    PE X (.Call (.Name "all" p) [.GeneratorExp elt [⟨tg, iter, [], 0⟩] scope gpos] [] pos) (kGen P true wi g t (own.map (·.2))) := by
  refine ⟨fun pins s σ H Q I h => ?_⟩
  refine wpAny_Call_Name_kw (ld_blt I hgl hm boot_all ?_)
  refine PyProof.Rows.callWith_builtin1 ?_ he (by rfl)
  rw [he]
  show wpAny _ _ (spliced ((false, eval (.GeneratorExp elt [⟨tg, iter, [], 0⟩] scope gpos) X.env) :: backTo pos (starEach [] X.env))) _ _ s
  refine Calls.spliced_cons (gx_made hr hc hN TB hcode hi ok hcell hdot hco hg ht hs I h fun a gi B pn o m s5 eP ew hgo hin hgen hlim hgoes exit => ?_)
  refine Calls.spliced_nil ?_
  refine call_function_tree F.kind_all F.plain_all F.entry_all (F.args_all1 _) ?_
  unfold Builtin.«all»
  refine wpAny_bind (m := oneArg "all" _) (wpAny_pure ?_)
  refine wpAny_bind (wpAny_pyIter_gen hgen ?_)
  refine wpAny_pure ⟨plainId_quiet F.plain_all_loop _, ?_⟩
  rw [← eP, ← ew] at hgoes ⊢
  exact gx_all (B := B) hr.hd (by have := hr.dp; show X.A.depth < _; omega) hgo hin (fun b H' σ' s6 s7 I' q os ab k67 => exit b H' σ' s6 s7 I' q os ab k67) m s5 hgen hlim hgoes
theorem pe_anyG (hr : Room (k + 2) X.A) (hc : X.calm = true) (hN : X.N.Nodup) (hgl : Gl X "any") (hm : X.mg "any" = none) (TB : TabB X.base X.mg c P) (hcode : X.env.code = .ref c) (hi : PI X tg iter wi) (ok : BlkOk X.N X.env.scope scope own)
    (hcell : ∀ y ∈ scope.names, y.2 ≠ .cell) (hdot : scope.names.lookup (".0" : Str) = some NameKind.local) (hco : scope.isCoroutine = false)
    (hg : ∀ (A : Around) (s : Shared) (H : Hp) (C : Addr) (code : Value) (fp : List Addr), Room k A → PG (gxC X A s H (gxE X scope C code) fp) tg g)
    (ht : ∀ (A : Around) (s : Shared) (H : Hp) (C : Addr) (code : Value) (fp : List Addr), Room k A → PE (gxC X A s H (gxE X scope C code) fp) elt t)
    (hs : ∀ v, genFold iter X.env v = pure v := by intro _; rfl)
    (he : starEach [.GeneratorExp elt [⟨tg, iter, [], 0⟩] scope gpos] X.env = (false, eval (.GeneratorExp elt [⟨tg, iter, [], 0⟩] scope gpos) X.env) :: starEach [] X.env := by rfl) :
    PE X (.Call (.Name "any" p) [.GeneratorExp elt [⟨tg, iter, [], 0⟩] scope gpos] [] pos) (kGen P false wi g t (own.map (·.2))) := by
  refine ⟨fun pins s σ H Q I h => ?_⟩
  refine wpAny_Call_Name_kw (ld_blt I hgl hm boot_any ?_)
  refine PyProof.Rows.callWith_builtin1 ?_ he (by rfl)
  rw [he]
  show wpAny _ _ (spliced ((false, eval (.GeneratorExp elt [⟨tg, iter, [], 0⟩] scope gpos) X.env) :: backTo pos (starEach [] X.env))) _ _ s
  refine Calls.spliced_cons (gx_made hr hc hN TB hcode hi ok hcell hdot hco hg ht hs I h fun a gi B pn o m s5 eP ew hgo hin hgen hlim hgoes exit => ?_)
  refine Calls.spliced_nil ?_
  refine call_function_tree F.kind_any F.plain_any F.entry_any (F.args_any1 _) ?_
  unfold Builtin.«any»
  refine wpAny_bind (m := oneArg "any" _) (wpAny_pure ?_)
  refine wpAny_bind (wpAny_pyIter_gen hgen ?_)
  refine wpAny_pure ⟨plainId_quiet F.plain_any_loop _, ?_⟩
  rw [← eP, ← ew] at hgoes ⊢
  exact gx_any (B := B) hr.hd (by have := hr.dp; show X.A.depth < _; omega) hgo hin (fun b H' σ' s6 s7 I' q os ab k67 => exit b H' σ' s6 s7 I' q os ab k67) m s5 hgen hlim hgoes
end
end MD

namespace MD
open PySem PySem.Spec PyProof.Rows L2
/-! ### defs whose code object is known: their generator expressions' code is kept in its table -/
structure DefC (K : PySem.W.Frag) (mg : Str → Option Value) (x : Str) (st : Stmt) (ps : List Str) (c : Addr) : Prop where
  ex : ∃ (f : Addr) (fd : FuncData), mg x = some (.ref f) ∧ L2.Fun K x x st f fd ∧ Binds K fd ps [] ∧ fd.code = .ref c
structure MethC (K : PySem.W.Frag) (C : Addr) (m qual : Str) (st : Stmt) (ps : List Str) (c : Addr) : Prop where
  ex : ∃ (f : Addr) (fd : FuncData), Meth K C m f ∧ L2.Fun K m qual st f fd ∧ Binds K fd ps [] ∧ fd.code = .ref c
section
variable {P : Program} {w : World} {K : PySem.W.Frag} {mg : Str → Option Value} {base : Heap}
theorem fnC_of {Z : CXT} {x qual : Str} {st : Stmt} {f c : Addr} {fd : FuncData} {N ps : List Str} {k : Nat} {sp : Sp}
    (F : Fun K x qual st f fd) (code : fd.code = .ref c) (S : FnScope N ps (defScope st)) (ln : ∀ vs H Q E, sp vs H Q E → vs.length = ps.length)
    (body : ∀ (A : Around) (up : List Env) (s : Shared) (H : Hp) (vs : List V) (Q : VK) (E : XK),
      Room k (A.deeper (envOfC qual (defScope st) s.heap.objs.size f (.ref c))) → sp vs H Q E →
      ∃ t, PSs (cxOf Z P w K mg base N qual (defScope st) f (.ref c) A up s H E).nox (defBody st) t ∧
        t { nx := fun _ H' => Q .non H', rt := Q } (start N vs) H) : FnOk P w K mg base Z (k + 1) f fd ps sp := by
  obtain ⟨oc, od, kV, doc, pm, an, cdv, ct, osl, rfl, lk, hcd⟩ := F.ex
  obtain rfl : cdv = .ref c := code
  refine ⟨ln, fun A up s H ar us vs Q E rm e0 bi rv h => ?_⟩
  have inK : K.In s.heap := e0.mod.kin.keeps fun b o q => (e0.bs b o q).1
  have hl := ln _ _ _ _ h
  refine codeAny_call_function rm.depth (inK _ _ lk) rfl S.co S.gen rfl (PySem.W.codeRec_of inK hcd) (bi _ _ _ _ ?_)
  have kd : ∀ y ∈ ps.zip us, (defScope st).names.lookup y.1 = some .local ∨
      ((defScope st).names.lookup y.1 = some .cell ∧ ((cellsFrom (s.heap.objs.size + 1) (defScope st).names []).lookup y.1).isSome = true) := by
    rintro ⟨n, v⟩ hy
    cases S.par n (List.of_mem_zip hy).1 with
    | inl q => exact .inl q
    | inr q => exact .inr ⟨q, PySem.W.cellsFrom_some _ _ _ (.inl q)⟩
  refine wpAny_newFunctionEnv_cells S.kind kd fun env he s1 ic => ?_
  subst he
  have lim := e0.mod.nolimit.keeps (h' := s.heap) fun b o q => (e0.bs b o q).1
  refine ⟨lim.keeps ic.toInCall.keep, codeAny_func ?_⟩
  obtain ⟨t, ht, hq⟩ := body A up s H vs Q E (rm.deeper _) h
  have st0 := inv_start (CX := Z) (E := E) S rm.hd e0 hl rv ic
  refine wpAny_mono (ht.nox.run [] s1 (start N vs) H _ st0 hq) (fun fl s' hs => ?_) fun e s' hs => hs
  cases fl with
  | ret u =>
    obtain ⟨v, σ', H', J, r', q⟩ := hs
    exact ⟨v, H', J.os, J.bare, J.base, J.hok, r', q⟩
  | next =>
    obtain ⟨σ', H', J, q⟩ := hs
    exact ⟨V.non, H', J.os, J.bare, J.base, J.hok, rfl, q⟩
  | brk => exact hs.elim fun _ q => q.elim fun _ q => q.2.elim
  | cont => exact hs.elim fun _ q => q.elim fun _ q => q.2.elim
theorem calC_of {x : Str} {st : Stmt} {N ps : List Str} {k : Nat} {sp : Sp} {c : Addr} (D : DefC K mg x st ps c) (S : FnScope N ps (defScope st)) (ln : ∀ vs H Q E, sp vs H Q E → vs.length = ps.length)
    (body : ∀ (f : Addr) (A : Around) (up : List Env) (s : Shared) (H : Hp) (vs : List V) (Q : VK) (E : XK), Room k (A.deeper (envOfC x (defScope st) s.heap.objs.size f (.ref c))) → sp vs H Q E →
      ∃ t, PSs (cxOf L2.CX0 P w K mg base N x (defScope st) f (.ref c) A up s H E).nox (defBody st) t ∧ t { nx := fun _ H' => Q .non H', rt := Q } (start N vs) H) : Cal P w K mg base (k + 1) x sp := by
  obtain ⟨f, fd, hm, F, b, code⟩ := D.ex
  exact ⟨f, fd, ps, fnC_of F code S ln (body f), hm, F.kp, b⟩
theorem metC_of {C : Addr} {m qual : Str} {st : Stmt} {N ps : List Str} {k : Nat} {sp : Sp} {c : Addr} (cl : Cls K C) (D : MethC K C m qual st ps c) (S : FnScope N ps (defScope st)) (ln : ∀ vs H Q E, sp vs H Q E → vs.length = ps.length)
    (body : ∀ (f : Addr) (A : Around) (up : List Env) (s : Shared) (H : Hp) (vs : List V) (Q : VK) (E : XK), Room k (A.deeper (envOfC qual (defScope st) s.heap.objs.size f (.ref c))) → sp vs H Q E →
      ∃ t, PSs (cxOf L2.CX0 P w K mg base N qual (defScope st) f (.ref c) A up s H E).nox (defBody st) t ∧ t { nx := fun _ H' => Q .non H', rt := Q } (start N vs) H) : Met P w K mg base (k + 1) C m sp := by
  obtain ⟨f, fd, hm, F, b, code⟩ := D.ex
  exact ⟨f, fd, ps, cl, hm, fnC_of F code S ln (body f), b⟩
end
/-! ### the head, with tables -/
abbrev noCode : Obj := { cls := .none, data := .fields #[] }
/-- the tables of some code objects, all empty, none of them written down -/
structure Tbl0 (K : PySem.W.Frag) (h : Heap) (cs : List (Addr × Addr)) : Prop where
  at_ : ∀ p ∈ cs, h.get? p.2 = some noCode
  hd : ∀ p ∈ cs, PySem.W.CodeHd h p.1 p.2
  out : ∀ p ∈ cs, K.lookup p.2 = none
section
variable {P : Program} {w : World} {K : PySem.W.Frag} {mg mb : Str → Option Value}
theorem head_coreT {k : Nat} {fa a : Addr} {fd : FuncData} {x : Str} {sp : Sp} {s1 : Shared} {vs : List Value} {cs : List (Addr × Addr)} (H : Hp)
    (KX : K.In s1.heap) (hn : s1.heap.Ns mainGlobals mg) (hb : s1.heap.Ns builtinsNs mb)
    (hbb : ∀ x : Str, x ≠ "__name__" → mb x = bootBuiltins x) (lim : s1.heap.NoLimit) (hg : s1.gens = #[]) (B : Tbl0 K s1.heap cs)
    (bm : ∃ (m : Addr) (u : Obj), mg "__builtins__" = some (.ref m) ∧ m ≠ builtinsNs ∧ s1.heap.get? m = some u ∧ u.cls = .type "module" ∧ u.dict = some builtinsNs ∧ u.data = .plain)
    (ha : s1.heap.get? a = some { cls := .type "list", data := .seq vs.toArray }) (rm : Room k callerA)
    (F : ∀ base : Heap, K.In base → base.Ns mainGlobals mg → (∀ p ∈ cs, GxR.TabB base mg p.1 p.2) → FnG P w K mg base CX0 k fa fd [x] sp)
    (bi : ∀ (s : Shared) (u : Value), BindsTo s fd ⟨[u], []⟩ [(x, u)])
    (h : sp [.ref a] H (fun v _ => v = .bl true) fun _ _ _ => False)
    (on : ∀ b, H b = none ∨ (b ∈ cs.map (·.2) ∧ H b = some (.tbl #[])) ∨ ∃ o xs, H b = some (.frz o (.lst xs))) (ok : HOk P w H s1.heap)
    (tb : ∀ p ∈ cs, H p.2 = some (.tbl #[])) (hA : ∀ b, H b ≠ none → b = a ∨ b ∈ cs.map (·.2)) (hK : H a ≠ none → K.lookup a = none) :
    codeAny (model P w) callerA (.call (.ref fa) ⟨[.ref a], []⟩)
      (fun r s' => r = .ok (.ret (.bool true)) ∧ OldK s1.heap s'.heap ∧ s'.os = s1.os ∧ AllBare s'.gens) s1 := by
  have emp : ∀ {b : Addr}, b ∈ cs.map (·.2) → s1.heap.get? b = some noCode := fun {b} z => by
    obtain ⟨p, hp, e⟩ := List.mem_map.mp z
    rw [← e]; exact B.at_ p hp
  have fr : ∀ {b : Addr} {o : Obj}, s1.heap.get? b = some o → o ≠ { cls := .type "list", data := .seq vs.toArray } → o ≠ noCode → H b = none := fun {b o} e n1 n2 => by
    refine Classical.byContradiction fun z => ?_
    rcases hA b z with q | q
    · subst q
      rw [ha] at e
      exact n1 (Option.some.inj e).symm
    · rw [emp q] at e
      exact n2 (Option.some.inj e).symm
  have frD : ∀ {b : Addr} {o : Obj} {es : Array DictEntry} {ep : Nat}, s1.heap.get? b = some o → o.data = .dict es ep → H b = none := fun {b o es ep} e d => fr e (fun z => by rw [z] at d; cases d) fun z => by rw [z] at d; cases d
  have mv : ∀ {b : Addr} {m : Str → Option Value}, s1.heap.Ns b m → (hidT s1.heap H).Ns b m := fun {b m} q => by
    obtain ⟨o, es, ep, e, d, r⟩ := q
    exact ⟨o, es, ep, hidT_get e (frD e d), d, r⟩
  have kIn : K.In (hidT s1.heap H) := fun b o e => hidT_get (KX b o e) (Classical.byContradiction fun z => by
    rcases hA b z with q | q
    · subst q
      rw [hK z] at e
      cases e
    · obtain ⟨p, hp, ep⟩ := List.mem_map.mp q
      rw [← ep, B.out p hp] at e
      cases e)
  obtain ⟨mc, l1, l2⟩ := lim
  have md : Mod K mg (hidT s1.heap H) := ⟨kIn, mv hn, ⟨mb, mv hb, hbb⟩, ⟨mc, mv l1, l2⟩⟩
  have e0 : Env0 P w K mg (hidT s1.heap H) callerA [] s1 H :=
    ⟨rfl, md, fun b o e => of_hidT e, Nat.le_of_eq (hidT_size _ _), trivial,
      (fun b hb => (List.not_mem_nil (show b ∈ ([] : List Addr) from hb)).elim),
      ok, .of_eq hg⟩
  have tabs : ∀ p ∈ cs, GxR.TabB (hidT s1.heap H) mg p.1 p.2 := fun p hp => by
    have here := B.at_ p hp
    refine ⟨?_, ?_, fun z => ?_⟩
    · obtain ⟨o, us, fl, tf, gs, tg, yn, tx, tt, e1, r1, r2, r3⟩ := B.hd p hp
      refine ⟨o, us, fl, tf, gs, tg, yn, tx, tt, hidT_get e1 (fr e1 (fun z => ?_) fun z => ?_), r1, r2, r3⟩
      · rw [z] at r2; cases r2
      · rw [z] at r1; cases r1
    · obtain ⟨m, u, b1, b2, b3, b4, b5, b6⟩ := bm
      refine ⟨m, u, b1, b2, fun z => ?_, fun z => ?_, hidT_get b3 (fr b3 (fun z => ?_) fun z => ?_), b4, b5, b6⟩
      · obtain ⟨o, es, ep, e, d, _⟩ := hn
        rw [z, e] at b3
        cases b3
        rw [d] at b6; cases b6
      · rw [z, here] at b3
        cases b3; cases b4
      · rw [z] at b6; cases b6
      · rw [z] at b6; cases b6
    · obtain ⟨o, es, ep, e, d, _⟩ := hn
      rw [z, here] at e
      cases e; cases d
  refine codeAny_mono ((F _ kIn (mv hn) tabs).go callerA [] s1 H ⟨[.ref a], []⟩ [.ref a] [.ref a] _ _ rm rfl e0 (bi s1 (.ref a)) (.cons rfl .nil) h) fun r s' q => ?_
  cases r with
  | error e => exact (q : False).elim
  | ok fl =>
    cases fl with
    | next => exact (q : False).elim
    | brk => exact (q : False).elim
    | cont => exact (q : False).elim
    | ret u =>
      obtain ⟨v, H', os, bare, un, ok', rv, e⟩ := q
      have e : v = .bl true := e
      subst e
      have rv : u = Value.bool true := rv
      subst rv
      have kept : ∀ b o, b ∉ cs.map (·.2) → s1.heap.get? b = some o → s'.heap.get? b = some o := fun b o nb e => by
        rcases on b with y | ⟨y, _⟩ | ⟨ob, xs, y⟩
        · exact un.keep b o e y (fun z => nomatch (show b ∈ ([] : List Addr) from z)) (fun z => nomatch z)
        · exact absurd y nb
        · obtain ⟨g1, _⟩ := ok b _ y
          obtain ⟨g2, _⟩ := ok' b _ (un.frzs b ob _ y)
          rw [g1] at e
          cases e
          exact g2
      have grown : ∀ b, b ∈ cs.map (·.2) → ∃ more : Array Value, s'.heap.get? b = some { cls := .none, data := .fields more } := fun b hb => by
        obtain ⟨p, hp, ep⟩ := List.mem_map.mp hb
        obtain ⟨more, z⟩ := un.tbls p.2 #[] (tb p hp)
        rw [← ep]
        exact ⟨_, ok' p.2 _ z⟩
      refine ⟨rfl, ⟨fun b o e => ?_, fun b o e => ?_⟩, os, bare⟩
      · by_cases z : b ∈ cs.map (·.2)
        · obtain ⟨more, hm⟩ := grown b z
          rw [emp z] at e
          cases e
          obtain ⟨p, hp, ep⟩ := List.mem_map.mp z
          have tat := ((B.hd p hp).tab (B.at_ p hp)).isCodeTable
          rw [ep] at tat
          exact .inr (.inl ⟨tat, rfl, #[], more, rfl, by rw [Array.empty_append]; exact hm⟩)
        · exact .inl (kept b o z e)
      · by_cases z : b ∈ cs.map (·.2)
        · obtain ⟨more, hm⟩ := grown b z
          exact ⟨_, hm⟩
        · exact ⟨o, kept b o z e⟩
theorem head_callT {k : Nat} {fa a : Addr} {fd : FuncData} {x : Str} {sp : Sp} {s1 : Shared} {vs : List Value} {ns : List Int} {cs : List (Addr × Addr)}
    (KX : K.In s1.heap) (hn : s1.heap.Ns mainGlobals mg) (hb : s1.heap.Ns builtinsNs mb)
    (hbb : ∀ x : Str, x ≠ "__name__" → mb x = bootBuiltins x) (lim : s1.heap.NoLimit) (hg : s1.gens = #[]) (B : Tbl0 K s1.heap cs)
    (bm : ∃ (m : Addr) (u : Obj), mg "__builtins__" = some (.ref m) ∧ m ≠ builtinsNs ∧ s1.heap.get? m = some u ∧ u.cls = .type "module" ∧ u.dict = some builtinsNs ∧ u.data = .plain)
    (ha : s1.heap.get? a = some { cls := .type "list", data := .seq vs.toArray }) (hi : IntsAre vs ns) (hl : ns.length ≤ sizeLine) (rm : Room k callerA)
    (F : ∀ base : Heap, K.In base → base.Ns mainGlobals mg → (∀ p ∈ cs, GxR.TabB base mg p.1 p.2) → FnG P w K mg base CX0 k fa fd [x] sp)
    (bi : ∀ (s : Shared) (u : Value), BindsTo s fd ⟨[u], []⟩ [(x, u)])
    (h : ∀ H : Hp, (∀ p ∈ cs, H p.2 = some (.tbl #[])) → SqL K H a (ns.map V.int) → sp [.ref a] H (fun v _ => v = .bl true) fun _ _ _ => False) :
    codeAny (model P w) callerA (.call (.ref fa) ⟨[.ref a], []⟩)
      (fun r s' => r = .ok (.ret (.bool true)) ∧ OldK s1.heap s'.heap ∧ s'.os = s1.os ∧ AllBare s'.gens) s1 := by
  have ri := vals_ints hi
  have li := hi.length
  have emp : ∀ {b : Addr}, b ∈ cs.map (·.2) → s1.heap.get? b = some noCode := fun {b} z => by
    obtain ⟨p, hp, e⟩ := List.mem_map.mp z
    rw [← e]; exact B.at_ p hp
  have na : a ∉ cs.map (·.2) := fun z => by
    have q := emp z
    rw [ha] at q
    have q := congrArg Obj.cls (Option.some.inj q)
    cases q
  have mem : ∀ p ∈ cs, p.2 ∈ cs.map (·.2) := fun p hp => List.mem_map.mpr ⟨p, hp, rfl⟩
  by_cases hk : K.lookup a = none
  · obtain ⟨H, eH⟩ : ∃ H : Hp, H = fun b => if b = a then some (.frz { cls := .type "list", data := .seq vs.toArray } (.lst (ns.map V.int))) else if b ∈ cs.map (·.2) then some (.tbl #[]) else none := ⟨_, rfl⟩
    have at' : H a = some (.frz { cls := .type "list", data := .seq vs.toArray } (.lst (ns.map V.int))) := by rw [eH]; exact if_pos rfl
    have tt : ∀ b, b ∈ cs.map (·.2) → H b = some (.tbl #[]) := fun b z => by
      rw [eH]
      exact (if_neg (fun y : b = a => na (y ▸ z))).trans (if_pos z)
    have no : ∀ b, b ≠ a → b ∉ cs.map (·.2) → H b = none := fun b z y => by rw [eH]; exact (if_neg z).trans (if_neg y)
    refine head_coreT H KX hn hb hbb lim hg B bm ha rm F bi (h H (fun p hp => tt _ (mem p hp)) (.inl (.inr ⟨_, at'⟩))) (fun b => ?_) (fun b u q => ?_) (fun p hp => tt _ (mem p hp)) (fun b q => ?_) fun _ => hk
    · by_cases z : b = a
      · rw [z]; exact .inr (.inr ⟨_, _, at'⟩)
      · by_cases y : b ∈ cs.map (·.2)
        · exact .inr (.inl ⟨y, tt b y⟩)
        · exact .inl (no b z y)
    · by_cases z : b = a
      · subst z
        rw [at'] at q
        cases q
        exact ⟨ha, by rw [List.length_map]; exact hl, vs, _, ri, ha⟩
      · by_cases y : b ∈ cs.map (·.2)
        · rw [tt b y] at q
          cases q
          exact emp y
        · rw [no b z y] at q; cases q
    · exact Classical.byContradiction fun z => q (no b (fun y => z (.inl y)) fun y => z (.inr y))
  · obtain ⟨o, ho⟩ := Option.ne_none_iff_exists'.mp hk
    have e := KX a o ho
    rw [ha] at e
    cases e
    obtain ⟨H, eH⟩ : ∃ H : Hp, H = fun b => if b ∈ cs.map (·.2) then some (.tbl #[]) else none := ⟨_, rfl⟩
    have tt : ∀ b, b ∈ cs.map (·.2) → H b = some (.tbl #[]) := fun b z => by rw [eH]; exact if_pos z
    have no : ∀ b, b ∉ cs.map (·.2) → H b = none := fun b y => by rw [eH]; exact if_neg y
    refine head_coreT H KX hn hb hbb lim hg B bm ha rm F bi (h H (fun p hp => tt _ (mem p hp)) (.inr ⟨_, vs.toArray, _, ho, rfl, rfl, rfl, ?_, ?_⟩)) (fun b => ?_) (fun b u q => ?_) (fun p hp => tt _ (mem p hp)) (fun b q => ?_) fun q => absurd (no a na) q
    · rw [List.size_toArray, li]; exact hl
    · simpa using ri
    · by_cases y : b ∈ cs.map (·.2)
      · exact .inr (.inl ⟨y, tt b y⟩)
      · exact .inl (no b y)
    · by_cases y : b ∈ cs.map (·.2)
      · rw [tt b y] at q
        cases q
        exact emp y
      · rw [no b y] at q; cases q
    · exact Classical.byContradiction fun z => q (no b fun y => z (.inr y))
/-- a law with tables, at the head's heap -/
def LawT (pr : Program) (w : World) (K : PySem.W.Frag) (k n : Nat) (x : Str) (mg : Str → Option Value) (fa : Addr) (h : Heap) : Prop :=
  ∃ (fd : FuncData) (cs : List (Addr × Addr)) (sp : Sp), Tbl0 K h cs ∧ (∀ (s : Shared) (u : Value), BindsTo s fd ⟨[u], []⟩ [(x, u)]) ∧
    (∀ (H : Hp) (a : Addr) (ns : List Int), ns.length ≤ n → (∀ p ∈ cs, H p.2 = some (.tbl #[])) → SqL K H a (ns.map V.int) → sp [.ref a] H (fun v _ => v = .bl true) fun _ _ _ => False) ∧
    ∀ base : Heap, K.In base → base.Ns mainGlobals mg → (∀ p ∈ cs, GxR.TabB base mg p.1 p.2) → FnG pr w K mg base CX0 k fa fd [x] sp
/-- what the top says of its defs' tables -/
def TabsOf (q : Program) (K : PySem.W.Frag) (h : Heap) : Prop := ∀ (x : Str) (dr : DefRec) (c P : Addr), (recsOf q).find? (fun e => e.name == x) = some dr → PySem.W.tabIn K x = some (c, P) → PySem.W.CodeHd h c P ∧ h.get? P = some noCode
theorem walkT {l : PySem.W.OpenLaw} {n k : Nat} {q : Program} {loose : List Str} {XP : (Str → Option Value) → Heap → Prop} {YP : World → Heap → Prop}
    {d : DefRec} {K : Params → PySem.W.Frag} {x : Str}
    (hn : l.most = some n) (hz : n ≤ sizeLine) (hdf : d.params.defaults = []) (rm : Room k callerA)
    (hY : ∀ (w : World) (h : Heap), YP w h → (K w.params).In h)
    (F : ∀ (w : World) (mg : Str → Option Value) (fa : Addr) (h : Heap), (K w.params).In h → h.Ns mainGlobals mg → mg d.name = some (.ref fa) → TabsOf q (K w.params) h → LawT l.prog w (K w.params) k n x mg fa h) :
    PySem.W.WalkO q loose XP YP l.row.toRowW d [] (fun f vs => PySem.call f vs) := by
  refine Att.attach_call hn hdf ?_
  intro w s0 s1 mg mb fa o pm cd doc a vs ns G Y ho hd hcd hmg hobj hints hlen hg
  obtain ⟨fd, cs, sp, B, hb, hs, hF⟩ := F w mg fa _ (hY w _ Y) G.T.g hmg fun x dr c P e1 e2 => PySem.W.tab_of G.T (hY w _ Y) e1 e2
  exact head_callT (hY w _ Y) G.T.g G.T.b G.T.builtins G.T.nolimit hg B G.T.bmain hobj hints (Nat.le_trans hlen hz) rm hF hb fun H hH hS => hs H a ns hlen hH hS
end
end MD

namespace MD
open PySem PySem.Spec PyProof.Rows L2
/-! ### sorted of a tuple of tuples of ints -/
section
variable {prog : Program} {w : World} {A : Around} {E : Value → Shared → Prop} {s : Shared}
theorem gather_tup {t : Addr} {xs : List Value} {Q : List Value → Shared → Prop} (ht : IsTup s.heap t xs.toArray) (few : xs.length ≤ sizeLine)
    (q : Q xs { s with heap := (s.heap.push (seqObj "list" #[] 0)).update s.heap.objs.size (Obj.mapSeq (· ++ xs.toArray)) }) : wpAny (model prog w) A (collect (.ref t)) Q E s := by
  obtain ⟨ob, go, cl, ep, dt⟩ := id ht
  have few2 : (#[] ++ xs.toArray).size ≤ sizeLine + 1 := by
    simp only [Array.size_append, List.size_toArray, List.length_nil]
    omega
  have here : (s.heap.push (seqObj "list" #[] 0)).get? t = some ob := Heap.get?_push_of_some _ go
  have mine : (s.heap.push (seqObj "list" #[] 0)).get? s.heap.objs.size = some (seqObj "list" #[] 0) := Heap.get?_push_size _ rfl
  unfold collect
  refine wpAny_bind (wpAny_runValue (codeAny_builtin entry_proto_collect' ?_))
  show wpAny _ _ (newList [] >>= fun l => again (.builtin "list.__iadd__" ⟨[l, .ref t], []⟩)) _ _ s
  refine wpAny_bind (wpAny_newList (wpAny_pure ⟨Code.quiet_builtin _ (by decide +kernel), codeAny_builtin entry_list_iadd' ?_⟩))
  show wpAny _ _ (Builtin.List.listExtendWith _ (.ref t) _) _ _ { s with heap := s.heap.push (seqObj "list" #[] 0) }
  unfold Builtin.List.listExtendWith
  refine wpAny_bind (wpAny_typeOf (T := "tuple") ⟨ob, here, cl⟩ ?_)
  have yes : (Value.type "tuple" == Value.type "tuple") = true := rfl
  rw [if_pos (by rw [yes, Bool.or_true])]
  refine wpAny_bind (listItems_at here dt (wpAny_bind (listItems_at (xs := #[]) (n := 0) mine rfl ?_)))
  rw [if_neg (by simp)]
  refine wpAny_bind (listUpdate_at (xs := #[]) (n := 0) mine rfl ?_ (Nat.zero_le _) few2)
  refine wpAny_pure ?_
  show wpAny _ _ (load s.heap.objs.size >>= _) Q E _
  refine wpAny_bind (wpAny_load (get?_update_seq mine _) ?_)
  show wpAny _ _ (pure (#[] ++ xs.toArray).toList) Q E _
  have same : (#[] ++ xs.toArray).toList = xs := by simp
  rw [same]
  exact wpAny_pure q
theorem sorted_tupT {t : Addr} {xs : List Value} {d : Nat} {B : Int} {Q : Value → Shared → Prop} (ht : IsTup s.heap t xs.toArray) (h64 : xs.length < 64) (hd : 1 ≤ d) (ok : TS.TupsOk s.heap d B xs)
    (q : ∀ out : Array Value, out.toList.Perm xs → out.toList.Pairwise (fun u v => TS.code B (TS.intsOf s.heap u) ≤ TS.code B (TS.intsOf s.heap v)) → Q (.ref (s.heap.objs.size + 1)) { s with heap := sortedAll s.heap xs out }) :
    wpAny (model prog w) A (call (.builtin "sorted") [.ref t]) Q E s := by
  have few : xs.length ≤ sizeLine := by unfold sizeLine; omega
  refine Calls.call_function_entry kind_sorted plain_sorted entry_sorted (args_sorted1 _) ?_
  unfold Builtin.«sorted»
  refine wpAny_bind (m := checkCount "sorted" 1 1 _) (wpAny_pure (wpAny_bind (gather_tup ht few (wpAny_bind (wpAny_newList ?_ few)))))
  generalize eg : (s.heap.push (seqObj "list" #[] 0)).update s.heap.objs.size (Obj.mapSeq (· ++ xs.toArray)) = g
  have sz : g.objs.size = s.heap.objs.size + 1 := by rw [← eg, Heap.size_update, size_push']
  have atD : (g.push (seqObj "list" xs.toArray 0)).get? (s.heap.objs.size + 1) = some (seqObj "list" xs.toArray 0) := by rw [← sz]; exact Heap.get?_push_size _ rfl
  have old : ∀ b u, s.heap.get? b = some u → u.cls = .type "tuple" → (g.push (seqObj "list" xs.toArray 0)).get? b = some u := fun b u e _ => by
    have lt := Heap.lt_size e
    refine Heap.get?_push_of_some _ ?_
    rw [← eg, Heap.get?_update_ne _ _ _ _ (Nat.ne_of_lt lt)]
    exact Heap.get?_push_of_some _ e
  show wpAny _ _ _ _ _ { s with heap := g.push (seqObj "list" xs.toArray 0) }
  rw [sz]
  refine wpAny_bind (wpAny_holding (wpAny_call_entry slot_list_sort ⟨_, atD, rfl⟩ entry_list_sort (TS.sort_tups atD h64 hd (ok.keeps old) (fun v => TS.code B (TS.intsOf s.heap v)) (fun v hv ns y => ?_) fun out h1 h2 => ⟨_, rfl, ?_⟩) (args_list_sort _)))
  · obtain ⟨ms, y0, _⟩ := ok v hv
    have e : ns = ms := y.ints.symm.trans (y0.keeps old).ints
    show TS.code B (TS.intsOf s.heap v) = TS.code B ns
    rw [e, y0.ints]
  · refine wpAny_pure ⟨_, rfl, ?_⟩
    have fin := q out h1 h2
    unfold sortedAll at fin
    rw [eg] at fin
    exact fin
end
def kSortUT (K : PySem.W.Frag) (d : Nat) (B : Int) : List V → Hp → VK → Prop := fun vs H Q => ∃ (a : Addr) (xs : List V), vs = [V.ref a] ∧ SqT K H a xs ∧ xs.length < 64 ∧ (∀ x ∈ xs, ∃ ns, TupI K H x ns ∧ ns.length = d ∧ TS.Bd B ns) ∧
  ∀ ys : List V, ys.Perm xs → ys.Pairwise (fun x y => ∀ n m, TupI K H x n → TupI K H y m → TS.code B n ≤ TS.code B m) → New H (.lst ys) Q
theorem ksortUT {X : Cx} {K : PySem.W.Frag} {d : Nat} {B : Int} (hd : 1 ≤ d) (h : X.K = K := by rfl) : CallR X (.builtin "sorted") (kSortUT K d B) := by
  subst h
  intro pins s σ H vs us Q I r h
  obtain ⟨a, xs, rfl, hs, h64, hx, q⟩ := h
  obtain ⟨its, rv, tup, few⟩ := I.tuple hs
  rw [Vals.ref1 r]
  have refs : ∀ x ∈ xs, ∃ t, x = V.ref t := fun x m => by
    obtain ⟨ns, ⟨t, e, _⟩, _⟩ := hx x m
    exact ⟨t, e⟩
  obtain ⟨e1, e2⟩ := bkV_refs rv refs
  refine sorted_tupT (d := d) (B := B) tup (by rw [← rv.length]; exact h64) hd (fun v hv => ?_) fun out h1 h2 => ?_
  · obtain ⟨t, rfl⟩ := e2 v hv
    have m : V.ref t ∈ xs := by rw [e1]; exact List.mem_map.mpr ⟨_, hv, rfl⟩
    obtain ⟨ns, ⟨t1, e, ht⟩, hn, hb⟩ := hx _ m
    cases e
    exact ⟨ns, tupI_raw I ht, hn, hb⟩
  · obtain ⟨ep, laid⟩ := PyProof.Rows.sortedAll_at s.heap its out
    have back : ∀ u ∈ out.toList, ∃ a, u = Value.ref a := fun u hu => e2 u (h1.mem_iff.mp hu)
    have perm : (out.toList.map bkV).Perm xs := by rw [e1]; exact h1.map bkV
    have fresh : H (s.heap.objs.size + 1) = none := I.hok.fresh (Nat.le_succ _)
    have len : (out.toList.map bkV).length ≤ sizeLine := by rw [perm.length_eq]; exact few
    refine ⟨.ref _, upd H (s.heap.objs.size + 1) (.lst (out.toList.map bkV)), I.laid (t' := s.toks) (fun _ _ => PyProof.Rows.sortedAll_old) (Nat.le_succ _) ⟨len, out.toList, ep, bkV_vals back, laid⟩, rfl, (q _ perm ?_).old _ fresh⟩
    rw [List.pairwise_map]
    refine List.Pairwise.imp (fun {u v} huv n m hn hm => ?_) h2
    obtain ⟨t, et, ht⟩ := hn
    obtain ⟨t1, et1, ht1⟩ := hm
    rw [bkV_ref et, (tupI_raw I ht).ints, bkV_ref et1, (tupI_raw I ht1).ints] at huv
    exact huv
/-! ### a walk that all or any makes -/
section
variable {K : PySem.W.Frag} {isAll : Bool} {g : TG} {t : TE} {vs : List Nat} {σ : L2.St} {a : Addr} {xs : List V} {H0 : Hp} {Q : Bool → Hp → Prop}
theorem ka_tup (Pv : Nat → Hp → Prop) (h0 : Pv 0 H0) (hl : ∀ i H, Pv i H → SqT K H a xs) (hs : ∀ i x H, xs[i]? = some x → Pv i H → kItem isAll g t vs σ (Pv (i + 1)) Q x H) (hd : ∀ H, Pv xs.length H → Q isAll H) : kAW isAll g t vs σ (Itt K a) H0 Q := by
  refine ⟨fun i m H => m = xs.length - i ∧ i ≤ xs.length ∧ Pv i H, ⟨xs.length, by simp, Nat.zero_le _, h0⟩, ?_⟩
  rintro i m H ⟨rfl, hi, p⟩
  have q := hl i H p
  by_cases hlt : i < xs.length
  · refine .inr ⟨⟨xs, xs[i], q, by simp [hlt]⟩, Pv (i + 1), fun H' p' => ⟨xs.length - (i + 1), by omega, rfl, hlt, p'⟩, fun x H' y => ?_⟩
    obtain ⟨e, y⟩ := y
    subst e
    exact hs i x _ (y xs q) p
  · have e : i = xs.length := by omega
    subst e
    exact .inl ⟨⟨xs, q, Nat.le_refl _⟩, hd H p⟩
theorem ka_lst (Pv : Nat → Hp → Prop) (h0 : Pv 0 H0) (hl : ∀ i H, Pv i H → SqL K H a xs) (hs : ∀ i x H, xs[i]? = some x → Pv i H → kItem isAll g t vs σ (Pv (i + 1)) Q x H) (hd : ∀ H, Pv xs.length H → Q isAll H) : kAW isAll g t vs σ (Itl K a) H0 Q := by
  refine ⟨fun i m H => m = xs.length - i ∧ i ≤ xs.length ∧ Pv i H, ⟨xs.length, by simp, Nat.zero_le _, h0⟩, ?_⟩
  rintro i m H ⟨rfl, hi, p⟩
  have q := hl i H p
  by_cases hlt : i < xs.length
  · refine .inr ⟨⟨xs, xs[i], q, by simp [hlt]⟩, Pv (i + 1), fun H' p' => ⟨xs.length - (i + 1), by omega, rfl, hlt, p'⟩, fun x H' y => ?_⟩
    obtain ⟨e, y⟩ := y
    subst e
    exact hs i x _ (y xs q) p
  · have e : i = xs.length := by omega
    subst e
    exact .inl ⟨⟨xs, q, Nat.le_refl _⟩, hd H p⟩
end
end MD

namespace MD
open PySem PySem.Spec PyProof.Rows L2
/-! ### a tuple, a number of times -/
theorem mulT0 (l : Addr) (xs : Array Value) (n : Nat) (dd : Option Addr) (sl : Array (Option Value)) (u : Tok) (ne : xs.isEmpty = false) :
    Meets (Builtin.«tuple.__mul__» ⟨[.ref l, .int 0 u], []⟩) (fun _ R s => s.heap.get? l = some { cls := .type "tuple", dict := dd, data := .seq xs n, slots := sl } ∧
      R (.ok (.ret (Value.ref s.heap.objs.size))) { s with heap := s.heap.push { cls := Value.type "tuple", data := Data.seq #[] }, toks := s.toks }) :=
  .of_wp fun prog w A R s h => by
    obtain ⟨hp, g, d, tk, os⟩ := s
    obtain ⟨hl, h⟩ := h
    have f1 := AutoSeq1.idx_int
    have one : (xs.isEmpty || (0 : Int) == 1) = false := by rw [ne]; rfl
    wp_walk using wpAny_loadPart' hl
    repeat (first
      | (refine wpAny_ite_false (decide_eq_false (by rw [one]; exact Bool.false_ne_true)) ?_; wp_walk using wpAny_loadPart' hl)
      | (refine wpAny_ite_false (decide_eq_false (by decide)) ?_; wp_walk using wpAny_loadPart' hl)
      | (refine wpAny_ite_true (decide_eq_true (by decide)) ?_; wp_walk using wpAny_loadPart' hl))
    exact ⟨_, rfl, h⟩
theorem mulT1 (l : Addr) (xs : Array Value) (n : Nat) (dd : Option Addr) (sl : Array (Option Value)) (u : Tok) :
    Meets (Builtin.«tuple.__mul__» ⟨[.ref l, .int 1 u], []⟩) (fun _ R s => s.heap.get? l = some { cls := .type "tuple", dict := dd, data := .seq xs n, slots := sl } ∧ R (.ok (.ret (Value.ref l))) s) :=
  .of_wp fun prog w A R s h => by
    obtain ⟨hp, g, d, tk, os⟩ := s
    obtain ⟨hl, h⟩ := h
    have f1 := AutoSeq1.idx_int
    have one : (xs.isEmpty || (1 : Int) == 1) = true := by rw [Bool.or_eq_true]; exact .inr rfl
    wp_walk using wpAny_loadPart' hl
    repeat (first
      | (refine wpAny_ite_false (decide_eq_false (by decide)) ?_; wp_walk using wpAny_loadPart' hl)
      | (refine wpAny_ite_true (decide_eq_true one) ?_; wp_walk using wpAny_loadPart' hl))
    exact ⟨_, rfl, h⟩
section
variable {X : Cx}
def kRepT (K : PySem.W.Frag) : R2 := fun x y H Q => ∃ l k xs, x = .ref l ∧ y = .int k ∧ SqT K H l xs ∧ xs ≠ [] ∧ 0 ≤ k ∧ k ≤ 1000 ∧ xs.length ≤ 1000 ∧ ∀ (t : Addr) (H' : Hp), Kp [] H H' → SqT K H' t (List.replicate k.toNat xs).flatten → Q (.ref t) H'
theorem krepT {K : PySem.W.Frag} (hK : X.K = K := by rfl) : OpR X (binaryOp .Mult) (kRepT K) := by
  subst hK
  intro pins s σ H x y v u Q I rx ry h
  obtain ⟨l, k, xs, ex, ey, hT, hne, h0, h1, hz, q⟩ := h
  by_cases k2 : 2 ≤ k
  · refine op_repT pins s σ H x y v u Q I rx ry ⟨l, k, xs, ex, ey, hT, hne, k2, h1, hz, fun p hp => q p _ (Kp.new hp) (SqT.of upd_same)⟩
  subst ex
  subst ey
  obtain rfl : v = Value.ref l := rx
  obtain ⟨tk, rfl⟩ := ry
  obtain ⟨its, r, ⟨⟨cl, dd, dt, sl⟩, ho, hc, n, hd⟩, hs⟩ := I.tuple hT
  simp only at hc hd
  subst hc hd
  by_cases kz : k = 0
  · subst kz
    have ne : its.toArray.isEmpty = false := by
      cases r with
      | nil => exact absurd rfl hne
      | cons _ _ => rfl
    refine wpAny_binaryOp_repeat_ref (T := "tuple") (U := "int") (by decide) ⟨_, ho, rfl⟩ (fun s' => typeIs_int s' 0 tk) noFill_tuple_mul F.fills_int_mul F.slot_int_rmul repeat_tuple F.slot_int_index.lookup
      (call_meets F.slot_int_rmul (typeIs_int s 0 tk) F.entry_int_rmul (F.args_int_rmul_2 _ _) (int_rmul_tuple 0 tk l its.toArray n dd sl) ⟨ho, rfl, ⟨_, ho, rfl⟩, call_meets F.slot_tuple_mul ⟨_, ho, rfl⟩ F.entry_tuple_mul (F.args_tuple_mul_2 _ _) (mulT0 l its.toArray n dd sl tk ne) ⟨ho, ?_⟩⟩)
    have fresh : H s.heap.objs.size = none := I.hok.fresh (Nat.le_refl _)
    exact ⟨.ref s.heap.objs.size, _, I.laid (t' := s.toks) (o := .tup []) (fun b ob e => Heap.get?_push_of_some _ e) (Nat.le_refl _) ⟨Nat.zero_le _, [], .nil, IsTup.new _ _⟩, rfl, q _ _ (Kp.new fresh) (SqT.of upd_same)⟩
  · obtain rfl : k = 1 := by omega
    refine wpAny_binaryOp_repeat_ref (T := "tuple") (U := "int") (by decide) ⟨_, ho, rfl⟩ (fun s' => typeIs_int s' 1 tk) noFill_tuple_mul F.fills_int_mul F.slot_int_rmul repeat_tuple F.slot_int_index.lookup
      (call_meets F.slot_int_rmul (typeIs_int s 1 tk) F.entry_int_rmul (F.args_int_rmul_2 _ _) (int_rmul_tuple 1 tk l its.toArray n dd sl) ⟨ho, rfl, ⟨_, ho, rfl⟩, call_meets F.slot_tuple_mul ⟨_, ho, rfl⟩ F.entry_tuple_mul (F.args_tuple_mul_2 _ _) (mulT1 l its.toArray n dd sl tk) ⟨ho, ?_⟩⟩)
    have e : (List.replicate (1 : Int).toNat xs).flatten = xs := by
      show (xs ++ []) = xs
      rw [List.append_nil]
    exact ⟨.ref l, H, I, rfl, q l H Kp.refl (by rw [e]; exact hT)⟩
def kCatA (K : PySem.W.Frag) : R2 := fun x y H Q => ∃ a b xs ys, x = .ref a ∧ y = .ref b ∧ SqT K H a xs ∧ SqT K H b ys ∧ xs.length + ys.length ≤ sizeLine ∧ ∀ (t : Addr) (H' : Hp), Kp [] H H' → SqT K H' t (xs ++ ys) → Q (.ref t) H'
theorem kcatA {K : PySem.W.Frag} (hK : X.K = K := by rfl) : OpR X (binaryOp .Add) (kCatA K) := by
  subst hK
  intro pins s σ H x y v u Q I rx ry h
  obtain ⟨a, b, xs, ys, ex, ey, ha, hb, hz, q⟩ := h
  by_cases e : xs = []
  · subst ex ey e
    obtain rfl : v = Value.ref a := rx
    obtain rfl : u = Value.ref b := ry
    obtain ⟨its, r1, ⟨⟨cl, dd, dt, sl⟩, ho, hc, n, hd⟩, _⟩ := I.tuple ha
    obtain ⟨jts, r2, ⟨⟨cl2, dd2, dt2, sl2⟩, ho2, hc2, n2, hd2⟩, _⟩ := I.tuple hb
    cases r1
    simp only at hc hd hc2 hd2
    subst hc hd hc2 hd2
    exact concat_meets ⟨_, ho, rfl⟩ ⟨_, ho2, rfl⟩ noFill_tuple_add seq_tuple_add PySem.F.slot_tuple_add PySem.F.entry_tuple_add (PySem.F.args_tuple_add_2 _ _)
      (tuple_addW0 a b #[] jts.toArray n n2 dd dd2 sl sl2 rfl) ⟨ho, ho2, .ref b, H, I, rfl, q b H Kp.refl hb⟩
  · refine op_catT pins s σ H x y v u Q I rx ry ⟨a, b, xs, ys, ex, ey, ha, hb, e, hz, fun z => q a H Kp.refl (by rw [z, List.append_nil]; exact ha), fun _ p hp => q p _ (Kp.new hp) (SqT.of upd_same)⟩
def kSlA (K : PySem.W.Frag) : V → Option Int → Option Int → Hp → VK → Prop := fun x lo hi H Q => ∃ a xs, x = .ref a ∧ SqT K H a xs ∧ ∀ (t : Addr) (H' : Hp), Kp [] H H' → SqT K H' t (cutV xs lo hi) → Q (.ref t) H'
theorem cut_all {xs : List V} {lo hi : Option Int} (h : HT.sIx xs.length 0 lo = 0 ∧ HT.sIx xs.length xs.length hi = xs.length) : cutV xs lo hi = xs := by
  unfold cutV
  rw [h.1, h.2, Nat.sub_zero, List.drop_zero, List.take_length]
theorem kslA {K : PySem.W.Frag} (hK : X.K = K := by rfl) : SlR X (kSlA K) := by
  subst hK
  exact slrI sl_tupA fun x lo hi H Q ⟨a, xs, e, b, q⟩ => ⟨a, xs, e, b, fun z => q a H Kp.refl (by rw [cut_all z]; exact b), fun _ p hp => q p _ (Kp.new hp) (SqT.of upd_same)⟩
end
section
variable {X : Cx}
theorem op_isB : OpR X (compareOp .Is) (fun x y H Q => ∃ a b, x = .bl a ∧ y = .bl b ∧ Q (.bl (a == b)) H) := by
  intro pins s σ H x y v u Q I rx ry h
  obtain ⟨a, b, rfl, rfl, q⟩ := h
  obtain rfl : v = .bool a := rx
  obtain rfl : u = .bool b := ry
  cases a <;> cases b <;> exact wpAny_pure ⟨.bl _, H, I, rfl, q⟩
theorem op_notB : OpR X (compareOp .IsNot) (fun x y H Q => ∃ a b, x = .bl a ∧ y = .bl b ∧ Q (.bl (a != b)) H) := by
  intro pins s σ H x y v u Q I rx ry h
  obtain ⟨a, b, rfl, rfl, q⟩ := h
  obtain rfl : v = .bool a := rx
  obtain rfl : u = .bool b := ry
  cases a <;> cases b <;> exact wpAny_pure ⟨.bl _, H, I, rfl, q⟩
end
theorem GxR_triples0 : TriplesOk (#[] : Array Value).toList := by first | trivial | exact TriplesOk.nil | (show TriplesOk []; unfold TriplesOk; trivial)
end MD

namespace MD
open PySem PySem.Spec PyProof.Rows L2
/-! ### dicts whose keys are pairs of an int and a cell, and whose values are ints -/
def n3 (s k t : Int) : NestedKey := .tup [.num s, .tup [.num k, .num t]]
abbrev EntN := List (NestedKey × Addr × V)
abbrev RelN : EntN → List (NestedKey × Addr × Value) → Prop := Paired fun p q => p.1 = q.1 ∧ p.2.1 = q.2.1 ∧ RelV p.2.2 q.2.2
def atN (es : EntN) (k : NestedKey) : Option V := (es.find? fun e => decide (e.1 = k)).map (·.2.2)
def putN (es : EntN) (k : NestedKey) (b : Addr) (v : V) : EntN := if (atN es k).isSome then es.map fun e => if e.1 = k then (e.1, e.2.1, v) else e else es ++ [(k, b, v)]
theorem RelN.val {es : EntN} {xs : List (NestedKey × Addr × Value)} (r : RelN es xs) (k : NestedKey) : RelO (atN es k) ((atKey xs k).map (·.2)) := by
  induction r with
  | nil => exact True.intro
  | @cons p q ps qs h t ih =>
    obtain ⟨h1, _, h2⟩ := h
    by_cases e : p.1 = k
    · have e' : q.1 = k := h1.symm.trans e
      have a : atN (p :: ps) k = some p.2.2 := by simp [atN, List.find?_cons, e]
      have b : atKey (q :: qs) k = some q.2 := by simp [atKey, List.find?_cons, e']
      rw [a, b]; exact h2
    · have e' : ¬ q.1 = k := fun z => e (h1.trans z)
      have a : atN (p :: ps) k = atN ps k := by simp [atN, List.find?_cons, e]
      have b : atKey (q :: qs) k = atKey qs k := by simp [atKey, List.find?_cons, e']
      rw [a, b]; exact ih
theorem RelN.put {es : EntN} {xs : List (NestedKey × Addr × Value)} (r : RelN es xs) (k : NestedKey) {b : Addr} {y : V} {u : Value} (ry : RelV y u) : RelN (putN es k b y) (storedH xs k b u) := by
  have e : (atN es k).isSome = (atKey xs k).isSome := by rw [(r.val k).isSome_eq, Option.isSome_map]
  unfold putN storedH
  rw [e]
  by_cases q : (atKey xs k).isSome = true
  · rw [if_pos q, if_pos q]
    clear e q
    induction r with
    | nil => exact .nil
    | @cons p q ps qs h t ih =>
      rw [List.map_cons, List.map_cons]
      refine .cons ?_ ih
      obtain ⟨h1, h2, h3⟩ := h
      unfold putAt
      by_cases e : p.1 = k
      · rw [if_pos e, if_pos (h1.symm.trans e)]; exact ⟨h1, h2, ry⟩
      · rw [if_neg e, if_neg (fun z => e (h1.trans z))]; exact ⟨h1, h2, h3⟩
  · rw [if_neg q, if_neg q]; exact Paired.snoc r ⟨rfl, rfl, ry⟩
theorem atN_put (es : EntN) (k j : NestedKey) (b : Addr) (v : V) : atN (putN es k b v) j = if j = k then some v else atN es j := by
  unfold putN
  by_cases q : (atN es k).isSome = true
  · rw [if_pos q]
    induction es with
    | nil => cases q
    | cons p ps ih =>
      rw [List.map_cons]
      by_cases e : p.1 = k
      · rw [if_pos e]
        by_cases ej : j = k
        · subst ej; rw [if_pos rfl]; simp [atN, List.find?_cons, e]
        · rw [if_neg ej]
          have e2 : ¬ p.1 = j := fun z => ej (z.symm.trans e)
          have a : atN (p :: ps) j = atN ps j := by simp [atN, List.find?_cons, e2]
          have a2 : atN ((p.1, p.2.1, v) :: ps.map fun e => if e.1 = k then (e.1, e.2.1, v) else e) j = atN (ps.map fun e => if e.1 = k then (e.1, e.2.1, v) else e) j := by simp [atN, List.find?_cons, e2]
          rw [a, a2]
          by_cases q2 : (atN ps k).isSome = true
          · rw [ih q2, if_neg ej]
          · have no : ∀ x ∈ ps, ¬ x.1 = k := fun x hx z => q2 (by
              unfold atN
              rw [Option.isSome_map, List.find?_isSome]
              exact ⟨x, hx, decide_eq_true z⟩)
            have same : ps.map (fun e => if e.1 = k then (e.1, e.2.1, v) else e) = ps := by
              conv => rhs; rw [← List.map_id ps]
              exact List.map_congr_left fun x hx => if_neg (no x hx)
            rw [same]
      · rw [if_neg e]
        have a : atN (p :: ps) k = atN ps k := by simp [atN, List.find?_cons, e]
        rw [a] at q
        have i := ih q
        by_cases ej : p.1 = j
        · have ne : ¬ j = k := fun z => e (ej.trans z)
          rw [if_neg ne]
          simp [atN, List.find?_cons, ej]
        · have a1 : ∀ l : EntN, atN (p :: l) j = atN l j := fun l => by simp [atN, List.find?_cons, ej]
          rw [a1, a1, i]
  · rw [if_neg q]
    have no : atN es k = none := by simpa using q
    unfold atN at no ⊢
    rw [List.find?_append]
    by_cases ej : j = k
    · subst ej
      rw [if_pos rfl]
      have : es.find? (fun e => decide (e.1 = j)) = none := by simpa using no
      rw [this]
      simp
    · rw [if_neg ej]
      have e2 : ([(k, b, v)] : EntN).find? (fun e => decide (e.1 = j)) = none := by simp [show ¬ k = j from fun z => ej z.symm]
      rw [e2, Option.or_none]
theorem putN_len (es : EntN) (k : NestedKey) (b : Addr) (v : V) : (putN es k b v).length ≤ es.length + 1 := by
  unfold putN
  split
  · rw [List.length_map]; omega
  · rw [List.length_append]; exact Nat.le_refl _
theorem putN_mem {es : EntN} {k : NestedKey} {b : Addr} {v : V} {p} (h : p ∈ putN es k b v) : (∃ q ∈ es, p.1 = q.1 ∧ p.2.1 = q.2.1) ∨ (p.1 = k ∧ p.2.1 = b) := by
  unfold putN at h
  split at h
  · obtain ⟨q, hq, e⟩ := List.mem_map.mp h
    left
    refine ⟨q, hq, ?_⟩
    split at e <;> subst e <;> exact ⟨rfl, rfl⟩
  · rcases List.mem_append.mp h with h | h
    · exact .inl ⟨p, h, rfl, rfl⟩
    · rw [List.mem_singleton.mp h]; exact .inr ⟨rfl, rfl⟩
def phiN (P : Program) (w : World) (a : Addr) (es : EntN) (h : Heap) : Prop := es.length ≤ sizeLine ∧ (a == sysModules) = false ∧ ∃ xs, RelN es xs ∧ ∃ o rows ep, h.get? a = some o ∧ o.ExactDict ∧ o.data = .dict rows ep ∧ rows.toList = xs.map (entryOfKey (nestedKind P w)) ∧ (xs.map (·.1)).Nodup
def dN (P : Program) (w : World) (a : Addr) (es : EntN) : HO := .ext (phiN P w a es)
/-- the key (s, (k, t)) stands at b -/
def KyN (H : Hp) (s k t : Int) (b : Addr) : Prop := ∃ c, H b = some (.tup [.int s, .ref c]) ∧ H c = some (.tup [.int k, .int t])
theorem KyN.kp {M : List Addr} {H H' : Hp} {s k t : Int} {b : Addr} (h : KyN H s k t b) (q : Kp M H H') : KyN H' s k t b := let ⟨c, h1, h2⟩ := h; ⟨c, q.tup _ _ h1, q.tup _ _ h2⟩
def KysN (H : Hp) (es : EntN) : Prop := ∀ p ∈ es, ∃ s k t, p.1 = n3 s k t ∧ KyN H s k t p.2.1
theorem n3_inj {s k t a b c : Int} (h : n3 s k t = n3 a b c) : s = a ∧ k = b ∧ t = c := by
  unfold n3 at h
  injection h with h
  injection h with h1 h
  injection h with h2 _
  injection h2 with h2
  injection h2 with h3 h4
  injection h4 with h5 _
  injection h1 with h1
  injection h3 with h3
  injection h5 with h5
  exact ⟨h1, h3, h5⟩
theorem phiN_ok {P : Program} {w : World} {H : Hp} {h : Heap} {a : Addr} {es : EntN} (p : phiN P w a es h) : ObjOk P w H h a (dN P w a es) := by
  refine ⟨p, ?_, ?_⟩
  · obtain ⟨_, _, _, _, o, _, _, e, _⟩ := p
    exact ⟨o, e⟩
  · rintro h1 h2 ⟨z, ns, xs, r, o, rows, ep, e, q⟩ st
    exact ⟨z, ns, xs, r, o, rows, ep, st o e, q⟩
theorem keyN_is {P : Program} {w : World} {H : Hp} {h : Heap} (ok : HOk P w H h) {s k t : Int} {b : Addr} (e : KyN H s k t b) : (nestedKind P w).is h (n3 s k t) b := by
  obtain ⟨c, h1, h2⟩ := e
  obtain ⟨_, its, r, o, g1, g2, n, g3⟩ := (show ObjOk P w H h b (.tup [.int s, .ref c]) from ok b _ h1)
  obtain ⟨_, jts, r2, o2, j1, j2, n2, j3⟩ := (show ObjOk P w H h c (.tup [.int k, .int t]) from ok c _ h2)
  refine ⟨.tup g1 g2 g3 ?_, by first | exact (by decide) | exact (show (2 : Nat) ≤ 8 by decide)⟩
  cases r with
  | cons r1 r =>
    obtain ⟨t1, rfl⟩ := r1
    cases r with
    | cons r1 r =>
      obtain rfl := r1
      cases r
      refine .cons (.int _ _) (.cons (.tup j1 j2 j3 ?_) .nil)
      cases r2 with
      | cons q1 r2 =>
        obtain ⟨t2, rfl⟩ := q1
        cases r2 with
        | cons q2 r2 =>
          obtain ⟨t3, rfl⟩ := q2
          cases r2
          exact .cons (.int _ _) (.cons (.int _ _) .nil)
theorem dn_of {P : Program} {w : World} {H : Hp} {h : Heap} {a : Addr} {es : EntN} (ok : HOk P w H h) (e : H a = some (dN P w a es)) (ky : KysN H es) :
    es.length ≤ sizeLine ∧ (a == sysModules) = false ∧ ∃ xs, RelN es xs ∧ h.DictOfH (nestedKind P w) a xs := by
  obtain ⟨⟨z, ns, xs, r, o, rows, ep, h1, h2, h3, h4, h5⟩, _⟩ := (show ObjOk P w H h a (.ext (phiN P w a es)) from ok a _ e)
  refine ⟨z, ns, xs, r, o, rows, ep, h1, h2, h3, h4, fun x hx => ?_, h5⟩
  have all : ∀ {l : EntN} {m : List (NestedKey × Addr × Value)}, RelN l m → KysN H l → ∀ x ∈ m, (nestedKind P w).is h x.1 x.2.1 := by
    intro l m q
    induction q with
    | nil => intro _ x hx; exact nomatch hx
    | @cons p q ps qs hq t ih =>
      intro ky x hx
      rcases List.mem_cons.mp hx with e | hx
      · subst e
        obtain ⟨s, k, t, e1, e2⟩ := ky p List.mem_cons_self
        rw [← hq.1, ← hq.2.1, e1]
        exact keyN_is ok e2
      · exact ih (fun y hy => ky y (List.mem_cons_of_mem _ hy)) x hx
  exact all r ky x hx
/-- at a stands a dict that holds f: at most m keys, those left out have 0 -/
def Hd (P : Program) (w : World) (H : Hp) (a : Addr) (f : Int → Int → Int → Int) (m : Nat) : Prop :=
  ∃ es : EntN, H a = some (dN P w a es) ∧ KysN H es ∧ (∀ s k t, (atN es (n3 s k t)).getD (.int 0) = .int (f s k t)) ∧ es.length ≤ m
theorem Hd.kp {P : Program} {w : World} {M : List Addr} {H H' : Hp} {a : Addr} {f : Int → Int → Int → Int} {m : Nat} (h : Hd P w H a f m) (k : Kp M H H') (n : a ∉ M) : Hd P w H' a f m := by
  obtain ⟨es, e, ky, v, l⟩ := h
  exact ⟨es, k.at e n, fun p hp => let ⟨s, i, j, e1, e2⟩ := ky p hp; ⟨s, i, j, e1, e2.kp k⟩, v, l⟩
theorem Hd.obj {P : Program} {w : World} {H : Hp} {a : Addr} {f : Int → Int → Int → Int} {m : Nat} (h : Hd P w H a f m) : ∃ ph, H a = some (.ext ph) := let ⟨_, e, _⟩ := h; ⟨_, e⟩
theorem Hd.mono {P : Program} {w : World} {H : Hp} {a : Addr} {f : Int → Int → Int → Int} {m m' : Nat} (h : Hd P w H a f m) (l : m ≤ m') : Hd P w H a f m' := let ⟨es, a, b, c, d⟩ := h; ⟨es, a, b, c, Nat.le_trans d l⟩
theorem Hd.ext {P : Program} {w : World} {H : Hp} {a : Addr} {f g : Int → Int → Int → Int} {m : Nat} (h : Hd P w H a f m) (e : ∀ s k t, f s k t = g s k t) : Hd P w H a g m := let ⟨es, a, b, c, d⟩ := h; ⟨es, a, b, fun s k t => by rw [c, e], d⟩
def set3 (f : Int → Int → Int → Int) (s k t v : Int) : Int → Int → Int → Int := fun a b c => if a = s ∧ b = k ∧ c = t then v else f a b c
section
variable {X : Cx} {pins : List (Addr × Obj)} {σ : L2.St} {H : Hp} {s : Shared} {a b : Addr} {f : Int → Int → Int → Int} {m : Nat} {i k t : Int} {A : Around} {E : Value → Shared → Prop}
theorem hd_at (I : Inv X pins σ H s) (h : Hd X.prog X.w H a f m) : s.TypeIs (.ref a) "dict" ∧ (∀ b, Value.ref a = .ref b → ∃ ob, s.heap.get? b = some ob ∧ ob.dict = none) ∧ (a == sysModules) = false := by
  obtain ⟨es, e, ky, _, _⟩ := h
  obtain ⟨_, ns, xs, _, dd⟩ := dn_of I.hok e ky
  refine ⟨dd.typeIs, fun b q => ?_, ns⟩
  cases q
  obtain ⟨ob, _, _, h1, h2, _⟩ := dd
  exact ⟨ob, h1, h2.2.1⟩
theorem hd_get2 {Q : Value → Shared → Prop} {r : Value} (hu : A.units + 9 < cLine) (I : Inv X pins σ H s) (h : Hd X.prog X.w H a f m) (kb : KyN H i k t b) (rd : RelV (.int 0) r) (q : ∀ w' s', Inv X pins σ H s' → RelV (.int (f i k t)) w' → Q w' s') :
    wpAny (model X.prog X.w) A (call (.builtin "dict.get") [.ref a, .ref b, r]) Q E s := by
  obtain ⟨es, e, ky, v, _⟩ := h
  obtain ⟨_, ns, xs, rel, dd⟩ := dn_of I.hok e ky
  refine call_meetsIn PySem.F.slot_dict_get dd.typeIs PySem.F.entry_dict_get (PySem.F.args_dict_get_3 _ _ _) (meetsH_dict_get_default (nestedKind X.prog X.w) a b ns r) ⟨(show A.in1.units + 8 < cLine from by
    have : A.in1.units = A.units + 1 := rfl
    omega), n3 i k t, xs, keyN_is I.hok kb, dd, q _ _ (I.tok _) ?_⟩
  rw [← v i k t]
  exact (rel.val _).getD rd
theorem hd_get {Q : Value → Shared → Prop} (hu : A.units + 9 < cLine) (I : Inv X pins σ H s) (h : Hd X.prog X.w H a f m) (kb : KyN H i k t b) (nz : f i k t ≠ 0) (q : ∀ w' s', Inv X pins σ H s' → RelV (.int (f i k t)) w' → Q w' s') :
    wpAny (model X.prog X.w) A (getItem (.ref a) (.ref b)) Q E s := by
  obtain ⟨es, e, ky, v, _⟩ := h
  obtain ⟨_, ns, xs, rel, dd⟩ := dn_of I.hok e ky
  have vv := v i k t
  cases c : atN es (n3 i k t) with
  | none =>
    rw [c] at vv
    exact absurd (by injection vv with z; exact z.symm) nz
  | some y =>
    rw [c] at vv
    obtain rfl : y = .int (f i k t) := vv
    obtain ⟨w', hw, rw'⟩ := RelO.some_of (v := .int (f i k t)) (o := (atKey xs (n3 i k t)).map (·.2)) (by rw [← c]; exact rel.val _)
    obtain ⟨p, hp, hp2⟩ := Option.map_eq_some_iff.mp hw
    refine wpAny_getItem_heap (knd := nestedKind X.prog X.w) (show A.in1.units + 8 < cLine from by
      have : A.in1.units = A.units + 1 := rfl
      omega) (keyN_is I.hok kb) dd hp ?_
    rw [hp2]
    exact q w' _ (I.tok _) rw'
theorem hd_set {Q : Unit → Shared → Prop} {r : Value} {v : Int} (hu : A.units + 9 < cLine) (I : Inv X pins σ H s) (h : Hd X.prog X.w H a f m) (kb : KyN H i k t b) (hm : m < sizeLine) (rv : RelV (.int v) r)
    (q : ∀ H' s', Kp [a] H H' → Hd X.prog X.w H' a (set3 f i k t v) (m + 1) → Inv X pins σ H' s' → Q () s') : wpAny (model X.prog X.w) A (setItem (.ref a) (.ref b) r) Q E s := by
  obtain ⟨es, e, ky, vv, l⟩ := h
  obtain ⟨_, ns, xs, rel, dd⟩ := dn_of I.hok e ky
  have hz : xs.length ≤ sizeLine := by rw [← Paired.length rel]; omega
  have hl : (putN es (n3 i k t) b (.int v)).length ≤ m + 1 := Nat.le_trans (putN_len es _ b _) (by omega)
  refine wpAny_setItem_heap (knd := nestedKind X.prog X.w) (hsz := hz) (show A.in1.units + 8 < cLine from by
    have : A.in1.units = A.units + 1 := rfl
    omega) (keyN_is I.hok kb) dd fun h' dd' hs => ?_
  obtain ⟨o, rows, ep, hq, h2, h3, h4, _, h5⟩ := dd'
  have new : phiN X.prog X.w a (putN es (n3 i k t) b (.int v)) h' := ⟨by omega, ns, _, rel.put _ rv, o, rows, ep, hq, h2, h3, h4, h5⟩
  refine q _ _ (Kp.old e trivial List.mem_cons_self) ⟨_, upd_same, fun p hp => ?_, fun s' k' t' => ?_, hl⟩ (d_write I (by rw [e]; exact True.intro) hs ⟨o, hq⟩ (phiN_ok new))
  · have up : ∀ {x y z : Int} {c : Addr}, KyN H x y z c → KyN (upd H a (dN X.prog X.w a (putN es (n3 i k t) b (.int v)))) x y z c := fun {x y z c} g => g.kp (M := [a]) (Kp.old e trivial List.mem_cons_self)
    rcases putN_mem hp with ⟨q, hq, e1, e2⟩ | ⟨e1, e2⟩
    · obtain ⟨x, y, z, g1, g2⟩ := ky q hq
      exact ⟨x, y, z, e1.trans g1, by rw [e2]; exact up g2⟩
    · exact ⟨i, k, t, e1, by rw [e2]; exact up kb⟩
  · rw [atN_put]
    unfold set3
    by_cases z : s' = i ∧ k' = k ∧ t' = t
    · obtain ⟨rfl, rfl, rfl⟩ := z
      rw [if_pos rfl, if_pos ⟨rfl, rfl, rfl⟩]; rfl
    · rw [if_neg (fun y => z (n3_inj y)), if_neg z]
      exact vv _ _ _
end
def kNewN (P : Program) (w : World) : TE := fun _ H Q => ∀ p H2, H p = none → Kp [] H H2 → Hd P w H2 p (fun _ _ _ => 0) 0 → Q (.ref p) H2
def kNGet2 (P : Program) (w : World) (td ty : TE) : TE := fun σ H Q => td σ H fun x H1 => ∃ a f m, x = .ref a ∧ Hd P w H1 a f m ∧ ty σ H1 fun y H2 => ∃ b i k t g m', y = .ref b ∧ Hd P w H2 a g m' ∧ KyN H2 i k t b ∧ Q (.int (g i k t)) H2
def kNGet (P : Program) (w : World) (td ty : TE) : TE := fun σ H Q => td σ H fun x H1 => ty σ H1 fun y H2 => ∃ a b f m i k t, x = .ref a ∧ y = .ref b ∧ Hd P w H2 a f m ∧ KyN H2 i k t b ∧ f i k t ≠ 0 ∧ Q (.int (f i k t)) H2
def kNPut (P : Program) (w : World) (td ty tv : TE) : TS := fun D σ H => tv σ H fun v H1 => td σ H1 fun x H2 => ty σ H2 fun y H3 => ∃ a b f m i k t n, x = .ref a ∧ y = .ref b ∧ v = .int n ∧ Hd P w H3 a f m ∧ KyN H3 i k t b ∧ m < sizeLine ∧
  ∀ H4, Kp [a] H3 H4 → Hd P w H4 a (set3 f i k t n) (m + 1) → D.nx σ H4
section
variable {X : Cx} {P : Program} {w : World} {o i value : Expr} {pos pos' apos cpos : Pos} {td ty tv : TE}
theorem ke_dnewN (hP : X.prog = P := by rfl) (hw : X.w = w := by rfl) : PE X (.Dict [] [] pos) (kNewN P w) := by
  subst hP hw
  refine ⟨fun pins s σ H Q I h => ?_⟩
  have emp : ∀ H', ObjOk X.prog X.w H' (s.heap.push { cls := .type "dict", data := .dict #[] }) s.heap.objs.size (dN X.prog X.w s.heap.objs.size []) := fun H' => phiN_ok
    ⟨Nat.zero_le _, beq_eq_false_iff_ne.mpr (Ne.symm (Nat.ne_of_lt I.big)), [], .nil, _, #[], 0, Heap.get?_push_size _ rfl, ⟨rfl, rfl, rfl⟩, rfl, rfl, List.nodup_nil⟩
  have fr : H s.heap.objs.size = none := I.hok.fresh (Nat.le_refl _)
  exact wpAny_Dict_empty ⟨.ref s.heap.objs.size, _, I.laid (a := s.heap.objs.size) (o := dN X.prog X.w s.heap.objs.size []) (t' := s.toks) (fun _ _ q => Heap.get?_push_of_some _ q) (Nat.le_refl _) (emp _), rfl,
    h _ _ fr (Kp.new fr) ⟨[], upd_same, (fun p hp => nomatch hp), (fun _ _ _ => rfl), Nat.le_refl _⟩⟩
theorem pe_nget2 {e z : Expr} (hz : PE X z (tC (.int 0))) (hu : X.A.units + 9 < cLine) (ho : PE X o td) (he : PE X e ty) (m : M2 X o "get" apos e z cpos) (hP : X.prog = P := by rfl) (hw : X.w = w := by rfl) : PE X (.Call (.Attribute o "get" apos) [e, z] [] cpos) (kNGet2 P w td ty) := by
  subst hP hw
  refine ⟨fun pins s σ H Q I h => ?_⟩
  refine wpAny_Call_method m.base m.few m.line PySem.F.plainAttrs_dict PySem.F.slot_dict_get PySem.F.type_dict_get (thn (ho.run pins s σ H _ I h) fun u s1 ⟨x, H1, I1, rx, a, f, n, ex, hd, q1⟩ => ?_)
  subst ex
  obtain rfl : u = Value.ref a := rx
  obtain ⟨t1, t2, _⟩ := hd_at I1 hd
  refine ⟨t1, t2, ?_⟩
  rw [m.trees]
  refine Calls.callWith_builtin rfl (Calls.evalArgs_plain (Calls.spliced_cons (thn (he.run pins s1 σ H1 _ I1 q1) fun iv s2 ⟨y, H2, I2, ry, b, i, k, t, g, n', ey, hd2, ky, q2⟩ =>
    Calls.spliced_cons (thn (hz.run pins s2 σ H2 (fun v H3 => v = .int 0 ∧ H3 = H2) I2 ⟨rfl, rfl⟩) fun fv s3 ⟨z, H3, I3, rz, ez, eH⟩ => Calls.spliced_nil ?_))))
  subst ey ez eH
  obtain rfl : iv = Value.ref b := ry
  exact hd_get2 hu I3 hd2 ky rz fun w' s4 I4 rw' => ⟨_, _, I4, rw', q2⟩
theorem pe_nget (hu : X.A.units + 9 < cLine) (ho : PE X o td) (hi : PE X i ty) (hs : NoSl i) (hP : X.prog = P := by rfl) (hw : X.w = w := by rfl) : PE X (.Subscript o i pos) (kNGet P w td ty) := by
  subst hP hw
  refine ⟨fun pins s σ H Q I h => ?_⟩
  refine subD_of PySem.F.slot_dict_getitem.lookup hs (thn (ho.run pins s σ H _ I h) fun u s1 ⟨x, H1, I1, rx, q1⟩ => thn (hi.run pins s1 σ H1 _ I1 q1) fun iv s2 ⟨y, H2, I2, ry, a, b, f, m, i, k, t, ex, ey, hd, ky, nz, q2⟩ => ?_)
  subst ex ey
  obtain rfl : u = Value.ref a := rx
  obtain rfl : iv = Value.ref b := ry
  exact ⟨(hd_at I2 hd).1, hd_get hu I2 hd ky nz fun w' s3 I3 rw' => ⟨_, H2, I3, rw', q2⟩⟩
theorem ks_nput (hu : X.A.units + 9 < cLine) (ho : PE X o td) (hi : PE X i ty) (hv : PE X value tv) (hs : swapsWith value (some (.Subscript o i pos')) pos.line X.env = pure false) (hP : X.prog = P := by rfl) (hw : X.w = w := by rfl) :
    PS X (.Assign [.Subscript o i pos'] value pos) (kNPut P w td ty tv) := by
  subst hP hw
  refine ⟨fun pins s σ H D I h => ?_⟩
  refine wpAny_Assign_Subscript (thn (hv.run pins s σ H _ I h) fun r s1 ⟨v, H1, I1, rv, q1⟩ => thn (ho.run pins s1 σ H1 _ I1 q1) fun u s2 ⟨x, H2, I2, rx, q2⟩ => thn (hi.run pins s2 σ H2 _ I2 q2) fun iv s3 ⟨y, H3, I3, ry, a, b, f, m, i, k, t, n, ex, ey, ev, hd, ky, hm, q3⟩ => ?_) hs
  subst ex ey ev
  obtain rfl : u = Value.ref a := rx
  obtain rfl : iv = Value.ref b := ry
  exact hd_set hu I3 hd ky hm rv fun H4 s4 k4 hd4 I4 => ⟨σ, H4, I4, q3 H4 k4 hd4⟩
end
end MD

namespace MD
open PySem PySem.Spec PyProof.Rows L2
/-! ### dicts with int and text keys: displays, entries -/
theorem tPairs_m {σ : L2.St} : ∀ {trs : List (TE × TE)} {H : Hp} {R R' : List (V × V) → Hp → Prop}, tPairs trs σ H R → (∀ ps H, R ps H → R' ps H) → tPairs (trs.map fun t => (mE t.1, mE t.2)) σ H R'
  | [], H, R, R', h, m => m _ _ h
  | (tk, tv) :: r, H, R, R', h, m => ⟨_, h, fun x H1 h1 => ⟨_, h1, fun y H2 h2 => tPairs_m h2 fun ps H3 h3 => m _ _ h3⟩⟩
def kDisp (trs : List (TE × TE)) : TE := fun σ H Q => ∀ p H1, H p = none → Kp [] H H1 → H1 p = some (.dK []) → tPairs trs σ H1 fun ps H2 => H2 p = some (.dK []) ∧ ∃ kvs : List (Key × V), ps = kvs.map (fun kv => (kV kv.1, kv.2)) ∧ kvs.length ≤ 15 ∧ Wr H2 p (.dK (mergeK [] kvs)) (Q (.ref p))
inductive PPm (X : Cx) (pos : Pos) : List (Option Expr) → List Expr → List (TE × TE) → Prop
  | nil : PPm X pos [] [] []
  | cons {k v : Expr} {ks vs tk tv trs} (hk : PE X k tk) (hv : PE X v tv) (hr : PPm X pos ks vs trs) : PPm X pos (some k :: ks) (v :: vs) ((tk, tv) :: trs)
theorem PPm.m {X : Cx} {pos : Pos} {ks : List (Option Expr)} {vs : List Expr} {trs : List (TE × TE)} (h : PPm X pos ks vs trs) : PPs X pos ks vs (trs.map fun t => (mE t.1, mE t.2)) := by
  induction h with
  | nil => exact pps_nil
  | cons hk hv _ ih => exact pps_cons (peM hk) (peM hv) ih
theorem ke_disp {X : Cx} {pos : Pos} {keys : List (Option Expr)} {values : List Expr} {trs : List (TE × TE)} (h : PPm X pos keys values trs) (hall : keys.all (·.isSome) = true := by rfl) (hl : keys.length = values.length := by rfl) (h0 : keys ≠ [] := by (intro z; cases z))
    (h15 : keys.length ≤ 15 := by decide) : PE X (.Dict keys values pos) (kDisp trs) :=
  peI (pe_disp h.m hall hl h0 h15) fun σ H Q q p hp => tPairs_m (q p _ hp (Kp.new hp) upd_same) fun ps H2 ⟨e, kvs, e1, e2, w⟩ => ⟨e, kvs, e1, e2, w.old e trivial⟩
def kDPutK (td ty tv : TE) : TS := fun D σ H => tv σ H fun v H1 => td σ H1 fun x H2 => ty σ H2 fun y H3 => ∃ a kvs k, x = .ref a ∧ y = kV k ∧ H3 a = some (.dK kvs) ∧ kvs.length < sizeLine ∧ Wr H3 a (.dK (putK kvs k v)) (D.nx σ)
theorem ks_dputK {X : Cx} {o i value : Expr} {pos pos' : Pos} {td ty tv : TE} (hu : X.A.units + 1 < cLine) (ho : PE X o td) (hi : PE X i ty) (hv : PE X value tv) (hs : swapsWith value (some (.Subscript o i pos')) pos.line X.env = pure false) :
    PS X (.Assign [.Subscript o i pos'] value pos) (kDPutK td ty tv) :=
  psI (ps_dput hu (peM ho) (peM hi) (peM hv) hs) fun D σ H q => ⟨_, q, fun v H1 q => ⟨_, q, fun x H2 q => ⟨_, q, fun y H3 ⟨a, kvs, k, h1, h2, h3, h5, q⟩ => ⟨a, _, h1, .inl ⟨kvs, k, h3, h2, h5, rfl⟩, q.old h3 trivial⟩⟩⟩⟩
/-! ### a call of a def that may raise, where it does not -/
theorem passN {X : Cx} (σ : L2.St) : PassesAt (L2.CX X.prog X.w) X σ (fun _ _ _ => False) := fun _ _ _ _ _ _ ⟨_, _, _, _, _, _, _, _, _, _, _, _, h⟩ => h.elim
/-! ### tests, by what is known of their answers -/
theorem ptM {X : Cx} {e : Expr} {t : TT} (h : PT X e t) : PT X e (mT t) := ⟨fun pins s σ H Q I ⟨R, h1, h2⟩ => thn (h.run pins s σ H R I h1) fun _ _ ⟨H', J, q⟩ => ⟨H', J, h2 _ _ q⟩⟩
/-! ### truth -/
theorem pt_truthK {X : Cx} {K : PySem.W.Frag} {a : Expr} {ta : TE} (ha : PE X a ta) (he : ∀ whole, isTrue a X.env whole = (do let v ← whole; standAt a.pos; holding [v] (truthy v)) := by intro _; rfl) (hK : X.K = K := by rfl) :
    PT X a (fun σ H Q => ta σ H fun x H' => ∃ k, TruV K x H' k ∧ Q k H') := by subst hK; exact pt_truth ha he
/-! ### zip -/
def kZipA (K : PySem.W.Frag) (ta : TA) : TI := RZ.iZipA K ta
theorem pi_zipK {X : Cx} {K : PySem.W.Frag} {e e2 : Expr} {ta : TA} {p pos tpos : Pos} {elts : List Expr} {kk : Nat} (hg : Gl X "zip") (hm : X.mg "zip" = none) (ha : PA X [e, e2] ta)
    (hs : starEach [e, e2] X.env = (false, eval e X.env) :: starEach [e2] X.env := by rfl) (hpl : (backTo pos (starEach [e2] X.env)).any (·.1) = false := by rfl) (hK : X.K = K := by rfl) :
    PI X (.Tuple elts kk tpos) (.Call (.Name "zip" p) [e, e2] [] pos) (RZ.iZipA K ta) := by subst hK; exact RZ.pi_zipA hg hm ha hs hpl
theorem for_zipK {K : PySem.W.Frag} {a b : Addr} {xs ys : List V} {g : TG} {tb : TS} {D : Ends} {σ : L2.St} {H : Hp} (hl : xs.length = ys.length) (Pv : Nat → L2.St → Hp → Prop) (h0 : Pv 0 σ H) (hq : ∀ i σ H, Pv i σ H → SqT K H a xs ∧ SqT K H b ys)
    (hs : ∀ (i : Nat) (x y : V) (T : Addr) (σ : L2.St) (H H1 : Hp), xs[i]? = some x → ys[i]? = some y → Pv i σ H → H T = none → Kp [] H H1 → H1 T = some (.tup [x, y]) → g (.ref T) σ H1 fun σ2 H2 => tb { D with nx := Pv (i + 1), ct := Pv (i + 1), bk := D.nx } σ2 H2) (hd : ∀ σ H, Pv xs.length σ H → D.nx σ H) :
    ∃ W : Nat → Nat → L2.St → Hp → Prop, (∃ m, W 0 m σ H) ∧ ∀ i m σ H, W i m σ H →
      ((RZ.ItzT K a b).stop i H ∧ D.nx σ H) ∨ ((RZ.ItzT K a b).go i H ∧ ∃ N : L2.St → Hp → Prop, (∀ σ' H', N σ' H' → ∃ m', m' < m ∧ W (i + 1) m' σ' H') ∧ ∀ v H', (RZ.ItzT K a b).yld i H v H' → g v σ H' fun σ2 H2 => tb { D with nx := N, ct := N, bk := D.nx } σ2 H2) :=
  RZ.for_zipT hl Pv h0 hq (fun i x y T σ H hx hy p hT => hs i x y T σ H _ hx hy p hT (Kp.new hT) upd_same) hd
theorem ka_tup2 {K : PySem.W.Frag} {a : Addr} {xs : List V} {isAll : Bool} {g : TG} {t : TE} {vs : List Nat} {σ : L2.St} {H0 : Hp} {Q : Bool → Hp → Prop} (spec : Bool → Hp → Prop) (Pv : Nat → Hp → Prop) (h0 : Pv 0 H0) (hl : ∀ i H, Pv i H → SqT K H a xs)
    (hs : ∀ i x H, xs[i]? = some x → Pv i H → ∀ R : Bool → Hp → Prop, (∀ b H', spec b H' → R b H') → kItem isAll g t vs σ (Pv (i + 1)) R x H) (hd : ∀ H, Pv xs.length H → spec isAll H) (fin : ∀ b H', spec b H' → Q b H') : kAW isAll g t vs σ (Itt K a) H0 Q :=
  ka_tup Pv h0 hl (fun i x H hx p => hs i x H hx p Q fin) (fun H p => fin _ _ (hd H p))
theorem ka_lst2 {K : PySem.W.Frag} {a : Addr} {xs : List V} {isAll : Bool} {g : TG} {t : TE} {vs : List Nat} {σ : L2.St} {H0 : Hp} {Q : Bool → Hp → Prop} (spec : Bool → Hp → Prop) (Pv : Nat → Hp → Prop) (h0 : Pv 0 H0) (hl : ∀ i H, Pv i H → SqL K H a xs)
    (hs : ∀ i x H, xs[i]? = some x → Pv i H → ∀ R : Bool → Hp → Prop, (∀ b H', spec b H' → R b H') → kItem isAll g t vs σ (Pv (i + 1)) R x H) (hd : ∀ H, Pv xs.length H → spec isAll H) (fin : ∀ b H', spec b H' → Q b H') : kAW isAll g t vs σ (Itl K a) H0 Q :=
  ka_lst Pv h0 hl (fun i x H hx p => hs i x H hx p Q fin) (fun H p => fin _ _ (hd H p))
/-! ### the head, with tables of methods too -/
theorem walkTM {l : PySem.W.OpenLaw} {n k : Nat} {q : Program} {loose : List Str} {XP : (Str → Option Value) → Heap → Prop} {YP : World → Heap → Prop}
    {d : DefRec} {K : Params → PySem.W.Frag} {x : Str} {ts : List Addr}
    (hn : l.most = some n) (hz : n ≤ sizeLine) (hdf : d.params.defaults = []) (rm : Room k callerA)
    (hY : ∀ (w : World) (h : Heap), YP w h → (K w.params).In h ∧ ∀ P ∈ ts, h.get? P = some noCode)
    (F : ∀ (w : World) (mg : Str → Option Value) (fa : Addr) (h : Heap), (K w.params).In h → h.Ns mainGlobals mg → mg d.name = some (.ref fa) → TabsOf q (K w.params) h → (∀ P ∈ ts, h.get? P = some noCode) → LawT l.prog w (K w.params) k n x mg fa h) :
    PySem.W.WalkO q loose XP YP l.row.toRowW d [] (fun f vs => PySem.call f vs) := by
  refine Att.attach_call hn hdf ?_
  intro w s0 s1 mg mb fa o pm cd doc a vs ns G Y ho hd hcd hmg hobj hints hlen hg
  obtain ⟨fd, cs, sp, B, hb, hs, hF⟩ := F w mg fa _ (hY w _ Y).1 G.T.g hmg (fun x dr c P e1 e2 => PySem.W.tab_of G.T (hY w _ Y).1 e1 e2) (hY w _ Y).2
  exact head_callT (hY w _ Y).1 G.T.g G.T.b G.T.builtins G.T.nolimit hg B G.T.bmain hobj hints (Nat.le_trans hlen hz) rm hF hb fun H hH hS => hs H a ns hlen hH hS
end MD

namespace MD
open PySem PySem.Spec PyProof.Rows L2
/-! ### walks over locked dicts with int keys, and over items -/
section
variable {g : TG} {tt : TT} {te : TE} {vs : List Nat} {σ : L2.St} {d : Addr} {od : Obj} {kvs : List (Key × V)} {H1 : Hp} {D : Addr} {Qd : Hp → Prop}
theorem kl_vals (Pv : Nat → List V → Hp → Prop) (h0 : Pv 0 [] H1) (hl : ∀ i acc H, Pv i acc H → H d = some (.frz od (.dK kvs)))
    (hs : ∀ i k v acc H, kvs[i]? = some (k, v) → H D = some (.lst acc) → Pv i acc H → Turn1 g tt te vs σ D acc (Pv (i + 1)) v H) (hd : ∀ acc H, H D = some (.lst acc) → Pv kvs.length acc H → Qd H) : kLcW g tt te vs σ (Itd d od kvs) D H1 Qd := by
  refine ⟨fun i m acc H => m = kvs.length - i ∧ i ≤ kvs.length ∧ Pv i acc H, ⟨kvs.length, by simp, Nat.zero_le _, h0⟩, ?_⟩
  rintro i m acc H hD ⟨rfl, hi, p⟩
  have q := hl i acc H p
  by_cases hlt : i < kvs.length
  · refine .inr ⟨⟨q, hlt⟩, Pv (i + 1), fun acc H' p' => ⟨kvs.length - (i + 1), by omega, rfl, hlt, p'⟩, fun x H' y => ?_⟩
    obtain ⟨e, k, e1⟩ := y
    subst e
    exact hs i k x acc _ e1 hD p
  · have e : i = kvs.length := by omega
    subst e
    exact .inl ⟨⟨q, Nat.le_refl _⟩, hd acc H hD p⟩
theorem kl_keysK (Pv : Nat → List V → Hp → Prop) (h0 : Pv 0 [] H1) (hl : ∀ i acc H, Pv i acc H → H d = some (.frz od (.dK kvs)))
    (hs : ∀ i k v acc H, kvs[i]? = some (k, v) → H D = some (.lst acc) → Pv i acc H → Turn1 g tt te vs σ D acc (Pv (i + 1)) (kV k) H) (hd : ∀ acc H, H D = some (.lst acc) → Pv kvs.length acc H → Qd H) : kLcW g tt te vs σ (Itk d od kvs) D H1 Qd := by
  refine ⟨fun i m acc H => m = kvs.length - i ∧ i ≤ kvs.length ∧ Pv i acc H, ⟨kvs.length, by simp, Nat.zero_le _, h0⟩, ?_⟩
  rintro i m acc H hD ⟨rfl, hi, p⟩
  have q := hl i acc H p
  by_cases hlt : i < kvs.length
  · refine .inr ⟨⟨q, hlt⟩, Pv (i + 1), fun acc H' p' => ⟨kvs.length - (i + 1), by omega, rfl, hlt, p'⟩, fun x H' y => ?_⟩
    obtain ⟨e, k, v, e1, e2⟩ := y
    subst e e2
    exact hs i k v acc _ e1 hD p
  · have e : i = kvs.length := by omega
    subst e
    exact .inl ⟨⟨q, Nat.le_refl _⟩, hd acc H hD p⟩
end
theorem for_keysK {d : Addr} {od : Obj} {kvs : List (Key × V)} {g : TG} {tb : TS} {D0 : Ends} {σ : L2.St} {H : Hp} (Pv : Nat → L2.St → Hp → Prop) (h0 : Pv 0 σ H) (hl : ∀ i σ H, Pv i σ H → H d = some (.frz od (.dK kvs)))
    (hs : ∀ i k v σ H, kvs[i]? = some (k, v) → Pv i σ H → g (kV k) σ H fun σ2 H2 => tb { D0 with nx := Pv (i + 1), ct := Pv (i + 1), bk := D0.nx } σ2 H2) (hd : ∀ σ H, Pv kvs.length σ H → D0.nx σ H) :
    ∃ W : Nat → Nat → L2.St → Hp → Prop, (∃ m, W 0 m σ H) ∧ ∀ i m σ H, W i m σ H →
      ((Itk d od kvs).stop i H ∧ D0.nx σ H) ∨ ((Itk d od kvs).go i H ∧ ∃ N : L2.St → Hp → Prop, (∀ σ' H', N σ' H' → ∃ m', m' < m ∧ W (i + 1) m' σ' H') ∧ ∀ x H', (Itk d od kvs).yld i H x H' → g x σ H' fun σ2 H2 => tb { D0 with nx := N, ct := N, bk := D0.nx } σ2 H2) := by
  refine ⟨fun i m σ H => m = kvs.length - i ∧ i ≤ kvs.length ∧ Pv i σ H, ⟨kvs.length, by simp, Nat.zero_le _, h0⟩, ?_⟩
  rintro i m σ H ⟨rfl, hi, p⟩
  have q := hl i σ H p
  by_cases hlt : i < kvs.length
  · refine .inr ⟨⟨q, hlt⟩, Pv (i + 1), fun σ' H' p' => ⟨kvs.length - (i + 1), by omega, rfl, hlt, p'⟩, fun x H' y => ?_⟩
    obtain ⟨e, k, v, e1, e2⟩ := y
    subst e e2
    exact hs i k v σ _ e1 p
  · have e : i = kvs.length := by omega
    subst e
    exact .inl ⟨⟨q, Nat.le_refl _⟩, hd σ H p⟩
theorem ka_items {isAll : Bool} {g : TG} {t : TE} {vs : List Nat} {σ : L2.St} {d : Addr} {od : Obj} {kvs : Kvs} {H0 : Hp} {Q : Bool → Hp → Prop} (spec : Bool → Hp → Prop) (Pv : Nat → Hp → Prop) (h0 : Pv 0 H0) (hl : ∀ i H, Pv i H → H d = some (.frz od (.dT kvs)))
    (hs : ∀ i k v q T H H', kvs[i]? = some (k, v) → H q = some (.tup (k.map kV)) → Pv i H → H T = none → Kp [] H H' → H' T = some (.tup [.ref q, v]) → ∀ R : Bool → Hp → Prop, (∀ b H', spec b H' → R b H') → kItem isAll g t vs σ (Pv (i + 1)) R (.ref T) H')
    (hd : ∀ H, Pv kvs.length H → spec isAll H) (fin : ∀ b H', spec b H' → Q b H') : kAW isAll g t vs σ (Itit d od kvs) H0 Q := by
  refine ⟨fun i m H => m = kvs.length - i ∧ i ≤ kvs.length ∧ Pv i H, ⟨kvs.length, by simp, Nat.zero_le _, h0⟩, ?_⟩
  rintro i m H ⟨rfl, hi, p⟩
  have q := hl i H p
  by_cases hlt : i < kvs.length
  · refine .inr ⟨⟨q, hlt⟩, Pv (i + 1), fun H' p' => ⟨kvs.length - (i + 1), by omega, rfl, hlt, p'⟩, fun x H' y => ?_⟩
    obtain ⟨T, k, v, b, e1, e2, e3, e4, e5⟩ := y
    subst e3 e5
    exact hs i k v b T H _ e1 e2 p e4 (Kp.new e4) upd_same Q fin
  · have e : i = kvs.length := by omega
    subst e
    exact .inl ⟨⟨q, Nat.le_refl _⟩, fin _ _ (hd H p)⟩
/-! ### what is read as a tuple stands while nothing is changed -/
theorem Kp.sqt0 {K : PySem.W.Frag} {H H' : Hp} {a : Addr} {xs : List V} (k : Kp [] H H') (h : SqT K H a xs) : SqT K H' a xs := by
  rcases h with (h | ⟨o, h⟩) | h
  · exact .inl (.inl (k.tup _ _ h))
  · exact .inl (.inr ⟨o, k.at h nmem_nil⟩)
  · exact .inr h
/-! ### {cell: x} -/
def kDisp1T (tk tv : TE) : TE := fun σ H Q => ∀ p H1, H p = none → Kp [] H H1 → H1 p = some (.dT []) → tk σ H1 fun x H2 => tv σ H2 fun y H3 => ∃ (b : Addr) (k : List Key), x = .ref b ∧ H3 b = some (.tup (k.map kV)) ∧ H3 p = some (.dT []) ∧ Wr H3 p (.dT [(k, y)]) (Q (.ref p))
theorem ke_disp1T {X : Cx} {k v : Expr} {pos : Pos} {tk tv : TE} (hu : X.A.units + 1 < cLine) (hk : PE X k tk) (hv : PE X v tv) : PE X (.Dict [some k] [v] pos) (kDisp1T tk tv) := by
  refine ⟨fun pins s σ H Q I q => ?_⟩
  have hn := I.hok.fresh (Nat.le_refl s.heap.objs.size)
  have I1 := I.laid (a := s.heap.objs.size) (o := .dT []) (h' := s.heap.push { cls := .type "dict", data := .dict #[] }) (t' := s.toks) (fun _ _ q => Heap.get?_push_of_some _ q) (Nat.le_refl _) (dt_empty s.heap I.big)
  have hshape : (evalEachOpt [some k] X.env).zip ((evalEach [v] X.env).map fun v => do let x ← v; standAt pos; pure x) = [(eval k X.env, (do let x ← eval v X.env; standAt pos; pure x : Sem Value))].map fun p => (some p.1, p.2) := by rfl
  rw [arm_eval_Dict, hshape, dictDisplay_pairs _ (by simp) (by show 1 < 17; decide)]
  refine wpAny_bind (wpAny_standAt (wpAny_bind (wpAny_subDictH (knd := tupleKind (mixKind X.prog X.w)) (Q := fun d s' => wpAny (model X.prog X.w) X.A (pure (Value.ref d)) (EP X pins σ Q) X.xe s') (by exact Nat.lt_of_succ_lt hu) (by show 1 ≤ 15; decide) ?_)))
  refine evalPairs_cons (thn (hk.run pins _ σ _ _ I1 (q _ _ hn (Kp.new hn) upd_same)) fun kv s2 ⟨x, H2, I2, rx, q2⟩ => ?_)
  refine wpAny_bind (thn (hv.run pins s2 σ H2 _ I2 q2) fun vv s3 ⟨y, H3, I3, ry, b, key, ex, hb, hp, wr⟩ => ?_)
  subst ex
  obtain rfl : kv = .ref b := rx
  refine wpAny_bind (wpAny_standAt (wpAny_pure (evalPairs_nil ?_)))
  obtain ⟨z, hd, xs, rel, dd⟩ := dt_of I3.hok hp
  cases rel
  refine ⟨[(key, b, vv)], ⟨rfl, rfl, key_of I3.hok hb, trivial⟩, dd, fun h' tk dd' hs => wpAny_pure ?_⟩
  have e1 : storedAllH [] [(key, b, vv)] = [(key, b, vv)] := by first | rfl | simp [storedAllH, storedH]
  rw [e1] at dd'
  obtain ⟨ob, rows, ep, o1, o2, o3, o4, _, o5⟩ := dd'
  have I4 : Inv X pins σ (upd H3 s.heap.objs.size (.dT [(key, y)])) { s3 with heap := h', toks := tk } :=
    d_write I3 (by rw [hp]; exact True.intro) hs ⟨ob, o1⟩ ⟨(by show 1 ≤ sizeLine; decide), hd, [(key, b, vv)], .cons ⟨rfl, (upd_ne (ne_of hb hp fun z => nomatch z)).trans hb, ry⟩ .nil, ob, rows, ep, o1, o2, o3, o4, o5⟩
  exact ⟨.ref s.heap.objs.size, _, I4, rfl, wr.old hp trivial⟩
/-! ### pairs (i, x), sorted by their distinct ints -/
section
open SrtO Srt
variable {prog : Program} {w : World} {A : Around} {E : Value → Shared → Prop} {s : Shared}
def IsIP (h : Heap) (v : Value) (i : Int) : Prop := ∃ a x t o n, v = .ref a ∧ h.get? a = some o ∧ o.cls = .type "tuple" ∧ o.data = .seq #[.int i t, x] n ∧ (x == x) = true
theorem IsIP.keeps {h h' : Heap} {v : Value} {i : Int} (p : IsIP h v i) (k : ∀ b o, h.get? b = some o → o.cls = .type "tuple" → h'.get? b = some o) : IsIP h' v i := by
  obtain ⟨a, x, t, o, n, e, h1, h2, h3, h4⟩ := p
  exact ⟨a, x, t, o, n, e, k _ _ h1 h2, h2, h3, h4⟩
def k0 (k : Value → Int) : Value → Int × Int := fun v => (k v, 0)
theorem ip_cmp {vs : List Value} {k : Value → Int} (hp : ∀ v ∈ vs, IsIP s.heap v (k v)) (hd : ∀ v ∈ vs, ∀ u ∈ vs, k v = k u → v = u) : Cmp prog w A s (tuples' true) (fun p => p.1 ∈ vs) (lt2 fun v u => lexB (k0 k v) (k0 k u)) := by
  intro p q hm hm'
  have h1 := hp _ hm
  have h2 := hp _ hm'
  have hdd := hd _ hm _ hm'
  show wpAny (model prog w) A (keyLt' (tuples' true) p.1 q.1) (fun r s' => s' = s ∧ r = lexB (k0 k p.1) (k0 k q.1)) (fun _ _ => False) s
  unfold lexB k0
  generalize k p.1 = x at h1 hdd ⊢
  generalize k q.1 = x' at h2 hdd ⊢
  obtain ⟨a, z, t, o, n, e, ho, hc, hdt, hz⟩ := h1
  obtain ⟨a', z', t', o', n', e', ho', hc', hdt', hz'⟩ := h2
  by_cases ek : x = x'
  · have ee := hdd ek
    have ea : a = a' := by rw [e, e'] at ee; injection ee
    subst ea
    rw [ho] at ho'; cases ho'
    rw [hdt] at hdt'
    injection hdt' with hd5 hd6
    subst hd6
    have l1 := congrArg Array.toList hd5
    injection l1 with l2 l3
    injection l3 with l4 l5
    injection l2 with l6 l7
    subst l4 l6 l7
    rw [e, e']
    refine PySem.W.kat_lt ho hdt ho hdt ?_
    show PySem.W.KatLex prog w A true (decide (2 < 2)) _ [(.int x t, .int x t), (z, z)] 0 s
    refine PySem.W.kat_cons (eqBool_self (by simp) ?_)
    refine PySem.W.kat_yes (PySem.W.kat_cons (eqBool_self hz ?_))
    refine PySem.W.kat_yes (PySem.W.kat_nil ⟨rfl, ?_⟩)
    show decide (2 < 2) = if x = x then decide ((0 : Int) < 0) else decide (x < x)
    rw [if_pos rfl]; rfl
  · rw [e, e']
    refine PySem.W.kat_lt ho hdt ho' hdt' ?_
    show PySem.W.KatLex prog w A true (decide (2 < 2)) _ [(.int x t, .int x' t'), (z, z')] 0 s
    refine PySem.W.kat_cons (SeqAt.EqAt.int_int x t x' t' prog w _ _ ?_)
    refine PySem.W.kat_go (fun e1 => ?_) (fun e1 => ?_)
    · exact absurd (by simpa using e1) ek
    · have e3 : (if x = x' then decide ((0 : Int) < 0) else decide (x < x')) = decide (x < x') := if_neg ek
      exact PySem.W.kat_no (oneLt_int ⟨rfl, e3.symm⟩)
theorem ip_firsts {h : Heap} : ∀ {vs : List Value}, (∀ v ∈ vs, ∃ i, IsIP h v i) → ∃ fs : List Value, PySem.W.KatTups h vs fs ∧ fs.length = vs.length ∧ ∀ f ∈ fs, ∃ x t, f = Value.int x t
  | [], _ => ⟨[], PySem.W.KatTups.nil, rfl, fun f hf => by simp at hf⟩
  | v :: vs, x => by
    obtain ⟨fs, k, hl, hi⟩ := ip_firsts (vs := vs) fun u hu => x u (List.mem_cons_of_mem _ hu)
    obtain ⟨i, a, z, t, o, n, rfl, ho, hc, hd, _⟩ := x v List.mem_cons_self
    refine ⟨.int i t :: fs, PySem.W.KatTups.cons ho hc hd rfl k, by rw [List.length_cons, List.length_cons, hl], fun f hf => ?_⟩
    rcases List.mem_cons.mp hf with rfl | hf
    · exact ⟨i, t, rfl⟩
    · exact hi f hf
theorem ip_sortable {a : Addr} {vs : List Value} {k : Value → Int} (h0 : 0 < vs.length) (hp : ∀ v ∈ vs, IsIP s.heap v (k v)) (hdd : ∀ v ∈ vs, ∀ u ∈ vs, k v = k u → v = u) (ha : ∀ o, s.heap.get? a = some o → o.cls ≠ .type "tuple") :
    SortableO prog w A s a vs fun v u => lexB (k0 k v) (k0 k u) := by
  intro h' keep
  have hp' : ∀ v ∈ vs, IsIP h' v (k v) := fun v hm => (hp v hm).keeps fun b o e c => keep b o (fun z => by subst z; exact ha o e c) e
  obtain ⟨fs, h1, h2, h3⟩ := ip_firsts fun v hm => ⟨_, hp' v hm⟩
  refine ⟨tuples' true, fun Q E hq => ?_, ip_cmp hp' hdd⟩
  refine PySem.W.kat_kind (T := .type "int") h1 (by omega) (fun f hm => ?_) (by rfl) ?_
  · obtain ⟨x, t, rfl⟩ := h3 f hm
    exact PySem.W.Looks.now
  · have e : (Value.type "int" != Value.type "tuple") = true := by first | decide +kernel | rfl | decide
    rw [e]
    exact hq
theorem sorted_ip {l : Addr} {vs : List Value} {k : Value → Int} {Q : Value → Shared → Prop} (hl : s.heap.IsList l vs.toArray) (hz : vs.length ≤ sizeLine) (hp : ∀ v ∈ vs, IsIP s.heap v (k v)) (hdd : ∀ v ∈ vs, ∀ u ∈ vs, k v = k u → v = u)
    (h : ∀ (h' : Heap) (d : Addr) (out : List Value), Srtd (fun v u => lexB (k0 k v) (k0 k u)) out → Stb (fun v u => lexB (k0 k v) (k0 k u)) out vs → (∀ b o, s.heap.get? b = some o → h'.get? b = some o) → s.heap.objs.size ≤ d → (∃ n, h'.get? d = some (seqObj "list" out.toArray n)) → Q (.ref d) { s with heap := h' }) :
    wpAny (model prog w) A (call (.builtin "sorted") [.ref l]) Q E s := by
  refine sorted_ord (swo_lex (k0 k)) hl hz (fun h2 h₁ a ha kk => ?_) fun out hs hb => ?_
  · refine ip_sortable (s := { s with heap := h₁ }) (by omega) (fun v hm => (hp v hm).keeps fun b o e _ => (kk b o e).2) hdd fun o e => ?_
    have e' : some o = some (seqObj "list" vs.toArray 0) := e.symm.trans ha
    cases e'
    intro c
    exact absurd (Value.type.inj c) (by decide)
  · exact h _ _ out hs hb (fun b o e => sortedAll_old e) (Nat.le_succ _) (sortedAll_at s.heap vs out.toArray)
end
/-- sorted(xs), xs a list of pairs (i, x) with distinct ints; es says what they are -/
def kSortIP (K : PySem.W.Frag) : List V → Hp → VK → Prop := fun vs H Q => ∃ (a : Addr) (xs : List V) (k : V → Int), vs = [V.ref a] ∧ SqL K H a xs ∧ (∀ x ∈ xs, ∃ t z, x = V.ref t ∧ H t = some (.tup [.int (k x), z])) ∧
  (∀ x ∈ xs, ∀ y ∈ xs, k x = k y → x = y) ∧ ∀ ys : List V, ys.Perm xs → ys.Pairwise (fun x y => k x ≤ k y) → New H (.lst ys) Q
theorem ksortIP {X : Cx} {K : PySem.W.Frag} (h : X.K = K := by rfl) : CallR X (.builtin "sorted") (kSortIP K) := by
  subst h
  intro pins s σ H vs us Q I r h
  obtain ⟨a, xs, k, rfl, hs, hx, hdd, q⟩ := h
  obtain ⟨its, rv, hl, hz⟩ := I.list hs
  obtain ⟨u, rfl, ru⟩ := vals1 r
  obtain rfl : u = Value.ref a := ru
  obtain ⟨e1, e2⟩ := refs_back rv fun x m => by
    obtain ⟨t, _, e, _⟩ := hx x m
    exact ⟨t, e⟩
  refine sorted_ip (k := fun u => k (backV u)) hl.isList (by rw [← rv.length]; exact hz) (fun v hv => ?_) (fun v hv u hu2 ek => ?_) fun h' d out h1 h2 kp hd hn => ?_
  · obtain ⟨t, rfl⟩ := e2 v hv
    have hm : V.ref t ∈ xs := by rw [e1]; exact List.mem_map.mpr ⟨_, hv, rfl⟩
    obtain ⟨t', z, e, ht⟩ := hx _ hm
    cases e
    obtain ⟨_, its2, r2, o, ho, hc, n, hd⟩ := I.hok _ _ ht
    obtain ⟨u1, u2, rfl, ri, rj⟩ := vals2 r2
    obtain ⟨t1, rfl⟩ := ri
    exact ⟨t, u2, t1, o, n, rfl, ho, hc, hd, by simp⟩
  · obtain ⟨t, rfl⟩ := e2 v hv
    obtain ⟨t', rfl⟩ := e2 u hu2
    have := hdd (.ref t) (by rw [e1]; exact List.mem_map.mpr ⟨_, hv, rfl⟩) (.ref t') (by rw [e1]; exact List.mem_map.mpr ⟨_, hu2, rfl⟩) ek
    cases this
    rfl
  · have h3 : ∀ u ∈ out, ∃ a, u = Value.ref a := fun u hu => e2 u (h2.perm.mem_iff.mp hu)
    obtain ⟨n, hn⟩ := hn
    have hp : (out.map backV).Perm xs := by
      rw [e1]
      exact h2.perm.map backV
    have hw : (out.map backV).Pairwise fun x y => k x ≤ k y := by
      rw [List.pairwise_map]
      refine List.Pairwise.imp (fun {x y} z => ?_) (show out.Pairwise _ from h1)
      have z : SrtO.lexB (k0 (fun u => k (backV u)) y) (k0 (fun u => k (backV u)) x) = false := z
      have := SrtO.lexB_no.mp z
      unfold k0 at this
      simp only at this
      omega
    refine ⟨.ref d, upd H d (.lst (out.map backV)), I.laid (t' := s.toks) kp hd ⟨?_, out, n, vals_back h3, hn⟩, rfl, (q _ hp hw).old d (I.hok.fresh hd)⟩
    rw [hp.length_eq]
    exact hz
/-! ### sorted(d), d with int keys -/
theorem sorted_rawI {prog : Program} {w : World} {A : Around} {E : Value → Shared → Prop} {s : Shared} {d : Addr} {es : Array DictEntry} {ep : Nat} {ns : List Int} {Q : Value → Shared → Prop} (hh : A.handled = none) (lo : (d == sysModules) = false) (hr : s.heap.DictRaw d es ep) (few : es.size ≤ sizeLine)
    (hI : IntsAre (es.toList.map (·.key)) ns)
    (h : ∀ (g h' : Heap) (tk : Nat) (out : List Value), IntsAre out (out.map SrtO.iv) → (out.map SrtO.iv).Perm ns → (out.map SrtO.iv).Pairwise (· ≤ ·) → out.length = es.size → (∀ b o, s.heap.get? b = some o → g.get? b = some o) → (∀ b o, g.get? b = some o → h'.get? b = some o) → (∃ n, h'.get? g.objs.size = some (seqObj "list" out.toArray n)) →
      Q (.ref g.objs.size) { s with heap := h', toks := tk }) :
    wpAny (model prog w) A (call (.builtin "sorted") [.ref d]) Q E s := by
  refine Calls.call_function_entry kind_sorted plain_sorted entry_sorted (args_sorted1 _) ?_
  unfold Builtin.«sorted»
  refine wpAny_bind (m := checkCount "sorted" 1 1 _) (wpAny_pure (wpAny_bind (PySem.W.kdu_collect (A := A.in1) (PySem.KdlSrc.rawDict (ep := ep) lo) hh hr few fun h1 tk acc keep items => ?_)))
  have ea : acc.toList = es.toList.map (·.key) := by
    obtain ⟨sz, at'⟩ := items
    refine List.ext_getElem (by rw [List.length_map, Array.length_toList, Array.length_toList, sz]) fun i h1 h2 => ?_
    obtain ⟨hi, e⟩ := at' i _ (Array.getElem?_eq_getElem (by simpa using h1))
    simpa using e
  have el : acc.toList.length ≤ sizeLine := by rw [ea, List.length_map, Array.length_toList]; exact few
  refine wpAny_bind (wpAny_newList ?_ el)
  generalize acc.toList = vs at ea el
  generalize eD : ({ s with heap := h1, toks := tk } : Shared).heap.objs.size = D
  have eD : h1.objs.size = D := eD
  have atD : (h1.push (seqObj "list" vs.toArray 0)).get? D = some (seqObj "list" vs.toArray 0) := by rw [← eD]; exact Heap.get?_push_size _ rfl
  show wpAny _ _ _ _ _ { s with heap := h1.push (seqObj "list" vs.toArray 0), toks := tk }
  refine wpAny_bind (wpAny_holding (wpAny_call_entry slot_list_sort ⟨_, atD, rfl⟩ entry_list_sort (SrtO.list_sort_ord SrtO.swo_int atD el (fun h2 => SrtO.ints_sortable (by rw [ea]; exact hI) h2) fun out hs hb => ⟨_, rfl, ?_⟩) (args_list_sort _)))
  have hI2 : IntsAre vs ns := by rw [ea]; exact hI
  obtain ⟨k1, k2, k3⟩ := SrtO.ints_out hI2 hs hb
  have lt : ∀ b o, h1.get? b = some o → b ≠ D ∧ (h1.push (seqObj "list" vs.toArray 0)).get? b = some o := fun b o e => ⟨by rw [← eD]; exact Nat.ne_of_lt (Heap.lt_size e), Heap.get?_push_of_some _ e⟩
  have lo2 : out.length = es.size := by rw [hb.perm.length_eq, ea, List.length_map, Array.length_toList]
  have fin := h h1 (sortedHeap (h1.push (seqObj "list" vs.toArray 0)) D vs out.toArray) tk out k1 k2 k3 lo2 keep (fun b o e => by rw [sortedHeap_old (lt b o e).1 (Heap.lt_size (lt b o e).2)]; exact (lt b o e).2) (by rw [eD]; exact sortedHeap_at atD)
  rw [eD] at fin
  exact wpAny_pure ⟨_, rfl, fin⟩
theorem ints_keys {P : Program} {w : World} : ∀ {l : List DictEntry} {vs : List (Key × Value)} {ns : List Int}, Pairs (mixKind P w) l vs → vs.map (·.1) = ns.map Sum.inl → IntsAre (l.map (·.key)) ns
  | _, _, [], .nil, _ => .nil
  | _, _, _ :: _, .nil, h => by cases h
  | _, _, [], .cons _ _ _, h => by cases h
  | en :: l, kv :: vs, n :: ns, .cons e1 _ r, h => by
    rw [List.map_cons, List.map_cons] at h
    injection h with h1 h2
    rw [h1] at e1
    obtain ⟨t, et⟩ := Value.isInt_shape (show Value.isInt n en.key = true from e1)
    rw [List.map_cons, et]
    exact .cons _ _ (ints_keys r h2)
def kSortKI : List V → Hp → VK → Prop := fun xs H Q => ∃ (a : Addr) (kvs : List (Key × V)) (ns : List Int), xs = [.ref a] ∧ H a = some (.dK kvs) ∧ kvs.map (·.1) = ns.map Sum.inl ∧ ∀ ms : List Int, ms.Perm ns → ms.Pairwise (· ≤ ·) → New H (.lst (ms.map V.int)) Q
theorem ksortKI {X : Cx} (hc : X.calm = true) : CallR X (.builtin "sorted") kSortKI := by
  intro pins s σ H xs us Q I r h
  obtain ⟨a, kvs, ns, rfl, ha, hk, q⟩ := h
  obtain ⟨u, rfl, ru⟩ := vals1 r
  obtain rfl : u = .ref a := ru
  obtain ⟨big, nsy, vs, rel, o, es, ep, h1, h2, h3, h4, h5, h6⟩ := dk_of I.hok ha
  have ke : vs.map (·.1) = ns.map Sum.inl := by
    rw [← hk]
    clear h5 h6 big hk q ha
    induction rel with
    | nil => rfl
    | cons h _ ih => rw [List.map_cons, List.map_cons, ih, h.1]
  have lv : vs.length = kvs.length := (Paired.length rel).symm
  have hI : IntsAre (es.toList.map (·.key)) ns := ints_keys h5 ke
  have ls : es.size = kvs.length := by
    clear h1 h2 h3 h4 h6 hI
    rw [← lv, ← Array.length_toList]
    generalize es.toList = l at h5
    clear rel ke lv
    induction h5 with
    | nil => rfl
    | cons _ _ _ ih => rw [List.length_cons, List.length_cons, ih]
  refine sorted_rawI (I.ok.hd hc) nsy ⟨o, h1, h2, h3⟩ (by rw [ls]; exact big) hI fun g h' tk out k1 k2 k3 lo k4 k5 hn => ?_
  have J := I.kept (t' := tk) k4
  have fresh : H g.objs.size = none := J.hok.fresh (Nat.le_refl _)
  have w := q _ k2 k3
  obtain ⟨n, hn⟩ := hn
  refine ⟨.ref g.objs.size, upd H g.objs.size (.lst ((out.map SrtO.iv).map V.int)), J.laid (t' := tk) k5 (Nat.le_refl _) ⟨?_, out, n, vals_of_ints k1, hn⟩, rfl, w.old _ fresh⟩
  rw [List.length_map, List.length_map, lo, ls]
  exact big
end MD

namespace MD
open PySem PySem.Spec PyProof.Rows L2
/-! ### the house, by itself -/
abbrev Lk := List ((Int × Int) × Int)
structure Ask where
  s : Int
  n : Int
  lk : Lk
structure Hs where
  stock : Int → Int → Int
  books : List (List D)
  queue : List Ask
  round : Option Ask
  counts : List (Int × List Int)
  out : List D
def dI (i : Int) : D := .v (.int i)
def dS (x : Str) : D := .v (.str x)
def lkD (l : Lk) : D := .sq false (l.map fun e => .sq false [prD e.1.1 e.1.2, dI e.2])
def askD (a : Ask) : D := .sq false [dI a.s, dI a.n, lkD a.lk]
def rdD : Option Ask → D
  | none => .v .non
  | some a => askD a
def outD (s : Int) (b : D) : D := .sq false [dI s, b]
def closeD (s : Int) (l : Lk) : D := outD s (.sq false [dS "close", .sq false (l.map fun e => prD e.1.1 e.1.2)])
def openD (s : Int) (cs : List Int) (a : D) : D := outD s (.sq false [dS "open", .sq false (intD cs), a])
def giveD (s k t : Int) : D := outD s (.sq false [dS "give", dI k, dI t])
def wantD (s k t : Int) : D := outD s (.sq false [dS "want", dI k, dI t])
abbrev F2 := Int → Int → Int
def l0 : (Int × Int) × Int := ((0, 0), 0)
def gL (l : Lk) (i : Nat) : (Int × Int) × Int := l.getD i l0
def addI (f : F2) (l : Lk) (cs : List Int) : Nat → F2
  | 0 => f
  | i + 1 => set2 (addI f l cs i) (gL l i).1.1 (gL l i).1.2 (addI f l cs i (gL l i).1.1 (gL l i).1.2 + cs.getD i 0)
def subI (f : F2) (l : Lk) : Nat → F2
  | 0 => f
  | i + 1 => set2 (subI f l i) (gL l i).1.1 (gL l i).1.2 (subI f l i (gL l i).1.1 (gL l i).1.2 - (gL l i).2)
def backI (f : F2) (l : Lk) (cs : List Int) : Nat → F2 × List Int
  | 0 => (f, [])
  | i + 1 => (set2 (backI f l cs i).1 (gL l i).1.1 (gL l i).1.2 ((backI f l cs i).1 (gL l i).1.1 (gL l i).1.2 - min (cs.getD i 0) ((backI f l cs i).1 (gL l i).1.1 (gL l i).1.2)),
      (backI f l cs i).2 ++ [min (cs.getD i 0) ((backI f l cs i).1 (gL l i).1.1 (gL l i).1.2)])
def grantB (f : F2) (l : Lk) : Bool := l.all fun e => decide (e.2 ≤ f e.1.1 e.1.2)
def closes (S : Nat) (l : Lk) : List D := (List.range S).map fun (s : Nat) => closeD s l
def look (S : Nat) (st : Hs) : Hs := match st.round, st.queue with
  | none, a :: q => { st with round := some a, queue := q, counts := [], out := st.out ++ closes S a.lk }
  | _, _ => st
def ansD (a : Ask) (g : Bool) (s : Int) : D := if s = a.s then .sq false [dI a.n, .v (.bl g)] else .v .non
def cntOf (st : Hs) (s : Int) : List Int := (st.counts.lookup s).getD []
def decI (st : Hs) (a : Ask) (g : Bool) (f0 : F2) : Nat → F2 × List D
  | 0 => (f0, st.out)
  | j + 1 => ((backI (decI st a g f0 j).1 a.lk (cntOf st j) a.lk.length).1, (decI st a g f0 j).2 ++ [openD j (backI (decI st a g f0 j).1 a.lk (cntOf st j) a.lk.length).2 (ansD a g j)])
def dec0 (st : Hs) (a : Ask) : F2 := if grantB st.stock a.lk = true then subI st.stock a.lk a.lk.length else st.stock
def dec1 (S : Nat) (st : Hs) (a : Ask) : Hs := { st with stock := (decI st a (grantB st.stock a.lk) (dec0 st a) S).1, out := (decI st a (grantB st.stock a.lk) (dec0 st a) S).2, round := none, counts := [] }
def dec (S : Nat) (st : Hs) (a : Ask) : Hs := look S (dec1 S st a)
def tak1 (st : Hs) (a : Ask) (s : Int) (cs : List Int) : Hs := { st with stock := addI st.stock a.lk cs a.lk.length, counts := st.counts ++ [(s, cs)] }
def takeC (S : Nat) (st : Hs) (a : Ask) (s : Int) (cs : List Int) : Hs := if st.counts.length + 1 = S then dec S (tak1 st a s cs) a else tak1 st a s cs
inductive Bod where
  | ask (n : Int) (l : Lk)
  | closed (cs : List Int)
  | back (k t : Int)
  | entry (r : D)
def bodD : Bod → D
  | .ask n l => .sq false [dS "ask", dI n, lkD l]
  | .closed cs => .sq false [dS "closed", .sq false (intD cs)]
  | .back k t => .sq false [dS "back", dI k, dI t]
  | .entry r => .sq false [dS "entry", r]
def addBook (bk : List (List D)) (s : Nat) (r : D) : List (List D) := bk.set s (bk.getD s [] ++ [r])
def step (S : Nat) (st : Hs) (s : Int) : Bod → Hs
  | .ask n l => look S { st with queue := st.queue ++ [⟨s, n, l⟩] }
  | .closed cs => match st.round with
    | some a => takeC S st a s cs
    | none => st
  | .back k t => { st with stock := set2 st.stock k t (st.stock k t + 1) }
  | .entry r => { st with books := addBook st.books s.toNat r }
/-! ### what is always so -/
structure LkOk (n m : Nat) (l : Lk) : Prop where
  nd : (l.map (·.1)).Nodup
  ig : ∀ e ∈ l, InG n m e.1.1 e.1.2
  le : l.length ≤ 48
structure HsOk (n m S : Nat) (st : Hs) : Prop where
  nn : ∀ k t, InG n m k t → 0 ≤ st.stock k t
  bl : st.books.length = S
  lq : ∀ a ∈ st.queue, LkOk n m a.lk
  lr : ∀ a, st.round = some a → LkOk n m a.lk
  ck : ∀ c ∈ st.counts, 0 ≤ c.1 ∧ c.1 < S ∧ (∀ x ∈ c.2, 0 ≤ x) ∧ ∀ a, st.round = some a → c.2.length = a.lk.length
  cd : (st.counts.map (·.1)).Nodup
  cl : ∀ a, st.round = some a → st.counts.length < S
  cn : st.round = none → st.counts = []
  qe : st.round = none → st.queue = []
theorem gL_mem {l : Lk} {i : Nat} (h : i < l.length) : gL l i ∈ l := by
  have e : gL l i = l[i] := by unfold gL; rw [List.getD_eq_getElem?_getD]; simp [h]
  rw [e]; exact List.getElem_mem h
theorem gL_of {l : Lk} {i : Nat} {e} (h : l[i]? = some e) : gL l i = e := by unfold gL; rw [List.getD_eq_getElem?_getD, h]; rfl
theorem set2_same (f : F2) (k t v : Int) : set2 f k t v k t = v := by unfold set2; rw [if_pos ⟨rfl, rfl⟩]
theorem set2_ne {f : F2} {k t v a b : Int} (h : ¬ (a = k ∧ b = t)) : set2 f k t v a b = f a b := by unfold set2; rw [if_neg h]
theorem set2_nn {n m : Nat} {f : F2} {k t v : Int} (h : ∀ a b, InG n m a b → 0 ≤ f a b) (hv : 0 ≤ v) : ∀ a b, InG n m a b → 0 ≤ set2 f k t v a b := fun a b g => by
  unfold set2
  split
  · exact hv
  · exact h a b g
theorem addI_nn {n m : Nat} {f : F2} {l : Lk} {cs : List Int} (h : ∀ a b, InG n m a b → 0 ≤ f a b) (ok : LkOk n m l) (hc : ∀ x ∈ cs, 0 ≤ x) : ∀ i, i ≤ l.length → ∀ a b, InG n m a b → 0 ≤ addI f l cs i a b
  | 0, _ => h
  | i + 1, hi => by
    have ih := addI_nn h ok hc i (by omega)
    have g := ok.ig _ (gL_mem (show i < l.length by omega))
    refine set2_nn ih ?_
    have h1 := ih _ _ g
    have h2 : 0 ≤ cs.getD i 0 := by
      rw [List.getD_eq_getElem?_getD]
      cases e : cs[i]? with
      | none => exact Int.le_refl _
      | some x => exact hc x (List.mem_of_getElem? e)
    omega
theorem subI_out {f : F2} {l : Lk} (nd : (l.map (·.1)).Nodup) {k : Nat} (hk : k < l.length) : ∀ i, i ≤ k → subI f l i (gL l k).1.1 (gL l k).1.2 = f (gL l k).1.1 (gL l k).1.2
  | 0, _ => rfl
  | i + 1, hi => by
    have ih := subI_out (f := f) nd hk i (by omega)
    show set2 _ _ _ _ _ _ = _
    rw [set2_ne, ih]
    intro z
    have e : (gL l k).1 = (gL l i).1 := Prod.ext z.1 z.2
    have a1 : (l.map (·.1))[k]? = some (gL l k).1 := by
      rw [List.getElem?_map]
      have : l[k]? = some (gL l k) := by unfold gL; rw [List.getD_eq_getElem?_getD]; simp [hk]
      rw [this]; rfl
    have a2 : (l.map (·.1))[i]? = some (gL l i).1 := by
      rw [List.getElem?_map]
      have : l[i]? = some (gL l i) := by unfold gL; rw [List.getD_eq_getElem?_getD]; simp [show i < l.length by omega]
      rw [this]; rfl
    rw [← e] at a2
    have := (List.getElem?_inj (by rw [List.length_map]; exact hk) nd).mp (a1.trans a2.symm)
    omega
theorem subI_nn {n m : Nat} {f : F2} {l : Lk} (h : ∀ a b, InG n m a b → 0 ≤ f a b) (ok : LkOk n m l) (g : grantB f l = true) : ∀ i, i ≤ l.length → ∀ a b, InG n m a b → 0 ≤ subI f l i a b
  | 0, _ => h
  | i + 1, hi => by
    have ih := subI_nn h ok g i (by omega)
    refine set2_nn ih ?_
    rw [subI_out ok.nd (show i < l.length by omega) i (Nat.le_refl _)]
    have := of_decide_eq_true (List.all_eq_true.mp g _ (gL_mem (show i < l.length by omega)))
    omega
theorem backI_nn {n m : Nat} {f : F2} {l : Lk} {cs : List Int} (h : ∀ a b, InG n m a b → 0 ≤ f a b) (ok : LkOk n m l) (hc : ∀ x ∈ cs, 0 ≤ x) : ∀ i, i ≤ l.length → (∀ a b, InG n m a b → 0 ≤ (backI f l cs i).1 a b) ∧ (∀ x ∈ (backI f l cs i).2, 0 ≤ x) ∧ (backI f l cs i).2.length = i
  | 0, _ => ⟨h, (fun x hx => nomatch hx), rfl⟩
  | i + 1, hi => by
    obtain ⟨h1, h2, h3⟩ := backI_nn h ok hc i (by omega)
    have g := ok.ig _ (gL_mem (show i < l.length by omega))
    have p := h1 _ _ g
    have c : 0 ≤ cs.getD i 0 := by
      rw [List.getD_eq_getElem?_getD]
      cases e : cs[i]? with
      | none => exact Int.le_refl _
      | some x => exact hc x (List.mem_of_getElem? e)
    refine ⟨set2_nn h1 (by omega), fun x hx => ?_, by show ((backI f l cs i).2 ++ [_]).length = _; rw [List.length_append, h3]; rfl⟩
    rcases List.mem_append.mp hx with hx | hx
    · exact h2 x hx
    · rw [List.mem_singleton.mp hx]; omega
theorem cnt_nn {n m S : Nat} {st : Hs} (ok : HsOk n m S st) (s : Int) : ∀ x ∈ cntOf st s, 0 ≤ x := by
  intro x hx
  unfold cntOf at hx
  cases e : st.counts.lookup s with
  | none => rw [e] at hx; exact nomatch hx
  | some c =>
    rw [e] at hx
    have : ∃ p ∈ st.counts, p.2 = c := by
      clear hx
      generalize st.counts = l at e
      induction l with
      | nil => cases e
      | cons p l ih =>
        rw [List.lookup_cons] at e
        split at e
        · cases e; exact ⟨p, List.mem_cons_self, rfl⟩
        · obtain ⟨q, hq, e2⟩ := ih e
          exact ⟨q, List.mem_cons_of_mem _ hq, e2⟩
    obtain ⟨p, hp, rfl⟩ := this
    exact (ok.ck p hp).2.2.1 x hx
theorem decI_nn {n m S : Nat} {st : Hs} {a : Ask} {g : Bool} {f0 : F2} (ok : HsOk n m S st) (la : LkOk n m a.lk) (h : ∀ k t, InG n m k t → 0 ≤ f0 k t) : ∀ j, ∀ k t, InG n m k t → 0 ≤ (decI st a g f0 j).1 k t
  | 0 => h
  | j + 1 => (backI_nn (decI_nn ok la h j) la (cnt_nn ok j) a.lk.length (Nat.le_refl _)).1
theorem dec0_nn {n m S : Nat} {st : Hs} {a : Ask} (ok : HsOk n m S st) (la : LkOk n m a.lk) : ∀ k t, InG n m k t → 0 ≤ dec0 st a k t := by
  unfold dec0
  split
  · next g => exact subI_nn ok.nn la g _ (Nat.le_refl _)
  · exact ok.nn
/-- all but the queue's last is so -/
structure HsPre (n m S : Nat) (st : Hs) : Prop where
  nn : ∀ k t, InG n m k t → 0 ≤ st.stock k t
  bl : st.books.length = S
  lq : ∀ a ∈ st.queue, LkOk n m a.lk
  lr : ∀ a, st.round = some a → LkOk n m a.lk
  ck : ∀ c ∈ st.counts, 0 ≤ c.1 ∧ c.1 < S ∧ (∀ x ∈ c.2, 0 ≤ x) ∧ ∀ a, st.round = some a → c.2.length = a.lk.length
  cd : (st.counts.map (·.1)).Nodup
  cl : ∀ a, st.round = some a → st.counts.length < S
  cn : st.round = none → st.counts = []
theorem HsOk.pre {n m S : Nat} {st : Hs} (h : HsOk n m S st) : HsPre n m S st := ⟨h.nn, h.bl, h.lq, h.lr, h.ck, h.cd, h.cl, h.cn⟩
theorem look_ok {n m S : Nat} {st : Hs} (h : HsPre n m S st) (hS : 0 < S) : HsOk n m S (look S st) := by
  obtain ⟨stock, books, queue, round, counts, out⟩ := st
  cases round with
  | some a => exact ⟨h.nn, h.bl, h.lq, h.lr, h.ck, h.cd, h.cl, h.cn, fun z => nomatch z⟩
  | none =>
    cases queue with
    | nil => exact ⟨h.nn, h.bl, h.lq, h.lr, h.ck, h.cd, h.cl, h.cn, fun _ => rfl⟩
    | cons a q =>
      exact ⟨h.nn, h.bl, fun b hb => h.lq b (List.mem_cons_of_mem _ hb), fun b e => by cases e; exact h.lq a List.mem_cons_self, (fun c hc => nomatch hc), List.nodup_nil, fun _ _ => hS, (fun z => nomatch z), fun z => nomatch z⟩
theorem dec_ok {n m S : Nat} {st : Hs} {a : Ask} (nn : ∀ k t, InG n m k t → 0 ≤ st.stock k t) (ok : HsOk n m S { st with counts := [] , round := some a}) (la : LkOk n m a.lk) (cc : ∀ c ∈ st.counts, ∀ x ∈ c.2, 0 ≤ x) (hS : 0 < S) : HsOk n m S (dec S st a) := by
  refine look_ok ⟨?_, ok.bl, ok.lq, (fun b e => nomatch e), (fun c hc => nomatch hc), List.nodup_nil, (fun b e => nomatch e), fun _ => rfl⟩ hS
  have c2 : ∀ s : Int, ∀ x ∈ cntOf st s, 0 ≤ x := by
    intro s x hx
    unfold cntOf at hx
    cases e : st.counts.lookup s with
    | none => rw [e] at hx; exact nomatch hx
    | some c =>
      rw [e] at hx
      have : ∃ p ∈ st.counts, p.2 = c := by
        clear hx
        generalize st.counts = l at e
        induction l with
        | nil => cases e
        | cons p l ih =>
          rw [List.lookup_cons] at e
          split at e
          · cases e; exact ⟨p, List.mem_cons_self, rfl⟩
          · obtain ⟨q, hq, e2⟩ := ih e
            exact ⟨q, List.mem_cons_of_mem _ hq, e2⟩
      obtain ⟨p, hp, rfl⟩ := this
      exact cc p hp x hx
  have d0 : ∀ k t, InG n m k t → 0 ≤ dec0 st a k t := by
    unfold dec0
    split
    · next g => exact subI_nn nn la g _ (Nat.le_refl _)
    · exact nn
  have all : ∀ j, ∀ k t, InG n m k t → 0 ≤ (decI st a (grantB st.stock a.lk) (dec0 st a) j).1 k t := by
    intro j
    induction j with
    | zero => exact d0
    | succ j ih => exact (backI_nn ih la (c2 j) a.lk.length (Nat.le_refl _)).1
  exact all S
theorem tak1_pre {n m S : Nat} {st : Hs} {a : Ask} {s : Int} {cs : List Int} (ok : HsOk n m S st) (hr : st.round = some a) (s0 : 0 ≤ s) (s1 : s < S) (hn : s ∉ st.counts.map (·.1)) (hc : ∀ x ∈ cs, 0 ≤ x) (hl : cs.length = a.lk.length) :
    (∀ k t, InG n m k t → 0 ≤ (tak1 st a s cs).stock k t) ∧ (∀ c ∈ (tak1 st a s cs).counts, 0 ≤ c.1 ∧ c.1 < S ∧ (∀ x ∈ c.2, 0 ≤ x) ∧ c.2.length = a.lk.length) ∧ ((tak1 st a s cs).counts.map (·.1)).Nodup := by
  refine ⟨addI_nn ok.nn (ok.lr a hr) hc _ (Nat.le_refl _), fun c hc' => ?_, ?_⟩
  · rcases List.mem_append.mp hc' with z | z
    · have := ok.ck c z
      exact ⟨this.1, this.2.1, this.2.2.1, this.2.2.2 a hr⟩
    · rw [List.mem_singleton.mp z]
      exact ⟨s0, s1, hc, hl⟩
  · show ((st.counts ++ [(s, cs)]).map (·.1)).Nodup
    rw [List.map_append, List.nodup_append]
    refine ⟨ok.cd, List.nodup_cons.mpr ⟨(fun z => nomatch z), List.nodup_nil⟩, fun x hx y hy e => ?_⟩
    rw [List.map_cons, List.map_nil, List.mem_singleton] at hy
    subst hy e
    exact hn hx
theorem takeC_ok {n m S : Nat} {st : Hs} {a : Ask} {s : Int} {cs : List Int} (ok : HsOk n m S st) (hr : st.round = some a) (s0 : 0 ≤ s) (s1 : s < S) (hn : s ∉ st.counts.map (·.1)) (hc : ∀ x ∈ cs, 0 ≤ x) (hl : cs.length = a.lk.length) : HsOk n m S (takeC S st a s cs) := by
  obtain ⟨h1, h2, h3⟩ := tak1_pre ok hr s0 s1 hn hc hl
  have hS : 0 < S := by omega
  unfold takeC
  split
  · refine dec_ok h1 ⟨h1, ok.bl, ok.lq, fun b e => by cases e; exact ok.lr a hr, (fun c hc => nomatch hc), List.nodup_nil, fun _ _ => hS, (fun z => nomatch z), fun z => nomatch z⟩ (ok.lr a hr) (fun c hc => (h2 c hc).2.2.1) hS
  · next ne =>
    have l1 := ok.cl a hr
    refine ⟨h1, ok.bl, ok.lq, ok.lr, fun c hc => ⟨(h2 c hc).1, (h2 c hc).2.1, (h2 c hc).2.2.1, fun b e => ?_⟩, h3, fun b e => ?_, fun z => ?_, fun z => ?_⟩
    · have e : st.round = some b := e
      rw [hr] at e; cases e
      exact (h2 c hc).2.2.2
    · show (st.counts ++ [(s, cs)]).length < S
      rw [List.length_append, List.length_singleton]; omega
    · have z : st.round = none := z
      rw [hr] at z; cases z
    · have z : st.round = none := z
      rw [hr] at z; cases z
theorem pigeon : ∀ {xs ys : List Int}, xs.Nodup → (∀ x ∈ xs, x ∈ ys) → xs.length ≤ ys.length
  | [], _, _, _ => Nat.zero_le _
  | x :: xs, ys, nd, sub => by
    obtain ⟨n1, n2⟩ := List.nodup_cons.mp nd
    have hx := sub x List.mem_cons_self
    have ih := pigeon (ys := ys.erase x) n2 fun y hy => (List.mem_erase_of_ne (fun e : y = x => n1 (by rw [← e]; exact hy))).mpr (sub y (List.mem_cons_of_mem _ hy))
    have := List.length_erase_of_mem hx
    have : 0 < ys.length := List.length_pos_of_mem hx
    rw [List.length_cons]
    omega
/-- every seller is there when there are so many -/
theorem all_there {S : Nat} {l : List (Int × List Int)} (nd : (l.map (·.1)).Nodup) (b : ∀ c ∈ l, 0 ≤ c.1 ∧ c.1 < S) (h : l.length = S) {j : Nat} (hj : j < S) : ∃ cs, l.lookup (j : Int) = some cs ∧ ((j : Int), cs) ∈ l := by
  have mem : (j : Int) ∈ l.map (·.1) := by
    refine Classical.byContradiction fun no => ?_
    have nd2 : ((j : Int) :: l.map (·.1)).Nodup := List.nodup_cons.mpr ⟨no, nd⟩
    have sub : ∀ x ∈ (j : Int) :: l.map (·.1), x ∈ (List.range S).map fun (i : Nat) => (i : Int) := fun x hx => by
      rcases List.mem_cons.mp hx with rfl | hx
      · exact List.mem_map.mpr ⟨j, List.mem_range.mpr hj, rfl⟩
      · obtain ⟨c, hc, rfl⟩ := List.mem_map.mp hx
        have := b c hc
        exact List.mem_map.mpr ⟨c.1.toNat, List.mem_range.mpr (by omega), by omega⟩
    have := pigeon nd2 sub
    rw [List.length_cons, List.length_map, List.length_map, List.length_range] at this
    omega
  clear h
  induction l with
  | nil => exact nomatch mem
  | cons p l ih =>
    rw [List.lookup_cons]
    by_cases e : (j : Int) = p.1
    · rw [e, beq_self_eq_true]
      exact ⟨p.2, rfl, List.mem_cons_self⟩
    · have e2 : ((j : Int) == p.1) = false := beq_eq_false_iff_ne.mpr e
      rw [e2]
      rw [List.map_cons] at nd mem
      obtain ⟨cs, h1, h2⟩ := ih (List.nodup_cons.mp nd).2 (fun c hc => b c (List.mem_cons_of_mem _ hc)) ((List.mem_cons.mp mem).resolve_left e)
      exact ⟨cs, h1, List.mem_cons_of_mem _ h2⟩
theorem some_left {S : Nat} {l : List (Int × List Int)} (h : l.length < S) : ∃ j, j < S ∧ (j : Int) ∉ l.map (·.1) := by
  refine Classical.byContradiction fun no => ?_
  have all : ∀ j, j < S → (j : Int) ∈ l.map (·.1) := fun j hj => Classical.byContradiction fun z => no ⟨j, hj, z⟩
  have nd : ((List.range S).map fun (i : Nat) => (i : Int)).Nodup := mapNodup (fun a b e => by omega) List.nodup_range
  have sub : ∀ x ∈ (List.range S).map (fun (i : Nat) => (i : Int)), x ∈ l.map (·.1) := fun x hx => by
    obtain ⟨i, hi, rfl⟩ := List.mem_map.mp hx
    exact all i (List.mem_range.mp hi)
  have := pigeon nd sub
  rw [List.length_map, List.length_range, List.length_map] at this
  omega
end MD

namespace MD
open PySem PySem.Spec PyProof.Rows L2
/-! ### the house in the heap -/
def CntAt (H : Hp) : List (Int × List Int) → List (Key × V) → Prop
  | [], k => k = []
  | c :: cs, k => ∃ v r, k = (.inl c.1, v) :: r ∧ RepT H (.sq false (intD c.2)) v ∧ CntAt H cs r
theorem CntAt.kp {M : List Addr} {H H' : Hp} (k : Kp M H H') : ∀ {cs : List (Int × List Int)} {kvs : List (Key × V)}, CntAt H cs kvs → CntAt H' cs kvs
  | [], _, h => h
  | c :: cs, _, ⟨v, r, e, h1, h2⟩ => ⟨v, r, e, h1.kp k, CntAt.kp k h2⟩
theorem CntAt.len {H : Hp} : ∀ {cs : List (Int × List Int)} {kvs : List (Key × V)}, CntAt H cs kvs → kvs.length = cs.length
  | [], _, h => by rw [show _ = [] from h]; rfl
  | c :: cs, _, ⟨v, r, e, h1, h2⟩ => by rw [e, List.length_cons, List.length_cons, CntAt.len h2]
theorem CntAt.some {H : Hp} {s : Int} {x : List Int} : ∀ {cs : List (Int × List Int)} {kvs : List (Key × V)}, CntAt H cs kvs → cs.lookup s = some x → ∃ v, valV kvs (.inl s) = some v ∧ RepT H (.sq false (intD x)) v
  | [], _, _, e => nomatch e
  | c :: cs, _, ⟨v, r, e, h1, h2⟩, l => by
    rw [List.lookup_cons] at l
    subst e
    by_cases z : s = c.1
    · rw [z, beq_self_eq_true] at l
      cases l
      exact ⟨v, valV_pos (congrArg Sum.inl z.symm), h1⟩
    · rw [beq_eq_false_iff_ne.mpr z] at l
      obtain ⟨w, g1, g2⟩ := CntAt.some h2 l
      exact ⟨w, by rw [valV_neg (fun q => z (Sum.inl.inj q).symm)]; exact g1, g2⟩
theorem CntAt.none {H : Hp} {s : Int} : ∀ {cs : List (Int × List Int)} {kvs : List (Key × V)}, CntAt H cs kvs → s ∉ cs.map (·.1) → valV kvs (.inl s) = none
  | [], _, h, _ => by rw [show _ = [] from h]; rfl
  | c :: cs, _, ⟨v, r, e, h1, h2⟩, n => by
    subst e
    rw [List.map_cons, List.mem_cons, not_or] at n
    rw [valV_neg (fun q => n.1 (Sum.inl.inj q).symm)]
    exact CntAt.none h2 n.2
theorem CntAt.in_ {H : Hp} {s : Int} {cs : List (Int × List Int)} {kvs : List (Key × V)} (h : CntAt H cs kvs) : (valV kvs (.inl s)).isSome = decide (s ∈ cs.map (·.1)) := by
  by_cases z : s ∈ cs.map (·.1)
  · rw [decide_eq_true z]
    have : ∃ x, cs.lookup s = Option.some x := by
      clear h
      induction cs with
      | nil => exact nomatch z
      | cons c cs ih =>
        rw [List.lookup_cons]
        by_cases e : s = c.1
        · rw [e, beq_self_eq_true]; exact ⟨_, rfl⟩
        · rw [beq_eq_false_iff_ne.mpr e]
          exact ih ((List.mem_cons.mp z).resolve_left e)
    obtain ⟨x, e⟩ := this
    obtain ⟨v, e2, _⟩ := h.some e
    rw [e2]; rfl
  · rw [decide_eq_false z, h.none z]; rfl
theorem CntAt.snoc {H : Hp} {s : Int} {x : List Int} {v : V} (r : RepT H (.sq false (intD x)) v) : ∀ {cs : List (Int × List Int)} {kvs : List (Key × V)}, CntAt H cs kvs → CntAt H (cs ++ [(s, x)]) (kvs ++ [(.inl s, v)])
  | [], _, h => by rw [show _ = [] from h]; exact ⟨v, [], rfl, r, rfl⟩
  | c :: cs, _, ⟨u, q, e, h1, h2⟩ => by rw [e]; exact ⟨u, _, rfl, h1, CntAt.snoc r h2⟩
theorem CntAt.put {H : Hp} {s : Int} {x : List Int} {v : V} {cs : List (Int × List Int)} {kvs : List (Key × V)} (h : CntAt H cs kvs) (n : s ∉ cs.map (·.1)) (r : RepT H (.sq false (intD x)) v) : CntAt H (cs ++ [(s, x)]) (putK kvs (.inl s) v) := by
  rw [putK_new v (h.none n)]
  exact h.snoc r
structure Ad where
  sA : Addr
  bA : Addr
  qA : Addr
  cA : Addr
  oA : Addr
  bs : List Addr
  rv : V
def Ad.fp (A : Ad) : List Addr := A.sA :: A.bA :: A.qA :: A.cA :: A.oA :: A.bs
structure HCore (H : Hp) (A : Ad) (su : Su) (st : Hs) (cs : List (Int × List Int)) : Prop where
  hs : H A.sA = some (.dT (gridT su.rooms.length su.nights.toNat st.stock))
  hb : H A.bA = some (.lst (A.bs.map V.ref))
  hbs : ∀ i b, A.bs[i]? = some b → ∃ vs, H b = some (.lst vs) ∧ RepTs H (st.books.getD i []) vs
  bl : A.bs.length = su.sellers.toNat
  hq : ∃ qs, H A.qA = some (.lst qs) ∧ RepTs H (st.queue.map askD) qs
  hr : RepT H (rdD st.round) A.rv
  hc : ∃ kvs, H A.cA = some (.dK kvs) ∧ CntAt H cs kvs
  ho : ∃ os, H A.oA = some (.lst os) ∧ RepTs H st.out os
  bq : A.bA ≠ A.qA
  bo : A.bA ≠ A.oA
  qo : A.qA ≠ A.oA
  nb : A.bA ∉ A.bs
  nq : A.qA ∉ A.bs
  no : A.oA ∉ A.bs
  nd : A.bs.Nodup
theorem Ad.fp_mem {A : Ad} {x : Addr} : x ∈ A.fp ↔ x = A.sA ∨ x = A.bA ∨ x = A.qA ∨ x = A.cA ∨ x = A.oA ∨ x ∈ A.bs := by
  unfold Ad.fp
  simp only [List.mem_cons]
section
variable {M : List Addr} {H H' : Hp} {A : Ad} {su : Su} {st : Hs} {cs : List (Int × List Int)}
theorem HCore.bsb (h : HCore H A su st cs) {b : Addr} (hb : b ∈ A.bs) : ∃ vs, H b = some (.lst vs) := by
  obtain ⟨i, hi, e⟩ := List.getElem_of_mem hb
  obtain ⟨vs, h1, _⟩ := h.hbs i b (by rw [← e]; simp [hi])
  exact ⟨vs, h1⟩
theorem HCore.live (h : HCore H A su st cs) {x : Addr} (hx : x ∈ A.fp) : ∃ o, H x = some o ∧ NT o ∧ NB o := by
  rcases Ad.fp_mem.mp hx with rfl | rfl | rfl | rfl | rfl | hx
  · exact ⟨_, h.hs, trivial, trivial⟩
  · exact ⟨_, h.hb, trivial, trivial⟩
  · obtain ⟨_, e, _⟩ := h.hq; exact ⟨_, e, trivial, trivial⟩
  · obtain ⟨_, e, _⟩ := h.hc; exact ⟨_, e, trivial, trivial⟩
  · obtain ⟨_, e, _⟩ := h.ho; exact ⟨_, e, trivial, trivial⟩
  · obtain ⟨_, e⟩ := h.bsb hx; exact ⟨_, e, trivial, trivial⟩
theorem HCore.kp (h : HCore H A su st cs) (k : Kp M H H') (d : ∀ x ∈ A.fp, x ∉ M) : HCore H' A su st cs := by
  have f : ∀ {x}, (x = A.sA ∨ x = A.bA ∨ x = A.qA ∨ x = A.cA ∨ x = A.oA ∨ x ∈ A.bs) → x ∉ M := fun {x} z => d x (Ad.fp_mem.mpr z)
  refine ⟨k.at h.hs (f (.inl rfl)), k.at h.hb (f (.inr (.inl rfl))), fun i b e => ?_, h.bl, ?_, h.hr.kp k, ?_, ?_, h.bq, h.bo, h.qo, h.nb, h.nq, h.no, h.nd⟩
  · obtain ⟨vs, h1, h2⟩ := h.hbs i b e
    exact ⟨vs, k.at h1 (f (.inr (.inr (.inr (.inr (.inr (List.mem_of_getElem? e))))))), h2.kp k⟩
  · obtain ⟨qs, h1, h2⟩ := h.hq
    exact ⟨qs, k.at h1 (f (.inr (.inr (.inl rfl)))), h2.kp k⟩
  · obtain ⟨qs, h1, h2⟩ := h.hc
    exact ⟨qs, k.at h1 (f (.inr (.inr (.inr (.inl rfl))))), h2.kp k⟩
  · obtain ⟨qs, h1, h2⟩ := h.ho
    exact ⟨qs, k.at h1 (f (.inr (.inr (.inr (.inr (.inl rfl)))))), h2.kp k⟩
theorem HCore.kp0 (h : HCore H A su st cs) (k : Kp [] H H') : HCore H' A su st cs := h.kp k fun _ _ z => nomatch z
/-- the parts that are of other kinds stand apart -/
theorem HCore.ne (h : HCore H A su st cs) : A.sA ≠ A.bA ∧ A.sA ≠ A.qA ∧ A.sA ≠ A.cA ∧ A.sA ≠ A.oA ∧ A.sA ∉ A.bs ∧ A.cA ≠ A.bA ∧ A.cA ≠ A.qA ∧ A.cA ≠ A.oA ∧ A.cA ∉ A.bs := by
  obtain ⟨qs, hq, _⟩ := h.hq
  obtain ⟨kvs, hc, _⟩ := h.hc
  obtain ⟨os, ho, _⟩ := h.ho
  have hs := h.hs
  have hb := h.hb
  refine ⟨ne_of hs hb (fun z => nomatch z), ne_of hs hq (fun z => nomatch z), ne_of hs hc (fun z => nomatch z), ne_of hs ho (fun z => nomatch z), fun z => ?_, ne_of hc hb (fun z => nomatch z), ne_of hc hq (fun z => nomatch z), ne_of hc ho (fun z => nomatch z), fun z => ?_⟩
  · obtain ⟨vs, e⟩ := h.bsb z
    rw [hs] at e; cases e
  · obtain ⟨vs, e⟩ := h.bsb z
    rw [hc] at e; cases e
/-- a part other than the one that is changed stays -/
theorem HCore.setS (h : HCore H A su st cs) {f : F2} (k : Kp [A.sA] H H') (e : H' A.sA = some (.dT (gridT su.rooms.length su.nights.toNat f))) : HCore H' A su { st with stock := f } cs := by
  obtain ⟨n1, n2, n3, n4, n5, _⟩ := h.ne
  refine ⟨e, k.at h.hb (nmem_one n1.symm), fun i b eb => ?_, h.bl, ?_, h.hr.kp k, ?_, ?_, h.bq, h.bo, h.qo, h.nb, h.nq, h.no, h.nd⟩
  · obtain ⟨vs, h1, h2⟩ := h.hbs i b eb
    exact ⟨vs, k.at h1 (nmem_one fun z => n5 (by rw [← z]; exact List.mem_of_getElem? eb)), h2.kp k⟩
  · obtain ⟨qs, h1, h2⟩ := h.hq
    exact ⟨qs, k.at h1 (nmem_one n2.symm), h2.kp k⟩
  · obtain ⟨qs, h1, h2⟩ := h.hc
    exact ⟨qs, k.at h1 (nmem_one n3.symm), h2.kp k⟩
  · obtain ⟨qs, h1, h2⟩ := h.ho
    exact ⟨qs, k.at h1 (nmem_one n4.symm), h2.kp k⟩
theorem HCore.setO (h : HCore H A su st cs) {out : List D} {os : List V} (k : Kp [A.oA] H H') (e : H' A.oA = some (.lst os)) (r : RepTs H' out os) : HCore H' A su { st with out := out } cs := by
  obtain ⟨n1, n2, n3, n4, n5, n6, n7, n8, n9⟩ := h.ne
  refine ⟨k.at h.hs (nmem_one n4), k.at h.hb (nmem_one h.bo), fun i b eb => ?_, h.bl, ?_, h.hr.kp k, ?_, ⟨os, e, r⟩, h.bq, h.bo, h.qo, h.nb, h.nq, h.no, h.nd⟩
  · obtain ⟨vs, h1, h2⟩ := h.hbs i b eb
    exact ⟨vs, k.at h1 (nmem_one fun z => h.no (by rw [← z]; exact List.mem_of_getElem? eb)), h2.kp k⟩
  · obtain ⟨qs, h1, h2⟩ := h.hq
    exact ⟨qs, k.at h1 (nmem_one h.qo), h2.kp k⟩
  · obtain ⟨qs, h1, h2⟩ := h.hc
    exact ⟨qs, k.at h1 (nmem_one n8), h2.kp k⟩
theorem HCore.setQ (h : HCore H A su st cs) {q : List Ask} {qs : List V} (k : Kp [A.qA] H H') (e : H' A.qA = some (.lst qs)) (r : RepTs H' (q.map askD) qs) : HCore H' A su { st with queue := q } cs := by
  obtain ⟨n1, n2, n3, n4, n5, n6, n7, n8, n9⟩ := h.ne
  refine ⟨k.at h.hs (nmem_one n2), k.at h.hb (nmem_one h.bq), fun i b eb => ?_, h.bl, ⟨qs, e, r⟩, h.hr.kp k, ?_, ?_, h.bq, h.bo, h.qo, h.nb, h.nq, h.no, h.nd⟩
  · obtain ⟨vs, h1, h2⟩ := h.hbs i b eb
    exact ⟨vs, k.at h1 (nmem_one fun z => h.nq (by rw [← z]; exact List.mem_of_getElem? eb)), h2.kp k⟩
  · obtain ⟨qs, h1, h2⟩ := h.hc
    exact ⟨qs, k.at h1 (nmem_one n7), h2.kp k⟩
  · obtain ⟨qs, h1, h2⟩ := h.ho
    exact ⟨qs, k.at h1 (nmem_one h.qo.symm), h2.kp k⟩
theorem HCore.setC (h : HCore H A su st cs) {cs' : List (Int × List Int)} {kvs : List (Key × V)} (k : Kp [A.cA] H H') (e : H' A.cA = some (.dK kvs)) (r : CntAt H' cs' kvs) : HCore H' A su st cs' := by
  obtain ⟨n1, n2, n3, n4, n5, n6, n7, n8, n9⟩ := h.ne
  refine ⟨k.at h.hs (nmem_one n3), k.at h.hb (nmem_one n6.symm), fun i b eb => ?_, h.bl, ?_, h.hr.kp k, ⟨kvs, e, r⟩, ?_, h.bq, h.bo, h.qo, h.nb, h.nq, h.no, h.nd⟩
  · obtain ⟨vs, h1, h2⟩ := h.hbs i b eb
    exact ⟨vs, k.at h1 (nmem_one fun z => n9 (by rw [← z]; exact List.mem_of_getElem? eb)), h2.kp k⟩
  · obtain ⟨qs, h1, h2⟩ := h.hq
    exact ⟨qs, k.at h1 (nmem_one n7.symm), h2.kp k⟩
  · obtain ⟨qs, h1, h2⟩ := h.ho
    exact ⟨qs, k.at h1 (nmem_one n8.symm), h2.kp k⟩
theorem HCore.setB (h : HCore H A su st cs) {i : Nat} {b : Addr} {vs : List V} {bk : List (List D)} (hi : A.bs[i]? = some b) (k : Kp [b] H H') (e : H' b = some (.lst vs)) (r : RepTs H' (bk.getD i []) vs) (ot : ∀ j, j ≠ i → bk.getD j [] = st.books.getD j []) :
    HCore H' A su { st with books := bk } cs := by
  obtain ⟨n1, n2, n3, n4, n5, n6, n7, n8, n9⟩ := h.ne
  have hm := List.mem_of_getElem? hi
  refine ⟨k.at h.hs (nmem_one fun z => n5 (z ▸ hm)), k.at h.hb (nmem_one fun z => h.nb (z ▸ hm)), fun j c ec => ?_, h.bl, ?_, h.hr.kp k, ?_, ?_, h.bq, h.bo, h.qo, h.nb, h.nq, h.no, h.nd⟩
  · by_cases z : j = i
    · subst z
      rw [hi] at ec; cases ec
      exact ⟨vs, e, r⟩
    · obtain ⟨ws, h1, h2⟩ := h.hbs j c ec
      refine ⟨ws, k.at h1 (nmem_one fun y => z ?_), ?_⟩
      · subst y
        exact (List.getElem?_inj (List.getElem?_eq_some_iff.mp ec).1 h.nd).mp (ec.trans hi.symm)
      · show RepTs H' (bk.getD j []) ws
        rw [ot j z]
        exact h2.kp k
  · obtain ⟨qs, h1, h2⟩ := h.hq
    exact ⟨qs, k.at h1 (nmem_one fun z => h.nq (z ▸ hm)), h2.kp k⟩
  · obtain ⟨qs, h1, h2⟩ := h.hc
    exact ⟨qs, k.at h1 (nmem_one fun z => n9 (z ▸ hm)), h2.kp k⟩
  · obtain ⟨qs, h1, h2⟩ := h.ho
    exact ⟨qs, k.at h1 (nmem_one fun z => h.no (z ▸ hm)), h2.kp k⟩
theorem HCore.setR (h : HCore H A su st cs) {r : Option Ask} {v : V} (e : RepT H (rdD r) v) : HCore H { A with rv := v } su { st with round := r } cs :=
  ⟨h.hs, h.hb, h.hbs, h.bl, h.hq, e, h.hc, h.ho, h.bq, h.bo, h.qo, h.nb, h.nq, h.no, h.nd⟩
/-- a new list of bodies -/
theorem HCore.newO (h : HCore H A su st cs) {o : Addr} {out : List D} {os : List V} (e : H o = some (.lst os)) (r : RepTs H out os) (f : o ∉ A.fp) : HCore H { A with oA := o } su { st with out := out } cs := by
  have z : ∀ {x}, (x = A.sA ∨ x = A.bA ∨ x = A.qA ∨ x = A.cA ∨ x = A.oA ∨ x ∈ A.bs) → o ≠ x := fun {x} z e => f (by rw [e]; exact Ad.fp_mem.mpr z)
  exact ⟨h.hs, h.hb, h.hbs, h.bl, h.hq, h.hr, h.hc, ⟨os, e, r⟩, h.bq, (z (.inr (.inl rfl))).symm, (z (.inr (.inr (.inl rfl)))).symm, h.nb, h.nq, fun y => f (Ad.fp_mem.mpr (.inr (.inr (.inr (.inr (.inr y)))))), h.nd⟩
theorem HCore.newC (h : HCore H A su st cs) {c : Addr} {cs' : List (Int × List Int)} {kvs : List (Key × V)} (e : H c = some (.dK kvs)) (r : CntAt H cs' kvs) : HCore H { A with cA := c } su st cs' :=
  ⟨h.hs, h.hb, h.hbs, h.bl, h.hq, h.hr, ⟨kvs, e, r⟩, h.ho, h.bq, h.bo, h.qo, h.nb, h.nq, h.no, h.nd⟩
theorem HCore.setCnt (h : HCore H A su st cs) {c2 : List (Int × List Int)} : HCore H A su { st with counts := c2 } cs := ⟨h.hs, h.hb, h.hbs, h.bl, h.hq, h.hr, h.hc, h.ho, h.bq, h.bo, h.qo, h.nb, h.nq, h.no, h.nd⟩
end
def fH (A : Ad) : List (Str × V) := [("stock", .ref A.sA), ("books", .ref A.bA), ("queue", .ref A.qA), ("round", A.rv), ("_counts", .ref A.cA), ("_bodies", .ref A.oA)]
def mK (A : Ad) : List (Key × V) := [(.inr "stock", .ref A.sA), (.inr "books", .ref A.bA), (.inr "queue", .ref A.qA), (.inr "round", A.rv), (.inr "counts", .ref A.cA), (.inr "out", .ref A.oA)]
/-- the program's house -/
structure HoAt (C : Addr) (H : Hp) (h : Addr) (A : Ad) (su : Su) (st : Hs) : Prop where
  hh : ∃ dx, H h = some (.ins C dx (fH A))
  co : HCore H A su st st.counts
/-- the law's house -/
structure MdAt (H : Hp) (m : Addr) (A : Ad) (su : Su) (st : Hs) : Prop where
  hm : H m = some (.dK (mK A))
  co : ∃ cs, HCore H A su st cs ∧ (st.round ≠ none → cs = st.counts)
  nc : m ≠ A.cA
def Gr (H : Hp) (A A' : Ad) : Prop := ∀ a ∈ A'.fp, a ∈ A.fp ∨ H a = none
theorem Gr.refl {H : Hp} {A : Ad} : Gr H A A := fun _ h => .inl h
theorem Gr.trans {M : List Addr} {H H1 : Hp} {A A1 A2 : Ad} (g : Gr H A A1) (k : Kp M H H1) (g2 : Gr H1 A1 A2) : Gr H A A2 := fun a ha => (g2 a ha).elim (g a) fun e => .inr (k.free e)
theorem HoAt.nh {C : Addr} {H : Hp} {h : Addr} {A : Ad} {su : Su} {st : Hs} (q : HoAt C H h A su st) : h ∉ A.fp := fun z => by
  obtain ⟨dx, e⟩ := q.hh
  rcases Ad.fp_mem.mp z with rfl | rfl | rfl | rfl | rfl | z
  · rw [q.co.hs] at e; cases e
  · rw [q.co.hb] at e; cases e
  · obtain ⟨_, e2, _⟩ := q.co.hq; rw [e2] at e; cases e
  · obtain ⟨_, e2, _⟩ := q.co.hc; rw [e2] at e; cases e
  · obtain ⟨_, e2, _⟩ := q.co.ho; rw [e2] at e; cases e
  · obtain ⟨_, e2⟩ := q.co.bsb z; rw [e2] at e; cases e
theorem MdAt.nm {H : Hp} {m : Addr} {A : Ad} {su : Su} {st : Hs} (q : MdAt H m A su st) : m ∉ A.fp := fun z => by
  have e := q.hm
  obtain ⟨cs, co, _⟩ := q.co
  rcases Ad.fp_mem.mp z with rfl | rfl | rfl | z | rfl | z
  · rw [co.hs] at e; cases e
  · rw [co.hb] at e; cases e
  · obtain ⟨_, e2, _⟩ := co.hq; rw [e2] at e; cases e
  · exact q.nc z
  · obtain ⟨_, e2, _⟩ := co.ho; rw [e2] at e; cases e
  · obtain ⟨_, e2⟩ := co.bsb z; rw [e2] at e; cases e
theorem HoAt.kp {M : List Addr} {C : Addr} {H H' : Hp} {h : Addr} {A : Ad} {su : Su} {st : Hs} (q : HoAt C H h A su st) (k : Kp M H H') (d : ∀ x ∈ h :: A.fp, x ∉ M) : HoAt C H' h A su st :=
  ⟨q.hh.elim fun dx e => ⟨dx, k.at e (d h List.mem_cons_self)⟩, q.co.kp k fun x hx => d x (List.mem_cons_of_mem _ hx)⟩
theorem MdAt.kp {M : List Addr} {H H' : Hp} {m : Addr} {A : Ad} {su : Su} {st : Hs} (q : MdAt H m A su st) (k : Kp M H H') (d : ∀ x ∈ m :: A.fp, x ∉ M) : MdAt H' m A su st :=
  ⟨k.at q.hm (d m List.mem_cons_self), q.co.elim fun cs c => ⟨cs, c.1.kp k fun x hx => d x (List.mem_cons_of_mem _ hx), c.2⟩, q.nc⟩
theorem mK_stock (A : Ad) : valV (mK A) (.inr "stock") = some (.ref A.sA) := by first | rfl | decide +kernel
theorem mK_books (A : Ad) : valV (mK A) (.inr "books") = some (.ref A.bA) := by first | rfl | decide +kernel
theorem mK_queue (A : Ad) : valV (mK A) (.inr "queue") = some (.ref A.qA) := by first | rfl | decide +kernel
theorem mK_round (A : Ad) : valV (mK A) (.inr "round") = some A.rv := by first | rfl | decide +kernel
theorem mK_counts (A : Ad) : valV (mK A) (.inr "counts") = some (.ref A.cA) := by first | rfl | decide +kernel
theorem mK_out (A : Ad) : valV (mK A) (.inr "out") = some (.ref A.oA) := by first | rfl | decide +kernel
theorem mK_putR (A : Ad) (v : V) : putK (mK A) (.inr "round") v = mK { A with rv := v } := by first | rfl | decide +kernel
theorem mK_putC (A : Ad) (c : Addr) : putK (mK A) (.inr "counts") (.ref c) = mK { A with cA := c } := by first | rfl | decide +kernel
theorem mK_make (A : Ad) : mergeK [] (mK A) = mK A := by first | rfl | decide +kernel
end MD

namespace MD
open PySem PySem.Spec PyProof.Rows L2
/-! ### steps of the house: what they send, what stays so -/
inductive Lt10 where
  | close (s : Int) (l : Lk)
  | op (s : Int) (cs : List Int) (a : D)
def lt10D : Lt10 → D
  | .close s l => closeD s l
  | .op s cs a => openD s cs a
def Lt10.ok (st : Hs) : Lt10 → Prop
  | .close _ l => l.length ≤ 48
  | .op _ cs a => (∃ ak, st.round = some ak ∧ cs.length = ak.lk.length ∧ cs.length ≤ 48) ∧ (∀ x ∈ cs, 0 ≤ x) ∧ ((a = .v .non) ∨ ∃ n g, a = .sq false [dI n, .v (.bl g)])
theorem ok_sq {n : Nat} {l : Bool} {ds : List D} (h : ds.length ≤ 100000) (a : ∀ d ∈ ds, D.ok n d) : D.ok (n + 1) (.sq l ds) := by unfold D.ok; exact ⟨h, a⟩
theorem ok_v {n : Nat} {x : V} : D.ok n (.v x) := by unfold D.ok; trivial
theorem ok_ints {n : Nat} {l : Bool} {cs : List Int} (h : cs.length ≤ 100000) : D.ok (n + 1) (.sq l (intD cs)) := ok_sq (by unfold intD; rw [List.length_map]; exact h) fun d hd => by
  obtain ⟨x, _, rfl⟩ := List.mem_map.mp hd
  exact ok_v
theorem ok_pr {n : Nat} {i j : Int} : D.ok (n + 1) (prD i j) := ok_sq (by show 2 ≤ 100000; decide) fun d hd => by
  simp only [List.mem_cons, List.not_mem_nil, or_false] at hd
  rcases hd with rfl | rfl <;> exact ok_v
theorem ok_out {n : Nat} {s : Int} {b : D} (h : D.ok n b) : D.ok (n + 1) (outD s b) := ok_sq (by show 2 ≤ 100000; decide) fun d hd => by
  simp only [List.mem_cons, List.not_mem_nil, or_false] at hd
  rcases hd with rfl | rfl
  · exact ok_v
  · exact h
theorem ok_lk {l : Lk} (h : l.length ≤ 48) : D.ok 3 (lkD l) := ok_sq (by rw [List.length_map]; omega) fun d hd => by
  obtain ⟨e, _, rfl⟩ := List.mem_map.mp hd
  refine ok_sq (by show 2 ≤ 100000; decide) fun d hd => ?_
  simp only [List.mem_cons, List.not_mem_nil, or_false] at hd
  rcases hd with rfl | rfl
  · exact ok_pr
  · exact ok_v
theorem ok_ask {a : Ask} (h : a.lk.length ≤ 48) : D.ok 4 (askD a) := ok_sq (by show 3 ≤ 100000; decide) fun d hd => by
  simp only [List.mem_cons, List.not_mem_nil, or_false] at hd
  rcases hd with rfl | rfl | rfl
  · exact ok_v
  · exact ok_v
  · exact ok_lk h
theorem ok_3 {n : Nat} {x : Str} {k t : Int} : D.ok (n + 1) (.sq false [dS x, dI k, dI t]) := ok_sq (by show 3 ≤ 100000; decide) fun d hd => by
  simp only [List.mem_cons, List.not_mem_nil, or_false] at hd
  rcases hd with rfl | rfl | rfl <;> exact ok_v
theorem ok_lt {st : Hs} {x : Lt10} (h : x.ok st) : D.ok 4 (lt10D x) := by
  cases x with
  | close s l =>
    have h : l.length ≤ 48 := h
    refine ok_out (ok_sq (by show 2 ≤ 100000; decide) fun d hd => ?_)
    simp only [List.mem_cons, List.not_mem_nil, or_false] at hd
    rcases hd with rfl | rfl
    · exact ok_v
    · refine ok_sq (by rw [List.length_map]; omega) fun d hd => ?_
      obtain ⟨e, _, rfl⟩ := List.mem_map.mp hd
      exact ok_pr
  | op s cs a =>
    obtain ⟨⟨ak, _, _, h⟩, _, ha⟩ := h
    refine ok_out (ok_sq (by show 3 ≤ 100000; decide) fun d hd => ?_)
    simp only [List.mem_cons, List.not_mem_nil, or_false] at hd
    rcases hd with rfl | rfl | rfl
    · exact ok_v
    · exact ok_ints (by omega)
    · rcases ha with rfl | ⟨n, g, rfl⟩
      · exact ok_v
      · refine ok_sq (by show 2 ≤ 100000; decide) fun d hd => ?_
        simp only [List.mem_cons, List.not_mem_nil, or_false] at hd
        rcases hd with rfl | rfl <;> exact ok_v
def lookM (S : Nat) (st : Hs) : List Lt10 := match st.round, st.queue with
  | none, a :: _ => (List.range S).map fun (s : Nat) => .close s a.lk
  | _, _ => []
theorem look_out (S : Nat) (st : Hs) : (look S st).out = st.out ++ (lookM S st).map lt10D := by
  obtain ⟨stock, books, queue, round, counts, out⟩ := st
  cases round with
  | some a => exact (List.append_nil _).symm
  | none =>
    cases queue with
    | nil => exact (List.append_nil _).symm
    | cons a q =>
      show out ++ closes S a.lk = out ++ ((List.range S).map fun (s : Nat) => Lt10.close s a.lk).map lt10D
      rw [List.map_map]
      rfl
theorem lookM_len (S : Nat) (st : Hs) : (lookM S st).length ≤ S := by
  unfold lookM
  split
  · rw [List.length_map, List.length_range]; exact Nat.le_refl _
  · exact Nat.zero_le _
theorem lookM_ok {S : Nat} {st st' : Hs} (h : ∀ a ∈ st.queue, a.lk.length ≤ 48) : ∀ x ∈ lookM S st, x.ok st' := fun x hx => by
  unfold lookM at hx
  split at hx
  · next a q _ e =>
    obtain ⟨s, _, rfl⟩ := List.mem_map.mp hx
    exact h a (by rw [e]; exact List.mem_cons_self)
  · exact nomatch hx
def decM (st : Hs) (a : Ask) (g : Bool) (f0 : F2) (S : Nat) : List Lt10 := (List.range S).map fun (j : Nat) => .op j (backI (decI st a g f0 j).1 a.lk (cntOf st j) a.lk.length).2 (ansD a g j)
theorem decI_out (st : Hs) (a : Ask) (g : Bool) (f0 : F2) : ∀ j, (decI st a g f0 j).2 = st.out ++ (decM st a g f0 j).map lt10D
  | 0 => (List.append_nil _).symm
  | j + 1 => by
    show (decI st a g f0 j).2 ++ [_] = _
    rw [decI_out st a g f0 j]
    unfold decM
    rw [List.range_succ, List.map_append, List.map_append, List.append_assoc]
    rfl
theorem ans_ok (a : Ask) (g : Bool) (s : Int) : (ansD a g s = .v .non) ∨ ∃ n b, ansD a g s = .sq false [dI n, .v (.bl b)] := by
  unfold ansD
  split
  · exact .inr ⟨_, _, rfl⟩
  · exact .inl rfl
/-- what a deed of the house does to what it has sent -/
theorem step_out {n m S : Nat} {st : Hs} {s : Int} {b : Bod} (ok : HsOk n m S st) (hb : ∀ cs, b = .closed cs → ∃ a, st.round = some a ∧ (∀ x ∈ cs, 0 ≤ x)) (ha : ∀ k l, b = .ask k l → l.length ≤ 48) :
    ∃ more : List Lt10, (step S st s b).out = st.out ++ more.map lt10D ∧ more.length ≤ S + S ∧ ∀ x ∈ more, x.ok st := by
  cases b with
  | ask k l =>
    refine ⟨_, look_out S _, Nat.le_trans (lookM_len S _) (by omega), lookM_ok fun a h => ?_⟩
    rcases List.mem_append.mp h with h | h
    · exact (ok.lq a h).le
    · rw [List.mem_singleton.mp h]; exact ha k l rfl
  | closed cs =>
    obtain ⟨a, hr, hc⟩ := hb cs rfl
    have e : step S st s (.closed cs) = takeC S st a s cs := by show (match st.round with | some a => _ | none => _) = _; rw [hr]
    rw [e]
    unfold takeC
    have la := ok.lr a hr
    split
    · have cc : ∀ (j : Int), ∀ x ∈ cntOf (tak1 st a s cs) j, 0 ≤ x := by
        intro j x hx
        unfold cntOf at hx
        cases e : (tak1 st a s cs).counts.lookup j with
        | none => rw [e] at hx; exact nomatch hx
        | some c =>
          rw [e] at hx
          have hm : ∃ p ∈ (tak1 st a s cs).counts, p.2 = c := by
            clear hx
            generalize (tak1 st a s cs).counts = l at e
            induction l with
            | nil => cases e
            | cons p l ih =>
              rw [List.lookup_cons] at e
              split at e
              · cases e; exact ⟨p, List.mem_cons_self, rfl⟩
              · obtain ⟨q, hq, e2⟩ := ih e
                exact ⟨q, List.mem_cons_of_mem _ hq, e2⟩
          obtain ⟨p, hp, rfl⟩ := hm
          rcases List.mem_append.mp hp with hp | hp
          · exact (ok.ck p hp).2.2.1 x hx
          · rw [List.mem_singleton.mp hp] at hx; exact hc x hx
      have nn1 : ∀ k t, InG n m k t → 0 ≤ (tak1 st a s cs).stock k t := addI_nn ok.nn la hc _ (Nat.le_refl _)
      have d0 : ∀ k t, InG n m k t → 0 ≤ dec0 (tak1 st a s cs) a k t := by
        unfold dec0
        split
        · next g => exact subI_nn nn1 la g _ (Nat.le_refl _)
        · exact nn1
      have all : ∀ j, ∀ k t, InG n m k t → 0 ≤ (decI (tak1 st a s cs) a (grantB (tak1 st a s cs).stock a.lk) (dec0 (tak1 st a s cs) a) j).1 k t := by
        intro j
        induction j with
        | zero => exact d0
        | succ j ih => exact (backI_nn ih la (cc j) a.lk.length (Nat.le_refl _)).1
      refine ⟨decM (tak1 st a s cs) a (grantB (tak1 st a s cs).stock a.lk) (dec0 (tak1 st a s cs) a) S ++ lookM S (dec1 S (tak1 st a s cs) a), ?_, ?_, fun x hx => ?_⟩
      · unfold dec
        rw [look_out, List.map_append, ← List.append_assoc]
        congr 1
        exact decI_out _ _ _ _ S
      · have := lookM_len S (dec1 S (tak1 st a s cs) a)
        unfold decM
        rw [List.length_append, List.length_map, List.length_range]
        omega
      · rcases List.mem_append.mp hx with hx | hx
        · unfold decM at hx
          obtain ⟨j, _, rfl⟩ := List.mem_map.mp hx
          obtain ⟨_, h2, h3⟩ := backI_nn (all j) la (cc j) a.lk.length (Nat.le_refl _)
          exact ⟨⟨a, hr, h3, by rw [h3]; exact la.le⟩, h2, ans_ok _ _ _⟩
        · exact lookM_ok (st := dec1 S (tak1 st a s cs) a) (fun b hb => (ok.lq b hb).le) x hx
    · exact ⟨[], (List.append_nil _).symm, Nat.zero_le _, fun x hx => nomatch hx⟩
  | back k t => exact ⟨[], (List.append_nil _).symm, Nat.zero_le _, fun x hx => nomatch hx⟩
  | entry r => exact ⟨[], (List.append_nil _).symm, Nat.zero_le _, fun x hx => nomatch hx⟩
theorem look_q (S : Nat) (st : Hs) : (look S st).queue.length ≤ st.queue.length ∧ (look S st).books = st.books := by
  obtain ⟨stock, books, queue, round, counts, out⟩ := st
  cases round with
  | some a => exact ⟨Nat.le_refl _, rfl⟩
  | none =>
    cases queue with
    | nil => exact ⟨Nat.le_refl _, rfl⟩
    | cons a q => exact ⟨by show q.length ≤ (a :: q).length; rw [List.length_cons]; omega, rfl⟩
/-- rows that may be entries -/
theorem step_rest {S : Nat} {st : Hs} {s : Int} {b : Bod} : (step S st s b).queue.length ≤ st.queue.length + 1 ∧ ∀ i, ((step S st s b).books.getD i [] = st.books.getD i [] ∨ ∃ r, b = .entry r ∧ (step S st s b).books.getD i [] = st.books.getD i [] ++ [r]) := by
  cases b with
  | ask k l =>
    obtain ⟨h1, h2⟩ := look_q S { st with queue := st.queue ++ [⟨s, k, l⟩] }
    refine ⟨Nat.le_trans h1 (by show (st.queue ++ [_]).length ≤ _; rw [List.length_append]; exact Nat.le_refl _), fun i => .inl ?_⟩
    show (look S _).books.getD i [] = _
    rw [h2]
  | closed cs =>
    show (match st.round with | some a => takeC S st a s cs | none => st).queue.length ≤ _ ∧ _
    cases hr : st.round with
    | none =>
      have e : step S st s (.closed cs) = st := by show (match st.round with | some a => _ | none => _) = _; rw [hr]
      rw [e]
      exact ⟨Nat.le_succ _, fun i => .inl rfl⟩
    | some a =>
      have e : step S st s (.closed cs) = takeC S st a s cs := by show (match st.round with | some a => _ | none => _) = _; rw [hr]
      rw [e]
      show (takeC S st a s cs).queue.length ≤ _ ∧ _
      unfold takeC
      split
      · obtain ⟨h1, h2⟩ := look_q S (dec1 S (tak1 st a s cs) a)
        refine ⟨Nat.le_trans h1 (Nat.le_succ _), fun i => .inl ?_⟩
        show (look S _).books.getD i [] = _
        rw [h2]
        rfl
      · exact ⟨Nat.le_succ _, fun i => .inl rfl⟩
  | back k t => exact ⟨Nat.le_succ _, fun i => .inl rfl⟩
  | entry r =>
    refine ⟨Nat.le_succ _, fun i => ?_⟩
    show (addBook st.books s.toNat r).getD i [] = _ ∨ _
    unfold addBook
    by_cases z : i = s.toNat
    · subst z
      by_cases l : s.toNat < st.books.length
      · right
        refine ⟨r, rfl, ?_⟩
        show (st.books.set s.toNat _).getD s.toNat [] = _
        rw [List.getD_eq_getElem?_getD, List.getElem?_set_self l]; rfl
      · left
        rw [List.set_eq_of_length_le (by omega)]
    · left
      rw [List.getD_eq_getElem?_getD, List.getElem?_set_ne (Ne.symm z), ← List.getD_eq_getElem?_getD]
theorem step_ok {n m S : Nat} {st : Hs} {s : Int} {b : Bod} (ok : HsOk n m S st) (s0 : 0 ≤ s) (s1 : s < S) (ha : ∀ k l, b = .ask k l → LkOk n m l) (hc : ∀ cs, b = .closed cs → ∃ a, st.round = some a ∧ s ∉ st.counts.map (·.1) ∧ (∀ x ∈ cs, 0 ≤ x) ∧ cs.length = a.lk.length)
    (hb : ∀ k t, b = .back k t → InG n m k t) : HsOk n m S (step S st s b) := by
  have hS : 0 < S := by omega
  cases b with
  | ask k l =>
    refine look_ok ⟨ok.nn, ok.bl, fun a h => ?_, ok.lr, ok.ck, ok.cd, ok.cl, ok.cn⟩ hS
    rcases List.mem_append.mp h with h | h
    · exact ok.lq a h
    · rw [List.mem_singleton.mp h]; exact ha k l rfl
  | closed cs =>
    obtain ⟨a, h1, h2, h3, h4⟩ := hc cs rfl
    have e : step S st s (.closed cs) = takeC S st a s cs := by show (match st.round with | some a => _ | none => _) = _; rw [h1]
    rw [e]
    exact takeC_ok ok h1 s0 s1 h2 h3 h4
  | back k t =>
    have := ok.nn k t (hb k t rfl)
    exact ⟨set2_nn ok.nn (by omega), ok.bl, ok.lq, ok.lr, ok.ck, ok.cd, ok.cl, ok.cn, ok.qe⟩
  | entry r => exact ⟨ok.nn, by show (addBook st.books s.toNat r).length = S; unfold addBook; rw [List.length_set]; exact ok.bl, ok.lq, ok.lr, ok.ck, ok.cd, ok.cl, ok.cn, ok.qe⟩
/-- everything that the law keeps so: k things done -/
structure Reg (su : Su) (st : Hs) (k : Nat) : Prop where
  ok : HsOk su.rooms.length su.nights.toNat su.sellers.toNat st
  o : st.out.length ≤ 10 * k
  q : st.queue.length ≤ k
  b : ∀ i, (st.books.getD i []).length ≤ k
  od : ∀ d ∈ st.out, D.ok 4 d
  bd : ∀ i, ∀ d ∈ st.books.getD i [], D.ok 4 d
theorem Reg.step {su : Su} {st : Hs} {k : Nat} (h : Reg su st k) (so : su.ok) {s : Int} {b : Bod} (s0 : 0 ≤ s) (s1 : s < su.sellers) (ha : ∀ k l, b = .ask k l → LkOk su.rooms.length su.nights.toNat l)
    (hc : ∀ cs, b = .closed cs → ∃ a, st.round = some a ∧ s ∉ st.counts.map (·.1) ∧ (∀ x ∈ cs, 0 ≤ x) ∧ cs.length = a.lk.length) (hb : ∀ k t, b = .back k t → InG su.rooms.length su.nights.toNat k t) (he : ∀ r, b = .entry r → D.ok 4 r) : Reg su (MD.step su.sellers.toNat st s b) (k + 1) := by
  obtain ⟨more, e1, e2, e3⟩ := step_out (s := s) (b := b) h.ok (fun cs e => let ⟨a, h1, _, h3, _⟩ := hc cs e; ⟨a, h1, h3⟩) (fun k l e => (ha k l e).le)
  obtain ⟨r1, r2⟩ := step_rest (S := su.sellers.toNat) (st := st) (s := s) (b := b)
  have s4 := so.s4
  have := h.o; have := h.q
  refine ⟨step_ok h.ok s0 (by omega) ha hc hb, ?_, by omega, fun i => ?_, fun d hd => ?_, fun i d hd => ?_⟩
  · rw [e1, List.length_append, List.length_map]; omega
  · have := h.b i
    rcases r2 i with e | ⟨r, _, e⟩
    · rw [e]; omega
    · rw [e, List.length_append, List.length_singleton]; omega
  · rw [e1] at hd
    rcases List.mem_append.mp hd with hd | hd
    · exact h.od d hd
    · obtain ⟨x, hx, rfl⟩ := List.mem_map.mp hd
      exact ok_lt (e3 x hx)
  · rcases r2 i with e | ⟨r, er, e⟩
    · rw [e] at hd; exact h.bd i d hd
    · rw [e] at hd
      rcases List.mem_append.mp hd with hd | hd
      · exact h.bd i d hd
      · rw [List.mem_singleton.mp hd]; exact he r er
end MD

namespace MD
open PySem PySem.Spec PyProof.Rows L2
/-! ### dicts with int keys: pop, del, get(None, x) -/
def kDPop1 (td ty : TE) : TE := fun σ H Q => td σ H fun x H1 => ∃ a, x = .ref a ∧ IsD H1 a ∧ ty σ H1 fun y H2 => ∃ kvs k v, H2 a = some (.dK kvs) ∧ y = kV k ∧ valV kvs k = some v ∧ Wr H2 a (.dK (dropK kvs k)) (Q v)
def kDDel (td ty : TE) : TS := fun D σ H => td σ H fun x H1 => ty σ H1 fun y H2 => ∃ a kvs k, x = .ref a ∧ H2 a = some (.dK kvs) ∧ y = kV k ∧ (valV kvs k).isSome = true ∧ Wr H2 a (.dK (dropK kvs k)) (D.nx σ)
section
variable {X : Cx} {o e f i : Expr} {apos cpos tpos pos : Pos} {td ty tx : TE}
theorem ke_dpop1 (ho : PE X o td) (he : PE X e ty) (m : M1 X o "pop" apos e cpos) : PE X (.Call (.Attribute o "pop" apos) [e] [] cpos) (kDPop1 td ty) :=
  peI (pe_dpop1 (peM ho) (peM he) m) fun σ H Q q => ⟨_, q, fun x H1 ⟨a, ex, d, q⟩ => ⟨a, ex, d, _, q, fun y H2 ⟨kvs, k, v, h1, h2, h3, w⟩ => ⟨kvs, k, v, h1, h2, h3, w.old h1 trivial⟩⟩⟩
theorem ks_ddel (ho : PE X o td) (hi : PE X i ty) : PS X (.Delete [.Subscript o i tpos] pos) (kDDel td ty) :=
  psI (ps_ddel (peM ho) (peM hi)) fun D σ H q => ⟨_, q, fun x H1 q => ⟨_, q, fun y H2 ⟨a, kvs, k, h1, h2, h3, h4, w⟩ => ⟨a, kvs, k, h1, h2, h3, h4, w.old h2 trivial⟩⟩⟩
end
def leafOf : L2.Key → Leaf
  | .inl i => .num i
  | .inr x => .text x
theorem leafOf_inj : ∀ {a b : L2.Key}, leafOf a = leafOf b → a = b
  | .inl _, .inl _, h => by cases h; rfl
  | .inr _, .inr _, h => by cases h; rfl
  | .inl _, .inr _, h => nomatch h
  | .inr _, .inl _, h => nomatch h
theorem leafOf_is {k : L2.Key} {v : Value} (h : keyIs k v = true) : Leaf.isOf (leafOf k) v = true := by
  rcases keyIs_shape h with ⟨i, t, rfl, rfl⟩ | ⟨x, t, rfl, rfl⟩
  · exact decide_eq_true rfl
  · exact h
theorem leafOf_hash (w : World) : ∀ (k : L2.Key), (leafOf k).key.hash w = keyH w k
  | .inl _ => rfl
  | .inr _ => rfl
theorem dk_leaf {P : Program} {w : World} {h : Heap} {a : Addr} {vs : List (L2.Key × Value)} (d : h.DictOf (mixKind P w) a vs) : h.DictOf (leafKind P w) a (vs.map fun e => (leafOf e.1, e.2)) := by
  obtain ⟨o, es, ep, h1, h2, h3, h4, h5, h6⟩ := d
  refine ⟨o, es, ep, h1, h2, h3, fun e he => ?_, ?_, ?_⟩
  · obtain ⟨k, e1, e2⟩ := h4 e he
    exact ⟨leafOf k, leafOf_is e1, e2.trans (leafOf_hash w k).symm⟩
  · clear h1 h2 h3 h4 h6
    generalize es.toList = l at h5
    induction h5 with
    | nil => exact .nil
    | cons h1 h2 _ ih => exact .cons (leafOf_is h1) h2 ih
  · rw [List.map_map]
    have : (fun e : Leaf × Value => e.1) ∘ (fun e : L2.Key × Value => (leafOf e.1, e.2)) = leafOf ∘ (·.1) := rfl
    rw [this, ← List.map_map]
    exact List.Pairwise.map leafOf (fun _ _ n e => n (leafOf_inj e)) h6
theorem leaf_no {vs : List (L2.Key × Value)} : valueAt (vs.map fun e => (leafOf e.1, e.2)) Leaf.none = none := by
  unfold valueAt
  rw [Option.map_eq_none_iff, List.find?_eq_none]
  intro e he
  obtain ⟨x, _, rfl⟩ := List.mem_map.mp he
  rcases x with ⟨k, v⟩
  cases k <;> simp [leafOf]
/-- d.get(None, x), d.get(i, x) -/
def kGetO (td ty tx : TE) : TE := fun σ H Q => td σ H fun x H1 => ∃ a, x = .ref a ∧ IsD H1 a ∧ ty σ H1 fun y H2 => tx σ H2 fun z H3 => ∃ kvs, H3 a = some (.dK kvs) ∧ ((y = .non ∧ Q z H3) ∨ ∃ k, y = kV k ∧ Q ((valV kvs k).getD z) H3)
section
variable {X : Cx} {o e f : Expr} {apos cpos : Pos} {td ty tx : TE}
theorem ke_getO (hu : X.A.units + 1 < cLine) (ho : PE X o td) (he : PE X e ty) (hf : PE X f tx) (m : M2 X o "get" apos e f cpos) : PE X (.Call (.Attribute o "get" apos) [e, f] [] cpos) (kGetO td ty tx) := by
  refine ⟨fun pins s σ H Q I h => ?_⟩
  refine wpAny_Call_method m.base m.few m.line PySem.F.plainAttrs_dict PySem.F.slot_dict_get PySem.F.type_dict_get (thn (ho.run pins s σ H _ I h) fun u s1 ⟨x, H1, I1, rx, a, ex, d, q1⟩ => ?_)
  subst ex
  obtain rfl : u = Value.ref a := rx
  obtain ⟨t1, t2, _⟩ := isD_at I1 d
  refine ⟨t1, t2, ?_⟩
  rw [m.trees]
  refine Calls.callWith_builtin rfl (Calls.evalArgs_plain (Calls.spliced_cons (thn (he.run pins s1 σ H1 _ I1 q1) fun iv s2 ⟨y, H2, I2, ry, q2⟩ =>
    Calls.spliced_cons (thn (hf.run pins s2 σ H2 _ I2 q2) fun fv s3 ⟨z, H3, I3, rz, kvs, hk, q3⟩ => Calls.spliced_nil ?_))))
  rcases q3 with ⟨rfl, q3⟩ | ⟨k, rfl, q3⟩
  · obtain rfl : iv = .none := ry
    obtain ⟨z0, hd, vs, rel, dd⟩ := dk_of I3.hok hk
    have dl := dk_leaf dd
    refine call_meetsIn PySem.F.slot_dict_get dd.typeIs PySem.F.entry_dict_get (PySem.F.args_dict_get_3 _ _ _) (meets_dict_get_default (leafKind X.prog X.w) (k := Leaf.none) a rfl hd fv) ⟨_, dl.mapOf, _, H3, I3.tok _, ?_, q3⟩
    rw [leaf_no]
    exact rz
  · exact d_get2 hu I3 (DGet.k hk) ry rz fun w' s4 I4 rw' => ⟨_, H3, I4, rw', q3⟩
end
/-! ### sorted(d.items()), keys cells, values ints -/
theorem Kp.all {H H' : Hp} (h : ∀ b o, H b = some o → H' b = some o) : Kp [] H H' :=
  ⟨fun b o e _ _ => h b o e, fun b xs e => h b _ e, fun b o e => ⟨o, h b o e⟩, fun b ⟨ps, e, r⟩ => ⟨ps, h b _ e, r⟩⟩
def kItemsT : V → List V → Hp → VK → Prop := fun x xs H Q => ∃ (a : Addr) (kvs : Kvs), x = .ref a ∧ xs = [] ∧ H a = some (.dT kvs) ∧ ∀ p H2, H p = none → Kp [] H H2 → H2 p = some (L2.DX.itemsO p a) → Q (.ref p) H2
theorem mk_itemsT {X : Cx} : MtR X "dict.items" kItemsT := mtI L2.DX.mt_itemsT fun x xs H Q ⟨a, kvs, h1, h2, h3, q⟩ => ⟨a, kvs, h1, h2, h3, fun p hp => q p _ hp (Kp.new hp) upd_same⟩
abbrev CI := (Int × Int) × Int
def ciV (es : List CI) : Kvs := es.map fun e => (cellK e.1.1 e.1.2, V.int e.2)
def npK (H : Hp) (h : Heap) : Value → Int × Int
  | .ref b => (match h.get? b with
    | some ⟨_, _, .seq xs _, _⟩ => pairAt H (xs.getD 0 .none)
    | _ => (0, 0))
  | _ => (0, 0)
theorem npK_of {H : Hp} {h : Heap} {b q : Addr} {v : Value} {c : Int × Int} (e : h.get? b = some { cls := .type "tuple", data := .seq #[Value.ref q, v] }) (hq : H q = some (.tup [.int c.1, .int c.2])) : npK H h (.ref b) = c := by
  show (match h.get? b with
    | some ⟨_, _, .seq xs _, _⟩ => pairAt H (xs.getD 0 .none)
    | _ => ((0 : Int), (0 : Int))) = c
  rw [e]
  exact pairAt_of hq
def kSortIt : List V → Hp → VK → Prop := fun vs H Q => ∃ (p a : Addr) (es : List CI), vs = [.ref p] ∧ H p = some (L2.DX.itemsO p a) ∧ H a = some (.dT (ciV es)) ∧ es.length ≤ 1000 ∧ (es.map (·.1)).Nodup ∧
  ∀ (H' : Hp) (l : Addr) (ps : List (Addr × CI)), Kp [] H H' → (ps.map (·.2)).Perm es → (ps.map fun z => z.2.1).Pairwise lexP → H' l = some (.lst (ps.map fun z => V.ref z.1)) →
    (∀ z ∈ ps, ∃ q, H' z.1 = some (.tup [.ref q, .int z.2.2]) ∧ H' q = some (.tup [.int z.2.1.1, .int z.2.1.2])) → Q (.ref l) H'
theorem ksortIt {X : Cx} (hc : X.calm = true) (hu : X.A.units + 9 < cLine) : CallR X (.builtin "sorted") kSortIt := by
  intro pins s σ H xs us Q I r h
  obtain ⟨p, a, ks, rfl, hp, ha, h1000, ndk, q⟩ := h
  obtain rfl := Vals.ref1 r
  have view : s.heap.IsItemsView p a := (show ObjOk X.prog X.w H s.heap p (L2.DX.itemsO p a) from I.hok p _ hp).1
  obtain ⟨z, hd, xs', rel, o, es, ep, ho, hx, hdat, hes, his, hn⟩ := dt_of I.hok ha
  have l1 : (ciV ks).length = xs'.length := Paired.length rel
  unfold ciV at l1
  rw [List.length_map] at l1
  have l2 : es.size = xs'.length := size_of_entries hes
  have hh : X.A.handled = none := I.ok.hd hc
  refine DT.sortedI (es := es) (ep := ep) hh view ⟨o, ho, hx, hdat⟩ (by rw [sizeLine_eq]; omega) fun h' tk as hk hlt hl hG => ?_
  have lak : as.length = ks.length := by omega
  have nd : as.Nodup := List.Pairwise.imp (fun h => Nat.ne_of_lt h) hG.rise
  have pr : ∀ (j : Nat) (b : Addr), as[j]? = some b → ∃ (e : CI) (kq : Addr) (t : Tok), ks[j]? = some e ∧ H kq = some (.tup [.int e.1.1, .int e.1.2]) ∧ h'.get? b = some { cls := .type "tuple", data := .seq #[Value.ref kq, Value.int e.2 t] } := by
    intro j b hj
    obtain ⟨en, he, hg⟩ := hG.pairs j b hj
    rw [entry_at hes j] at he
    cases hxj : xs'[j]? with
    | none =>
      rw [hxj] at he
      exact nomatch (show (none : Option DictEntry) = some en from he)
    | some x =>
      rw [hxj] at he
      have een : entryOfKey (tupleKind (mixKind X.prog X.w)) x = en := Option.some.inj he
      obtain ⟨e0, he0, r1, r2, r3⟩ := L2.DX.pget rel hxj
      unfold ciV at he0
      rw [List.getElem?_map] at he0
      cases hkj : ks[j]? with
      | none =>
        rw [hkj] at he0
        exact nomatch (show (none : Option (List L2.Key × V)) = some e0 from he0)
      | some e =>
        rw [hkj] at he0
        have ee : (cellK e.1.1 e.1.2, V.int e.2) = e0 := Option.some.inj he0
        rw [← ee] at r2 r3
        obtain ⟨t, r3'⟩ := (show ∃ t, x.2.2 = Value.int e.2 t from r3)
        refine ⟨e, x.2.1, t, rfl, r2, ?_⟩
        rw [hg, ← een, ← r3']
        all_goals rfl
  have hob : (h'.push { cls := .type "list", data := .seq (as.map Value.ref).toArray }).get? h'.objs.size = some (seqObj "list" (as.map Value.ref).toArray 0) := Heap.get?_push_size _ rfl
  have kb : ∀ b o, s.heap.get? b = some o → (h'.push { cls := .type "list", data := .seq (as.map Value.ref).toArray }).get? b = some o := fun b o e => Heap.get?_push_of_some _ (hk b o e)
  have ne0 : ∀ b o, h'.get? b = some o → b ≠ h'.objs.size := fun b o e => Nat.ne_of_lt (Heap.lt_size e)
  generalize hh2 : h'.push { cls := .type "list", data := .seq (as.map Value.ref).toArray } = h2 at hob kb ⊢
  have ka : ∀ b o, h'.get? b = some o → h2.get? b = some o := fun b o e => by rw [← hh2]; exact Heap.get?_push_of_some _ e
  have kx : ∀ (j : Nat) (b : Addr) (e : CI), as[j]? = some b → ks[j]? = some e → npK H h2 (.ref b) = e.1 := by
    intro j b e hj he
    obtain ⟨e', kq, t, he', hkq, hg⟩ := pr j b hj
    have ee : e' = e := Option.some.inj (he'.symm.trans he)
    rw [ee] at hkq
    exact npK_of (ka _ _ hg) hkq
  have at_ : ∀ v ∈ as.map Value.ref, ∃ (j : Nat) (b : Addr) (e : CI), v = .ref b ∧ as[j]? = some b ∧ ks[j]? = some e := by
    intro v hv'
    obtain ⟨b, hb, rfl⟩ := List.mem_map.mp hv'
    obtain ⟨j, hj⟩ := List.mem_iff_getElem?.mp hb
    obtain ⟨e, _, _, he, _⟩ := pr j b hj
    exact ⟨j, b, e, rfl, hj, he⟩
  have lz : (as.map Value.ref).length ≤ sizeLine := by rw [List.length_map, sizeLine_eq]; omega
  refine wpAny_call_entry PyProof.Rows.slot_list_sort ⟨_, hob, rfl⟩ PyProof.Rows.entry_list_sort (SrtO.list_sort_ord (s := { s with heap := h2, toks := tk }) (SrtO.swo_lex (npK H h2)) hob lz (fun h2' => ?_) fun out o1 o2 => ⟨.none, rfl, ?_⟩) (PyProof.Rows.args_list_sort _)
  · refine np_sortable (s := { s with heap := h2, toks := tk }) (by show X.A.units + 1 + 1 < cLine; omega) (by omega) (fun v hv => ?_) (fun v hv u hu2 ek => ?_) fun o e => ?_
    · obtain ⟨j, b, e, rfl, hj, he⟩ := at_ v hv
      obtain ⟨e', kq, t, he', hkq, hg⟩ := pr j b hj
      have ee : e' = e := Option.some.inj (he'.symm.trans he)
      rw [ee] at hkq hg
      obtain ⟨_, its2, r2, o2', ho2, hc2, n2, hd2⟩ := I.hok _ _ hkq
      obtain ⟨w1, w2, rfl, rk, rl⟩ := vals2 r2
      obtain ⟨t1, rfl⟩ := rk
      obtain ⟨t2, rfl⟩ := rl
      rw [kx j b e hj he]
      exact ⟨b, kq, .int e.2 t, t1, t2, _, 0, o2', n2, rfl, ka _ _ hg, rfl, rfl, kb _ _ ho2, hc2, hd2, by simp⟩
    · obtain ⟨j, b, e, rfl, hj, he⟩ := at_ v hv
      obtain ⟨j2, b2, e2, rfl, hj2, he2⟩ := at_ u hu2
      rw [kx j b e hj he, kx j2 b2 e2 hj2 he2] at ek
      have i1 : (ks.map (·.1))[j]? = some e.1 := by rw [List.getElem?_map, he]; rfl
      have i2 : (ks.map (·.1))[j2]? = some e.1 := by rw [List.getElem?_map, he2, ek]; rfl
      have jj : j = j2 := (List.getElem?_inj (List.getElem?_eq_some_iff.mp i1).1 ndk).mp (i1.trans i2.symm)
      subst jj
      rw [hj] at hj2
      cases hj2
      rfl
    · have e' : some o = some (seqObj "list" (as.map Value.ref).toArray 0) := e.symm.trans hob
      cases e'
      intro c
      exact absurd (Value.type.inj c) (by decide)
  · show EP X pins σ Q (.ref h'.objs.size) { s with heap := sortedHeap h2 h'.objs.size (as.map Value.ref) out.toArray, toks := tk }
    obtain ⟨zs, pz, ez⟩ := perm_lift (fun z : Addr × CI => Value.ref z.1) o2.perm (as.zip ks) (by
      show (as.zip ks).map (Value.ref ∘ Prod.fst) = _
      rw [← List.map_map, List.map_fst_zip (by rw [lak]; exact Nat.le_refl _)])
    have idx : ∀ z ∈ zs, ∃ j : Nat, as[j]? = some z.1 ∧ ks[j]? = some z.2 := by
      intro z' hz'
      obtain ⟨j, hj⟩ := List.mem_iff_getElem?.mp (pz.mem_iff.mp hz')
      exact ⟨j, List.getElem?_zip_eq_some.mp hj⟩
    have hperm : (zs.map (·.2)).Perm ks := by
      have e := pz.map (·.2)
      have m2 : (as.zip ks).map (·.2) = ks := List.map_snd_zip (by rw [lak]; exact Nat.le_refl _)
      rw [m2] at e
      exact e
    have hsort : (zs.map fun z => z.2.1).Pairwise lexP := by
      have o1 : out.Pairwise (fun v u => SrtO.lexB (npK H h2 u) (npK H h2 v) = false) := o1
      rw [← ez, List.pairwise_map] at o1
      rw [List.pairwise_map]
      refine List.Pairwise.imp_of_mem (fun {x y} hx hy h => ?_) o1
      obtain ⟨j, j1, j2⟩ := idx x hx
      obtain ⟨i, i1, i2⟩ := idx y hy
      rw [kx j _ _ j1 j2, kx i _ _ i1 i2] at h
      exact h
    have kF : ∀ b o, b ≠ h'.objs.size → h2.get? b = some o → (sortedHeap h2 h'.objs.size (as.map Value.ref) out.toArray).get? b = some o := fun b o hb e => (PyProof.Rows.sortedHeap_old hb (Heap.lt_size e)).trans e
    have kS : ∀ b o, s.heap.get? b = some o → (sortedHeap h2 h'.objs.size (as.map Value.ref) out.toArray).get? b = some o := fun b o e => kF b o (ne0 _ _ (hk b o e)) (kb b o e)
    obtain ⟨eF, heF⟩ := PyProof.Rows.sortedHeap_at (vs := as.map Value.ref) (out := out.toArray) hob
    have I1 : Inv X pins σ H { s with heap := sortedHeap h2 h'.objs.size (as.map Value.ref) out.toArray, toks := tk } := I.kept (t' := tk) kS
    have hn0 : H h'.objs.size = none := I.hok.fresh (Nat.le_of_lt hlt)
    have hlen : (zs.map fun z => V.ref z.1).length ≤ sizeLine := by
      have e := hperm.length_eq
      rw [List.length_map] at e
      rw [List.length_map, sizeLine_eq]
      omega
    have rv : Vals (zs.map fun z => V.ref z.1) out := by
      rw [← ez]
      exact vals_maps (fun z : Addr × CI => V.ref z.1) (fun z => Value.ref z.1) zs fun _ _ => rfl
    have I2 : Inv X pins σ (upd H h'.objs.size (.lst (zs.map fun z => V.ref z.1))) { s with heap := sortedHeap h2 h'.objs.size (as.map Value.ref) out.toArray, toks := tk } :=
      I1.take (h' := sortedHeap h2 h'.objs.size (as.map Value.ref) out.toArray) (t' := tk) (fun b ob _ e => e) (I.fpOk (Nat.le_of_lt hlt) hn0) ⟨hlen, out, eF, rv, heF⟩
    obtain ⟨H2, I3, g, qt⟩ := L2.DX.takeT (P := fun b vs => ∃ (j : Nat) (e : CI) (kq : Addr), as[j]? = some b ∧ ks[j]? = some e ∧ vs = [.ref kq, .int e.2] ∧ H kq = some (.tup [.int e.1.1, .int e.1.2])) I as _ I2 nd fun b hb => by
      obtain ⟨j, hj⟩ := List.mem_iff_getElem?.mp hb
      obtain ⟨e, kq, t, he, hkq, hg⟩ := pr j b hj
      have hbl : s.heap.objs.size ≤ b := Nat.le_of_lt (hG.above b hb)
      refine ⟨hbl, ?_, [.ref kq, .int e.2], ⟨j, e, kq, hj, he, rfl, hkq⟩, fun H3 => ⟨(by rw [sizeLine_eq]; show 2 ≤ 16777216; omega), [Value.ref kq, Value.int e.2 t], .cons rfl (.cons ⟨t, rfl⟩ .nil), ⟨_, kF _ _ (ne0 _ _ hg) (ka _ _ hg), rfl, 0, rfl⟩⟩⟩
      rw [upd_ne (ne0 _ _ hg)]
      exact I.hok.fresh hbl
    have gr : ∀ b o, H b = some o → H2 b = some o := fun b o e => g b o (by rw [upd_ne (ne_of_none e hn0)]; exact e)
    refine ⟨.ref h'.objs.size, H2, I3, rfl, q H2 h'.objs.size zs (Kp.all gr) hperm hsort (g _ _ upd_same) fun z' hz' => ?_⟩
    obtain ⟨i, i1, i2⟩ := idx z' hz'
    obtain ⟨vs, ⟨j, e, kq, j1, j2, ev, hkq⟩, hH⟩ := qt z'.1 (List.mem_of_getElem? i1)
    have eij : i = j := (List.getElem?_inj (List.getElem?_eq_some_iff.mp i1).1 nd).mp (i1.trans j1.symm)
    subst eij
    have ee : e = z'.2 := Option.some.inj (j2.symm.trans i2)
    rw [ev, ee] at hH
    rw [ee] at hkq
    exact ⟨kq, hH, gr _ _ hkq⟩
end MD

namespace MD
open PySem PySem.Spec PyProof.Rows L2
/-! ### association by ints -/
section
variable {α : Type}
def putA (l : List (Int × α)) (n : Int) (x : α) : List (Int × α) := if (l.any fun e => decide (e.1 = n)) = true then l.map (fun e => if e.1 = n then (e.1, x) else e) else l ++ [(n, x)]
def delA (l : List (Int × α)) (n : Int) : List (Int × α) := l.filter fun e => decide (e.1 ≠ n)
def getA (l : List (Int × α)) (n : Int) : Option α := (l.find? fun e => decide (e.1 = n)).map (·.2)
theorem getA_mem {l : List (Int × α)} {n : Int} {x : α} (h : getA l n = some x) : (n, x) ∈ l := by
  unfold getA at h
  cases e : l.find? fun e => decide (e.1 = n) with
  | none => rw [e] at h; cases h
  | some y =>
    rw [e] at h
    cases h
    have := List.find?_some e
    have e1 : y.1 = n := by simpa using this
    rw [← e1]
    exact List.mem_of_find?_eq_some e
theorem getA_none {l : List (Int × α)} {n : Int} : getA l n = none ↔ n ∉ l.map (·.1) := by
  unfold getA
  rw [Option.map_eq_none_iff, List.find?_eq_none]
  refine ⟨fun h z => ?_, fun h e he z => h ?_⟩
  · obtain ⟨e, he, rfl⟩ := List.mem_map.mp z
    exact h e he (by simp)
  · have : e.1 = n := by simpa using z
    rw [← this]
    exact List.mem_map.mpr ⟨e, he, rfl⟩
theorem any_key {l : List (Int × α)} {n : Int} : (l.any fun e => decide (e.1 = n)) = true ↔ n ∈ l.map (·.1) := by
  rw [List.any_eq_true]
  refine ⟨fun ⟨e, he, z⟩ => List.mem_map.mpr ⟨e, he, of_decide_eq_true z⟩, fun z => ?_⟩
  obtain ⟨e, he, z⟩ := List.mem_map.mp z
  exact ⟨e, he, decide_eq_true z⟩
theorem putA_keys {l : List (Int × α)} {n : Int} {x : α} : (putA l n x).map (·.1) = if n ∈ l.map (·.1) then l.map (·.1) else l.map (·.1) ++ [n] := by
  unfold putA
  by_cases h : n ∈ l.map (·.1)
  · rw [if_pos (any_key.mpr h), if_pos h, List.map_map]
    refine List.map_congr_left fun e _ => ?_
    show (if e.1 = n then (e.1, x) else e).1 = e.1
    split <;> rfl
  · rw [if_neg (fun z => h (any_key.mp z)), if_neg h, List.map_append]; rfl
theorem putA_nodup {l : List (Int × α)} {n : Int} {x : α} (h : (l.map (·.1)).Nodup) : ((putA l n x).map (·.1)).Nodup := by
  rw [putA_keys]
  split
  · exact h
  · rename_i z
    exact List.nodup_append.mpr ⟨h, List.pairwise_singleton _ _, fun a ha b hb e => z (by rw [List.mem_singleton] at hb; rw [← hb, ← e]; exact ha)⟩
theorem delA_nodup {l : List (Int × α)} {n : Int} (h : (l.map (·.1)).Nodup) : ((delA l n).map (·.1)).Nodup := h.sublist (List.filter_sublist.map _)
theorem putA_mem {l : List (Int × α)} {n : Int} {x : α} {e : Int × α} (h : e ∈ putA l n x) : e ∈ l ∨ e = (n, x) := by
  unfold putA at h
  split at h
  · obtain ⟨e', he, z⟩ := List.mem_map.mp h
    split at z
    · rename_i q; rw [q] at z; exact .inr z.symm
    · rw [← z]; exact .inl he
  · rcases List.mem_append.mp h with h | h
    · exact .inl h
    · exact .inr (List.mem_singleton.mp h)
theorem delA_mem {l : List (Int × α)} {n : Int} {e : Int × α} (h : e ∈ delA l n) : e ∈ l := (List.mem_filter.mp h).1
theorem getA_put {l : List (Int × α)} {n m : Int} {x : α} (h : m ∈ l.map (·.1) ∨ m = n) : m ∈ (putA l n x).map (·.1) := by
  rw [putA_keys]
  split
  · rename_i z
    rcases h with h | h
    · exact h
    · rw [h]; exact z
  · rcases h with h | h
    · exact List.mem_append_left _ h
    · rw [h]; exact List.mem_append_right _ List.mem_cons_self
theorem putA_len {l : List (Int × α)} {n : Int} {x : α} : (putA l n x).length ≤ l.length + 1 := by
  unfold putA
  split
  · rw [List.length_map]; omega
  · rw [List.length_append]; exact Nat.le_refl _
theorem delA_len {l : List (Int × α)} {n : Int} : (delA l n).length ≤ l.length := List.length_filter_le _ _
end
/-! ### .. as a dict -/
def DkAt (H : Hp) : List (Int × MD.D) → List (Key × V) → Prop
  | [], k => k = []
  | c :: cs, k => ∃ v r, k = (.inl c.1, v) :: r ∧ RepT H c.2 v ∧ DkAt H cs r
theorem DkAt.kp {M : List Addr} {H H' : Hp} (k : Kp M H H') : ∀ {cs : List (Int × MD.D)} {kvs : List (Key × V)}, DkAt H cs kvs → DkAt H' cs kvs
  | [], _, h => h
  | c :: cs, _, ⟨v, r, e, h1, h2⟩ => ⟨v, r, e, h1.kp k, DkAt.kp k h2⟩
theorem DkAt.len {H : Hp} : ∀ {cs : List (Int × MD.D)} {kvs : List (Key × V)}, DkAt H cs kvs → kvs.length = cs.length
  | [], _, h => by rw [show _ = [] from h]; rfl
  | c :: cs, _, ⟨v, r, e, h1, h2⟩ => by rw [e, List.length_cons, List.length_cons, DkAt.len h2]
theorem DkAt.keys {H : Hp} : ∀ {cs : List (Int × MD.D)} {kvs : List (Key × V)}, DkAt H cs kvs → kvs.map (·.1) = (cs.map (·.1)).map Sum.inl
  | [], _, h => by rw [show _ = [] from h]; rfl
  | c :: cs, _, ⟨v, r, e, h1, h2⟩ => by rw [e, List.map_cons, List.map_cons, List.map_cons, DkAt.keys h2]
theorem DkAt.get {H : Hp} {n : Int} : ∀ {cs : List (Int × MD.D)} {kvs : List (Key × V)}, DkAt H cs kvs → match getA cs n with
    | some d => ∃ v, valV kvs (.inl n) = some v ∧ RepT H d v
    | none => valV kvs (.inl n) = none
  | [], _, h => by rw [show _ = [] from h]; rfl
  | c :: cs, _, ⟨v, r, e, h1, h2⟩ => by
    subst e
    unfold getA
    by_cases z : c.1 = n
    · rw [List.find?_cons_of_pos (by simp [z])]
      exact ⟨v, valV_pos (congrArg Sum.inl z), h1⟩
    · rw [List.find?_cons_of_neg (by simp [z]), valV_neg (fun q => z (Sum.inl.inj q))]
      exact DkAt.get h2
theorem DkAt.in_ {H : Hp} {n : Int} {cs : List (Int × MD.D)} {kvs : List (Key × V)} (h : DkAt H cs kvs) : (valV kvs (.inl n)).isSome = (getA cs n).isSome := by
  have := h.get (n := n)
  cases e : getA cs n with
  | none => rw [e] at this; rw [this]; rfl
  | some d => rw [e] at this; obtain ⟨v, q, _⟩ := this; rw [q]; rfl
theorem DkAt.snoc {H : Hp} {n : Int} {x : MD.D} {v : V} (r : RepT H x v) : ∀ {cs : List (Int × MD.D)} {kvs : List (Key × V)}, DkAt H cs kvs → DkAt H (cs ++ [(n, x)]) (kvs ++ [(.inl n, v)])
  | [], _, h => by rw [show _ = [] from h]; exact ⟨v, [], rfl, r, rfl⟩
  | c :: cs, _, ⟨u, q, e, h1, h2⟩ => by rw [e]; exact ⟨u, _, rfl, h1, DkAt.snoc r h2⟩
theorem DkAt.map {H : Hp} {n : Int} {x : MD.D} {v : V} (r : RepT H x v) : ∀ {cs : List (Int × MD.D)} {kvs : List (Key × V)}, DkAt H cs kvs → DkAt H (cs.map fun e => if e.1 = n then (e.1, x) else e) (kvs.map fun kv => if kv.1 = Sum.inl n then (kv.1, v) else kv)
  | [], _, h => by rw [show _ = [] from h]; rfl
  | c :: cs, _, ⟨u, q, e, h1, h2⟩ => by
    subst e
    rw [List.map_cons, List.map_cons]
    by_cases z : c.1 = n
    · rw [if_pos z, if_pos (congrArg Sum.inl z)]
      exact ⟨v, _, rfl, r, DkAt.map r h2⟩
    · rw [if_neg z, if_neg (fun q => z (Sum.inl.inj q))]
      exact ⟨u, _, rfl, h1, DkAt.map r h2⟩
theorem DkAt.any {H : Hp} {n : Int} : ∀ {cs : List (Int × MD.D)} {kvs : List (Key × V)}, DkAt H cs kvs → (kvs.any fun kv => decide (kv.1 = Sum.inl n)) = (cs.any fun e => decide (e.1 = n))
  | [], _, h => by rw [show _ = [] from h]; rfl
  | c :: cs, _, ⟨u, q, e, h1, h2⟩ => by
    subst e
    rw [List.any_cons, List.any_cons, DkAt.any h2]
    refine congrArg (· || _) ?_
    by_cases z : c.1 = n
    · rw [decide_eq_true z, decide_eq_true (congrArg Sum.inl z)]
    · rw [decide_eq_false z, decide_eq_false (fun q => z (Sum.inl.inj q))]
theorem DkAt.put {H : Hp} {n : Int} {x : MD.D} {v : V} {cs : List (Int × MD.D)} {kvs : List (Key × V)} (h : DkAt H cs kvs) (r : RepT H x v) : DkAt H (putA cs n x) (putK kvs (.inl n) v) := by
  unfold putA putK
  rw [h.any]
  split
  · exact h.map r
  · exact h.snoc r
theorem DkAt.drop {H : Hp} {n : Int} : ∀ {cs : List (Int × MD.D)} {kvs : List (Key × V)}, DkAt H cs kvs → DkAt H (delA cs n) (dropK kvs (.inl n))
  | [], _, h => by rw [show _ = [] from h]; rfl
  | c :: cs, _, ⟨u, q, e, h1, h2⟩ => by
    subst e
    unfold delA dropK
    by_cases z : c.1 = n
    · rw [List.filter_cons_of_neg (by simp [z]), List.filter_cons_of_neg (by simp [z])]
      exact DkAt.drop h2
    · rw [List.filter_cons_of_pos (by simp [z]), List.filter_cons_of_pos (by simp [z])]
      exact ⟨u, _, rfl, h1, DkAt.drop h2⟩
theorem DkAt.at {H : Hp} : ∀ {cs : List (Int × MD.D)} {kvs : List (Key × V)} {i : Nat} {k : Key} {v : V}, DkAt H cs kvs → kvs[i]? = some (k, v) → ∃ c, cs[i]? = some c ∧ k = .inl c.1 ∧ RepT H c.2 v
  | [], _, i, k, v, h, e => by rw [show _ = [] from h] at e; simp at e
  | c :: cs, _, i, k, v, ⟨u, q, e, h1, h2⟩, e2 => by
    subst e
    cases i with
    | zero => simp at e2; obtain ⟨rfl, rfl⟩ := e2; exact ⟨c, rfl, rfl, h1⟩
    | succ i =>
      obtain ⟨c', g1, g2, g3⟩ := DkAt.at h2 (by simpa using e2)
      exact ⟨c', by simpa using g1, g2, g3⟩
/-- values by a map -/
def valA {α : Type} (f : α → MD.D) (l : List (Int × α)) : List (Int × MD.D) := l.map fun e => (e.1, f e.2)
section
variable {α : Type} {f : α → MD.D} {l : List (Int × α)} {n : Int} {x : α}
theorem valA_put : valA f (putA l n x) = putA (valA f l) n (f x) := by
  unfold valA putA
  rw [List.any_map]
  show (if (l.any fun e => decide (e.1 = n)) = true then _ else _ : List (Int × α)).map _ = if (l.any fun e => decide (e.1 = n)) = true then _ else _
  split
  · rw [List.map_map, List.map_map]
    refine List.map_congr_left fun e _ => ?_
    show ((if e.1 = n then (e.1, x) else e).1, f (if e.1 = n then (e.1, x) else e).2) = if e.1 = n then (e.1, f x) else (e.1, f e.2)
    split <;> rfl
  · rw [List.map_append]; rfl
theorem valA_del : valA f (delA l n) = delA (valA f l) n := by
  unfold valA delA
  rw [List.filter_map]; rfl
theorem valA_get : getA (valA f l) n = (getA l n).map f := by
  unfold valA getA
  rw [List.find?_map, Option.map_map, Option.map_map]; rfl
theorem valA_keys : (valA f l).map (·.1) = l.map (·.1) := by unfold valA; rw [List.map_map]; rfl
theorem valA_len : (valA f l).length = l.length := by unfold valA; rw [List.length_map]
end
/-! ### what a party needs more -/
def posd (p q : List Sy) : F2 := fun k t => if cn q k t < cn p k t then cn p k t - cn q k t else 0
theorem posd_nn (p q : List Sy) (k t : Int) : 0 ≤ posd p q k t := by unfold posd; split <;> omega
theorem posd_nil (p : List Sy) : posd p [] = cn p := by
  funext k t
  unfold posd
  have := cn_nn p k t
  rw [cn_nil]
  split <;> omega
theorem nil_posd (p : List Sy) : posd [] p = fun _ _ => 0 := by
  funext k t
  unfold posd
  have := cn_nn p k t
  rw [cn_nil]
  split <;> omega
theorem cn_append (p q : List Sy) (k t : Int) : cn (p ++ q) k t = cn p k t + cn q k t := by unfold cn; rw [List.countP_append]; omega
/-- the cells with more than none, in order -/
def ltC (c d : Int × Int) : Prop := c.1 < d.1 ∨ (c.1 = d.1 ∧ c.2 < d.2)
structure IsLk (f : F2) (es : Lk) : Prop where
  srt : es.Pairwise fun x y => ltC x.1 y.1
  mem : ∀ e, e ∈ es ↔ 0 < f e.1.1 e.1.2 ∧ e.2 = f e.1.1 e.1.2
theorem IsLk.nodup {f : F2} {es : Lk} (h : IsLk f es) : (es.map (·.1)).Nodup := by
  refine List.pairwise_map.mpr (h.srt.imp fun {x y} l e => ?_)
  rw [e] at l
  unfold ltC at l
  omega
theorem IsLk.uniq {f : F2} {x y : Lk} (h1 : IsLk f x) (h2 : IsLk f y) : x = y := by
  have n1 : x.Nodup := h1.srt.imp fun {a b} l e => by rw [e] at l; unfold ltC at l; omega
  have n2 : y.Nodup := h2.srt.imp fun {a b} l e => by rw [e] at l; unfold ltC at l; omega
  refine List.Perm.eq_of_pairwise (le := fun a b => ltC a.1 b.1) (fun a b _ _ q1 q2 => ?_) h1.srt h2.srt ((List.perm_ext_iff_of_nodup n1 n2).mpr fun e => (h1.mem e).trans (h2.mem e).symm)
  unfold ltC at q1 q2
  omega
open Classical in
noncomputable def lkOf (f : F2) : Lk := if h : ∃ es, IsLk f es then h.choose else []
theorem lkOf_eq {f : F2} {es : Lk} (h : IsLk f es) : lkOf f = es := by
  have e : ∃ es, IsLk f es := ⟨es, h⟩
  unfold lkOf
  rw [dif_pos e]
  exact e.choose_spec.uniq h
/-! ### a seller, pure -/
inductive De where
  | wish (p : List Sy)
  | cancel (n : Int)
  | change (n : Int) (p : List Sy)
def De.new : De → List Sy
  | .wish p => p
  | .cancel _ => []
  | .change _ p => p
def De.nm : De → Option Int
  | .wish _ => none
  | .cancel n => some n
  | .change n _ => some n
def deD : De → MD.D
  | .wish p => .sq false [dS "wish", ptD p]
  | .cancel n => .sq false [dS "cancel", dI n]
  | .change n p => .sq false [dS "change", dI n, ptD p]
structure Ss where
  free : F2
  vou : List (Int × List Sy)
  book : List MD.D
  clo : Option (List (Int × Int))
  asks : List (Int × De)
  wait : List (Int × De)
  num : Int
  out : List MD.D
  told : List (Int × Bool)
def prc (su : Su) (p : List Sy) : Int := ((nightL su p).map fun x => x).sum
def kep (su : Su) (p : List Sy) : Int := ((nightL su p).map fun x => x * su.share / 100).sum
def soldD (su : Su) (n : Int) (p : List Sy) : MD.D := .sq false [dS "sold", dI n, ptD p, dI (prc su p), dI (kep su p)]
def cancD (su : Su) (n : Int) (p : List Sy) : MD.D := .sq false [dS "cancelled", dI n, dI (prc su p), dI (kep su p)]
def chanD (su : Su) (n : Int) (p q : List Sy) : MD.D := .sq false [dS "changed", dI n, ptD p, dI (prc su p), dI (kep su p), dI (prc su q), dI (kep su q)]
def entD (r : MD.D) : MD.D := .sq false [dS "entry", r]
def askQ (n : Int) (l : Lk) : MD.D := .sq false [dS "ask", dI n, lkD l]
def tolD (e : Int × Bool) : MD.D := .sq false [dI e.1, .v (.bl e.2)]
def waiD (e : Int × De) : MD.D := .sq false [dI e.1, deD e.2]
def cellsQ (cs : List (Int × Int)) : MD.D := .sq false (cs.map fun c => prD c.1 c.2)
def cloD : Option (List (Int × Int)) → MD.D
  | none => .v .non
  | some cs => cellsQ cs
def Ss.old (st : Ss) (d : De) : List Sy := match d.nm with
  | none => []
  | some n => (getA st.vou n).getD []
def Ss.named (st : Ss) (n : Int) : Bool := st.asks.any fun a => decide (a.2.nm = some n)
def Ss.nmB (st : Ss) (d : De) : Bool := match d.nm with
  | none => false
  | some n => st.named n
def Ss.cloB (st : Ss) (d : De) : Bool := match st.clo with
  | none => false
  | some cs => cs.any fun c => decide (0 < cn (d.new ++ st.old d) c.1 c.2)
def Ss.mw (st : Ss) (d : De) : Bool := st.nmB d || st.cloB d
noncomputable def Ss.lack (st : Ss) (d : De) : Lk := lkOf (posd d.new (st.old d))
def subF (f g : F2) : F2 := fun k t => f k t - g k t
def addF (f g : F2) : F2 := fun k t => f k t + g k t
def row (st : Ss) (r : MD.D) : Ss := { st with book := st.book ++ [r], out := st.out ++ [entD r] }
def carry (su : Su) (st : Ss) (n : Int) (d : De) : Ss :=
  let f := addF st.free (posd (st.old d) d.new)
  match d with
  | .wish p => { st with free := f, vou := putA st.vou n p, book := st.book ++ [soldD su n p], out := st.out ++ [entD (soldD su n p)], told := st.told ++ [(n, true)] }
  | .cancel m => { st with free := f, vou := delA st.vou m, book := st.book ++ [cancD su m (st.old d)], out := st.out ++ [entD (cancD su m (st.old d))], told := st.told ++ [(n, true)] }
  | .change m p => { st with free := f, vou := putA st.vou m p, book := st.book ++ [chanD su m p (st.old d)], out := st.out ++ [entD (chanD su m p (st.old d))], told := st.told ++ [(n, true)] }
def Ss.missing (st : Ss) (d : De) : Bool := match d.nm with
  | none => false
  | some m => (getA st.vou m).isNone
noncomputable def doS (su : Su) (st : Ss) (n : Int) (d : De) : Ss :=
  if st.missing d = true then { st with told := st.told ++ [(n, false)] }
  else if grantB st.free (st.lack d) = true then carry su { st with free := subF st.free (posd d.new (st.old d)) } n d
  else { st with asks := putA st.asks n d, out := st.out ++ [askQ n (st.lack d)] }
noncomputable def dow (su : Su) (st : Ss) (n : Int) (d : De) : Ss := if st.mw d = true then { st with wait := st.wait ++ [(n, d)] } else doS su st n d
noncomputable def askS (su : Su) (st : Ss) (d : De) : Ss := dow su { st with num := st.num + 1 } st.num d
def takeAns (su : Su) (st : Ss) (n : Int) (g : Bool) : Ss := match getA st.asks n with
  | none => st
  | some d => if g = true then carry su { st with asks := delA st.asks n } n d else { st with asks := delA st.asks n, told := st.told ++ [(n, false)] }
noncomputable def lookW (su : Su) (st : Ss) : Ss := st.wait.foldl (fun s e => dow su s e.1 e.2) { st with wait := [] }
def addL : F2 → List (Int × Int) → List Int → F2
  | f, c :: cs, x :: xs => addL (set2 f c.1 c.2 (f c.1 c.2 + x)) cs xs
  | f, _, _ => f
def zeroL : F2 → List (Int × Int) → F2
  | f, c :: cs => zeroL (set2 f c.1 c.2 0) cs
  | f, [] => f
inductive Bq where
  | give (k t : Int)
  | close (cs : List (Int × Int))
  | opn (ns : List Int) (a : Option (Int × Bool))
  | want (k t : Int)
def ansQ : Option (Int × Bool) → MD.D
  | none => .v .non
  | some e => tolD e
def bdD : Bq → MD.D
  | .give k t => .sq false [dS "give", dI k, dI t]
  | .close cs => .sq false [dS "close", cellsQ cs]
  | .opn ns a => .sq false [dS "open", .sq false (intD ns), ansQ a]
  | .want k t => .sq false [dS "want", dI k, dI t]
def ansS (su : Su) (st : Ss) : Option (Int × Bool) → Ss
  | none => st
  | some e => takeAns su st e.1 e.2
noncomputable def hanS (su : Su) (st : Ss) : Bq → Ss
  | .give k t => { st with free := set2 st.free k t (st.free k t + 1) }
  | .close cs => { st with free := zeroL st.free cs, out := st.out ++ [.sq false [dS "closed", .sq false (intD (cs.map fun c => st.free c.1 c.2))]], clo := some cs }
  | .opn ns a => lookW su (ansS su { st with free := addL st.free (st.clo.getD []) ns, clo := none } a)
  | .want k t => if 0 < st.free k t then { st with free := set2 st.free k t (st.free k t - 1), out := st.out ++ [.sq false [dS "back", dI k, dI t]] } else st
end MD

namespace MD
open PySem PySem.Spec PyProof.Rows L2
/-! ### a seller in the heap -/
structure Sd where
  fA : Addr
  vA : Addr
  kA : Addr
  cV : V
  aA : Addr
  wA : Addr
  oA : Addr
  tA : Addr
def Sd.fp (A : Sd) : List Addr := [A.fA, A.vA, A.kA, A.aA, A.wA, A.oA, A.tA]
abbrev FG := F2 → Kvs → Prop
structure SC (G : FG) (H : Hp) (A : Sd) (st : Ss) : Prop where
  hf : ∃ kvs, H A.fA = some (.dT kvs) ∧ G st.free kvs
  hv : ∃ kvs, H A.vA = some (.dK kvs) ∧ DkAt H (valA ptD st.vou) kvs
  hk : ∃ xs, H A.kA = some (.lst xs) ∧ RepTs H st.book xs
  hc : RepT H (cloD st.clo) A.cV
  ha : ∃ kvs, H A.aA = some (.dK kvs) ∧ DkAt H (valA deD st.asks) kvs
  hw : ∃ xs, H A.wA = some (.lst xs) ∧ RepTs H (st.wait.map waiD) xs
  ho : ∃ xs, H A.oA = some (.lst xs) ∧ RepTs H st.out xs
  ht : ∃ xs, H A.tA = some (.lst xs) ∧ RepTs H (st.told.map tolD) xs
  nd : A.fp.Nodup
section
variable {G : FG} {M : List Addr} {H H' : Hp} {A : Sd} {st : Ss}
theorem Sd.mem {A : Sd} {x : Addr} : x ∈ A.fp ↔ x = A.fA ∨ x = A.vA ∨ x = A.kA ∨ x = A.aA ∨ x = A.wA ∨ x = A.oA ∨ x = A.tA := by
  unfold Sd.fp
  simp only [List.mem_cons, List.not_mem_nil, or_false]
theorem mF (A : Sd) : A.fA ∈ A.fp := Sd.mem.mpr (by simp)
theorem mV (A : Sd) : A.vA ∈ A.fp := Sd.mem.mpr (by simp)
theorem mB (A : Sd) : A.kA ∈ A.fp := Sd.mem.mpr (by simp)
theorem mA' (A : Sd) : A.aA ∈ A.fp := Sd.mem.mpr (by simp)
theorem mW (A : Sd) : A.wA ∈ A.fp := Sd.mem.mpr (by simp)
theorem mO (A : Sd) : A.oA ∈ A.fp := Sd.mem.mpr (by simp)
theorem mT' (A : Sd) : A.tA ∈ A.fp := Sd.mem.mpr (by simp)
theorem SC.live (h : SC G H A st) {x : Addr} (hx : x ∈ A.fp) : ∃ o, H x = some o ∧ NT o ∧ NB o := by
  rcases Sd.mem.mp hx with rfl | rfl | rfl | rfl | rfl | rfl | rfl
  · obtain ⟨_, e, _⟩ := h.hf; exact ⟨_, e, trivial, trivial⟩
  · obtain ⟨_, e, _⟩ := h.hv; exact ⟨_, e, trivial, trivial⟩
  · obtain ⟨_, e, _⟩ := h.hk; exact ⟨_, e, trivial, trivial⟩
  · obtain ⟨_, e, _⟩ := h.ha; exact ⟨_, e, trivial, trivial⟩
  · obtain ⟨_, e, _⟩ := h.hw; exact ⟨_, e, trivial, trivial⟩
  · obtain ⟨_, e, _⟩ := h.ho; exact ⟨_, e, trivial, trivial⟩
  · obtain ⟨_, e, _⟩ := h.ht; exact ⟨_, e, trivial, trivial⟩
theorem SC.kp (h : SC G H A st) (k : Kp M H H') (d : ∀ x ∈ A.fp, x ∉ M) : SC G H' A st := by
  refine ⟨?_, ?_, ?_, h.hc.kp k, ?_, ?_, ?_, ?_, h.nd⟩
  · obtain ⟨q, e, r⟩ := h.hf; exact ⟨q, k.at e (d _ (mF A)), r⟩
  · obtain ⟨q, e, r⟩ := h.hv; exact ⟨q, k.at e (d _ (mV A)), r.kp k⟩
  · obtain ⟨q, e, r⟩ := h.hk; exact ⟨q, k.at e (d _ (mB A)), r.kp k⟩
  · obtain ⟨q, e, r⟩ := h.ha; exact ⟨q, k.at e (d _ (mA' A)), r.kp k⟩
  · obtain ⟨q, e, r⟩ := h.hw; exact ⟨q, k.at e (d _ (mW A)), r.kp k⟩
  · obtain ⟨q, e, r⟩ := h.ho; exact ⟨q, k.at e (d _ (mO A)), r.kp k⟩
  · obtain ⟨q, e, r⟩ := h.ht; exact ⟨q, k.at e (d _ (mT' A)), r.kp k⟩
theorem SC.kp0 (h : SC G H A st) (k : Kp [] H H') : SC G H' A st := h.kp k fun _ _ z => nomatch z
theorem SC.setF (h : SC G H A st) {f : F2} {kvs : Kvs} (k : Kp [A.fA] H H') (e : H' A.fA = some (.dT kvs)) (g : G f kvs) : SC G H' A { st with free := f } := by
  refine ⟨⟨kvs, e, g⟩, ?_, ?_, h.hc.kp k, ?_, ?_, ?_, ?_, h.nd⟩
  · obtain ⟨q, e, r⟩ := h.hv; exact ⟨q, k.at e (nmem_one (fun e => by have nd := h.nd; simp [Sd.fp, e] at nd)), r.kp k⟩
  · obtain ⟨q, e, r⟩ := h.hk; exact ⟨q, k.at e (nmem_one (fun e => by have nd := h.nd; simp [Sd.fp, e] at nd)), r.kp k⟩
  · obtain ⟨q, e, r⟩ := h.ha; exact ⟨q, k.at e (nmem_one (fun e => by have nd := h.nd; simp [Sd.fp, e] at nd)), r.kp k⟩
  · obtain ⟨q, e, r⟩ := h.hw; exact ⟨q, k.at e (nmem_one (fun e => by have nd := h.nd; simp [Sd.fp, e] at nd)), r.kp k⟩
  · obtain ⟨q, e, r⟩ := h.ho; exact ⟨q, k.at e (nmem_one (fun e => by have nd := h.nd; simp [Sd.fp, e] at nd)), r.kp k⟩
  · obtain ⟨q, e, r⟩ := h.ht; exact ⟨q, k.at e (nmem_one (fun e => by have nd := h.nd; simp [Sd.fp, e] at nd)), r.kp k⟩
theorem SC.setV (h : SC G H A st) {v : List (Int × List Sy)} {kvs : List (Key × V)} (k : Kp [A.vA] H H') (e : H' A.vA = some (.dK kvs)) (g : DkAt H' (valA ptD v) kvs) : SC G H' A { st with vou := v } := by
  refine ⟨?_, ⟨kvs, e, g⟩, ?_, h.hc.kp k, ?_, ?_, ?_, ?_, h.nd⟩
  · obtain ⟨q, e, r⟩ := h.hf; exact ⟨q, k.at e (nmem_one (fun e => by have nd := h.nd; simp [Sd.fp, e] at nd)), r⟩
  · obtain ⟨q, e, r⟩ := h.hk; exact ⟨q, k.at e (nmem_one (fun e => by have nd := h.nd; simp [Sd.fp, e] at nd)), r.kp k⟩
  · obtain ⟨q, e, r⟩ := h.ha; exact ⟨q, k.at e (nmem_one (fun e => by have nd := h.nd; simp [Sd.fp, e] at nd)), r.kp k⟩
  · obtain ⟨q, e, r⟩ := h.hw; exact ⟨q, k.at e (nmem_one (fun e => by have nd := h.nd; simp [Sd.fp, e] at nd)), r.kp k⟩
  · obtain ⟨q, e, r⟩ := h.ho; exact ⟨q, k.at e (nmem_one (fun e => by have nd := h.nd; simp [Sd.fp, e] at nd)), r.kp k⟩
  · obtain ⟨q, e, r⟩ := h.ht; exact ⟨q, k.at e (nmem_one (fun e => by have nd := h.nd; simp [Sd.fp, e] at nd)), r.kp k⟩
theorem SC.setB (h : SC G H A st) {bk : List MD.D} {xs : List V} (k : Kp [A.kA] H H') (e : H' A.kA = some (.lst xs)) (g : RepTs H' bk xs) : SC G H' A { st with book := bk } := by
  refine ⟨?_, ?_, ⟨xs, e, g⟩, h.hc.kp k, ?_, ?_, ?_, ?_, h.nd⟩
  · obtain ⟨q, e, r⟩ := h.hf; exact ⟨q, k.at e (nmem_one (fun e => by have nd := h.nd; simp [Sd.fp, e] at nd)), r⟩
  · obtain ⟨q, e, r⟩ := h.hv; exact ⟨q, k.at e (nmem_one (fun e => by have nd := h.nd; simp [Sd.fp, e] at nd)), r.kp k⟩
  · obtain ⟨q, e, r⟩ := h.ha; exact ⟨q, k.at e (nmem_one (fun e => by have nd := h.nd; simp [Sd.fp, e] at nd)), r.kp k⟩
  · obtain ⟨q, e, r⟩ := h.hw; exact ⟨q, k.at e (nmem_one (fun e => by have nd := h.nd; simp [Sd.fp, e] at nd)), r.kp k⟩
  · obtain ⟨q, e, r⟩ := h.ho; exact ⟨q, k.at e (nmem_one (fun e => by have nd := h.nd; simp [Sd.fp, e] at nd)), r.kp k⟩
  · obtain ⟨q, e, r⟩ := h.ht; exact ⟨q, k.at e (nmem_one (fun e => by have nd := h.nd; simp [Sd.fp, e] at nd)), r.kp k⟩
theorem SC.setA (h : SC G H A st) {v : List (Int × De)} {kvs : List (Key × V)} (k : Kp [A.aA] H H') (e : H' A.aA = some (.dK kvs)) (g : DkAt H' (valA deD v) kvs) : SC G H' A { st with asks := v } := by
  refine ⟨?_, ?_, ?_, h.hc.kp k, ⟨kvs, e, g⟩, ?_, ?_, ?_, h.nd⟩
  · obtain ⟨q, e, r⟩ := h.hf; exact ⟨q, k.at e (nmem_one (fun e => by have nd := h.nd; simp [Sd.fp, e] at nd)), r⟩
  · obtain ⟨q, e, r⟩ := h.hv; exact ⟨q, k.at e (nmem_one (fun e => by have nd := h.nd; simp [Sd.fp, e] at nd)), r.kp k⟩
  · obtain ⟨q, e, r⟩ := h.hk; exact ⟨q, k.at e (nmem_one (fun e => by have nd := h.nd; simp [Sd.fp, e] at nd)), r.kp k⟩
  · obtain ⟨q, e, r⟩ := h.hw; exact ⟨q, k.at e (nmem_one (fun e => by have nd := h.nd; simp [Sd.fp, e] at nd)), r.kp k⟩
  · obtain ⟨q, e, r⟩ := h.ho; exact ⟨q, k.at e (nmem_one (fun e => by have nd := h.nd; simp [Sd.fp, e] at nd)), r.kp k⟩
  · obtain ⟨q, e, r⟩ := h.ht; exact ⟨q, k.at e (nmem_one (fun e => by have nd := h.nd; simp [Sd.fp, e] at nd)), r.kp k⟩
theorem SC.setW (h : SC G H A st) {ws : List (Int × De)} {xs : List V} (k : Kp [A.wA] H H') (e : H' A.wA = some (.lst xs)) (g : RepTs H' (ws.map waiD) xs) : SC G H' A { st with wait := ws } := by
  refine ⟨?_, ?_, ?_, h.hc.kp k, ?_, ⟨xs, e, g⟩, ?_, ?_, h.nd⟩
  · obtain ⟨q, e, r⟩ := h.hf; exact ⟨q, k.at e (nmem_one (fun e => by have nd := h.nd; simp [Sd.fp, e] at nd)), r⟩
  · obtain ⟨q, e, r⟩ := h.hv; exact ⟨q, k.at e (nmem_one (fun e => by have nd := h.nd; simp [Sd.fp, e] at nd)), r.kp k⟩
  · obtain ⟨q, e, r⟩ := h.hk; exact ⟨q, k.at e (nmem_one (fun e => by have nd := h.nd; simp [Sd.fp, e] at nd)), r.kp k⟩
  · obtain ⟨q, e, r⟩ := h.ha; exact ⟨q, k.at e (nmem_one (fun e => by have nd := h.nd; simp [Sd.fp, e] at nd)), r.kp k⟩
  · obtain ⟨q, e, r⟩ := h.ho; exact ⟨q, k.at e (nmem_one (fun e => by have nd := h.nd; simp [Sd.fp, e] at nd)), r.kp k⟩
  · obtain ⟨q, e, r⟩ := h.ht; exact ⟨q, k.at e (nmem_one (fun e => by have nd := h.nd; simp [Sd.fp, e] at nd)), r.kp k⟩
theorem SC.setO (h : SC G H A st) {os : List MD.D} {xs : List V} (k : Kp [A.oA] H H') (e : H' A.oA = some (.lst xs)) (g : RepTs H' os xs) : SC G H' A { st with out := os } := by
  refine ⟨?_, ?_, ?_, h.hc.kp k, ?_, ?_, ⟨xs, e, g⟩, ?_, h.nd⟩
  · obtain ⟨q, e, r⟩ := h.hf; exact ⟨q, k.at e (nmem_one (fun e => by have nd := h.nd; simp [Sd.fp, e] at nd)), r⟩
  · obtain ⟨q, e, r⟩ := h.hv; exact ⟨q, k.at e (nmem_one (fun e => by have nd := h.nd; simp [Sd.fp, e] at nd)), r.kp k⟩
  · obtain ⟨q, e, r⟩ := h.hk; exact ⟨q, k.at e (nmem_one (fun e => by have nd := h.nd; simp [Sd.fp, e] at nd)), r.kp k⟩
  · obtain ⟨q, e, r⟩ := h.ha; exact ⟨q, k.at e (nmem_one (fun e => by have nd := h.nd; simp [Sd.fp, e] at nd)), r.kp k⟩
  · obtain ⟨q, e, r⟩ := h.hw; exact ⟨q, k.at e (nmem_one (fun e => by have nd := h.nd; simp [Sd.fp, e] at nd)), r.kp k⟩
  · obtain ⟨q, e, r⟩ := h.ht; exact ⟨q, k.at e (nmem_one (fun e => by have nd := h.nd; simp [Sd.fp, e] at nd)), r.kp k⟩
theorem SC.setT (h : SC G H A st) {ts : List (Int × Bool)} {xs : List V} (k : Kp [A.tA] H H') (e : H' A.tA = some (.lst xs)) (g : RepTs H' (ts.map tolD) xs) : SC G H' A { st with told := ts } := by
  refine ⟨?_, ?_, ?_, h.hc.kp k, ?_, ?_, ?_, ⟨xs, e, g⟩, h.nd⟩
  · obtain ⟨q, e, r⟩ := h.hf; exact ⟨q, k.at e (nmem_one (fun e => by have nd := h.nd; simp [Sd.fp, e] at nd)), r⟩
  · obtain ⟨q, e, r⟩ := h.hv; exact ⟨q, k.at e (nmem_one (fun e => by have nd := h.nd; simp [Sd.fp, e] at nd)), r.kp k⟩
  · obtain ⟨q, e, r⟩ := h.hk; exact ⟨q, k.at e (nmem_one (fun e => by have nd := h.nd; simp [Sd.fp, e] at nd)), r.kp k⟩
  · obtain ⟨q, e, r⟩ := h.ha; exact ⟨q, k.at e (nmem_one (fun e => by have nd := h.nd; simp [Sd.fp, e] at nd)), r.kp k⟩
  · obtain ⟨q, e, r⟩ := h.hw; exact ⟨q, k.at e (nmem_one (fun e => by have nd := h.nd; simp [Sd.fp, e] at nd)), r.kp k⟩
  · obtain ⟨q, e, r⟩ := h.ho; exact ⟨q, k.at e (nmem_one (fun e => by have nd := h.nd; simp [Sd.fp, e] at nd)), r.kp k⟩
theorem SC.setC (h : SC G H A st) {c : Option (List (Int × Int))} {v : V} (r : RepT H (cloD c) v) : SC G H { A with cV := v } { st with clo := c } := ⟨h.hf, h.hv, h.hk, r, h.ha, h.hw, h.ho, h.ht, h.nd⟩
theorem SC.setN (h : SC G H A st) {n : Int} : SC G H A { st with num := n } := ⟨h.hf, h.hv, h.hk, h.hc, h.ha, h.hw, h.ho, h.ht, h.nd⟩
/-- new lists -/
theorem SC.newO (h : SC G H A st) {o : Addr} {os : List MD.D} {xs : List V} (e : H o = some (.lst xs)) (r : RepTs H os xs) (f : o ∉ A.fp) : SC G H { A with oA := o } { st with out := os } := by
  refine ⟨h.hf, h.hv, h.hk, h.hc, h.ha, h.hw, ⟨xs, e, r⟩, h.ht, ?_⟩
  have nd := h.nd
  unfold Sd.fp at nd f ⊢
  simp only [List.nodup_cons, List.mem_cons, not_or, List.not_mem_nil, not_false_eq_true, List.nodup_nil, and_true] at nd f ⊢
  grind
theorem SC.newT (h : SC G H A st) {o : Addr} {ts : List (Int × Bool)} {xs : List V} (e : H o = some (.lst xs)) (r : RepTs H (ts.map tolD) xs) (f : o ∉ A.fp) : SC G H { A with tA := o } { st with told := ts } := by
  refine ⟨h.hf, h.hv, h.hk, h.hc, h.ha, h.hw, h.ho, ⟨xs, e, r⟩, ?_⟩
  have nd := h.nd
  unfold Sd.fp at nd f ⊢
  simp only [List.nodup_cons, List.mem_cons, not_or, List.not_mem_nil, not_false_eq_true, List.nodup_nil, and_true] at nd f ⊢
  grind
theorem SC.newW (h : SC G H A st) {o : Addr} {ws : List (Int × De)} {xs : List V} (e : H o = some (.lst xs)) (r : RepTs H (ws.map waiD) xs) (f : o ∉ A.fp) : SC G H { A with wA := o } { st with wait := ws } := by
  refine ⟨h.hf, h.hv, h.hk, h.hc, h.ha, ⟨xs, e, r⟩, h.ho, h.ht, ?_⟩
  have nd := h.nd
  unfold Sd.fp at nd f ⊢
  simp only [List.nodup_cons, List.mem_cons, not_or, List.not_mem_nil, not_false_eq_true, List.nodup_nil, and_true] at nd f ⊢
  grind
end
def gP (su : Su) : FG := fun f kvs => kvs = gridT su.rooms.length su.nights.toNat f
def gL' (su : Su) : FG := fun f kvs => CntE su.rooms.length su.nights.toNat f kvs
def fS (ad : Addr) (nb : Int) (A : Sd) (st : Ss) : List (Str × V) := [("setup", .ref ad), ("number", .int nb), ("free", .ref A.fA), ("vouchers", .ref A.vA), ("book", .ref A.kA), ("closing", A.cV), ("asked", .ref A.aA), ("waiting", .ref A.wA), ("_numbered", .int st.num), ("_bodies", .ref A.oA), ("_answers", .ref A.tA)]
def mS' (A : Sd) (st : Ss) : List (Key × V) := [(.inr "free", .ref A.fA), (.inr "vouchers", .ref A.vA), (.inr "book", .ref A.kA), (.inr "closing", A.cV), (.inr "waiting", .ref A.wA), (.inr "asked", .int st.num), (.inr "asks", .ref A.aA), (.inr "out", .ref A.oA), (.inr "told", .ref A.tA)]
/-- the setup that a seller holds -/
structure Sx where
  ad : Addr
  r : Addr
  p : Addr
  su : Su
  nb : Int
/-- the program's seller -/
structure SeAt (C : Addr) (x : Sx) (H : Hp) (h : Addr) (A : Sd) (st : Ss) : Prop where
  hh : ∃ dx, H h = some (.ins C dx (fS x.ad x.nb A st))
  S : SuAt H x.ad x.r x.p x.su
  so : x.su.ok
  co : SC (gP x.su) H A st
/-- the law's seller -/
structure MoAt (x : Sx) (H : Hp) (m : Addr) (A : Sd) (st : Ss) : Prop where
  hm : H m = some (.dK (mS' A st))
  S : SuAt H x.ad x.r x.p x.su
  so : x.su.ok
  co : SC (gL' x.su) H A st
  nm : m ∉ A.fp
def GrS (H : Hp) (A A' : Sd) : Prop := ∀ a ∈ A'.fp, a ∈ A.fp ∨ H a = none
theorem GrS.refl {H : Hp} {A : Sd} : GrS H A A := fun _ h => .inl h
theorem GrS.trans {M : List Addr} {H H1 : Hp} {A A1 A2 : Sd} (g : GrS H A A1) (k : Kp M H H1) (g2 : GrS H1 A1 A2) : GrS H A A2 := fun a ha => (g2 a ha).elim (g a) fun e => .inr (k.free e)
theorem GrS.cV {H : Hp} {A : Sd} {v : V} : GrS H A { A with cV := v } := fun _ h => .inl h
theorem SeAt.nh {C : Addr} {x : Sx} {H : Hp} {h : Addr} {A : Sd} {st : Ss} (q : SeAt C x H h A st) : h ∉ A.fp := fun z => by
  obtain ⟨dx, e⟩ := q.hh
  rcases Sd.mem.mp z with rfl | rfl | rfl | rfl | rfl | rfl | rfl
  · obtain ⟨_, e2, _⟩ := q.co.hf; rw [e2] at e; cases e
  · obtain ⟨_, e2, _⟩ := q.co.hv; rw [e2] at e; cases e
  · obtain ⟨_, e2, _⟩ := q.co.hk; rw [e2] at e; cases e
  · obtain ⟨_, e2, _⟩ := q.co.ha; rw [e2] at e; cases e
  · obtain ⟨_, e2, _⟩ := q.co.hw; rw [e2] at e; cases e
  · obtain ⟨_, e2, _⟩ := q.co.ho; rw [e2] at e; cases e
  · obtain ⟨_, e2, _⟩ := q.co.ht; rw [e2] at e; cases e
theorem SeAt.kp {M : List Addr} {C : Addr} {x : Sx} {H H' : Hp} {h : Addr} {A : Sd} {st : Ss} (q : SeAt C x H h A st) (k : Kp M H H') (d : ∀ x ∈ h :: A.fp, x ∉ M) : SeAt C x H' h A st :=
  ⟨q.hh.elim fun dx e => ⟨dx, k.at e (d h List.mem_cons_self)⟩, q.S.kp k, q.so, q.co.kp k fun x hx => d x (List.mem_cons_of_mem _ hx)⟩
theorem SeAt.kp0 {C : Addr} {x : Sx} {H H' : Hp} {h : Addr} {A : Sd} {st : Ss} (q : SeAt C x H h A st) (k : Kp [] H H') : SeAt C x H' h A st := q.kp k fun _ _ z => nomatch z
theorem MoAt.kp {M : List Addr} {x : Sx} {H H' : Hp} {m : Addr} {A : Sd} {st : Ss} (q : MoAt x H m A st) (k : Kp M H H') (d : ∀ x ∈ m :: A.fp, x ∉ M) : MoAt x H' m A st :=
  ⟨k.at q.hm (d m List.mem_cons_self), q.S.kp k, q.so, q.co.kp k fun x hx => d x (List.mem_cons_of_mem _ hx), q.nm⟩
theorem MoAt.kp0 {x : Sx} {H H' : Hp} {m : Addr} {A : Sd} {st : Ss} (q : MoAt x H m A st) (k : Kp [] H H') : MoAt x H' m A st := q.kp k fun _ _ z => nomatch z
/-- a part changed -/
theorem SeAt.part {C : Addr} {x : Sx} {H H' : Hp} {h y : Addr} {A : Sd} {st st' : Ss} (q : SeAt C x H h A st) (k : Kp [y] H H') (m : y ∈ A.fp) (co : SC (gP x.su) H' A st') (en : st'.num = st.num) : SeAt C x H' h A st' :=
  ⟨q.hh.elim fun dx e => ⟨dx, by
    have := k.at e (nmem_one fun z => q.nh (z ▸ m))
    rw [this]
    unfold fS
    rw [en]⟩, q.S.kp k, q.so, co⟩
theorem MoAt.part {x : Sx} {H H' : Hp} {h y : Addr} {A : Sd} {st st' : Ss} (q : MoAt x H h A st) (k : Kp [y] H H') (m : y ∈ A.fp) (co : SC (gL' x.su) H' A st') (en : st'.num = st.num) : MoAt x H' h A st' :=
  ⟨by
    have := k.at q.hm (nmem_one fun z => q.nm (z ▸ m))
    rw [this]
    unfold mS'
    rw [en], q.S.kp k, q.so, co, q.nm⟩
def SeBack (C : Addr) (x : Sx) (H : Hp) (h : Addr) (A : Sd) (st : Ss) (Q : Hp → Prop) : Prop := ∀ (A' : Sd) (H' : Hp), Kp (h :: A.fp) H H' → GrS H A A' → SeAt C x H' h A' st → Q H'
def MoBack (x : Sx) (H : Hp) (h : Addr) (A : Sd) (st : Ss) (Q : Hp → Prop) : Prop := ∀ (A' : Sd) (H' : Hp), Kp (h :: A.fp) H H' → GrS H A A' → MoAt x H' h A' st → Q H'
theorem SeBack.go {C : Addr} {x : Sx} {H H1 : Hp} {h : Addr} {A A1 : Sd} {st : Ss} {Q : Hp → Prop} (b : SeBack C x H h A st Q) (k : Kp (h :: A.fp) H H1) (g : GrS H A A1) : SeBack C x H1 h A1 st Q := fun A' H' k' g' q =>
  b A' H' (k.then' k' fun a z => (List.mem_cons.mp z).elim (fun e => .inl (by rw [e]; exact List.mem_cons_self)) fun z => (g a z).imp (List.mem_cons_of_mem _) id) (g.trans k g') q
theorem MoBack.go {x : Sx} {H H1 : Hp} {h : Addr} {A A1 : Sd} {st : Ss} {Q : Hp → Prop} (b : MoBack x H h A st Q) (k : Kp (h :: A.fp) H H1) (g : GrS H A A1) : MoBack x H1 h A1 st Q := fun A' H' k' g' q =>
  b A' H' (k.then' k' fun a z => (List.mem_cons.mp z).elim (fun e => .inl (by rw [e]; exact List.mem_cons_self)) fun z => (g a z).imp (List.mem_cons_of_mem _) id) (g.trans k g') q
theorem Kp.one' {M : List Addr} {H H' : Hp} {x : Addr} (k : Kp [x] H H') (m : x ∈ M) : Kp M H H' := k.mono fun a z => by rw [List.mem_singleton.mp z]; exact m
end MD

namespace MD
open PySem PySem.Spec PyProof.Rows L2
/-! ### cells: in a tuple of cells, tuples of cells -/
def prC (c : Int × Int) : MD.D := prD c.1 c.2
theorem eqv_pr (c d : Int × Int) : PyData.eqv (prC c).py (prC d).py = decide (c = d) := by
  obtain ⟨a1, a2⟩ := c
  obtain ⟨b1, b2⟩ := d
  show ((a1 == b1) && ((a2 == b2) && true)) = _
  rw [Bool.eq_iff_iff]
  simp only [Bool.and_eq_true, beq_iff_eq, decide_eq_true_eq, Prod.mk.injEq, and_true]
theorem eqv_prs : ∀ (cs ds : List (Int × Int)), PyData.eqvAll (Ds.py (cs.map prC)) (Ds.py (ds.map prC)) = decide (cs = ds)
  | [], [] => rfl
  | [], t :: ts => rfl
  | s :: ss, [] => rfl
  | s :: ss, t :: ts => by
    show (PyData.eqv (prC s).py (prC t).py && PyData.eqvAll (Ds.py (ss.map prC)) (Ds.py (ts.map prC))) = _
    rw [eqv_pr, eqv_prs ss ts, Bool.eq_iff_iff]
    simp only [Bool.and_eq_true, decide_eq_true_eq, List.cons.injEq]
theorem any_prs (c : Int × Int) : ∀ (cs : List (Int × Int)), (Ds.py (cs.map prC)).any (fun y => PyData.eqv y (prC c).py) = cs.any fun z => decide (z = c)
  | [] => rfl
  | s :: ss => by
    show (PyData.eqv (prC s).py (prC c).py || (Ds.py (ss.map prC)).any fun y => PyData.eqv y (prC c).py) = _
    rw [eqv_pr, any_prs c ss]; rfl
theorem lay_prs : ∀ cs : List (Int × Int), PyData.canLayAll0 (Ds.py (cs.map prC)) = true ∧ PyData.depthAll (Ds.py (cs.map prC)) ≤ 1
  | [] => ⟨rfl, Nat.zero_le _⟩
  | s :: ss => by
    obtain ⟨h1, h2⟩ := lay_prs ss
    refine ⟨?_, ?_⟩
    · show (PyData.canLay0 (prC s).py && PyData.canLayAll0 (Ds.py (ss.map prC))) = true
      rw [h1]; rfl
    · show max (PyData.depth (prC s).py) (PyData.depthAll (Ds.py (ss.map prC))) ≤ 1
      exact Nat.max_le.mpr ⟨Nat.le_refl 1, h2⟩
theorem shaped_prs (cs : List (Int × Int)) : SeqAt.shaped (cellsQ cs).py = true := by
  obtain ⟨h1, h2⟩ := lay_prs cs
  show (PyData.canLayAll0 (Ds.py (cs.map prC)) && decide (PyData.depthAll (Ds.py (cs.map prC)) + 1 ≤ 64)) = true
  rw [h1, decide_eq_true (by omega)]; rfl
def rCellIn : R2 := fun x y H Q => ∃ c cs, RepT H (prC c) x ∧ RepT H (cellsQ cs) y ∧ Q (.bl (cs.any fun z => decide (z = c))) H
theorem op_cellIn {X : Cx} (hu : X.A.units + 9 < cLine) : OpR X (compareOp .In) rCellIn := by
  intro pins s σ H x y v u Q I rx ry h
  obtain ⟨c, cs, hc, hs, q⟩ := h
  obtain ⟨as, r1⟩ := Dp.reads I _ x v (RepT.rep hc).dp rx
  obtain ⟨bs, r2⟩ := Dp.reads I _ y u (RepT.rep hs).dp ry
  have l1 := lay_prs cs
  have r2 : Reads s.heap u (.tuple (Ds.py (cs.map prC))) bs := r2
  refine SeqAt.in_tuple_data r2 r1 (PyData.plainAll_of_canLay0 _ l1.1) (PyData.plain_of_canLay0 _ (by rfl)) ?_ ?_
  · have : min (PyData.depthAll (Ds.py (cs.map prC))) (PyData.depth (prC c).py) ≤ 1 := Nat.le_trans (Nat.min_le_left _ _) l1.2
    omega
  · rw [any_prs]
    exact ⟨.bl _, H, I, rfl, q⟩
def rCellEq : R2 := fun x y H Q => ∃ cs ds, RepT H (cellsQ cs) x ∧ RepT H (cellsQ ds) y ∧ Q (.bl (decide (cs = ds))) H
theorem op_cellEq {X : Cx} (hu : X.A.units + 64 < cLine) : OpR X (compareOp .Eq) rCellEq := by
  intro pins s σ H x y v u Q I rx ry h
  obtain ⟨cs, ds, hc, hd, q⟩ := h
  refine op_eqD hu pins s σ H x y v u Q I rx ry ⟨_, _, (RepT.rep hc).dp, (RepT.rep hd).dp, shaped_prs cs, shaped_prs ds, ?_⟩
  have e : PyData.eqv (cellsQ cs).py (cellsQ ds).py = decide (cs = ds) := eqv_prs cs ds
  rw [e]
  exact q
end MD

namespace MD
open PySem PySem.Spec PyProof.Rows L2
/-! ### depth of data, lists by their places -/
theorem D.ok_mono : ∀ {n : Nat} {d : MD.D}, MD.D.ok n d → MD.D.ok (n + 1) d
  | _, .v _, _ => by unfold MD.D.ok; trivial
  | 0, .sq _ _, h => by unfold MD.D.ok at h; exact h.elim
  | n + 1, .sq _ ds, h => by
    unfold MD.D.ok at h ⊢
    exact ⟨h.1, fun d hd => D.ok_mono (h.2 d hd)⟩
theorem D.ok_le {n m : Nat} {d : MD.D} (h : MD.D.ok n d) (l : n ≤ m) : MD.D.ok m d := by
  induction l with
  | refl => exact h
  | step _ ih => exact D.ok_mono ih
theorem Kp.back {H H1 H2 H3 : Hp} {d : Addr} {u : HO} (h : H d = some u) (k1 : Kp [d] H H1) (k2 : Kp [] H1 H2) (k3 : Kp [d] H2 H3) (h3 : H3 d = some u) : Kp [] H H3 := Kp.same (M := []) (((k1.th0 k2).trans k3) : Kp [d] H H3) h h3
/-! ### rows of an association, sorted -/
def rowD (e : Int × MD.D) : MD.D := .sq false [dI e.1, e.2]
def kOf (H : Hp) : V → Int
  | .ref t => match H t with
    | some (.tup (.int n :: _)) => n
    | _ => 0
  | _ => 0
theorem row_at {H : Hp} {e : Int × MD.D} {x : V} (h : RepT H (rowD e) x) : ∃ t z, x = .ref t ∧ H t = some (.tup [.int e.1, z]) ∧ RepT H e.2 z := by
  obtain ⟨t, vs, rfl, g, r⟩ := RepT.tupE h
  obtain ⟨v1, r1, rfl, q1, r⟩ := r.consE
  obtain ⟨v2, r2, rfl, q2, r⟩ := r.consE
  have := r.nilE
  subst this
  rw [q1.vE] at g
  exact ⟨t, v2, rfl, g, q2⟩
theorem row_of {H : Hp} {e : Int × MD.D} {t : Addr} {z : V} (h : H t = some (.tup [.int e.1, z])) (r : RepT H e.2 z) : RepT H (rowD e) (.ref t) := RepT.tup h (RepTs.cons RepT.int (RepTs.cons r RepTs.nil))
theorem kOf_row {H : Hp} {e : Int × MD.D} {x : V} (h : RepT H (rowD e) x) : kOf H x = e.1 := by
  obtain ⟨t, z, rfl, g, _⟩ := row_at h
  simp only [kOf, g]
theorem key_one {cs : List (Int × MD.D)} (nd : (cs.map (·.1)).Nodup) {i j : Nat} {a b : Int × MD.D} (ha : cs[i]? = some a) (hb : cs[j]? = some b) (e : a.1 = b.1) : i = j := by
  have i1 : (cs.map (·.1))[i]? = some a.1 := by rw [List.getElem?_map, ha]; rfl
  have i2 : (cs.map (·.1))[j]? = some a.1 := by rw [List.getElem?_map, hb, e]; rfl
  exact (List.getElem?_inj (List.getElem?_eq_some_iff.mp i1).1 nd).mp (i1.trans i2.symm)
theorem rows_pairs {H : Hp} {cs : List (Int × MD.D)} {xs : List V} (h : RepTs H (cs.map rowD) xs) : ∀ x ∈ xs, ∃ t z, x = V.ref t ∧ H t = some (.tup [.int (kOf H x), z]) := fun x hx => by
  obtain ⟨i, e, _, _, r⟩ := h.mem hx
  rw [kOf_row r]
  obtain ⟨t, z, rfl, g, _⟩ := row_at r
  exact ⟨t, z, rfl, g⟩
theorem rows_inj {H : Hp} {cs : List (Int × MD.D)} {xs : List V} (nd : (cs.map (·.1)).Nodup) (h : RepTs H (cs.map rowD) xs) : ∀ x ∈ xs, ∀ y ∈ xs, kOf H x = kOf H y → x = y := fun x hx y hy e => by
  obtain ⟨i, a, h1, h2, r⟩ := h.mem hx
  obtain ⟨j, b, h3, h4, s⟩ := h.mem hy
  rw [kOf_row r, kOf_row s] at e
  obtain rfl := key_one nd h2 h4 e
  rw [h1] at h3
  exact Option.some.inj h3
/-- .. in order: there is only one -/
structure Srt1 (cs l : List (Int × MD.D)) : Prop where
  pm : l.Perm cs
  so : l.Pairwise fun a b => a.1 ≤ b.1
theorem Srt1.one {cs l1 l2 : List (Int × MD.D)} (nd : (cs.map (·.1)).Nodup) (h1 : Srt1 cs l1) (h2 : Srt1 cs l2) : l1 = l2 := by
  refine List.Perm.eq_of_pairwise (le := fun a b => a.1 ≤ b.1) (fun a b ha hb q1 q2 => ?_) h1.so h2.so (h1.pm.trans h2.pm.symm)
  obtain ⟨i, hi⟩ := List.mem_iff_getElem?.mp (h1.pm.mem_iff.mp ha)
  obtain ⟨j, hj⟩ := List.mem_iff_getElem?.mp (h2.pm.mem_iff.mp hb)
  obtain rfl := key_one nd hi hj (Int.le_antisymm q1 q2)
  rw [hi] at hj
  exact Option.some.inj hj
theorem rows_sorted {H : Hp} {cs : List (Int × MD.D)} {xs ys : List V} (h : RepTs H (cs.map rowD) xs) (p : ys.Perm xs) (s : ys.Pairwise fun x y => kOf H x ≤ kOf H y) : ∃ l, Srt1 cs l ∧ RepTs H (l.map rowD) ys := by
  obtain ⟨l, pl, rl⟩ := RepTs.perm p h
  refine ⟨l, ⟨pl, ?_⟩, rl⟩
  have ln := rl.lenM
  rw [List.pairwise_iff_getElem] at s ⊢
  intro i j hi hj hij
  have e1 : ys[i]? = some ys[i] := List.getElem?_eq_getElem (by omega)
  have e2 : ys[j]? = some ys[j] := List.getElem?_eq_getElem (by omega)
  obtain ⟨a, ha, ra⟩ := rl.at e1
  obtain ⟨b, hb, rb⟩ := rl.at e2
  have := s i j (by omega) (by omega) hij
  rw [kOf_row ra, kOf_row rb] at this
  rw [List.getElem?_eq_getElem hi] at ha
  rw [List.getElem?_eq_getElem hj] at hb
  cases ha
  cases hb
  exact this
end MD

namespace MD
open PySem PySem.Spec PyProof.Rows L2 TL
/-! ### texts of numbers, stays and parties -/
def numS (n : Int) : Str := Str.ofString (toString n)
theorem tl_numS {n : Int} (h : 0 ≤ n) : tl (numS n) = numL n.toNat := by
  unfold numS
  have e : n = ((n.toNat : Nat) : Int) := by omega
  rw [e, tl_num]
  rfl
theorem numS_free {n : Int} {c : Nat} (h : 0 ≤ n) (hc : c < 48 ∨ 57 < c) : c ∉ tl (numS n) := by
  rw [tl_numS h]
  exact numL_free hc
def figS (n : Int) : Prop := 0 ≤ n ∧ n < 10 ^ 12
theorem numS_len {n : Int} (h : figS n) : (numS n).length ≤ 12 := by
  obtain ⟨h0, h1⟩ := h
  rw [len_tl, tl_numS h0]
  exact numL_len (by decide) (by omega)
theorem numS_val {n : Int} (h : figS n) : intText? (numS n) = some n := by
  have hl := numS_len h
  obtain ⟨h0, h1⟩ := h
  have e : n = ((n.toNat : Nat) : Int) := by omega
  have := int_num (n := n.toNat) (by rw [← tl_numS h0, ← len_tl]; omega)
  unfold numS
  rw [← e] at this
  exact this
theorem numS_ne {n : Int} (h : 0 ≤ n) : tl (numS n) ≠ [] := by
  rw [tl_numS h]
  exact numL_ne _
theorem numS_digits {n : Int} (h : 0 ≤ n) : NumText.AllDigits (tl (numS n)) := by
  rw [tl_numS h]
  exact numL_digits _
theorem digit_is : ∀ c : Nat, 48 ≤ c → c ≤ 57 → Unicode.isDigit c = true := by
  intro c h1 h2
  have : c = 48 ∨ c = 49 ∨ c = 50 ∨ c = 51 ∨ c = 52 ∨ c = 53 ∨ c = 54 ∨ c = 55 ∨ c = 56 ∨ c = 57 := by omega
  rcases this with rfl | rfl | rfl | rfl | rfl | rfl | rfl | rfl | rfl | rfl <;> decide +kernel
theorem numS_isdigit {n : Int} (h : 0 ≤ n) : Txt.isdigit (numS n) = true := by
  unfold Txt.isdigit
  have l : 0 < (numS n).length := by
    rw [len_tl]
    exact List.length_pos_iff.mpr (numS_ne h)
  rw [Bool.and_eq_true]
  refine ⟨decide_eq_true l, ?_⟩
  rw [← Array.all_toList]
  exact List.all_eq_true.mpr fun c hc => by
    obtain ⟨a, b⟩ := numS_digits h c hc
    exact digit_is c a b
theorem numS_isascii {n : Int} (h : 0 ≤ n) : Txt.isascii (numS n) = true := by
  unfold Txt.isascii
  rw [← Array.all_toList]
  exact List.all_eq_true.mpr fun c hc => by
    obtain ⟨a, b⟩ := numS_digits h c hc
    exact decide_eq_true (by omega)
theorem numL_head : ∀ {n : Nat}, 0 < n → (numL n).head? ≠ some 48 := by
  intro n
  induction n using Nat.strongRecOn with
  | _ n ih =>
    intro h
    by_cases z : n < 10
    · rw [numL_lt z]
      intro e
      have : 48 + n = 48 := by injection e
      omega
    · rw [numL_step (by omega)]
      have := ih (n / 10) (by omega) (by omega)
      rw [List.head?_append]
      cases e : (numL (n / 10)).head? with
      | none => exact absurd (List.head?_eq_none_iff.mp e) (numL_ne _)
      | some c =>
        rw [e] at this
        exact this
theorem sub_head {x : Str} (h : Txt.startswith x "0" = true) : (tl x).head? = some 48 := by
  unfold Txt.startswith at h
  rw [Bool.and_eq_true] at h
  have e := eq_of_beq (show (x.cps.extract 0 (0 + (Str.ofString "0").length) == (Str.ofString "0").cps) = true from h.2)
  have e2 := congrArg Array.toList e
  rw [Array.toList_extract] at e2
  have t0 : (Str.ofString "0").cps.toList = [48] := by decide +kernel
  have l0 : (Str.ofString "0").length = 1 := by decide +kernel
  rw [t0, l0] at e2
  have e3 : (x.cps.toList).take 1 = [48] := by simpa using e2
  show (x.cps.toList).head? = some 48
  cases f : x.cps.toList with
  | nil => rw [f] at e3; cases e3
  | cons c r => rw [f] at e3; simpa using e3
theorem numS_zero {n : Int} (h : 0 ≤ n) (s : Txt.startswith (numS n) "0" = true) : n = 0 := by
  have e := sub_head s
  rw [tl_numS h] at e
  by_cases z : n = 0
  · exact z
  · exact absurd e (numL_head (by omega))
/-! ### stays, parties -/
def stS (s : Sy) : Str := numS s.1 ++ ":" ++ (numS s.2.1 ++ "-" ++ numS s.2.2)
def ptS (p : List Sy) : Str := Txt.join "+" (p.map stS)
structure StF (s : Sy) : Prop where
  k0 : 0 ≤ s.1
  k1 : s.1 < 1000000000000
  f0 : 0 ≤ s.2.1
  lt : s.2.1 < s.2.2
  e1 : s.2.2 < 1000000000000
theorem StF.k {s : Sy} (h : StF s) : figS s.1 := ⟨h.k0, by have := h.k1; omega⟩
theorem StF.f {s : Sy} (h : StF s) : figS s.2.1 := ⟨h.f0, by have := h.lt; have := h.e1; omega⟩
theorem StF.e {s : Sy} (h : StF s) : figS s.2.2 := ⟨by have := h.lt; have := h.f0; omega, by have := h.e1; omega⟩
structure PaF (p : List Sy) : Prop where
  l1 : 1 ≤ p.length
  l4 : p.length ≤ 4
  ok : ∀ s ∈ p, StF s
  so : p.Pairwise Sy.le
theorem tl_sign (s : String) (l : List Nat) (h : tl (Str.ofString s) = l) : tl (Str.ofString s) = l := h
theorem tl_colon : tl (":" : Str) = [58] := by decide +kernel
theorem tl_minus : tl ("-" : Str) = [45] := by decide +kernel
theorem tl_plus : tl ("+" : Str) = [43] := by decide +kernel
theorem tl_blank : tl (" " : Str) = [32] := by decide +kernel
theorem tl_feed : tl ("\n" : Str) = [10] := by decide +kernel
theorem stS_free {s : Sy} (h : StF s) {c : Nat} (h1 : c < 45 ∨ 58 < c) : c ∉ tl (stS s) := by
  unfold stS
  rw [tl_append, tl_append, tl_append, tl_append, tl_colon, tl_minus]
  simp only [List.mem_append, List.mem_singleton, not_or]
  exact ⟨⟨numS_free h.k.1 (by omega), by omega⟩, ⟨numS_free h.f.1 (by omega), by omega⟩, numS_free h.e.1 (by omega)⟩
theorem stS_part {s : Sy} (h : StF s) : Txt.partition (stS s) ":" = (numS s.1, (":" : Str), numS s.2.1 ++ "-" ++ numS s.2.2) := partition_app tl_colon (numS_free h.k.1 (by omega))
theorem night_part {s : Sy} (h : StF s) : Txt.partition (numS s.2.1 ++ "-" ++ numS s.2.2) "-" = (numS s.2.1, ("-" : Str), numS s.2.2) := partition_app tl_minus (numS_free h.f.1 (by omega))
theorem ptS_split {p : List Sy} (hp : p ≠ []) (h : ∀ s ∈ p, StF s) : Txt.split (ptS p) "+" = p.map stS := by
  unfold ptS
  refine split_join tl_plus (by decide +kernel) (fun e => hp (List.map_eq_nil_iff.mp e)) fun t ht => ?_
  obtain ⟨s, hs, rfl⟩ := List.mem_map.mp ht
  exact stS_free (h s hs) (by omega)
/-! ### methods of texts, new objects by what is kept -/
def kSplitR : V → List V → Hp → VK → Prop := fun x xs H Q => ∃ (a b : Str), x = .str a ∧ xs = [.str b] ∧ (b.length == 0) = false ∧ a.length + 2 ≤ sizeLine ∧ New H (.lst ((Txt.split a b).map V.str)) Q
theorem kmt_split {X : Cx} : MtR X "str.split" kSplitR := mtI mt_split fun x xs H Q ⟨a, b, h1, h2, h3, h4, q⟩ => ⟨a, b, h1, h2, h3, h4, q.old⟩
def kPartR : V → List V → Hp → VK → Prop := fun x xs H Q => ∃ (a b : Str), x = .str a ∧ xs = [.str b] ∧ (b.length == 0) = false ∧ a.length ≤ sizeLine ∧ New H (.tup [.str (Txt.partition a b).1, .str (Txt.partition a b).2.1, .str (Txt.partition a b).2.2]) Q
theorem kmt_partition {X : Cx} : MtR X "str.partition" kPartR := mtI mt_partition fun x xs H Q ⟨a, b, h1, h2, h3, h4, q⟩ => ⟨a, b, h1, h2, h3, h4, q.old⟩
section
variable {X : Cx} {o e : Expr} {to te : TE} {apos pos : Pos}
theorem ke_split (ho : PE X o to) (he : PE X e te) (hs : starEach [e] X.env = [(false, eval e X.env)] := by rfl) (hbase : attributeBase o "split" X.env (eval o X.env) = eval o X.env := by rfl) (hline : (apos.endLine == pos.line) = true := by rfl) :
    PE X (.Call (.Attribute o "split" apos) [e] [] pos) (tM1 kSplitR to te) := pe_m1 F.slot_str_split F.type_str_split kmt_split ho he hs hbase hline
theorem ke_partition (ho : PE X o to) (he : PE X e te) (hs : starEach [e] X.env = [(false, eval e X.env)] := by rfl) (hbase : attributeBase o "partition" X.env (eval o X.env) = eval o X.env := by rfl) (hline : (apos.endLine == pos.line) = true := by rfl) :
    PE X (.Call (.Attribute o "partition" apos) [e] [] pos) (tM1 kPartR to te) := pe_m1 F.slot_str_partition F.type_str_partition kmt_partition ho he hs hbase hline
def kJoinR (K : PySem.W.Frag) : V → List V → Hp → VK → Prop := fun x xs H Q => ∃ (a : Str) (p : Addr) (ys : List Str), x = .str a ∧ xs = [.ref p] ∧ (SqL K H p (ys.map V.str) ∨ SqT K H p (ys.map V.str)) ∧ (ys.map (·.length)).sum + ys.length * a.length ≤ 16777216 ∧ Q (.str (Txt.join a ys)) H
theorem ke_join {K : PySem.W.Frag} (ho : PE X o to) (he : PE X e te) (h : X.K = K := by rfl) (hs : starEach [e] X.env = [(false, eval e X.env)] := by rfl) (hbase : attributeBase o "join" X.env (eval o X.env) = eval o X.env := by rfl) (hline : (apos.endLine == pos.line) = true := by rfl) :
    PE X (.Call (.Attribute o "join" apos) [e] [] pos) (tM1 (kJoinR K) to te) := by
  subst h
  exact pe_m1 F.slot_str_join F.type_str_join mt_join ho he hs hbase hline
end
theorem callOr {X : Cx} {f : Value} {r1 r2 : List V → Hp → VK → Prop} (h1 : CallR X f r1) (h2 : CallR X f r2) : CallR X f (fun xs H Q => r1 xs H Q ∨ r2 xs H Q) := fun pins s σ H xs us Q I v q => q.elim (h1 pins s σ H xs us Q I v) (h2 pins s σ H xs us Q I v)
end MD

namespace MD
open PySem PySem.Spec PyProof.Rows L2
/-! ### d.get(x), d a dict of the module with text keys and numbers -/
def WrD (w : World) (K : PySem.W.Frag) (d : Addr) (kvs : List (Str × Int)) : Prop := ∃ es n, KDict K w d es n ∧ ∀ q ∈ kvs, ∃ u, PySem.W.nsIn K d q.1 = some (some u) ∧ RelV (.int q.2) u
def kWGet (d : Addr) (kvs : List (Str × Int)) (td ty : TE) : TE := fun σ H Q => td σ H fun x H1 => x = .ref d ∧ ty σ H1 fun y H2 => ∃ (z : Str) (i : Int), y = .str z ∧ (z, i) ∈ kvs ∧ Q (.int i) H2
section
variable {X : Cx} {o e : Expr} {apos cpos : Pos} {td ty : TE} {w : World} {K : PySem.W.Frag} {d : Addr} {kvs : List (Str × Int)}
theorem ke_wget (U : WrD w K d kvs) (hK : X.K = K) (hw : X.w = w) (ho : PE X o td) (he : PE X e ty) (m : M1 X o "get" apos e cpos) : PE X (.Call (.Attribute o "get" apos) [e] [] cpos) (kWGet d kvs td ty) := by
  subst hK hw
  obtain ⟨es, n, D, hv⟩ := U
  refine ⟨fun pins s σ H Q I h => ?_⟩
  refine wpAny_Call_method m.base m.few m.line PySem.F.plainAttrs_dict PySem.F.slot_dict_get PySem.F.type_dict_get (thn (ho.run pins s σ H _ I h) fun u s1 ⟨x, H1, I1, rx, ex, q1⟩ => ?_)
  subst ex
  obtain rfl : u = Value.ref d := rx
  have hm1 := PySem.W.mapOf_K (prog := X.prog) (w := X.w) I1.kIn D.at_ D.lit
  refine ⟨hm1.typeIs, hm1.noDict, ?_⟩
  rw [m.trees]
  refine Calls.callWith_builtin rfl (Calls.evalArgs_plain (Calls.spliced_cons (thn (he.run pins s1 σ H1 _ I1 q1) fun iv s2 ⟨y, H2, I2, ry, z, i, ey, hz, q2⟩ => Calls.spliced_nil ?_)))
  subst ey
  obtain ⟨t, rfl⟩ := (show ∃ t, iv = Value.str z t from ry)
  obtain ⟨u, hu, ru⟩ := hv (z, i) hz
  have hm2 := PySem.W.mapOf_K (prog := X.prog) (w := X.w) I2.kIn D.at_ D.lit
  refine call_meetsIn PySem.F.slot_dict_get hm2.typeIs PySem.F.entry_dict_get (PySem.F.args_dict_get_2 _ _) (meets_dict_get (strKind X.prog X.w) d (strKind_is X.prog X.w z t) D.low) ⟨_, hm2, ?_⟩
  rw [PySem.W.find_K D.at_ hu]
  exact ⟨.int i, H2, I2.tok _, ru, q2⟩
end
/-! ### [x] in (["yes"], ["no"]) -/
def ynT (g : Bool) : Str := if g = true then "yes" else "no"
def rYN (K : PySem.W.Frag) : R2 := fun x y H Q => ∃ g, Rep K H (.sq true [.v (.str (ynT g))]) x ∧ Rep K H (.sq false [.sq true [.v (.str "yes")], .sq true [.v (.str "no")]]) y ∧ Q (.bl true) H
theorem op_ynIn {X : Cx} {K : PySem.W.Frag} (hu : X.A.units + 9 < cLine) (hK : X.K = K) : OpR X (compareOp .In) (rYN K) := by
  subst hK
  intro pins s σ H x y v u Q I rx ry h
  obtain ⟨g, hc, hs, q⟩ := h
  obtain ⟨as, r1⟩ := Dp.reads I _ x v hc.dp rx
  obtain ⟨bs, r2⟩ := Dp.reads I _ y u hs.dp ry
  have r2 : Reads s.heap u (.tuple [.list [.str "yes"], .list [.str "no"]]) bs := r2
  have r1 : Reads s.heap v (.list [.str (ynT g)]) as := r1
  refine SeqAt.in_tuple_data r2 r1 (by decide +kernel) (by cases g <;> decide +kernel) ?_ ?_
  · have : min (PyData.depthAll [.list [.str "yes"], .list [.str "no"]]) (PyData.depth (.list [.str (ynT g)])) ≤ 1 := Nat.le_trans (Nat.min_le_left _ _) (by decide +kernel)
    omega
  · have e : ([PyData.list [.str "yes"], .list [.str "no"]].any fun z => PyData.eqv z (.list [.str (ynT g)])) = true := by cases g <;> decide +kernel
    rw [e]
    exact ⟨.bl true, H, I, rfl, q⟩
end MD

namespace MD
open PySem PySem.Spec PyProof.Rows L2 TL
/-! ### which texts are numbers -/
theorem numL_of : ∀ (k : Nat) (l : List Nat), l.length = k → NumText.AllDigits l → l ≠ [] → (l.head? ≠ some 48 ∨ l = [48]) → ∃ n, l = numL n := by
  intro k
  induction k with
  | zero => intro l hl _ hne _; exact absurd (List.length_eq_zero_iff.mp hl) hne
  | succ k ih =>
    intro l hl hd hne hh
    have e := (List.dropLast_concat_getLast hne).symm
    generalize hc : l.getLast hne = c at e
    generalize hi : l.dropLast = i at e
    have dc := hd c (by rw [e]; exact List.mem_append_right _ (List.mem_singleton.mpr rfl))
    by_cases z : i = []
    · rw [z, List.nil_append] at e
      refine ⟨c - 48, ?_⟩
      rw [numL_lt (by omega), e, show 48 + (c - 48) = c by omega]
    · have hil : i.length = k := by
        rw [← hi, List.length_dropLast, hl]; rfl
      have hh2 : i.head? ≠ some 48 := by
        rcases hh with hh | hh
        · rw [e, List.head?_append] at hh
          intro y
          rw [y] at hh
          exact hh rfl
        · rw [hh] at hi
          exact absurd hi.symm z
      obtain ⟨m, hm⟩ := ih i hil (fun x hx => hd x (by rw [e]; exact List.mem_append_left _ hx)) z (.inl hh2)
      have m0 : m ≠ 0 := fun y => by
        rw [y] at hm
        rw [hm] at hh2
        exact hh2 (by decide +kernel)
      refine ⟨10 * m + (c - 48), ?_⟩
      rw [numL_step (by omega), e, hm, show (10 * m + (c - 48)) / 10 = m by omega, show (10 * m + (c - 48)) % 10 = c - 48 by omega, show 48 + (c - 48) = c by omega]
theorem numL_big : ∀ (k n : Nat), 10 ^ k ≤ n → k < (numL n).length
  | 0, n, _ => List.length_pos_iff.mpr (numL_ne n)
  | k + 1, n, h => by
    have p : 0 < 10 ^ k := Nat.pow_pos (by decide)
    rw [Nat.pow_succ] at h
    rw [numL_step (by omega), List.length_append]
    have := numL_big k (n / 10) (by omega)
    simp only [List.length_cons, List.length_nil]
    omega
theorem ascii_digit : ∀ c : Nat, c < 128 → Unicode.isDigit c = true → 48 ≤ c ∧ c ≤ 57 := by decide +kernel
theorem head_sub {x : Str} (h : (tl x).head? = some 48) : Txt.startswith x "0" = true := by
  unfold Txt.startswith
  have t0 : (Str.ofString "0").cps.toList = [48] := by decide +kernel
  have l0 : (Str.ofString "0").length = 1 := by decide +kernel
  have h2 : (x.cps.toList).head? = some 48 := h
  rw [Bool.and_eq_true]
  refine ⟨?_, ?_⟩
  · rw [l0]
    have : 0 < x.length := by
      rw [len_tl]
      cases e : tl x with
      | nil => rw [e] at h; cases h
      | cons a r => exact Nat.succ_pos _
    exact decide_eq_true (by omega)
  · show (x.cps.extract 0 (0 + (Str.ofString "0").length) == (Str.ofString "0").cps) = true
    refine beq_iff_eq.mpr (Array.toList_inj.mp ?_)
    rw [Array.toList_extract, t0, l0]
    cases e : x.cps.toList with
    | nil => rw [e] at h2; cases h2
    | cons a r =>
      rw [e] at h2
      have : a = 48 := by simpa using h2
      subst this
      simp
theorem num_iff (s : Str) : (∃ n, figS n ∧ s = numS n) ↔ (s.length ≤ 12 ∧ Txt.isascii s = true ∧ Txt.isdigit s = true ∧ (Txt.startswith s "0" = true → s = "0")) := by
  constructor
  · rintro ⟨n, nf, rfl⟩
    refine ⟨numS_len nf, numS_isascii nf.1, numS_isdigit nf.1, fun h => ?_⟩
    rw [numS_zero nf.1 h]
    decide +kernel
  · rintro ⟨h1, h2, h3, h4⟩
    unfold Txt.isascii at h2
    unfold Txt.isdigit at h3
    rw [← Array.all_toList] at h2
    rw [Bool.and_eq_true, ← Array.all_toList] at h3
    have l0 : 0 < s.length := of_decide_eq_true h3.1
    have dig : NumText.AllDigits (tl s) := fun c hc => ascii_digit c (of_decide_eq_true (List.all_eq_true.mp h2 c hc)) (List.all_eq_true.mp h3.2 c hc)
    have ne : tl s ≠ [] := fun z => by
      rw [len_tl, z] at l0
      exact absurd l0 (by decide)
    obtain ⟨n, hn⟩ := numL_of _ (tl s) rfl dig ne (by
      by_cases z : (tl s).head? = some 48
      · refine .inr ?_
        rw [h4 (head_sub z)]
        decide +kernel
      · exact .inl z)
    have big : n < 10 ^ 12 := by
      by_cases z : n < 10 ^ 12
      · exact z
      · have := numL_big 12 n (by omega)
        rw [← hn, ← len_tl] at this
        omega
    refine ⟨n, ⟨by omega, by omega⟩, ext_tl ?_⟩
    rw [tl_numS (by omega), hn]
    rfl
/-! ### which texts are stays -/
theorem part_cases {y : Str} {s : Nat} (ey : tl y = [s]) (x : Str) : (s ∉ tl x ∧ Txt.partition x y = (x, Str.empty, Str.empty)) ∨ ∃ a b : Str, s ∉ tl a ∧ x = a ++ y ++ b ∧ Txt.partition x y = (a, y, b) := by
  by_cases h : s ∈ tl x
  · obtain ⟨a, b, e, na⟩ := List.eq_append_cons_of_mem h
    have ea : tl (⟨a.toArray⟩ : Str) = a := rfl
    have eb : tl (⟨b.toArray⟩ : Str) = b := rfl
    have ex : x = (⟨a.toArray⟩ : Str) ++ y ++ (⟨b.toArray⟩ : Str) := ext_tl (by
      rw [tl_append, tl_append, ea, eb, ey, e, List.append_assoc]; rfl)
    refine .inr ⟨⟨a.toArray⟩, ⟨b.toArray⟩, na, ex, ?_⟩
    rw [ex]
    exact partition_app ey na
  · exact .inl ⟨h, partition_none ey h⟩
theorem tl_empty : tl Str.empty = [] := rfl
theorem numS_notE {n : Int} (h : 0 ≤ n) : Str.empty ≠ numS n := fun e => numS_ne h (by rw [← e]; rfl)
theorem stay_iff (x : Str) : (∃ st : Sy, StF st ∧ x = stS st) ↔ ∃ k f e : Int, figS k ∧ figS f ∧ figS e ∧ f < e ∧ (Txt.partition x ":").1 = numS k ∧
    (Txt.partition (Txt.partition x ":").2.2 "-").1 = numS f ∧ (Txt.partition (Txt.partition x ":").2.2 "-").2.2 = numS e := by
  constructor
  · rintro ⟨st, sf, rfl⟩
    refine ⟨st.1, st.2.1, st.2.2, sf.k, sf.f, sf.e, sf.lt, ?_, ?_, ?_⟩
    · rw [stS_part sf]
    · rw [stS_part sf]
      show (Txt.partition (numS st.2.1 ++ "-" ++ numS st.2.2) "-").1 = _
      rw [night_part sf]
    · rw [stS_part sf]
      show (Txt.partition (numS st.2.1 ++ "-" ++ numS st.2.2) "-").2.2 = _
      rw [night_part sf]
  · rintro ⟨k, f, e, kf, ff, ef, lt, h1, h2, h3⟩
    rcases part_cases tl_colon x with ⟨_, e1⟩ | ⟨a, b, na, ex, e1⟩
    · rw [e1] at h2
      rcases part_cases tl_minus Str.empty with ⟨_, e2⟩ | ⟨c, d, _, ec, _⟩
      · have h2 : (Txt.partition Str.empty "-").1 = numS f := h2
        rw [e2] at h2
        exact absurd h2 (numS_notE ff.1)
      · have := congrArg tl ec
        rw [tl_append, tl_append, tl_minus, tl_empty] at this
        exact absurd this.symm (by simp)
    · rw [e1] at h1 h2 h3
      have h1 : a = numS k := h1
      have h2 : (Txt.partition b "-").1 = numS f := h2
      have h3 : (Txt.partition b "-").2.2 = numS e := h3
      rcases part_cases tl_minus b with ⟨_, e2⟩ | ⟨c, d, nc, eb, e2⟩
      · rw [e2] at h3
        exact absurd h3 (numS_notE ef.1)
      · rw [e2] at h2 h3
        have h2 : c = numS f := h2
        have h3 : d = numS e := h3
        refine ⟨(k, f, e), ⟨kf.1, kf.2, ff.1, lt, ef.2⟩, ?_⟩
        rw [ex, eb, h1, h2, h3]
        unfold stS
        rfl
/-! ### a text split at a sign, and joined -/
theorem pre1 (s c : Nat) (r : List Nat) : pre [s] (c :: r) = (s == c) := by
  show (([c] : List Nat) == [s]) = (s == c)
  rw [Bool.eq_iff_iff, beq_iff_eq, beq_iff_eq]
  exact ⟨fun h => by injection h with h _; exact h.symm, fun h => by rw [h]⟩
theorem spl1_parts (s : Nat) : ∀ (l acc : List Nat), s ∉ acc → joinL [s] (spl [s] 0 acc l) = acc ++ l ∧ (∀ p ∈ spl [s] 0 acc l, s ∉ p) ∧ spl [s] 0 acc l ≠ []
  | [], acc, h => by
    rw [spl_nil]
    exact ⟨by rw [List.append_nil]; rfl, fun p hp => by rw [List.mem_singleton.mp hp]; exact h, fun z => nomatch z⟩
  | c :: r, acc, h => by
    by_cases e : s = c
    · rw [spl_hit (by rw [pre1, e]; exact beq_self_eq_true c)]
      obtain ⟨h1, h2, h3⟩ := spl1_parts s r [] (fun z => nomatch z)
      have h1 : joinL [s] (spl [s] ([s].length - 1) [] r) = [] ++ r := h1
      have h2 : ∀ p ∈ spl [s] ([s].length - 1) [] r, s ∉ p := h2
      have h3 : spl [s] ([s].length - 1) [] r ≠ [] := h3
      refine ⟨?_, fun p hp => ?_, fun z => nomatch z⟩
      · cases q : spl [s] ([s].length - 1) [] r with
        | nil => exact absurd q h3
        | cons a t =>
          rw [q] at h1
          show acc ++ ([s] ++ joinL [s] (a :: t)) = _
          rw [h1, ← e]
          rfl
      · rcases List.mem_cons.mp hp with z | z
        · rw [z]; exact h
        · exact h2 p z
    · rw [spl_miss (by rw [pre1]; exact beq_eq_false_iff_ne.mpr e)]
      obtain ⟨h1, h2, h3⟩ := spl1_parts s r (acc ++ [c]) (fun z => by
        rcases List.mem_append.mp z with z | z
        · exact h z
        · exact e (List.mem_singleton.mp z))
      exact ⟨by rw [h1, List.append_assoc]; rfl, h2, h3⟩
theorem split_parts {y : Str} {s : Nat} (ey : tl y = [s]) (hk : y.cps.all (· < 256) = true) (x : Str) : x = Txt.join y (Txt.split x y) ∧ (∀ p ∈ Txt.split x y, s ∉ tl p) ∧ Txt.split x y ≠ [] := by
  have e := split_spl x y (by rw [ey]; simp) (kind_ok hk)
  rw [ey] at e
  obtain ⟨h1, h2, h3⟩ := spl1_parts s (tl x) [] (fun z => nomatch z)
  rw [← e] at h1 h2 h3
  refine ⟨ext_tl ?_, fun p hp => h2 _ (List.mem_map.mpr ⟨p, hp, rfl⟩), fun z => h3 (by rw [z]; rfl)⟩
  rw [join_eq, tl_join, ey, h1, List.nil_append]
theorem split_iff {y : Str} {s : Nat} (ey : tl y = [s]) (hk : y.cps.all (· < 256) = true) (x : Str) {ps : List Str} (hne : ps ≠ []) (hp : ∀ p ∈ ps, s ∉ tl p) : Txt.split x y = ps ↔ x = Txt.join y ps := by
  constructor
  · intro e
    rw [← e]
    exact (split_parts ey hk x).1
  · intro e
    rw [e]
    exact split_join ey hk hne hp
theorem join2 (y a b : Str) : Txt.join y [a, b] = a ++ y ++ b := by rw [join_eq]; rfl
theorem stay_law (x : Str) : (∃ st : Sy, StF st ∧ x = stS st) ↔ ∃ (b : Str) (k f e : Int), figS k ∧ figS f ∧ figS e ∧ f < e ∧ Txt.split x ":" = [numS k, b] ∧ Txt.split b "-" = [numS f, numS e] := by
  constructor
  · rintro ⟨st, sf, rfl⟩
    refine ⟨numS st.2.1 ++ "-" ++ numS st.2.2, st.1, st.2.1, st.2.2, sf.k, sf.f, sf.e, sf.lt, ?_, ?_⟩
    · refine (split_iff tl_colon (by decide +kernel) _ (ps := [numS st.1, numS st.2.1 ++ "-" ++ numS st.2.2]) (fun z => nomatch z) fun p hp => ?_).mpr (join2 _ _ _).symm
      rcases List.mem_cons.mp hp with rfl | hp
      · exact numS_free sf.k.1 (by omega)
      · rw [List.mem_singleton.mp hp, tl_append, tl_append, tl_minus]
        simp only [List.mem_append, List.mem_singleton, not_or]
        exact ⟨⟨numS_free sf.f.1 (by omega), by omega⟩, numS_free sf.e.1 (by omega)⟩
    · refine (split_iff tl_minus (by decide +kernel) _ (ps := [numS st.2.1, numS st.2.2]) (fun z => nomatch z) fun p hp => ?_).mpr (join2 _ _ _).symm
      rcases List.mem_cons.mp hp with rfl | hp
      · exact numS_free sf.f.1 (by omega)
      · rw [List.mem_singleton.mp hp]
        exact numS_free sf.e.1 (by omega)
  · rintro ⟨b, k, f, e, kf, ff, ef, lt, h1, h2⟩
    have e1 := (split_parts tl_colon (by decide +kernel) x).1
    have e2 := (split_parts tl_minus (by decide +kernel) b).1
    rw [h1, join2] at e1
    rw [h2, join2] at e2
    refine ⟨(k, f, e), ⟨kf.1, kf.2, ff.1, lt, ef.2⟩, ?_⟩
    rw [e1, e2]
    rfl
theorem numS_inj {n m : Int} (h : figS n) (h2 : figS m) (e : numS n = numS m) : n = m := by
  have := numS_val h
  rw [e, numS_val h2] at this
  exact (Option.some.inj this).symm
theorem stS_inj {s t : Sy} (h : StF s) (h2 : StF t) (e : stS s = stS t) : s = t := by
  have e1 := stS_part h
  rw [e, stS_part h2] at e1
  have a1 := congrArg (·.1) e1
  have a2 := congrArg (·.2.2) e1
  have a1 : numS t.1 = numS s.1 := a1
  have a2 : numS t.2.1 ++ "-" ++ numS t.2.2 = numS s.2.1 ++ "-" ++ numS s.2.2 := a2
  have e2 := night_part h
  rw [← a2, night_part h2] at e2
  have b1 : numS t.2.1 = numS s.2.1 := congrArg (·.1) e2
  have b2 : numS t.2.2 = numS s.2.2 := congrArg (·.2.2) e2
  exact Prod.ext (numS_inj h.k h2.k a1.symm) (Prod.ext (numS_inj h.f h2.f b1.symm) (numS_inj h.e h2.e b2.symm))
theorem party_iff (x : Str) : (∃ p : List Sy, PaF p ∧ x = ptS p) ↔ ∃ p : List Sy, PaF p ∧ Txt.split x "+" = p.map stS := by
  constructor
  · rintro ⟨p, pf, rfl⟩
    exact ⟨p, pf, ptS_split (fun z => by have := pf.l1; rw [z] at this; exact absurd this (by decide)) pf.ok⟩
  · rintro ⟨p, pf, e⟩
    refine ⟨p, pf, ?_⟩
    have := (split_parts tl_plus (by decide +kernel) x).1
    rw [e] at this
    exact this
end MD

namespace MD
open PySem PySem.Spec PyProof.Rows L2
/-! ### a comprehension whose step may raise: the error arm in the comprehension's own env -/
/-- what the run of the block is to reach: the list let out, or the exception passed on from the block's env ce -/
def BlkEnd (M : Model) (A : Around) (E : Value → Shared → Prop) (Q : Value → Shared → Prop) (acc : Value) (ce : Env) (r : Result) (s' : Shared) : Prop :=
  ∃ m, s'.heap.Ns ce.locals m ∧ ∀ h', Heap.SameBut ce.locals s'.heap h' → match r with
    | .ok _ => Q acc { s' with heap := h' }
    | .error x => wpAny M A (passOn "comprehension.variables-let-go" x ce : Sem Value) (fun _ _ => False) E { s' with heap := h' }
section
variable {M : Model} {A : Around} {E : Value → Shared → Prop} {s : Shared} {env : Env}
theorem comp_run {e : Expr} {scope : Scope} {pos : Pos} {newAcc first : Sem Value} {g : Comprehension} {gs : List Comprehension} {cl : List (Str × Addr)} {Q : Value → Shared → Prop}
    (hcl : clausesOf e = g :: gs) (hs : ∀ x, foldedSetIterable g.iter env x = pure x) (hclos : closureFor scope env = pure cl)
    (hkind : scope.kind = .function) (hnames : ∀ x ∈ scope.names, x.2 = .local → scope.names.lookup x.1 = some .local)
    (h : wpAny M A first (fun x s1 => wpAny M A (pyIter x) (fun it s2 => wpAny M A newAcc (fun acc s3 =>
      wpAny M A (newFunctionEnv scope env.globals cl [] env.qual none .none (some env)) (fun cenv s4 =>
        codeAny M A (.compStart e 0 it acc { cenv with scope := relabel scope env }) (BlkEnd M A E Q acc { cenv with scope := relabel scope env }) s4) E s3) E s2) E s1) E s) :
    wpAny M A (comprehension e scope env pos newAcc false first none) Q E s := by
  unfold comprehension
  rw [hclos, hcl]
  refine wpAny_bind (thn h fun x s1 h1 => wpAny_bind (wpAny_standAt ?_))
  refine wpAny_bind (wpAny_of_eq (hs x) ?_)
  refine wpAny_bind (wpAny_holding (thn h1 fun it s2 h2 => ?_))
  refine wpAny_standIf (wpAny_bind (thn h2 fun acc s3 h3 => wpAny_bind (wpAny_pure (wpAny_bind (thn h3 fun ce s4 h4 => ?_)))))
  dsimp only
  have hv : ∀ x ∈ (scope.names.filter fun x => (x.2 == .local || x.2 == .cell) && x.1 != (".0" : Str)).reverse, x.2 = .local →
      Env.kindOf { ce with scope := relabel scope env } x.1 = some .local := fun x hx hl => lookup_relabel_local (hnames x (List.mem_filter.mp (List.mem_reverse.mp hx)).1 hl)
  refine wpAny_holding (wpAny_bind (wpAny_attempt (wpAny_holding (wpAny_run (codeAny_mono h4 fun r s' hr => ?_)))))
  obtain ⟨m, hn, hr⟩ := hr
  cases r with
  | ok f => exact wpAny_bind (wpAny_holding (wpAny_comp_letGo (cenv := { ce with scope := relabel scope env }) hkind _ s' m hv hn fun h' m' _ hs' => wpAny_pure (hr h' hs')))
  | error x => exact wpAny_bind (wpAny_holding (wpAny_comp_letGo (cenv := { ce with scope := relabel scope env }) hkind _ s' m hv hn fun h' m' _ hs' => thn (hr h' hs') fun _ _ f => f.elim))
end
/-! ### what a callee lets out of the block -/
abbrev blx (X : Cx) (s : Shared) (H : Hp) (scope : Scope) (ce : Env) (fp : List Addr) (E : Value → Shared → Prop) : Cx := (X.blk s H scope ce fp).tr [] E
theorem funFrames_but {C : Addr} {base B' h h' : Heap} (sb : Heap.SameBut C h h') : ∀ {l : List Env}, h.FunFrames base l → (∀ L ∈ frs l, L ≠ C) → (∀ b, base.get? b = none → B'.get? b = none) → h'.FunFrames B' l
  | [], _, _, _ => trivial
  | env :: l, h0, hn, hb => by
    obtain ⟨hk, ⟨L, o, hf, hbn, ho, hd⟩, hr⟩ := h0
    refine ⟨hk, ⟨L, o, hf, hb L hbn, (sb.2 L (hn L (List.mem_filterMap.mpr ⟨env, List.mem_cons_self, hf⟩))).trans ho, hd⟩, funFrames_but sb hr (fun b hb' => ?_) hb⟩
    obtain ⟨e, he, q⟩ := List.mem_filterMap.mp hb'
    exact hn b (List.mem_filterMap.mpr ⟨e, List.mem_cons_of_mem _ he, q⟩)
theorem blx_passes {X : Cx} {E : XK} {pins : List (Addr × Obj)} {σ : L2.St} {H3 : Hp} {s3 : Shared} {fp : List Addr} {scope : Scope} {ce : Env} {Qf : Value → Shared → Prop} {acc : Value}
    (hs : X.stack = X.env :: X.outer) (hf : X.env.frame = some X.env.locals) (tk : Takes X (fun c d _ H => E c d H)) (I3 : Inv X pins σ H3 s3) (f3 : ∀ b ∈ fp, FpOk X pins H3 b ∧ b < s3.heap.objs.size)
    (hce : ce.frame = X.env.frame) (hcn : ∀ l, noteFrame l ce = noteFrame l X.env) (cL : ce.locals = s3.heap.objs.size) (σ' : L2.St) :
    PassesAt (L2.CX X.prog X.w) (blx X s3 H3 scope ce fp (notedBy (model X.prog X.w) X.A ce fun e s' => BlkEnd (model X.prog X.w) X.A X.xe Qf acc ce (.error e) s')) σ' E := by
  intro pins' H' s' e s'' I6 c
  obtain ⟨a, B, H2, cls, d, rfl, fl, hok, ub, na, os, ag, hE⟩ := c
  show wpAny _ X.A (noteFrame (.ref a) ce) _ _ s''
  rw [hcn]
  have hfr : X.A.frames = some (X.env :: X.outer) := by rw [I3.ok.frames, hs]
  have fl' : HandSPX.FlyingZ B (X.env :: X.outer) a (Zc cls d) s''.heap := by rw [← hs]; exact fl
  refine HandSPX.looks_onZ Zc.steady hfr hf fl' fun h1 hh up => ?_
  rw [← hs] at hh
  obtain ⟨m, hn, _⟩ := I6.loc
  have hn : s'.heap.Ns ce.locals m := hn
  obtain ⟨o, es, ep, ho, r⟩ := hn
  have cf : ce.locals ∉ frs X.stack := fun z => by
    obtain ⟨_, o', e', _⟩ := I3.stack.mem z
    have := Heap.lt_size e'
    rw [cL] at this
    exact absurd this (Nat.lt_irrefl _)
  have c1 : H' ce.locals = none := I6.free
  have c2 : H2 ce.locals = none := ub.free _ _ ho c1
  have cB : B.get? ce.locals = some o := ub.keep _ _ ho c1 cf
  obtain ⟨hk1, hk2, hk3, hk4⟩ := hh
  refine ⟨m, ⟨o, es, ep, hk1 _ _ cB, r⟩, fun h' sb => ?_⟩
  obtain ⟨B', eB⟩ : ∃ B' : Heap, B' = PySem.W.hideAll B [ce.locals] := ⟨_, rfl⟩
  have b1 : ∀ b o, B'.get? b = some o → B.get? b = some o := fun b o e => by rw [eB] at e; exact PySem.W.of_hideAll _ e
  have b2 : ∀ b o, B.get? b = some o → b ≠ ce.locals → B'.get? b = some o := fun b o e n => by rw [eB]; exact PySem.W.hideAll_get _ e (by simpa using n)
  have b3 : ∀ b, B.get? b = none → B'.get? b = none := fun b e => by
    cases q : B'.get? b with
    | none => rfl
    | some o => rw [b1 b o q] at e; cases e
  have b4 : B'.get? ce.locals = none := by rw [eB]; exact PySem.W.hideAll_none _ List.mem_cons_self
  have b5 : ∀ b o, B'.get? b = some o → b ≠ ce.locals := fun b o e z => by rw [z, b4] at e; cases e
  have st' : B'.StaysIn h' := fun b o e => (sb.2 b (b5 b o e)).trans (hk1 b o (b1 b o e))
  have ac : a ≠ ce.locals := fun z => by rw [z, cB] at hk2; cases hk2
  obtain ⟨oe, vs, T, oT, ts, t1, t2, t3, t4, t5, t6, t7, t8, t9⟩ := hk4
  have tc : T ≠ ce.locals := fun z => by rw [z, cB] at t5; cases t5
  have held : HandSPX.HeldZ B' X.stack a (Zc cls d) X.env.locals h' :=
    ⟨st', b3 a hk2, funFrames_but sb hk3 (fun L hL z => cf (z ▸ hL)) b3, oe, vs, T, oT, ts, (sb.2 a ac).trans t1, t2, t3, t4, b3 T t5, t6, (sb.2 T tc).trans t7, t8, t9⟩
  unfold PySem.passOn
  refine wpAny_bind (wpAny_field ((sb.2 a ac).trans t1) t3 t4 ?_)
  rw [if_neg (show ¬ (Value.ref T == Value.none) = true from by simp)]
  rw [hce, hf]
  refine wpAny_bind (HandSPX.setFlight_onZ held fun h2 held2 up2 => wpAny_throw (tk _ _ ?_))
  obtain ⟨G, g1, g2⟩ := restrict h2 fun b => (B'.get? b).isSome || decide (b ∈ frs X.stack)
  have st : B'.StaysIn h2 := held2.1
  have gB : ∀ b o, B'.get? b = some o → G.get? b = some o := fun b o e => by
    rw [g1 b (by simp [e])]
    exact st b o e
  have gF : ∀ b, b ∈ frs X.stack → G.get? b = h2.get? b := fun b hb => g1 b (by simp [hb])
  have og : ∀ b o, G.get? b = some o → h2.get? b = some o ∧ ((B'.get? b).isSome = true ∨ b ∈ frs X.stack) := fun b o e => by
    cases q : ((B'.get? b).isSome || decide (b ∈ frs X.stack)) with
    | false => rw [g2 b q] at e; cases e
    | true =>
      rw [g1 b q] at e
      exact ⟨e, by simpa [Bool.or_eq_true] using q⟩
  have nc : ∀ {b o}, s3.heap.get? b = some o → b ≠ ce.locals := fun {b o} e z => by
    have := Heap.lt_size e
    rw [z, cL] at this
    exact absurd this (Nat.lt_irrefl _)
  have slots : ∀ b o, s'.heap.get? b = some o → b ∈ frs X.stack → ∃ sl, G.get? b = some { o with slots := sl } := fun b o e hb => by
    obtain ⟨_, o', e', hnf⟩ := I6.stack.mem (b := b) hb
    rw [e] at e'; cases e'
    obtain ⟨sl2, e2⟩ := ub.slot b o e hb
    obtain ⟨sl3, e3⟩ := up b _ e2 hnf
    have e4 : h'.get? b = some { o with slots := sl3 } := (sb.2 b fun z => cf (z ▸ hb)).trans e3
    obtain ⟨sl5, e5⟩ := up2 b _ e4 hnf
    exact ⟨sl5, by rw [gF b hb]; exact e5⟩
  have hokG : HOk X.prog X.w H2 G := fun b o q => (hok b o q).stay (fun c u hc r => gB c u (b2 c u r fun z => by
    rcases hc with hc | hc
    · rw [← hc, z, c2] at q; cases q
    · rw [z, c2] at hc; cases hc)) (fun _ r => r) fun _ _ r => r
  refine ⟨a, B', { s3 with heap := G, gens := s''.gens, drawn := s''.drawn, toks := s''.toks }, pins, σ, H2, cls, d, rfl, ?_, fun b o e hb => ?_, Heap.UpToSlots.of_keeps fun b o e => (og b o e).1, .inr (.inr held2), na, os.trans I6.os, ag, hE⟩
  · refine I3.call (ch := fp) ⟨fun b o e n hb hc => ?_, fun b o e n hb hc => ?_, fun b o e n hc => ?_, fun b o e hc => ?_, fun b xs e => ub.tups b xs (I6.base.tups b xs e), fun b o u e => ub.frzs b o u (I6.base.frzs b o u e), fun b ps e => ?_⟩ hokG ag
      fun b hb => ⟨(f3 b hb).1.2.2.2.1, (f3 b hb).1.2.1, (f3 b hb).1.2.2.2.2.1, (f3 b hb).1.2.2.2.2.2⟩
    · exact gB b o (b2 b o (ub.keep b o (I6.base.keep b o e n hb hc) (I6.base.free b o e n hc) hb) (nc e))
    · obtain ⟨sl, e1⟩ := I6.base.slot b o e n hb hc
      obtain ⟨sl2, e2⟩ := slots b _ e1 hb
      exact ⟨sl2, e2⟩
    · obtain ⟨sl, e1⟩ := I6.base.any e n hc
      exact ub.free b _ e1 (I6.base.free b o e n hc)
    · obtain ⟨o1, e1⟩ := I6.base.there b o e hc
      by_cases hb : b ∈ frs X.stack
      · obtain ⟨sl, q⟩ := slots b o1 e1 hb
        exact ⟨_, q⟩
      · obtain ⟨o', q⟩ := ub.there b o1 e1 hb
        exact ⟨o', gB b o' (b2 b o' q (nc e))⟩
    · obtain ⟨m1, q1⟩ := I6.base.tbls b ps e
      obtain ⟨m2, q2⟩ := ub.tbls b _ q1
      exact ⟨m1 ++ m2, by rw [q2, Array.append_assoc]⟩
  · obtain ⟨e', h⟩ := og b o e
    rcases h with h | h
    · obtain ⟨o', q⟩ := Option.isSome_iff_exists.mp h
      have z := st b o' q
      rw [e'] at z; cases z
      exact q
    · exact absurd h hb
/-! ### the comprehension -/
section
variable {X : Cx}
theorem pe_lcX {E : XK} {elt tg iter : Expr} {ifs : List Expr} {scope : Scope} {own : List (Str × Nat)} {pos : Pos} {wi : TI} {g : TG} {tt : TT} {te : TE} (hs : X.stack = X.env :: X.outer) (hf : X.env.frame = some X.env.locals) (tk : Takes X (fun c d _ H => E c d H))
    (hc : X.calm = true) (hN : X.N.Nodup) (hi : PI X tg iter wi) (ok : BlkOk X.N X.env.scope scope own)
    (hg : ∀ (s : Shared) (H : Hp) (C : Addr) (cl : List (Str × Addr)) (fp : List Addr) (xe : Value → Shared → Prop), PG (blx X s H scope (compEnvC scope cl C X.env) fp xe) tg g)
    (ht : ∀ (s : Shared) (H : Hp) (C : Addr) (cl : List (Str × Addr)) (fp : List Addr) (xe : Value → Shared → Prop), PTs (blx X s H scope (compEnvC scope cl C X.env) fp xe) ifs tt)
    (he : ∀ (s : Shared) (H : Hp) (C : Addr) (cl : List (Str × Addr)) (fp : List Addr) (xe : Value → Shared → Prop), (∀ σ, PassesAt (L2.CX X.prog X.w) (blx X s H scope (compEnvC scope cl C X.env) fp xe) σ E) → PE (blx X s H scope (compEnvC scope cl C X.env) fp xe) elt te)
    (hsf : ∀ x, foldedSetIterable iter X.env x = pure x := by intro _; rfl) :
    PE X (.ListComp elt [⟨tg, iter, ifs, 0⟩] scope pos) (tLc wi g tt te (own.map (·.2))) := by
  refine ⟨fun pins s σ H Q I h => ?_⟩
  rw [eval_ListComp]
  have hfree : ∀ y ∈ scope.names, y.2 = .free → ∃ c, X.env.cells.lookup y.1 = some c := fun y hy e => by
    rcases ok.free y hy e with k | k
    · exact I.ok.has _ (.inl k)
    · exact I.ok.has _ (.inr k)
  refine comp_run rfl hsf (closure_ok hfree) ok.kind (fun y hy e => by rw [ok.uniq y hy, e])
    (thn (hi.run pins s σ H _ I h) fun xv s1 hx => thn hx fun itv s2 h2 => ?_)
  obtain ⟨it, fp, tn, J, H2, e, I2, T, st2, f2, q⟩ := h2
  subst e
  refine wpAny_newObj_type (newEnv_comp ?_) (by show 0 ≤ sizeLine; decide)
  generalize hD : s2.heap.objs.size = D
  have hDn : H2 D = none := I2.hok.fresh (Nat.le_of_eq hD)
  obtain ⟨W, ⟨m0, w0⟩, turn⟩ := q D hDn
  generalize hs3 : ({ s2 with heap := s2.heap.push { cls := .type "list", data := .seq ([] : List Value).toArray } } : Shared) = s3
  have I3 : Inv X pins σ (upd H2 D (.lst [])) s3 := by
    rw [← hs3]
    refine I2.laid (t' := s2.toks) (fun b o e => Heap.get?_push_of_some _ e) (Nat.le_of_eq hD) ⟨Nat.zero_le _, [], 0, .nil, ?_⟩
    rw [← hD]
    exact Heap.get?_push_size _ rfl
  have h3 : s3.heap = s2.heap.push { cls := .type "list", data := .seq ([] : List Value).toArray } := by rw [← hs3]
  have sz : ∀ b ∈ fp, b < s2.heap.objs.size := fun b hb => by
    obtain ⟨o, e, _⟩ := T.obj _ _ st2 b hb
    exact Heap.lt_size e
  have f3 : ∀ b ∈ fp, FpOk X pins (upd H2 D (.lst [])) b ∧ b < s3.heap.objs.size := fun b hb => by
    have hlt := sz b hb
    refine ⟨⟨?_, (f2 b hb).2⟩, by rw [h3, Heap.size_push]; exact Nat.lt_succ_of_lt hlt⟩
    rw [upd_ne (by rw [← hD]; exact Nat.ne_of_lt hlt)]
    exact (f2 b hb).1
  have st3 : tn 0 s3.heap := T.keep _ _ _ st2 fun b _ o e => by rw [h3]; exact Heap.get?_push_of_some _ e
  have I4 := block_start I3 ok hN f3
  have pg := hg s3 (upd H2 D (.lst [])) s3.heap.objs.size (cellsFrom (s3.heap.objs.size + 1) scope.names (cloFrom X.env.cells scope.names [])) fp
  have pt := ht s3 (upd H2 D (.lst [])) s3.heap.objs.size (cellsFrom (s3.heap.objs.size + 1) scope.names (cloFrom X.env.cells scope.names [])) fp
  have pe := he s3 (upd H2 D (.lst [])) s3.heap.objs.size (cellsFrom (s3.heap.objs.size + 1) scope.names (cloFrom X.env.cells scope.names [])) fp
  show codeAny _ _ (.compStart (.ListComp elt [⟨tg, iter, ifs, 0⟩] scope pos) 0 (.ref it) (.ref D) (compEnvC scope (cellsFrom (s3.heap.objs.size + 1) scope.names (cloFrom X.env.cells scope.names [])) s3.heap.objs.size X.env))
    (BlkEnd (model X.prog X.w) X.A X.xe (EP X pins σ Q) (.ref D) (compEnvC scope (cellsFrom (s3.heap.objs.size + 1) scope.names (cloFrom X.env.cells scope.names [])) s3.heap.objs.size X.env)) { s3 with heap := pushCells (s3.heap.push { cls := .type "dict", data := .dict #[] }) scope.names }
  have nfp : ∀ b ∈ fp, (upd H2 D (.lst [])) b = none := fun b hb => (f3 b hb).1.1
  have hcn : ∀ l, noteFrame l (compEnvC scope (cellsFrom (s3.heap.objs.size + 1) scope.names (cloFrom X.env.cells scope.names [])) s3.heap.objs.size X.env) = noteFrame l X.env := fun _ => rfl
  have hcf : (compEnvC scope (cellsFrom (s3.heap.objs.size + 1) scope.names (cloFrom X.env.cells scope.names [])) s3.heap.objs.size X.env).frame = X.env.frame := rfl
  generalize hce : compEnvC scope (cellsFrom (s3.heap.objs.size + 1) scope.names (cloFrom X.env.cells scope.names [])) s3.heap.objs.size X.env = ce at I4 pg pt pe hcn hcf ⊢
  have cL : ce.locals = s3.heap.objs.size := by subst hce; rfl
  generalize hH3 : upd H2 D (.lst []) = H3 at I3 I4 pg pt pe w0 nfp f3
  obtain ⟨xe, exe⟩ : ∃ xe : Value → Shared → Prop, xe = notedBy (model X.prog X.w) X.A ce fun e s' => BlkEnd (model X.prog X.w) X.A X.xe (EP X pins σ Q) (.ref D) ce (.error e) s' := ⟨_, rfl⟩
  have hpass : ∀ σ', PassesAt (L2.CX X.prog X.w) (blx X s3 H3 scope ce fp xe) σ' E := by
    rw [exe]
    exact blx_passes hs hf tk I3 f3 hcf hcn cL
  have pg := pg xe
  have pt := pt xe
  have pe := pe xe hpass
  have I4 : L2.Inv (blx X s3 H3 scope ce fp xe) [] (wipe σ (own.map (·.2))) H3 { s3 with heap := pushCells (s3.heap.push { cls := .type "dict", data := .dict #[] }) scope.names } := I4.toTry xe
  generalize hs4 : ({ s3 with heap := pushCells (s3.heap.push { cls := .type "dict", data := .dict #[] }) scope.names } : Shared) = s4 at I4 ⊢
  have st4 : tn 0 s4.heap := T.keep _ _ _ st3 fun b _ o e => by rw [← hs4]; exact pushCells_keeps _ _ _ _ (Heap.get?_push_of_some _ e)
  have stat : ∀ {σ' : L2.St} {H' : Hp} {s' : Shared}, Inv (blx X s3 H3 scope ce fp xe) [] σ' H' s' → (∀ b ∈ fp, H' b = none) → ∀ b ∈ fp, FpOk (blx X s3 H3 scope ce fp xe) [] H' b := fun {σ' H' s'} I' hn b hb =>
    ⟨hn b hb, (I'.ok.exf b hb).1, I'.ok.exfs b hb, .inl hb, fun x c e => (I'.ok.exf b hb).2 x c e, fun p hp => absurd (show p ∈ ([] : List (Addr × Obj)) ++ [] from hp) (by simp)⟩
  have loop : codeAny (model X.prog X.w) X.A (.compLoop (.ListComp elt [⟨tg, iter, ifs, 0⟩] scope pos) 0 (.ref it) (.ref D) ce) (BlkEnd (model X.prog X.w) X.A X.xe (EP X pins σ Q) (.ref D) ce) s4 := by
    refine compLoop_any (fun n s' => ∃ i H', Inv (blx X s3 H3 scope ce fp xe) [] (wipe σ (own.map (·.2))) H' s' ∧ tn i s'.heap ∧ (∀ b ∈ fp, H' b = none) ∧ W i n H') ?_ m0 ⟨0, H3, I4, st4, nfp, w0⟩
    rintro n s5 ⟨i, H5, I5, st5, n5, w5⟩
    rw [← exe]
    rcases turn i n H5 w5 with ⟨stop, qq⟩ | ⟨go, Nx, hNx, step⟩
    · have td := T.done (blx X s3 H3 scope ce fp xe) rfl rfl rfl hc i [] s5 _ H5 (fun _ _ => False) I5 (stat I5 n5) st5 stop
      refine thnF td fun r s6 ⟨hr, I6⟩ => ?_
      subst hr
      have I7 : Inv X pins σ H5 s6 := I3.call' (ch := fp) I6.os I6.base I6.hok I6.bare fun b hb => ⟨(f3 b hb).1.2.2.2.1, (f3 b hb).1.2.1, (f3 b hb).1.2.2.2.2.1, (f3 b hb).1.2.2.2.2.2⟩
      have nC : H5 ce.locals = none := I6.free
      obtain ⟨m, hn, _⟩ := I6.loc
      have hn : s6.heap.Ns ce.locals m := hn
      have f := I3.fpOk (Nat.le_of_eq cL.symm) nC
      refine ⟨m, hn, fun h'' sb => ?_⟩
      obtain ⟨f0, f1, f2, f3, f4, f5⟩ := f
      exact ⟨.ref D, H5, I7.turned (t' := s6.toks) (fun b o hb e => (sb.2 b hb).trans e) f0 f1 f3 f4 f5, rfl, qq⟩
    · have ti := T.item (blx X s3 H3 scope ce fp xe) rfl rfl rfl hc i [] s5 _ H5 (fun _ _ => False) I5 (stat I5 n5) st5 go
      refine thnF ti fun r s6 ⟨u, hr, h6⟩ => ?_
      subst hr
      refine thnF h6 fun _ s7 ⟨x, H7, I7, r7, y7, st7, n7⟩ => ?_
      have I7' := I7.pinned (stat I7 n7) (T.obj _ _ st7)
      refine thn (pg.run _ s7 _ H7 x u _ I7' r7 (step x H7 y7)) fun _ s8 ⟨σ8, H8, I8, hw8, q8⟩ => ?_
      refine thn (pt.run _ s8 σ8 H8 _ I8 q8) fun b s9 ⟨H9, I9, q9⟩ => ?_
      have fin : ∀ {s' : Shared} {H' : Hp}, Inv (blx X s3 H3 scope ce fp xe) ([] ++ pinsAt fp s7.heap) σ8 H' s' → Nx H' → ∃ m, m < n ∧ ∃ i H', Inv (blx X s3 H3 scope ce fp xe) [] (wipe σ (own.map (·.2))) H' s' ∧ tn i s'.heap ∧ (∀ b ∈ fp, H' b = none) ∧ W i m H' := fun {s' H'} I' nx => by
        obtain ⟨m', hm, w'⟩ := hNx H' nx
        have pin' : ∀ b ∈ fp, ∀ o, s7.heap.get? b = some o → s'.heap.get? b = some o ∧ H' b = none := fun b hb o e =>
          let z := I'.pin (b, o) (List.mem_append_right _ (List.mem_append_right _ (mem_pinsAt hb e)))
          ⟨z.1, z.2.1⟩
        have hl : (wipe σ (own.map (·.2))).length = σ8.length := by rw [← hw8, wipe_length]
        refine ⟨m', hm, i + 1, H', (I'.unpinned (pins := [])).weak hl (fun j v e => ?_), T.keep _ _ _ st7 fun b hb o e => (pin' b hb o e).1, fun b hb => ?_, w'⟩
        · rw [← hw8] at e
          exact (wipe_some e).1
        · obtain ⟨o, e, _⟩ := T.obj _ _ st7 b hb
          exact (pin' b hb o e).2
      cases b with
      | false =>
        simp only [Bool.false_eq_true, if_false] at q9 ⊢
        exact fin I9 q9
      | true =>
        simp only [if_true] at q9 ⊢
        refine thn (pe.run _ s9 σ8 H9 _ I9 q9) fun z s10 ⟨yv, H10, I10, r10, acc, hD10, hz10, nx⟩ => ?_
        exact app_ok (X := blx X s3 H3 scope ce fp xe) I10 hD10 hz10 r10 fun s11 I11 => fin I11 nx
  exact codeAny_compStart_list loop (T.self X.A 0 _ _ _ st4 loop)
theorem ke_lcX {E : XK} {elt tg iter : Expr} {ifs : List Expr} {scope : Scope} {own : List (Str × Nat)} {pos : Pos} {wi : TI} {g : TG} {tt : TT} {te : TE} (hs : X.stack = X.env :: X.outer) (hf : X.env.frame = some X.env.locals) (tk : Takes X (fun c d _ H => E c d H))
    (hc : X.calm = true) (hN : X.N.Nodup) (hi : PI X tg iter wi) (ok : BlkOk X.N X.env.scope scope own)
    (hg : ∀ (s : Shared) (H : Hp) (C : Addr) (cl : List (Str × Addr)) (fp : List Addr) (xe : Value → Shared → Prop), PG (blx X s H scope (compEnvC scope cl C X.env) fp xe) tg g)
    (ht : ∀ (s : Shared) (H : Hp) (C : Addr) (cl : List (Str × Addr)) (fp : List Addr) (xe : Value → Shared → Prop), PTs (blx X s H scope (compEnvC scope cl C X.env) fp xe) ifs tt)
    (he : ∀ (s : Shared) (H : Hp) (C : Addr) (cl : List (Str × Addr)) (fp : List Addr) (xe : Value → Shared → Prop), (∀ σ, PassesAt (L2.CX X.prog X.w) (blx X s H scope (compEnvC scope cl C X.env) fp xe) σ E) → PE (blx X s H scope (compEnvC scope cl C X.env) fp xe) elt te)
    (hsf : ∀ x, foldedSetIterable iter X.env x = pure x := by intro _; rfl) :
    PE X (.ListComp elt [⟨tg, iter, ifs, 0⟩] scope pos) (kLc wi g tt te (own.map (·.2))) :=
  peI (pe_lcX hs hf tk hc hN (piM hi) ok (fun a b c d e f => pgM (hg a b c d e f)) (fun a b c d e f => ptsM (ht a b c d e f)) (fun a b c d e f p => peM (he a b c d e f p)) hsf) fun σ H Q q => kLc.old q
end
end MD

namespace MD
open PySem PySem.Spec PyProof.Rows L2
/-! ### d.get(x) where x may be none of the keys -/
def WrN (K : PySem.W.Frag) (d : Addr) (ks : List Str) : Prop := ∀ z : Str, z ∉ ks → PySem.W.nsIn K d z = some none
theorem wrN_of {K : PySem.W.Frag} {d : Addr} {es : Array DictEntry} {n : Nat} {ks : List Str} (hl : K.lookup d = some ⟨.type "dict", none, .dict es n, #[]⟩) (ho : (es.toList.all fun e => ks.any fun x => e.key.isStr x) = true) : WrN K d ks := by
  intro z hz
  have key : ∀ e ∈ es.toList, ∃ x t, x ∈ ks ∧ e.key = .str x t := fun e he => by
    obtain ⟨x, hx, q⟩ := List.any_eq_true.mp (List.all_eq_true.mp ho e he)
    cases hk : e.key with
    | str y t =>
      rw [hk] at q
      exact ⟨y, t, by rw [show y = x from beq_iff_eq.mp q]; exact hx, rfl⟩
    | _ => rw [hk] at q; exact absurd q Bool.false_ne_true
  have hn : es.toList.find? (fun e => e.key.isStr z) = none := List.find?_eq_none.mpr fun e he q => by
    obtain ⟨x, t, hx, hk⟩ := key e he
    rw [hk] at q
    have : x = z := beq_iff_eq.mp q
    exact hz (this ▸ hx)
  have hr : (es.toList.any fun e => e.refKey) = false := List.any_eq_false.mpr fun e he q => by
    obtain ⟨x, t, hx, hk⟩ := key e he
    unfold DictEntry.refKey at q
    rw [hk] at q
    exact absurd q Bool.false_ne_true
  unfold PySem.W.nsIn
  rw [hl]
  dsimp only
  rw [hn]
  dsimp only
  rw [hr]
  rfl
def kWGetO (d : Addr) (kvs : List (Str × Int)) (ks : List Str) (td ty : TE) : TE := fun σ H Q => td σ H fun x H1 => x = .ref d ∧ ty σ H1 fun y H2 => ∃ z : Str, y = .str z ∧ ((∃ i : Int, (z, i) ∈ kvs ∧ Q (.int i) H2) ∨ (z ∉ ks ∧ Q .non H2))
section
variable {X : Cx} {o e : Expr} {apos cpos : Pos} {td ty : TE} {w : World} {K : PySem.W.Frag} {d : Addr} {kvs : List (Str × Int)} {ks : List Str}
theorem ke_wgetO (U : WrD w K d kvs) (N : WrN K d ks) (hK : X.K = K) (hw : X.w = w) (ho : PE X o td) (he : PE X e ty) (m : M1 X o "get" apos e cpos) : PE X (.Call (.Attribute o "get" apos) [e] [] cpos) (kWGetO d kvs ks td ty) := by
  subst hK hw
  obtain ⟨es, n, D, hv⟩ := U
  refine ⟨fun pins s σ H Q I h => ?_⟩
  refine wpAny_Call_method m.base m.few m.line PySem.F.plainAttrs_dict PySem.F.slot_dict_get PySem.F.type_dict_get (thn (ho.run pins s σ H _ I h) fun u s1 ⟨x, H1, I1, rx, ex, q1⟩ => ?_)
  subst ex
  obtain rfl : u = Value.ref d := rx
  have hm1 := PySem.W.mapOf_K (prog := X.prog) (w := X.w) I1.kIn D.at_ D.lit
  refine ⟨hm1.typeIs, hm1.noDict, ?_⟩
  rw [m.trees]
  refine Calls.callWith_builtin rfl (Calls.evalArgs_plain (Calls.spliced_cons (thn (he.run pins s1 σ H1 _ I1 q1) fun iv s2 ⟨y, H2, I2, ry, z, ey, q2⟩ => Calls.spliced_nil ?_)))
  subst ey
  obtain ⟨t, rfl⟩ := (show ∃ t, iv = Value.str z t from ry)
  have hm2 := PySem.W.mapOf_K (prog := X.prog) (w := X.w) I2.kIn D.at_ D.lit
  rcases q2 with ⟨i, hz, q2⟩ | ⟨hz, q2⟩
  · obtain ⟨u, hu, ru⟩ := hv (z, i) hz
    refine call_meetsIn PySem.F.slot_dict_get hm2.typeIs PySem.F.entry_dict_get (PySem.F.args_dict_get_2 _ _) (meets_dict_get (strKind X.prog X.w) d (strKind_is X.prog X.w z t) D.low) ⟨_, hm2, ?_⟩
    rw [PySem.W.find_K D.at_ hu]
    exact ⟨.int i, H2, I2.tok _, ru, q2⟩
  · refine call_meetsIn PySem.F.slot_dict_get hm2.typeIs PySem.F.entry_dict_get (PySem.F.args_dict_get_2 _ _) (meets_dict_get (strKind X.prog X.w) d (strKind_is X.prog X.w z t) D.low) ⟨_, hm2, ?_⟩
    rw [PySem.W.find_K D.at_ (N z hz)]
    exact ⟨.non, H2, I2.tok _, rfl, q2⟩
end
/-! ### x in y over data, y a list or a tuple -/
def rInD (K : PySem.W.Frag) (neg : Bool) : R2 := fun x y H Q => ∃ (d : D) (l : Bool) (ds : List D), Rep K H d x ∧ Rep K H (.sq l ds) y ∧ PyData.plainAll (Ds.py ds) = true ∧ PyData.plain d.py = true ∧ min (PyData.depthAll (Ds.py ds)) d.py.depth ≤ 8 ∧
  Q (.bl (if neg = true then !(Ds.py ds).any fun z => PyData.eqv z d.py else (Ds.py ds).any fun z => PyData.eqv z d.py)) H
theorem op_inD {X : Cx} {K : PySem.W.Frag} (hu : X.A.units + 9 < cLine) (hK : X.K = K) : OpR X (compareOp .In) (rInD K false) := by
  subst hK
  intro pins s σ H x y v u Q I rx ry h
  obtain ⟨d, l, ds, hc, hs, p1, p2, dep, q⟩ := h
  obtain ⟨as, r1⟩ := Dp.reads I _ x v hc.dp rx
  obtain ⟨bs, r2⟩ := Dp.reads I _ y u hs.dp ry
  cases l with
  | true => exact SeqAt.in_list_data (show Reads s.heap u (.list (Ds.py ds)) bs from r2) r1 p1 p2 (by omega) ⟨.bl _, H, I, rfl, q⟩
  | false => exact SeqAt.in_tuple_data (show Reads s.heap u (.tuple (Ds.py ds)) bs from r2) r1 p1 p2 (by omega) ⟨.bl _, H, I, rfl, q⟩
theorem op_notInD {X : Cx} {K : PySem.W.Frag} (hu : X.A.units + 9 < cLine) (hK : X.K = K) : OpR X (compareOp .NotIn) (rInD K true) := by
  subst hK
  intro pins s σ H x y v u Q I rx ry h
  obtain ⟨d, l, ds, hc, hs, p1, p2, dep, q⟩ := h
  obtain ⟨as, r1⟩ := Dp.reads I _ x v hc.dp rx
  obtain ⟨bs, r2⟩ := Dp.reads I _ y u hs.dp ry
  cases l with
  | true => exact SeqAt.notIn_list_data (show Reads s.heap u (.list (Ds.py ds)) bs from r2) r1 p1 p2 (by omega) ⟨.bl _, H, I, rfl, q⟩
  | false => exact SeqAt.notIn_tuple_data (show Reads s.heap u (.tuple (Ds.py ds)) bs from r2) r1 p1 p2 (by omega) ⟨.bl _, H, I, rfl, q⟩
/-! ### lists of texts as data -/
def strD (l : Bool) (ss : List Str) : D := .sq l (ss.map fun y => .v (.str y))
theorem strs_py : ∀ ss : List Str, Ds.py (ss.map fun y => D.v (.str y)) = ss.map PyData.str
  | [] => rfl
  | a :: r => by
    show PyData.str a :: Ds.py (r.map fun y => D.v (.str y)) = _
    rw [strs_py r]; rfl
theorem strs_plain : ∀ ss : List Str, PyData.plainAll (ss.map PyData.str) = true
  | [] => rfl
  | a :: r => by
    show (PyData.plain (.str a) && PyData.plainAll (r.map PyData.str)) = true
    rw [strs_plain r]; rfl
theorem strs_depth : ∀ ss : List Str, PyData.depthAll (ss.map PyData.str) = 0
  | [] => rfl
  | a :: r => by
    show max (PyData.depth (.str a)) (PyData.depthAll (r.map PyData.str)) = 0
    rw [strs_depth r]; rfl
theorem eqv_one (y : Str) (ss : List Str) : PyData.eqv (.list [.str y]) (.list (ss.map PyData.str)) = decide (ss = [y]) := by
  show PyData.eqvAll [.str y] (ss.map PyData.str) = _
  cases ss with
  | nil => exact (decide_eq_false (fun z => nomatch z)).symm
  | cons a r =>
    show (PyData.eqv (.str y) (.str a) && PyData.eqvAll [] (r.map PyData.str)) = _
    have e : PyData.eqv (.str y) (.str a) = (y == a) := rfl
    rw [e]
    cases r with
    | nil =>
      by_cases z : y = a
      · rw [z, decide_eq_true rfl, beq_self_eq_true]; rfl
      · rw [beq_eq_false_iff_ne.mpr z, decide_eq_false (fun q => z (List.cons.inj q).1.symm)]; rfl
    | cons b r2 =>
      rw [decide_eq_false (fun q => nomatch (List.cons.inj (show a :: b :: r2 = [y] from q)).2)]
      show ((y == a) && PyData.eqvAll [] (PyData.str b :: r2.map PyData.str)) = false
      rw [show PyData.eqvAll [] (PyData.str b :: r2.map PyData.str) = false from rfl, Bool.and_false]
/-- [..] in (["yes"], ["no"]) -/
def rYNG (K : PySem.W.Frag) : R2 := fun x y H Q => ∃ ss : List Str, Rep K H (strD true ss) x ∧ Rep K H (.sq false [.sq true [.v (.str "yes")], .sq true [.v (.str "no")]]) y ∧ Q (.bl (decide (ss = [("yes" : Str)] ∨ ss = [("no" : Str)]))) H
theorem op_ynInG {X : Cx} {K : PySem.W.Frag} (hu : X.A.units + 9 < cLine) (hK : X.K = K) : OpR X (compareOp .In) (rYNG K) := by
  intro pins s σ H x y v u Q I rx ry h
  obtain ⟨ss, hc, hs, q⟩ := h
  refine op_inD hu hK pins s σ H x y v u Q I rx ry ⟨_, false, _, hc, hs, by decide +kernel, ?_, ?_, ?_⟩
  · show PyData.plainAll (Ds.py (ss.map fun y => D.v (.str y))) = true
    rw [strs_py]; exact strs_plain ss
  · exact Nat.le_trans (Nat.min_le_left _ _) (by decide +kernel)
  · rw [if_neg (by decide)]
    have e : ((Ds.py [.sq true [.v (.str "yes")], .sq true [.v (.str "no")]]).any fun z => PyData.eqv z (strD true ss).py) = decide (ss = [("yes" : Str)] ∨ ss = [("no" : Str)]) := by
      have py : (strD true ss).py = .list (ss.map PyData.str) := by
        show PyData.list (Ds.py (ss.map fun y => D.v (.str y))) = _
        rw [strs_py]
      rw [py]
      show (PyData.eqv (.list [.str "yes"]) (.list (ss.map PyData.str)) || (PyData.eqv (.list [.str "no"]) (.list (ss.map PyData.str)) || false)) = _
      rw [eqv_one, eqv_one, Bool.or_false, Bool.decide_or]
    rw [e]
    exact q
end MD

/-! ### list(x), x a text -/
namespace PySem.W
open PySem PySem.Calls PyProof.Rows PyProof.V PySem.Spec
section
variable {prog : Program} {w : World} {A : Around} {E : Value → Shared → Prop} {s : Shared} {x : PySem.Str} {t : Tok}
theorem hint_text {Q : Bool → Shared → Prop} (hT : s.TypeIs (.str x t) "str") (h : Q false s) : wpAny (model prog w) A (Builtin.List.listLengthHint (.str x t)) Q E s := by
  unfold Builtin.List.listLengthHint
  refine wpAny_bind (wpAny_specialOf hT PySem.F.slot_str_len.lookup ?_)
  generalize hid : ("str.__len__" : String) = id0
  wp_delta
  rw [show splitId id0 = some ("str", "__len__") from by subst hid; decide +kernel]
  subst hid
  refine wpAny_bind (wpAny_isInstance (T := "str") (b := true) hT (by rw [isSubtype_type]; kernel_rfl) ?_)
  refine wpAny_ite_split (fun hab => absurd hab (by decide)) (fun _ => ?_)
  refine wpAny_ite_split (fun _ => ?_) (fun hab => absurd (by decide +kernel) hab)
  refine wpAny_bind (wpAny_typeOf hT ?_)
  exact wpAny_pure h
theorem ext_text {R : Result → Shared → Prop} (hh : A.handled = none) (S : Addr) (res : Value) (c₀ : Nat) (hS : s.heap.get? S = some { cls := .type "list", data := .seq #[] c₀ })
    (hR : ∀ h' tk acc' c', (∀ b o, b ≠ S → s.heap.get? b = some o → h'.get? b = some o) → h'.get? S = some { cls := .type "list", dict := none, data := .seq acc' c', slots := #[] } → ItemsOf (SignAt x) acc' x.cps.size → R (.ok (.ret res)) { s with heap := h', toks := tk }) (hn : x.cps.size ≤ sizeLine) :
    wpAny (model prog w) A.in1 (Builtin.List.listExtendWith (.ref S) (.str x t) res)
      (fun fin s' => match fin with | .done f => R (.ok f) s' | .again c' => c'.quiet = true ∧ codeAny (model prog w) A c' R s') (fun e s' => R (.error e) s') s := by
  have hSI : S ≠ s.heap.objs.size := Nat.ne_of_lt (Heap.lt_size hS)
  have hSf : S ∉ [s.heap.objs.size] := by simp only [List.mem_cons, List.not_mem_nil, or_false]; exact hSI
  have hT : ∀ s : Shared, s.TypeIs (.str x t) "str" := fun s => typeIs_str s x t
  unfold Builtin.List.listExtendWith
  refine wpAny_bind (wpAny_typeOf (T := "str") (hT s) ?_)
  have h1 : Builtin.List.listSameRef (.ref S) (.str x t) = false := rfl
  have h2 : (Value.type "str" == Value.type "list") = false := by decide
  have h3 : (Value.type "str" == Value.type "tuple") = false := by decide
  simp only [h1, h2, h3, Bool.or_false, Bool.false_eq_true, if_false]
  refine wpAny_bind (wpAny_pyIter_str fun oI St W0 st => ?_)
  have W := W0 A.in1 hh
  have key : ∀ (h : Heap) (c₁ tk : Nat), St 0 h → (∀ b o, b ≠ S → s.heap.get? b = some o → h.get? b = some o) →
      h.get? S = some { cls := .type "list", data := .seq #[] c₁ } → codeAny (model prog w) A (.builtin "list.extend.loop" ⟨[.ref S, .ref s.heap.objs.size, res], []⟩) R { s with heap := h, toks := tk } := by
    intro h c₁ tk hst hk hS₁
    refine codeAny_extend_loopS W.toS hn S hSf res x.cps.size 0 _ #[] c₁ rfl (Nat.zero_le _) hst hS₁ (ItemsOf.nil _) fun s' acc' c' hm hS' hacc => ?_
    rw [Moved.eq_with hm]
    refine hR s'.heap s'.toks acc' c' (fun b o hb e => hm.heap b o (fun hmem => ?_) (hk b o hb e)) hS' hacc
    rcases List.mem_cons.mp hmem with e' | hmem
    · exact hb e'
    · exact absurd (Heap.lt_size e) (by rw [List.mem_singleton.mp hmem]; exact Nat.lt_irrefl _)
  have hS₁ := Heap.get?_push_of_some oI hS
  refine wpAny_bind (wpAny_holding (hint_text (hT _) ?_))
  refine wpAny_ite_split (fun _ => ?_) (fun _ => wpAny_pure ⟨plainId_quiet PySem.F.plain_extend_loop _, key _ c₀ _ st (fun b o _ e => Heap.get?_push_of_some _ e) hS₁⟩)
  refine wpAny_bind (wpAny_rule ?_)
  refine wpAny_bind ?_
  show wpAny _ _ (updateSeq S (·.push .none) >>= fun _ => updateSeq S (·.pop)) _ _ _
  refine wpAny_bind (wpAny_updateSeq hS₁ rfl ?_)
  have hS₂ := Heap.get?_update_self (Obj.mapSeq (·.push Value.none)) hS₁ rfl
  refine wpAny_updateSeq (hz := by seq_fits) hS₂ rfl ?_
  have hS₃ := Heap.get?_update_self (Obj.mapSeq (·.pop)) hS₂ rfl
  refine wpAny_pure ⟨plainId_quiet PySem.F.plain_extend_loop _, key _ _ _ ?_ (fun b o hb e => ?_) hS₃⟩
  · refine W.frame 0 _ _ st fun b hb o e => ?_
    have hbS : b ≠ S := fun h => hSf (h ▸ hb)
    exact (Heap.get?_update_other _ _ (Ne.symm hbS)).trans ((Heap.get?_update_other _ _ (Ne.symm hbS)).trans e)
  · exact (Heap.get?_update_other _ _ (Ne.symm hb)).trans ((Heap.get?_update_other _ _ (Ne.symm hb)).trans (Heap.get?_push_of_some _ e))
theorem init_text {R : Result → Shared → Prop} (hh : A.handled = none) (S : Addr) (hS : s.heap.get? S = some { cls := .type "list", data := .seq #[] })
    (hR : ∀ h' tk acc' c', (∀ b o, b ≠ S → s.heap.get? b = some o → h'.get? b = some o) → h'.get? S = some { cls := .type "list", dict := none, data := .seq acc' c', slots := #[] } → ItemsOf (SignAt x) acc' x.cps.size → R (.ok (.ret .none)) { s with heap := h', toks := tk }) (hn : x.cps.size ≤ sizeLine) :
    wpAny (model prog w) A.in1 (Builtin.«list.__init__» ⟨[.ref S, .str x t], []⟩)
      (fun fin s' => match fin with | .done f => R (.ok f) s' | .again c' => c'.quiet = true ∧ codeAny (model prog w) A c' R s') (fun e s' => R (.error e) s') s := by
  show wpAny _ _ (do let old ← Builtin.List.listItems (.ref S); Builtin.List.listUpdate (.ref S) (fun _ => #[]); letGo old.toList.reverse; Builtin.List.listExtendWith (.ref S) (.str x t) .none) _ _ s
  refine wpAny_bind ?_
  unfold Builtin.List.listItems
  refine wpAny_bind (wpAny_seqItems hS rfl (wpAny_pure ?_))
  show wpAny _ _ (updateSeq S (fun _ => #[]) >>= fun _ => letGo (#[] : Array Value).toList.reverse >>= fun _ => Builtin.List.listExtendWith (.ref S) (.str x t) .none) _ _ s
  refine wpAny_bind (wpAny_updateSeq hS rfl ?_)
  have hS₂ := Heap.get?_update_self (Obj.mapSeq (fun _ => (#[] : Array Value))) hS rfl
  have oth : ∀ b o, b ≠ S → s.heap.get? b = some o → (s.heap.update S (Obj.mapSeq (fun _ => (#[] : Array Value)))).get? b = some o :=
    fun b o hb e => (Heap.get?_update_other _ _ (Ne.symm hb)).trans e
  refine wpAny_bind (wpAny_letGo ?_)
  refine ext_text hh S .none _ hS₂ (fun h' tk acc' c' hk hS' hacc => ?_) hn
  exact hR h' tk acc' c' (fun b o hb e => hk b o hb (oth b o hb e)) hS' hacc
theorem list_text {Q : Value → Shared → Prop} (hh : A.handled = none) (hn : x.cps.size ≤ sizeLine)
    (hQ : ∀ h' tk acc' c', (∀ b o, s.heap.get? b = some o → h'.get? b = some o) → h'.get? s.heap.objs.size = some { cls := .type "list", dict := none, data := .seq acc' c', slots := #[] } → ItemsOf (SignAt x) acc' x.cps.size → Q (.ref s.heap.objs.size) { s with heap := h', toks := tk }) :
    wpAny (model prog w) A (call (.type "list") [.str x t]) Q E s := by
  refine callType_codes (Q₁ := fun obj s₁ => obj = .ref s.heap.objs.size ∧ s₁ = { s with heap := s.heap.push { cls := .type "list", data := .seq #[] } }) PySem.F.called_list (PySem.F.typeCall_list_1 _) PySem.F.entry_list_init
    (code_list_new _ ⟨rfl, rfl⟩) fun obj s₁ h₁ => ?_
  obtain ⟨rfl, rfl⟩ := h₁
  have hS : (s.heap.push { cls := .type "list", data := .seq #[] }).get? s.heap.objs.size = some { cls := .type "list", data := .seq #[] } := Heap.get?_push_size _ rfl
  refine ⟨⟨_, hS, rfl⟩, PySem.F.args_list_init_2 _ _, init_text (A := A.in1) hh _ hS (fun h' tk acc' c' hk hS' hacc => ?_) hn⟩
  exact ⟨rfl, hQ h' tk acc' c' (fun b o e => hk b o (Nat.ne_of_lt (Heap.lt_size e)) (Heap.get?_push_of_some _ e)) hS' hacc⟩
end
end PySem.W
namespace MD
open PySem PySem.Spec PyProof.Rows L2
/-- the signs of a text, each a text -/
def signs (x : Str) : List Str := x.cps.toList.map fun c => ⟨#[c]⟩
theorem call_list_text {X : Cx} (hc : X.calm = true) : CallR X (.type "list") (fun xs H Q => ∃ x : Str, xs = [.str x] ∧ x.length ≤ sizeLine ∧ New H (.lst ((signs x).map V.str)) Q) := by
  refine callI (r := fun xs H Q => ∃ x : Str, xs = [.str x] ∧ x.length ≤ sizeLine ∧ ∀ l, H l = none → Q (.ref l) (upd H l (.lst ((signs x).map V.str)))) ?_ (fun xs H Q ⟨x, a, b, c⟩ => ⟨x, a, b, c.old⟩)
  intro pins s σ H xs us Q I r h
  obtain ⟨x, rfl, hz, q⟩ := h
  obtain ⟨u, rfl, rx⟩ := vals1 r
  obtain ⟨t, rfl⟩ := (show ∃ t, u = Value.str x t from rx)
  refine PySem.W.list_text (I.ok.hd hc) hz fun h' tk acc' c' hk hD hacc => ?_
  have hv : Vals ((signs x).map V.str) acc'.toList := by
    have key : ∀ (n : Nat) (l : List Nat) (as : List Value), l.length = n → as.length = n → (∀ (j : Nat) (v : Value), as[j]? = some v → ∃ (c : Nat) (u : Tok), l[j]? = some c ∧ v = Value.str ⟨#[c]⟩ u) → Vals (l.map fun c => V.str ⟨#[c]⟩) as := by
      intro n
      induction n with
      | zero =>
        intro l as h1 h2 _
        rw [List.length_eq_zero_iff.mp h1, List.length_eq_zero_iff.mp h2]
        exact .nil
      | succ n ih =>
        intro l as h1 h2 h3
        match l, as, h1, h2 with
        | c :: l, a :: as, h1, h2 =>
          obtain ⟨c', u, e1, e2⟩ := h3 0 a rfl
          cases e1
          refine .cons ⟨u, e2⟩ (ih l as (Nat.succ.inj h1) (Nat.succ.inj h2) fun j v e => ?_)
          exact h3 (j + 1) v e
    have e : (signs x).map V.str = x.cps.toList.map fun c => V.str ⟨#[c]⟩ := by unfold signs; rw [List.map_map]; rfl
    rw [e]
    refine key x.cps.size _ _ (by simp) (by rw [Array.length_toList]; exact hacc.1) fun j v ev => ?_
    obtain ⟨c, u, h1, h2⟩ := hacc.2 j v (by rw [← Array.getElem?_toList]; exact ev)
    exact ⟨c, u, by rw [Array.getElem?_toList]; exact h1, h2⟩
  refine ⟨.ref s.heap.objs.size, upd H s.heap.objs.size (.lst ((signs x).map V.str)), I.laid (t' := tk) hk (Nat.le_refl _)
    (show ObjOk X.prog X.w _ _ _ (.lst ((signs x).map V.str)) from ⟨by unfold signs; rw [List.length_map, List.length_map, Array.length_toList]; exact hz, acc'.toList, c', hv, by rw [Array.toArray_toList]; exact hD⟩), rfl, q _ (I.hok.fresh (Nat.le_refl _))⟩
end MD

namespace MD
open PySem PySem.Spec PyProof.Rows L2
/-! ### the text by places -/
def top (i : Nat) : Stmt := PySem.Challenge.pw_manydoors_k14_texts_that_are_none.main.body.getD i (.Pass ⟨0, 0, 0, 0⟩)
abbrev s_parse_party : Stmt := top 12
abbrev s_parse_history : Stmt := top 13
abbrev s_parse_book : Stmt := top 14
abbrev s_check_text : Stmt := top 15
abbrev s_lines_of : Stmt := top 16
abbrev s_parse_history_row : Stmt := top 17
abbrev s_parse_deed : Stmt := top 18
abbrev s_parse_book_row : Stmt := top 19
abbrev s_parse_stay : Stmt := top 20
abbrev s_parse_integers : Stmt := top 21
abbrev s_parse_integer : Stmt := top 22
abbrev s_law_mixed : Stmt := top 24
abbrev s_law_numbers : Stmt := top 25
abbrev s_law_draw : Stmt := top 26
abbrev s_law_equal : Stmt := top 27
abbrev s_law_all_equal : Stmt := top 28
abbrev s_law_any_stay : Stmt := top 29
abbrev s_law_any_party : Stmt := top 30
abbrev s_law_figure : Stmt := top 31
abbrev s_law_any_row : Stmt := top 32
abbrev s_law_party_text : Stmt := top 33
abbrev s_law_words : Stmt := top 34
abbrev s_law_text : Stmt := top 35
abbrev s_law_read_number : Stmt := top 36
abbrev s_law_read_stay : Stmt := top 37
abbrev s_law_read_party : Stmt := top 38
abbrev s_law_read_deed : Stmt := top 39
abbrev s_law_read_history_row : Stmt := top 40
abbrev s_law_read_book_row : Stmt := top 41
abbrev s_law_read : Stmt := top 42
abbrev s_law_changed : Stmt := top 43
abbrev s_law_told : Stmt := top 44
abbrev s_law_due : Stmt := top 45
abbrev s_law : Stmt := top 46
/-! ### the names of each def -/
theorem sc_parse_party : FnScope ["text", "party", "word"] ["text"] (defScope s_parse_party) := ⟨rfl, rfl, rfl, by decide +kernel, rfl, by decide +kernel, by decide +kernel⟩
theorem sc_parse_history : FnScope ["text", "line"] ["text"] (defScope s_parse_history) := ⟨rfl, rfl, rfl, by decide +kernel, rfl, by decide +kernel, by decide +kernel⟩
theorem sc_parse_book : FnScope ["text", "line"] ["text"] (defScope s_parse_book) := ⟨rfl, rfl, rfl, by decide +kernel, rfl, by decide +kernel, by decide +kernel⟩
theorem sc_check_text : FnScope ["text"] ["text"] (defScope s_check_text) := ⟨rfl, rfl, rfl, by decide +kernel, rfl, by decide +kernel, by decide +kernel⟩
theorem sc_lines_of : FnScope ["text", "lines"] ["text"] (defScope s_lines_of) := ⟨rfl, rfl, rfl, by decide +kernel, rfl, by decide +kernel, by decide +kernel⟩
theorem sc_parse_history_row : FnScope ["words", "form", "seller", "number"] ["words"] (defScope s_parse_history_row) := ⟨rfl, rfl, rfl, by decide +kernel, rfl, by decide +kernel, by decide +kernel⟩
theorem sc_parse_deed : FnScope ["words", "form"] ["words"] (defScope s_parse_deed) := ⟨rfl, rfl, rfl, by decide +kernel, rfl, by decide +kernel, by decide +kernel⟩
theorem sc_parse_book_row : FnScope ["words", "form", "number"] ["words"] (defScope s_parse_book_row) := ⟨rfl, rfl, rfl, by decide +kernel, rfl, by decide +kernel, by decide +kernel⟩
theorem sc_parse_stay : FnScope ["text", "kind", "_", "nights", "first", "end", "stay"] ["text"] (defScope s_parse_stay) := ⟨rfl, rfl, rfl, by decide +kernel, rfl, by decide +kernel, by decide +kernel⟩
theorem sc_parse_integers : FnScope ["words", "word"] ["words"] (defScope s_parse_integers) := ⟨rfl, rfl, rfl, by decide +kernel, rfl, by decide +kernel, by decide +kernel⟩
theorem sc_parse_integer : FnScope ["text"] ["text"] (defScope s_parse_integer) := ⟨rfl, rfl, rfl, by decide +kernel, rfl, by decide +kernel, by decide +kernel⟩
theorem sc_law_mixed : FnScope ["number", "k", "step"] ["number", "k"] (defScope s_law_mixed) := ⟨rfl, rfl, rfl, by decide +kernel, rfl, by decide +kernel, by decide +kernel⟩
theorem sc_law_numbers : FnScope ["script", "numbers", "cell", "rest", "k"] ["script"] (defScope s_law_numbers) := ⟨rfl, rfl, rfl, by decide +kernel, rfl, by decide +kernel, by decide +kernel⟩
theorem sc_law_draw : FnScope ["draws", "at", "first"] ["draws"] (defScope s_law_draw) := ⟨rfl, rfl, rfl, by decide +kernel, rfl, by decide +kernel, by decide +kernel⟩
theorem sc_law_equal : FnScope ["actual", "due"] ["actual", "due"] (defScope s_law_equal) := ⟨rfl, rfl, rfl, by decide +kernel, rfl, by decide +kernel, by decide +kernel⟩
theorem sc_law_all_equal : FnScope ["actual", "due", "k"] ["actual", "due"] (defScope s_law_all_equal) := ⟨rfl, rfl, rfl, by decide +kernel, rfl, by decide +kernel, by decide +kernel⟩
theorem sc_law_any_stay : FnScope ["draws", "first"] ["draws"] (defScope s_law_any_stay) := ⟨rfl, rfl, rfl, by decide +kernel, rfl, by decide +kernel, by decide +kernel⟩
theorem sc_law_any_party : FnScope ["draws", "k"] ["draws"] (defScope s_law_any_party) := ⟨rfl, rfl, rfl, by decide +kernel, rfl, by decide +kernel, by decide +kernel⟩
theorem sc_law_figure : FnScope ["draws"] ["draws"] (defScope s_law_figure) := ⟨rfl, rfl, rfl, by decide +kernel, rfl, by decide +kernel, by decide +kernel⟩
theorem sc_law_any_row : FnScope ["draws", "kind", "pick", "party", "number", "money", "deed"] ["draws", "kind"] (defScope s_law_any_row) := ⟨rfl, rfl, rfl, by decide +kernel, rfl, by decide +kernel, by decide +kernel⟩
theorem sc_law_party_text : FnScope ["party", "kind", "first", "end"] ["party"] (defScope s_law_party_text) := ⟨rfl, rfl, rfl, by decide +kernel, rfl, by decide +kernel, by decide +kernel⟩
theorem sc_law_words : FnScope ["parts", "words", "part"] ["parts"] (defScope s_law_words) := ⟨rfl, rfl, rfl, by decide +kernel, rfl, by decide +kernel, by decide +kernel⟩
theorem sc_law_text : FnScope ["rows", "row"] ["rows"] (defScope s_law_text) := ⟨rfl, rfl, rfl, by decide +kernel, rfl, by decide +kernel, by decide +kernel⟩
theorem sc_law_read_number : FnScope ["word", "sign"] ["word"] (defScope s_law_read_number) := ⟨rfl, rfl, rfl, by decide +kernel, rfl, by decide +kernel, by decide +kernel⟩
theorem sc_law_read_stay : FnScope ["word", "sides", "ends", "stay"] ["word"] (defScope s_law_read_stay) := ⟨rfl, rfl, rfl, by decide +kernel, rfl, by decide +kernel, by decide +kernel⟩
theorem sc_law_read_party : FnScope ["word", "stays", "part"] ["word"] (defScope s_law_read_party) := ⟨rfl, rfl, rfl, by decide +kernel, rfl, by decide +kernel, by decide +kernel⟩
theorem sc_law_read_deed : FnScope ["words"] ["words"] (defScope s_law_read_deed) := ⟨rfl, rfl, rfl, by decide +kernel, rfl, by decide +kernel, by decide +kernel⟩
theorem sc_law_read_history_row : FnScope ["words", "deed", "row"] ["words"] (defScope s_law_read_history_row) := ⟨rfl, rfl, rfl, by decide +kernel, rfl, by decide +kernel, by decide +kernel⟩
theorem sc_law_read_book_row : FnScope ["words", "figures", "word"] ["words"] (defScope s_law_read_book_row) := ⟨rfl, rfl, rfl, by decide +kernel, rfl, by decide +kernel, by decide +kernel⟩
theorem sc_law_read : FnScope ["kind", "text", "rows", "lines", "line", "row"] ["kind", "text"] (defScope s_law_read) := ⟨rfl, rfl, rfl, by decide +kernel, rfl, by decide +kernel, by decide +kernel⟩
theorem sc_law_changed : FnScope ["draws", "text", "signs", "words", "k", "at", "word", "pick"] ["draws", "text"] (defScope s_law_changed) := ⟨rfl, rfl, rfl, by decide +kernel, rfl, by decide +kernel, by decide +kernel⟩
theorem sc_law_told : FnScope ["which", "text", "e"] ["which", "text"] (defScope s_law_told) := ⟨rfl, rfl, rfl, by decide +kernel, rfl, by decide +kernel, by decide +kernel⟩
theorem sc_law_due : FnScope ["which", "text", "found"] ["which", "text"] (defScope s_law_due) := ⟨rfl, rfl, rfl, by decide +kernel, rfl, by decide +kernel, by decide +kernel⟩
theorem sc_law : FnScope ["script", "draws", "which", "rows", "text", "turn", "spoilt", "odd", "k"] ["script"] (defScope s_law) := ⟨rfl, rfl, rfl, by decide +kernel, rfl, by decide +kernel, by decide +kernel⟩
/-! ### what the top has written -/
structure Txt (K : PySem.W.Frag) (mg : Str → Option Value) where
  C_BadText : Addr
  x_BadText : ExcC K mg "BadText" C_BadText
  m_BadText : PySem.W.exmOne K (.ref C_BadText) (.ref C_BadText) = some true
  ie_BadText : L2.ExcC K C_BadText
  C_ManydoorsError : Addr
  g_ManydoorsError : mg "ManydoorsError" = some (.ref C_ManydoorsError)
  ki_ManydoorsError : PySem.W.kitOne K (.ref C_BadText) (.ref C_ManydoorsError) = some true
  ki_ValueError : PySem.W.kitOne K (.ref C_BadText) (.type "ValueError") = some true
  C_BadDeed : Addr
  g_BadDeed : mg "BadDeed" = some (.ref C_BadDeed)
  ki_BadDeed : PySem.W.kitOne K (.ref C_BadText) (.ref C_BadDeed) = some false
  C_BadHistory : Addr
  g_BadHistory : mg "BadHistory" = some (.ref C_BadHistory)
  ki_BadHistory : PySem.W.kitOne K (.ref C_BadText) (.ref C_BadHistory) = some false
  C_BadLine : Addr
  g_BadLine : mg "BadLine" = some (.ref C_BadLine)
  ki_BadLine : PySem.W.kitOne K (.ref C_BadText) (.ref C_BadLine) = some false
  C_BadSetup : Addr
  g_BadSetup : mg "BadSetup" = some (.ref C_BadSetup)
  ki_BadSetup : PySem.W.kitOne K (.ref C_BadText) (.ref C_BadSetup) = some false
  C_BadStay : Addr
  g_BadStay : mg "BadStay" = some (.ref C_BadStay)
  ki_BadStay : PySem.W.kitOne K (.ref C_BadText) (.ref C_BadStay) = some false
  d_parse_party : DefAt K mg "parse_party" s_parse_party ["text"]
  d_parse_history : DefAt K mg "parse_history" s_parse_history ["text"]
  d_parse_book : DefAt K mg "parse_book" s_parse_book ["text"]
  d_check_text : DefAt K mg "check_text" s_check_text ["text"]
  d_lines_of : DefAt K mg "lines_of" s_lines_of ["text"]
  d_parse_history_row : DefAt K mg "parse_history_row" s_parse_history_row ["words"]
  d_parse_deed : DefAt K mg "parse_deed" s_parse_deed ["words"]
  d_parse_book_row : DefAt K mg "parse_book_row" s_parse_book_row ["words"]
  d_parse_stay : DefAt K mg "parse_stay" s_parse_stay ["text"]
  d_parse_integers : DefAt K mg "parse_integers" s_parse_integers ["words"]
  d_parse_integer : DefAt K mg "parse_integer" s_parse_integer ["text"]
  d_law_mixed : DefAt K mg "_law_mixed" s_law_mixed ["number", "k"]
  d_law_numbers : DefAt K mg "_law_numbers" s_law_numbers ["script"]
  d_law_draw : DefAt K mg "_law_draw" s_law_draw ["draws"]
  d_law_equal : DefAt K mg "_law_equal" s_law_equal ["actual", "due"]
  d_law_all_equal : DefAt K mg "_law_all_equal" s_law_all_equal ["actual", "due"]
  d_law_any_stay : DefAt K mg "_law_any_stay" s_law_any_stay ["draws"]
  d_law_any_party : DefAt K mg "_law_any_party" s_law_any_party ["draws"]
  d_law_figure : DefAt K mg "_law_figure" s_law_figure ["draws"]
  d_law_any_row : DefAt K mg "_law_any_row" s_law_any_row ["draws", "kind"]
  d_law_party_text : DefAt K mg "_law_party_text" s_law_party_text ["party"]
  d_law_words : DefAt K mg "_law_words" s_law_words ["parts"]
  d_law_text : DefAt K mg "_law_text" s_law_text ["rows"]
  d_law_read_number : DefAt K mg "_law_read_number" s_law_read_number ["word"]
  d_law_read_stay : DefAt K mg "_law_read_stay" s_law_read_stay ["word"]
  d_law_read_party : DefAt K mg "_law_read_party" s_law_read_party ["word"]
  d_law_read_deed : DefAt K mg "_law_read_deed" s_law_read_deed ["words"]
  d_law_read_history_row : DefAt K mg "_law_read_history_row" s_law_read_history_row ["words"]
  d_law_read_book_row : DefAt K mg "_law_read_book_row" s_law_read_book_row ["words"]
  d_law_read : DefAt K mg "_law_read" s_law_read ["kind", "text"]
  d_law_changed : DefAt K mg "_law_changed" s_law_changed ["draws", "text"]
  d_law_told : DefAt K mg "_law_told" s_law_told ["which", "text"]
  d_law_due : DefAt K mg "_law_due" s_law_due ["which", "text"]
  z_ValueError : mg "ValueError" = none
  z_bool : mg "bool" = none
  z_int : mg "int" = none
  z_isinstance : mg "isinstance" = none
  z_len : mg "len" = none
  z_list : mg "list" = none
  z_range : mg "range" = none
  z_sorted : mg "sorted" = none
  z_str : mg "str" = none
  z_tuple : mg "tuple" = none
  A_BOOK_WORDS : Addr
  c_BOOK_WORDS : ∃ u, mg "BOOK_WORDS" = some u ∧ RelV (.ref A_BOOK_WORDS) u
  c_MOST_DIGITS : ∃ u, mg "MOST_DIGITS" = some u ∧ RelV (.int 12) u
  c_MOST_STAYS : ∃ u, mg "MOST_STAYS" = some u ∧ RelV (.int 4) u
end MD
namespace MD
open PySem PySem.Spec PyProof.Rows L2
local macro_rules | `(tactic| walk_at "ne") => `(tactic| first | assumption | (apply Ne.symm; assumption) | exact ne_of_none (by assumption) (by assumption) | exact (ne_of_none (by assumption) (by assumption)).symm)
local macro_rules | `(tactic| walk_at "hp") => `(tactic| first | assumption | exact upd_same | (refine (upd_ne ?_).trans ?_; (focus walk_at "ne"); walk_at "hp"))
local macro_rules | `(tactic| walk_at "nm") => `(tactic| first | exact nmem_nil | exact nmem_one (by walk_at "ne") | exact nmem_cons (by walk_at "ne") (by walk_at "nm"))
/-! ### the draws -/
section
variable {P : Program} {w : World} {K : PySem.W.Frag} {mg : Str → Option Value} {base : Heap}
def spMixed : Sp := fun vs H Q _ => ∃ a k : Int, vs = [.int a, .int k] ∧ ∀ r : Int, 0 ≤ r → r < 2147483647 → Q (.int r) H
theorem c_law_mixed (T : Txt K mg) : Cal P w K mg base 1 "_law_mixed" spMixed := by
  refine cal_of T.d_law_mixed sc_law_mixed (fun vs H Q E h => ?_) (fun f cdv A outer s H vs Q E hr h => ?_)
  · obtain ⟨a, k, rfl, _⟩ := h; rfl
  · obtain ⟨a, k, rfl, q⟩ := h
    refine ⟨_, (pss_cons (ps_set (i := 2) sc_law_mixed.nd rfl (Or.inl rfl) (pe_op op_mod (pe_op op_add (pe_op op_add (pe_op op_mul (pv 0) pe_int) (pe_op op_mul (pv 1) pe_int)) pe_int) pe_int))
  (pss_one (ps_ret (pe_op op_mod (pe_op op_add (pe_op op_mul (pv 2) (pe_op op_add (pe_op op_fdiv (pv 2) pe_int) pe_int)) (pv 1)) pe_int)))), ?_⟩
    refine ⟨_, rfl, _, _, rfl, rfl, .inr ⟨by decide, by decide⟩, _, rfl, _, _, rfl, rfl, .inr ⟨by decide, by decide⟩, _, _, rfl, rfl, _, _, rfl, rfl, _, _, rfl, rfl, (by show (0 : Int) < 2147483647; decide), ?_⟩
    have h0 : 0 ≤ (a * 48271 + k * 69621 + 12345) % 2147483647 := Int.emod_nonneg _ (by decide)
    have h1 : (a * 48271 + k * 69621 + 12345) % 2147483647 < 2147483647 := Int.emod_lt_of_pos _ (by decide)
    generalize (a * 48271 + k * 69621 + 12345) % 2147483647 = st at h0 h1
    refine ⟨_, rfl, _, rfl, _, _, rfl, rfl, ⟨by decide, by decide⟩, _, _, rfl, rfl, _, _, rfl, rfl, .inl ⟨by omega, by omega⟩, _, rfl, _, _, rfl, rfl, _, _, rfl, rfl, (by show (0 : Int) < 2147483647; decide), ?_⟩
    exact q _ (Int.emod_nonneg _ (by decide)) (Int.emod_lt_of_pos _ (by decide))
def spNumbers (K : PySem.W.Frag) : Sp := fun vs H Q _ => ∃ (a : Addr) (ns : List Int), vs = [.ref a] ∧ SqL K H a (ns.map V.int) ∧ ns.length ≤ 63 ∧
  ∀ (p : Addr) (H' : Hp) (ms : List Int), H p = none → Kp [] H H' → H' p = some (.lst (ms.map V.int)) → Rg ms → ms.length ≤ 3780 → Q (.ref p) H'
theorem mod6 (z : Int) : 0 ≤ z % 1000000 ∧ z % 1000000 < 1000000 := ⟨Int.emod_nonneg _ (by decide), Int.emod_lt_of_pos _ (by decide)⟩
theorem c_law_numbers (T : Txt K mg) : Cal P w K mg base 2 "_law_numbers" (spNumbers K) := by
  have c_law_mixed := c_law_mixed (P := P) (w := w) (base := base) T
  refine cal_of T.d_law_numbers sc_law_numbers (fun vs H Q E h => ?_) (fun f cdv A outer s H vs Q E hr h => ?_)
  · obtain ⟨a, k, rfl, _⟩ := h; rfl
  · obtain ⟨a, ns, rfl, hS, hlen, q⟩ := h
    refine ⟨_, (pss_cons (ps_set (i := 1) sc_law_numbers.nd rfl (Or.inl rfl) (pe_lst pa_nil))
  (pss_cons (ps_for PassesOwn.never rfl (pi_list (pv 0)) (pg_name (i := 2) sc_law_numbers.nd rfl (Or.inl rfl))
  (pss_one (ps_if (pt_cmpR op_ge (pv 2) (pe_op op_pow pe_int pe_int) (nomark _))
  (pss_cons (ps_set (i := 3) sc_law_numbers.nd rfl (Or.inl rfl) (pv 2))
  (pss_one (ps_for PassesOwn.never rfl (pi_range1 (by rfl) T.z_range (pa_cons pe_int pa_nil)) (pg_name (i := 4) sc_law_numbers.nd rfl (Or.inl rfl))
  (pss_one (ps_if (pt_cmpR op_gt (pv 3) pe_int (nomark _))
  (pss_cons (ps_expr (pe_bm PySem.F.plainAttrs_list PySem.F.slot_list_append PySem.F.type_list_append mt_append (pv 1) (pa_cons (pe_op op_mod (pv 3) pe_int) pa_nil)))
  (pss_one (ps_set (i := 3) sc_law_numbers.nd rfl (Or.inl rfl) (pe_op op_fdiv (pv 3) pe_int))))
  pss_nil)))))
  (pss_cons (ps_expr (pe_bm PySem.F.plainAttrs_list PySem.F.slot_list_append PySem.F.type_list_append mt_append (pv 1) (pa_cons (pe_op op_mod (pv 2) pe_int) pa_nil)))
  (pss_one (ps_for PassesOwn.never rfl (pi_range1 (by rfl) T.z_range (pa_cons pe_int pa_nil)) (pg_name (i := 4) sc_law_numbers.nd rfl (Or.inl rfl))
  (pss_one (ps_expr (pe_bm PySem.F.plainAttrs_list PySem.F.slot_list_append PySem.F.type_list_append mt_append (pv 1) (pa_cons (pe_op op_mod (pe_c c_law_mixed (hr.mono (by first | decide | omega)) rfl (pa_cons (pe_c c_law_mixed (hr.mono (by first | decide | omega)) rfl (pa_cons (pe_op op_mod (pv 2) pe_int) (pa_cons (pv 4) pa_nil))) (pa_cons (pe_op op_add (pv 4) pe_int) pa_nil))) pe_int) pa_nil))))))))))
  (pss_one (ps_ret (pv 1))))), ?_⟩
    refine ⟨Nat.zero_le _, fun p hp => ?_⟩
    have k0 : Kp [] H (upd H p (.lst [])) := Kp.new hp
    refine ⟨_, rfl, a, rfl, ⟨_, k0.seq hS nmem_nil⟩, for_list (K := K) (a := a) (xs := ns.map V.int) (fun i σ H2 => ∃ (ms : List Int) (c r kk : Option V), σ = [some (.ref a), some (.ref p), c, r, kk] ∧ Kp [] H H2 ∧ H2 p = some (.lst (ms.map V.int)) ∧ Rg ms ∧ ms.length ≤ 60 * i)
      ⟨[], none, none, none, rfl, k0, upd_same, Rg.nil, Nat.le_refl _⟩ (fun i σ H2 _ ⟨_, _, _, _, _, k2, _⟩ => k2.seq hS nmem_nil) ?_ ?_⟩
    · rintro i y σ H2 hi ⟨ms, c, r, kk, rfl, k2, hp2, rg, hl⟩
      obtain ⟨z, rfl, hz⟩ := int_item hi
      have hi63 : i < 63 := Nat.lt_of_lt_of_le (List.getElem?_eq_some_iff.mp hz).1 hlen
      refine ⟨_, rfl, _, _, rfl, rfl, ⟨by decide, by decide, by decide⟩, _, _, rfl, rfl, _, rfl, ?_⟩
      refine ite2 (fun hc => ?_) (fun hc => ?_)
      · refine ⟨_, rfl, _, rfl, (by decide), (by decide), for_range (n := 60) (fun j σ H3 => ∃ (ms : List Int) (r : Int) (kk : Option V), σ = [some (.ref a), some (.ref p), some (.int z), some (.int r), kk] ∧ Kp [] H H3 ∧ H3 p = some (.lst (ms.map V.int)) ∧ Rg ms ∧ ms.length ≤ 60 * i + j)
          ⟨ms, z, _, rfl, k2, hp2, rg, hl⟩ ?_ ?_⟩
        · rintro j σ H3 hj ⟨ms, r, kk, rfl, k3, hp3, rg3, hl3⟩
          refine ⟨_, rfl, _, _, rfl, rfl, _, rfl, ?_⟩
          refine ite2 (fun hc => ?_) (fun hc => ?_)
          · refine ⟨_, rfl, .inl ⟨rfl, _, SqL.of hp3⟩, _, rfl, _, _, rfl, rfl, (by show (0 : Int) < 1000000; decide), p, _, _, rfl, rfl, hp3, (by rw [List.length_map]; exact sz hl3), ?_⟩
            refine ⟨_, rfl, _, _, rfl, rfl, ⟨by decide, by decide⟩, ?_⟩
            exact ⟨ms ++ [r % 1000000], r / 1000000, _, rfl, k3.own hp, by rw [← int_snoc]; exact upd_same, rg3.snoc (mod6 r).1 (mod6 r).2, by rw [List.length_append, List.length_singleton]; omega⟩
          · exact ⟨ms, r, _, rfl, k3, hp3, rg3, by omega⟩
        · rintro σ H3 ⟨ms, r, kk, rfl, k3, hp3, rg3, hl3⟩
          exact ⟨ms, _, _, _, rfl, k3, hp3, rg3, by omega⟩
      · refine ⟨_, rfl, .inl ⟨rfl, _, SqL.of hp2⟩, _, rfl, _, _, rfl, rfl, (by show (0 : Int) < 1000000; decide), p, _, _, rfl, rfl, hp2, (by rw [List.length_map]; exact sz hl), ?_⟩
        refine ⟨_, rfl, (by decide), (by decide), for_range (n := 5) (fun j σ H3 => ∃ (ms : List Int) (r kk : Option V), σ = [some (.ref a), some (.ref p), some (.int z), r, kk] ∧ Kp [] H H3 ∧ H3 p = some (.lst (ms.map V.int)) ∧ Rg ms ∧ ms.length ≤ 60 * i + 1 + j)
          ⟨ms ++ [z % 1000000], _, _, rfl, k2.own hp, by rw [← int_snoc]; exact upd_same, rg.snoc (mod6 z).1 (mod6 z).2, by rw [List.length_append, List.length_singleton]; omega⟩ ?_ ?_⟩
        · rintro j σ H3 hj ⟨ms, r, kk, rfl, k3, hp3, rg3, hl3⟩
          refine ⟨_, rfl, .inl ⟨rfl, _, SqL.of hp3⟩, ?_⟩
          refine ⟨_, rfl, _, _, rfl, rfl, (by show (0 : Int) < 2147483647; decide), _, rfl, _, _, rfl, fun r1 h0 h1 => ?_⟩
          refine ⟨_, rfl, _, _, rfl, rfl, _, _, rfl, fun r2 h2 h3 => ?_⟩
          refine ⟨_, _, rfl, rfl, (by show (0 : Int) < 1000000; decide), p, _, _, rfl, rfl, hp3, (by rw [List.length_map]; exact sz hl3), ?_⟩
          exact ⟨ms ++ [r2 % 1000000], _, _, rfl, k3.own hp, by rw [← int_snoc]; exact upd_same, rg3.snoc (mod6 r2).1 (mod6 r2).2, by rw [List.length_append, List.length_singleton]; omega⟩
        · rintro σ H3 ⟨ms, r, kk, rfl, k3, hp3, rg3, hl3⟩
          exact ⟨ms, _, _, _, rfl, k3, hp3, rg3, by omega⟩
    · rintro σ H2 ⟨ms, c, r, kk, rfl, k2, hp2, rg, hl⟩
      refine ⟨_, rfl, ?_⟩
      rw [List.length_map] at hl
      exact q p H2 ms hp k2 hp2 rg (by omega)
/-- at d the pair of the drawn numbers, at n, and of how many are used -/
structure DrawsAt (H : Hp) (d n : Addr) (ns : List Int) (k : Int) : Prop where
  hd : H d = some (.lst [.ref n, .int k])
  hn : H n = some (.lst (ns.map V.int))
  rg : Rg ns
  k0 : 0 ≤ k
theorem DrawsAt.ne {H : Hp} {d n : Addr} {ns : List Int} {k : Int} (h : DrawsAt H d n ns k) : d ≠ n := by
  refine ne_of h.hd h.hn fun e => ?_
  cases ns with
  | nil => cases e
  | cons a r => injection e with e; injection e with e _; cases e
theorem DrawsAt.kp {M : List Addr} {H H' : Hp} {d n : Addr} {ns : List Int} {k : Int} (h : DrawsAt H d n ns k) (q : Kp M H H') (h1 : d ∉ M) (h2 : n ∉ M) : DrawsAt H' d n ns k := ⟨q.at h.hd h1, q.at h.hn h2, h.rg, h.k0⟩
def spDraw : Sp := fun vs H Q _ => ∃ (d n : Addr) (ns : List Int) (k : Int), vs = [.ref d] ∧ DrawsAt H d n ns k ∧
  ∀ (r : Int) (H' : Hp), 0 ≤ r → r < 1000000 → Kp [d] H H' → DrawsAt H' d n ns (k + 1) → Q (.int r) H'
theorem c_law_draw (T : Txt K mg) : Cal P w K mg base 2 "_law_draw" spDraw := by
  have c_law_mixed := c_law_mixed (P := P) (w := w) (base := base) T
  refine cal_of T.d_law_draw sc_law_draw (fun vs H Q E h => ?_) (fun f cdv A outer s H vs Q E hr h => ?_)
  · obtain ⟨d, n, ns, k, rfl, _⟩ := h; rfl
  · obtain ⟨d, n, ns, k, rfl, D, q⟩ := h
    have k0 := D.k0
    refine ⟨_, (pss_cons (ps_set (i := 1) sc_law_draw.nd rfl (Or.inl rfl) (pe_ix (ixL (K := K)) (pv 0) pe_int (fun _ _ => rfl)))
  (pss_cons (ps_asg (pe_op op_add (pv 1) pe_int) (pg_sub (pv 0) pe_int set_list))
  (pss_cons (ps_if (pt_cmpR op_lt (pv 1) (pe_callB (lenK (K := K)) (by rfl) T.z_len (by decide +kernel) (pa_cons (pe_ix (ixL (K := K)) (pv 0) pe_int (fun _ _ => rfl)) pa_nil)) (nomark _))
  (pss_one (ps_ret (pe_ix (ixL (K := K)) (pe_ix (ixL (K := K)) (pv 0) pe_int (fun _ _ => rfl)) (pv 1) (fun _ _ => rfl))))
  pss_nil)
  (pss_cons (ps_set (i := 2) sc_law_draw.nd rfl (Or.inl rfl) (pe_op op_add pe_int (pv 1)))
  (pss_cons (ps_if (pt_cmpR op_gt (pe_callB (lenK (K := K)) (by rfl) T.z_len (by decide +kernel) (pa_cons (pe_ix (ixL (K := K)) (pv 0) pe_int (fun _ _ => rfl)) pa_nil)) pe_int (nomark _))
  (pss_one (ps_set (i := 2) sc_law_draw.nd rfl (Or.inl rfl) (pe_op op_add (pv 2) (pe_op op_mul pe_int (pe_ix (ixL (K := K)) (pe_ix (ixL (K := K)) (pv 0) pe_int (fun _ _ => rfl)) pe_int (fun _ _ => rfl))))))
  pss_nil)
  (pss_one (ps_ret (pe_op op_mod (pe_c c_law_mixed (hr.mono (by first | decide | omega)) rfl (pa_cons (pe_c c_law_mixed (hr.mono (by first | decide | omega)) rfl (pa_cons (pv 2) (pa_cons (pv 1) pa_nil))) (pa_cons pe_int pa_nil))) pe_int)))))))), ?_⟩
    refine ⟨_, rfl, d, _, _, _, rfl, rfl, SqL.of D.hd, rfl, ?_⟩
    refine ⟨_, rfl, _, _, rfl, rfl, _, rfl, d, _, _, 1, rfl, rfl, D.hd, rfl, ?_⟩
    have hk : Kp [d] H (upd H d (.lst [.ref n, .int (k + 1)])) := Kp.old D.hd trivial List.mem_cons_self
    have D' : DrawsAt (upd H d (.lst [.ref n, .int (k + 1)])) d n ns (k + 1) := ⟨upd_same, (upd_ne D.ne.symm).trans D.hn, D.rg, by omega⟩
    obtain ⟨H1, eH⟩ : ∃ H1, H1 = upd H d (.lst [.ref n, .int (k + 1)]) := ⟨_, rfl⟩
    rw [← eH] at hk D'
    refine Eq.mp (congrArg _ eH) ?_
    refine ⟨_, rfl, _, rfl, d, _, _, _, rfl, rfl, SqL.of D'.hd, rfl, n, _, rfl, .inl (SqL.of D'.hn), _, _, rfl, rfl, _, rfl, ?_⟩
    refine ite2 (fun hc => ?_) (fun hc => ?_)
    · have hc := of_decide_eq_true hc
      rw [List.length_map] at hc
      have hlt : k.toNat < ns.length := by omega
      have hz : ns[k.toNat]? = some ns[k.toNat] := by simp [hlt]
      have hr := D.rg _ (List.getElem_mem hlt)
      refine ⟨_, rfl, d, _, _, _, rfl, rfl, SqL.of D'.hd, rfl, _, rfl, n, _, _, _, rfl, rfl, SqL.of D'.hn, int_at k0 hz, ?_⟩
      exact q _ _ hr.1 hr.2 hk D'
    · refine ⟨_, rfl, _, _, rfl, rfl, ?_⟩
      refine ⟨_, rfl, d, _, _, _, rfl, rfl, SqL.of D'.hd, rfl, n, _, rfl, .inl (SqL.of D'.hn), _, _, rfl, rfl, _, rfl, ?_⟩
      have fin : ∀ f : Int, ∃ v, ([some (V.ref d), some (V.int k), some (V.int f)] : L2.St)[2]? = some (some v) ∧ ∃ u, ([some (V.ref d), some (V.int k), some (V.int f)] : L2.St)[1]? = some (some u) ∧ spMixed [v, u] H1 (fun x H2 => spMixed [x, .int 5] H2 (fun y H3 => ∃ i j, y = .int i ∧ V.int 1000000 = .int j ∧ 0 < j ∧ Q (.int (i % j)) H3) E0) E0 := fun f =>
        ⟨_, rfl, _, rfl, _, _, rfl, fun r1 h0 h1 => ⟨_, _, rfl, fun r2 h2 h3 => ⟨_, _, rfl, rfl, by decide, q _ _ (mod6 r2).1 (mod6 r2).2 hk D'⟩⟩⟩
      refine ite2 (fun hc => ?_) (fun hc => ?_)
      · have hc := of_decide_eq_true hc
        rw [List.length_map] at hc
        have hlt : 0 < ns.length := by omega
        have hz : ns[(0 : Int).toNat]? = some ns[0] := by simp [hlt]
        refine ⟨_, rfl, _, rfl, d, _, _, _, rfl, rfl, SqL.of D'.hd, rfl, n, _, _, _, rfl, rfl, SqL.of D'.hn, int_at (by decide) hz, _, _, rfl, rfl, .inl ⟨by decide, by decide⟩, _, _, rfl, rfl, ?_⟩
        exact fin _
      · exact fin _
end

end MD
namespace MD
open PySem PySem.Spec PyProof.Rows L2
local macro_rules | `(tactic| walk_at "ne") => `(tactic| first | assumption | (apply Ne.symm; assumption) | exact ne_of_none (by assumption) (by assumption) | exact (ne_of_none (by assumption) (by assumption)).symm)
local macro_rules | `(tactic| walk_at "hp") => `(tactic| first | assumption | exact upd_same | (refine (upd_ne ?_).trans ?_; (focus walk_at "ne"); walk_at "hp"))
local macro_rules | `(tactic| walk_at "nm") => `(tactic| first | exact nmem_nil | exact nmem_one (by walk_at "ne") | exact nmem_cons (by walk_at "ne") (by walk_at "nm"))
/-! ### deep equality -/
section
variable {P : Program} {w : World} {K : PySem.W.Frag} {mg : Str → Option Value} {base : Heap}
def spEq (K : PySem.W.Frag) (n : Nat) : Sp := fun vs H Q _ => ∃ (d : D) (x y : V), vs = [x, y] ∧ Rep K H d x ∧ Rep K H d y ∧ d.ok n ∧ Q (.bl true) H
def spEqs (K : PySem.W.Frag) (n : Nat) : Sp := fun vs H Q _ => ∃ (l : Bool) (ds : List D) (a b : Addr) (xs ys : List V), vs = [.ref a, .ref b] ∧ SqB K H l a xs ∧ SqB K H l b ys ∧ Reps K H ds xs ∧ Reps K H ds ys ∧
  ds.length ≤ 100000 ∧ (∀ d ∈ ds, D.ok n d) ∧ Q (.bl true) H
theorem ok_eqs (T : Txt K mg) (n k : Nat) (c_law_equal : Cal P w K mg base k "_law_equal" (spEq K n)) : Cal P w K mg base (k + 1) "_law_all_equal" (spEqs K n) := by
  refine cal_of T.d_law_all_equal sc_law_all_equal (fun vs H Q E h => ?_) (fun f cdv A outer s H vs Q E hr h => ?_)
  · obtain ⟨l, ds, a, b, xs, ys, rfl, _⟩ := h; rfl
  · obtain ⟨l, ds, a, b, xs, ys, rfl, ha, hb, rx, ry, hz, hk, q⟩ := h
    refine ⟨_, (pss_cons (ps_for PassesOwn.never rfl (pi_range1 (by rfl) T.z_range (pa_cons (pe_callB (lenK (K := K)) (by rfl) T.z_len (by decide +kernel) (pa_cons (pv 1) pa_nil)) pa_nil)) (pg_name (i := 2) sc_law_all_equal.nd rfl (Or.inl rfl))
  (pss_one (ps_if (pt_not (pt_val (pe_c c_law_equal (hr.mono (by first | decide | omega)) rfl (pa_cons (pe_ix (ixS (K := K)) (pv 0) (pv 2) (fun _ _ => rfl)) (pa_cons (pe_ix (ixS (K := K)) (pv 1) (pv 2) (fun _ _ => rfl)) pa_nil)))))
  (pss_one (ps_ret pe_bl))
  pss_nil)))
  (pss_one (ps_ret pe_bl))), ?_⟩
    have ly := ry.len
    refine ⟨_, rfl, b, ys, rfl, hb.any, _, rfl, (by omega), (by omega), for_range (n := ys.length) (fun i σ H2 => H2 = H ∧ ∃ kk : Option V, σ = [some (.ref a), some (.ref b), kk]) ⟨rfl, none, rfl⟩ ?_ ?_⟩
    · rintro i σ H2 hi ⟨rfl, kk, rfl⟩
      obtain ⟨d, hd⟩ : ∃ d, ds[i]? = some d := ⟨ds[i]'(by omega), by simp [show i < ds.length by omega]⟩
      obtain ⟨x, ex, rdx⟩ := rx.get hd
      obtain ⟨y, ey, rdy⟩ := ry.get hd
      have e0 : (0 : Int) + (i : Int) = (i : Int) := by omega
      have ax : atI xs ((0 : Int) + (i : Int)) = some x := by rw [e0]; exact atI_nat ex
      have ay : atI ys ((0 : Int) + (i : Int)) = some y := by rw [e0]; exact atI_nat ey
      cases l with
      | true =>
        refine ⟨_, rfl, _, rfl, .inl ⟨a, xs, _, x, rfl, rfl, ha, ax, _, rfl, _, rfl, .inl ⟨b, ys, _, y, rfl, rfl, hb, ay, d, x, y, rfl, rdx, rdy, hk d (List.mem_of_getElem? hd), _, rfl, ?_⟩⟩⟩
        exact ⟨rfl, _, rfl⟩
      | false =>
        refine ⟨_, rfl, _, rfl, .inr (.inl ⟨a, xs, _, x, rfl, rfl, ha, ax, _, rfl, _, rfl, .inr (.inl ⟨b, ys, _, y, rfl, rfl, hb, ay, d, x, y, rfl, rdx, rdy, hk d (List.mem_of_getElem? hd), _, rfl, ?_⟩)⟩)⟩
        exact ⟨rfl, _, rfl⟩
    · rintro σ H2 ⟨rfl, kk, rfl⟩
      exact q
theorem ok_eq (T : Txt K mg) : ∀ n : Nat, Cal P w K mg base (2 * n + 1) "_law_equal" (spEq K n)
  | 0 => by
    have c_law_all_equal : Cal P w K mg base 0 "_law_all_equal" (fun _ _ _ _ => False) := by
      obtain ⟨f, fd, hm, F, b⟩ := T.d_law_all_equal.ex
      exact ⟨f, fd, _, ⟨fun _ _ _ _ h => h.elim, fun _ _ _ _ _ _ _ _ _ _ _ _ _ h => h.elim⟩, hm, F.kp, b⟩
    exact go T 0 0 _ c_law_all_equal (fun _ _ _ ⟨m, hm, _⟩ => absurd hm (by omega))
  | n + 1 => by
    have c_law_all_equal := ok_eqs T n (2 * n + 1) (ok_eq T n)
    exact go T (n + 1) (2 * n + 2) _ c_law_all_equal (fun vs H Q h => by
      obtain ⟨m, hm, h⟩ := h
      cases hm
      exact h)
where
  go (T : Txt K mg) (n k : Nat) (sp : Sp) (c_law_all_equal : Cal P w K mg base k "_law_all_equal" sp) (hsp : ∀ vs H Q, (∃ m, n = m + 1 ∧ spEqs K m vs H Q E0) → sp vs H Q E0) : Cal P w K mg base (k + 1) "_law_equal" (spEq K n) := by
    refine cal_of T.d_law_equal sc_law_equal (fun vs H Q E h => ?_) (fun f cdv A outer s H vs Q E hr h => ?_)
    · obtain ⟨d, x, y, rfl, _⟩ := h; rfl
    · obtain ⟨d, x, y, rfl, rx, ry, ok, q⟩ := h
      refine ⟨_, (pss_cons (ps_if (pt_val (pe_callB (isiK (K := K)) (by rfl) T.z_isinstance (by decide +kernel) (pa_cons (pv 1) (pa_cons (pe_bltn (v := .ty "list") (by rfl) T.z_list (by decide +kernel) rfl) pa_nil))))
  (pss_cons (ps_if (PW.pt (pw_or (pt_not (pt_val (pe_callB (isiK (K := K)) (by rfl) T.z_isinstance (by decide +kernel) (pa_cons (pv 0) (pa_cons (pe_bltn (v := .ty "list") (by rfl) T.z_list (by decide +kernel) rfl) pa_nil))))) (pw_or1 (pt_cmpR op_ne (pe_callB (lenK (K := K)) (by rfl) T.z_len (by decide +kernel) (pa_cons (pv 0) pa_nil)) (pe_callB (lenK (K := K)) (by rfl) T.z_len (by decide +kernel) (pa_cons (pv 1) pa_nil)) (nomark _)))))
  (pss_one (ps_ret pe_bl))
  pss_nil)
  (pss_one (ps_ret (pe_c c_law_all_equal (hr.mono (by first | decide | omega)) rfl (pa_cons (pv 0) (pa_cons (pv 1) pa_nil))))))
  pss_nil)
  (pss_cons (ps_if (pt_val (pe_callB (isiK (K := K)) (by rfl) T.z_isinstance (by decide +kernel) (pa_cons (pv 1) (pa_cons (pe_bltn (v := .ty "tuple") (by rfl) T.z_tuple (by decide +kernel) rfl) pa_nil))))
  (pss_cons (ps_if (PW.pt (pw_or (pt_not (pt_val (pe_callB (isiK (K := K)) (by rfl) T.z_isinstance (by decide +kernel) (pa_cons (pv 0) (pa_cons (pe_bltn (v := .ty "tuple") (by rfl) T.z_tuple (by decide +kernel) rfl) pa_nil))))) (pw_or1 (pt_cmpR op_ne (pe_callB (lenK (K := K)) (by rfl) T.z_len (by decide +kernel) (pa_cons (pv 0) pa_nil)) (pe_callB (lenK (K := K)) (by rfl) T.z_len (by decide +kernel) (pa_cons (pv 1) pa_nil)) (nomark _)))))
  (pss_one (ps_ret pe_bl))
  pss_nil)
  (pss_one (ps_ret (pe_c c_law_all_equal (hr.mono (by first | decide | omega)) rfl (pa_cons (pv 0) (pa_cons (pv 1) pa_nil))))))
  pss_nil)
  (pss_cons (ps_if (pt_val (pe_callB (isiK (K := K)) (by rfl) T.z_isinstance (by decide +kernel) (pa_cons (pv 1) (pa_cons (pe_bltn (v := .ty "bool") (by rfl) T.z_bool (by decide +kernel) rfl) pa_nil))))
  (pss_one (ps_ret (pe_and (pe_callB (isiK (K := K)) (by rfl) T.z_isinstance (by decide +kernel) (pa_cons (pv 0) (pa_cons (pe_bltn (v := .ty "bool") (by rfl) T.z_bool (by decide +kernel) rfl) pa_nil))) (pe_one (pe_cmpR op_eq (pv 0) (pv 1) (nomark _))))))
  pss_nil)
  (pss_cons (ps_if (pt_val (pe_callB (isiK (K := K)) (by rfl) T.z_isinstance (by decide +kernel) (pa_cons (pv 1) (pa_cons (pe_bltn (v := .ty "int") (by rfl) T.z_int (by decide +kernel) rfl) pa_nil))))
  (pss_one (ps_ret (pe_and (pe_callB (isiK (K := K)) (by rfl) T.z_isinstance (by decide +kernel) (pa_cons (pv 0) (pa_cons (pe_bltn (v := .ty "int") (by rfl) T.z_int (by decide +kernel) rfl) pa_nil))) (pe_and (pe_not (pe_callB (isiK (K := K)) (by rfl) T.z_isinstance (by decide +kernel) (pa_cons (pv 0) (pa_cons (pe_bltn (v := .ty "bool") (by rfl) T.z_bool (by decide +kernel) rfl) pa_nil)))) (pe_one (pe_cmpR op_eq (pv 0) (pv 1) (nomark _)))))))
  pss_nil)
  (pss_cons (ps_if (pt_val (pe_callB (isiK (K := K)) (by rfl) T.z_isinstance (by decide +kernel) (pa_cons (pv 1) (pa_cons (pe_bltn (v := .ty "str") (by rfl) T.z_str (by decide +kernel) rfl) pa_nil))))
  (pss_one (ps_ret (pe_and (pe_callB (isiK (K := K)) (by rfl) T.z_isinstance (by decide +kernel) (pa_cons (pv 0) (pa_cons (pe_bltn (v := .ty "str") (by rfl) T.z_str (by decide +kernel) rfl) pa_nil))) (pe_one (pe_cmpR op_eq (pv 0) (pv 1) (nomark _))))))
  pss_nil)
  (pss_one (ps_ret (pe_cmpR op_isN (pv 0) pe_non (nomark _))))))))), ?_⟩
      cases d with
      | v u =>
        unfold Rep at rx ry
        obtain ⟨e1, su⟩ := rx
        obtain ⟨e2, _⟩ := ry
        subst x
        subst y
        cases u with
        | non =>
          refine ⟨_, rfl, _, _, _, _, false, rfl, .ty _, (.base .non), kit_ty (by decide +kernel), _, rfl, iteF ?_⟩
          refine ⟨_, rfl, _, _, _, _, false, rfl, .ty _, (.base .non), kit_ty (by decide +kernel), _, rfl, iteF ?_⟩
          refine ⟨_, rfl, _, _, _, _, false, rfl, .ty _, (.base .non), kit_ty (by decide +kernel), _, rfl, iteF ?_⟩
          refine ⟨_, rfl, _, _, _, _, false, rfl, .ty _, (.base .non), kit_ty (by decide +kernel), _, rfl, iteF ?_⟩
          refine ⟨_, rfl, _, _, _, _, false, rfl, .ty _, (.base .non), kit_ty (by decide +kernel), _, rfl, iteF ?_⟩
          exact ⟨_, rfl, rfl, q⟩
        | bl b =>
          refine ⟨_, rfl, _, _, _, _, false, rfl, .ty _, (.base (.bl b)), kit_ty (by decide +kernel), _, rfl, iteF ?_⟩
          refine ⟨_, rfl, _, _, _, _, false, rfl, .ty _, (.base (.bl b)), kit_ty (by decide +kernel), _, rfl, iteF ?_⟩
          refine ⟨_, rfl, _, _, _, _, true, rfl, .ty _, (.base (.bl b)), kit_ty (by decide +kernel), _, rfl, iteT ?_⟩
          refine ⟨_, rfl, _, _, _, _, true, rfl, .ty _, (.base (.bl b)), kit_ty (by decide +kernel), _, rfl, iteT ?_⟩
          refine ⟨_, rfl, _, rfl, rfl, ?_⟩
          rw [decide_eq_true rfl]; exact q
        | int i =>
          refine ⟨_, rfl, _, _, _, _, false, rfl, .ty _, (.base (.int i)), kit_ty (by decide +kernel), _, rfl, iteF ?_⟩
          refine ⟨_, rfl, _, _, _, _, false, rfl, .ty _, (.base (.int i)), kit_ty (by decide +kernel), _, rfl, iteF ?_⟩
          refine ⟨_, rfl, _, _, _, _, false, rfl, .ty _, (.base (.int i)), kit_ty (by decide +kernel), _, rfl, iteF ?_⟩
          refine ⟨_, rfl, _, _, _, _, true, rfl, .ty _, (.base (.int i)), kit_ty (by decide +kernel), _, rfl, iteT ?_⟩
          refine ⟨_, rfl, _, _, _, _, true, rfl, .ty _, (.base (.int i)), kit_ty (by decide +kernel), _, rfl, iteT ?_⟩
          refine ⟨_, rfl, _, _, _, _, false, rfl, .ty _, (.base (.int i)), kit_ty (by decide +kernel), _, rfl, _, rfl, iteT ?_⟩
          refine ⟨_, rfl, _, rfl, rfl, ?_⟩
          rw [decide_eq_true rfl]; exact q
        | str z =>
          refine ⟨_, rfl, _, _, _, _, false, rfl, .ty _, (.base (.str z)), kit_ty (by decide +kernel), _, rfl, iteF ?_⟩
          refine ⟨_, rfl, _, _, _, _, false, rfl, .ty _, (.base (.str z)), kit_ty (by decide +kernel), _, rfl, iteF ?_⟩
          refine ⟨_, rfl, _, _, _, _, false, rfl, .ty _, (.base (.str z)), kit_ty (by decide +kernel), _, rfl, iteF ?_⟩
          refine ⟨_, rfl, _, _, _, _, false, rfl, .ty _, (.base (.str z)), kit_ty (by decide +kernel), _, rfl, iteF ?_⟩
          refine ⟨_, rfl, _, _, _, _, true, rfl, .ty _, (.base (.str z)), kit_ty (by decide +kernel), _, rfl, iteT ?_⟩
          refine ⟨_, rfl, _, _, _, _, true, rfl, .ty _, (.base (.str z)), kit_ty (by decide +kernel), _, rfl, iteT ?_⟩
          refine ⟨_, rfl, _, rfl, rfl, ?_⟩
          rw [decide_eq_true rfl]; exact q
        | _ => cases su
      | sq l ds =>
        unfold Rep at rx ry
        obtain ⟨a, xs, rfl, ha, rxs⟩ := rx
        obtain ⟨b, ys, rfl, hb, rys⟩ := ry
        have ll : (xs.length : Int) = ys.length := by rw [rxs.len, rys.len]
        cases n with
        | zero => unfold D.ok at ok; exact ok.elim
        | succ m =>
          unfold D.ok at ok
          have fin : sp [.ref a, .ref b] H Q E0 := hsp _ _ _ ⟨m, rfl, l, ds, a, b, xs, ys, rfl, ha, hb, rxs, rys, ok.1, ok.2, q⟩
          cases l with
          | true =>
            refine ⟨_, rfl, _, _, _, _, true, rfl, .ty _, ty_sq hb, kit_ty (by decide +kernel), _, rfl, iteT ?_⟩
            refine ⟨_, rfl, _, _, _, _, true, rfl, .ty _, ty_sq ha, kit_ty (by decide +kernel), _, rfl, iteF ?_⟩
            refine ⟨_, rfl, a, xs, rfl, ha.any, _, rfl, b, ys, rfl, hb.any, rfl, _, rfl, iteNS (by rw [ll]) ?_⟩
            exact ⟨_, rfl, _, rfl, fin⟩
          | false =>
            refine ⟨_, rfl, _, _, _, _, false, rfl, .ty _, ty_sq hb, kit_ty (by decide +kernel), _, rfl, iteF ?_⟩
            refine ⟨_, rfl, _, _, _, _, true, rfl, .ty _, ty_sq hb, kit_ty (by decide +kernel), _, rfl, iteT ?_⟩
            refine ⟨_, rfl, _, _, _, _, true, rfl, .ty _, ty_sq ha, kit_ty (by decide +kernel), _, rfl, iteF ?_⟩
            refine ⟨_, rfl, a, xs, rfl, ha.any, _, rfl, b, ys, rfl, hb.any, rfl, _, rfl, iteNS (by rw [ll]) ?_⟩
            exact ⟨_, rfl, _, rfl, fin⟩
end

end MD
namespace MD
open PySem PySem.Spec PyProof.Rows L2
local macro_rules | `(tactic| walk_at "ne") => `(tactic| first | assumption | (apply Ne.symm; assumption) | exact ne_of_none (by assumption) (by assumption) | exact (ne_of_none (by assumption) (by assumption)).symm)
local macro_rules | `(tactic| walk_at "hp") => `(tactic| first | assumption | exact upd_same | (refine (upd_ne ?_).trans ?_; (focus walk_at "ne"); walk_at "hp"))
local macro_rules | `(tactic| walk_at "nm") => `(tactic| first | exact nmem_nil | exact nmem_one (by walk_at "ne") | exact nmem_cons (by walk_at "ne") (by walk_at "nm"))
/-! ### a drawn setup -/
section
variable {P : Program} {w : World} {K : PySem.W.Frag} {mg : Str → Option Value} {base : Heap}
theorem DrawsAt.kp0 {H H' : Hp} {d n : Addr} {ns : List Int} {k : Int} (h : DrawsAt H d n ns k) (q : Kp [] H H') : DrawsAt H' d n ns k := h.kp q nmem_nil nmem_nil
theorem DrawsAt.put {H H' : Hp} {d n p : Addr} {ns : List Int} {k : Int} (h : DrawsAt H d n ns k) (q : Kp [p] H H') (h1 : d ≠ p) (h2 : n ≠ p) : DrawsAt H' d n ns k := h.kp q (nmem_one h1) (nmem_one h2)
def spSetup : Sp := fun vs H Q _ => ∃ (d n : Addr) (ns : List Int) (k : Int), vs = [.ref d] ∧ DrawsAt H d n ns k ∧
  ∀ (a r p : Addr) (su : Su) (k' : Int) (H' : Hp), su.ok → Kp [d] H H' → DrawsAt H' d n ns k' → SuAt H' a r p su → Q (.ref a) H'
end

end MD
namespace MD
open PySem PySem.Spec PyProof.Rows L2
local macro_rules | `(tactic| walk_at "ne") => `(tactic| first | assumption | (apply Ne.symm; assumption) | exact ne_of_none (by assumption) (by assumption) | exact (ne_of_none (by assumption) (by assumption)).symm)
local macro_rules | `(tactic| walk_at "hp") => `(tactic| first | assumption | exact upd_same | (refine (upd_ne ?_).trans ?_; (focus walk_at "ne"); walk_at "hp"))
local macro_rules | `(tactic| walk_at "nm") => `(tactic| first | exact nmem_nil | exact nmem_one (by walk_at "ne") | exact nmem_cons (by walk_at "ne") (by walk_at "nm"))
section
variable {P : Program} {w : World} {K : PySem.W.Frag} {mg : Str → Option Value} {base : Heap}
open TL
/-! ### what is drawn -/
def spAStay : Sp := fun vs H Q _ => ∃ (d n : Addr) (ns : List Int) (k : Int), vs = [.ref d] ∧ DrawsAt H d n ns k ∧
  ∀ (t : Addr) (s : Sy) (k' : Int) (H' : Hp), StF s → Kp [d] H H' → DrawsAt H' d n ns k' → H' t = some (.tup [.int s.1, .int s.2.1, .int s.2.2]) → Q (.ref t) H'
theorem c_law_any_stay (T : Txt K mg) : Cal P w K mg base 3 "_law_any_stay" spAStay := by
  have c_law_draw := c_law_draw (P := P) (w := w) (base := base) T
  refine cal_of T.d_law_any_stay sc_law_any_stay (fun vs H Q E h => ?_) (fun f cdv A outer s H vs Q E hr h => ?_)
  · obtain ⟨d, n, ns, k, rfl, _⟩ := h; rfl
  · obtain ⟨d, n, ns, k, rfl, DA, q⟩ := h
    have hu := hu_of hr
    refine ⟨_, (pss_cons (ps_set (i := 1) sc_law_any_stay.nd rfl (Or.inl rfl) (pe_ix (ixL (K := K)) (ke_lst (pa_cons (pe_op op_mod (pe_c c_law_draw (hr.mono (by first | decide | omega)) rfl (pa_cons (pv 0) pa_nil)) pe_int) (pa_cons (pe_c c_law_draw (hr.mono (by first | decide | omega)) rfl (pa_cons (pv 0) pa_nil)) (pa_cons pe_int pa_nil)))) (pe_op op_mod (pe_c c_law_draw (hr.mono (by first | decide | omega)) rfl (pa_cons (pv 0) pa_nil)) pe_int) (fun _ _ => rfl)))
  (pss_one (ps_ret (ke_tup (pa_cons (pe_ix (ixL (K := K)) (ke_lst (pa_cons (pe_op op_mod (pe_c c_law_draw (hr.mono (by first | decide | omega)) rfl (pa_cons (pv 0) pa_nil)) pe_int) (pa_cons (pe_c c_law_draw (hr.mono (by first | decide | omega)) rfl (pa_cons (pv 0) pa_nil)) pa_nil))) (pe_op op_mod (pe_c c_law_draw (hr.mono (by first | decide | omega)) rfl (pa_cons (pv 0) pa_nil)) pe_int) (fun _ _ => rfl)) (pa_cons (pv 1) (pa_cons (pe_op op_add (pe_op op_add (pv 1) pe_int) (pe_op op_mod (pe_c c_law_draw (hr.mono (by first | decide | omega)) rfl (pa_cons (pv 0) pa_nil)) pe_int)) pa_nil))))))), ?_⟩
    refine ⟨_, rfl, d, n, ns, k, rfl, DA, fun x1 H1 x10 x11 k1 D1 => ⟨_, _, rfl, rfl, (by show (0 : Int) < 12; decide), ?_⟩⟩
    refine ⟨_, rfl, d, n, ns, _, rfl, D1, fun x2 H2 x20 x21 k2 D2 => ?_⟩
    refine ⟨(by show 3 ≤ sizeLine; decide), fun L H3 hL k3 h3 => ?_⟩
    refine ⟨_, rfl, d, n, ns, _, rfl, D2.kp0 k3, fun x4 H4 x40 x41 k4 D4 => ⟨_, _, rfl, rfl, (by show (0 : Int) < 3; decide), ?_⟩⟩
    have nLd : L ≠ d := (ne_of_none D2.hd hL).symm
    have h4 := k4.at h3 (nmem_one nLd)
    have m4 := MD.md x4 3 (by decide)
    have m1 := MD.md x1 12 (by decide)
    obtain ⟨fi, ef, f0, f1⟩ : ∃ fi : Int, atI [V.int (x1 % 12), V.int x2, V.int 0] (x4 % 3) = some (.int fi) ∧ 0 ≤ fi ∧ fi < 1000000 := by
      rcases (show x4 % 3 = 0 ∨ x4 % 3 = 1 ∨ x4 % 3 = 2 by omega) with z | z | z
      · exact ⟨x1 % 12, by rw [z]; rfl, by omega, by omega⟩
      · exact ⟨x2, by rw [z]; rfl, by omega, by omega⟩
      · exact ⟨0, by rw [z]; rfl, by omega, by omega⟩
    refine ⟨L, _, _, .int fi, rfl, rfl, SqL.of h4, ef, ?_⟩
    have k04 := ((k1.trans k2).th0 k3).trans k4
    refine ⟨_, rfl, d, n, ns, _, rfl, D4, fun x5 H5 x50 x51 k5 D5 => ⟨_, _, rfl, rfl, (by show (0 : Int) < 3; decide), ?_⟩⟩
    refine ⟨_, rfl, d, n, ns, _, rfl, D5, fun x6 H6 x60 x61 k6 D6 => ?_⟩
    refine ⟨(by show 2 ≤ sizeLine; decide), fun L2 H7 hL2 k7 h7 => ?_⟩
    refine ⟨_, rfl, d, n, ns, _, rfl, D6.kp0 k7, fun x8 H8 x80 x81 k8 D8 => ⟨_, _, rfl, rfl, (by show (0 : Int) < 2; decide), ?_⟩⟩
    have nLd2 : L2 ≠ d := (ne_of_none D6.hd hL2).symm
    have m5 := MD.md x5 3 (by decide)
    have m8 := MD.md x8 2 (by decide)
    obtain ⟨ki, ek, kk0, kk1⟩ : ∃ ki : Int, atI [V.int (x5 % 3), V.int x6] (x8 % 2) = some (.int ki) ∧ 0 ≤ ki ∧ ki < 1000000 := by
      rcases (show x8 % 2 = 0 ∨ x8 % 2 = 1 by omega) with z | z
      · exact ⟨x5 % 3, by rw [z]; rfl, by omega, by omega⟩
      · exact ⟨x6, by rw [z]; rfl, by omega, by omega⟩
    refine ⟨L2, _, _, .int ki, rfl, rfl, SqL.of (k8.at h7 (nmem_one nLd2)), ek, ?_⟩
    refine ⟨_, rfl, _, rfl, _, _, rfl, rfl, _, rfl, d, n, ns, _, rfl, D8, fun x9 H9 x90 x91 k9 D9 => ⟨_, _, rfl, rfl, (by show (0 : Int) < 15; decide), _, _, rfl, rfl, ?_⟩⟩
    have m9 := MD.md x9 15 (by decide)
    refine ⟨(by show 3 ≤ sizeLine; decide), fun t H10 ht k10 h10 => ?_⟩
    exact q t (ki, fi, fi + 1 + x9 % 15) _ H10 ⟨kk0, by show ki < 1000000000000; omega, f0, by show fi < fi + 1 + x9 % 15; omega, by show fi + 1 + x9 % 15 < 1000000000000; omega⟩ (((((k04.trans k5).trans k6).th0 k7).trans k8).trans k9 |>.th0 k10) (D9.kp0 k10) h10
def spAParty : Sp := fun vs H Q _ => ∃ (d n : Addr) (ns : List Int) (k : Int), vs = [.ref d] ∧ DrawsAt H d n ns k ∧
  ∀ (t : Addr) (xs : List V) (p : List Sy) (k' : Int) (H' : Hp), PaF p → Kp [d] H H' → DrawsAt H' d n ns k' → H' t = some (.tup xs) → RepTs H' (p.map syD) xs → Q (.ref t) H'
theorem code_le {a b : Sy} (ha : StF a) (hb : StF b) (h : TS.code 1000000000000 (syI a) ≤ TS.code 1000000000000 (syI b)) : Sy.le a b := by
  have e : ∀ x y z : Int, TS.code 1000000000000 [x, y, z] = x * 1000000000000000000000000 + (y * 1000000000000 + z) := fun x y z => by
    show x * (1000000000000 : Int) ^ 2 + (y * (1000000000000 : Int) ^ 1 + (z * (1000000000000 : Int) ^ 0 + 0)) = _
    rw [show (1000000000000 : Int) ^ 2 = 1000000000000000000000000 by decide, show (1000000000000 : Int) ^ 1 = 1000000000000 by decide, show (1000000000000 : Int) ^ 0 = 1 by decide]
    omega
  unfold syI at h
  rw [e, e] at h
  have := ha.f0; have := ha.lt; have := ha.e1; have := hb.f0; have := hb.lt; have := hb.e1
  unfold Sy.le
  omega
theorem sorted_sy {H : Hp} {ys : List V} {pt : List Sy} (rp : RepTs H (pt.map syD) ys) (hok : ∀ s ∈ pt, StF s) (hw : ys.Pairwise fun x y => ∀ n m, TupI K H x n → TupI K H y m → TS.code 1000000000000 n ≤ TS.code 1000000000000 m) : pt.Pairwise Sy.le := by
  rw [List.pairwise_iff_getElem]
  intro i j hi hj hij
  have hyl : ys.length = pt.length := rp.lenM
  obtain ⟨s1, e1, q1⟩ := rp.at (show ys[i]? = some (ys[i]'(by omega)) by simp [show i < ys.length by omega])
  obtain ⟨s2, e2, q2⟩ := rp.at (show ys[j]? = some (ys[j]'(by omega)) by simp [show j < ys.length by omega])
  obtain ⟨t1, ey1, ht1⟩ := syD_at q1
  obtain ⟨t2, ey2, ht2⟩ := syD_at q2
  have hw' := (List.pairwise_iff_getElem.mp hw) i j (by omega) (by omega) hij (syI s1) (syI s2) (by rw [ey1]; exact tupI_of ht1) (by rw [ey2]; exact tupI_of ht2)
  have f1 : pt[i] = s1 := by
    have : pt[i]? = some pt[i] := by simp
    rw [this] at e1; exact Option.some.inj e1
  have f2 : pt[j] = s2 := by
    have : pt[j]? = some pt[j] := by simp
    rw [this] at e2; exact Option.some.inj e2
  rw [f1, f2]
  exact code_le (hok s1 (List.mem_of_getElem? e1)) (hok s2 (List.mem_of_getElem? e2)) hw'
theorem c_law_any_party (T : Txt K mg) : Cal P w K mg base 4 "_law_any_party" spAParty := by
  have c_law_draw := c_law_draw (P := P) (w := w) (base := base) T
  have c_law_any_stay := c_law_any_stay (P := P) (w := w) (base := base) T
  refine cal_of T.d_law_any_party sc_law_any_party (fun vs H Q E h => ?_) (fun f cdv A outer s H vs Q E hr h => ?_)
  · obtain ⟨d, n, ns, k, rfl, _⟩ := h; rfl
  · obtain ⟨d, n, ns, k, rfl, DA, q⟩ := h
    have hu := hu_of hr
    refine ⟨_, (pss_one (ps_ret (pe_callTy (ktupleK (K := K)) (by rfl) T.z_tuple (by decide +kernel) (pa_cons (pe_callB (ksortU (K := K) (d := 3) (B := 1000000000000) (by decide)) (by rfl) T.z_sorted (by decide +kernel) (pa_cons (ke_lc rfl sc_law_any_party.nd (pi_range1 (by rfl) T.z_range (pa_cons (pe_op op_add pe_int (pe_op op_mod (pe_c c_law_draw (hr.mono (by first | decide | omega)) rfl (pa_cons (pv 0) pa_nil)) pe_int)) pa_nil)) (blkOk_by (own := [("k", 1)]) (N := ["draws", "k"]) (sc := defScope s_law_any_party) (by decide +kernel)) (fun _ _ _ _ _ => (pg_name (i := 1) sc_law_any_party.nd rfl (Or.inl rfl))) (fun _ _ _ _ _ => pts_nil) (fun _ _ _ _ _ => (pe_c c_law_any_stay (hr.mono (by first | decide | omega)) rfl (pa_cons (pv 0) pa_nil)))) pa_nil)) pa_nil)))), ?_⟩
    refine ⟨_, rfl, d, n, ns, k, rfl, DA, fun x1 H1 x10 x11 k1 D1 => ⟨_, _, rfl, rfl, (by show (0 : Int) < 4; decide), _, _, rfl, rfl, ?_⟩⟩
    have m1 := MD.md x1 4 (by decide)
    refine ⟨_, rfl, (by omega), (by omega), fun l H2 hl k2 hl2 => ?_⟩
    have dl : d ≠ l := ne_of_none D1.hd hl
    have nl : n ≠ l := ne_of_none D1.hn hl
    have lH : H l = none := k1.free hl
    refine kl_range (n := (1 + x1 % 4).toNat) (fun i acc H' => ∃ (ss : List Sy) (k' : Int), RepTs H' (ss.map syD) acc ∧ ss.length = i ∧ (∀ s ∈ ss, StF s) ∧ Kp [d] H H' ∧ DrawsAt H' d n ns k')
      ⟨[], _, RepTs.nil, rfl, (fun _ h => nomatch h), k1.th0 k2, D1.kp0 k2⟩ ?_ ?_
    · rintro i acc H4 hi hacc ⟨ss, k', rs, hsl, hss, k4, D4⟩
      refine turn1 rfl ?_
      refine ⟨_, rfl, d, n, ns, k', rfl, D4, fun t s k'' H5 hs k5 D5 ht5 => ?_⟩
      have hal : acc.length = i := by rw [rs.lenM, hsl]
      refine ⟨k5.at hacc (nmem_one dl.symm), sz (show acc.length ≤ 4 by omega), fun H6 k6 h6 => ?_⟩
      refine ⟨ss ++ [s], k'', ?_, by rw [List.length_append, hsl]; rfl, fun x hx => ?_, (k4.trans k5).put k6 lH, D5.kp k6 (nmem_one dl) (nmem_one nl)⟩
      · rw [List.map_append]
        exact RepTs.snoc (syD_of (k6.tup _ _ ht5)) ((rs.kp k5).kp k6)
      · rcases List.mem_append.mp hx with z | z
        · exact hss x z
        · rw [List.mem_singleton.mp z]; exact hs
    · rintro acc H5 hacc ⟨ss, k', rs, hsl, hss, k5, D5⟩
      have hal : acc.length = ss.length := rs.lenM
      refine ⟨l, acc, rfl, SqL.of hacc, (by omega), fun x hx => ?_, fun ys hp hw => ?_⟩
      · obtain ⟨i, hi, e⟩ := List.getElem_of_mem hx
        obtain ⟨s, hs, r1⟩ := rs.at (show acc[i]? = some x by rw [← e]; simp [hi])
        obtain ⟨t, rfl, ht⟩ := syD_at r1
        have so := hss s (List.mem_of_getElem? hs)
        refine ⟨syI s, tupI_of ht, rfl, fun m hm => ?_⟩
        have := so.k0; have := so.k1; have := so.f0; have := so.lt; have := so.e1
        unfold syI at hm
        simp only [List.mem_cons, List.not_mem_nil, or_false] at hm
        rcases hm with rfl | rfl | rfl <;> omega
      · intro l2 H6 hl2 k6 hl6
        obtain ⟨pt, pp, rp⟩ := RepTs.perm hp rs
        refine ⟨l2, ys, rfl, .inl ⟨SqL.of hl6, fun t H7 ht k7 ht7 => ?_⟩⟩
        have hok : ∀ s ∈ pt, StF s := fun s hs => hss s (pp.mem_iff.mp hs)
        refine q t ys pt _ H7 ⟨by rw [pp.length_eq]; omega, by rw [pp.length_eq]; omega, hok, ?_⟩ ((k5.th0 k6).th0 k7) ((D5.kp0 k6).kp0 k7) ht7 ((rp.kp k6).kp k7)
        exact sorted_sy rp hok hw
def spFig : Sp := fun vs H Q _ => ∃ (d n : Addr) (ns : List Int) (k : Int), vs = [.ref d] ∧ DrawsAt H d n ns k ∧
  ∀ (i k' : Int) (H' : Hp), figS i → Kp [d] H H' → DrawsAt H' d n ns k' → Q (.int i) H'
theorem c_law_figure (T : Txt K mg) : Cal P w K mg base 3 "_law_figure" spFig := by
  have c_law_draw := c_law_draw (P := P) (w := w) (base := base) T
  refine cal_of T.d_law_figure sc_law_figure (fun vs H Q E h => ?_) (fun f cdv A outer s H vs Q E hr h => ?_)
  · obtain ⟨d, n, ns, k, rfl, _⟩ := h; rfl
  · obtain ⟨d, n, ns, k, rfl, DA, q⟩ := h
    have hu := hu_of hr
    refine ⟨_, (pss_one (ps_ret (pe_ix (ixL (K := K)) (ke_lst (pa_cons (pe_op op_mod (pe_c c_law_draw (hr.mono (by first | decide | omega)) rfl (pa_cons (pv 0) pa_nil)) pe_int) (pa_cons (pe_c c_law_draw (hr.mono (by first | decide | omega)) rfl (pa_cons (pv 0) pa_nil)) (pa_cons (pe_op op_sub (pe_op op_pow pe_int pe_int) pe_int) (pa_cons pe_int pa_nil))))) (pe_op op_mod (pe_c c_law_draw (hr.mono (by first | decide | omega)) rfl (pa_cons (pv 0) pa_nil)) pe_int) (fun _ _ => rfl)))), ?_⟩
    refine ⟨_, rfl, d, n, ns, k, rfl, DA, fun x1 H1 x10 x11 k1 D1 => ⟨_, _, rfl, rfl, (by show (0 : Int) < 12; decide), ?_⟩⟩
    refine ⟨_, rfl, d, n, ns, _, rfl, D1, fun x2 H2 x20 x21 k2 D2 => ?_⟩
    refine ⟨_, _, rfl, rfl, (by unfold CPow; decide), _, _, rfl, rfl, ?_⟩
    refine ⟨(by show 4 ≤ sizeLine; decide), fun L H3 hL k3 h3 => ?_⟩
    refine ⟨_, rfl, d, n, ns, _, rfl, D2.kp0 k3, fun x4 H4 x40 x41 k4 D4 => ⟨_, _, rfl, rfl, (by show (0 : Int) < 4; decide), ?_⟩⟩
    have nLd : L ≠ d := (ne_of_none D2.hd hL).symm
    have m4 := MD.md x4 4 (by decide)
    have m1 := MD.md x1 12 (by decide)
    obtain ⟨fi, ef, f0⟩ : ∃ fi : Int, atI [V.int (x1 % 12), V.int x2, V.int (10 ^ 12 - 1), V.int 0] (x4 % 4) = some (.int fi) ∧ figS fi := by
      unfold figS
      rcases (show x4 % 4 = 0 ∨ x4 % 4 = 1 ∨ x4 % 4 = 2 ∨ x4 % 4 = 3 by omega) with z | z | z | z
      · exact ⟨x1 % 12, by rw [z]; rfl, by omega, by omega⟩
      · exact ⟨x2, by rw [z]; rfl, by omega, by omega⟩
      · exact ⟨10 ^ 12 - 1, by rw [z]; rfl, by decide, by decide⟩
      · exact ⟨0, by rw [z]; rfl, by omega, by omega⟩
    refine ⟨L, _, _, .int fi, rfl, rfl, SqL.of (k4.at h3 (nmem_one nLd)), ef, ?_⟩
    exact q fi _ H4 f0 (((k1.trans k2).th0 k3).trans k4) D4
end

end MD
namespace MD
open PySem PySem.Spec PyProof.Rows L2
local macro_rules | `(tactic| walk_at "ne") => `(tactic| first | assumption | (apply Ne.symm; assumption) | exact ne_of_none (by assumption) (by assumption) | exact (ne_of_none (by assumption) (by assumption)).symm)
local macro_rules | `(tactic| walk_at "hp") => `(tactic| first | assumption | exact upd_same | (refine (upd_ne ?_).trans ?_; (focus walk_at "ne"); walk_at "hp"))
local macro_rules | `(tactic| walk_at "nm") => `(tactic| first | exact nmem_nil | exact nmem_one (by walk_at "ne") | exact nmem_cons (by walk_at "ne") (by walk_at "nm"))
section
variable {P : Program} {w : World} {K : PySem.W.Frag} {mg : Str → Option Value} {base : Heap}
open TL
/-! ### rows of books and histories -/
inductive Tx where
  | sold (n : Int) (p : List Sy) (a b : Int)
  | canc (n a b : Int)
  | chan (n : Int) (p : List Sy) (a b c e : Int)
  | told (s n : Int) (g : Bool)
  | asked (s n : Int) (d : De)
def txD : Tx → D
  | .sold n p a b => .sq false [dS "sold", dI n, ptD p, dI a, dI b]
  | .canc n a b => .sq false [dS "cancelled", dI n, dI a, dI b]
  | .chan n p a b c e => .sq false [dS "changed", dI n, ptD p, dI a, dI b, dI c, dI e]
  | .told s n g => .sq false [dS "told", dI s, dI n, .v (.bl g)]
  | .asked s n d => .sq false [dS "asked", dI s, dI n, deD d]
def Tx.bk : Tx → Bool
  | .sold .. => true
  | .canc .. => true
  | .chan .. => true
  | _ => false
def DeF : De → Prop
  | .wish p => PaF p
  | .cancel n => figS n
  | .change n p => figS n ∧ PaF p
def TxF : Tx → Prop
  | .sold n p a b => figS n ∧ PaF p ∧ figS a ∧ figS b
  | .canc n a b => figS n ∧ figS a ∧ figS b
  | .chan n p a b c e => figS n ∧ PaF p ∧ figS a ∧ figS b ∧ figS c ∧ figS e
  | .told s n _ => figS s ∧ figS n
  | .asked s n d => figS s ∧ figS n ∧ DeF d
def kindS (b : Bool) : Str := if b = true then "book" else "history"
def spARow : Sp := fun vs H Q _ => ∃ (d n : Addr) (ns : List Int) (k : Int) (b : Bool), vs = [.ref d, .str (kindS b)] ∧ DrawsAt H d n ns k ∧
  ∀ (v : V) (x : Tx) (k' : Int) (H' : Hp), TxF x → x.bk = b → Kp [d] H H' → DrawsAt H' d n ns k' → RepT H' (txD x) v → Q v H'
theorem c_law_any_row (T : Txt K mg) : Cal P w K mg base 5 "_law_any_row" spARow := by
  have c_law_draw := c_law_draw (P := P) (w := w) (base := base) T
  have c_law_any_party := c_law_any_party (P := P) (w := w) (base := base) T
  have c_law_figure := c_law_figure (P := P) (w := w) (base := base) T
  refine cal_of T.d_law_any_row sc_law_any_row (fun vs H Q E h => ?_) (fun f cdv A outer s H vs Q E hr h => ?_)
  · obtain ⟨d, n, ns, k, b, rfl, _⟩ := h; rfl
  · obtain ⟨d, n, ns, k, b, rfl, DA, q⟩ := h
    have hu := hu_of hr
    refine ⟨_, (pss_cons (ps_set (i := 2) sc_law_any_row.nd rfl (Or.inl rfl) (pe_op op_mod (pe_c c_law_draw (hr.mono (by first | decide | omega)) rfl (pa_cons (pv 0) pa_nil)) pe_int))
  (pss_cons (ps_set (i := 3) sc_law_any_row.nd rfl (Or.inl rfl) (pe_c c_law_any_party (hr.mono (by first | decide | omega)) rfl (pa_cons (pv 0) pa_nil)))
  (pss_cons (ps_set (i := 4) sc_law_any_row.nd rfl (Or.inl rfl) (pe_c c_law_figure (hr.mono (by first | decide | omega)) rfl (pa_cons (pv 0) pa_nil)))
  (pss_cons (ps_if (pt_cmpR op_eq (pv 1) pe_str (nomark _))
  (pss_cons (ps_set (i := 5) sc_law_any_row.nd rfl (Or.inl rfl) (ke_tup (pa_cons (pe_c c_law_figure (hr.mono (by first | decide | omega)) rfl (pa_cons (pv 0) pa_nil)) (pa_cons (pe_c c_law_figure (hr.mono (by first | decide | omega)) rfl (pa_cons (pv 0) pa_nil)) pa_nil))))
  (pss_cons (ps_if (pt_cmpR op_lt (pv 2) pe_int (nomark _))
  (pss_one (ps_ret (pe_op (kcatT (K := K)) (ke_tup (pa_cons pe_str (pa_cons (pv 4) (pa_cons (pv 3) pa_nil)))) (pv 5))))
  pss_nil)
  (pss_cons (ps_if (pt_cmpR op_eq (pv 2) pe_int (nomark _))
  (pss_one (ps_ret (pe_op (kcatT (K := K)) (ke_tup (pa_cons pe_str (pa_cons (pv 4) pa_nil))) (pv 5))))
  pss_nil)
  (pss_one (ps_ret (pe_op (kcatT (K := K)) (pe_op (kcatT (K := K)) (ke_tup (pa_cons pe_str (pa_cons (pv 4) (pa_cons (pv 3) pa_nil)))) (pv 5)) (ke_tup (pa_cons (pe_c c_law_figure (hr.mono (by first | decide | omega)) rfl (pa_cons (pv 0) pa_nil)) (pa_cons (pe_c c_law_figure (hr.mono (by first | decide | omega)) rfl (pa_cons (pv 0) pa_nil)) pa_nil)))))))))
  pss_nil)
  (pss_cons (ps_if (pt_cmpR op_eq (pv 2) pe_int (nomark _))
  (pss_one (ps_ret (ke_tup (pa_cons pe_str (pa_cons (pe_ix (ixL (K := K)) (ke_lst (pa_cons (pe_op op_mod (pe_c c_law_draw (hr.mono (by first | decide | omega)) rfl (pa_cons (pv 0) pa_nil)) pe_int) (pa_cons (pe_c c_law_draw (hr.mono (by first | decide | omega)) rfl (pa_cons (pv 0) pa_nil)) pa_nil))) (pe_op op_mod (pe_c c_law_draw (hr.mono (by first | decide | omega)) rfl (pa_cons (pv 0) pa_nil)) pe_int) (fun _ _ => rfl)) (pa_cons (pv 4) (pa_cons (pe_cmpR op_eq (pe_op op_mod (pe_c c_law_draw (hr.mono (by first | decide | omega)) rfl (pa_cons (pv 0) pa_nil)) pe_int) pe_int (nomark _)) pa_nil)))))))
  pss_nil)
  (pss_cons (ps_set (i := 6) sc_law_any_row.nd rfl (Or.inl rfl) (pe_ix (ixL (K := K)) (ke_lst (pa_cons (ke_tup (pa_cons pe_str (pa_cons (pv 3) pa_nil))) (pa_cons (ke_tup (pa_cons pe_str (pa_cons (pe_c c_law_figure (hr.mono (by first | decide | omega)) rfl (pa_cons (pv 0) pa_nil)) pa_nil))) (pa_cons (ke_tup (pa_cons pe_str (pa_cons (pe_c c_law_figure (hr.mono (by first | decide | omega)) rfl (pa_cons (pv 0) pa_nil)) (pa_cons (pv 3) pa_nil)))) pa_nil)))) (pe_op op_sub (pv 2) pe_int) (fun _ _ => rfl)))
  (pss_one (ps_ret (ke_tup (pa_cons pe_str (pa_cons (pe_ix (ixL (K := K)) (ke_lst (pa_cons (pe_op op_mod (pe_c c_law_draw (hr.mono (by first | decide | omega)) rfl (pa_cons (pv 0) pa_nil)) pe_int) (pa_cons (pe_c c_law_draw (hr.mono (by first | decide | omega)) rfl (pa_cons (pv 0) pa_nil)) pa_nil))) (pe_op op_mod (pe_c c_law_draw (hr.mono (by first | decide | omega)) rfl (pa_cons (pv 0) pa_nil)) pe_int) (fun _ _ => rfl)) (pa_cons (pv 4) (pa_cons (pv 6) pa_nil))))))))))))), ?_⟩
    refine ⟨_, rfl, d, n, ns, k, rfl, DA, fun x1 H1 x10 x11 k1 D1 => ⟨_, _, rfl, rfl, (by show (0 : Int) < 4; decide), ?_⟩⟩
    have m1 := MD.md x1 4 (by decide)
    refine ⟨_, rfl, d, n, ns, _, rfl, D1, fun pt pxs pp k2' H2 pf k2 D2 hpt rp => ?_⟩
    refine ⟨_, rfl, d, n, ns, _, rfl, D2, fun num k3' H3 nf k3 D3 => ?_⟩
    have k03 := (k1.trans k2).trans k3
    have hpt3 := k3.tup _ _ hpt
    have rp3 := rp.kp k3
    refine ⟨_, rfl, rfl, _, rfl, ?_⟩
    cases b with
    | true =>
      refine iteTe (by decide +kernel) ?_
      refine ⟨_, rfl, d, n, ns, _, rfl, D3, fun a k4' H4 af k4 D4 => ?_⟩
      refine ⟨_, rfl, d, n, ns, _, rfl, D4, fun b k5' H5 bf k5 D5 => ?_⟩
      refine ⟨(by show 2 ≤ sizeLine; decide), fun mt H6 hmt k6 h6 => ?_⟩
      have k06 := ((k03.trans k4).trans k5).th0 k6
      have D6 := D5.kp0 k6
      have k36 := (k4.trans k5).th0 k6
      have hpt6 := k36.tup _ _ hpt3
      have rp6 := rp3.kp k36
      have pr : ∀ {Hx : Hp} {M : List Addr}, Kp M H6 Hx → RepT Hx (ptD pp) (.ref pt) := fun k => RepT.tup (k.tup _ _ hpt6) (rp6.kp k)
      refine ⟨_, rfl, _, _, rfl, rfl, _, rfl, ?_⟩
      refine ite2 (fun _ => ?_) (fun _ => ?_)
      · refine ⟨_, rfl, _, rfl, (by show 3 ≤ sizeLine; decide), fun t1 H7 ht1 k7 h7 => ?_⟩
        refine ⟨_, rfl, t1, mt, _, _, rfl, rfl, SqT.of h7, SqT.of (k7.tup _ _ h6), (fun z => by cases z), (by show 5 ≤ sizeLine; decide), (fun z => by cases z), fun _ => fun t2 H8 ht2 k8 h8 => ?_⟩
        exact q _ (.sold num pp a b) _ H8 ⟨nf, pf, af, bf⟩ rfl (k06.th0 (k7.trans k8)) (D6.kp0 (k7.trans k8)) (RepT.tup h8 (RepTs.cons RepT.str (RepTs.cons RepT.int (RepTs.cons (pr (k7.trans k8)) (RepTs.cons RepT.int (RepTs.cons RepT.int RepTs.nil))))))
      · refine ⟨_, rfl, rfl, _, rfl, ?_⟩
        refine ite2 (fun _ => ?_) (fun _ => ?_)
        · refine ⟨_, rfl, (by show 2 ≤ sizeLine; decide), fun t1 H7 ht1 k7 h7 => ?_⟩
          refine ⟨_, rfl, t1, mt, _, _, rfl, rfl, SqT.of h7, SqT.of (k7.tup _ _ h6), (fun z => by cases z), (by show 4 ≤ sizeLine; decide), (fun z => by cases z), fun _ => fun t2 H8 ht2 k8 h8 => ?_⟩
          exact q _ (.canc num a b) _ H8 ⟨nf, af, bf⟩ rfl (k06.th0 (k7.trans k8)) (D6.kp0 (k7.trans k8)) (RepT.tup h8 (RepTs.cons RepT.str (RepTs.cons RepT.int (RepTs.cons RepT.int (RepTs.cons RepT.int RepTs.nil)))))
        · refine ⟨_, rfl, _, rfl, (by show 3 ≤ sizeLine; decide), fun t1 H7 ht1 k7 h7 => ?_⟩
          refine ⟨_, rfl, t1, mt, _, _, rfl, rfl, SqT.of h7, SqT.of (k7.tup _ _ h6), (fun z => by cases z), (by show 5 ≤ sizeLine; decide), (fun z => by cases z), fun _ => fun t2 H8 ht2 k8 h8 => ?_⟩
          have k78 := k7.trans k8
          refine ⟨_, rfl, d, n, ns, _, rfl, D6.kp0 k78, fun c k9' H9 cf k9 D9 => ?_⟩
          refine ⟨_, rfl, d, n, ns, _, rfl, D9, fun e k10' H10 ef k10 D10 => ?_⟩
          refine ⟨(by show 2 ≤ sizeLine; decide), fun t3 H11 ht3 k11 h11 => ?_⟩
          have k811 := (k9.trans k10).th0 k11
          refine ⟨t2, t3, _, _, rfl, rfl, SqT.of (k811.tup _ _ h8), SqT.of h11, (fun z => by cases z), (by show 7 ≤ sizeLine; decide), (fun z => by cases z), fun _ => fun t4 H12 ht4 k12 h12 => ?_⟩
          have k812 := k811.th0 k12
          exact q _ (.chan num pp a b c e) _ H12 ⟨nf, pf, af, bf, cf, ef⟩ rfl ((k06.th0 k78).trans k812) (D10.kp0 (k11.trans k12)) (RepT.tup h12 (RepTs.cons RepT.str (RepTs.cons RepT.int (RepTs.cons ((pr k78).kp k812) (RepTs.cons RepT.int (RepTs.cons RepT.int (RepTs.cons RepT.int (RepTs.cons RepT.int RepTs.nil))))))))
    | false =>
      refine iteFe (by decide +kernel) ?_
      have pr : ∀ {Hx : Hp} {M : List Addr}, Kp M H3 Hx → RepT Hx (ptD pp) (.ref pt) := fun k => RepT.tup (k.tup _ _ hpt3) (rp3.kp k)
      have who : ∀ (y1 y2 y3 : Int), 0 ≤ y2 → y2 < 1000000 → ∃ z : Int, atI [V.int (y1 % 4), V.int y2] (y3 % 2) = some (.int z) ∧ figS z := fun y1 y2 y3 h0 h1 => by
        have m1 := MD.md y1 4 (by decide)
        have m3 := MD.md y3 2 (by decide)
        unfold figS
        rcases (show y3 % 2 = 0 ∨ y3 % 2 = 1 by omega) with z | z
        · exact ⟨y1 % 4, by rw [z]; rfl, by omega, by omega⟩
        · exact ⟨y2, by rw [z]; rfl, by omega, by omega⟩
      refine ⟨_, rfl, rfl, _, rfl, ?_⟩
      refine ite2 (fun _ => ?_) (fun hn0 => ?_)
      · refine ⟨_, rfl, d, n, ns, _, rfl, D3, fun y1 H4 y10 y11 k4 D4 => ⟨_, _, rfl, rfl, (by show (0 : Int) < 4; decide), ?_⟩⟩
        refine ⟨_, rfl, d, n, ns, _, rfl, D4, fun y2 H5 y20 y21 k5 D5 => ⟨(by show 2 ≤ sizeLine; decide), fun L H6 hL k6 h6 => ?_⟩⟩
        refine ⟨_, rfl, d, n, ns, _, rfl, D5.kp0 k6, fun y3 H7 y30 y31 k7 D7 => ⟨_, _, rfl, rfl, (by show (0 : Int) < 2; decide), ?_⟩⟩
        have nLd : L ≠ d := (ne_of_none D5.hd hL).symm
        obtain ⟨z, ez, zf⟩ := who y1 y2 y3 y20 y21
        refine ⟨L, _, _, .int z, rfl, rfl, SqL.of (k7.at h6 (nmem_one nLd)), ez, ?_⟩
        refine ⟨_, rfl, _, rfl, d, n, ns, _, rfl, D7, fun y4 H8 y40 y41 k8 D8 => ⟨_, _, rfl, rfl, (by show (0 : Int) < 2; decide), rfl, ?_⟩⟩
        refine ⟨(by show 4 ≤ sizeLine; decide), fun t H9 ht k9 h9 => ?_⟩
        exact q _ (.told z num _) _ H9 ⟨zf, nf⟩ rfl ((((((k03.trans k4).trans k5).th0 k6).trans k7).trans k8).th0 k9) (D8.kp0 k9) (RepT.tup h9 (RepTs.cons RepT.str (RepTs.cons RepT.int (RepTs.cons RepT.int (RepTs.cons RepT.bl RepTs.nil)))))
      · refine ⟨_, rfl, (by show 2 ≤ sizeLine; decide), fun t1 H4 ht1 k4 h4 => ?_⟩
        refine ⟨_, rfl, d, n, ns, _, rfl, D3.kp0 k4, fun c k5' H5 cf k5 D5 => ⟨(by show 2 ≤ sizeLine; decide), fun t2 H6 ht2 k6 h6 => ?_⟩⟩
        refine ⟨_, rfl, d, n, ns, _, rfl, D5.kp0 k6, fun e k7' H7 ef k7 D7 => ?_⟩
        refine ⟨_, rfl, (by show 3 ≤ sizeLine; decide), fun t3 H8 ht3 k8 h8 => ⟨(by show 3 ≤ sizeLine; decide), fun L H9 hL k9 h9 => ?_⟩⟩
        refine ⟨_, rfl, _, _, rfl, rfl, ?_⟩
        have k38 : Kp [d] H3 H9 := ((((k4.nil : Kp [d] H3 H4).trans k5).th0 k6).trans k7).th0 (k8.trans k9)
        have k49 : Kp [d] H4 H9 := ((k5.th0 k6).trans k7).th0 (k8.trans k9)
        have k69 : Kp [d] H6 H9 := k7.th0 (k8.trans k9)
        have w1 : RepT H9 (deD (.wish pp)) (.ref t1) := RepT.tup (k49.tup _ _ h4) (RepTs.cons RepT.str (RepTs.cons (pr k38) RepTs.nil))
        have w2 : RepT H9 (deD (.cancel c)) (.ref t2) := RepT.tup (k69.tup _ _ h6) (RepTs.cons RepT.str (RepTs.cons RepT.int RepTs.nil))
        have w3 : RepT H9 (deD (.change e pp)) (.ref t3) := RepT.tup (k9.tup _ _ h8) (RepTs.cons RepT.str (RepTs.cons RepT.int (RepTs.cons (pr k38) RepTs.nil)))
        have n0 : x1 % 4 ≠ 0 := fun z => hn0 (decide_eq_true (by show V.int (x1 % 4) = V.int 0; rw [z]))
        obtain ⟨v, de, ev, rv, df⟩ : ∃ (v : V) (de : De), atI [V.ref t1, V.ref t2, V.ref t3] (x1 % 4 - 1) = some v ∧ RepT H9 (deD de) v ∧ DeF de := by
          rcases (show x1 % 4 = 1 ∨ x1 % 4 = 2 ∨ x1 % 4 = 3 by omega) with z | z | z
          · exact ⟨_, .wish pp, by rw [z]; rfl, w1, pf⟩
          · exact ⟨_, .cancel c, by rw [z]; rfl, w2, cf⟩
          · exact ⟨_, .change e pp, by rw [z]; rfl, w3, ef, pf⟩
        refine ⟨L, _, _, v, rfl, rfl, SqL.of h9, ev, ?_⟩
        have D9 := D7.kp0 (k8.trans k9)
        refine ⟨_, rfl, d, n, ns, _, rfl, D9, fun y1 H10 y10 y11 k10 D10 => ⟨_, _, rfl, rfl, (by show (0 : Int) < 4; decide), ?_⟩⟩
        refine ⟨_, rfl, d, n, ns, _, rfl, D10, fun y2 H11 y20 y21 k11 D11 => ⟨(by show 2 ≤ sizeLine; decide), fun L2 H12 hL2 k12 h12 => ?_⟩⟩
        refine ⟨_, rfl, d, n, ns, _, rfl, D11.kp0 k12, fun y3 H13 y30 y31 k13 D13 => ⟨_, _, rfl, rfl, (by show (0 : Int) < 2; decide), ?_⟩⟩
        have nLd : L2 ≠ d := (ne_of_none D11.hd hL2).symm
        obtain ⟨z, ez, zf⟩ := who y1 y2 y3 y20 y21
        refine ⟨L2, _, _, .int z, rfl, rfl, SqL.of (k13.at h12 (nmem_one nLd)), ez, ?_⟩
        refine ⟨_, rfl, _, rfl, (by show 4 ≤ sizeLine; decide), fun t H14 ht k14 h14 => ?_⟩
        have k914 := (((k10.trans k11).th0 k12).trans k13).th0 k14
        exact q _ (.asked z num de) _ H14 ⟨zf, nf, df⟩ rfl ((k03.trans k38).trans k914) (D13.kp0 k14) (RepT.tup h14 (RepTs.cons RepT.str (RepTs.cons RepT.int (RepTs.cons RepT.int (RepTs.cons (rv.kp k914) RepTs.nil)))))
end

end MD
namespace MD
open PySem PySem.Spec PyProof.Rows L2
local macro_rules | `(tactic| walk_at "ne") => `(tactic| first | assumption | (apply Ne.symm; assumption) | exact ne_of_none (by assumption) (by assumption) | exact (ne_of_none (by assumption) (by assumption)).symm)
local macro_rules | `(tactic| walk_at "hp") => `(tactic| first | assumption | exact upd_same | (refine (upd_ne ?_).trans ?_; (focus walk_at "ne"); walk_at "hp"))
local macro_rules | `(tactic| walk_at "nm") => `(tactic| first | exact nmem_nil | exact nmem_one (by walk_at "ne") | exact nmem_cons (by walk_at "ne") (by walk_at "nm"))
section
variable {P : Program} {w : World} {K : PySem.W.Frag} {mg : Str → Option Value} {base : Heap}
open TL
/-! ### what is written -/
theorem take_sn {α : Type} {l : List α} {i : Nat} {e : α} (h : l[i]? = some e) : l.take (i + 1) = l.take i ++ [e] := by rw [List.take_add_one, h]; rfl
theorem fig_log {i : Int} (h : figS i) : i.natAbs.log2 < 1920 := by
  by_cases z : i.natAbs = 0
  · rw [z]; decide
  · have : i.natAbs < 2 ^ 40 := by
      have h1 := h.1; have h2 := h.2
      omega
    have := (Nat.log2_lt z).mpr this
    omega
theorem len_app (a b : Str) : (a ++ b).length = a.length + b.length := by rw [len_tl, len_tl, len_tl, tl_append, List.length_append]
theorem empty_app (a : Str) : Str.empty ++ a = a := ext_tl (by rw [tl_append]; rfl)
theorem app_assoc (a b c : Str) : a ++ b ++ c = a ++ (b ++ c) := ext_tl (by simp only [tl_append, List.append_assoc])
theorem stS_eq (s : Sy) : numS s.1 ++ ":" ++ numS s.2.1 ++ "-" ++ numS s.2.2 = stS s := by unfold stS; simp only [app_assoc]
theorem stS_len {s : Sy} (h : StF s) : (stS s).length ≤ 40 := by
  unfold stS
  have h1 := numS_len h.k; have h2 := numS_len h.f; have h3 := numS_len h.e
  have c1 : (":" : Str).length = 1 := by decide +kernel
  have c2 : ("-" : Str).length = 1 := by decide +kernel
  simp only [len_app, c1, c2]
  omega
theorem sum_len {l : List Str} {m : Nat} (h : ∀ y ∈ l, y.length ≤ m) : (l.map (·.length)).sum ≤ l.length * m := by
  induction l with
  | nil => exact Nat.zero_le _
  | cons a l ih =>
    have h1 := h a List.mem_cons_self
    have h2 := ih fun y hy => h y (List.mem_cons_of_mem _ hy)
    rw [List.map_cons, List.sum_cons, List.length_cons, Nat.add_mul]
    omega
theorem join_len {l : List Str} {sep : Str} {m : Nat} (h : ∀ y ∈ l, y.length ≤ m) : (Txt.join sep l).length ≤ l.length * (m + sep.length) := by
  rw [join_eq]
  induction l with
  | nil => show 0 ≤ _; exact Nat.zero_le _
  | cons a l ih =>
    have h1 := h a List.mem_cons_self
    have h2 := ih fun y hy => h y (List.mem_cons_of_mem _ hy)
    cases l with
    | nil =>
      show a.length ≤ 1 * (m + sep.length)
      omega
    | cons b r =>
      show (a ++ sep ++ Str.join sep (b :: r)).length ≤ _
      rw [len_app, len_app, List.length_cons (a := a), Nat.add_mul]
      omega
theorem ptS_len {p : List Sy} (h : PaF p) : (ptS p).length ≤ 164 := by
  unfold ptS
  have := join_len (l := p.map stS) (sep := "+") (m := 40) fun y hy => by
    obtain ⟨s, hs, rfl⟩ := List.mem_map.mp hy
    exact stS_len (h.ok s hs)
  have c1 : ("+" : Str).length = 1 := by decide +kernel
  rw [c1, List.length_map] at this
  have := h.l4
  omega
def spFmtP (K : PySem.W.Frag) : Sp := fun vs H Q _ => ∃ (t : Addr) (xs : List V) (p : List Sy), vs = [.ref t] ∧ H t = some (.tup xs) ∧ RepTs H (p.map syD) xs ∧ PaF p ∧ ∀ H' : Hp, Kp [] H H' → Q (.str (ptS p)) H'
theorem c_law_party_text (T : Txt K mg) : Cal P w K mg base 1 "_law_party_text" (spFmtP K) := by
  refine cal_of T.d_law_party_text sc_law_party_text (fun vs H Q E h => ?_) (fun f cdv A outer s H vs Q E hr h => ?_)
  · obtain ⟨t, xs, p, rfl, _⟩ := h; rfl
  · obtain ⟨t, xs, p, rfl, ht, rp, pf, q⟩ := h
    have hu := hu_of hr
    refine ⟨_, (pss_one (ps_ret (ke_join (K := K) pe_str (ke_lc rfl sc_law_party_text.nd (pitK (K := K) (pv 0)) (blkOk_by (own := [("kind", 1), ("first", 2), ("end", 3)]) (N := ["party", "kind", "first", "end"]) (sc := defScope s_law_party_text) (by decide +kernel)) (fun _ _ _ _ _ => (pgtK (K := K) (n := 3) rfl (pgs_cons (pg_name (i := 1) sc_law_party_text.nd rfl (Or.inl rfl)) (pgs_cons (pg_name (i := 2) sc_law_party_text.nd rfl (Or.inl rfl)) (pgs_cons (pg_name (i := 3) sc_law_party_text.nd rfl (Or.inl rfl)) pgs_nil))))) (fun _ _ _ _ _ => pts_nil) (fun _ _ _ _ _ => (pe_op op_add_str (pe_op op_add_str (pe_op op_add_str (pe_op op_add_str (pe_callTy call_str_int (by rfl) T.z_str (by decide +kernel) (pa_cons (pv 1) pa_nil)) pe_str) (pe_callTy call_str_int (by rfl) T.z_str (by decide +kernel) (pa_cons (pv 2) pa_nil))) pe_str) (pe_callTy call_str_int (by rfl) T.z_str (by decide +kernel) (pa_cons (pv 3) pa_nil)))))))), ?_⟩
    refine ⟨⟨_, rfl⟩, _, rfl, t, rfl, ⟨xs, SqT.of ht⟩, fun D H1 hD k1 hD1 => ?_⟩
    refine kl_tup (xs := xs) (fun i acc H' => Kp [] H H' ∧ acc = ((p.take i).map stS).map V.str) ⟨k1, rfl⟩ (fun i acc H' z => SqT.of (z.1.tup _ _ ht)) ?_ ?_
    · rintro i v acc H2 hv hDa ⟨k2, rfl⟩
      obtain ⟨s, hs, rs⟩ := rp.at hv
      obtain ⟨q1, rfl, hq⟩ := syD_at rs
      have sf := pf.ok s (List.mem_of_getElem? hs)
      have il : i < p.length := (List.getElem?_eq_some_iff.mp hs).1
      have l4 := pf.l4
      have n1 := numS_len sf.k; have n2 := numS_len sf.f; have n3 := numS_len sf.e
      have c1 : (":" : Str).length = 1 := by decide +kernel
      have c2 : ("-" : Str).length = 1 := by decide +kernel
      have c0 : Str.empty.length = 0 := rfl
      have big : 1000 ≤ sizeLine := by decide
      have al : (((p.take i).map stS).map V.str).length ≤ 4 := by rw [List.length_map, List.length_map, List.length_take]; omega
      refine ⟨q1, _, rfl, SqT.of (k2.tup _ _ hq), rfl, _, _, rfl, _, _, rfl, _, _, rfl, rfl, rfl, yesT ?_⟩
      refine ⟨_, rfl, s.1, rfl, fig_log sf.k, _, _, rfl, rfl, ?_, _, rfl, s.2.1, rfl, fig_log sf.f, _, _, rfl, rfl, ?_, _, _, rfl, rfl, ?_, _, rfl, s.2.2, rfl, fig_log sf.e, _, _, rfl, rfl, ?_, hDa, sz (m := 4) al, fun H3 k3 h3 => ⟨k2.put k3 hD, ?_⟩⟩
      · show (numS s.1).length + (":" : Str).length ≤ sizeLine; omega
      · show (numS s.1 ++ (":" : Str)).length + (numS s.2.1).length ≤ sizeLine; rw [len_app]; omega
      · show (numS s.1 ++ (":" : Str) ++ numS s.2.1).length + ("-" : Str).length ≤ sizeLine; rw [len_app, len_app]; omega
      · show (numS s.1 ++ (":" : Str) ++ numS s.2.1 ++ ("-" : Str)).length + (numS s.2.2).length ≤ sizeLine; rw [len_app, len_app, len_app]; omega
      · rw [take_sn hs, List.map_append, List.map_append]
        exact congrArg (_ ++ ·) (congrArg (fun z => [V.str z]) (stS_eq s))
    · rintro acc H2 hDa ⟨k2, rfl⟩
      rw [rp.lenM, List.take_length] at hDa
      refine ⟨_, D, p.map stS, rfl, rfl, .inl (SqL.of hDa), ?_, q H2 k2⟩
      have c1 : ("+" : Str).length = 1 := by decide +kernel
      have := sum_len (l := p.map stS) (m := 40) fun y hy => by
        obtain ⟨s, hs, rfl⟩ := List.mem_map.mp hy
        exact stS_len (pf.ok s hs)
      have l4 := pf.l4
      rw [List.length_map] at this
      rw [c1, List.length_map]
      omega
end

end MD
namespace MD
open PySem PySem.Spec PyProof.Rows L2
local macro_rules | `(tactic| walk_at "ne") => `(tactic| first | assumption | (apply Ne.symm; assumption) | exact ne_of_none (by assumption) (by assumption) | exact (ne_of_none (by assumption) (by assumption)).symm)
local macro_rules | `(tactic| walk_at "hp") => `(tactic| first | assumption | exact upd_same | (refine (upd_ne ?_).trans ?_; (focus walk_at "ne"); walk_at "hp"))
local macro_rules | `(tactic| walk_at "nm") => `(tactic| first | exact nmem_nil | exact nmem_one (by walk_at "ne") | exact nmem_cons (by walk_at "ne") (by walk_at "nm"))
section
variable {P : Program} {w : World} {K : PySem.W.Frag} {mg : Str → Option Value} {base : Heap}
open TL
/-! ### words -/
inductive It where
  | s (x : Str)
  | n (i : Int)
  | p (l : List Sy)
  | b (g : Bool)
  | d (e : De)
def ynS (g : Bool) : Str := if g = true then "yes" else "no"
def deI : De → List It
  | .wish p => [.s "wish", .p p]
  | .cancel n => [.s "cancel", .n n]
  | .change n p => [.s "change", .n n, .p p]
def itD : It → D
  | .s x => dS x
  | .n i => dI i
  | .p l => ptD l
  | .b g => .v (.bl g)
  | .d e => deD e
def itW0 : It → List Str
  | .s x => [x]
  | .n i => [numS i]
  | .p l => [ptS l]
  | .b g => [ynS g]
  | .d _ => []
def deW (e : De) : List Str := (deI e).flatMap itW0
def itW : It → List Str
  | .d e => deW e
  | i => itW0 i
def txI : Tx → List It
  | .sold n p a b => [.s "sold", .n n, .p p, .n a, .n b]
  | .canc n a b => [.s "cancelled", .n n, .n a, .n b]
  | .chan n p a b c e => [.s "changed", .n n, .p p, .n a, .n b, .n c, .n e]
  | .told s n g => [.s "told", .n s, .n n, .b g]
  | .asked s n d => [.s "asked", .n s, .n n, .d d]
def txW (x : Tx) : List Str := (txI x).flatMap itW
def ItF : It → Prop
  | .s x => x.length ≤ 20
  | .n i => figS i
  | .p l => PaF l
  | .b _ => True
  | .d e => DeF e
theorem deD_eq (e : De) : deD e = .sq false ((deI e).map itD) := by cases e <;> rfl
theorem txD_eq (x : Tx) : txD x = .sq false ((txI x).map itD) := by cases x <;> rfl
theorem deI_ok {e : De} (h : DeF e) : ∀ i ∈ deI e, ItF i ∧ ∀ c, i ≠ .d c := by
  cases e with
  | wish p =>
    intro i hi
    simp only [deI, List.mem_cons, List.not_mem_nil, or_false] at hi
    rcases hi with rfl | rfl
    · exact ⟨(by show ("wish" : Str).length ≤ 20; decide +kernel), (fun c z => by cases z)⟩
    · exact ⟨h, (fun c z => by cases z)⟩
  | cancel n =>
    intro i hi
    simp only [deI, List.mem_cons, List.not_mem_nil, or_false] at hi
    rcases hi with rfl | rfl
    · exact ⟨(by show ("cancel" : Str).length ≤ 20; decide +kernel), (fun c z => by cases z)⟩
    · exact ⟨h, (fun c z => by cases z)⟩
  | change n p =>
    intro i hi
    simp only [deI, List.mem_cons, List.not_mem_nil, or_false] at hi
    rcases hi with rfl | rfl | rfl
    · exact ⟨(by show ("change" : Str).length ≤ 20; decide +kernel), (fun c z => by cases z)⟩
    · exact ⟨h.1, (fun c z => by cases z)⟩
    · exact ⟨h.2, (fun c z => by cases z)⟩
theorem txI_ok {x : Tx} (h : TxF x) : ∀ i ∈ txI x, ItF i := by
  cases x with
  | sold n p a b =>
    intro i hi
    simp only [txI, List.mem_cons, List.not_mem_nil, or_false] at hi
    rcases hi with rfl | rfl | rfl | rfl | rfl
    · show ("sold" : Str).length ≤ 20; decide +kernel
    · exact h.1
    · exact h.2.1
    · exact h.2.2.1
    · exact h.2.2.2
  | canc n a b =>
    intro i hi
    simp only [txI, List.mem_cons, List.not_mem_nil, or_false] at hi
    rcases hi with rfl | rfl | rfl | rfl
    · show ("cancelled" : Str).length ≤ 20; decide +kernel
    · exact h.1
    · exact h.2.1
    · exact h.2.2
  | chan n p a b c e =>
    intro i hi
    simp only [txI, List.mem_cons, List.not_mem_nil, or_false] at hi
    rcases hi with rfl | rfl | rfl | rfl | rfl | rfl | rfl
    · show ("changed" : Str).length ≤ 20; decide +kernel
    · exact h.1
    · exact h.2.1
    · exact h.2.2.1
    · exact h.2.2.2.1
    · exact h.2.2.2.2.1
    · exact h.2.2.2.2.2
  | told s n g =>
    intro i hi
    simp only [txI, List.mem_cons, List.not_mem_nil, or_false] at hi
    rcases hi with rfl | rfl | rfl | rfl
    · show ("told" : Str).length ≤ 20; decide +kernel
    · exact h.1
    · exact h.2
    · trivial
  | asked s n d =>
    intro i hi
    simp only [txI, List.mem_cons, List.not_mem_nil, or_false] at hi
    rcases hi with rfl | rfl | rfl | rfl
    · show ("asked" : Str).length ≤ 20; decide +kernel
    · exact h.1
    · exact h.2.1
    · exact h.2.2
theorem it_len {i : It} (h : ItF i) : ∀ y ∈ itW0 i, y.length ≤ 164 := by
  cases i with
  | s x => intro y hy; rw [List.mem_singleton.mp hy]; exact Nat.le_trans h (by decide)
  | n k => intro y hy; rw [List.mem_singleton.mp hy]; exact Nat.le_trans (numS_len h) (by decide)
  | p l => intro y hy; rw [List.mem_singleton.mp hy]; exact ptS_len h
  | b g => intro y hy; rw [List.mem_singleton.mp hy]; cases g <;> decide +kernel
  | d e => intro y hy; cases hy
theorem SqB_tup {K : PySem.W.Frag} {H : Hp} {a : Addr} {xs : List V} (h : H a = some (.tup xs)) : SqB K H false a xs := by unfold SqB; rw [if_neg Bool.false_ne_true]; exact SqT.of h
/-- only texts, numbers and parties -/
def plI : It → Prop
  | .s _ => True
  | .n _ => True
  | .p _ => True
  | _ => False
def spItems (K : PySem.W.Frag) : Sp := fun vs H Q _ => ∃ (t : Addr) (xs : List V) (l : List It), vs = [.ref t] ∧ H t = some (.tup xs) ∧ RepTs H (l.map itD) xs ∧ (∀ i ∈ l, ItF i ∧ plI i) ∧ l.length ≤ 10 ∧ ∀ H' : Hp, Kp [] H H' → Q (.str (Txt.join " " (l.flatMap itW0))) H'
end

end MD
namespace MD
open PySem PySem.Spec PyProof.Rows L2
local macro_rules | `(tactic| walk_at "ne") => `(tactic| first | assumption | (apply Ne.symm; assumption) | exact ne_of_none (by assumption) (by assumption) | exact (ne_of_none (by assumption) (by assumption)).symm)
local macro_rules | `(tactic| walk_at "hp") => `(tactic| first | assumption | exact upd_same | (refine (upd_ne ?_).trans ?_; (focus walk_at "ne"); walk_at "hp"))
local macro_rules | `(tactic| walk_at "nm") => `(tactic| first | exact nmem_nil | exact nmem_one (by walk_at "ne") | exact nmem_cons (by walk_at "ne") (by walk_at "nm"))
section
variable {P : Program} {w : World} {K : PySem.W.Frag} {mg : Str → Option Value} {base : Heap}
open TL
/-! ### rows and texts -/
def deS (e : De) : Str := Txt.join " " (deW e)
def txS (x : Tx) : Str := Txt.join " " (txW x)
def feed (l : Str) : Str := l ++ "\n"
def allS (xs : List Tx) : Str := Txt.join "" (xs.map fun x => feed (txS x))
theorem deI_pl {e : De} (h : DeF e) : ∀ i ∈ deI e, ItF i ∧ plI i := fun i hi => by
  refine ⟨(deI_ok h i hi).1, ?_⟩
  cases e <;> simp only [deI, List.mem_cons, List.not_mem_nil, or_false] at hi
  · rcases hi with rfl | rfl <;> trivial
  · rcases hi with rfl | rfl <;> trivial
  · rcases hi with rfl | rfl | rfl <;> trivial
theorem deI_len (e : De) : (deI e).length ≤ 3 := by cases e <;> exact Nat.le_of_ble_eq_true rfl
theorem txI_len (x : Tx) : (txI x).length ≤ 7 := by cases x <;> exact Nat.le_of_ble_eq_true rfl
theorem jl {a b : Str} {m k : Nat} (h : a.length ≤ m) (h2 : b.length ≤ k) : (a ++ b).length ≤ m + k := by rw [len_app]; omega
theorem big5 : 5000 ≤ sizeLine := by decide
theorem deW_len {e : De} (h : DeF e) : (deW e).length ≤ 3 ∧ ∀ y ∈ deW e, y.length ≤ 164 := by
  refine ⟨?_, fun y hy => ?_⟩
  · cases e <;> exact Nat.le_of_ble_eq_true rfl
  · obtain ⟨i, hi, hy⟩ := List.mem_flatMap.mp hy
    exact it_len (deI_ok h i hi).1 y hy
theorem deS_len {e : De} (h : DeF e) : (deS e).length ≤ 500 := by
  obtain ⟨h1, h2⟩ := deW_len h
  have := join_len (sep := " ") h2
  have c1 : (" " : Str).length = 1 := by decide +kernel
  rw [c1] at this
  unfold deS
  have h3 : (deW e).length * (164 + 1) ≤ 3 * (164 + 1) := Nat.mul_le_mul_right _ h1
  omega
theorem deW_cons (e : De) : ∃ a r, deW e = a :: r := by cases e <;> exact ⟨_, _, rfl⟩
theorem told_eq (s n : Int) (g : Bool) : Str.empty ++ "told " ++ numS s ++ " " ++ numS n ++ " " ++ ynS g = txS (.told s n g) := by
  have e : ("told " : Str) = ("told" : Str) ++ (" " : Str) := by decide +kernel
  have e2 : txS (.told s n g) = ("told" : Str) ++ " " ++ (numS s ++ " " ++ (numS n ++ " " ++ ynS g)) := by
    unfold txS
    rw [join_eq]
    rfl
  rw [e2, e, empty_app]
  simp only [app_assoc]
theorem asked_eq (s n : Int) (d : De) : Str.empty ++ "asked " ++ numS s ++ " " ++ numS n ++ " " ++ deS d = txS (.asked s n d) := by
  have e : ("asked " : Str) = ("asked" : Str) ++ (" " : Str) := by decide +kernel
  have e2 : txS (.asked s n d) = ("asked" : Str) ++ " " ++ (numS s ++ " " ++ (numS n ++ " " ++ deS d)) := by
    unfold txS deS
    rw [join_eq, join_eq]
    have : txW (.asked s n d) = ("asked" : Str) :: numS s :: numS n :: (deW d ++ []) := rfl
    rw [this, List.append_nil]
    obtain ⟨a, r, ea⟩ := deW_cons d
    rw [ea]
    rfl
  rw [e2, e, empty_app]
  simp only [app_assoc]
def spFmtD (K : PySem.W.Frag) : Sp := fun vs H Q _ => ∃ (v : V) (e : De), vs = [v] ∧ RepT H (deD e) v ∧ DeF e ∧ ∀ H' : Hp, Kp [] H H' → Q (.str (deS e)) H'
def spFmtR (K : PySem.W.Frag) (b : Bool) : Sp := fun vs H Q _ => ∃ (v : V) (x : Tx), vs = [v] ∧ RepT H (txD x) v ∧ TxF x ∧ x.bk = b ∧ ∀ H' : Hp, Kp [] H H' → Q (.str (txS x)) H'
def spLines (K : PySem.W.Frag) : Sp := fun vs H Q _ => ∃ (l : Addr) (ys : List Str), vs = [.ref l] ∧ H l = some (.lst (ys.map V.str)) ∧ ys.length ≤ 100 ∧ (∀ y ∈ ys, y.length ≤ 5000) ∧ ∀ H' : Hp, Kp [] H H' → Q (.str (Txt.join "" (ys.map feed))) H'
end

end MD
namespace MD
open PySem PySem.Spec PyProof.Rows L2
local macro_rules | `(tactic| walk_at "ne") => `(tactic| first | assumption | (apply Ne.symm; assumption) | exact ne_of_none (by assumption) (by assumption) | exact (ne_of_none (by assumption) (by assumption)).symm)
local macro_rules | `(tactic| walk_at "hp") => `(tactic| first | assumption | exact upd_same | (refine (upd_ne ?_).trans ?_; (focus walk_at "ne"); walk_at "hp"))
local macro_rules | `(tactic| walk_at "nm") => `(tactic| first | exact nmem_nil | exact nmem_one (by walk_at "ne") | exact nmem_cons (by walk_at "ne") (by walk_at "nm"))
section
variable {P : Program} {w : World} {K : PySem.W.Frag} {mg : Str → Option Value} {base : Heap}
open TL
theorem txW_len {x : Tx} (h : TxF x) : (txW x).length ≤ 7 ∧ ∀ y ∈ txW x, y.length ≤ 164 := by
  refine ⟨?_, fun y hy => ?_⟩
  · cases x with
    | asked s n d =>
      have := (deW_len h.2.2).1
      show ([numS s] ++ ([numS n] ++ (deW d ++ []))).length + 1 ≤ 7
      simp only [List.length_append, List.length_cons, List.length_nil]
      omega
    | _ => exact Nat.le_of_ble_eq_true rfl
  · obtain ⟨i, hi, hy⟩ := List.mem_flatMap.mp hy
    have hf := txI_ok h i hi
    cases i with
    | d e => exact (deW_len hf).2 y hy
    | s x => exact it_len hf y hy
    | n x => exact it_len hf y hy
    | p x => exact it_len hf y hy
    | b x => exact it_len hf y hy
theorem txS_len {x : Tx} (h : TxF x) : (txS x).length ≤ 1200 := by
  obtain ⟨h1, h2⟩ := txW_len h
  have := join_len (sep := " ") h2
  have c1 : (" " : Str).length = 1 := by decide +kernel
  rw [c1] at this
  unfold txS
  have h3 : (txW x).length * (164 + 1) ≤ 7 * (164 + 1) := Nat.mul_le_mul_right _ h1
  omega
theorem bk_items {x : Tx} (h : TxF x) (b : x.bk = true) : (∀ i ∈ txI x, ItF i ∧ plI i) ∧ (txI x).flatMap itW0 = txW x := by
  refine ⟨fun i hi => ⟨txI_ok h i hi, ?_⟩, ?_⟩
  · cases x with
    | told s n g => cases b
    | asked s n d => cases b
    | sold n p a c =>
      simp only [txI, List.mem_cons, List.not_mem_nil, or_false] at hi
      rcases hi with rfl | rfl | rfl | rfl | rfl <;> trivial
    | canc n a c =>
      simp only [txI, List.mem_cons, List.not_mem_nil, or_false] at hi
      rcases hi with rfl | rfl | rfl | rfl <;> trivial
    | chan n p a c e f =>
      simp only [txI, List.mem_cons, List.not_mem_nil, or_false] at hi
      rcases hi with rfl | rfl | rfl | rfl | rfl | rfl | rfl <;> trivial
  · cases x with
    | told s n g => cases b
    | asked s n d => cases b
    | _ => rfl
/-- rows in a list -/
structure RowsAt (H : Hp) (l : Addr) (rs : List Tx) (b : Bool) : Prop where
  at' : ∃ xs, H l = some (.lst xs) ∧ RepTs H (rs.map txD) xs
  ok : ∀ x ∈ rs, TxF x ∧ x.bk = b
  le : rs.length ≤ 10
def spFmtA (b : Bool) : Sp := fun vs H Q _ => ∃ (l : Addr) (rs : List Tx), vs = [.ref l] ∧ RowsAt H l rs b ∧ ∀ H' : Hp, Kp [] H H' → Q (.str (allS rs)) H'
/-! ### the law's words -/
def spWords (n : Nat) : Sp := fun vs H Q _ => ∃ (t : Addr) (xs : List V) (l : List It), vs = [.ref t] ∧ H t = some (.tup xs) ∧ RepTs H (l.map itD) xs ∧ (∀ i ∈ l, ItF i) ∧ (n = 0 → ∀ i ∈ l, ∀ c, i ≠ .d c) ∧ l.length ≤ 10 ∧
  ∀ (L : Addr) (H' : Hp), H L = none → Kp [] H H' → H' L = some (.lst ((l.flatMap itW).map V.str)) → Q (.ref L) H'
theorem words_step (T : Txt K mg) (n k : Nat) (sp : Sp) (hn : ∀ (t : Addr) (xs : List V) (e : De) (H : Hp) (Q : V → Hp → Prop) (E : XK), n ≠ 0 → H t = some (.tup xs) → RepTs H ((deI e).map itD) xs → DeF e → (∀ (L : Addr) (H' : Hp), H L = none → Kp [] H H' → H' L = some (.lst ((deW e).map V.str)) → Q (.ref L) H') → sp [.ref t] H Q E)
    (c_law_words : Cal P w K mg base k "_law_words" sp) : Cal P w K mg base (k + 2) "_law_words" (spWords n) := by
  have c_law_party_text := c_law_party_text (P := P) (w := w) (base := base) T
  refine cal_of T.d_law_words sc_law_words (fun vs H Q E h => ?_) (fun f cdv A outer s H vs Q E hr h => ?_)
  · obtain ⟨t, xs, l, rfl, _⟩ := h; rfl
  · obtain ⟨t, xs, l, rfl, ht, rx, ok, nd, le, q⟩ := h
    have hu := hu_of hr
    refine ⟨_, (pss_cons (ps_set (i := 1) sc_law_words.nd rfl (Or.inl rfl) (ke_lst pa_nil))
  (pss_cons (ps_for PassesOwn.never rfl (pitK (K := K) (pv 0)) (pg_name (i := 2) sc_law_words.nd rfl (Or.inl rfl))
  (pss_one (ps_if (PW.pt (pw_and (pt_val (pe_callB (isiK (K := K)) (by rfl) T.z_isinstance (by decide +kernel) (pa_cons (pv 2) (pa_cons (pe_bltn (v := .ty "tuple") (by rfl) T.z_tuple (by decide +kernel) rfl) pa_nil)))) (pw_and (pt_cmpR op_gt (pe_callB (lenK (K := K)) (by rfl) T.z_len (by decide +kernel) (pa_cons (pv 2) pa_nil)) pe_int (nomark _)) (pw_and1 (pt_val (pe_callB (isiK (K := K)) (by rfl) T.z_isinstance (by decide +kernel) (pa_cons (pe_ix (ixT (K := K)) (pv 2) pe_int (fun _ _ => rfl)) (pa_cons (pe_bltn (v := .ty "str") (by rfl) T.z_str (by decide +kernel) rfl) pa_nil))))))))
  (pss_one (ps_expr (pe_bm PySem.F.plainAttrs_list PySem.F.slot_list_extend PySem.F.type_list_extend mk_extend (pv 1) (pa_cons (pe_c c_law_words (hr.mono (by first | decide | omega)) rfl (pa_cons (pv 2) pa_nil)) pa_nil))))
  (pss_one (ps_if (pt_val (pe_callB (isiK (K := K)) (by rfl) T.z_isinstance (by decide +kernel) (pa_cons (pv 2) (pa_cons (pe_bltn (v := .ty "tuple") (by rfl) T.z_tuple (by decide +kernel) rfl) pa_nil))))
  (pss_one (ps_expr (pe_bm PySem.F.plainAttrs_list PySem.F.slot_list_append PySem.F.type_list_append mk_append (pv 1) (pa_cons (pe_c c_law_party_text (hr.mono (by first | decide | omega)) rfl (pa_cons (pv 2) pa_nil)) pa_nil))))
  (pss_one (ps_if (pt_val (pe_callB (isiK (K := K)) (by rfl) T.z_isinstance (by decide +kernel) (pa_cons (pv 2) (pa_cons (pe_bltn (v := .ty "bool") (by rfl) T.z_bool (by decide +kernel) rfl) pa_nil))))
  (pss_one (ps_expr (pe_bm PySem.F.plainAttrs_list PySem.F.slot_list_append PySem.F.type_list_append mk_append (pv 1) (pa_cons (pe_ix (ixL (K := K)) (ke_lst (pa_cons pe_str (pa_cons pe_str pa_nil))) (pe_callTy call_int1 (by rfl) T.z_int (by decide +kernel) (pa_cons (pv 2) pa_nil)) (fun _ _ => rfl)) pa_nil))))
  (pss_one (ps_expr (pe_bm PySem.F.plainAttrs_list PySem.F.slot_list_append PySem.F.type_list_append mk_append (pv 1) (pa_cons (pe_callTy (callOr call_str_int SkE.call_str_str) (by rfl) T.z_str (by decide +kernel) (pa_cons (pv 2) pa_nil)) pa_nil)))))))))))
  (pss_one (ps_ret (pv 1))))), ?_⟩
    refine ⟨(by show 0 ≤ sizeLine; decide), fun L H1 hL k1 h1 => ?_⟩
    refine ⟨_, rfl, t, rfl, ⟨xs, SqT.of (k1.tup _ _ ht)⟩, for_tup (K := K) (a := t) (xs := xs) (fun i σ H' => ∃ y2 : Option V, σ = [some (.ref t), some (.ref L), y2] ∧ Kp [] H H' ∧ H' L = some (.lst (((l.take i).flatMap itW).map V.str)) ∧ ((l.take i).flatMap itW).length ≤ 3 * i)
      ⟨_, rfl, k1, h1, Nat.le_refl _⟩ (fun i σ H' _ ⟨_, _, k, _⟩ => SqT.of (k.tup _ _ ht)) ?_ ?_⟩
    · rintro i v σ H2 hv ⟨y2, rfl, k2, h2, wl⟩
      obtain ⟨it, hi, ri⟩ := rx.at hv
      have f1 := ok it (List.mem_of_getElem? hi)
      have il : i < l.length := (List.getElem?_eq_some_iff.mp hi).1
      have sl : (((l.take i).flatMap itW).map V.str).length ≤ 30 := by rw [List.length_map]; omega
      have nx : (l.take (i + 1)).flatMap itW = (l.take i).flatMap itW ++ itW it := by
        rw [take_sn hi, List.flatMap_append]
        exact congrArg (_ ++ ·) (List.append_nil _)
      have one : ∀ (y : Str), itW it = [y] → ∀ Hx : Hp, Kp [] H2 Hx → ∀ H3 : Hp, Kp [L] Hx H3 → H3 L = some (.lst (((l.take i).flatMap itW).map V.str ++ [V.str y])) → Kp [] H H3 ∧ H3 L = some (.lst (((l.take (i + 1)).flatMap itW).map V.str)) ∧ ((l.take (i + 1)).flatMap itW).length ≤ 3 * (i + 1) := fun y ey Hx kx H3 k3 h3 => by
        refine ⟨(k2.trans kx).put k3 hL, ?_, ?_⟩
        · rw [nx, List.map_append, ey]; exact h3
        · rw [nx, List.length_append, ey]; show _ + 1 ≤ _; omega
      cases it with
      | s x =>
        obtain rfl : v = .str x := (show RepT H (.v (.str x)) v from ri).vE
        refine ⟨_, rfl, _, _, _, _, false, rfl, .ty _, ty_scl (v := .str x) trivial, kit_ty (by show kitB "str" "tuple" = some false; decide +kernel), _, rfl, iteF (iteF ?_)⟩
        refine ⟨_, rfl, _, _, _, _, false, rfl, .ty _, ty_scl (v := .str x) trivial, kit_ty (by show kitB "str" "tuple" = some false; decide +kernel), _, rfl, iteF ?_⟩
        refine ⟨_, rfl, _, _, _, _, false, rfl, .ty _, ty_scl (v := .str x) trivial, kit_ty (by show kitB "str" "bool" = some false; decide +kernel), _, rfl, iteF ?_⟩
        refine ⟨_, rfl, .inl ⟨rfl, _, SqL.of h2⟩, _, rfl, .inr ⟨x, rfl, L, _, _, rfl, rfl, h2, sz (m := 30) sl, fun H3 k3 h3 => ?_⟩⟩
        exact ⟨_, rfl, one x rfl H2 Kp.refl H3 k3 h3⟩
      | n k =>
        obtain rfl : v = .int k := (show RepT H (.v (.int k)) v from ri).vE
        refine ⟨_, rfl, _, _, _, _, false, rfl, .ty _, ty_scl (v := .int k) trivial, kit_ty (by show kitB "int" "tuple" = some false; decide +kernel), _, rfl, iteF (iteF ?_)⟩
        refine ⟨_, rfl, _, _, _, _, false, rfl, .ty _, ty_scl (v := .int k) trivial, kit_ty (by show kitB "int" "tuple" = some false; decide +kernel), _, rfl, iteF ?_⟩
        refine ⟨_, rfl, _, _, _, _, false, rfl, .ty _, ty_scl (v := .int k) trivial, kit_ty (by show kitB "int" "bool" = some false; decide +kernel), _, rfl, iteF ?_⟩
        refine ⟨_, rfl, .inl ⟨rfl, _, SqL.of h2⟩, _, rfl, .inl ⟨k, rfl, fig_log f1, L, _, _, rfl, rfl, h2, sz (m := 30) sl, fun H3 k3 h3 => ?_⟩⟩
        exact ⟨_, rfl, one (numS k) rfl H2 Kp.refl H3 k3 h3⟩
      | b g =>
        obtain rfl : v = .bl g := (show RepT H (.v (.bl g)) v from ri).vE
        refine ⟨_, rfl, _, _, _, _, false, rfl, .ty _, ty_scl (v := .bl g) trivial, kit_ty (by show kitB "bool" "tuple" = some false; decide +kernel), _, rfl, iteF (iteF ?_)⟩
        refine ⟨_, rfl, _, _, _, _, false, rfl, .ty _, ty_scl (v := .bl g) trivial, kit_ty (by show kitB "bool" "tuple" = some false; decide +kernel), _, rfl, iteF ?_⟩
        refine ⟨_, rfl, _, _, _, _, true, rfl, .ty _, ty_scl (v := .bl g) trivial, kit_ty (by show kitB "bool" "bool" = some true; decide +kernel), _, rfl, iteT ?_⟩
        refine ⟨_, rfl, .inl ⟨rfl, _, SqL.of h2⟩, (by show 2 ≤ sizeLine; decide), fun yl H3 hyl k3 h3 => ?_⟩
        refine ⟨_, rfl, .inr ⟨g, rfl, yl, _, _, .str (ynS g), rfl, rfl, SqL.of h3, by cases g <;> rfl, L, _, _, rfl, rfl, k3.at h2 nmem_nil, sz (m := 30) sl, fun H4 k4 h4 => ?_⟩⟩
        exact ⟨_, rfl, one (ynS g) rfl H3 k3 H4 k4 h4⟩
      | p pl =>
        obtain ⟨q1, ys, rfl, hq, rq⟩ := RepT.tupE (show RepT H (ptD pl) v from ri)
        have hq2 := k2.tup _ _ hq
        have yl : ys.length = pl.length := rq.lenM
        have l1 := f1.l1
        have e0 : ys[0]? = some (ys[0]'(by omega)) := by simp [show 0 < ys.length by omega]
        obtain ⟨s0, hs0, r0⟩ := rq.at e0
        obtain ⟨q0, eq0, hq0⟩ := syD_at r0
        rw [eq0] at e0
        refine ⟨_, rfl, _, _, _, _, true, rfl, .ty _, ty_sq (l := false) (SqB_tup hq2), kit_ty (by decide +kernel), _, rfl, iteT ?_⟩
        refine ⟨_, rfl, q1, ys, rfl, .inr (SqT.of hq2), _, _, rfl, rfl, _, rfl, iteTe (decide_eq_true (by omega)) ?_⟩
        refine ⟨_, rfl, q1, _, _, .ref q0, rfl, rfl, SqT.of hq2, at_of (by decide) e0, _, _, _, _, false, rfl, .ty _, ty_sq (l := false) (SqB_tup (k2.tup _ _ hq0)), kit_ty (by decide +kernel), _, rfl, iteF ?_⟩
        refine ⟨_, rfl, _, _, _, _, true, rfl, .ty _, ty_sq (l := false) (SqB_tup hq2), kit_ty (by decide +kernel), _, rfl, iteT ?_⟩
        refine ⟨_, rfl, .inl ⟨rfl, _, SqL.of h2⟩, _, rfl, q1, ys, pl, rfl, hq2, rq.kp k2, f1, fun H3 k3 => ⟨L, _, _, rfl, rfl, k3.at h2 nmem_nil, sz (m := 30) sl, fun H4 k4 h4 => ?_⟩⟩
        exact ⟨_, rfl, one (ptS pl) rfl H3 k3 H4 k4 h4⟩
      | d e =>
        have n0 : n ≠ 0 := fun z => nd z _ (List.mem_of_getElem? hi) e rfl
        have ri : RepT H (deD e) v := ri
        rw [deD_eq] at ri
        obtain ⟨q1, ys, rfl, hq, rq⟩ := RepT.tupE ri
        have hq2 := k2.tup _ _ hq
        obtain ⟨s0, rest, e1⟩ : ∃ (s0 : Str) (rest : List It), deI e = .s s0 :: rest := by cases e <;> exact ⟨_, _, rfl⟩
        rw [e1] at rq
        obtain ⟨v0, r0, rfl, w0, w1⟩ := rq.consE
        obtain rfl : v0 = .str s0 := (show RepT H (.v (.str s0)) v0 from w0).vE
        refine ⟨_, rfl, _, _, _, _, true, rfl, .ty _, ty_sq (l := false) (SqB_tup hq2), kit_ty (by decide +kernel), _, rfl, iteT ?_⟩
        refine ⟨_, rfl, q1, _, rfl, .inr (SqT.of hq2), _, _, rfl, rfl, _, rfl, iteTe (decide_eq_true (by show (0 : Int) < ((r0.length + 1 : Nat) : Int); omega)) ?_⟩
        refine ⟨_, rfl, q1, _, _, .str s0, rfl, rfl, SqT.of hq2, at_of (by decide) rfl, _, _, _, _, true, rfl, .ty _, ty_scl (v := .str s0) trivial, kit_ty (by show kitB "str" "str" = some true; decide +kernel), _, rfl, iteT ?_⟩
        refine ⟨_, rfl, .inl ⟨rfl, _, SqL.of h2⟩, _, rfl, ?_⟩
        refine hn q1 _ e H2 _ _ n0 hq2 (by rw [e1]; exact RepTs.kp k2 (RepTs.cons w0 w1)) f1 fun L2 H3 hL2 k3 h3 => ?_
        have dl := (deW_len f1).1
        refine ⟨L, L2, _, _, rfl, rfl, k3.at h2 nmem_nil, h3, Nat.le_trans (show _ ≤ 100 by simp only [List.length_map] at sl ⊢; omega) (by decide), fun H4 k4 h4 => ?_⟩
        refine ⟨_, rfl, (k2.trans k3).put k4 hL, ?_, ?_⟩
        · rw [nx, List.map_append]; exact h4
        · rw [nx, List.length_append]; show _ + (deW e).length ≤ _; omega
    · rintro σ H2 ⟨y2, rfl, k2, h2, wl⟩
      rw [rx.lenM, List.take_length] at h2
      exact ⟨_, rfl, q L H2 hL k2 h2⟩
theorem deI_words (e : De) : (deI e).flatMap itW = deW e := by cases e <;> rfl
theorem c_words_no (T : Txt K mg) : Cal P w K mg base 1 "_law_words" (fun _ _ _ _ => False) := cal_of T.d_law_words sc_law_words (fun vs H Q E h => h.elim) (fun f cdv A outer s H vs Q E hr h => h.elim)
theorem c_law_words (T : Txt K mg) : Cal P w K mg base 5 "_law_words" (spWords 1) := by
  have c0 : Cal P w K mg base 3 "_law_words" (spWords 0) := words_step T 0 1 _ (fun t xs e H Q E n0 => absurd rfl n0) (c_words_no T)
  refine words_step T 1 3 (spWords 0) (fun t xs e H Q E _ ht rx ef q => ?_) c0
  exact ⟨t, xs, deI e, rfl, ht, rx, fun i hi => (deI_ok ef i hi).1, fun _ i hi => (deI_ok ef i hi).2, Nat.le_trans (deI_len e) (by decide), fun L H' hL k h => q L H' hL k (by rw [← deI_words]; exact h)⟩
def spText : Sp := fun vs H Q _ => ∃ (l : Addr) (rs : List Tx) (b : Bool), vs = [.ref l] ∧ RowsAt H l rs b ∧ ∀ H' : Hp, Kp [] H H' → Q (.str (allS rs)) H'
theorem c_law_text (T : Txt K mg) : Cal P w K mg base 6 "_law_text" spText := by
  have c_law_words := c_law_words (P := P) (w := w) (base := base) T
  refine cal_of T.d_law_text sc_law_text (fun vs H Q E h => ?_) (fun f cdv A outer s H vs Q E hr h => ?_)
  · obtain ⟨l, rs, b, rfl, _⟩ := h; rfl
  · obtain ⟨l, rs, b, rfl, ⟨⟨xs, hl, rx⟩, ok, le⟩, q⟩ := h
    have hu := hu_of hr
    refine ⟨_, (pss_one (ps_ret (ke_join (K := K) pe_str (ke_lc rfl sc_law_text.nd (pilK (K := K) (pv 0)) (blkOk_by (own := [("row", 1)]) (N := ["rows", "row"]) (sc := defScope s_law_text) (by decide +kernel)) (fun _ _ _ _ _ => (pg_name (i := 1) sc_law_text.nd rfl (Or.inl rfl))) (fun _ _ _ _ _ => pts_nil) (fun _ _ _ _ _ => (pe_op op_add_str (ke_join (K := K) pe_str (pe_c c_law_words (hr.mono (by first | decide | omega)) rfl (pa_cons (pv 1) pa_nil))) pe_str)))))), ?_⟩
    refine ⟨⟨_, rfl⟩, _, rfl, l, rfl, ⟨xs, SqL.of hl⟩, fun D H1 hD k1 hD1 => ?_⟩
    have cf : ("\n" : Str).length ≤ 1 := by decide +kernel
    have cb : (" " : Str).length = 1 := by decide +kernel
    refine kl_list (xs := xs) (fun i acc H' => Kp [] H H' ∧ acc = ((rs.take i).map fun x => feed (txS x)).map V.str) ⟨k1, rfl⟩ (fun i acc H' z => SqL.of (z.1.at hl nmem_nil)) ?_ ?_
    · rintro i v acc H2 hv hDa ⟨k2, rfl⟩
      obtain ⟨x, hx, r⟩ := rx.at hv
      obtain ⟨xf, xb⟩ := ok x (List.mem_of_getElem? hx)
      have il : i < rs.length := (List.getElem?_eq_some_iff.mp hx).1
      rw [txD_eq] at r
      obtain ⟨t, ys, rfl, ht, ry⟩ := RepT.tupE r
      refine ⟨rfl, yesT ⟨⟨_, rfl⟩, _, rfl, t, ys, txI x, rfl, k2.tup _ _ ht, ry.kp k2, txI_ok xf, (fun z => absurd z (by decide)), Nat.le_trans (txI_len x) (by decide), fun L H3 hL k3 h3 => ?_⟩⟩
      obtain ⟨w1, w2⟩ := txW_len xf
      have := sum_len w2
      have w3 : (txW x).length * 164 ≤ 7 * 164 := Nat.mul_le_mul_right _ w1
      have tl := txS_len xf
      have b5 : 6000 ≤ sizeLine := by decide
      refine ⟨_, L, txW x, rfl, rfl, .inl (SqL.of h3), by rw [cb]; omega, _, _, rfl, rfl, ?_, k3.at hDa nmem_nil, sz (m := 100) (by rw [List.length_map, List.length_map, List.length_take]; omega), fun H4 k4 h4 => ⟨(k2.trans k3).put k4 hD, ?_⟩⟩
      · show (txS x).length + ("\n" : Str).length ≤ sizeLine
        omega
      · rw [take_sn hx, List.map_append, List.map_append]
        rfl
    · rintro acc H2 hDa ⟨k2, rfl⟩
      rw [rx.lenM, List.take_length] at hDa
      refine ⟨_, D, rs.map fun x => feed (txS x), rfl, rfl, .inl (SqL.of hDa), ?_, q H2 k2⟩
      have := sum_len (l := rs.map fun x => feed (txS x)) (m := 1201) fun z hz => by
        obtain ⟨x, hx, rfl⟩ := List.mem_map.mp hz
        exact jl (txS_len (ok x hx).1) cf
      have c1 : ("" : Str).length = 0 := by decide +kernel
      rw [List.length_map] at this
      rw [c1, List.length_map]
      have : rs.length * 1201 ≤ 10 * 1201 := Nat.mul_le_mul_right _ le
      omega
end

end MD
namespace MD
open PySem PySem.Spec PyProof.Rows L2
local macro_rules | `(tactic| walk_at "ne") => `(tactic| first | assumption | (apply Ne.symm; assumption) | exact ne_of_none (by assumption) (by assumption) | exact (ne_of_none (by assumption) (by assumption)).symm)
local macro_rules | `(tactic| walk_at "hp") => `(tactic| first | assumption | exact upd_same | (refine (upd_ne ?_).trans ?_; (focus walk_at "ne"); walk_at "hp"))
local macro_rules | `(tactic| walk_at "nm") => `(tactic| first | exact nmem_nil | exact nmem_one (by walk_at "ne") | exact nmem_cons (by walk_at "ne") (by walk_at "nm"))
section
variable {P : Program} {w : World} {K : PySem.W.Frag} {mg : Str → Option Value} {base : Heap}
open TL
/-! ### rows are read -/
theorem hu9_of {A : Around} {k : Nat} (r : Room k A) : A.units + 9 < cLine := by
  have := r.un
  omega
theorem cut_drop {xs : List V} {i : Int} (h : 0 ≤ i) : cutV xs (some i) none = xs.drop i.toNat := by
  have e : HT.sIx xs.length 0 (some i) = min i.toNat xs.length := if_neg (by omega)
  have e2 : HT.sIx xs.length xs.length none = xs.length := rfl
  unfold cutV
  rw [e, e2]
  by_cases z : i.toNat ≤ xs.length
  · rw [Nat.min_eq_left z, List.take_of_length_le (by rw [List.length_drop]; exact Nat.le_refl _)]
  · rw [Nat.min_eq_right (by omega), List.drop_of_length_le (Nat.le_refl _), List.drop_of_length_le (by omega), List.take_nil]
theorem mem_joinL {c : Nat} {S : List Nat} : ∀ {ps : List (List Nat)}, c ∈ joinL S ps → c ∈ S ∨ ∃ p ∈ ps, c ∈ p
  | [], h => nomatch h
  | [p], h => .inr ⟨p, List.mem_singleton.mpr rfl, h⟩
  | p :: q :: r, h => by
    rcases List.mem_append.mp (show c ∈ p ++ (S ++ joinL S (q :: r)) from h) with h | h
    · exact .inr ⟨p, List.mem_cons_self .., h⟩
    · rcases List.mem_append.mp h with h | h
      · exact .inl h
      · rcases mem_joinL h with h | ⟨z, hz, h⟩
        · exact .inl h
        · exact .inr ⟨z, List.mem_cons_of_mem _ hz, h⟩
theorem feeds_joinL : ∀ ps : List (List Nat), joinL [] (ps.map fun p => p ++ [10]) = joinL [10] (ps ++ [[]])
  | [] => rfl
  | [p] => by
    show p ++ [10] = p ++ ([10] ++ [])
    rw [List.append_nil]
  | p :: q :: r => by
    show (p ++ [10]) ++ ([] ++ joinL [] ((q :: r).map fun p => p ++ [10])) = p ++ ([10] ++ joinL [10] ((q :: r) ++ [[]]))
    rw [feeds_joinL (q :: r), List.nil_append, List.append_assoc]
def Wo (y : Str) : Prop := ∀ c ∈ tl y, 33 ≤ c
theorem wo_num {n : Int} (h : 0 ≤ n) : Wo (numS n) := fun c hc => by have := (numS_digits h c hc).1; omega
theorem wo_pt {p : List Sy} (h : PaF p) : Wo (ptS p) := fun c hc => by
  unfold ptS at hc
  rw [join_eq, tl_join, tl_plus] at hc
  rcases mem_joinL hc with z | ⟨q, hq, z⟩
  · rw [List.mem_singleton.mp z]; decide
  · obtain ⟨y, hy, rfl⟩ := List.mem_map.mp hq
    obtain ⟨s, hs, rfl⟩ := List.mem_map.mp hy
    by_cases l : c < 45
    · exact absurd z (stS_free (h.ok s hs) (.inl l))
    · omega
instance (y : Str) : Decidable (Wo y) := inferInstanceAs (Decidable (∀ c ∈ tl y, 33 ≤ c))
theorem wo_deW {e : De} (h : DeF e) : ∀ y ∈ deW e, Wo y := fun y hy => by
  cases e with
  | wish p =>
    rcases List.mem_cons.mp (show y ∈ [("wish" : Str), ptS p] from hy) with rfl | hy
    · decide +kernel
    · rw [List.mem_singleton.mp hy]; exact wo_pt h
  | cancel n =>
    rcases List.mem_cons.mp (show y ∈ [("cancel" : Str), numS n] from hy) with rfl | hy
    · decide +kernel
    · rw [List.mem_singleton.mp hy]; exact wo_num h.1
  | change n p =>
    rcases List.mem_cons.mp (show y ∈ [("change" : Str), numS n, ptS p] from hy) with rfl | hy
    · decide +kernel
    · rcases List.mem_cons.mp hy with rfl | hy
      · exact wo_num h.1.1
      · rw [List.mem_singleton.mp hy]; exact wo_pt h.2
def bookW : Tx → List Str
  | .told s n g => ["told", numS s, numS n, ynS g]
  | .asked s n d => "asked" :: numS s :: numS n :: deW d
  | .sold n p a b => ["sold", numS n, ptS p, numS a, numS b]
  | .canc n a b => ["cancelled", numS n, numS a, numS b]
  | .chan n p a b c e => ["changed", numS n, ptS p, numS a, numS b, numS c, numS e]
theorem txW_eq (x : Tx) : txW x = bookW x := by
  cases x with
  | asked s n d =>
    show [("asked" : Str)] ++ ([numS s] ++ ([numS n] ++ (deW d ++ []))) = _
    rw [List.append_nil]; rfl
  | _ => rfl
theorem wo_txW {x : Tx} (h : TxF x) : ∀ y ∈ txW x, Wo y := fun y hy => by
  rw [txW_eq] at hy
  cases x with
  | told s n g =>
    simp only [bookW, List.mem_cons, List.not_mem_nil, or_false] at hy
    rcases hy with rfl | rfl | rfl | rfl
    · decide +kernel
    · exact wo_num h.1.1
    · exact wo_num h.2.1
    · cases g <;> decide +kernel
  | asked s n d =>
    simp only [bookW, List.mem_cons] at hy
    rcases hy with rfl | rfl | rfl | hy
    · decide +kernel
    · exact wo_num h.1.1
    · exact wo_num h.2.1.1
    · exact wo_deW h.2.2 y hy
  | sold n p a b =>
    simp only [bookW, List.mem_cons, List.not_mem_nil, or_false] at hy
    rcases hy with rfl | rfl | rfl | rfl | rfl
    · decide +kernel
    · exact wo_num h.1.1
    · exact wo_pt h.2.1
    · exact wo_num h.2.2.1.1
    · exact wo_num h.2.2.2.1
  | canc n a b =>
    simp only [bookW, List.mem_cons, List.not_mem_nil, or_false] at hy
    rcases hy with rfl | rfl | rfl | rfl
    · decide +kernel
    · exact wo_num h.1.1
    · exact wo_num h.2.1.1
    · exact wo_num h.2.2.1
  | chan n p a b c e =>
    simp only [bookW, List.mem_cons, List.not_mem_nil, or_false] at hy
    rcases hy with rfl | rfl | rfl | rfl | rfl | rfl | rfl
    · decide +kernel
    · exact wo_num h.1.1
    · exact wo_pt h.2.1
    · exact wo_num h.2.2.1.1
    · exact wo_num h.2.2.2.1.1
    · exact wo_num h.2.2.2.2.1.1
    · exact wo_num h.2.2.2.2.2.1
theorem txW_ne (x : Tx) : txW x ≠ [] := by cases x <;> exact fun h => nomatch h
theorem txS_split {x : Tx} (h : TxF x) : Txt.split (txS x) " " = txW x :=
  split_join tl_blank (by decide +kernel) (txW_ne x) fun p hp z => absurd (wo_txW h p hp 32 z) (by decide)
theorem txS_nofeed {x : Tx} (h : TxF x) : 10 ∉ tl (txS x) := fun hc => by
  unfold txS at hc
  rw [join_eq, tl_join, tl_blank] at hc
  rcases mem_joinL hc with z | ⟨q, hq, z⟩
  · exact absurd (List.mem_singleton.mp z) (by decide)
  · obtain ⟨y, hy, rfl⟩ := List.mem_map.mp hq
    exact absurd (wo_txW h y hy 10 z) (by decide)
theorem allS_eq (rs : List Tx) : allS rs = Txt.join "\n" (rs.map txS ++ [Str.empty]) := by
  refine ext_tl ?_
  unfold allS
  rw [join_eq, join_eq, tl_join, tl_join, tl_feed, List.map_append, List.map_map, List.map_map]
  have e : (tl ∘ fun x => feed (txS x)) = fun x => tl (txS x) ++ [10] := funext fun x => by
    show tl (txS x ++ "\n") = _
    rw [tl_append, tl_feed]
  rw [e]
  have := feeds_joinL (rs.map fun x => tl (txS x))
  rw [List.map_map] at this
  exact this
theorem allS_split {rs : List Tx} (h : ∀ x ∈ rs, TxF x) : Txt.split (allS rs) "\n" = rs.map txS ++ [Str.empty] := by
  rw [allS_eq]
  refine split_join tl_feed (by decide +kernel) (fun e => nomatch (List.append_eq_nil_iff.mp e).2) fun p hp => ?_
  rcases List.mem_append.mp hp with z | z
  · obtain ⟨x, hx, rfl⟩ := List.mem_map.mp z
    exact txS_nofeed (h x hx)
  · rw [List.mem_singleton.mp z]
    exact fun z => nomatch z
theorem allS_len {rs : List Tx} (h : ∀ x ∈ rs, TxF x) (le : rs.length ≤ 10) : (allS rs).length ≤ 14000 := by
  rw [allS_eq]
  have := join_len (sep := "\n") (l := rs.map txS ++ [Str.empty]) (m := 1200) fun y hy => by
    rcases List.mem_append.mp hy with z | z
    · obtain ⟨x, hx, rfl⟩ := List.mem_map.mp z
      exact txS_len (h x hx)
    · rw [List.mem_singleton.mp z]; exact Nat.zero_le _
  have c1 : ("\n" : Str).length = 1 := by decide +kernel
  rw [c1, List.length_append, List.length_map] at this
  have c2 : (rs.length + 1) * (1200 + 1) ≤ 11 * (1200 + 1) := Nat.mul_le_mul_right _ (by omega)
  exact Nat.le_trans this (Nat.le_trans c2 (by decide))
end

end MD
namespace MD
open PySem PySem.Spec PyProof.Rows L2
local macro_rules | `(tactic| walk_at "ne") => `(tactic| first | assumption | (apply Ne.symm; assumption) | exact ne_of_none (by assumption) (by assumption) | exact (ne_of_none (by assumption) (by assumption)).symm)
local macro_rules | `(tactic| walk_at "hp") => `(tactic| first | assumption | exact upd_same | (refine (upd_ne ?_).trans ?_; (focus walk_at "ne"); walk_at "hp"))
local macro_rules | `(tactic| walk_at "nm") => `(tactic| first | exact nmem_nil | exact nmem_one (by walk_at "ne") | exact nmem_cons (by walk_at "ne") (by walk_at "nm"))
section
variable {P : Program} {w : World} {K : PySem.W.Frag} {mg : Str → Option Value} {base : Heap}
open TL
/-! ### what is written tells what was there -/
theorem map_inj_on {α β : Type} {f : α → β} {R : α → Prop} (h : ∀ a b, R a → R b → f a = f b → a = b) : ∀ {l m : List α}, (∀ a ∈ l, R a) → (∀ a ∈ m, R a) → l.map f = m.map f → l = m
  | [], [], _, _, _ => rfl
  | [], b :: m, _, _, e => by cases e
  | a :: l, [], _, _, e => by cases e
  | a :: l, b :: m, h1, h2, e => by
    obtain ⟨e1, e2⟩ := List.cons.inj e
    rw [h a b (h1 a List.mem_cons_self) (h2 b List.mem_cons_self) e1, map_inj_on h (fun x hx => h1 x (List.mem_cons_of_mem _ hx)) (fun x hx => h2 x (List.mem_cons_of_mem _ hx)) e2]
theorem PaF.ne {p : List Sy} (h : PaF p) : p ≠ [] := fun z => by have := h.l1; rw [z] at this; exact absurd this (by decide)
theorem ptS_inj {p q : List Sy} (h : PaF p) (h2 : PaF q) (e : ptS p = ptS q) : p = q := by
  have e1 := ptS_split h.ne h.ok
  rw [e, ptS_split h2.ne h2.ok] at e1
  exact (map_inj_on (R := StF) (fun a b x y z => stS_inj x y z) h2.ok h.ok e1).symm
theorem deW_inj {d e : De} (h : DeF d) (h2 : DeF e) (z : deW d = deW e) : d = e := by
  cases d with
  | wish p =>
    cases e with
    | wish q =>
      obtain ⟨_, z⟩ := List.cons.inj (show [("wish" : Str), ptS p] = [("wish" : Str), ptS q] from z)
      rw [ptS_inj h h2 (List.cons.inj z).1]
    | cancel n => exact absurd (List.cons.inj (show [("wish" : Str), ptS p] = [("cancel" : Str), numS n] from z)).1 (by decide +kernel)
    | change n q => exact absurd (List.cons.inj (show [("wish" : Str), ptS p] = [("change" : Str), numS n, ptS q] from z)).1 (by decide +kernel)
  | cancel n =>
    cases e with
    | wish q => exact absurd (List.cons.inj (show [("cancel" : Str), numS n] = [("wish" : Str), ptS q] from z)).1 (by decide +kernel)
    | cancel m =>
      obtain ⟨_, z⟩ := List.cons.inj (show [("cancel" : Str), numS n] = [("cancel" : Str), numS m] from z)
      rw [numS_inj h h2 (List.cons.inj z).1]
    | change m q => exact absurd (List.cons.inj (show [("cancel" : Str), numS n] = [("change" : Str), numS m, ptS q] from z)).1 (by decide +kernel)
  | change n p =>
    cases e with
    | wish q => exact absurd (List.cons.inj (show [("change" : Str), numS n, ptS p] = [("wish" : Str), ptS q] from z)).1 (by decide +kernel)
    | cancel m => exact absurd (List.cons.inj (show [("change" : Str), numS n, ptS p] = [("cancel" : Str), numS m] from z)).1 (by decide +kernel)
    | change m q =>
      obtain ⟨_, z⟩ := List.cons.inj (show [("change" : Str), numS n, ptS p] = [("change" : Str), numS m, ptS q] from z)
      obtain ⟨z1, z⟩ := List.cons.inj z
      rw [numS_inj h.1 h2.1 z1, ptS_inj h.2 h2.2 (List.cons.inj z).1]
theorem ynS_inj {a b : Bool} (h : ynS a = ynS b) : a = b := by
  cases a <;> cases b <;> first | rfl | exact absurd h (by decide +kernel)
def hdW : Tx → Str
  | .told .. => "told"
  | .asked .. => "asked"
  | .sold .. => "sold"
  | .canc .. => "cancelled"
  | .chan .. => "changed"
theorem hdW_eq (x : Tx) : (bookW x).head? = some (hdW x) := by cases x <;> rfl
theorem txW_inj {x y : Tx} (h : TxF x) (h2 : TxF y) (z : txW x = txW y) : x = y := by
  rw [txW_eq, txW_eq] at z
  have hh : hdW x = hdW y := by
    have := congrArg List.head? z
    rw [hdW_eq, hdW_eq] at this
    injection this
  cases x with
  | told s n g =>
    cases y with
    | told s2 n2 g2 =>
      obtain ⟨_, z⟩ := List.cons.inj (show [("told" : Str), numS s, numS n, ynS g] = [("told" : Str), numS s2, numS n2, ynS g2] from z)
      obtain ⟨z1, z⟩ := List.cons.inj z
      obtain ⟨z2, z⟩ := List.cons.inj z
      rw [numS_inj h.1 h2.1 z1, numS_inj h.2 h2.2 z2, ynS_inj (List.cons.inj z).1]
    | _ => exact absurd hh (by simp only [hdW]; decide +kernel)
  | asked s n d =>
    cases y with
    | asked s2 n2 d2 =>
      obtain ⟨_, z⟩ := List.cons.inj (show ("asked" : Str) :: numS s :: numS n :: deW d = ("asked" : Str) :: numS s2 :: numS n2 :: deW d2 from z)
      obtain ⟨z1, z⟩ := List.cons.inj z
      obtain ⟨z2, z⟩ := List.cons.inj z
      rw [numS_inj h.1 h2.1 z1, numS_inj h.2.1 h2.2.1 z2, deW_inj h.2.2 h2.2.2 z]
    | _ => exact absurd hh (by simp only [hdW]; decide +kernel)
  | sold n p a b =>
    cases y with
    | sold n2 p2 a2 b2 =>
      obtain ⟨_, z⟩ := List.cons.inj (show [("sold" : Str), numS n, ptS p, numS a, numS b] = [("sold" : Str), numS n2, ptS p2, numS a2, numS b2] from z)
      obtain ⟨z1, z⟩ := List.cons.inj z
      obtain ⟨z2, z⟩ := List.cons.inj z
      obtain ⟨z3, z⟩ := List.cons.inj z
      rw [numS_inj h.1 h2.1 z1, ptS_inj h.2.1 h2.2.1 z2, numS_inj h.2.2.1 h2.2.2.1 z3, numS_inj h.2.2.2 h2.2.2.2 (List.cons.inj z).1]
    | _ => exact absurd hh (by simp only [hdW]; decide +kernel)
  | canc n a b =>
    cases y with
    | canc n2 a2 b2 =>
      obtain ⟨_, z⟩ := List.cons.inj (show [("cancelled" : Str), numS n, numS a, numS b] = [("cancelled" : Str), numS n2, numS a2, numS b2] from z)
      obtain ⟨z1, z⟩ := List.cons.inj z
      obtain ⟨z3, z⟩ := List.cons.inj z
      rw [numS_inj h.1 h2.1 z1, numS_inj h.2.1 h2.2.1 z3, numS_inj h.2.2 h2.2.2 (List.cons.inj z).1]
    | _ => exact absurd hh (by simp only [hdW]; decide +kernel)
  | chan n p a b c e =>
    cases y with
    | chan n2 p2 a2 b2 c2 e2 =>
      obtain ⟨_, z⟩ := List.cons.inj (show [("changed" : Str), numS n, ptS p, numS a, numS b, numS c, numS e] = [("changed" : Str), numS n2, ptS p2, numS a2, numS b2, numS c2, numS e2] from z)
      obtain ⟨z1, z⟩ := List.cons.inj z
      obtain ⟨z2, z⟩ := List.cons.inj z
      obtain ⟨z3, z⟩ := List.cons.inj z
      obtain ⟨z4, z⟩ := List.cons.inj z
      obtain ⟨z5, z⟩ := List.cons.inj z
      rw [numS_inj h.1 h2.1 z1, ptS_inj h.2.1 h2.2.1 z2, numS_inj h.2.2.1 h2.2.2.1 z3, numS_inj h.2.2.2.1 h2.2.2.2.1 z4, numS_inj h.2.2.2.2.1 h2.2.2.2.2.1 z5, numS_inj h.2.2.2.2.2 h2.2.2.2.2.2 (List.cons.inj z).1]
    | _ => exact absurd hh (by simp only [hdW]; decide +kernel)
theorem txS_inj {x y : Tx} (h : TxF x) (h2 : TxF y) (z : txS x = txS y) : x = y := by
  refine txW_inj h h2 ?_
  rw [← txS_split h, ← txS_split h2, z]
theorem allS_inj {l m : List Tx} (h : ∀ x ∈ l, TxF x) (h2 : ∀ x ∈ m, TxF x) (z : allS l = allS m) : l = m := by
  have e := allS_split h
  rw [z, allS_split h2] at e
  have e := (List.append_inj' e rfl).1
  exact (map_inj_on (R := TxF) (fun a b x y z => txS_inj x y z) h2 h e).symm
/-! ### lengths -/
theorem join_part {y : Str} : ∀ {ps : List Str} {p : Str}, p ∈ ps → p.length ≤ (Txt.join y ps).length
  | [a], p, h => by rw [List.mem_singleton.mp h, join_eq]; exact Nat.le_refl _
  | a :: b :: r, p, h => by
    rw [join_eq]
    show _ ≤ (a ++ y ++ Str.join y (b :: r)).length
    rw [← join_eq, len_app, len_app]
    rcases List.mem_cons.mp h with rfl | h
    · omega
    · have := join_part (y := y) h
      omega
theorem join_many {y : Str} (hy : 1 ≤ y.length) : ∀ ps : List Str, ps.length ≤ (Txt.join y ps).length + 1
  | [] => Nat.zero_le _
  | [a] => by show 1 ≤ _; omega
  | a :: b :: r => by
    rw [join_eq]
    show _ ≤ (a ++ y ++ Str.join y (b :: r)).length + 1
    rw [← join_eq, len_app, len_app]
    have := join_many hy (b :: r)
    rw [List.length_cons]
    omega
theorem split_len {y : Str} {s : Nat} (ey : tl y = [s]) (hk : y.cps.all (· < 256) = true) {x : Str} {n : Nat} (h : x.length ≤ n) : (Txt.split x y).length ≤ n + 1 ∧ ∀ p ∈ Txt.split x y, p.length ≤ n := by
  have e := (split_parts ey hk x).1
  generalize Txt.split x y = ps at e ⊢
  have l1 : 1 ≤ y.length := by rw [len_tl, ey]; exact Nat.le_refl _
  have a := join_many l1 ps
  rw [← e] at a
  refine ⟨by omega, fun p hp => ?_⟩
  have b := join_part (y := y) hp
  rw [← e] at b
  omega
theorem part_len {y : Str} {s : Nat} (ey : tl y = [s]) {x : Str} {n : Nat} (h : x.length ≤ n) : (Txt.partition x y).1.length ≤ n ∧ (Txt.partition x y).2.2.length ≤ n := by
  rcases part_cases ey x with ⟨_, e⟩ | ⟨a, b, _, ex, e⟩
  · rw [e]; exact ⟨h, Nat.zero_le _⟩
  · rw [e]
    rw [ex, len_app, len_app] at h
    exact ⟨by show a.length ≤ n; omega, by show b.length ≤ n; omega⟩
/-- the parts of a stay -/
theorem stay_at {x : Str} {k f e : Int} (kf : figS k) (ff : figS f) (ef : figS e) (lt : f < e) (h1 : (Txt.partition x ":").1 = numS k) (h2 : (Txt.partition (Txt.partition x ":").2.2 "-").1 = numS f) (h3 : (Txt.partition (Txt.partition x ":").2.2 "-").2.2 = numS e) :
    StF (k, f, e) ∧ x = stS (k, f, e) := by
  obtain ⟨st, sf, rfl⟩ := (stay_iff x).mpr ⟨k, f, e, kf, ff, ef, lt, h1, h2, h3⟩
  rw [stS_part sf] at h1 h2 h3
  have h1 : numS st.1 = numS k := h1
  have h2 : (Txt.partition (numS st.2.1 ++ "-" ++ numS st.2.2) "-").1 = numS f := h2
  have h3 : (Txt.partition (numS st.2.1 ++ "-" ++ numS st.2.2) "-").2.2 = numS e := h3
  rw [night_part sf] at h2 h3
  have h2 : numS st.2.1 = numS f := h2
  have h3 : numS st.2.2 = numS e := h3
  have : st = (k, f, e) := Prod.ext (numS_inj sf.k kf h1) (Prod.ext (numS_inj sf.f ff h2) (numS_inj sf.e ef h3))
  rw [← this]
  exact ⟨sf, rfl⟩
end

end MD
namespace MD
open PySem PySem.Spec PyProof.Rows L2
local macro_rules | `(tactic| walk_at "ne") => `(tactic| first | assumption | (apply Ne.symm; assumption) | exact ne_of_none (by assumption) (by assumption) | exact (ne_of_none (by assumption) (by assumption)).symm)
local macro_rules | `(tactic| walk_at "hp") => `(tactic| first | assumption | exact upd_same | (refine (upd_ne ?_).trans ?_; (focus walk_at "ne"); walk_at "hp"))
local macro_rules | `(tactic| walk_at "nm") => `(tactic| first | exact nmem_nil | exact nmem_one (by walk_at "ne") | exact nmem_cons (by walk_at "ne") (by walk_at "nm"))
section
variable {P : Program} {w : World} {K : PySem.W.Frag} {mg : Str → Option Value} {base : Heap}
open TL
/-! ### any text is read -/
theorem line_iff {x : Tx} (h : TxF x) (l : Str) : Txt.split l " " = txW x ↔ l = txS x := split_iff tl_blank (by decide +kernel) l (txW_ne x) fun p hp z => absurd (wo_txW h p hp 32 z) (by decide)
theorem text_iff {rs : List Tx} (h : ∀ x ∈ rs, TxF x) (t : Str) : Txt.split t "\n" = rs.map txS ++ [Str.empty] ↔ t = allS rs := by
  rw [allS_eq]
  refine split_iff tl_feed (by decide +kernel) t (fun e => nomatch (List.append_eq_nil_iff.mp e).2) fun p hp => ?_
  rcases List.mem_append.mp hp with z | z
  · obtain ⟨x, hx, rfl⟩ := List.mem_map.mp z
    exact txS_nofeed (h x hx)
  · rw [List.mem_singleton.mp z]
    exact fun z => nomatch z
def spPIntX (C : Addr) : Sp := fun vs H Q E => ∃ s : Str, vs = [.str s] ∧ s.length ≤ sizeLine ∧ (∀ n : Int, figS n → s = numS n → Q (.int n) H) ∧ ((¬ ∃ n : Int, figS n ∧ s = numS n) → E (.ref C) none H)
theorem c_parse_integer (T : Txt K mg) : CalX P w K mg base 1 "parse_integer" (spPIntX T.C_BadText) := by
  refine calX_of T.d_parse_integer sc_parse_integer (fun vs H Q E h => ?_) (fun f cdv A outer s H vs Q E hr h => ?_)
  · obtain ⟨n, rfl, _⟩ := h; rfl
  · obtain ⟨x, rfl, xl, q, qn⟩ := h
    have hu := hu_of hr
    refine ⟨_, (pss_cons (ps_if (PW.pt (pw_or (pt_cmpR op_gt (pe_callB call_len_str (by rfl) T.z_len (by decide +kernel) (pa_cons (pv 0) pa_nil)) (C8.pe_gc rfl T.c_MOST_DIGITS) (nomark _)) (pw_or (pt_not (pt_val (pe_m0 PySem.F.slot_str_isascii PySem.F.type_str_isascii mt_isascii (pv 0)))) (pw_or1 (pt_not (pt_val (pe_m0 PySem.F.slot_str_isdigit PySem.F.type_str_isdigit mt_isdigit (pv 0))))))))
  (pss_one (ps_rz T.x_BadText rfl (takes_of rfl rfl rfl rfl) rfl))
  pss_nil)
  (pss_cons (ps_if (PW.pt (pw_and (pt_val (pe_m1 PySem.F.slot_str_startswith PySem.F.type_str_startswith mt_startswith (pv 0) pe_str)) (pw_and1 (pt_cmpR op_ne (pv 0) pe_str (nomark _)))))
  (pss_one (ps_rz T.x_BadText rfl (takes_of rfl rfl rfl rfl) rfl))
  pss_nil)
  (pss_one (ps_ret (pe_callTy call_int_str (by rfl) T.z_int (by decide +kernel) (pa_cons (pv 0) pa_nil)))))), ?_⟩
    rw [num_iff] at qn
    by_cases l : x.length ≤ 12
    · refine ⟨_, rfl, x, rfl, xl, _, _, rfl, rfl, _, rfl, iteFe (decide_eq_false (by omega)) ?_⟩
      refine ⟨_, rfl, ⟨_, rfl⟩, x, rfl, rfl, trivial, _, rfl, ?_⟩
      cases ea : Txt.isascii x with
      | false => exact iteT (qn fun z => by rw [ea] at z; exact nomatch z.2.1)
      | true =>
        refine iteF ⟨_, rfl, ⟨_, rfl⟩, x, rfl, rfl, trivial, _, rfl, ?_⟩
        cases ed : Txt.isdigit x with
        | false => exact iteT (qn fun z => by rw [ed] at z; exact nomatch z.2.2.1)
        | true =>
          refine iteF ⟨_, rfl, ⟨_, rfl⟩, x, _, rfl, rfl, _, rfl, ?_⟩
          have fin : (Txt.startswith x "0" = true → x = "0") → ∀ (σ : L2.St), σ[0]? = some (some (.str x)) → tRet (tCB (fun xs H Q => ∃ a n, xs = [V.str a] ∧ intText? a = some n ∧ a.length ≤ 640 ∧ Q (V.int n) H) (tCons (tVar 0) tNil)) { nx := fun _ H' => Q V.non H', rt := Q, ct := fun _ _ => False, bk := fun _ _ => False } σ H := fun z σ e => by
            obtain ⟨n, nf, rfl⟩ := (num_iff x).mpr ⟨l, ea, ed, z⟩
            exact ⟨_, e, numS n, n, rfl, numS_val nf, by omega, q n nf rfl⟩
          cases sw : Txt.startswith x "0" with
          | false => exact iteF (iteF (fin (fun z => by rw [sw] at z; exact nomatch z) _ rfl))
          | true =>
            refine iteT ⟨_, rfl, rfl, _, rfl, ?_⟩
            by_cases z : x = "0"
            · exact iteFe (by rw [z]; decide +kernel) (fin (fun _ => z) _ rfl)
            · refine iteTe ?_ (qn fun y => z (y.2.2.2 sw))
              rw [Bool.not_eq_true', decide_eq_false_iff_not]
              exact fun e => z (by injection e)
    · refine ⟨_, rfl, x, rfl, xl, _, _, rfl, rfl, _, rfl, iteTe (decide_eq_true (by omega)) ?_⟩
      exact qn fun z => l z.1
end

end MD
namespace MD
open PySem PySem.Spec PyProof.Rows L2
local macro_rules | `(tactic| walk_at "ne") => `(tactic| first | assumption | (apply Ne.symm; assumption) | exact ne_of_none (by assumption) (by assumption) | exact (ne_of_none (by assumption) (by assumption)).symm)
local macro_rules | `(tactic| walk_at "hp") => `(tactic| first | assumption | exact upd_same | (refine (upd_ne ?_).trans ?_; (focus walk_at "ne"); walk_at "hp"))
local macro_rules | `(tactic| walk_at "nm") => `(tactic| first | exact nmem_nil | exact nmem_one (by walk_at "ne") | exact nmem_cons (by walk_at "ne") (by walk_at "nm"))
section
variable {P : Program} {w : World} {K : PySem.W.Frag} {mg : Str → Option Value} {base : Heap}
open TL
def spPIntsX (C : Addr) : Sp := fun vs H Q E => ∃ (l : Addr) (ss : List Str), vs = [.ref l] ∧ H l = some (.lst (ss.map V.str)) ∧ ss.length ≤ 100 ∧ (∀ y ∈ ss, y.length ≤ sizeLine) ∧
  (∀ ns : List Int, (∀ n ∈ ns, figS n) → ss = ns.map numS → ∀ (t : Addr) (H' : Hp), Kp [] H H' → H' t = some (.tup (ns.map V.int)) → Q (.ref t) H') ∧
  ((¬ ∃ ns : List Int, (∀ n ∈ ns, figS n) ∧ ss = ns.map numS) → ∀ H' : Hp, Kp [] H H' → E (.ref C) none H')
theorem c_parse_integers (T : Txt K mg) : CalX P w K mg base 2 "parse_integers" (spPIntsX T.C_BadText) := by
  have c_parse_integer := c_parse_integer (P := P) (w := w) (base := base) T
  refine calX_of T.d_parse_integers sc_parse_integers (fun vs H Q E h => ?_) (fun f cdv A outer s H vs Q E hr h => ?_)
  · obtain ⟨l, ns, rfl, _⟩ := h; rfl
  · obtain ⟨l, ss, rfl, hl, ln, sl, q, qn⟩ := h
    have hu := hu_of hr
    refine ⟨_, (pss_one (ps_ret (pe_callTy (ktupleK (K := K)) (by rfl) T.z_tuple (by decide +kernel) (pa_cons (ke_lcX rfl rfl (takes_of rfl rfl rfl rfl) rfl sc_parse_integers.nd (pilK (K := K) (pv 0)) (blkOk_by (own := [("word", 1)]) (N := ["words", "word"]) (sc := defScope s_parse_integers) (by decide +kernel)) (fun _ _ _ _ _ _ => (pg_name (i := 1) sc_parse_integers.nd rfl (Or.inl rfl))) (fun _ _ _ _ _ _ => pts_nil) (fun _ _ _ _ _ _ hp => (pe_cX (E := fun _ => _) c_parse_integer (hr.mono (by first | decide | omega)) rfl hp (pa_cons (pv 1) pa_nil)))) pa_nil)))), ?_⟩
    refine ⟨_, rfl, l, rfl, ⟨_, SqL.of hl⟩, fun D H1 hD k1 hD1 => ?_⟩
    refine kl_list (xs := ss.map V.str) (fun i acc H' => Kp [] H H' ∧ ∃ ms : List Int, (∀ n ∈ ms, figS n) ∧ ss.take i = ms.map numS ∧ acc = ms.map V.int) ⟨k1, [], (fun _ z => nomatch z), rfl, rfl⟩ (fun i acc H' z => SqL.of (z.1.at hl nmem_nil)) ?_ ?_
    · rintro i v acc H2 hv hDa ⟨k2, ms, mf, em, rfl⟩
      rw [List.getElem?_map] at hv
      cases en : ss[i]? with
      | none => rw [en] at hv; cases hv
      | some x =>
        rw [en] at hv
        cases hv
        have il : i < ss.length := (List.getElem?_eq_some_iff.mp en).1
        have ml : ms.length = i := by
          have := congrArg List.length em
          rw [List.length_map, List.length_take] at this
          omega
        refine ⟨rfl, yesT ⟨_, rfl, x, rfl, sl x (List.mem_of_getElem? en), fun n nf e => ⟨hDa, sz (m := 100) (by rw [List.length_map]; omega), fun H3 k3 h3 => ⟨k2.put k3 hD, ms ++ [n], fun m hm => ?_, ?_, ?_⟩⟩, fun nn => qn ?_ H2 k2⟩⟩
        · rcases List.mem_append.mp hm with z | z
          · exact mf m z
          · rw [List.mem_singleton.mp z]; exact nf
        · rw [take_sn en, List.map_append, em, e]; rfl
        · rw [List.map_append]; rfl
        · rintro ⟨ns, nf, e⟩
          rw [e, List.getElem?_map] at en
          cases e2 : ns[i]? with
          | none => rw [e2] at en; cases en
          | some n =>
            rw [e2] at en
            exact nn ⟨n, nf n (List.mem_of_getElem? e2), by injection en with z; exact z.symm⟩
    · rintro acc H2 hDa ⟨k2, ms, mf, em, rfl⟩
      rw [List.length_map, List.take_length] at em
      exact ⟨D, _, rfl, .inl ⟨SqL.of hDa, fun t H3 ht k3 h3 => q ms mf em t H3 (k2.trans k3) h3⟩⟩
end

end MD
namespace MD
open PySem PySem.Spec PyProof.Rows L2
local macro_rules | `(tactic| walk_at "ne") => `(tactic| first | assumption | (apply Ne.symm; assumption) | exact ne_of_none (by assumption) (by assumption) | exact (ne_of_none (by assumption) (by assumption)).symm)
local macro_rules | `(tactic| walk_at "hp") => `(tactic| first | assumption | exact upd_same | (refine (upd_ne ?_).trans ?_; (focus walk_at "ne"); walk_at "hp"))
local macro_rules | `(tactic| walk_at "nm") => `(tactic| first | exact nmem_nil | exact nmem_one (by walk_at "ne") | exact nmem_cons (by walk_at "ne") (by walk_at "nm"))
section
variable {P : Program} {w : World} {K : PySem.W.Frag} {mg : Str → Option Value} {base : Heap}
open TL
def spPStayX (C : Addr) : Sp := fun vs H Q E => ∃ x : Str, vs = [.str x] ∧ x.length ≤ 10000 ∧ (∀ s : Sy, StF s → x = stS s → ∀ (t : Addr) (H' : Hp), Kp [] H H' → H' t = some (.tup [.int s.1, .int s.2.1, .int s.2.2]) → Q (.ref t) H') ∧
  ((¬ ∃ s : Sy, StF s ∧ x = stS s) → ∀ H' : Hp, Kp [] H H' → E (.ref C) none H')
theorem three {α β : Type} {f : α → β} {a b c : β} : ∀ {l : List α}, [a, b, c] = l.map f → ∃ x y z, l = [x, y, z] ∧ a = f x ∧ b = f y ∧ c = f z
  | [], h => nomatch h
  | [_], h => nomatch (List.cons.inj h).2
  | [_, _], h => nomatch (List.cons.inj (List.cons.inj h).2).2
  | [x, y, z], h => ⟨x, y, z, rfl, (List.cons.inj h).1, (List.cons.inj (List.cons.inj h).2).1, (List.cons.inj (List.cons.inj (List.cons.inj h).2).2).1⟩
  | _ :: _ :: _ :: _ :: _, h => nomatch (List.cons.inj (List.cons.inj (List.cons.inj h).2).2).2
theorem c_parse_stay (T : Txt K mg) : CalX P w K mg base 3 "parse_stay" (spPStayX T.C_BadText) := by
  have c_parse_integers := c_parse_integers (P := P) (w := w) (base := base) T
  refine calX_of T.d_parse_stay sc_parse_stay (fun vs H Q E h => ?_) (fun f cdv A outer s H vs Q E hr h => ?_)
  · obtain ⟨s, rfl, _⟩ := h; rfl
  · obtain ⟨x, rfl, xl, q, qn⟩ := h
    have hu := hu_of hr
    refine ⟨_, (pss_cons (ps_asg (ke_partition (pv 0) pe_str) (pgtK (K := K) (n := 3) rfl (pgs_cons (pg_name (i := 1) sc_parse_stay.nd rfl (Or.inl rfl)) (pgs_cons (pg_name (i := 2) sc_parse_stay.nd rfl (Or.inl rfl)) (pgs_cons (pg_name (i := 3) sc_parse_stay.nd rfl (Or.inl rfl)) pgs_nil)))))
  (pss_cons (ps_asg (ke_partition (pv 3) pe_str) (pgtK (K := K) (n := 3) rfl (pgs_cons (pg_name (i := 4) sc_parse_stay.nd rfl (Or.inl rfl)) (pgs_cons (pg_name (i := 2) sc_parse_stay.nd rfl (Or.inl rfl)) (pgs_cons (pg_name (i := 5) sc_parse_stay.nd rfl (Or.inl rfl)) pgs_nil)))))
  (pss_cons (ps_set (i := 6) sc_parse_stay.nd rfl (Or.inl rfl) (pe_cX c_parse_integers (hr.mono (by first | decide | omega)) rfl (fun σ => passAt (takes_of rfl rfl rfl rfl) σ) (pa_cons (ke_lst (pa_cons (pv 1) (pa_cons (pv 4) (pa_cons (pv 5) pa_nil)))) pa_nil)))
  (pss_cons (ps_if (pt_cmpR op_ge (pe_ix (ixT (K := K)) (pv 6) pe_int (fun _ _ => rfl)) (pe_ix (ixT (K := K)) (pv 6) pe_int (fun _ _ => rfl)) (nomark _))
  (pss_one (ps_rz T.x_BadText rfl (takes_of rfl rfl rfl rfl) rfl))
  pss_nil)
  (pss_one (ps_ret (pv 6))))))), ?_⟩
    have b5 : 16000 ≤ sizeLine := by decide
    obtain ⟨l1, l2⟩ := part_len tl_colon xl
    obtain ⟨l3, l4⟩ := part_len tl_minus l2
    refine ⟨_, rfl, ⟨_, rfl⟩, x, _, rfl, rfl, (by decide +kernel), by omega, fun p1 H1 hp1 k1 h1 => ?_⟩
    refine ⟨p1, _, rfl, SqT.of h1, rfl, _, _, rfl, _, _, rfl, _, _, rfl, rfl, ?_⟩
    refine ⟨_, rfl, ⟨_, rfl⟩, (Txt.partition x ":").2.2, _, rfl, rfl, (by decide +kernel), by omega, fun p2 H2 hp2 k2 h2 => ?_⟩
    refine ⟨p2, _, rfl, SqT.of h2, rfl, _, _, rfl, _, _, rfl, _, _, rfl, rfl, ?_⟩
    refine ⟨_, rfl, _, rfl, _, rfl, (by show 3 ≤ sizeLine; decide), fun l H3 hl k3 h3 => ?_⟩
    have k13 := (k1.trans k2).trans k3
    refine ⟨l, [(Txt.partition x ":").1, (Txt.partition (Txt.partition x ":").2.2 "-").1, (Txt.partition (Txt.partition x ":").2.2 "-").2.2], rfl, h3, (by show 3 ≤ 100; decide), fun y hy => ?_, fun ns nf em t H4 k4 h4 => ?_, fun nn H4 k4 => qn ?_ H4 (k13.trans k4)⟩
    · simp only [List.mem_cons, List.not_mem_nil, or_false] at hy
      rcases hy with rfl | rfl | rfl <;> omega
    · obtain ⟨k, f, e, rfl, e1, e2, e3⟩ := three em
      have kf := nf k (by simp)
      have ff := nf f (by simp)
      have ef := nf e (by simp)
      have h4 : H4 t = some (.tup [.int k, .int f, .int e]) := h4
      refine ⟨_, rfl, t, _, _, _, rfl, rfl, SqT.of h4, rfl, _, rfl, t, _, _, _, rfl, rfl, SqT.of h4, rfl, _, _, rfl, rfl, _, rfl, ?_⟩
      by_cases lt : f < e
      · obtain ⟨sf, ex⟩ := stay_at kf ff ef lt e1 e2 e3
        exact iteFe (decide_eq_false (by omega)) ⟨_, rfl, q _ sf ex t H4 (k13.trans k4) h4⟩
      · refine iteTe (decide_eq_true (by omega)) (qn ?_ H4 (k13.trans k4))
        intro hs
        obtain ⟨k', f', e', _, ff', ef', lt', _, e2', e3'⟩ := (stay_iff x).mp hs
        rw [e2] at e2'
        rw [e3] at e3'
        rw [numS_inj ff ff' e2', numS_inj ef ef' e3'] at lt
        exact lt lt'
    · intro hs
      obtain ⟨k', f', e', kf', ff', ef', lt', e1', e2', e3'⟩ := (stay_iff x).mp hs
      refine nn ⟨[k', f', e'], fun n hn => ?_, ?_⟩
      · simp only [List.mem_cons, List.not_mem_nil, or_false] at hn
        rcases hn with rfl | rfl | rfl
        · exact kf'
        · exact ff'
        · exact ef'
      · rw [e1', e2', e3']; rfl
/-- what is no text -/
def NoTxt (K : PySem.W.Frag) (H : Hp) (v : V) : Prop := ∃ t : String, TyX K H v (.type t) ∧ kitB t "str" = some false
def spCheckTX (K : PySem.W.Frag) (C : Addr) : Sp := fun vs H Q E => ∃ v, vs = [v] ∧ (((∃ s : Str, v = .str s) ∧ Q .non H) ∨ (NoTxt K H v ∧ E (.ref C) none H))
theorem c_check_text (T : Txt K mg) : CalX P w K mg base 1 "check_text" (spCheckTX K T.C_BadText) := by
  refine calX_of T.d_check_text sc_check_text (fun vs H Q E h => ?_) (fun f cdv A outer s H vs Q E hr h => ?_)
  · obtain ⟨s, rfl, _⟩ := h; rfl
  · obtain ⟨v, rfl, h⟩ := h
    have hu := hu_of hr
    refine ⟨_, (pss_one (ps_if (pt_not (pt_val (pe_callB (isiK (K := K)) (by rfl) T.z_isinstance (by decide +kernel) (pa_cons (pv 0) (pa_cons (pe_bltn (v := .ty "str") (by rfl) T.z_str (by decide +kernel) rfl) pa_nil)))))
  (pss_one (ps_rz T.x_BadText rfl (takes_of rfl rfl rfl rfl) rfl))
  pss_nil)), ?_⟩
    rcases h with ⟨⟨s, rfl⟩, q⟩ | ⟨⟨t, ty, kb⟩, q⟩
    · exact ⟨_, rfl, _, _, _, _, true, rfl, .ty _, ty_scl (v := .str s) trivial, kit_ty (by show kitB "str" "str" = some true; decide +kernel), _, rfl, iteF q⟩
    · exact ⟨_, rfl, _, _, _, _, false, rfl, .ty _, ty, kit_ty kb, _, rfl, iteT q⟩
end

end MD
namespace MD
open PySem PySem.Spec PyProof.Rows L2
local macro_rules | `(tactic| walk_at "ne") => `(tactic| first | assumption | (apply Ne.symm; assumption) | exact ne_of_none (by assumption) (by assumption) | exact (ne_of_none (by assumption) (by assumption)).symm)
local macro_rules | `(tactic| walk_at "hp") => `(tactic| first | assumption | exact upd_same | (refine (upd_ne ?_).trans ?_; (focus walk_at "ne"); walk_at "hp"))
local macro_rules | `(tactic| walk_at "nm") => `(tactic| first | exact nmem_nil | exact nmem_one (by walk_at "ne") | exact nmem_cons (by walk_at "ne") (by walk_at "nm"))
section
variable {P : Program} {w : World} {K : PySem.W.Frag} {mg : Str → Option Value} {base : Heap}
open TL
theorem lay_sys : ∀ p : List Sy, PyData.canLayAll0 (Ds.py (p.map syD)) = true ∧ PyData.depthAll (Ds.py (p.map syD)) ≤ 1
  | [] => ⟨rfl, Nat.zero_le _⟩
  | s :: ss => by
    obtain ⟨h1, h2⟩ := lay_sys ss
    refine ⟨?_, ?_⟩
    · show (PyData.canLay0 (syD s).py && PyData.canLayAll0 (Ds.py (ss.map syD))) = true
      rw [h1]; rfl
    · show max (PyData.depth (syD s).py) (PyData.depthAll (Ds.py (ss.map syD))) ≤ 1
      exact Nat.max_le.mpr ⟨Nat.le_refl 1, h2⟩
theorem shaped_sys (l : Bool) (p : List Sy) : SeqAt.shaped (MD.D.sq l (p.map syD)).py = true := by
  obtain ⟨h1, h2⟩ := lay_sys p
  cases l <;>
  · show (PyData.canLayAll0 (Ds.py (p.map syD)) && decide (PyData.depthAll (Ds.py (p.map syD)) + 1 ≤ 64)) = true
    rw [h1, decide_eq_true (by omega)]; rfl
theorem eqv_sys : ∀ p q : List Sy, PyData.eqvAll (Ds.py (p.map syD)) (Ds.py (q.map syD)) = true → p = q
  | [], [], _ => rfl
  | [], _ :: _, h => absurd (show PyData.eqvAll [] (_ :: _) = true from h) (by unfold PyData.eqvAll; exact Bool.false_ne_true)
  | _ :: _, [], h => absurd (show PyData.eqvAll (_ :: _) [] = true from h) (by unfold PyData.eqvAll; exact Bool.false_ne_true)
  | a :: p, b :: q, h => by
    have h : PyData.eqvAll ((syD a).py :: Ds.py (p.map syD)) ((syD b).py :: Ds.py (q.map syD)) = true := h
    rw [PyData.eqvAll, Bool.and_eq_true] at h
    have e := eqv_sys p q h.2
    have h1 : (a.1 == b.1 && (a.2.1 == b.2.1 && (a.2.2 == b.2.2 && true))) = true := h.1
    simp only [Bool.and_eq_true, beq_iff_eq] at h1
    rw [e, Prod.ext h1.1 (Prod.ext h1.2.1 h1.2.2.1)]
theorem sy_sorted {p q : List Sy} (pm : q.Perm p) (h1 : q.Pairwise Sy.le) (h2 : p.Pairwise Sy.le) : q = p := by
  refine List.Perm.eq_of_pairwise (le := Sy.le) (fun a b _ _ x y => ?_) h1 h2 pm
  unfold Sy.le at x y
  exact Prod.ext (by omega) (Prod.ext (by omega) (by omega))
theorem hu64_of {A : Around} {k : Nat} (r : Room k A) : A.units + 64 < cLine := by
  have := r.un
  omega
theorem stays_of {x : Str} {ss : List Sy} (ok : ∀ s ∈ ss, StF s) (e : Txt.split x "+" = ss.map stS) {p : List Sy} (pf : PaF p) (ex : x = ptS p) : ss = p := by
  rw [ex, ptS_split pf.ne pf.ok] at e
  exact (map_inj_on (R := StF) (fun a b x y z => stS_inj x y z) pf.ok ok e).symm
def spPPartyX (K : PySem.W.Frag) (C : Addr) : Sp := fun vs H Q E => ∃ v : V, vs = [v] ∧ ((∃ x : Str, v = .str x ∧ x.length ≤ 10000 ∧
  (∀ p : List Sy, PaF p → x = ptS p → ∀ (t : Addr) (xs : List V) (H' : Hp), Kp [] H H' → H' t = some (.tup xs) → RepTs H' (p.map syD) xs → Q (.ref t) H') ∧
  ((¬ ∃ p : List Sy, PaF p ∧ x = ptS p) → ∀ H' : Hp, Kp [] H H' → E (.ref C) none H')) ∨ (NoTxt K H v ∧ E (.ref C) none H))
theorem c_parse_party (T : Txt K mg) : CalX P w K mg base 4 "parse_party" (spPPartyX K T.C_BadText) := by
  have c_check_text := c_check_text (P := P) (w := w) (base := base) T
  have c_parse_stay := c_parse_stay (P := P) (w := w) (base := base) T
  refine calX_of T.d_parse_party sc_parse_party (fun vs H Q E h => ?_) (fun f cdv A outer s H vs Q E hr h => ?_)
  · obtain ⟨p, rfl, _⟩ := h; rfl
  · obtain ⟨v, rfl, h⟩ := h
    have hu := hu_of hr
    refine ⟨_, (pss_cons (ps_expr (pe_cX c_check_text (hr.mono (by first | decide | omega)) rfl (fun σ => passAt (takes_of rfl rfl rfl rfl) σ) (pa_cons (pv 0) pa_nil)))
  (pss_cons (ps_set (i := 1) sc_parse_party.nd rfl (Or.inl rfl) (pe_callTy (ktupleK (K := K)) (by rfl) T.z_tuple (by decide +kernel) (pa_cons (ke_lcX rfl rfl (takes_of rfl rfl rfl rfl) rfl sc_parse_party.nd (pilK (K := K) (ke_split (pv 0) pe_str)) (blkOk_by (own := [("word", 2)]) (N := ["text", "party", "word"]) (sc := defScope s_parse_party) (by decide +kernel)) (fun _ _ _ _ _ _ => (pg_name (i := 2) sc_parse_party.nd rfl (Or.inl rfl))) (fun _ _ _ _ _ _ => pts_nil) (fun _ _ _ _ _ _ hp => (pe_cX (E := fun _ => _) c_parse_stay (hr.mono (by first | decide | omega)) rfl hp (pa_cons (pv 2) pa_nil)))) pa_nil)))
  (pss_cons (ps_if (PW.pt (pw_or (pt_cmpR op_gt (pe_callB (lenK (K := K)) (by rfl) T.z_len (by decide +kernel) (pa_cons (pv 1) pa_nil)) (C8.pe_gc rfl T.c_MOST_STAYS) (nomark _)) (pw_or1 (pt_cmpR (op_neD (hu64_of hr)) (pe_callB (ksortUT (K := K) (d := 3) (B := 1000000000000) (by decide)) (by rfl) T.z_sorted (by decide +kernel) (pa_cons (pv 1) pa_nil)) (pe_callTy (klistK (K := K)) (by rfl) T.z_list (by decide +kernel) (pa_cons (pv 1) pa_nil)) (nomark _)))))
  (pss_one (ps_rz T.x_BadText rfl (takes_of rfl rfl rfl rfl) rfl))
  pss_nil)
  (pss_one (ps_ret (pv 1)))))), ?_⟩
    have b5 : 16000 ≤ sizeLine := by decide
    rcases h with ⟨x, rfl, xl, q, qn⟩ | ⟨nt, qn⟩
    · refine ⟨_, rfl, _, rfl, .inl ⟨⟨x, rfl⟩, ?_⟩⟩
      refine ⟨_, rfl, ⟨_, rfl⟩, x, _, rfl, rfl, (by decide +kernel), by omega, fun sl H1 hsl k1 h1 => ?_⟩
      obtain ⟨wl, wp⟩ := split_len tl_plus (by decide +kernel) xl
      have ws : ∀ {p : List Sy}, PaF p → x = ptS p → Txt.split x "+" = p.map stS := fun pf ex => by rw [ex]; exact ptS_split pf.ne pf.ok
      refine ⟨sl, rfl, ⟨_, SqL.of h1⟩, fun D H2 hD k2 hD2 => ?_⟩
      refine kl_list (xs := (Txt.split x "+").map V.str) (fun i acc H' => Kp [] H1 H' ∧ ∃ ss : List Sy, (∀ s ∈ ss, StF s) ∧ (Txt.split x "+").take i = ss.map stS ∧ RepTs H' (ss.map syD) acc) ⟨k2, [], (fun _ z => nomatch z), rfl, RepTs.nil⟩ (fun i acc H' z => SqL.of (z.1.at h1 nmem_nil)) ?_ ?_
      · rintro i v acc H3 hv hDa ⟨k3, ss, sf, em, r3⟩
        rw [List.getElem?_map] at hv
        cases en : (Txt.split x "+")[i]? with
        | none => rw [en] at hv; cases hv
        | some y =>
          rw [en] at hv
          cases hv
          have ym := List.mem_of_getElem? en
          have il : i < (Txt.split x "+").length := (List.getElem?_eq_some_iff.mp en).1
          have sl' : ss.length = i := by
            have := congrArg List.length em
            rw [List.length_map, List.length_take] at this
            omega
          refine ⟨rfl, yesT ⟨_, rfl, y, rfl, wp y ym, fun s hs ey t H4 k4 h4 => ⟨k4.at hDa nmem_nil, sz (m := 10001) (by rw [r3.lenM, sl']; omega), fun H5 k5 h5 => ⟨(k3.trans k4).put k5 hD, ss ++ [s], fun z hz => ?_, ?_, ?_⟩⟩, fun nn H4 k4 => qn ?_ H4 ((k1.trans k3).trans k4)⟩⟩
          · rcases List.mem_append.mp hz with z1 | z1
            · exact sf z z1
            · rw [List.mem_singleton.mp z1]; exact hs
          · rw [take_sn en, em, List.map_append, ey]; rfl
          · rw [List.map_append]
            exact RepTs.snoc (syD_of (k5.tup _ _ h4)) ((r3.kp k4).kp k5)
          · rintro ⟨p, pf, ex⟩
            rw [ws pf ex, List.getElem?_map] at en
            cases e2 : p[i]? with
            | none => rw [e2] at en; cases en
            | some s =>
              rw [e2] at en
              exact nn ⟨s, pf.ok s (List.mem_of_getElem? e2), by injection en with z; exact z.symm⟩
      · rintro acc H3 hDa ⟨k3, ss, sf, em, r3⟩
        rw [List.length_map, List.take_length] at em
        have sl' : ss.length = (Txt.split x "+").length := by
          have := congrArg List.length em
          rw [List.length_map] at this
          omega
        refine ⟨D, acc, rfl, .inl ⟨SqL.of hDa, fun t H4 ht k4 h4 => ?_⟩⟩
        have al : acc.length = ss.length := r3.lenM
        have r4 := r3.kp k4
        have k14 := (k1.trans k3).trans k4
        refine ⟨_, rfl, t, acc, rfl, .inr (SqT.of h4), _, _, rfl, rfl, _, rfl, ?_⟩
        by_cases l4 : ss.length ≤ 4
        · refine iteFe (decide_eq_false (by omega)) ?_
          refine ⟨_, rfl, t, acc, rfl, SqT.of h4, by omega, fun x hx => ?_, fun ys hp hw => fun sl2 H5 hsl2 k5 h5 => ?_⟩
          · obtain ⟨i, hi, e⟩ := List.getElem_of_mem hx
            obtain ⟨s, hs, r1⟩ := r4.at (show acc[i]? = some x by rw [← e]; simp [hi])
            obtain ⟨t', rfl, ht'⟩ := syD_at r1
            have so := sf s (List.mem_of_getElem? hs)
            refine ⟨syI s, tupI_of ht', rfl, fun m hm => ?_⟩
            have := so.k0; have := so.k1; have := so.f0; have := so.lt; have := so.e1
            unfold syI at hm
            simp only [List.mem_cons, List.not_mem_nil, or_false] at hm
            rcases hm with rfl | rfl | rfl <;> omega
          · obtain ⟨pt, pp, rp⟩ := RepTs.perm hp r4
            have hok : ∀ s ∈ pt, StF s := fun s hs => sf s (pp.mem_iff.mp hs)
            have spt := sorted_sy rp hok hw
            refine ⟨_, rfl, t, acc, rfl, .inr (SqT.of (k5.tup _ _ h4)), fun sl3 H6 hsl3 k6 h6 => ?_⟩
            refine ⟨_, _, (Rep.lst (SqL.of (k6.at h5 nmem_nil)) ((rp.kp k5).kp k6).reps).dp, (Rep.lst (SqL.of h6) ((r4.kp k5).kp k6).reps).dp, shaped_sys true pt, shaped_sys true ss, _, rfl, ?_⟩
            have k16 := (k14.trans k5).trans k6
            by_cases so : ss.Pairwise Sy.le
            · have ept : pt = ss := sy_sorted pp spt so
              subst ept
              refine iteFe ?_ ?_
              · rw [SeqAt.eqv_refl _ (SeqAt.canLay_of_shaped (shaped_sys true pt))]; rfl
              · have w1 : 1 ≤ pt.length := by
                  have := (split_parts tl_plus (by decide +kernel) x).2.2
                  rw [sl']
                  exact List.length_pos_iff.mpr this
                have pf : PaF pt := ⟨w1, l4, hok, spt⟩
                have ex : x = ptS pt := by
                  obtain ⟨p, pf', ex'⟩ := (party_iff x).mpr ⟨pt, pf, em⟩
                  rw [stays_of hok em pf' ex']; exact ex'
                exact ⟨_, rfl, q pt pf ex t acc H6 k16 (k6.tup _ _ (k5.tup _ _ h4)) ((r4.kp k5).kp k6)⟩
            · refine iteTe ?_ (qn ?_ H6 k16)
              · cases e : PyData.eqv (MD.D.sq true (pt.map syD)).py (MD.D.sq true (ss.map syD)).py with
                | false => rfl
                | true =>
                  have := eqv_sys pt ss e
                  rw [this] at spt
                  exact absurd spt so
              · rintro ⟨p, pf, ex⟩
                rw [stays_of sf em pf ex] at so
                exact so pf.so
        · refine iteTe (decide_eq_true (by omega)) (qn ?_ H4 k14)
          rintro ⟨p, pf, ex⟩
          rw [stays_of sf em pf ex] at l4
          exact l4 pf.l4
    · exact ⟨_, rfl, _, rfl, .inr ⟨nt, qn⟩⟩
end

end MD
namespace MD
open PySem PySem.Spec PyProof.Rows L2
local macro_rules | `(tactic| walk_at "ne") => `(tactic| first | assumption | (apply Ne.symm; assumption) | exact ne_of_none (by assumption) (by assumption) | exact (ne_of_none (by assumption) (by assumption)).symm)
local macro_rules | `(tactic| walk_at "hp") => `(tactic| first | assumption | exact upd_same | (refine (upd_ne ?_).trans ?_; (focus walk_at "ne"); walk_at "hp"))
local macro_rules | `(tactic| walk_at "nm") => `(tactic| first | exact nmem_nil | exact nmem_one (by walk_at "ne") | exact nmem_cons (by walk_at "ne") (by walk_at "nm"))
section
variable {P : Program} {w : World} {K : PySem.W.Frag} {mg : Str → Option Value} {base : Heap}
open TL
def vStr (ss : List Str) : List V := ss.map V.str
def spPDeedX (C : Addr) : Sp := fun vs H Q E => ∃ (l : Addr) (ss : List Str), vs = [.ref l] ∧ H l = some (.lst (vStr ss)) ∧ ss ≠ [] ∧ (∀ y ∈ ss, y.length ≤ 10000) ∧
  (∀ e, DeF e → ss = deW e → ∀ (v : V) (H' : Hp), Kp [] H H' → RepT H' (deD e) v → Q v H') ∧ ((¬ ∃ e, DeF e ∧ ss = deW e) → ∀ H' : Hp, Kp [] H H' → E (.ref C) none H')
theorem one_of {α : Type} {l : List α} (h : l.length = 1) : ∃ a, l = [a] := by
  cases l with
  | nil => cases h
  | cons a r => exact ⟨a, by rw [List.length_eq_zero_iff.mp (Nat.succ.inj h)]⟩
theorem two_of {α : Type} {l : List α} (h : l.length = 2) : ∃ a b, l = [a, b] := by
  cases l with
  | nil => cases h
  | cons a r => obtain ⟨b, rfl⟩ := one_of (Nat.succ.inj h); exact ⟨a, b, rfl⟩
theorem c_parse_deed (T : Txt K mg) : CalX P w K mg base 5 "parse_deed" (spPDeedX T.C_BadText) := by
  have c_parse_integer := c_parse_integer (P := P) (w := w) (base := base) T
  have c_parse_party := c_parse_party (P := P) (w := w) (base := base) T
  refine calX_of T.d_parse_deed sc_parse_deed (fun vs H Q E h => ?_) (fun f cdv A outer s H vs Q E hr h => ?_)
  · obtain ⟨l, n, rfl, _⟩ := h; rfl
  · obtain ⟨l, ss, rfl, hl, ne, sl, q, qn⟩ := h
    have hu := hu_of hr
    refine ⟨_, (pss_cons (ps_set (i := 1) sc_parse_deed.nd rfl (Or.inl rfl) (pe_ix (ixL (K := K)) (pv 0) pe_int (fun _ _ => rfl)))
  (pss_cons (ps_if (PW.pt (pw_and (pt_cmpR op_eq (pv 1) pe_str (nomark _)) (pw_and1 (pt_cmpR op_eq (pe_callB (lenK (K := K)) (by rfl) T.z_len (by decide +kernel) (pa_cons (pv 0) pa_nil)) pe_int (nomark _)))))
  (pss_one (ps_ret (ke_tup (pa_cons pe_str (pa_cons (pe_cX c_parse_party (hr.mono (by first | decide | omega)) rfl (fun σ => passAt (takes_of rfl rfl rfl rfl) σ) (pa_cons (pe_ix (ixL (K := K)) (pv 0) pe_int (fun _ _ => rfl)) pa_nil)) pa_nil)))))
  pss_nil)
  (pss_cons (ps_if (PW.pt (pw_and (pt_cmpR op_eq (pv 1) pe_str (nomark _)) (pw_and1 (pt_cmpR op_eq (pe_callB (lenK (K := K)) (by rfl) T.z_len (by decide +kernel) (pa_cons (pv 0) pa_nil)) pe_int (nomark _)))))
  (pss_one (ps_ret (ke_tup (pa_cons pe_str (pa_cons (pe_cX c_parse_integer (hr.mono (by first | decide | omega)) rfl (fun σ => passAt (takes_of rfl rfl rfl rfl) σ) (pa_cons (pe_ix (ixL (K := K)) (pv 0) pe_int (fun _ _ => rfl)) pa_nil)) pa_nil)))))
  pss_nil)
  (pss_cons (ps_if (PW.pt (pw_and (pt_cmpR op_eq (pv 1) pe_str (nomark _)) (pw_and1 (pt_cmpR op_eq (pe_callB (lenK (K := K)) (by rfl) T.z_len (by decide +kernel) (pa_cons (pv 0) pa_nil)) pe_int (nomark _)))))
  (pss_one (ps_ret (ke_tup (pa_cons pe_str (pa_cons (pe_cX c_parse_integer (hr.mono (by first | decide | omega)) rfl (fun σ => passAt (takes_of rfl rfl rfl rfl) σ) (pa_cons (pe_ix (ixL (K := K)) (pv 0) pe_int (fun _ _ => rfl)) pa_nil)) (pa_cons (pe_cX c_parse_party (hr.mono (by first | decide | omega)) rfl (fun σ => passAt (takes_of rfl rfl rfl rfl) σ) (pa_cons (pe_ix (ixL (K := K)) (pv 0) pe_int (fun _ _ => rfl)) pa_nil)) pa_nil))))))
  pss_nil)
  (pss_one (ps_rz T.x_BadText rfl (takes_of rfl rfl rfl rfl) rfl)))))), ?_⟩
    have b5 : 16000 ≤ sizeLine := by decide
    obtain ⟨a, r, rfl⟩ := List.exists_cons_of_ne_nil ne
    have hl : H l = some (.lst (.str a :: vStr r)) := hl
    have len : ((V.str a :: vStr r).length : Int) = r.length + 1 := by unfold vStr; rw [List.length_cons, List.length_map]; rfl
    refine ⟨_, rfl, l, _, _, _, rfl, rfl, SqL.of hl, at_of (by decide) rfl, ?_⟩
    refine ⟨_, rfl, rfl, _, rfl, ?_⟩
    by_cases h1 : a = "wish"
    · subst h1
      refine iteTe (decide_eq_true rfl) ⟨_, rfl, l, _, rfl, .inl (SqL.of hl), rfl, _, rfl, ?_⟩
      by_cases h2 : r.length = 1
      · obtain ⟨b, rfl⟩ := one_of h2
        refine iteTe (decide_eq_true rfl) ?_
        refine ⟨_, rfl, l, _, _, _, rfl, rfl, SqL.of hl, rfl, _, rfl, .inl ⟨b, rfl, sl b (by simp), fun p pf ex t xs H1 k1 ht rx => ?_, fun nn H1 k1 => qn ?_ H1 k1⟩⟩
        · refine ⟨(by show 2 ≤ sizeLine; decide), fun t2 H2 ht2 k2 h2 => ?_⟩
          exact q (.wish p) pf (by rw [ex]; rfl) _ _ (k1.trans k2) (RepT.tup h2 (RepTs.cons RepT.str (RepTs.cons (RepT.tup (k2.tup _ _ ht) (rx.kp k2)) RepTs.nil)))
        · rintro ⟨e, ef, z⟩
          cases e with
          | wish p => exact nn ⟨p, ef, (List.cons.inj (List.cons.inj (show [("wish" : Str), b] = [("wish" : Str), ptS p] from z)).2).1⟩
          | cancel n => exact absurd (List.cons.inj (show [("wish" : Str), b] = [("cancel" : Str), numS n] from z)).1 (by decide +kernel)
          | change n p => exact absurd (congrArg List.length (show [("wish" : Str), b] = [("change" : Str), numS n, ptS p] from z)) (fun z => nomatch z)
      · refine iteFe (decide_eq_false fun z => h2 (by injection z with z; omega)) ?_
        refine ⟨_, rfl, rfl, _, rfl, iteFe (by decide +kernel) (iteF ?_)⟩
        refine ⟨_, rfl, rfl, _, rfl, iteFe (by decide +kernel) (iteF (qn ?_ H Kp.refl))⟩
        rintro ⟨e, ef, z⟩
        cases e with
        | wish p => exact h2 (by have := congrArg List.length (show ("wish" : Str) :: r = [("wish" : Str), ptS p] from z); simpa using this)
        | cancel n => exact absurd (List.cons.inj (show ("wish" : Str) :: r = [("cancel" : Str), numS n] from z)).1 (by decide +kernel)
        | change n p => exact absurd (List.cons.inj (show ("wish" : Str) :: r = [("change" : Str), numS n, ptS p] from z)).1 (by decide +kernel)
    · refine iteFe (decide_eq_false fun z => h1 (V.str.inj z)) (iteF ?_)
      refine ⟨_, rfl, rfl, _, rfl, ?_⟩
      by_cases h2 : a = "cancel"
      · subst h2
        refine iteTe (decide_eq_true rfl) ⟨_, rfl, l, _, rfl, .inl (SqL.of hl), rfl, _, rfl, ?_⟩
        by_cases h2 : r.length = 1
        · obtain ⟨b, rfl⟩ := one_of h2
          refine iteTe (decide_eq_true rfl) ?_
          refine ⟨_, rfl, l, _, _, _, rfl, rfl, SqL.of hl, rfl, b, rfl, Nat.le_trans (sl b (by simp)) (by omega), fun n nf ex => ?_, fun nn => qn ?_ H Kp.refl⟩
          · refine ⟨(by show 2 ≤ sizeLine; decide), fun t2 H2 ht2 k2 h2 => ?_⟩
            exact q (.cancel n) nf (by rw [ex]; rfl) _ _ k2 (RepT.tup h2 (RepTs.cons RepT.str (RepTs.cons RepT.int RepTs.nil)))
          · rintro ⟨e, ef, z⟩
            cases e with
            | wish p => exact absurd (List.cons.inj (show [("cancel" : Str), b] = [("wish" : Str), ptS p] from z)).1 (by decide +kernel)
            | cancel n => exact nn ⟨n, ef, (List.cons.inj (List.cons.inj (show [("cancel" : Str), b] = [("cancel" : Str), numS n] from z)).2).1⟩
            | change n p => exact absurd (congrArg List.length (show [("cancel" : Str), b] = [("change" : Str), numS n, ptS p] from z)) (fun z => nomatch z)
        · refine iteFe (decide_eq_false fun z => h2 (by injection z with z; omega)) ?_
          refine ⟨_, rfl, rfl, _, rfl, iteFe (by decide +kernel) (iteF (qn ?_ H Kp.refl))⟩
          rintro ⟨e, ef, z⟩
          cases e with
          | wish p => exact absurd (List.cons.inj (show ("cancel" : Str) :: r = [("wish" : Str), ptS p] from z)).1 (by decide +kernel)
          | cancel n => exact h2 (by have := congrArg List.length (show ("cancel" : Str) :: r = [("cancel" : Str), numS n] from z); simpa using this)
          | change n p => exact absurd (List.cons.inj (show ("cancel" : Str) :: r = [("change" : Str), numS n, ptS p] from z)).1 (by decide +kernel)
      · refine iteFe (decide_eq_false fun z => h2 (V.str.inj z)) (iteF ?_)
        refine ⟨_, rfl, rfl, _, rfl, ?_⟩
        by_cases h3 : a = "change"
        · subst h3
          refine iteTe (decide_eq_true rfl) ⟨_, rfl, l, _, rfl, .inl (SqL.of hl), rfl, _, rfl, ?_⟩
          by_cases h2 : r.length = 2
          · obtain ⟨b, c, rfl⟩ := two_of h2
            refine iteTe (decide_eq_true rfl) ?_
            have nope : ∀ {b' : Prop}, (∀ n p, DeF (.change n p) → b = numS n → c = ptS p → b') → (∃ e, DeF e ∧ [("change" : Str), b, c] = deW e) → b' := by
              rintro b' hb ⟨e, ef, z⟩
              cases e with
              | wish p => exact absurd (List.cons.inj (show [("change" : Str), b, c] = [("wish" : Str), ptS p] from z)).1 (by decide +kernel)
              | cancel n => exact absurd (List.cons.inj (show [("change" : Str), b, c] = [("cancel" : Str), numS n] from z)).1 (by decide +kernel)
              | change n p =>
                obtain ⟨_, z⟩ := List.cons.inj (show [("change" : Str), b, c] = [("change" : Str), numS n, ptS p] from z)
                obtain ⟨z1, z⟩ := List.cons.inj z
                exact hb n p ef z1 (List.cons.inj z).1
            refine ⟨_, rfl, l, _, _, _, rfl, rfl, SqL.of hl, rfl, b, rfl, Nat.le_trans (sl b (by simp)) (by omega), fun n nf ex => ?_, fun nn => qn (nope fun n p ef z1 _ => nn ⟨n, ef.1, z1⟩) H Kp.refl⟩
            refine ⟨_, rfl, l, _, _, _, rfl, rfl, SqL.of hl, rfl, _, rfl, .inl ⟨c, rfl, sl c (by simp), fun p pf ex2 t xs H1 k1 ht rx => ?_, fun nn H1 k1 => qn (nope fun n p ef _ z1 => nn ⟨p, ef.2, z1⟩) H1 k1⟩⟩
            refine ⟨(by show 3 ≤ sizeLine; decide), fun t2 H2 ht2 k2 h2 => ?_⟩
            exact q (.change n p) ⟨nf, pf⟩ (by rw [ex, ex2]; rfl) _ _ (k1.trans k2) (RepT.tup h2 (RepTs.cons RepT.str (RepTs.cons RepT.int (RepTs.cons (RepT.tup (k2.tup _ _ ht) (rx.kp k2)) RepTs.nil))))
          · refine iteFe (decide_eq_false fun z => h2 (by injection z with z; omega)) (qn ?_ H Kp.refl)
            rintro ⟨e, ef, z⟩
            cases e with
            | wish p => exact absurd (List.cons.inj (show ("change" : Str) :: r = [("wish" : Str), ptS p] from z)).1 (by decide +kernel)
            | cancel n => exact absurd (List.cons.inj (show ("change" : Str) :: r = [("cancel" : Str), numS n] from z)).1 (by decide +kernel)
            | change n p => exact h2 (by have := congrArg List.length (show ("change" : Str) :: r = [("change" : Str), numS n, ptS p] from z); simpa using this)
        · refine iteFe (decide_eq_false fun z => h3 (V.str.inj z)) (iteF (qn ?_ H Kp.refl))
          rintro ⟨e, ef, z⟩
          cases e with
          | wish p => exact h1 (List.cons.inj (show a :: r = [("wish" : Str), ptS p] from z)).1
          | cancel n => exact h2 (List.cons.inj (show a :: r = [("cancel" : Str), numS n] from z)).1
          | change n p => exact h3 (List.cons.inj (show a :: r = [("change" : Str), numS n, ptS p] from z)).1
def spLinesX (K : PySem.W.Frag) (C : Addr) : Sp := fun vs H Q E => ∃ v : V, vs = [v] ∧ ((∃ x : Str, v = .str x ∧ x.length ≤ 10000 ∧
  (∀ ls : List Str, Txt.split x "\n" = ls ++ [Str.empty] → ∀ (l : Addr) (H' : Hp), H l = none → Kp [] H H' → H' l = some (.lst (vStr ls)) → Q (.ref l) H') ∧
  ((¬ ∃ ls : List Str, Txt.split x "\n" = ls ++ [Str.empty]) → ∀ H' : Hp, Kp [] H H' → E (.ref C) none H')) ∨ (NoTxt K H v ∧ E (.ref C) none H))
theorem c_lines_of (T : Txt K mg) : CalX P w K mg base 2 "lines_of" (spLinesX K T.C_BadText) := by
  have c_check_text := c_check_text (P := P) (w := w) (base := base) T
  refine calX_of T.d_lines_of sc_lines_of (fun vs H Q E h => ?_) (fun f cdv A outer s H vs Q E hr h => ?_)
  · obtain ⟨n, rfl, _⟩ := h; rfl
  · obtain ⟨v, rfl, h⟩ := h
    have hu := hu_of hr
    refine ⟨_, (pss_cons (ps_expr (pe_cX c_check_text (hr.mono (by first | decide | omega)) rfl (fun σ => passAt (takes_of rfl rfl rfl rfl) σ) (pa_cons (pv 0) pa_nil)))
  (pss_cons (ps_set (i := 1) sc_lines_of.nd rfl (Or.inl rfl) (ke_split (pv 0) pe_str))
  (pss_cons (ps_if (pt_cmpR op_ne (pe_bm0 PySem.F.plainAttrs_list PySem.F.slot_list_pop PySem.F.type_list_pop mk_pop (pv 1)) pe_str (nomark _))
  (pss_one (ps_rz T.x_BadText rfl (takes_of rfl rfl rfl rfl) rfl))
  pss_nil)
  (pss_one (ps_ret (pv 1)))))), ?_⟩
    have b5 : 16000 ≤ sizeLine := by decide
    rcases h with ⟨x, rfl, xl, q, qn⟩ | ⟨nt, qn⟩
    · refine ⟨_, rfl, _, rfl, .inl ⟨⟨x, rfl⟩, ?_⟩⟩
      refine ⟨_, rfl, ⟨_, rfl⟩, x, _, rfl, rfl, (by decide +kernel), by omega, fun l H1 hl k1 h1 => ?_⟩
      have ne := (split_parts tl_feed (by decide +kernel) x).2.2
      have e := (List.dropLast_concat_getLast ne).symm
      generalize (Txt.split x "\n").getLast ne = z at e
      generalize hd : (Txt.split x "\n").dropLast = ls at e
      have h1' : H1 l = some (.lst (vStr ls ++ [.str z])) := by
        rw [h1, e]
        show some (HO.lst ((ls ++ [z]).map V.str)) = _
        rw [List.map_append]; rfl
      refine ⟨_, rfl, (.inl ⟨rfl, _, SqL.of h1'⟩), l, _, .str z, rfl, rfl, h1', (by rw [List.length_append]; exact List.getElem?_concat_length), fun H2 k2 h2 => ?_⟩
      rw [List.dropLast_concat] at h2
      refine ⟨rfl, _, rfl, ?_⟩
      by_cases ez : z = Str.empty
      · subst ez
        exact iteFe (by decide +kernel) ⟨_, rfl, q ls e l H2 hl (k1.put k2 hl) h2⟩
      · refine iteTe ?_ (qn ?_ H2 (k1.put k2 hl))
        · rw [Bool.not_eq_true', decide_eq_false_iff_not]
          exact fun e => ez (by injection e)
        · rintro ⟨ls', e'⟩
          rw [e] at e'
          exact ez (List.cons.inj (List.append_inj' e' rfl).2).1
    · exact ⟨_, rfl, _, rfl, .inr ⟨nt, qn⟩⟩
end

end MD
namespace MD
open PySem PySem.Spec PyProof.Rows L2
local macro_rules | `(tactic| walk_at "ne") => `(tactic| first | assumption | (apply Ne.symm; assumption) | exact ne_of_none (by assumption) (by assumption) | exact (ne_of_none (by assumption) (by assumption)).symm)
local macro_rules | `(tactic| walk_at "hp") => `(tactic| first | assumption | exact upd_same | (refine (upd_ne ?_).trans ?_; (focus walk_at "ne"); walk_at "hp"))
local macro_rules | `(tactic| walk_at "nm") => `(tactic| first | exact nmem_nil | exact nmem_one (by walk_at "ne") | exact nmem_cons (by walk_at "ne") (by walk_at "nm"))
section
variable {P : Program} {w : World} {K : PySem.W.Frag} {mg : Str → Option Value} {base : Heap}
open TL
def spRowX (b : Bool) (C : Addr) : Sp := fun vs H Q E => ∃ (l : Addr) (ss : List Str), vs = [.ref l] ∧ H l = some (.lst (vStr ss)) ∧ ss ≠ [] ∧ (∀ y ∈ ss, y.length ≤ 10000) ∧
  (∀ x, TxF x → x.bk = b → ss = txW x → ∀ (v : V) (H' : Hp), Kp [] H H' → RepT H' (txD x) v → Q v H') ∧ ((¬ ∃ x, TxF x ∧ x.bk = b ∧ ss = txW x) → ∀ H' : Hp, Kp [] H H' → E (.ref C) none H')
theorem hrow {w0 w1 w2 w3 : Str} {r : List Str} {x : Tx} (xf : TxF x) (xb : x.bk = false) (z : w0 :: w1 :: w2 :: w3 :: r = txW x) :
    (w0 = "told" ∧ ∃ s n g, figS s ∧ figS n ∧ w1 = numS s ∧ w2 = numS n ∧ w3 :: r = [ynS g]) ∨ (w0 = "asked" ∧ ∃ s n d, figS s ∧ figS n ∧ DeF d ∧ w1 = numS s ∧ w2 = numS n ∧ w3 :: r = deW d) := by
  rw [txW_eq] at z
  cases x with
  | sold n p a b => cases xb
  | canc n a b => cases xb
  | chan n p a b c e => cases xb
  | told s n g =>
    obtain ⟨z0, z⟩ := List.cons.inj (show _ = ("told" : Str) :: numS s :: numS n :: [ynS g] from z)
    obtain ⟨z1, z⟩ := List.cons.inj z
    obtain ⟨z2, z⟩ := List.cons.inj z
    exact .inl ⟨z0, s, n, g, xf.1, xf.2, z1, z2, z⟩
  | asked s n d =>
    obtain ⟨z0, z⟩ := List.cons.inj (show _ = ("asked" : Str) :: numS s :: numS n :: deW d from z)
    obtain ⟨z1, z⟩ := List.cons.inj z
    obtain ⟨z2, z⟩ := List.cons.inj z
    exact .inr ⟨z0, s, n, d, xf.1, xf.2.1, xf.2.2, z1, z2, z⟩
theorem hrow_len {x : Tx} (xb : x.bk = false) : 4 ≤ (txW x).length := by
  rw [txW_eq]
  cases x with
  | sold n p a b => cases xb
  | canc n a b => cases xb
  | chan n p a b c e => cases xb
  | told s n g => exact Nat.le_refl 4
  | asked s n d =>
    show 4 ≤ (("asked" : Str) :: numS s :: numS n :: deW d).length
    obtain ⟨a, r, e⟩ := deW_cons d
    rw [e]
    simp only [List.length_cons]
    omega
theorem four_of {α : Type} {l : List α} (h : 4 ≤ l.length) : ∃ a b c d r, l = a :: b :: c :: d :: r := by
  match l, h with
  | a :: b :: c :: d :: r, _ => exact ⟨a, b, c, d, r, rfl⟩
theorem c_parse_history_row (T : Txt K mg) : CalX P w K mg base 6 "parse_history_row" (spRowX false T.C_BadText) := by
  have c_parse_integer := c_parse_integer (P := P) (w := w) (base := base) T
  have c_parse_deed := c_parse_deed (P := P) (w := w) (base := base) T
  refine calX_of T.d_parse_history_row sc_parse_history_row (fun vs H Q E h => ?_) (fun f cdv A outer s H vs Q E hr h => ?_)
  · obtain ⟨l, n, rfl, _⟩ := h; rfl
  · obtain ⟨l, ss, rfl, hl, ne, sl, q, qn⟩ := h
    have hu := hu_of hr
    refine ⟨_, (pss_cons (ps_if (pt_cmpR op_lt (pe_callB (lenK (K := K)) (by rfl) T.z_len (by decide +kernel) (pa_cons (pv 0) pa_nil)) pe_int (nomark _))
  (pss_one (ps_rz T.x_BadText rfl (takes_of rfl rfl rfl rfl) rfl))
  pss_nil)
  (pss_cons (ps_par3 (i := 1) (j := 2) (l := 3) rfl sc_parse_history_row.nd rfl rfl rfl (by decide) (by decide) (by decide) rfl rfl rfl (pa_cons (pe_ix (ixL (K := K)) (pv 0) pe_int (fun _ _ => rfl)) (pa_cons (pe_cX c_parse_integer (hr.mono (by first | decide | omega)) rfl (fun σ => passAt (takes_of rfl rfl rfl rfl) σ) (pa_cons (pe_ix (ixL (K := K)) (pv 0) pe_int (fun _ _ => rfl)) pa_nil)) (pa_cons (pe_cX c_parse_integer (hr.mono (by first | decide | omega)) rfl (fun σ => passAt (takes_of rfl rfl rfl rfl) σ) (pa_cons (pe_ix (ixL (K := K)) (pv 0) pe_int (fun _ _ => rfl)) pa_nil)) pa_nil))) rfl)
  (pss_cons (ps_if (pt_cmpR op_eq (pv 1) pe_str (nomark _))
  (pss_one (ps_ret (ke_tup (pa_cons pe_str (pa_cons (pv 2) (pa_cons (pv 3) (pa_cons (pe_cX c_parse_deed (hr.mono (by first | decide | omega)) rfl (fun σ => passAt (takes_of rfl rfl rfl rfl) σ) (pa_cons (pe_slice (kslL (K := K)) (pv 0) (po_some pe_int) po_none) pa_nil)) pa_nil)))))))
  pss_nil)
  (pss_cons (ps_if (PW.pt (pw_and (pt_cmpR op_eq (pv 1) pe_str (nomark _)) (pw_and1 (pt_cmpR (op_ynInG (K := K) (hu9_of hr) rfl) (pe_slice (kslL (K := K)) (pv 0) (po_some pe_int) po_none) (ke_tup (pa_cons (ke_lst (pa_cons pe_str pa_nil)) (pa_cons (ke_lst (pa_cons pe_str pa_nil)) pa_nil))) (by rfl)))))
  (pss_one (ps_ret (ke_tup (pa_cons pe_str (pa_cons (pv 2) (pa_cons (pv 3) (pa_cons (pe_cmpR op_eq (pe_ix (ixL (K := K)) (pv 0) pe_int (fun _ _ => rfl)) pe_str (nomark _)) pa_nil)))))))
  pss_nil)
  (pss_one (ps_rz T.x_BadText rfl (takes_of rfl rfl rfl rfl) rfl)))))), ?_⟩
    have b5 : 16000 ≤ sizeLine := by decide
    have len : ((vStr ss).length : Int) = ss.length := by unfold vStr; rw [List.length_map]
    refine ⟨_, rfl, l, _, rfl, .inl (SqL.of hl), _, _, rfl, rfl, _, rfl, ?_⟩
    by_cases h4 : 4 ≤ ss.length
    · refine iteFe (decide_eq_false (by omega)) ?_
      obtain ⟨w0, w1, w2, w3, r, rfl⟩ := four_of h4
      have hl : H l = some (.lst (.str w0 :: .str w1 :: .str w2 :: .str w3 :: vStr r)) := hl
      have no : ∀ {b : Prop}, (∀ x, TxF x → x.bk = false → w0 :: w1 :: w2 :: w3 :: r = txW x → b) → (∃ x, TxF x ∧ x.bk = false ∧ w0 :: w1 :: w2 :: w3 :: r = txW x) → b := fun h ⟨x, a, b, c⟩ => h x a b c
      refine ⟨_, rfl, l, _, _, _, rfl, rfl, SqL.of hl, at_of (by decide) rfl, _, rfl, l, _, _, _, rfl, rfl, SqL.of hl, at_of (by decide) rfl, w1, rfl, Nat.le_trans (sl w1 (by simp)) (by omega), fun sN sf e1 => ?_, fun nn => qn (no fun x xf xb z => nn ?_) H Kp.refl⟩
      · refine ⟨_, rfl, l, _, _, _, rfl, rfl, SqL.of hl, at_of (by decide) rfl, w2, rfl, Nat.le_trans (sl w2 (by simp)) (by omega), fun n nf e2 => ⟨_, _, _, rfl, ?_⟩, fun nn => qn (no fun x xf xb z => nn ?_) H Kp.refl⟩
        · refine ⟨_, rfl, rfl, _, rfl, ?_⟩
          by_cases h0 : w0 = "asked"
          · refine iteTe (decide_eq_true (by rw [h0])) ?_
            refine ⟨_, rfl, _, rfl, _, rfl, 3, rfl, l, _, rfl, SqL.of hl, fun l2 H1 hl2 k1 h1 => ?_⟩
            rw [cut_drop (by decide)] at h1
            have h1 : H1 l2 = some (.lst (vStr (w3 :: r))) := h1
            refine ⟨l2, w3 :: r, rfl, h1, (fun z => nomatch z), fun y hy => sl y (List.mem_cons_of_mem _ (List.mem_cons_of_mem _ (List.mem_cons_of_mem _ hy))), fun d df ed v H2 k2 rv => ⟨(by show 4 ≤ sizeLine; decide), fun t H3 ht k3 h3 => ?_⟩, fun nn H2 k2 => qn (no fun x xf xb z => ?_) H2 (k1.trans k2)⟩
            · exact q (.asked sN n d) ⟨sf, nf, df⟩ rfl (by rw [txW_eq, h0, e1, e2, ed]; rfl) _ _ ((k1.trans k2).trans k3) (RepT.tup h3 (RepTs.cons RepT.str (RepTs.cons RepT.int (RepTs.cons RepT.int (RepTs.cons (rv.kp k3) RepTs.nil)))))
            · rcases hrow xf xb z with ⟨z0, _⟩ | ⟨_, _, _, d, _, _, df, _, _, e⟩
              · rw [h0] at z0; exact absurd z0 (by decide +kernel)
              · exact nn ⟨d, df, e⟩
          · refine iteFe (decide_eq_false fun z => h0 (V.str.inj z)) ?_
            refine ⟨_, rfl, rfl, _, rfl, ?_⟩
            by_cases h1 : w0 = "told"
            · refine iteTe (decide_eq_true (by rw [h1])) ?_
              refine ⟨_, rfl, 3, rfl, l, _, rfl, SqL.of hl, fun l2 H1 hl2 k1 h1' => ?_⟩
              rw [cut_drop (by decide)] at h1'
              have h1' : H1 l2 = some (.lst (vStr (w3 :: r))) := h1'
              refine ⟨(by show 1 ≤ sizeLine; decide), fun y1 H2 hy1 k2 h2 => ⟨(by show 1 ≤ sizeLine; decide), fun y2 H3 hy2 k3 h3 => ⟨(by show 2 ≤ sizeLine; decide), fun t1 H4 ht1 k4 h4 => ?_⟩⟩⟩
              have kk := (k2.trans k3).trans k4
              have rr : ∀ (zs : List Str) (Hx : Hp), Reps K Hx (zs.map fun y => D.v (.str y)) (vStr zs) := fun zs Hx => by
                induction zs with
                | nil => exact Reps.nil
                | cons a zs ih => exact Reps.cons Rep.str ih
              refine ⟨w3 :: r, Rep.lst (SqL.of (kk.at h1' nmem_nil)) (rr _ _), Rep.tup (SqT.of h4) (Reps.cons (Rep.lst (SqL.of ((k3.trans k4).at h2 nmem_nil)) (Reps.cons Rep.str Reps.nil)) (Reps.cons (Rep.lst (SqL.of (k4.at h3 nmem_nil)) (Reps.cons Rep.str Reps.nil)) Reps.nil)), _, rfl, ?_⟩
              by_cases hy : w3 :: r = [("yes" : Str)] ∨ w3 :: r = [("no" : Str)]
              · refine iteTe (decide_eq_true hy) ?_
                obtain ⟨g, eg⟩ : ∃ g, w3 :: r = [ynS g] := by
                  rcases hy with z | z
                  · exact ⟨true, z⟩
                  · exact ⟨false, z⟩
                obtain ⟨rfl, rfl⟩ := List.cons.inj eg
                have hl4 := (k1.trans kk).at hl nmem_nil
                refine ⟨_, rfl, _, rfl, _, rfl, l, _, _, _, rfl, rfl, SqL.of hl4, at_of (by decide) rfl, rfl, (by show 4 ≤ sizeLine; decide), fun t H5 ht k5 h5 => ?_⟩
                have e : decide (V.str (ynS g) = V.str "yes") = g := by cases g <;> decide +kernel
                rw [e] at h5
                exact q (.told sN n g) ⟨sf, nf⟩ rfl (by rw [txW_eq, h1, e1, e2]; rfl) _ _ ((k1.trans kk).trans k5) (RepT.tup h5 (RepTs.cons RepT.str (RepTs.cons RepT.int (RepTs.cons RepT.int (RepTs.cons RepT.bl RepTs.nil)))))
              · refine iteFe (decide_eq_false hy) (qn (no fun x xf xb z => ?_) H4 (k1.trans kk))
                rcases hrow xf xb z with ⟨_, _, _, g, _, _, _, _, e⟩ | ⟨z0, _⟩
                · exact hy (by cases g; exact .inr e; exact .inl e)
                · rw [h1] at z0; exact absurd z0 (by decide +kernel)
            · refine iteFe (decide_eq_false fun z => h1 (V.str.inj z)) (iteF (qn (no fun x xf xb z => ?_) H Kp.refl))
              rcases hrow xf xb z with ⟨z0, _⟩ | ⟨z0, _⟩
              · exact h1 z0
              · exact h0 z0
        · rcases hrow xf xb z with ⟨_, _, n, _, _, nf, _, e, _⟩ | ⟨_, _, n, _, _, nf, _, _, e, _⟩
          · exact ⟨n, nf, e⟩
          · exact ⟨n, nf, e⟩
      · rcases hrow xf xb z with ⟨_, n, _, _, nf, _, e, _, _⟩ | ⟨_, n, _, _, nf, _, _, e, _, _⟩
        · exact ⟨n, nf, e⟩
        · exact ⟨n, nf, e⟩
    · refine iteTe (decide_eq_true (by omega)) (qn ?_ H Kp.refl)
      rintro ⟨x, xf, xb, z⟩
      have := hrow_len xb
      rw [← z] at this
      exact h4 this
/-! ### the rows of a text -/
/-- every line written, line by line -/
theorem lines_rows {x : Str} {rs : List Tx} (ok : ∀ r ∈ rs, TxF r) (ex : x = allS rs) : Txt.split x "\n" = rs.map txS ++ [Str.empty] := by rw [ex]; exact allS_split ok
def spRowsX (K : PySem.W.Frag) (b : Bool) (C : Addr) : Sp := fun vs H Q E => ∃ v : V, vs = [v] ∧ ((∃ x : Str, v = .str x ∧ x.length ≤ 10000 ∧
  (∀ rs : List Tx, (∀ r ∈ rs, TxF r ∧ r.bk = b) → x = allS rs → rs.length ≤ 10001 → ∀ (l : Addr) (xs : List V) (H' : Hp), Kp [] H H' → H' l = some (.lst xs) → RepTs H' (rs.map txD) xs → Q (.ref l) H') ∧
  ((¬ ∃ rs : List Tx, (∀ r ∈ rs, TxF r ∧ r.bk = b) ∧ x = allS rs) → ∀ H' : Hp, Kp [] H H' → E (.ref C) none H')) ∨ (NoTxt K H v ∧ E (.ref C) none H))
/-- one line: what its words make -/
theorem line_is {x : Tx} (h : TxF x) {l : Str} (e : Txt.split l " " = txW x) : l = txS x := (line_iff h l).mp e
theorem c_parse_history (T : Txt K mg) : CalX P w K mg base 7 "parse_history" (spRowsX K false T.C_BadText) := by
  have c_lines_of := c_lines_of (P := P) (w := w) (base := base) T
  have c_parse_history_row := c_parse_history_row (P := P) (w := w) (base := base) T
  refine calX_of T.d_parse_history sc_parse_history (fun vs H Q E h => ?_) (fun f cdv A outer s H vs Q E hr h => ?_)
  · obtain ⟨v, rfl, _⟩ := h; rfl
  · obtain ⟨v, rfl, h⟩ := h
    have hu := hu_of hr
    refine ⟨_, (pss_one (ps_ret (ke_lcX rfl rfl (takes_of rfl rfl rfl rfl) rfl sc_parse_history.nd (pilK (K := K) (pe_cX c_lines_of (hr.mono (by first | decide | omega)) rfl (fun σ => passAt (takes_of rfl rfl rfl rfl) σ) (pa_cons (pv 0) pa_nil))) (blkOk_by (own := [("line", 1)]) (N := ["text", "line"]) (sc := defScope s_parse_history) (by decide +kernel)) (fun _ _ _ _ _ _ => (pg_name (i := 1) sc_parse_history.nd rfl (Or.inl rfl))) (fun _ _ _ _ _ _ => pts_nil) (fun _ _ _ _ _ _ hp => (pe_cX (E := fun _ => _) c_parse_history_row (hr.mono (by first | decide | omega)) rfl hp (pa_cons (ke_split (pv 1) pe_str) pa_nil)))))), ?_⟩
    have b5 : 16000 ≤ sizeLine := by decide
    rcases h with ⟨x, rfl, xl, q, qn⟩ | ⟨nt, qn⟩
    · obtain ⟨wl, wp⟩ := split_len tl_feed (by decide +kernel) xl
      refine ⟨_, rfl, _, rfl, .inl ⟨x, rfl, xl, fun ls els sl H1 hsl k1 h1 => ?_, fun nn H1 k1 => qn ?_ H1 k1⟩⟩
      · have lsl : ls.length ≤ 10000 := by
          rw [els, List.length_append] at wl
          simp only [List.length_cons, List.length_nil] at wl
          omega
        have lsp : ∀ y ∈ ls, y.length ≤ 10000 := fun y hy => wp y (by rw [els]; exact List.mem_append_left _ hy)
        refine ⟨sl, rfl, ⟨_, SqL.of h1⟩, fun D H2 hD k2 hD2 => ?_⟩
        refine kl_list (xs := vStr ls) (fun i acc H' => Kp [] H1 H' ∧ ∃ rs : List Tx, (∀ r ∈ rs, TxF r ∧ r.bk = false) ∧ ls.take i = rs.map txS ∧ RepTs H' (rs.map txD) acc) ⟨k2, [], (fun _ z => nomatch z), rfl, RepTs.nil⟩ (fun i acc H' z => SqL.of (z.1.at h1 nmem_nil)) ?_ ?_
        · rintro i v acc H3 hv hDa ⟨k3, rs, ok, em, r3⟩
          rw [show (vStr ls)[i]? = (ls[i]?).map V.str from List.getElem?_map ..] at hv
          cases en : ls[i]? with
          | none => rw [en] at hv; cases hv
          | some y =>
            rw [en] at hv
            cases hv
            have ym := List.mem_of_getElem? en
            have il : i < ls.length := (List.getElem?_eq_some_iff.mp en).1
            have rl : rs.length = i := by
              have := congrArg List.length em
              rw [List.length_map, List.length_take] at this
              omega
            have yl := lsp y ym
            obtain ⟨pl, pp⟩ := split_len tl_blank (by decide +kernel) yl
            refine ⟨rfl, yesT ⟨_, rfl, ⟨_, rfl⟩, y, _, rfl, rfl, (by decide +kernel), by omega, fun wd H4 hwd k4 h4 => ?_⟩⟩
            refine ⟨wd, Txt.split y " ", rfl, h4, (split_parts tl_blank (by decide +kernel) y).2.2, pp, fun z zf zb ez u H5 k5 ru => ?_, fun nn H5 k5 => qn ?_ H5 (((k1.trans k3).trans k4).trans k5)⟩
            · have k35 := k4.trans k5
              refine ⟨k35.at hDa nmem_nil, sz (m := 10001) (by rw [r3.lenM, rl]; omega), fun H6 k6 h6 => ⟨(k3.trans k35).put k6 hD, rs ++ [z], fun r hr' => ?_, ?_, ?_⟩⟩
              · rcases List.mem_append.mp hr' with z1 | z1
                · exact ok r z1
                · rw [List.mem_singleton.mp z1]; exact ⟨zf, zb⟩
              · rw [take_sn en, em, List.map_append, line_is zf ez]; rfl
              · rw [List.map_append]
                exact RepTs.snoc (ru.kp k6) ((r3.kp k35).kp k6)
            · rintro ⟨rs', ok', ex⟩
              rw [lines_rows (fun r h => (ok' r h).1) ex] at els
              have els := (List.append_inj' els rfl).1
              rw [← els, List.getElem?_map] at en
              cases e2 : rs'[i]? with
              | none => rw [e2] at en; cases en
              | some z =>
                rw [e2] at en
                obtain ⟨zf, zb⟩ := ok' z (List.mem_of_getElem? e2)
                have ey : txS z = y := by injection en
                exact nn ⟨z, zf, zb, by rw [← ey]; exact txS_split zf⟩
        · rintro acc H3 hDa ⟨k3, rs, ok, em, r3⟩
          rw [show (vStr ls).length = ls.length from List.length_map .., List.take_length] at em
          refine q rs ok ?_ ?_ D acc H3 (k1.trans k3) hDa r3
          · refine (text_iff (fun r h => (ok r h).1) x).mp ?_
            rw [els, em]
          · have := congrArg List.length em
            rw [List.length_map] at this
            omega
      · rintro ⟨rs, ok, ex⟩
        exact nn ⟨rs.map txS, lines_rows (fun r h => (ok r h).1) ex⟩
    · exact ⟨_, rfl, _, rfl, .inr ⟨nt, qn⟩⟩
end

end MD
namespace MD
open PySem PySem.Spec PyProof.Rows L2
local macro_rules | `(tactic| walk_at "ne") => `(tactic| first | assumption | (apply Ne.symm; assumption) | exact ne_of_none (by assumption) (by assumption) | exact (ne_of_none (by assumption) (by assumption)).symm)
local macro_rules | `(tactic| walk_at "hp") => `(tactic| first | assumption | exact upd_same | (refine (upd_ne ?_).trans ?_; (focus walk_at "ne"); walk_at "hp"))
local macro_rules | `(tactic| walk_at "nm") => `(tactic| first | exact nmem_nil | exact nmem_one (by walk_at "ne") | exact nmem_cons (by walk_at "ne") (by walk_at "nm"))
section
variable {P : Program} {w : World} {K : PySem.W.Frag} {mg : Str → Option Value} {base : Heap}
open TL
/-! ### books -/
def bkN : List (Str × Int) := [("sold", 5), ("cancelled", 4), ("changed", 7)]
def bkK : List Str := ["sold", "cancelled", "changed"]
theorem brow {a : Str} {r : List Str} {x : Tx} (xf : TxF x) (xb : x.bk = true) (z : a :: r = txW x) :
    (a = "sold" ∧ ∃ n p b c, figS n ∧ PaF p ∧ figS b ∧ figS c ∧ r = [numS n, ptS p, numS b, numS c]) ∨ (a = "cancelled" ∧ ∃ n b c, figS n ∧ figS b ∧ figS c ∧ r = [numS n, numS b, numS c]) ∨
    (a = "changed" ∧ ∃ n p b c d e, figS n ∧ PaF p ∧ figS b ∧ figS c ∧ figS d ∧ figS e ∧ r = [numS n, ptS p, numS b, numS c, numS d, numS e]) := by
  rw [txW_eq] at z
  cases x with
  | told s n g => cases xb
  | asked s n d => cases xb
  | sold n p b c =>
    obtain ⟨z0, z⟩ := List.cons.inj (show _ = ("sold" : Str) :: [numS n, ptS p, numS b, numS c] from z)
    exact .inl ⟨z0, n, p, b, c, xf.1, xf.2.1, xf.2.2.1, xf.2.2.2, z⟩
  | canc n b c =>
    obtain ⟨z0, z⟩ := List.cons.inj (show _ = ("cancelled" : Str) :: [numS n, numS b, numS c] from z)
    exact .inr (.inl ⟨z0, n, b, c, xf.1, xf.2.1, xf.2.2, z⟩)
  | chan n p b c d e =>
    obtain ⟨z0, z⟩ := List.cons.inj (show _ = ("changed" : Str) :: [numS n, ptS p, numS b, numS c, numS d, numS e] from z)
    exact .inr (.inr ⟨z0, n, p, b, c, d, e, xf.1, xf.2.1, xf.2.2.1, xf.2.2.2.1, xf.2.2.2.2.1, xf.2.2.2.2.2, z⟩)
theorem three_of {α : Type} {l : List α} (h : l.length = 3) : ∃ a b c, l = [a, b, c] := by
  match l, h with
  | [a, b, c], _ => exact ⟨a, b, c, rfl⟩
theorem fourx_of {α : Type} {l : List α} (h : l.length = 4) : ∃ a b c d, l = [a, b, c, d] := by
  match l, h with
  | [a, b, c, d], _ => exact ⟨a, b, c, d, rfl⟩
theorem six_of {α : Type} {l : List α} (h : l.length = 6) : ∃ a b c d e f, l = [a, b, c, d, e, f] := by
  match l, h with
  | [a, b, c, d, e, f], _ => exact ⟨a, b, c, d, e, f, rfl⟩
theorem c_parse_book_row (T : Txt K mg) (W_BOOK_WORDS : WrD w K T.A_BOOK_WORDS bkN) (N_BOOK_WORDS : WrN K T.A_BOOK_WORDS bkK) : CalX P w K mg base 6 "parse_book_row" (spRowX true T.C_BadText) := by
  have c_parse_integer := c_parse_integer (P := P) (w := w) (base := base) T
  have c_parse_integers := c_parse_integers (P := P) (w := w) (base := base) T
  have c_parse_party := c_parse_party (P := P) (w := w) (base := base) T
  refine calX_of T.d_parse_book_row sc_parse_book_row (fun vs H Q E h => ?_) (fun f cdv A outer s H vs Q E hr h => ?_)
  · obtain ⟨l, n, rfl, _⟩ := h; rfl
  · obtain ⟨l, ss, rfl, hl, ne, sl, q, qn⟩ := h
    have hu := hu_of hr
    refine ⟨_, (pss_cons (ps_set (i := 1) sc_parse_book_row.nd rfl (Or.inl rfl) (pe_ix (ixL (K := K)) (pv 0) pe_int (fun _ _ => rfl)))
  (pss_cons (ps_if (pt_cmpR op_ne (pe_callB (lenK (K := K)) (by rfl) T.z_len (by decide +kernel) (pa_cons (pv 0) pa_nil)) (ke_wgetO W_BOOK_WORDS N_BOOK_WORDS rfl rfl (C8.pe_gc rfl T.c_BOOK_WORDS) (pv 1) ⟨rfl, rfl, rfl, rfl⟩) (nomark _))
  (pss_one (ps_rz T.x_BadText rfl (takes_of rfl rfl rfl rfl) rfl))
  pss_nil)
  (pss_cons (ps_set (i := 2) sc_parse_book_row.nd rfl (Or.inl rfl) (pe_cX c_parse_integer (hr.mono (by first | decide | omega)) rfl (fun σ => passAt (takes_of rfl rfl rfl rfl) σ) (pa_cons (pe_ix (ixL (K := K)) (pv 0) pe_int (fun _ _ => rfl)) pa_nil)))
  (pss_cons (ps_if (pt_cmpR op_eq (pv 1) pe_str (nomark _))
  (pss_one (ps_ret (pe_op (kcatT (K := K)) (ke_tup (pa_cons pe_str (pa_cons (pv 2) pa_nil))) (pe_cX c_parse_integers (hr.mono (by first | decide | omega)) rfl (fun σ => passAt (takes_of rfl rfl rfl rfl) σ) (pa_cons (pe_slice (kslL (K := K)) (pv 0) (po_some pe_int) po_none) pa_nil)))))
  pss_nil)
  (pss_one (ps_ret (pe_op (kcatT (K := K)) (ke_tup (pa_cons (pv 1) (pa_cons (pv 2) (pa_cons (pe_cX c_parse_party (hr.mono (by first | decide | omega)) rfl (fun σ => passAt (takes_of rfl rfl rfl rfl) σ) (pa_cons (pe_ix (ixL (K := K)) (pv 0) pe_int (fun _ _ => rfl)) pa_nil)) pa_nil)))) (pe_cX c_parse_integers (hr.mono (by first | decide | omega)) rfl (fun σ => passAt (takes_of rfl rfl rfl rfl) σ) (pa_cons (pe_slice (kslL (K := K)) (pv 0) (po_some pe_int) po_none) pa_nil))))))))), ?_⟩
    have b5 : 16000 ≤ sizeLine := by decide
    obtain ⟨a, r, rfl⟩ := List.exists_cons_of_ne_nil ne
    have hl : H l = some (.lst (.str a :: vStr r)) := hl
    have len : ((V.str a :: vStr r).length : Int) = r.length + 1 := by unfold vStr; rw [List.length_cons, List.length_map]; rfl
    have no : ∀ {b : Prop}, (∀ x, TxF x → x.bk = true → a :: r = txW x → b) → (∃ x, TxF x ∧ x.bk = true ∧ a :: r = txW x) → b := fun h ⟨x, a, b, c⟩ => h x a b c
    refine ⟨_, rfl, l, _, _, _, rfl, rfl, SqL.of hl, at_of (by decide) rfl, ?_⟩
    refine ⟨_, rfl, l, _, rfl, .inl (SqL.of hl), rfl, _, rfl, a, rfl, ?_⟩
    by_cases h1 : a = "sold"
    · refine .inl ⟨5, by rw [h1]; exact .head _, rfl, _, rfl, ?_⟩
      by_cases h2 : r.length = 4
      · obtain ⟨w1, w2, w3, w4, rfl⟩ := fourx_of h2
        have hl : H l = some (.lst [.str a, .str w1, .str w2, .str w3, .str w4]) := hl
        have no1 : ∀ {b : Prop}, (∀ n p x y, figS n → PaF p → figS x → figS y → w1 = numS n → w2 = ptS p → w3 = numS x → w4 = numS y → b) → (∃ x, TxF x ∧ x.bk = true ∧ a :: [w1, w2, w3, w4] = txW x) → b := fun hb => no fun x xf xb z => by
          rcases brow xf xb z with ⟨_, n, p, b, c, nf, pf, bf, cf, e⟩ | ⟨z0, _⟩ | ⟨z0, _⟩
          · obtain ⟨e1, e⟩ := List.cons.inj e
            obtain ⟨e2, e⟩ := List.cons.inj e
            obtain ⟨e3, e⟩ := List.cons.inj e
            exact hb n p b c nf pf bf cf e1 e2 e3 (List.cons.inj e).1
          · rw [h1] at z0; exact absurd z0 (by decide +kernel)
          · rw [h1] at z0; exact absurd z0 (by decide +kernel)
        refine iteFe (congrArg (!·) (decide_eq_true rfl)) ?_
        refine ⟨_, rfl, l, _, _, _, rfl, rfl, SqL.of hl, rfl, w1, rfl, Nat.le_trans (sl w1 (by simp)) (by omega), fun n nf e1 => ?_, fun nn => qn (no1 fun n _ _ _ nf _ _ _ e _ _ _ => nn ⟨n, nf, e⟩) H Kp.refl⟩
        refine ⟨_, rfl, rfl, _, rfl, iteFe (decide_eq_false fun z => by rw [h1] at z; exact absurd (V.str.inj z) (by decide +kernel)) ?_⟩
        refine ⟨_, rfl, _, rfl, _, rfl, l, _, _, _, rfl, rfl, SqL.of hl, rfl, _, rfl, .inl ⟨w2, rfl, sl w2 (by simp), fun p pf e2 t xs H1 k1 ht rx => ⟨(by show 3 ≤ sizeLine; decide), fun t1 H2 ht1 k2 h2 => ?_⟩, fun nn H1 k1 => qn (no1 fun _ p _ _ _ pf _ _ _ e _ _ => nn ⟨p, pf, e⟩) H1 k1⟩⟩
        refine ⟨_, rfl, 3, rfl, l, _, rfl, SqL.of ((k1.trans k2).at hl nmem_nil), fun l2 H3 hl2 k3 h3 => ?_⟩
        rw [cut_drop (by decide)] at h3
        refine ⟨l2, [w3, w4], rfl, h3, (by show 2 ≤ 100; decide), fun y hy => Nat.le_trans (sl y (by simp only [List.mem_cons, List.not_mem_nil, or_false] at hy ⊢; rcases hy with rfl | rfl <;> simp)) (by omega), fun ns nsf em t2 H4 k4 h4 => ?_, fun nn H4 k4 => qn (no1 fun _ _ x y _ _ xf yf _ _ e3 e4 => nn ⟨[x, y], fun m hm => ?_, ?_⟩) H4 (((k1.trans k2).trans k3).trans k4)⟩
        · obtain ⟨x, y, rfl⟩ := two_of (l := ns) (by have := congrArg List.length em; rw [List.length_map] at this; exact this.symm)
          obtain ⟨e3, em⟩ := List.cons.inj em
          have e4 := (List.cons.inj em).1
          refine ⟨t1, t2, _, _, rfl, rfl, SqT.of ((k3.trans k4).tup _ _ h2), SqT.of h4, (fun z => by cases z), (by show 5 ≤ sizeLine; decide), (fun z => by cases z), fun _ => fun t3 H5 ht3 k5 h5 => ?_⟩
          have kk := ((k2.trans k3).trans k4).trans k5
          refine q (.sold n p x y) ⟨nf, pf, nsf x (by simp), nsf y (by simp)⟩ rfl ?_ _ _ (k1.trans kk) (RepT.tup h5 (RepTs.cons ?_ (RepTs.cons RepT.int (RepTs.cons (RepT.tup (kk.tup _ _ ht) (rx.kp kk)) (RepTs.cons RepT.int (RepTs.cons RepT.int RepTs.nil))))))
          · rw [txW_eq, h1, e1, e2, e3, e4]; rfl
          · rw [h1]; exact RepT.str
        · simp only [List.mem_cons, List.not_mem_nil, or_false] at hm
          rcases hm with rfl | rfl
          · exact xf
          · exact yf
        · rw [e3, e4]; rfl
      · refine iteTe (congrArg (!·) (decide_eq_false fun z => h2 (by injection z with z; omega))) (qn (no fun x xf xb z => ?_) H Kp.refl)
        rcases brow xf xb z with ⟨_, _, _, _, _, _, _, _, _, e⟩ | ⟨z0, _⟩ | ⟨z0, _⟩
        · exact h2 (by rw [e]; rfl)
        · rw [h1] at z0; exact absurd z0 (by decide +kernel)
        · rw [h1] at z0; exact absurd z0 (by decide +kernel)
    · by_cases h2 : a = "cancelled"
      · refine .inl ⟨4, by rw [h2]; exact .tail _ (.head _), rfl, _, rfl, ?_⟩
        by_cases h3 : r.length = 3
        · obtain ⟨w1, w3, w4, rfl⟩ := three_of h3
          have hl : H l = some (.lst [.str a, .str w1, .str w3, .str w4]) := hl
          have no1 : ∀ {b : Prop}, (∀ n x y, figS n → figS x → figS y → w1 = numS n → w3 = numS x → w4 = numS y → b) → (∃ x, TxF x ∧ x.bk = true ∧ a :: [w1, w3, w4] = txW x) → b := fun hb => no fun x xf xb z => by
            rcases brow xf xb z with ⟨z0, _⟩ | ⟨_, n, b, c, nf, bf, cf, e⟩ | ⟨z0, _⟩
            · exact absurd z0 h1
            · obtain ⟨e1, e⟩ := List.cons.inj e
              obtain ⟨e3, e⟩ := List.cons.inj e
              exact hb n b c nf bf cf e1 e3 (List.cons.inj e).1
            · rw [h2] at z0; exact absurd z0 (by decide +kernel)
          refine iteFe (congrArg (!·) (decide_eq_true rfl)) ?_
          refine ⟨_, rfl, l, _, _, _, rfl, rfl, SqL.of hl, rfl, w1, rfl, Nat.le_trans (sl w1 (by simp)) (by omega), fun n nf e1 => ?_, fun nn => qn (no1 fun n _ _ nf _ _ e _ _ => nn ⟨n, nf, e⟩) H Kp.refl⟩
          refine ⟨_, rfl, rfl, _, rfl, iteTe (decide_eq_true (by rw [h2])) ?_⟩
          refine ⟨_, rfl, (by show 2 ≤ sizeLine; decide), fun t1 H2 ht1 k2 h2' => ?_⟩
          refine ⟨_, rfl, 2, rfl, l, _, rfl, SqL.of (k2.at hl nmem_nil), fun l2 H3 hl2 k3 h3 => ?_⟩
          rw [cut_drop (by decide)] at h3
          refine ⟨l2, [w3, w4], rfl, h3, (by show 2 ≤ 100; decide), fun y hy => Nat.le_trans (sl y (by simp only [List.mem_cons, List.not_mem_nil, or_false] at hy ⊢; rcases hy with rfl | rfl <;> simp)) (by omega), fun ns nsf em t2 H4 k4 h4 => ?_, fun nn H4 k4 => qn (no1 fun _ x y _ xf yf _ e3 e4 => nn ⟨[x, y], fun m hm => ?_, ?_⟩) H4 ((k2.trans k3).trans k4)⟩
          · obtain ⟨x, y, rfl⟩ := two_of (l := ns) (by have := congrArg List.length em; rw [List.length_map] at this; exact this.symm)
            obtain ⟨e3, em⟩ := List.cons.inj em
            have e4 := (List.cons.inj em).1
            refine ⟨t1, t2, _, _, rfl, rfl, SqT.of ((k3.trans k4).tup _ _ h2'), SqT.of h4, (fun z => by cases z), (by show 4 ≤ sizeLine; decide), (fun z => by cases z), fun _ => fun t3 H5 ht3 k5 h5 => ?_⟩
            refine q (.canc n x y) ⟨nf, nsf x (by simp), nsf y (by simp)⟩ rfl ?_ _ _ (((k2.trans k3).trans k4).trans k5) (RepT.tup h5 (RepTs.cons RepT.str (RepTs.cons RepT.int (RepTs.cons RepT.int (RepTs.cons RepT.int RepTs.nil)))))
            rw [txW_eq, h2, e1, e3, e4]; rfl
          · simp only [List.mem_cons, List.not_mem_nil, or_false] at hm
            rcases hm with rfl | rfl
            · exact xf
            · exact yf
          · rw [e3, e4]; rfl
        · refine iteTe (congrArg (!·) (decide_eq_false fun z => h3 (by injection z with z; omega))) (qn (no fun x xf xb z => ?_) H Kp.refl)
          rcases brow xf xb z with ⟨z0, _⟩ | ⟨_, _, _, _, _, _, _, e⟩ | ⟨z0, _⟩
          · exact absurd z0 h1
          · exact h3 (by rw [e]; rfl)
          · rw [h2] at z0; exact absurd z0 (by decide +kernel)
      · by_cases h3 : a = "changed"
        · refine .inl ⟨7, by rw [h3]; exact .tail _ (.tail _ (.head _)), rfl, _, rfl, ?_⟩
          by_cases h4 : r.length = 6
          · obtain ⟨w1, w2, w3, w4, w5, w6, rfl⟩ := six_of h4
            have hl : H l = some (.lst [.str a, .str w1, .str w2, .str w3, .str w4, .str w5, .str w6]) := hl
            have no1 : ∀ {b : Prop}, (∀ n p x y u v, figS n → PaF p → figS x → figS y → figS u → figS v → w1 = numS n → w2 = ptS p → w3 = numS x → w4 = numS y → w5 = numS u → w6 = numS v → b) → (∃ x, TxF x ∧ x.bk = true ∧ a :: [w1, w2, w3, w4, w5, w6] = txW x) → b := fun hb => no fun x xf xb z => by
              rcases brow xf xb z with ⟨z0, _⟩ | ⟨z0, _⟩ | ⟨_, n, p, b, c, d, e', nf, pf, bf, cf, df, ef, e⟩
              · exact absurd z0 h1
              · exact absurd z0 h2
              · obtain ⟨e1, e⟩ := List.cons.inj e
                obtain ⟨e2, e⟩ := List.cons.inj e
                obtain ⟨e3, e⟩ := List.cons.inj e
                obtain ⟨e4, e⟩ := List.cons.inj e
                obtain ⟨e5, e⟩ := List.cons.inj e
                exact hb n p b c d e' nf pf bf cf df ef e1 e2 e3 e4 e5 (List.cons.inj e).1
            refine iteFe (congrArg (!·) (decide_eq_true rfl)) ?_
            refine ⟨_, rfl, l, _, _, _, rfl, rfl, SqL.of hl, rfl, w1, rfl, Nat.le_trans (sl w1 (by simp)) (by omega), fun n nf e1 => ?_, fun nn => qn (no1 fun n _ _ _ _ _ nf _ _ _ _ _ e _ _ _ _ _ => nn ⟨n, nf, e⟩) H Kp.refl⟩
            refine ⟨_, rfl, rfl, _, rfl, iteFe (decide_eq_false fun z => h2 (V.str.inj z)) ?_⟩
            refine ⟨_, rfl, _, rfl, _, rfl, l, _, _, _, rfl, rfl, SqL.of hl, rfl, _, rfl, .inl ⟨w2, rfl, sl w2 (by simp), fun p pf e2 t xs H1 k1 ht rx => ⟨(by show 3 ≤ sizeLine; decide), fun t1 H2 ht1 k2 h2 => ?_⟩, fun nn H1 k1 => qn (no1 fun _ p _ _ _ _ _ pf _ _ _ _ _ e _ _ _ _ => nn ⟨p, pf, e⟩) H1 k1⟩⟩
            refine ⟨_, rfl, 3, rfl, l, _, rfl, SqL.of ((k1.trans k2).at hl nmem_nil), fun l2 H3 hl2 k3 h3' => ?_⟩
            rw [cut_drop (by decide)] at h3'
            refine ⟨l2, [w3, w4, w5, w6], rfl, h3', (by show 4 ≤ 100; decide), fun y hy => Nat.le_trans (sl y (by simp only [List.mem_cons, List.not_mem_nil, or_false] at hy ⊢; rcases hy with rfl | rfl | rfl | rfl <;> simp)) (by omega), fun ns nsf em t2 H4 k4 h4 => ?_, fun nn H4 k4 => qn (no1 fun _ _ x y u v _ _ xf yf uf vf _ _ e3 e4 e5 e6 => nn ⟨[x, y, u, v], fun m hm => ?_, ?_⟩) H4 (((k1.trans k2).trans k3).trans k4)⟩
            · obtain ⟨x, y, u, v, rfl⟩ := fourx_of (l := ns) (by have := congrArg List.length em; rw [List.length_map] at this; exact this.symm)
              obtain ⟨e3, em⟩ := List.cons.inj em
              obtain ⟨e4, em⟩ := List.cons.inj em
              obtain ⟨e5, em⟩ := List.cons.inj em
              have e6 := (List.cons.inj em).1
              refine ⟨t1, t2, _, _, rfl, rfl, SqT.of ((k3.trans k4).tup _ _ h2), SqT.of h4, (fun z => by cases z), (by show 7 ≤ sizeLine; decide), (fun z => by cases z), fun _ => fun t3 H5 ht3 k5 h5 => ?_⟩
              have kk := ((k2.trans k3).trans k4).trans k5
              refine q (.chan n p x y u v) ⟨nf, pf, nsf x (by simp), nsf y (by simp), nsf u (by simp), nsf v (by simp)⟩ rfl ?_ _ _ (k1.trans kk) (RepT.tup h5 (RepTs.cons ?_ (RepTs.cons RepT.int (RepTs.cons (RepT.tup (kk.tup _ _ ht) (rx.kp kk)) (RepTs.cons RepT.int (RepTs.cons RepT.int (RepTs.cons RepT.int (RepTs.cons RepT.int RepTs.nil))))))))
              · rw [txW_eq, h3, e1, e2, e3, e4, e5, e6]; rfl
              · rw [h3]; exact RepT.str
            · simp only [List.mem_cons, List.not_mem_nil, or_false] at hm
              rcases hm with rfl | rfl | rfl | rfl
              · exact xf
              · exact yf
              · exact uf
              · exact vf
            · rw [e3, e4, e5, e6]; rfl
          · refine iteTe (congrArg (!·) (decide_eq_false fun z => h4 (by injection z with z; omega))) (qn (no fun x xf xb z => ?_) H Kp.refl)
            rcases brow xf xb z with ⟨z0, _⟩ | ⟨z0, _⟩ | ⟨_, _, _, _, _, _, _, _, _, _, _, _, _, e⟩
            · exact absurd z0 h1
            · exact absurd z0 h2
            · exact h4 (by rw [e]; rfl)
        · refine .inr ⟨fun z => ?_, rfl, _, rfl, iteTe (congrArg (!·) (decide_eq_false fun z => nomatch z)) (qn (no fun x xf xb z => ?_) H Kp.refl)⟩
          · simp only [bkK, List.mem_cons, List.not_mem_nil, or_false] at z
            rcases z with z | z | z
            · exact h1 z
            · exact h2 z
            · exact h3 z
          · rcases brow xf xb z with ⟨z0, _⟩ | ⟨z0, _⟩ | ⟨z0, _⟩
            · exact h1 z0
            · exact h2 z0
            · exact h3 z0
theorem c_parse_book (T : Txt K mg) (W_BOOK_WORDS : WrD w K T.A_BOOK_WORDS bkN) (N_BOOK_WORDS : WrN K T.A_BOOK_WORDS bkK) : CalX P w K mg base 7 "parse_book" (spRowsX K true T.C_BadText) := by
  have c_lines_of := c_lines_of (P := P) (w := w) (base := base) T
  have c_parse_book_row := c_parse_book_row (P := P) (w := w) (base := base) T W_BOOK_WORDS N_BOOK_WORDS
  refine calX_of T.d_parse_book sc_parse_book (fun vs H Q E h => ?_) (fun f cdv A outer s H vs Q E hr h => ?_)
  · obtain ⟨v, rfl, _⟩ := h; rfl
  · obtain ⟨v, rfl, h⟩ := h
    have hu := hu_of hr
    refine ⟨_, (pss_one (ps_ret (ke_lcX rfl rfl (takes_of rfl rfl rfl rfl) rfl sc_parse_book.nd (pilK (K := K) (pe_cX c_lines_of (hr.mono (by first | decide | omega)) rfl (fun σ => passAt (takes_of rfl rfl rfl rfl) σ) (pa_cons (pv 0) pa_nil))) (blkOk_by (own := [("line", 1)]) (N := ["text", "line"]) (sc := defScope s_parse_book) (by decide +kernel)) (fun _ _ _ _ _ _ => (pg_name (i := 1) sc_parse_book.nd rfl (Or.inl rfl))) (fun _ _ _ _ _ _ => pts_nil) (fun _ _ _ _ _ _ hp => (pe_cX (E := fun _ => _) c_parse_book_row (hr.mono (by first | decide | omega)) rfl hp (pa_cons (ke_split (pv 1) pe_str) pa_nil)))))), ?_⟩
    have b5 : 16000 ≤ sizeLine := by decide
    rcases h with ⟨x, rfl, xl, q, qn⟩ | ⟨nt, qn⟩
    · obtain ⟨wl, wp⟩ := split_len tl_feed (by decide +kernel) xl
      refine ⟨_, rfl, _, rfl, .inl ⟨x, rfl, xl, fun ls els sl H1 hsl k1 h1 => ?_, fun nn H1 k1 => qn ?_ H1 k1⟩⟩
      · have lsl : ls.length ≤ 10000 := by
          rw [els, List.length_append] at wl
          simp only [List.length_cons, List.length_nil] at wl
          omega
        have lsp : ∀ y ∈ ls, y.length ≤ 10000 := fun y hy => wp y (by rw [els]; exact List.mem_append_left _ hy)
        refine ⟨sl, rfl, ⟨_, SqL.of h1⟩, fun D H2 hD k2 hD2 => ?_⟩
        refine kl_list (xs := vStr ls) (fun i acc H' => Kp [] H1 H' ∧ ∃ rs : List Tx, (∀ r ∈ rs, TxF r ∧ r.bk = true) ∧ ls.take i = rs.map txS ∧ RepTs H' (rs.map txD) acc) ⟨k2, [], (fun _ z => nomatch z), rfl, RepTs.nil⟩ (fun i acc H' z => SqL.of (z.1.at h1 nmem_nil)) ?_ ?_
        · rintro i v acc H3 hv hDa ⟨k3, rs, ok, em, r3⟩
          rw [show (vStr ls)[i]? = (ls[i]?).map V.str from List.getElem?_map ..] at hv
          cases en : ls[i]? with
          | none => rw [en] at hv; cases hv
          | some y =>
            rw [en] at hv
            cases hv
            have ym := List.mem_of_getElem? en
            have il : i < ls.length := (List.getElem?_eq_some_iff.mp en).1
            have rl : rs.length = i := by
              have := congrArg List.length em
              rw [List.length_map, List.length_take] at this
              omega
            have yl := lsp y ym
            obtain ⟨pl, pp⟩ := split_len tl_blank (by decide +kernel) yl
            refine ⟨rfl, yesT ⟨_, rfl, ⟨_, rfl⟩, y, _, rfl, rfl, (by decide +kernel), by omega, fun wd H4 hwd k4 h4 => ?_⟩⟩
            refine ⟨wd, Txt.split y " ", rfl, h4, (split_parts tl_blank (by decide +kernel) y).2.2, pp, fun z zf zb ez u H5 k5 ru => ?_, fun nn H5 k5 => qn ?_ H5 (((k1.trans k3).trans k4).trans k5)⟩
            · have k35 := k4.trans k5
              refine ⟨k35.at hDa nmem_nil, sz (m := 10001) (by rw [r3.lenM, rl]; omega), fun H6 k6 h6 => ⟨(k3.trans k35).put k6 hD, rs ++ [z], fun r hr' => ?_, ?_, ?_⟩⟩
              · rcases List.mem_append.mp hr' with z1 | z1
                · exact ok r z1
                · rw [List.mem_singleton.mp z1]; exact ⟨zf, zb⟩
              · rw [take_sn en, em, List.map_append, line_is zf ez]; rfl
              · rw [List.map_append]
                exact RepTs.snoc (ru.kp k6) ((r3.kp k35).kp k6)
            · rintro ⟨rs', ok', ex⟩
              rw [lines_rows (fun r h => (ok' r h).1) ex] at els
              have els := (List.append_inj' els rfl).1
              rw [← els, List.getElem?_map] at en
              cases e2 : rs'[i]? with
              | none => rw [e2] at en; cases en
              | some z =>
                rw [e2] at en
                obtain ⟨zf, zb⟩ := ok' z (List.mem_of_getElem? e2)
                have ey : txS z = y := by injection en
                exact nn ⟨z, zf, zb, by rw [← ey]; exact txS_split zf⟩
        · rintro acc H3 hDa ⟨k3, rs, ok, em, r3⟩
          rw [show (vStr ls).length = ls.length from List.length_map .., List.take_length] at em
          refine q rs ok ?_ ?_ D acc H3 (k1.trans k3) hDa r3
          · refine (text_iff (fun r h => (ok r h).1) x).mp ?_
            rw [els, em]
          · have := congrArg List.length em
            rw [List.length_map] at this
            omega
      · rintro ⟨rs, ok, ex⟩
        exact nn ⟨rs.map txS, lines_rows (fun r h => (ok r h).1) ex⟩
    · exact ⟨_, rfl, _, rfl, .inr ⟨nt, qn⟩⟩
end

end MD
namespace MD
open PySem PySem.Spec PyProof.Rows L2
local macro_rules | `(tactic| walk_at "ne") => `(tactic| first | assumption | (apply Ne.symm; assumption) | exact ne_of_none (by assumption) (by assumption) | exact (ne_of_none (by assumption) (by assumption)).symm)
local macro_rules | `(tactic| walk_at "hp") => `(tactic| first | assumption | exact upd_same | (refine (upd_ne ?_).trans ?_; (focus walk_at "ne"); walk_at "hp"))
local macro_rules | `(tactic| walk_at "nm") => `(tactic| first | exact nmem_nil | exact nmem_one (by walk_at "ne") | exact nmem_cons (by walk_at "ne") (by walk_at "nm"))
section
variable {P : Program} {w : World} {K : PySem.W.Frag} {mg : Str → Option Value} {base : Heap}
open TL
/-! ### what a text is, or that it is none -/
def IsO {α β : Type} (F : α → Prop) (wr : α → β) (x : β) : Option α → Prop
  | some a => F a ∧ x = wr a
  | none => ¬ ∃ a, F a ∧ x = wr a
theorem isO_ex {α β : Type} (F : α → Prop) (wr : α → β) (x : β) : ∃ o, IsO F wr x o := by
  by_cases h : ∃ a, F a ∧ x = wr a
  · obtain ⟨a, h⟩ := h
    exact ⟨some a, h⟩
  · exact ⟨none, h⟩
theorem IsO.is {α β : Type} {F : α → Prop} {wr : α → β} {x : β} (inj : ∀ a b, F a → F b → wr a = wr b → a = b) {o : Option α} (h : IsO F wr x o) {a : α} (ha : F a) (e : x = wr a) : o = some a := by
  cases o with
  | none => exact absurd ⟨a, ha, e⟩ h
  | some b => rw [inj b a h.1 ha (h.2.symm.trans e)]
theorem IsO.no {α β : Type} {F : α → Prop} {wr : α → β} {x : β} {o : Option α} (h : IsO F wr x o) (n : ¬ ∃ a, F a ∧ x = wr a) : o = none := by
  cases o with
  | none => rfl
  | some b => exact absurd ⟨b, h.1, h.2⟩ n
def oV : Option Int → V
  | some n => .int n
  | none => .non
def oD {α : Type} (f : α → D) : Option α → D
  | some a => f a
  | none => .v .non
/-! ### the law's own reading -/
/-- a comprehension over a text -/
theorem kl_str {x : Str} {g : TG} {tt : TT} {te : TE} {vs : List Nat} {σ : L2.St} {H1 : Hp} {D : Addr} {Qd : Hp → Prop} (Pv : Nat → List V → Hp → Prop) (h0 : Pv 0 [] H1)
    (hs : ∀ i c acc H, x.cps[i]? = some c → H D = some (.lst acc) → Pv i acc H → Turn1 g tt te vs σ D acc (Pv (i + 1)) (.str ⟨#[c]⟩) H) (hd : ∀ acc H, H D = some (.lst acc) → Pv x.cps.size acc H → Qd H) : kLcW g tt te vs σ (Its x) D H1 Qd := by
  refine ⟨fun i m acc H => m = x.cps.size - i ∧ i ≤ x.cps.size ∧ Pv i acc H, ⟨x.cps.size, by simp, Nat.zero_le _, h0⟩, ?_⟩
  rintro i m acc H hD ⟨rfl, hi, p⟩
  by_cases hlt : i < x.cps.size
  · refine .inr ⟨hlt, Pv (i + 1), fun acc H' p' => ⟨x.cps.size - (i + 1), by omega, rfl, hlt, p'⟩, fun v H' y => ?_⟩
    obtain ⟨e, c, hc, ev⟩ := y
    subst e ev
    exact hs i c acc _ hc hD p
  · have e : i = x.cps.size := by omega
    subst e
    exact .inl ⟨Nat.le_refl _, hd acc H hD p⟩
def digC (c : Nat) : Prop := 48 ≤ c ∧ c ≤ 57
theorem dig_in : ∀ c : Nat, c ∈ (Str.ofString "0123456789").cps.toList ↔ digC c := by
  intro c
  have e : (Str.ofString "0123456789").cps.toList = [48, 49, 50, 51, 52, 53, 54, 55, 56, 57] := by decide +kernel
  rw [e]
  simp only [List.mem_cons, List.not_mem_nil, or_false]
  unfold digC
  omega
theorem head0_iff (x : Str) : Txt.startswith x "0" = true ↔ (tl x).head? = some 48 := ⟨sub_head, head_sub⟩
theorem num_law (s : Str) : (∃ n, figS n ∧ s = numS n) ↔ (1 ≤ s.length ∧ s.length ≤ 12 ∧ ¬ (1 < s.length ∧ (tl s).head? = some 48) ∧ ∀ c ∈ tl s, digC c) := by
  constructor
  · rintro ⟨n, nf, rfl⟩
    refine ⟨?_, numS_len nf, ?_, fun c hc => numS_digits nf.1 c hc⟩
    · rw [len_tl]; exact List.length_pos_iff.mpr (numS_ne nf.1)
    · rintro ⟨h1, h2⟩
      have := numS_zero nf.1 (head_sub h2)
      rw [this] at h1
      exact absurd h1 (by decide +kernel)
  · rintro ⟨h1, h2, h3, h4⟩
    have ne : tl s ≠ [] := fun z => by rw [len_tl, z] at h1; exact absurd h1 (by decide)
    obtain ⟨n, hn⟩ := numL_of _ (tl s) rfl h4 ne (by
      by_cases z : (tl s).head? = some 48
      · refine .inr ?_
        have l1 : (tl s).length = 1 := by
          rw [len_tl] at h1 h3
          by_cases y : 1 < (tl s).length
          · exact absurd ⟨y, z⟩ h3
          · omega
        obtain ⟨a, e⟩ := one_of l1
        rw [e] at z ⊢
        rw [Option.some.inj z]
      · exact .inl z)
    have big : n < 10 ^ 12 := by
      by_cases z : n < 10 ^ 12
      · exact z
      · have := numL_big 12 n (by omega)
        rw [← hn, ← len_tl] at this
        omega
    refine ⟨n, ⟨by omega, by omega⟩, ext_tl ?_⟩
    rw [tl_numS (by omega), hn]
    rfl
def spLNum : Sp := fun vs H Q _ => ∃ (s : Str) (o : Option Int), vs = [.str s] ∧ s.length ≤ 10000 ∧ IsO figS numS s o ∧ ∀ H' : Hp, Kp [] H H' → Q (oV o) H'
theorem c_law_read_number (T : Txt K mg) : Cal P w K mg base 1 "_law_read_number" spLNum := by
  refine cal_of T.d_law_read_number sc_law_read_number (fun vs H Q E h => ?_) (fun f cdv A outer s H vs Q E hr h => ?_)
  · obtain ⟨n, o, rfl, _⟩ := h; rfl
  · obtain ⟨s, o, rfl, sl, ho, q0⟩ := h
    have hu := hu_of hr
    refine ⟨_, (C8.pss_cut (ps_if (PW.pt (pw_or (pt_cmpR op_lt (pe_callB call_len_str (by rfl) T.z_len (by decide +kernel) (pa_cons (pv 0) pa_nil)) pe_int (nomark _)) (pw_or (pt_cmpR op_gt (pe_callB call_len_str (by rfl) T.z_len (by decide +kernel) (pa_cons (pv 0) pa_nil)) pe_int (nomark _)) (pw_or1 (PW.pt (pw_and (pt_cmpR op_gt (pe_callB call_len_str (by rfl) T.z_len (by decide +kernel) (pa_cons (pv 0) pa_nil)) pe_int (nomark _)) (pw_and1 (pt_cmpR op_eq (pe_ix ix_str (pv 0) pe_int (fun _ _ => rfl)) pe_str (nomark _)))))))))
  (pss_one (ps_ret pe_non))
  pss_nil)
  (pss_cons (ps_if (pt_cmpR op_gt (pe_callB (lenK (K := K)) (by rfl) T.z_len (by decide +kernel) (pa_cons (ke_lc rfl sc_law_read_number.nd (pi_str (pv 0)) (blkOk_by (own := [("sign", 1)]) (N := ["word", "sign"]) (sc := defScope s_law_read_number) (by decide +kernel)) (fun _ _ _ _ _ => (pg_name (i := 1) sc_law_read_number.nd rfl (Or.inl rfl))) (fun _ _ _ _ _ => (pts_one (pt_cmpR op_notIn_sign (pv 1) pe_str (by rfl)))) (fun _ _ _ _ _ => (pv 1))) pa_nil)) pe_int (nomark _))
  (pss_one (ps_ret pe_non))
  pss_nil)
  (pss_one (ps_ret (pe_callTy call_int_str (by rfl) T.z_int (by decide +kernel) (pa_cons (pv 0) pa_nil)))))), ?_⟩
    have q : ∀ n : Int, figS n → s = numS n → ∀ H' : Hp, Kp [] H H' → Q (.int n) H' := fun n nf e H' k => by
      have := ho.is (fun a b => numS_inj) nf e
      have := q0 H' k
      rw [ho.is (fun a b => numS_inj) nf e] at this
      exact this
    have qn : (¬ ∃ n : Int, figS n ∧ s = numS n) → ∀ H' : Hp, Kp [] H H' → Q .non H' := fun n H' k => by
      have := q0 H' k
      rw [ho.no n] at this
      exact this
    have b5 : 16000 ≤ sizeLine := by decide
    have no : ¬ (1 ≤ s.length ∧ s.length ≤ 12 ∧ ¬ (1 < s.length ∧ (tl s).head? = some 48) ∧ ∀ c ∈ tl s, digC c) → ¬ ∃ n, figS n ∧ s = numS n := fun h z => h ((num_law s).mp z)
    refine ⟨fun σ H' => H' = H ∧ σ = [some (.str s), none] ∧ 1 ≤ s.length ∧ s.length ≤ 12 ∧ ¬ (1 < s.length ∧ (tl s).head? = some 48), ?_, ?_⟩
    · refine ⟨_, rfl, s, rfl, by omega, _, _, rfl, rfl, _, rfl, ?_⟩
      by_cases a1 : 1 ≤ s.length
      · refine iteFe (decide_eq_false (by omega)) ?_
        refine ⟨_, rfl, s, rfl, by omega, _, _, rfl, rfl, _, rfl, ?_⟩
        by_cases a2 : s.length ≤ 12
        · refine iteFe (decide_eq_false (by omega)) ?_
          refine ⟨_, rfl, s, rfl, by omega, _, _, rfl, rfl, _, rfl, ?_⟩
          by_cases a3 : 1 < s.length
          · refine iteTe (decide_eq_true (by omega)) ?_
            obtain ⟨c, r, e⟩ : ∃ c r, tl s = c :: r := List.exists_cons_of_ne_nil fun z => by rw [len_tl, z] at a1; exact absurd a1 (by decide)
            have e' : s.cps.toList = c :: r := e
            refine ⟨_, rfl, s, 0, c, rfl, rfl, by omega, by rw [e']; exact at_of (by decide) rfl, rfl, _, rfl, ?_⟩
            by_cases a4 : c = 48
            · exact iteTe (decide_eq_true (by rw [a4]; decide +kernel)) (qn (no fun z => z.2.2.1 ⟨a3, by rw [e, a4]; rfl⟩) H Kp.refl)
            · refine iteFe (decide_eq_false fun z => a4 ?_) ⟨rfl, rfl, a1, a2, fun z => a4 ?_⟩
              · have z := congrArg Str.cps (V.str.inj z)
                have z2 : (#[c] : Array Nat).toList = (Str.ofString "0").cps.toList := congrArg Array.toList z
                have : [c] = [48] := z2.trans (by decide +kernel)
                exact (List.cons.inj this).1
              · rw [e] at z; exact Option.some.inj z.2
          · exact iteFe (decide_eq_false (by omega)) (iteF ⟨rfl, rfl, a1, a2, fun z => a3 z.1⟩)
        · exact iteTe (decide_eq_true (by omega)) (qn (no fun z => a2 z.2.1) H Kp.refl)
      · exact iteTe (decide_eq_true (by omega)) (qn (no fun z => a1 z.1) H Kp.refl)
    · rintro σ H' ⟨rfl, rfl, a1, a2, a3⟩
      refine ⟨_, rfl, s, rfl, fun D H1 hD k1 hD1 => ?_⟩
      refine kl_str (fun i acc H2 => Kp [] H' H2 ∧ acc.length ≤ i ∧ i ≤ s.cps.size ∧ (acc = [] ↔ ∀ c ∈ s.cps.toList.take i, digC c)) ⟨k1, Nat.le_refl _, Nat.zero_le _, by simp⟩ ?_ ?_
      · rintro i c acc H2 hc hDa ⟨k2, al, il, ac⟩
        have hc' : s.cps.toList[i]? = some c := by rw [Array.getElem?_toList]; exact hc
        have il' : i < s.cps.size := (Array.getElem?_eq_some_iff.mp hc).1
        have sz' : s.cps.size ≤ 10000 := sl
        refine ⟨rfl, _, rfl, c, _, rfl, rfl, _, rfl, ?_⟩
        by_cases dc : digC c
        · rw [decide_eq_true ((dig_in c).mpr dc)]
          refine iteF ⟨hDa, k2, by omega, il', ?_⟩
          rw [take_sn hc', ac]
          simp only [List.mem_append, List.mem_singleton]
          exact ⟨fun h x hx => hx.elim (h x) fun z => z ▸ dc, fun h x hx => h x (.inl hx)⟩
        · rw [decide_eq_false fun z => dc ((dig_in c).mp z)]
          refine iteT ⟨_, rfl, hDa, sz (m := 10000) (by omega), fun H3 k3 h3 => ⟨k2.put k3 hD, by rw [List.length_append]; show acc.length + 1 ≤ i + 1; omega, il', ?_⟩⟩
          rw [take_sn hc']
          exact ⟨fun z => absurd z (by simp), fun h => absurd (h c (List.mem_append_right _ (List.mem_singleton.mpr rfl))) dc⟩
      · rintro acc H2 hDa ⟨k2, al, _, ac⟩
        rw [show s.cps.size = s.cps.toList.length from Array.length_toList.symm, List.take_length] at ac
        have sz' : s.cps.size ≤ 10000 := sl
        refine ⟨D, acc, rfl, .inl (SqL.of hDa), _, _, rfl, rfl, _, rfl, ?_⟩
        by_cases dd : ∀ c ∈ s.cps.toList, digC c
        · have e := ac.mpr dd
          subst e
          obtain ⟨n, nf, rfl⟩ := (num_law s).mpr ⟨a1, a2, a3, dd⟩
          exact iteFe (decide_eq_false (by decide)) ⟨_, rfl, numS n, n, rfl, numS_val nf, by omega, q n nf rfl H2 k2⟩
        · have : acc ≠ [] := fun z => dd (ac.mp z)
          have := List.length_pos_iff.mpr this
          exact iteTe (decide_eq_true (by omega)) (qn (no fun z => dd z.2.2.2) H2 k2)
end

end MD
namespace MD
open PySem PySem.Spec PyProof.Rows L2
local macro_rules | `(tactic| walk_at "ne") => `(tactic| first | assumption | (apply Ne.symm; assumption) | exact ne_of_none (by assumption) (by assumption) | exact (ne_of_none (by assumption) (by assumption)).symm)
local macro_rules | `(tactic| walk_at "hp") => `(tactic| first | assumption | exact upd_same | (refine (upd_ne ?_).trans ?_; (focus walk_at "ne"); walk_at "hp"))
local macro_rules | `(tactic| walk_at "nm") => `(tactic| first | exact nmem_nil | exact nmem_one (by walk_at "ne") | exact nmem_cons (by walk_at "ne") (by walk_at "nm"))
section
variable {P : Program} {w : World} {K : PySem.W.Frag} {mg : Str → Option Value} {base : Heap}
open TL
mutual
theorem D.plain : ∀ d : D, PyData.plain d.py = true
  | .v u => by cases u <;> rfl
  | .sq true ds => by
    show PyData.plainAll (Ds.py ds) = true
    exact Ds.plain ds
  | .sq false ds => by
    show PyData.plainAll (Ds.py ds) = true
    exact Ds.plain ds
theorem Ds.plain : ∀ ds : List D, PyData.plainAll (Ds.py ds) = true
  | [] => rfl
  | d :: ds => by
    show (PyData.plain d.py && PyData.plainAll (Ds.py ds)) = true
    rw [D.plain d, Ds.plain ds]; rfl
end
/-- None in .. -/
def nonD : D → Bool
  | .v .non => true
  | _ => false
theorem eqv_non (d : D) (h : ∀ u, d = .v u → scl u) : PyData.eqv d.py .none = nonD d := by
  cases d with
  | v u => cases u <;> first | rfl | exact (h _ rfl).elim
  | sq l ds => cases l <;> rfl
theorem ds_non : ∀ {ds : List D}, (∀ d ∈ ds, ∀ u, d = .v u → scl u) → ((Ds.py ds).any fun z => PyData.eqv z .none) = ds.any nonD
  | [], _ => rfl
  | d :: ds, h => by
    show (PyData.eqv d.py .none || (Ds.py ds).any fun z => PyData.eqv z .none) = (nonD d || ds.any nonD)
    rw [eqv_non d (h d List.mem_cons_self), ds_non fun x hx => h x (List.mem_cons_of_mem _ hx)]
theorem reps_scl {H : Hp} : ∀ {ds : List D} {vs : List V}, RepTs H ds vs → ∀ d ∈ ds, ∀ u, d = .v u → scl u
  | [], _, _, _, h => nomatch h
  | d :: ds, vs, r, x, hx => by
    obtain ⟨v, r', rfl, h1, h2⟩ := r.consE
    rcases List.mem_cons.mp hx with rfl | hx
    · rintro u rfl
      unfold RepT at h1
      exact h1.2
    · exact reps_scl h2 x hx
/-- the reading of None in a tuple, None in a list -/
theorem non_in {H : Hp} {Q : V → Hp → Prop} {t : Addr} {vs : List V} {ds : List D} {l : Bool} (ht : SqB K H l t vs) (r : RepTs H ds vs) (q : Q (.bl (ds.any nonD)) H) : rInD K false .non (.ref t) H Q := by
  refine ⟨.v .non, l, ds, Rep.non, ?_, Ds.plain ds, rfl, Nat.le_trans (Nat.min_le_right _ _) (Nat.zero_le _), ?_⟩
  · cases l with
    | true => exact Rep.lst ht r.reps
    | false => exact Rep.tup ht r.reps
  · rw [if_neg (by decide)]
    show Q (.bl ((Ds.py ds).any fun z => PyData.eqv z .none)) H
    rw [ds_non (reps_scl r)]
    exact q
/-! ### stays and parties, by the law -/
def spLStay : Sp := fun vs H Q _ => ∃ (x : Str) (o : Option Sy), vs = [.str x] ∧ x.length ≤ 10000 ∧ IsO StF stS x o ∧ ∀ (v : V) (H' : Hp), Kp [] H H' → RepT H' (oD syD o) v → Q v H'
theorem split1 {y : Str} {s : Nat} (ey : tl y = [s]) (hk : y.cps.all (· < 256) = true) (x : Str) : ∃ a r, Txt.split x y = a :: r := List.exists_cons_of_ne_nil (split_parts ey hk x).2.2
theorem c_law_read_stay (T : Txt K mg) : Cal P w K mg base 2 "_law_read_stay" spLStay := by
  have c_law_read_number := c_law_read_number (P := P) (w := w) (base := base) T
  refine cal_of T.d_law_read_stay sc_law_read_stay (fun vs H Q E h => ?_) (fun f cdv A outer s H vs Q E hr h => ?_)
  · obtain ⟨n, o, rfl, _⟩ := h; rfl
  · obtain ⟨x, o, rfl, xl, ho, q⟩ := h
    have hu := hu_of hr
    refine ⟨_, (pss_cons (ps_set (i := 1) sc_law_read_stay.nd rfl (Or.inl rfl) (ke_split (pv 0) pe_str))
  (C8.pss_cut (ps_if (PW.pt (pw_or (pt_cmpR op_ne (pe_callB (lenK (K := K)) (by rfl) T.z_len (by decide +kernel) (pa_cons (pv 1) pa_nil)) pe_int (nomark _)) (pw_or1 (pt_cmpR op_ne (pe_callB (lenK (K := K)) (by rfl) T.z_len (by decide +kernel) (pa_cons (ke_split (pe_ix (ixL (K := K)) (pv 1) pe_int (fun _ _ => rfl)) pe_str) pa_nil)) pe_int (nomark _)))))
  (pss_one (ps_ret pe_non))
  pss_nil)
  (pss_cons (ps_set (i := 2) sc_law_read_stay.nd rfl (Or.inl rfl) (ke_split (pe_ix (ixL (K := K)) (pv 1) pe_int (fun _ _ => rfl)) pe_str))
  (pss_cons (ps_set (i := 3) sc_law_read_stay.nd rfl (Or.inl rfl) (ke_tup (pa_cons (pe_c c_law_read_number (hr.mono (by first | decide | omega)) rfl (pa_cons (pe_ix (ixL (K := K)) (pv 1) pe_int (fun _ _ => rfl)) pa_nil)) (pa_cons (pe_c c_law_read_number (hr.mono (by first | decide | omega)) rfl (pa_cons (pe_ix (ixL (K := K)) (pv 2) pe_int (fun _ _ => rfl)) pa_nil)) (pa_cons (pe_c c_law_read_number (hr.mono (by first | decide | omega)) rfl (pa_cons (pe_ix (ixL (K := K)) (pv 2) pe_int (fun _ _ => rfl)) pa_nil)) pa_nil)))))
  (pss_cons (ps_if (PW.pt (pw_or (pt_cmpR (inK (K := K)) pe_non (pv 3) (by rfl)) (pw_or1 (pt_cmpR op_ge (pe_ix (ixT (K := K)) (pv 3) pe_int (fun _ _ => rfl)) (pe_ix (ixT (K := K)) (pv 3) pe_int (fun _ _ => rfl)) (nomark _)))))
  (pss_one (ps_ret pe_non))
  pss_nil)
  (pss_one (ps_ret (pv 3)))))))), ?_⟩
    have b5 : 16000 ≤ sizeLine := by decide
    have qn : (¬ ∃ s : Sy, StF s ∧ x = stS s) → ∀ H' : Hp, Kp [] H H' → Q .non H' := fun n H' k => q _ H' k (by rw [ho.no n]; exact RepT.non)
    obtain ⟨wl, wp⟩ := split_len tl_colon (by decide +kernel) xl
    refine ⟨_, rfl, ⟨_, rfl⟩, x, _, rfl, rfl, (by decide +kernel), by omega, fun sl H1 hsl k1 h1 => ?_⟩
    refine ⟨fun σ H' => ∃ a b c d, σ = [some (.str x), some (.ref sl), none, none] ∧ Kp [] H H' ∧ H' sl = some (.lst [.str a, .str b]) ∧ Txt.split x ":" = [a, b] ∧ Txt.split b "-" = [c, d], ?_, ?_⟩
    · refine ⟨_, rfl, sl, _, rfl, .inl (SqL.of h1), rfl, _, rfl, ?_⟩
      by_cases l2 : (Txt.split x ":").length = 2
      · obtain ⟨a, b, e⟩ := two_of l2
        rw [e] at h1
        have bl : b.length ≤ 10000 := wp b (by rw [e]; simp)
        refine iteFe (congrArg (!·) (decide_eq_true (by rw [e]; rfl))) ?_
        refine ⟨_, rfl, sl, _, _, _, rfl, rfl, SqL.of h1, rfl, ⟨_, rfl⟩, b, _, rfl, rfl, (by decide +kernel), by omega, fun l2 H2 hl2 k2 h2 => ⟨l2, _, rfl, .inl (SqL.of h2), rfl, _, rfl, ?_⟩⟩
        by_cases l3 : (Txt.split b "-").length = 2
        · obtain ⟨c, d, e2⟩ := two_of l3
          refine iteFe (congrArg (!·) (decide_eq_true (by rw [e2]; rfl))) ?_
          exact ⟨a, b, c, d, rfl, k1.trans k2, k2.at h1 nmem_nil, e, e2⟩
        · refine iteTe (congrArg (!·) (decide_eq_false fun z => l3 (by injection z with z; rw [List.length_map] at z; omega))) (qn ?_ H2 (k1.trans k2))
          intro hs
          obtain ⟨b', k', f', e', _, _, _, _, z1, z2⟩ := (stay_law x).mp hs
          rw [e] at z1
          obtain ⟨_, z1⟩ := List.cons.inj z1
          rw [(List.cons.inj z1).1] at l3
          exact l3 (by rw [z2]; rfl)
      · refine iteTe (congrArg (!·) (decide_eq_false fun z => l2 (by injection z with z; rw [List.length_map] at z; omega))) (qn ?_ H1 k1)
        intro hs
        obtain ⟨b', k', f', e', _, _, _, _, z1, z2⟩ := (stay_law x).mp hs
        exact l2 (by rw [z1]; rfl)
    · rintro σ H2 ⟨a, b, c, d, rfl, k2, h2, e1, e2⟩
      have al : a.length ≤ 10000 := wp a (by rw [e1]; simp)
      have bl : b.length ≤ 10000 := wp b (by rw [e1]; simp)
      obtain ⟨_, wp2⟩ := split_len tl_minus (by decide +kernel) bl
      have cl : c.length ≤ 10000 := wp2 c (by rw [e2]; simp)
      have dl : d.length ≤ 10000 := wp2 d (by rw [e2]; simp)
      obtain ⟨oa, ha⟩ := isO_ex figS numS a
      obtain ⟨oc, hc⟩ := isO_ex figS numS c
      obtain ⟨od, hd⟩ := isO_ex figS numS d
      refine ⟨_, rfl, sl, _, _, _, rfl, rfl, SqL.of h2, rfl, ⟨_, rfl⟩, b, _, rfl, rfl, (by decide +kernel), by omega, fun l2 H3 hl2 k3 h3 => ?_⟩
      rw [e2] at h3
      have h3 : H3 l2 = some (.lst [.str c, .str d]) := h3
      refine ⟨_, rfl, sl, _, _, _, rfl, rfl, SqL.of (k3.at h2 nmem_nil), rfl, a, oa, rfl, al, ha, fun H4 k4 => ?_⟩
      refine ⟨_, rfl, l2, _, _, _, rfl, rfl, SqL.of (k4.at h3 nmem_nil), rfl, c, oc, rfl, cl, hc, fun H5 k5 => ?_⟩
      refine ⟨_, rfl, l2, _, _, _, rfl, rfl, SqL.of ((k4.trans k5).at h3 nmem_nil), rfl, d, od, rfl, dl, hd, fun H6 k6 => ⟨(by show 3 ≤ sizeLine; decide), fun t H7 ht k7 h7 => ?_⟩⟩
      have k27 := ((((k2.trans k3).trans k4).trans k5).trans k6).trans k7
      have fl : ∀ o : Option Int, flatV (oV o) = true := fun o => by cases o <;> rfl
      have no : (oa = none ∨ oc = none ∨ od = none) → ¬ ∃ s : Sy, StF s ∧ x = stS s := fun h hs => by
        obtain ⟨b', k', f', e', kf, ff, ef, _, z1, z2⟩ := (stay_law x).mp hs
        rw [e1] at z1
        obtain ⟨z0, z1⟩ := List.cons.inj z1
        rw [← (List.cons.inj z1).1, e2] at z2
        obtain ⟨z3, z4⟩ := List.cons.inj z2
        rcases h with h | h | h
        · rw [h] at ha; exact ha ⟨k', kf, z0⟩
        · rw [h] at hc; exact hc ⟨f', ff, z3⟩
        · rw [h] at hd; exact hd ⟨e', ef, (List.cons.inj z4).1⟩
      refine ⟨_, rfl, t, _, rfl, .inr (SqT.of h7), rfl, ?_, _, rfl, ?_⟩
      · simp only [List.all_cons, List.all_nil, fl]; rfl
      cases oa with
      | none => exact iteTe rfl (qn (no (.inl rfl)) H7 k27)
      | some k =>
        cases oc with
        | none => exact iteTe rfl (qn (no (.inr (.inl rfl))) H7 k27)
        | some f' =>
          cases od with
          | none => exact iteTe rfl (qn (no (.inr (.inr rfl))) H7 k27)
          | some e =>
            refine iteFe rfl ?_
            have h7 : H7 t = some (.tup [.int k, .int f', .int e]) := h7
            refine ⟨_, rfl, t, _, _, _, rfl, rfl, SqT.of h7, rfl, _, rfl, t, _, _, _, rfl, rfl, SqT.of h7, rfl, _, _, rfl, rfl, _, rfl, ?_⟩
            by_cases lt : f' < e
            · refine iteFe (decide_eq_false (by omega)) ⟨_, rfl, q _ H7 k27 ?_⟩
              have sf : StF (k, f', e) := ⟨ha.1.1, ha.1.2, hc.1.1, lt, hd.1.2⟩
              have ex : x = stS (k, f', e) := by
                obtain ⟨st, sf', ex⟩ := (stay_law x).mpr ⟨b, k, f', e, ha.1, hc.1, hd.1, lt, by rw [e1, ha.2], by rw [e2, hc.2, hd.2]⟩
                obtain ⟨b', k', f'', e', kf, ff, ef, _, z1, z2⟩ := (stay_law x).mp ⟨st, sf', ex⟩
                have j1 := (split_parts tl_colon (by decide +kernel) x).1
                rw [e1, join2] at j1
                have j2 := (split_parts tl_minus (by decide +kernel) b).1
                rw [e2, join2] at j2
                rw [j1, j2, ha.2, hc.2, hd.2]
                rfl
              rw [ho.is (fun a b => stS_inj) sf ex]
              exact syD_of h7
            · refine iteTe (decide_eq_true (by omega)) (qn ?_ H7 k27)
              intro hs
              obtain ⟨b', k', f'', e', kf, ff, ef, lt', z1, z2⟩ := (stay_law x).mp hs
              rw [e1] at z1
              obtain ⟨z0, z1⟩ := List.cons.inj z1
              rw [← (List.cons.inj z1).1, e2] at z2
              obtain ⟨z3, z4⟩ := List.cons.inj z2
              rw [hc.2] at z3
              have z4 := (List.cons.inj z4).1
              rw [hd.2] at z4
              rw [numS_inj hc.1 ff z3, numS_inj hd.1 ef z4] at lt
              exact lt lt'
end

end MD
namespace MD
open PySem PySem.Spec PyProof.Rows L2
local macro_rules | `(tactic| walk_at "ne") => `(tactic| first | assumption | (apply Ne.symm; assumption) | exact ne_of_none (by assumption) (by assumption) | exact (ne_of_none (by assumption) (by assumption)).symm)
local macro_rules | `(tactic| walk_at "hp") => `(tactic| first | assumption | exact upd_same | (refine (upd_ne ?_).trans ?_; (focus walk_at "ne"); walk_at "hp"))
local macro_rules | `(tactic| walk_at "nm") => `(tactic| first | exact nmem_nil | exact nmem_one (by walk_at "ne") | exact nmem_cons (by walk_at "ne") (by walk_at "nm"))
section
variable {P : Program} {w : World} {K : PySem.W.Frag} {mg : Str → Option Value} {base : Heap}
open TL
theorem SqB_lst {H : Hp} {a : Addr} {xs : List V} (h : H a = some (.lst xs)) : SqB K H true a xs := by unfold SqB; rw [if_pos rfl]; exact SqL.of h
/-- item by item -/
def EachIs {α : Type} (F : α → Prop) (wr : α → Str) (ws : List Str) (os : List (Option α)) (i : Nat) : Prop := os.length = i ∧ ∀ j y, j < i → ws[j]? = some y → ∃ o, os[j]? = some o ∧ IsO F wr y o
theorem EachIs.snoc {α : Type} {F : α → Prop} {wr : α → Str} {ws : List Str} {os : List (Option α)} {i : Nat} (h : EachIs F wr ws os i) {y : Str} (hy : ws[i]? = some y) {o : Option α} (ho : IsO F wr y o) : EachIs F wr ws (os ++ [o]) (i + 1) := by
  refine ⟨by rw [List.length_append, h.1]; rfl, fun j z hj hz => ?_⟩
  by_cases e : j = i
  · subst e
    rw [hy] at hz
    cases hz
    exact ⟨o, by rw [← h.1]; exact List.getElem?_concat_length, ho⟩
  · obtain ⟨o', h1, h2⟩ := h.2 j z (by omega) hz
    refine ⟨o', ?_, h2⟩
    rw [List.getElem?_append_left (by rw [h.1]; omega)]
    exact h1
theorem EachIs.none {α : Type} {F : α → Prop} {wr : α → Str} {ws : List Str} {os : List (Option α)} (h : EachIs F wr ws os ws.length) (hn : none ∈ os) : ¬ ∃ as : List α, (∀ a ∈ as, F a) ∧ ws = as.map wr := by
  rintro ⟨as, ok, e⟩
  obtain ⟨j, hj⟩ := List.mem_iff_getElem?.mp hn
  have jl : j < os.length := (List.getElem?_eq_some_iff.mp hj).1
  rw [h.1] at jl
  obtain ⟨o, h1, h2⟩ := h.2 j _ jl (List.getElem?_eq_getElem jl)
  rw [hj] at h1
  cases h1
  have e2 : ws[j]? = as[j]?.map wr := by rw [e, List.getElem?_map]
  rw [List.getElem?_eq_getElem jl] at e2
  cases e3 : as[j]? with
  | none => rw [e3] at e2; cases e2
  | some a =>
    rw [e3] at e2
    exact h2 ⟨a, ok a (List.mem_of_getElem? e3), Option.some.inj e2⟩
theorem somes_of {α : Type} : ∀ {os : List (Option α)}, none ∉ os → ∃ as : List α, os = as.map some
  | [], _ => ⟨[], rfl⟩
  | none :: r, h => absurd List.mem_cons_self h
  | some a :: r, h => by
    obtain ⟨as, e⟩ := somes_of (os := r) fun z => h (List.mem_cons_of_mem _ z)
    exact ⟨a :: as, by rw [e]; rfl⟩
theorem EachIs.all {α : Type} {F : α → Prop} {wr : α → Str} {ws : List Str} {os : List (Option α)} (h : EachIs F wr ws os ws.length) {as : List α} (e : os = as.map some) : (∀ a ∈ as, F a) ∧ ws = as.map wr := by
  have al : as.length = ws.length := by
    have := h.1
    rw [e, List.length_map] at this
    exact this
  have key : ∀ j a, as[j]? = some a → F a ∧ ws[j]? = some (wr a) := fun j a ha => by
    have jl : j < ws.length := by rw [← al]; exact (List.getElem?_eq_some_iff.mp ha).1
    obtain ⟨o, h1, h2⟩ := h.2 j _ jl (List.getElem?_eq_getElem jl)
    rw [e, List.getElem?_map, ha] at h1
    cases h1
    exact ⟨h2.1, by rw [List.getElem?_eq_getElem jl, h2.2]⟩
  refine ⟨fun a ha => ?_, ?_⟩
  · obtain ⟨j, hj⟩ := List.mem_iff_getElem?.mp ha
    exact (key j a hj).1
  · refine List.ext_getElem? fun j => ?_
    rw [List.getElem?_map]
    cases q : as[j]? with
    | none => exact List.getElem?_eq_none (by rw [← al]; exact List.getElem?_eq_none_iff.mp q)
    | some a => exact (key j a q).2
theorem any_non {α : Type} {f : α → D} (hf : ∀ a, nonD (f a) = false) : ∀ os : List (Option α), (os.map (oD f)).any nonD = true ↔ none ∈ os
  | [] => ⟨fun z => absurd z Bool.false_ne_true, fun z => nomatch z⟩
  | none :: r => ⟨fun _ => List.mem_cons_self, fun _ => rfl⟩
  | some a :: r => by
    have e : ((some a :: r).map (oD f)).any nonD = (nonD (f a) || (r.map (oD f)).any nonD) := rfl
    rw [e, hf a, Bool.false_or, any_non hf r]
    simp
def spLParty : Sp := fun vs H Q _ => ∃ (x : Str) (o : Option (List Sy)), vs = [.str x] ∧ x.length ≤ 10000 ∧ IsO PaF ptS x o ∧ ∀ (v : V) (H' : Hp), Kp [] H H' → RepT H' (oD ptD o) v → Q v H'
theorem c_law_read_party (T : Txt K mg) : Cal P w K mg base 3 "_law_read_party" spLParty := by
  have c_law_read_stay := c_law_read_stay (P := P) (w := w) (base := base) T
  refine cal_of T.d_law_read_party sc_law_read_party (fun vs H Q E h => ?_) (fun f cdv A outer s H vs Q E hr h => ?_)
  · obtain ⟨n, o, rfl, _⟩ := h; rfl
  · obtain ⟨x, o, rfl, xl, ho, q⟩ := h
    have hu := hu_of hr
    refine ⟨_, (pss_cons (ks_setLc (i := 1) rfl sc_law_read_party.nd rfl rfl (sw_true rfl rfl rfl (by decide +kernel)) (pilK (K := K) (ke_split (pv 0) pe_str)) (blkOk_by (own := [("part", 2)]) (N := ["word", "stays", "part"]) (sc := defScope s_law_read_party) (by decide +kernel)) (fun _ _ _ _ _ => (pg_name (i := 2) sc_law_read_party.nd rfl (Or.inl rfl))) (fun _ _ _ _ _ => pts_nil) (fun _ _ _ _ _ => (pe_c c_law_read_stay (hr.mono (by first | decide | omega)) rfl (pa_cons (pv 2) pa_nil))))
  (pss_cons (ps_if (PW.pt (pw_or (pt_cmpR (op_inD (K := K) (hu9_of hr) rfl) pe_non (pv 1) (by rfl)) (pw_or (pt_cmpR op_gt (pe_callB (lenK (K := K)) (by rfl) T.z_len (by decide +kernel) (pa_cons (pv 1) pa_nil)) pe_int (nomark _)) (pw_or1 (pt_cmpR (op_neD (hu64_of hr)) (pe_callB (ksortU (K := K) (d := 3) (B := 1000000000000) (by decide)) (by rfl) T.z_sorted (by decide +kernel) (pa_cons (pv 1) pa_nil)) (pv 1) (nomark _))))))
  (pss_one (ps_ret pe_non))
  pss_nil)
  (pss_one (ps_ret (pe_callTy (ktupleK (K := K)) (by rfl) T.z_tuple (by decide +kernel) (pa_cons (pv 1) pa_nil)))))), ?_⟩
    have b5 : 16000 ≤ sizeLine := by decide
    have qn : (¬ ∃ p : List Sy, PaF p ∧ x = ptS p) → ∀ H' : Hp, Kp [] H H' → Q .non H' := fun n H' k => q _ H' k (by rw [ho.no n]; exact RepT.non)
    obtain ⟨wl, wp⟩ := split_len tl_plus (by decide +kernel) xl
    have wsp : ∀ {p : List Sy}, PaF p → x = ptS p → Txt.split x "+" = p.map stS := fun pf ex => by rw [ex]; exact ptS_split pf.ne pf.ok
    refine ⟨_, rfl, ⟨_, rfl⟩, x, _, rfl, rfl, (by decide +kernel), by omega, fun sl H1 hsl k1 h1 => ?_⟩
    refine ⟨sl, rfl, ⟨_, SqL.of h1⟩, fun D H2 hD k2 hD2 => ?_⟩
    refine kl_list (xs := (Txt.split x "+").map V.str) (fun i acc H' => Kp [] H1 H' ∧ ∃ os : List (Option Sy), EachIs StF stS (Txt.split x "+") os i ∧ RepTs H' (os.map (oD syD)) acc) ⟨k2, [], ⟨rfl, fun j y hj _ => absurd hj (Nat.not_lt_zero _)⟩, RepTs.nil⟩ (fun i acc H' z => SqL.of (z.1.at h1 nmem_nil)) ?_ ?_
    · rintro i v acc H3 hv hDa ⟨k3, os, eo, r3⟩
      rw [List.getElem?_map] at hv
      cases en : (Txt.split x "+")[i]? with
      | none => rw [en] at hv; cases hv
      | some y =>
        rw [en] at hv
        cases hv
        have il : i < (Txt.split x "+").length := (List.getElem?_eq_some_iff.mp en).1
        obtain ⟨oy, hoy⟩ := isO_ex StF stS y
        refine ⟨rfl, yesT ⟨_, rfl, y, oy, rfl, wp y (List.mem_of_getElem? en), hoy, fun v H4 k4 rv => ⟨k4.at hDa nmem_nil, sz (m := 10001) (by rw [r3.lenM, eo.1]; omega), fun H5 k5 h5 => ⟨(k3.trans k4).put k5 hD, os ++ [oy], eo.snoc en hoy, ?_⟩⟩⟩⟩
        rw [List.map_append]
        exact RepTs.snoc (rv.kp k5) ((r3.kp k4).kp k5)
    · rintro acc H3 hDa ⟨k3, os, eo, r3⟩
      rw [List.length_map] at eo
      have al : acc.length = os.length := r3.lenM
      have k13 := k1.trans k3
      refine ⟨_, rfl, non_in (SqB_lst hDa) r3 ⟨_, rfl, ?_⟩⟩
      have sn : ∀ s : Sy, nonD (syD s) = false := fun _ => rfl
      by_cases hn : none ∈ os
      · rw [(any_non sn os).mpr hn]
        exact iteT (qn (fun ⟨p, pf, ex⟩ => eo.none hn ⟨p, pf.ok, wsp pf ex⟩) H3 k13)
      · rw [Bool.eq_false_iff.mpr fun z => hn ((any_non sn os).mp z)]
        refine iteF ?_
        obtain ⟨ss, es⟩ := somes_of hn
        obtain ⟨sf, em⟩ := eo.all es
        rw [es, List.map_map] at r3
        have r4 : RepTs H3 (ss.map syD) acc := r3
        rw [es, List.length_map] at al
        refine ⟨_, rfl, D, acc, rfl, .inl (SqL.of hDa), _, _, rfl, rfl, _, rfl, ?_⟩
        by_cases l4 : ss.length ≤ 4
        · refine iteFe (decide_eq_false (by omega)) ?_
          refine ⟨_, rfl, D, acc, rfl, SqL.of hDa, by omega, fun x hx => ?_, fun ys hp hw => fun sl2 H5 hsl2 k5 h5 => ?_⟩
          · obtain ⟨i, hi, e⟩ := List.getElem_of_mem hx
            obtain ⟨s, hs, r1⟩ := r4.at (show acc[i]? = some x by rw [← e]; simp [hi])
            obtain ⟨t', rfl, ht'⟩ := syD_at r1
            have so := sf s (List.mem_of_getElem? hs)
            refine ⟨syI s, tupI_of ht', rfl, fun m hm => ?_⟩
            have := so.k0; have := so.k1; have := so.f0; have := so.lt; have := so.e1
            unfold syI at hm
            simp only [List.mem_cons, List.not_mem_nil, or_false] at hm
            rcases hm with rfl | rfl | rfl <;> omega
          · obtain ⟨pt, pp, rp⟩ := RepTs.perm hp r4
            have hok : ∀ s ∈ pt, StF s := fun s hs => sf s (pp.mem_iff.mp hs)
            have spt := sorted_sy rp hok hw
            have hDa5 := k5.at hDa nmem_nil
            refine ⟨_, rfl, _, _, (Rep.lst (SqL.of h5) (rp.kp k5).reps).dp, (Rep.lst (SqL.of hDa5) (r4.kp k5).reps).dp, shaped_sys true pt, shaped_sys true ss, _, rfl, ?_⟩
            have k15 := k13.trans k5
            by_cases so : ss.Pairwise Sy.le
            · have ept : pt = ss := sy_sorted pp spt so
              subst ept
              refine iteFe ?_ ?_
              · rw [SeqAt.eqv_refl _ (SeqAt.canLay_of_shaped (shaped_sys true pt))]; rfl
              · have w1 : 1 ≤ pt.length := by
                  have := (split_parts tl_plus (by decide +kernel) x).2.2
                  rw [em] at this
                  exact List.length_pos_iff.mpr fun z => this (by rw [z]; rfl)
                have pf : PaF pt := ⟨w1, l4, hok, spt⟩
                have ex : x = ptS pt := by
                  obtain ⟨p, pf', ex'⟩ := (party_iff x).mpr ⟨pt, pf, em⟩
                  rw [stays_of hok em pf' ex']; exact ex'
                refine ⟨_, rfl, D, acc, rfl, .inl ⟨SqL.of hDa5, fun t H6 ht k6 h6 => q _ H6 (k15.trans k6) ?_⟩⟩
                rw [ho.is (fun a b => ptS_inj) pf ex]
                exact RepT.tup h6 ((r4.kp k5).kp k6)
            · refine iteTe ?_ (qn ?_ H5 k15)
              · cases e : PyData.eqv (MD.D.sq true (pt.map syD)).py (MD.D.sq true (ss.map syD)).py with
                | false => rfl
                | true =>
                  have := eqv_sys pt ss e
                  rw [this] at spt
                  exact absurd spt so
              · rintro ⟨p, pf, ex⟩
                rw [stays_of sf em pf ex] at so
                exact so pf.so
        · refine iteTe (decide_eq_true (by omega)) (qn ?_ H3 k13)
          rintro ⟨p, pf, ex⟩
          rw [stays_of sf em pf ex] at l4
          exact l4 pf.l4
end

end MD
namespace MD
open PySem PySem.Spec PyProof.Rows L2
local macro_rules | `(tactic| walk_at "ne") => `(tactic| first | assumption | (apply Ne.symm; assumption) | exact ne_of_none (by assumption) (by assumption) | exact (ne_of_none (by assumption) (by assumption)).symm)
local macro_rules | `(tactic| walk_at "hp") => `(tactic| first | assumption | exact upd_same | (refine (upd_ne ?_).trans ?_; (focus walk_at "ne"); walk_at "hp"))
local macro_rules | `(tactic| walk_at "nm") => `(tactic| first | exact nmem_nil | exact nmem_one (by walk_at "ne") | exact nmem_cons (by walk_at "ne") (by walk_at "nm"))
section
variable {P : Program} {w : World} {K : PySem.W.Frag} {mg : Str → Option Value} {base : Heap}
open TL
def Bad (H : Hp) (v : V) : Prop := ∃ ds : List D, RepT H (.sq false ds) v ∧ ds.any nonD = true
def oI : Option Int → D := oD dI
theorem oV_rep {H : Hp} (o : Option Int) : RepT H (oI o) (oV o) := by cases o; exact RepT.non; exact RepT.int
def spLDeed : Sp := fun vs H Q _ => ∃ (l : Addr) (ss : List Str) (o : Option De), vs = [.ref l] ∧ H l = some (.lst (vStr ss)) ∧ (∀ y ∈ ss, y.length ≤ 10000) ∧ ss.length ≤ 10001 ∧ IsO DeF deW ss o ∧
  ∀ (v : V) (H' : Hp), Kp [] H H' → (∀ e, o = some e → RepT H' (deD e) v) → (o = none → Bad H' v) → Q v H'
theorem c_law_read_deed (T : Txt K mg) : Cal P w K mg base 4 "_law_read_deed" spLDeed := by
  have c_law_read_number := c_law_read_number (P := P) (w := w) (base := base) T
  have c_law_read_party := c_law_read_party (P := P) (w := w) (base := base) T
  refine cal_of T.d_law_read_deed sc_law_read_deed (fun vs H Q E h => ?_) (fun f cdv A outer s H vs Q E hr h => ?_)
  · obtain ⟨l, n, o, rfl, _⟩ := h; rfl
  · obtain ⟨l, ss, o, rfl, hl, sl, sn, ho, q⟩ := h
    have hu := hu_of hr
    refine ⟨_, (pss_cons (ps_if (PW.pt (pw_and (pt_cmpR op_eq (pe_callB (lenK (K := K)) (by rfl) T.z_len (by decide +kernel) (pa_cons (pv 0) pa_nil)) pe_int (nomark _)) (pw_and1 (pt_cmpR op_eq (pe_ix (ixL (K := K)) (pv 0) pe_int (fun _ _ => rfl)) pe_str (nomark _)))))
  (pss_one (ps_ret (ke_tup (pa_cons pe_str (pa_cons (pe_c c_law_read_party (hr.mono (by first | decide | omega)) rfl (pa_cons (pe_ix (ixL (K := K)) (pv 0) pe_int (fun _ _ => rfl)) pa_nil)) pa_nil)))))
  pss_nil)
  (pss_cons (ps_if (PW.pt (pw_and (pt_cmpR op_eq (pe_callB (lenK (K := K)) (by rfl) T.z_len (by decide +kernel) (pa_cons (pv 0) pa_nil)) pe_int (nomark _)) (pw_and1 (pt_cmpR op_eq (pe_ix (ixL (K := K)) (pv 0) pe_int (fun _ _ => rfl)) pe_str (nomark _)))))
  (pss_one (ps_ret (ke_tup (pa_cons pe_str (pa_cons (pe_c c_law_read_number (hr.mono (by first | decide | omega)) rfl (pa_cons (pe_ix (ixL (K := K)) (pv 0) pe_int (fun _ _ => rfl)) pa_nil)) pa_nil)))))
  pss_nil)
  (pss_cons (ps_if (PW.pt (pw_and (pt_cmpR op_eq (pe_callB (lenK (K := K)) (by rfl) T.z_len (by decide +kernel) (pa_cons (pv 0) pa_nil)) pe_int (nomark _)) (pw_and1 (pt_cmpR op_eq (pe_ix (ixL (K := K)) (pv 0) pe_int (fun _ _ => rfl)) pe_str (nomark _)))))
  (pss_one (ps_ret (ke_tup (pa_cons pe_str (pa_cons (pe_c c_law_read_number (hr.mono (by first | decide | omega)) rfl (pa_cons (pe_ix (ixL (K := K)) (pv 0) pe_int (fun _ _ => rfl)) pa_nil)) (pa_cons (pe_c c_law_read_party (hr.mono (by first | decide | omega)) rfl (pa_cons (pe_ix (ixL (K := K)) (pv 0) pe_int (fun _ _ => rfl)) pa_nil)) pa_nil))))))
  pss_nil)
  (pss_one (ps_ret (ke_tup (pa_cons pe_non pa_nil))))))), ?_⟩
    have b5 : 16000 ≤ sizeLine := by decide
    have bad : o = none → ∀ (t : Addr) (H1 : Hp), Kp [] H H1 → H1 t = some (.tup [.non]) → Q (.ref t) H1 := fun no t H1 k1 h1 => q _ H1 k1 (fun e z => by rw [no] at z; cases z) (fun _ => ⟨[.v .non], RepT.tup h1 (RepTs.cons RepT.non RepTs.nil), rfl⟩)
    have len : ((vStr ss).length : Int) = ss.length := by unfold vStr; rw [List.length_map]
    by_cases l2 : ss.length = 2
    · obtain ⟨a, b, rfl⟩ := two_of l2
      have hl : H l = some (.lst [.str a, .str b]) := hl
      have bl : b.length ≤ 10000 := sl b (by simp)
      refine ⟨_, rfl, l, _, rfl, .inl (SqL.of hl), rfl, _, rfl, iteTe (decide_eq_true rfl) ⟨_, rfl, l, _, _, _, rfl, rfl, SqL.of hl, rfl, rfl, _, rfl, ?_⟩⟩
      by_cases h1 : a = "wish"
      · subst h1
        refine iteTe (decide_eq_true rfl) ?_
        obtain ⟨op, hop⟩ := isO_ex PaF ptS b
        refine ⟨_, rfl, l, _, _, _, rfl, rfl, SqL.of hl, rfl, b, op, rfl, bl, hop, fun v H1 k1 rv => ⟨(by show 2 ≤ sizeLine; decide), fun t H2 ht k2 h2 => q _ H2 (k1.trans k2) ?_ ?_⟩⟩
        · rintro e rfl
          obtain ⟨ef, z⟩ := ho
          cases e with
          | wish p =>
            rw [hop.is (fun a b => ptS_inj) ef (List.cons.inj (List.cons.inj (show [("wish" : Str), b] = [("wish" : Str), ptS p] from z)).2).1] at rv
            exact RepT.tup h2 (RepTs.cons RepT.str (RepTs.cons (rv.kp k2) RepTs.nil))
          | cancel n => exact absurd (List.cons.inj (show [("wish" : Str), b] = [("cancel" : Str), numS n] from z)).1 (by decide +kernel)
          | change n p => exact absurd (congrArg List.length (show [("wish" : Str), b] = [("change" : Str), numS n, ptS p] from z)) (fun z => nomatch z)
        · rintro rfl
          cases op with
          | some p => exact absurd ⟨.wish p, hop.1, by rw [hop.2]; rfl⟩ ho
          | none => exact ⟨[dS "wish", .v .non], RepT.tup h2 (RepTs.cons RepT.str (RepTs.cons (rv.kp k2) RepTs.nil)), rfl⟩
      · refine iteFe (decide_eq_false fun z => h1 (V.str.inj z)) ?_
        refine ⟨_, rfl, l, _, rfl, .inl (SqL.of hl), rfl, _, rfl, iteTe (decide_eq_true rfl) ⟨_, rfl, l, _, _, _, rfl, rfl, SqL.of hl, rfl, rfl, _, rfl, ?_⟩⟩
        by_cases h2 : a = "cancel"
        · subst h2
          refine iteTe (decide_eq_true rfl) ?_
          obtain ⟨on, hon⟩ := isO_ex figS numS b
          refine ⟨_, rfl, l, _, _, _, rfl, rfl, SqL.of hl, rfl, b, on, rfl, bl, hon, fun H1 k1 => ⟨(by show 2 ≤ sizeLine; decide), fun t H2 ht k2 h2 => q _ H2 (k1.trans k2) ?_ ?_⟩⟩
          · rintro e rfl
            obtain ⟨ef, z⟩ := ho
            cases e with
            | wish p => exact absurd (List.cons.inj (show [("cancel" : Str), b] = [("wish" : Str), ptS p] from z)).1 (by decide +kernel)
            | cancel n =>
              rw [hon.is (fun a b => numS_inj) ef (List.cons.inj (List.cons.inj (show [("cancel" : Str), b] = [("cancel" : Str), numS n] from z)).2).1] at h2
              exact RepT.tup h2 (RepTs.cons RepT.str (RepTs.cons RepT.int RepTs.nil))
            | change n p => exact absurd (congrArg List.length (show [("cancel" : Str), b] = [("change" : Str), numS n, ptS p] from z)) (fun z => nomatch z)
          · rintro rfl
            cases on with
            | some n => exact absurd ⟨.cancel n, hon.1, by rw [hon.2]; rfl⟩ ho
            | none => exact ⟨[dS "cancel", .v .non], RepT.tup h2 (RepTs.cons RepT.str (RepTs.cons RepT.non RepTs.nil)), rfl⟩
        · refine iteFe (decide_eq_false fun z => h2 (V.str.inj z)) ?_
          refine ⟨_, rfl, l, _, rfl, .inl (SqL.of hl), rfl, _, rfl, iteFe (decide_eq_false fun z => nomatch z) (iteF ?_)⟩
          refine ⟨(by show 1 ≤ sizeLine; decide), fun t H1 ht k1 h1' => bad (ho.no ?_) t H1 k1 h1'⟩
          rintro ⟨e, ef, z⟩
          cases e with
          | wish p => exact h1 (List.cons.inj (show [a, b] = [("wish" : Str), ptS p] from z)).1
          | cancel n => exact h2 (List.cons.inj (show [a, b] = [("cancel" : Str), numS n] from z)).1
          | change n p => exact absurd (congrArg List.length (show [a, b] = [("change" : Str), numS n, ptS p] from z)) (fun z => nomatch z)
    · refine ⟨_, rfl, l, _, rfl, .inl (SqL.of hl), rfl, _, rfl, iteFe (decide_eq_false fun z => l2 (by injection z with z; omega)) (iteF ?_)⟩
      refine ⟨_, rfl, l, _, rfl, .inl (SqL.of hl), rfl, _, rfl, iteFe (decide_eq_false fun z => l2 (by injection z with z; omega)) (iteF ?_)⟩
      refine ⟨_, rfl, l, _, rfl, .inl (SqL.of hl), rfl, _, rfl, ?_⟩
      by_cases l3 : ss.length = 3
      · obtain ⟨a, b, c, rfl⟩ := three_of l3
        have hl : H l = some (.lst [.str a, .str b, .str c]) := hl
        refine iteTe (decide_eq_true rfl) ⟨_, rfl, l, _, _, _, rfl, rfl, SqL.of hl, rfl, rfl, _, rfl, ?_⟩
        by_cases h1 : a = "change"
        · subst h1
          refine iteTe (decide_eq_true rfl) ?_
          obtain ⟨on, hon⟩ := isO_ex figS numS b
          obtain ⟨op, hop⟩ := isO_ex PaF ptS c
          refine ⟨_, rfl, l, _, _, _, rfl, rfl, SqL.of hl, rfl, b, on, rfl, sl b (by simp), hon, fun H1 k1 => ?_⟩
          refine ⟨_, rfl, l, _, _, _, rfl, rfl, SqL.of (k1.at hl nmem_nil), rfl, c, op, rfl, sl c (by simp), hop, fun v H2 k2 rv => ⟨(by show 3 ≤ sizeLine; decide), fun t H3 ht k3 h3 => q _ H3 ((k1.trans k2).trans k3) ?_ ?_⟩⟩
          · rintro e rfl
            obtain ⟨ef, z⟩ := ho
            cases e with
            | wish p => exact absurd (congrArg List.length (show [("change" : Str), b, c] = [("wish" : Str), ptS p] from z)) (fun z => nomatch z)
            | cancel n => exact absurd (congrArg List.length (show [("change" : Str), b, c] = [("cancel" : Str), numS n] from z)) (fun z => nomatch z)
            | change n p =>
              obtain ⟨_, z⟩ := List.cons.inj (show [("change" : Str), b, c] = [("change" : Str), numS n, ptS p] from z)
              obtain ⟨z1, z⟩ := List.cons.inj z
              rw [hon.is (fun a b => numS_inj) ef.1 z1] at h3
              rw [hop.is (fun a b => ptS_inj) ef.2 (List.cons.inj z).1] at rv
              exact RepT.tup h3 (RepTs.cons RepT.str (RepTs.cons RepT.int (RepTs.cons (rv.kp k3) RepTs.nil)))
          · rintro rfl
            refine ⟨[dS "change", oI on, oD ptD op], RepT.tup h3 (RepTs.cons RepT.str (RepTs.cons (oV_rep on) (RepTs.cons (rv.kp k3) RepTs.nil))), ?_⟩
            cases on with
            | none => rfl
            | some n =>
              cases op with
              | none => rfl
              | some p => exact absurd ⟨.change n p, ⟨hon.1, hop.1⟩, by rw [hon.2, hop.2]; rfl⟩ ho
        · refine iteFe (decide_eq_false fun z => h1 (V.str.inj z)) ?_
          refine ⟨(by show 1 ≤ sizeLine; decide), fun t H1 ht k1 h1' => bad (ho.no ?_) t H1 k1 h1'⟩
          rintro ⟨e, ef, z⟩
          cases e with
          | wish p => exact absurd (congrArg List.length (show [a, b, c] = [("wish" : Str), ptS p] from z)) (fun z => nomatch z)
          | cancel n => exact absurd (congrArg List.length (show [a, b, c] = [("cancel" : Str), numS n] from z)) (fun z => nomatch z)
          | change n p => exact h1 (List.cons.inj (show [a, b, c] = [("change" : Str), numS n, ptS p] from z)).1
      · refine iteFe (decide_eq_false fun z => l3 (by injection z with z; omega)) (iteF ?_)
        refine ⟨(by show 1 ≤ sizeLine; decide), fun t H1 ht k1 h1' => bad (ho.no ?_) t H1 k1 h1'⟩
        rintro ⟨e, ef, z⟩
        cases e with
        | wish p => exact l2 (by rw [z]; rfl)
        | cancel n => exact l2 (by rw [z]; rfl)
        | change n p => exact l3 (by rw [z]; rfl)
def RowR (H : Hp) (o : Option Tx) (v : V) : Prop := (∀ x, o = some x → RepT H (txD x) v) ∧ (o = none → v = .non ∨ Bad H v)
def spLRow (b : Bool) : Sp := fun vs H Q _ => ∃ (l : Addr) (ss : List Str) (o : Option Tx), vs = [.ref l] ∧ H l = some (.lst (vStr ss)) ∧ ss ≠ [] ∧ (∀ y ∈ ss, y.length ≤ 10000) ∧ ss.length ≤ 10001 ∧ IsO (fun x => TxF x ∧ x.bk = b) txW ss o ∧
  ∀ (v : V) (H' : Hp), Kp [] H H' → RowR H' o v → Q v H'
theorem c_law_read_history_row (T : Txt K mg) : Cal P w K mg base 5 "_law_read_history_row" (spLRow false) := by
  have c_law_read_number := c_law_read_number (P := P) (w := w) (base := base) T
  have c_law_read_deed := c_law_read_deed (P := P) (w := w) (base := base) T
  refine cal_of T.d_law_read_history_row sc_law_read_history_row (fun vs H Q E h => ?_) (fun f cdv A outer s H vs Q E hr h => ?_)
  · obtain ⟨l, n, o, rfl, _⟩ := h; rfl
  · obtain ⟨l, ss, o, rfl, hl, ne, sl, sn, ho, q⟩ := h
    have hu := hu_of hr
    refine ⟨_, (pss_cons (ps_if (PW.pt (pw_and (pt_cmpR op_gt (pe_callB (lenK (K := K)) (by rfl) T.z_len (by decide +kernel) (pa_cons (pv 0) pa_nil)) pe_int (nomark _)) (pw_and1 (pt_cmpR op_eq (pe_ix (ixL (K := K)) (pv 0) pe_int (fun _ _ => rfl)) pe_str (nomark _)))))
  (pss_cons (ps_set (i := 1) sc_law_read_history_row.nd rfl (Or.inl rfl) (pe_c c_law_read_deed (hr.mono (by first | decide | omega)) rfl (pa_cons (pe_slice (kslL (K := K)) (pv 0) (po_some pe_int) po_none) pa_nil)))
  (pss_cons (ps_set (i := 2) sc_law_read_history_row.nd rfl (Or.inl rfl) (ke_tup (pa_cons pe_str (pa_cons (pe_c c_law_read_number (hr.mono (by first | decide | omega)) rfl (pa_cons (pe_ix (ixL (K := K)) (pv 0) pe_int (fun _ _ => rfl)) pa_nil)) (pa_cons (pe_c c_law_read_number (hr.mono (by first | decide | omega)) rfl (pa_cons (pe_ix (ixL (K := K)) (pv 0) pe_int (fun _ _ => rfl)) pa_nil)) (pa_cons (pv 1) pa_nil))))))
  (pss_cons (ps_if (pt_cmpR (op_inD (K := K) (hu9_of hr) rfl) pe_non (pv 1) (by rfl))
  (pss_one (ps_ret pe_non))
  pss_nil)
  (pss_one (ps_ret (pv 2))))))
  pss_nil)
  (pss_cons (ps_if (PW.pt (pw_and (pt_cmpR op_eq (pe_callB (lenK (K := K)) (by rfl) T.z_len (by decide +kernel) (pa_cons (pv 0) pa_nil)) pe_int (nomark _)) (pw_and (pt_cmpR op_eq (pe_ix (ixL (K := K)) (pv 0) pe_int (fun _ _ => rfl)) pe_str (nomark _)) (pw_and1 (pt_cmpR (inK (K := K)) (pe_ix (ixL (K := K)) (pv 0) pe_int (fun _ _ => rfl)) (ke_lst (pa_cons pe_str (pa_cons pe_str pa_nil))) (by rfl))))))
  (pss_one (ps_ret (ke_tup (pa_cons pe_str (pa_cons (pe_c c_law_read_number (hr.mono (by first | decide | omega)) rfl (pa_cons (pe_ix (ixL (K := K)) (pv 0) pe_int (fun _ _ => rfl)) pa_nil)) (pa_cons (pe_c c_law_read_number (hr.mono (by first | decide | omega)) rfl (pa_cons (pe_ix (ixL (K := K)) (pv 0) pe_int (fun _ _ => rfl)) pa_nil)) (pa_cons (pe_cmpR op_eq (pe_ix (ixL (K := K)) (pv 0) pe_int (fun _ _ => rfl)) pe_str (nomark _)) pa_nil)))))))
  pss_nil)
  (pss_one (ps_ret pe_non)))), ?_⟩
    have b5 : 16000 ≤ sizeLine := by decide
    have len : ((vStr ss).length : Int) = ss.length := by unfold vStr; rw [List.length_map]
    have hno : o = none → ∀ H1, Kp [] H H1 → Q .non H1 := fun no H1 k1 => q _ H1 k1 ⟨fun x z => (by rw [no] at z; cases z), fun _ => .inl rfl⟩
    refine ⟨_, rfl, l, _, rfl, .inl (SqL.of hl), _, _, rfl, rfl, _, rfl, ?_⟩
    by_cases h4 : 4 ≤ ss.length
    · obtain ⟨w0, w1, w2, w3, r, rfl⟩ := four_of h4
      have hl : H l = some (.lst (.str w0 :: .str w1 :: .str w2 :: .str w3 :: vStr r)) := hl
      have no : ∀ {b : Prop}, (∀ x, TxF x → x.bk = false → w0 :: w1 :: w2 :: w3 :: r = txW x → b) → (∃ x, (TxF x ∧ x.bk = false) ∧ w0 :: w1 :: w2 :: w3 :: r = txW x) → b := fun h ⟨x, ⟨a, b⟩, c⟩ => h x a b c
      refine iteTe (decide_eq_true (by omega)) ⟨_, rfl, l, _, _, _, rfl, rfl, SqL.of hl, at_of (by decide) rfl, rfl, _, rfl, ?_⟩
      obtain ⟨o1, ho1⟩ := isO_ex figS numS w1
      obtain ⟨o2, ho2⟩ := isO_ex figS numS w2
      by_cases h0 : w0 = "asked"
      · refine iteTe (decide_eq_true (by rw [h0])) ?_
        obtain ⟨od, hod⟩ := isO_ex DeF deW (w3 :: r)
        refine ⟨_, rfl, 3, rfl, l, _, rfl, SqL.of hl, fun l2 H1 hl2 k1 h1 => ?_⟩
        rw [cut_drop (by decide)] at h1
        have h1 : H1 l2 = some (.lst (vStr (w3 :: r))) := h1
        refine ⟨l2, w3 :: r, od, rfl, h1, fun y hy => sl y (List.mem_cons_of_mem _ (List.mem_cons_of_mem _ (List.mem_cons_of_mem _ hy))), (by simp only [List.length_cons] at sn ⊢; omega), hod, fun v H2 k2 g1 g2 => ?_⟩
        have k12 := k1.trans k2
        have hl2' := k12.at hl nmem_nil
        refine ⟨_, rfl, l, _, _, _, rfl, rfl, SqL.of hl2', at_of (by decide) rfl, w1, o1, rfl, sl w1 (by simp), ho1, fun H3 k3 => ?_⟩
        have hl3 := k3.at hl2' nmem_nil
        refine ⟨_, rfl, l, _, _, _, rfl, rfl, SqL.of hl3, at_of (by decide) rfl, w2, o2, rfl, sl w2 (by simp), ho2, fun H4 k4 => ⟨_, rfl, (by show 4 ≤ sizeLine; decide), fun t H5 ht k5 h5 => ?_⟩⟩
        have k35 := (k3.trans k4).trans k5
        obtain ⟨ds, rd, an⟩ : ∃ ds, RepT H2 (.sq false ds) v ∧ ds.any nonD = od.isNone := by
          cases od with
          | none => exact g2 rfl
          | some d =>
            have := g1 d rfl
            rw [deD_eq] at this
            exact ⟨_, this, by cases d <;> rfl⟩
        obtain ⟨dt, xs, rfl, hdt, rx⟩ := RepT.tupE rd
        refine ⟨_, rfl, non_in (SqB_tup (k35.tup _ _ hdt)) (rx.kp k35) ⟨_, rfl, ?_⟩⟩
        rw [an]
        cases od with
        | none =>
          refine iteT (hno (ho.no (no fun x xf xb z => ?_)) H5 (k12.trans k35))
          rcases hrow xf xb z with ⟨z0, _⟩ | ⟨_, _, _, d, _, _, df, _, _, e⟩
          · rw [h0] at z0; exact absurd z0 (by decide +kernel)
          · exact hod ⟨d, df, e⟩
        | some d =>
          refine iteF ⟨_, rfl, q _ H5 (k12.trans k35) ⟨fun x e => ?_, fun e => .inr ?_⟩⟩
          · subst e
            obtain ⟨⟨xf, xb⟩, z⟩ := ho
            rw [txW_eq] at z
            cases x with
            | sold n p a b => cases xb
            | canc n a b => cases xb
            | chan n p a b c e => cases xb
            | told s n g => exact absurd (h0.symm.trans (List.cons.inj (show _ = ("told" : Str) :: numS s :: numS n :: [ynS g] from z)).1) (by decide +kernel)
            | asked s n d' =>
              obtain ⟨z0, z⟩ := List.cons.inj (show _ = ("asked" : Str) :: numS s :: numS n :: deW d' from z)
              obtain ⟨z1, z⟩ := List.cons.inj z
              obtain ⟨z2, z⟩ := List.cons.inj z
              rw [ho1.is (fun a b => numS_inj) xf.1 z1, ho2.is (fun a b => numS_inj) xf.2.1 z2] at h5
              have ed : d = d' := deW_inj hod.1 xf.2.2 (hod.2.symm.trans z)
              have gd := (g1 d rfl).kp k35
              rw [ed] at gd
              exact RepT.tup h5 (RepTs.cons RepT.str (RepTs.cons RepT.int (RepTs.cons RepT.int (RepTs.cons gd RepTs.nil))))
          · subst e
            refine ⟨[dS "asked", oI o1, oI o2, .sq false ds], RepT.tup h5 (RepTs.cons RepT.str (RepTs.cons (oV_rep o1) (RepTs.cons (oV_rep o2) (RepTs.cons (rd.kp k35) RepTs.nil)))), ?_⟩
            cases o1 with
            | none => rfl
            | some a =>
              cases o2 with
              | none => rfl
              | some b => exact absurd ⟨.asked a b d, ⟨⟨ho1.1, ho2.1, hod.1⟩, rfl⟩, by rw [txW_eq, h0, ho1.2, ho2.2, hod.2]; rfl⟩ ho
      · refine iteFe (decide_eq_false fun z => h0 (V.str.inj z)) ?_
        refine ⟨_, rfl, l, _, rfl, .inl (SqL.of hl), rfl, _, rfl, ?_⟩
        have nope : (w0 = "told" → ∀ g, w3 :: r = [ynS g] → False) → o = none := fun h => ho.no (no fun x xf xb z => by
          rcases hrow xf xb z with ⟨z0, _, _, g, _, _, _, _, e⟩ | ⟨z0, _⟩
          · exact h z0 g e
          · exact h0 z0)
        cases r with
        | cons y r' => exact iteFe (decide_eq_false fun z => by injection z with z; unfold vStr at z; simp only [List.map_cons, List.length_cons] at z; omega) (iteF (hno (nope fun _ g e => nomatch (List.cons.inj e).2) H Kp.refl))
        | nil =>
          have hl : H l = some (.lst [.str w0, .str w1, .str w2, .str w3]) := hl
          refine iteTe (decide_eq_true rfl) ⟨_, rfl, l, _, _, _, rfl, rfl, SqL.of hl, rfl, rfl, _, rfl, ?_⟩
          by_cases h1 : w0 = "told"
          · refine iteTe (decide_eq_true (by rw [h1])) ?_
            refine ⟨_, rfl, l, _, _, _, rfl, rfl, SqL.of hl, rfl, (by show 2 ≤ sizeLine; decide), fun yl H1 hyl k1 hy1 => ?_⟩
            refine ⟨yl, _, rfl, .inl (SqL.of hy1), rfl, rfl, _, rfl, ?_⟩
            by_cases hy : ∃ g, w3 = ynS g
            · obtain ⟨g, rfl⟩ := hy
              refine iteTe (by cases g <;> decide +kernel) ?_
              refine ⟨_, rfl, l, _, _, _, rfl, rfl, SqL.of (k1.at hl nmem_nil), rfl, w1, o1, rfl, sl w1 (by simp), ho1, fun H2 k2 => ?_⟩
              refine ⟨_, rfl, l, _, _, _, rfl, rfl, SqL.of ((k1.trans k2).at hl nmem_nil), rfl, w2, o2, rfl, sl w2 (by simp), ho2, fun H3 k3 => ?_⟩
              refine ⟨_, rfl, l, _, _, _, rfl, rfl, SqL.of (((k1.trans k2).trans k3).at hl nmem_nil), rfl, rfl, (by show 4 ≤ sizeLine; decide), fun t H4 ht k4 h4 => ?_⟩
              have e : decide (V.str (ynS g) = V.str "yes") = g := by cases g <;> decide +kernel
              rw [e] at h4
              refine q _ H4 (((k1.trans k2).trans k3).trans k4) ⟨fun x ex => ?_, fun ex => .inr ?_⟩
              · subst ex
                obtain ⟨⟨xf, xb⟩, z⟩ := ho
                rw [txW_eq] at z
                cases x with
                | sold n p a b => cases xb
                | canc n a b => cases xb
                | chan n p a b c e => cases xb
                | asked s n d => exact absurd (h1.symm.trans (List.cons.inj (show _ = ("asked" : Str) :: numS s :: numS n :: deW d from z)).1) (by decide +kernel)
                | told s n g' =>
                  obtain ⟨z0, z⟩ := List.cons.inj (show _ = ("told" : Str) :: numS s :: numS n :: [ynS g'] from z)
                  obtain ⟨z1, z⟩ := List.cons.inj z
                  obtain ⟨z2, z⟩ := List.cons.inj z
                  rw [ho1.is (fun a b => numS_inj) xf.1 z1, ho2.is (fun a b => numS_inj) xf.2 z2, ynS_inj (List.cons.inj z).1] at h4
                  exact RepT.tup h4 (RepTs.cons RepT.str (RepTs.cons RepT.int (RepTs.cons RepT.int (RepTs.cons RepT.bl RepTs.nil))))
              · subst ex
                refine ⟨[dS "told", oI o1, oI o2, .v (.bl g)], RepT.tup h4 (RepTs.cons RepT.str (RepTs.cons (oV_rep o1) (RepTs.cons (oV_rep o2) (RepTs.cons RepT.bl RepTs.nil)))), ?_⟩
                cases o1 with
                | none => rfl
                | some a =>
                  cases o2 with
                  | none => rfl
                  | some b => exact absurd ⟨.told a b g, ⟨⟨ho1.1, ho2.1⟩, rfl⟩, by rw [txW_eq, h1, ho1.2, ho2.2]; rfl⟩ ho
            · refine iteFe ?_ (hno (nope fun _ g e => hy ⟨g, (List.cons.inj e).1⟩) H1 k1)
              show (eqV (.str "yes") (.str w3) || (eqV (.str "no") (.str w3) || false)) = false
              have e1 : eqV (.str "yes") (.str w3) = (("yes" : Str) == w3) := rfl
              have e2 : eqV (.str "no") (.str w3) = (("no" : Str) == w3) := rfl
              have n1 : (("yes" : Str) == w3) = false := beq_eq_false_iff_ne.mpr fun z => hy ⟨true, z.symm⟩
              have n2 : (("no" : Str) == w3) = false := beq_eq_false_iff_ne.mpr fun z => hy ⟨false, z.symm⟩
              rw [e1, e2, n1, n2]
              rfl
          · exact iteFe (decide_eq_false fun z => h1 (V.str.inj z)) (iteF (hno (nope fun z => absurd z h1) H Kp.refl))
    · refine iteFe (decide_eq_false (by omega)) (iteF ?_)
      refine ⟨_, rfl, l, _, rfl, .inl (SqL.of hl), rfl, _, rfl, iteFe (decide_eq_false fun z => h4 (by injection z with z; omega)) (iteF ?_)⟩
      refine hno (ho.no ?_) H Kp.refl
      rintro ⟨x, ⟨xf, xb⟩, z⟩
      have := hrow_len xb
      rw [← z] at this
      exact h4 this
theorem c_law_read_book_row (T : Txt K mg) : Cal P w K mg base 5 "_law_read_book_row" (spLRow true) := by
  have c_law_read_number := c_law_read_number (P := P) (w := w) (base := base) T
  have c_law_read_party := c_law_read_party (P := P) (w := w) (base := base) T
  refine cal_of T.d_law_read_book_row sc_law_read_book_row (fun vs H Q E h => ?_) (fun f cdv A outer s H vs Q E hr h => ?_)
  · obtain ⟨l, n, o, rfl, _⟩ := h; rfl
  · obtain ⟨l, ss, o, rfl, hl, ne, sl, sn, ho, q⟩ := h
    have hu := hu_of hr
    refine ⟨_, (pss_cons (ks_setLc (i := 1) rfl sc_law_read_book_row.nd rfl rfl (sw_true rfl rfl rfl (by decide +kernel)) (pilK (K := K) (pe_slice (kslL (K := K)) (pv 0) (po_some pe_int) po_none)) (blkOk_by (own := [("word", 2)]) (N := ["words", "figures", "word"]) (sc := defScope s_law_read_book_row) (by decide +kernel)) (fun _ _ _ _ _ => (pg_name (i := 2) sc_law_read_book_row.nd rfl (Or.inl rfl))) (fun _ _ _ _ _ => pts_nil) (fun _ _ _ _ _ => (pe_c c_law_read_number (hr.mono (by first | decide | omega)) rfl (pa_cons (pv 2) pa_nil))))
  (pss_cons (ps_if (PW.pt (pw_and (pt_cmpR op_eq (pe_ix (ixL (K := K)) (pv 0) pe_int (fun _ _ => rfl)) pe_str (nomark _)) (pw_and1 (pt_cmpR op_eq (pe_callB (lenK (K := K)) (by rfl) T.z_len (by decide +kernel) (pa_cons (pv 0) pa_nil)) pe_int (nomark _)))))
  (pss_one (ps_ret (pe_op (kcatT (K := K)) (ke_tup (pa_cons pe_str pa_nil)) (pe_callTy (ktupleK (K := K)) (by rfl) T.z_tuple (by decide +kernel) (pa_cons (pv 1) pa_nil)))))
  pss_nil)
  (pss_cons (ps_if (PW.pt (pw_or (PW.pt (pw_and (pt_cmpR op_eq (pe_ix (ixL (K := K)) (pv 0) pe_int (fun _ _ => rfl)) pe_str (nomark _)) (pw_and1 (pt_cmpR op_eq (pe_callB (lenK (K := K)) (by rfl) T.z_len (by decide +kernel) (pa_cons (pv 0) pa_nil)) pe_int (nomark _))))) (pw_or1 (PW.pt (pw_and (pt_cmpR op_eq (pe_ix (ixL (K := K)) (pv 0) pe_int (fun _ _ => rfl)) pe_str (nomark _)) (pw_and1 (pt_cmpR op_eq (pe_callB (lenK (K := K)) (by rfl) T.z_len (by decide +kernel) (pa_cons (pv 0) pa_nil)) pe_int (nomark _))))))))
  (pss_one (ps_ret (pe_op (kcatT (K := K)) (ke_tup (pa_cons (pe_ix (ixL (K := K)) (pv 0) pe_int (fun _ _ => rfl)) (pa_cons (pe_ix (ixL (K := K)) (pv 1) pe_int (fun _ _ => rfl)) (pa_cons (pe_c c_law_read_party (hr.mono (by first | decide | omega)) rfl (pa_cons (pe_ix (ixL (K := K)) (pv 0) pe_int (fun _ _ => rfl)) pa_nil)) pa_nil)))) (pe_callTy (ktupleK (K := K)) (by rfl) T.z_tuple (by decide +kernel) (pa_cons (pe_slice (kslL (K := K)) (pv 1) (po_some pe_int) po_none) pa_nil)))))
  pss_nil)
  (pss_one (ps_ret pe_non))))), ?_⟩
    have b5 : 16000 ≤ sizeLine := by decide
    obtain ⟨a, r, rfl⟩ := List.exists_cons_of_ne_nil ne
    have hl : H l = some (.lst (.str a :: vStr r)) := hl
    have len : ((V.str a :: vStr r).length : Int) = r.length + 1 := by unfold vStr; rw [List.length_cons, List.length_map]; rfl
    have no : ∀ {b : Prop}, (∀ x, TxF x → x.bk = true → a :: r = txW x → b) → (∃ x, (TxF x ∧ x.bk = true) ∧ a :: r = txW x) → b := fun h ⟨x, ⟨a, b⟩, c⟩ => h x a b c
    have hno : o = none → ∀ H1, Kp [] H H1 → Q .non H1 := fun no H1 k1 => q _ H1 k1 ⟨fun x z => (by rw [no] at z; cases z), fun _ => .inl rfl⟩
    refine ⟨_, rfl, 1, rfl, l, _, rfl, SqL.of hl, fun l2 H1 hl2 k1 h1 => ?_⟩
    rw [cut_drop (by decide)] at h1
    have h1 : H1 l2 = some (.lst (vStr r)) := h1
    have rl : r.length ≤ 10000 := by simp only [List.length_cons] at sn; omega
    refine ⟨l2, rfl, ⟨_, SqL.of h1⟩, fun D H2 hD k2 hD2 => ?_⟩
    refine kl_list (xs := vStr r) (fun i acc H' => Kp [] H1 H' ∧ ∃ os : List (Option Int), EachIs figS numS r os i ∧ acc = os.map oV) ⟨k2, [], ⟨rfl, fun j y hj _ => absurd hj (Nat.not_lt_zero _)⟩, rfl⟩ (fun i acc H' z => SqL.of (z.1.at h1 nmem_nil)) ?_ ?_
    · rintro i v acc H3 hv hDa ⟨k3, os, eo, rfl⟩
      rw [show (vStr r)[i]? = (r[i]?).map V.str from List.getElem?_map ..] at hv
      cases en : r[i]? with
      | none => rw [en] at hv; cases hv
      | some y =>
        rw [en] at hv
        cases hv
        have il : i < r.length := (List.getElem?_eq_some_iff.mp en).1
        obtain ⟨oy, hoy⟩ := isO_ex figS numS y
        refine ⟨rfl, yesT ⟨_, rfl, y, oy, rfl, sl y (List.mem_cons_of_mem _ (List.mem_of_getElem? en)), hoy, fun H4 k4 => ⟨k4.at hDa nmem_nil, sz (m := 10001) (by rw [List.length_map, eo.1]; omega), fun H5 k5 h5 => ⟨(k3.trans k4).put k5 hD, os ++ [oy], eo.snoc en hoy, ?_⟩⟩⟩⟩
        rw [List.map_append]; rfl
    rintro acc H3 hDa ⟨k3, os, eo, rfl⟩
    rw [show (vStr r).length = r.length from List.length_map ..] at eo
    have k13 := k1.trans k3
    have hl3 := k13.at hl nmem_nil
    have ol := eo.1
    have at' : ∀ {j y}, r[j]? = some y → ∃ o, os[j]? = some o ∧ IsO figS numS y o := fun {j y} h => eo.2 j y (List.getElem?_eq_some_iff.mp h).1 h
    refine ⟨_, rfl, l, _, _, _, rfl, rfl, SqL.of hl3, at_of (by decide) rfl, rfl, _, rfl, ?_⟩
    by_cases c1 : a = "cancelled"
    · refine iteTe (decide_eq_true (by rw [c1])) ⟨_, rfl, l, _, rfl, .inl (SqL.of hl3), rfl, _, rfl, ?_⟩
      by_cases l3 : r.length = 3
      · obtain ⟨w1, w3, w4, rfl⟩ := three_of l3
        obtain ⟨o1, o3, o4, rfl⟩ := three_of (l := os) (by rw [ol]; rfl)
        obtain ⟨_, z, ho1⟩ := at' (j := 0) rfl
        cases z
        obtain ⟨_, z, ho3⟩ := at' (j := 1) rfl
        cases z
        obtain ⟨_, z, ho4⟩ := at' (j := 2) rfl
        cases z
        refine iteTe (decide_eq_true rfl) ?_
        refine ⟨(by show 1 ≤ sizeLine; decide), fun t1 H4 ht1 k4 h4 => ?_⟩
        refine ⟨_, rfl, D, _, rfl, .inl ⟨SqL.of (k4.at hDa nmem_nil), fun t2 H5 ht2 k5 h5 => ?_⟩⟩
        refine ⟨t1, t2, _, _, rfl, rfl, SqT.of (k5.tup _ _ h4), SqT.of h5, (fun z => by cases z), (by show 4 ≤ sizeLine; decide), (fun z => by cases z), fun _ => fun t3 H6 ht3 k6 h6 => ?_⟩
        have h6 : H6 t3 = some (.tup [.str "cancelled", oV o1, oV o3, oV o4]) := h6
        refine q _ H6 (((k13.trans k4).trans k5).trans k6) ⟨fun x ex => ?_, fun ex => .inr ?_⟩
        · subst ex
          obtain ⟨⟨xf, xb⟩, z⟩ := ho
          rcases brow xf xb z with ⟨z0, _⟩ | ⟨_, n, b, c, nf, bf, cf, e⟩ | ⟨z0, _⟩
          · rw [c1] at z0; exact absurd z0 (by decide +kernel)
          · obtain ⟨e1, e⟩ := List.cons.inj e
            obtain ⟨e3, e⟩ := List.cons.inj e
            have e4 := (List.cons.inj e).1
            rw [ho1.is (fun a b => numS_inj) nf e1, ho3.is (fun a b => numS_inj) bf e3, ho4.is (fun a b => numS_inj) cf e4] at h6
            have ex : x = .canc n b c := txW_inj xf (show TxF (.canc n b c) from ⟨nf, bf, cf⟩) (by rw [← z, txW_eq, c1, e1, e3, e4]; rfl)
            rw [ex]
            exact RepT.tup h6 (RepTs.cons RepT.str (RepTs.cons RepT.int (RepTs.cons RepT.int (RepTs.cons RepT.int RepTs.nil))))
          · rw [c1] at z0; exact absurd z0 (by decide +kernel)
        · subst ex
          refine ⟨[dS "cancelled", oI o1, oI o3, oI o4], RepT.tup h6 (RepTs.cons RepT.str (RepTs.cons (oV_rep o1) (RepTs.cons (oV_rep o3) (RepTs.cons (oV_rep o4) RepTs.nil)))), ?_⟩
          cases o1 with
          | none => rfl
          | some n =>
            cases o3 with
            | none => rfl
            | some b =>
              cases o4 with
              | none => rfl
              | some c => exact absurd ⟨.canc n b c, ⟨⟨ho1.1, ho3.1, ho4.1⟩, rfl⟩, by rw [txW_eq, c1, ho1.2, ho3.2, ho4.2]; rfl⟩ ho
      · refine iteFe (decide_eq_false fun z => l3 (by injection z with z; omega)) ?_
        refine ⟨_, rfl, l, _, _, _, rfl, rfl, SqL.of hl3, at_of (by decide) rfl, rfl, _, rfl, iteFe (decide_eq_false fun z => by rw [c1] at z; exact absurd (V.str.inj z) (by decide +kernel)) (iteF ?_)⟩
        refine ⟨_, rfl, l, _, _, _, rfl, rfl, SqL.of hl3, at_of (by decide) rfl, rfl, _, rfl, iteFe (decide_eq_false fun z => by rw [c1] at z; exact absurd (V.str.inj z) (by decide +kernel)) (iteF ?_)⟩
        refine hno (ho.no (no fun x xf xb z => ?_)) H3 k13
        rcases brow xf xb z with ⟨z0, _⟩ | ⟨_, _, _, _, _, _, _, e⟩ | ⟨z0, _⟩
        · rw [c1] at z0; exact absurd z0 (by decide +kernel)
        · exact l3 (by rw [e]; rfl)
        · rw [c1] at z0; exact absurd z0 (by decide +kernel)
    · refine iteFe (decide_eq_false fun z => c1 (V.str.inj z)) (iteF ?_)
      refine ⟨_, rfl, l, _, _, _, rfl, rfl, SqL.of hl3, at_of (by decide) rfl, rfl, _, rfl, ?_⟩
      have four : ∀ {w1 w2 w3 w4 : Str} {r2 : List Str}, True := trivial
      by_cases c2 : a = "sold"
      · refine iteTe (decide_eq_true (by rw [c2])) ⟨_, rfl, l, _, rfl, .inl (SqL.of hl3), rfl, _, rfl, ?_⟩
        by_cases l4 : r.length = 4
        · obtain ⟨w1, w2, w3, w4, rfl⟩ := fourx_of l4
          obtain ⟨o1, o2, o3, o4, rfl⟩ := fourx_of (l := os) (by rw [ol]; rfl)
          obtain ⟨_, z, ho1⟩ := at' (j := 0) rfl
          cases z
          obtain ⟨_, z, ho3⟩ := at' (j := 2) rfl
          cases z
          obtain ⟨_, z, ho4⟩ := at' (j := 3) rfl
          cases z
          obtain ⟨op, hop⟩ := isO_ex PaF ptS w2
          have hl3 : H3 l = some (.lst [.str a, .str w1, .str w2, .str w3, .str w4]) := hl3
          have hDa : H3 D = some (.lst [oV o1, oV o2, oV o3, oV o4]) := hDa
          refine iteTe (decide_eq_true rfl) (iteT ?_)
          refine ⟨_, rfl, l, _, _, _, rfl, rfl, SqL.of hl3, rfl, ?_⟩
          refine ⟨_, rfl, D, _, _, _, rfl, rfl, SqL.of hDa, rfl, ?_⟩
          refine ⟨_, rfl, l, _, _, _, rfl, rfl, SqL.of hl3, rfl, w2, op, rfl, sl w2 (by simp), hop, fun v H4 k4 rv => ⟨(by show 3 ≤ sizeLine; decide), fun t1 H5 ht1 k5 h5 => ?_⟩⟩
          refine ⟨_, rfl, 2, rfl, D, _, rfl, SqL.of ((k4.trans k5).at hDa nmem_nil), fun l5 H6 hl5 k6 h6 => ?_⟩
          rw [cut_drop (by decide)] at h6
          have h6 : H6 l5 = some (.lst [oV o3, oV o4]) := h6
          refine ⟨l5, _, rfl, .inl ⟨SqL.of h6, fun t2 H7 ht2 k7 h7 => ?_⟩⟩
          refine ⟨t1, t2, _, _, rfl, rfl, SqT.of ((k6.trans k7).tup _ _ h5), SqT.of h7, (fun z => by cases z), (by show 5 ≤ sizeLine; decide), (fun z => by cases z), fun _ => fun t3 H8 ht3 k8 h8 => ?_⟩
          have h8 : H8 t3 = some (.tup [.str a, oV o1, v, oV o3, oV o4]) := h8
          have k58 := ((k5.trans k6).trans k7).trans k8
          refine q _ H8 ((k13.trans k4).trans k58) ⟨fun x ex => ?_, fun ex => .inr ?_⟩
          · subst ex
            obtain ⟨⟨xf, xb⟩, z⟩ := ho
            rcases brow xf xb z with ⟨_, n, p, b, c, nf, pf, bf, cf, e⟩ | ⟨z0, _⟩ | ⟨z0, _⟩
            · obtain ⟨e1, e⟩ := List.cons.inj e
              obtain ⟨e2, e⟩ := List.cons.inj e
              obtain ⟨e3, e⟩ := List.cons.inj e
              have e4 := (List.cons.inj e).1
              rw [ho1.is (fun a b => numS_inj) nf e1, ho3.is (fun a b => numS_inj) bf e3, ho4.is (fun a b => numS_inj) cf e4, c2] at h8
              rw [hop.is (fun a b => ptS_inj) pf e2] at rv
              have ex : x = .sold n p b c := txW_inj xf (show TxF (.sold n p b c) from ⟨nf, pf, bf, cf⟩) (by rw [← z, txW_eq, c2, e1, e2, e3, e4]; rfl)
              rw [ex]
              exact RepT.tup h8 (RepTs.cons RepT.str (RepTs.cons RepT.int (RepTs.cons (rv.kp k58) (RepTs.cons RepT.int (RepTs.cons RepT.int RepTs.nil)))))
            · exact absurd z0 c1
            · rw [c2] at z0; exact absurd z0 (by decide +kernel)
          · subst ex
            refine ⟨[.v (.str a), oI o1, oD ptD op, oI o3, oI o4], RepT.tup h8 (RepTs.cons RepT.str (RepTs.cons (oV_rep o1) (RepTs.cons (rv.kp k58) (RepTs.cons (oV_rep o3) (RepTs.cons (oV_rep o4) RepTs.nil))))), ?_⟩
            cases o1 with
            | none => rfl
            | some n =>
              cases op with
              | none => rfl
              | some p =>
                cases o3 with
                | none => rfl
                | some b =>
                  cases o4 with
                  | none => rfl
                  | some c => exact absurd ⟨.sold n p b c, ⟨⟨ho1.1, hop.1, ho3.1, ho4.1⟩, rfl⟩, by rw [txW_eq, c2, ho1.2, hop.2, ho3.2, ho4.2]; rfl⟩ ho
        · refine iteFe (decide_eq_false fun z => l4 (by injection z with z; omega)) ?_
          refine ⟨_, rfl, l, _, _, _, rfl, rfl, SqL.of hl3, at_of (by decide) rfl, rfl, _, rfl, iteFe (decide_eq_false fun z => by rw [c2] at z; exact absurd (V.str.inj z) (by decide +kernel)) (iteF ?_)⟩
          refine hno (ho.no (no fun x xf xb z => ?_)) H3 k13
          rcases brow xf xb z with ⟨_, _, _, _, _, _, _, _, _, e⟩ | ⟨z0, _⟩ | ⟨z0, _⟩
          · exact l4 (by rw [e]; rfl)
          · exact absurd z0 c1
          · rw [c2] at z0; exact absurd z0 (by decide +kernel)
      · refine iteFe (decide_eq_false fun z => c2 (V.str.inj z)) (iteF ?_)
        refine ⟨_, rfl, l, _, _, _, rfl, rfl, SqL.of hl3, at_of (by decide) rfl, rfl, _, rfl, ?_⟩
        by_cases c3 : a = "changed"
        · refine iteTe (decide_eq_true (by rw [c3])) ⟨_, rfl, l, _, rfl, .inl (SqL.of hl3), rfl, _, rfl, ?_⟩
          by_cases l6 : r.length = 6
          · obtain ⟨w1, w2, w3, w4, w5, w6, rfl⟩ := six_of l6
            obtain ⟨o1, o2, o3, o4, o5, o6, rfl⟩ := six_of (l := os) (by rw [ol]; rfl)
            obtain ⟨_, z, ho1⟩ := at' (j := 0) rfl
            cases z
            obtain ⟨_, z, ho3⟩ := at' (j := 2) rfl
            cases z
            obtain ⟨_, z, ho4⟩ := at' (j := 3) rfl
            cases z
            obtain ⟨_, z, ho5⟩ := at' (j := 4) rfl
            cases z
            obtain ⟨_, z, ho6⟩ := at' (j := 5) rfl
            cases z
            obtain ⟨op, hop⟩ := isO_ex PaF ptS w2
            have hl3 : H3 l = some (.lst [.str a, .str w1, .str w2, .str w3, .str w4, .str w5, .str w6]) := hl3
            have hDa : H3 D = some (.lst [oV o1, oV o2, oV o3, oV o4, oV o5, oV o6]) := hDa
            refine iteTe (decide_eq_true rfl) ?_
            refine ⟨_, rfl, l, _, _, _, rfl, rfl, SqL.of hl3, rfl, ?_⟩
            refine ⟨_, rfl, D, _, _, _, rfl, rfl, SqL.of hDa, rfl, ?_⟩
            refine ⟨_, rfl, l, _, _, _, rfl, rfl, SqL.of hl3, rfl, w2, op, rfl, sl w2 (by simp), hop, fun v H4 k4 rv => ⟨(by show 3 ≤ sizeLine; decide), fun t1 H5 ht1 k5 h5 => ?_⟩⟩
            refine ⟨_, rfl, 2, rfl, D, _, rfl, SqL.of ((k4.trans k5).at hDa nmem_nil), fun l5 H6 hl5 k6 h6 => ?_⟩
            rw [cut_drop (by decide)] at h6
            have h6 : H6 l5 = some (.lst [oV o3, oV o4, oV o5, oV o6]) := h6
            refine ⟨l5, _, rfl, .inl ⟨SqL.of h6, fun t2 H7 ht2 k7 h7 => ?_⟩⟩
            refine ⟨t1, t2, _, _, rfl, rfl, SqT.of ((k6.trans k7).tup _ _ h5), SqT.of h7, (fun z => by cases z), (by show 7 ≤ sizeLine; decide), (fun z => by cases z), fun _ => fun t3 H8 ht3 k8 h8 => ?_⟩
            have h8 : H8 t3 = some (.tup [.str a, oV o1, v, oV o3, oV o4, oV o5, oV o6]) := h8
            have k58 := ((k5.trans k6).trans k7).trans k8
            refine q _ H8 ((k13.trans k4).trans k58) ⟨fun x ex => ?_, fun ex => .inr ?_⟩
            · subst ex
              obtain ⟨⟨xf, xb⟩, z⟩ := ho
              rcases brow xf xb z with ⟨z0, _⟩ | ⟨z0, _⟩ | ⟨_, n, p, b, c, d, e', nf, pf, bf, cf, df, ef, e⟩
              · exact absurd z0 c2
              · exact absurd z0 c1
              · obtain ⟨e1, e⟩ := List.cons.inj e
                obtain ⟨e2, e⟩ := List.cons.inj e
                obtain ⟨e3, e⟩ := List.cons.inj e
                obtain ⟨e4, e⟩ := List.cons.inj e
                obtain ⟨e5, e⟩ := List.cons.inj e
                have e6 := (List.cons.inj e).1
                rw [ho1.is (fun a b => numS_inj) nf e1, ho3.is (fun a b => numS_inj) bf e3, ho4.is (fun a b => numS_inj) cf e4, ho5.is (fun a b => numS_inj) df e5, ho6.is (fun a b => numS_inj) ef e6, c3] at h8
                rw [hop.is (fun a b => ptS_inj) pf e2] at rv
                have ex : x = .chan n p b c d e' := txW_inj xf (show TxF (.chan n p b c d e') from ⟨nf, pf, bf, cf, df, ef⟩) (by rw [← z, txW_eq, c3, e1, e2, e3, e4, e5, e6]; rfl)
                rw [ex]
                exact RepT.tup h8 (RepTs.cons RepT.str (RepTs.cons RepT.int (RepTs.cons (rv.kp k58) (RepTs.cons RepT.int (RepTs.cons RepT.int (RepTs.cons RepT.int (RepTs.cons RepT.int RepTs.nil)))))))
            · subst ex
              refine ⟨[.v (.str a), oI o1, oD ptD op, oI o3, oI o4, oI o5, oI o6], RepT.tup h8 (RepTs.cons RepT.str (RepTs.cons (oV_rep o1) (RepTs.cons (rv.kp k58) (RepTs.cons (oV_rep o3) (RepTs.cons (oV_rep o4) (RepTs.cons (oV_rep o5) (RepTs.cons (oV_rep o6) RepTs.nil))))))), ?_⟩
              cases o1 with
              | none => rfl
              | some n =>
                cases op with
                | none => rfl
                | some p =>
                  cases o3 with
                  | none => rfl
                  | some b =>
                    cases o4 with
                    | none => rfl
                    | some c =>
                      cases o5 with
                      | none => rfl
                      | some d =>
                        cases o6 with
                        | none => rfl
                        | some e => exact absurd ⟨.chan n p b c d e, ⟨⟨ho1.1, hop.1, ho3.1, ho4.1, ho5.1, ho6.1⟩, rfl⟩, by rw [txW_eq, c3, ho1.2, hop.2, ho3.2, ho4.2, ho5.2, ho6.2]; rfl⟩ ho
          · refine iteFe (decide_eq_false fun z => l6 (by injection z with z; omega)) ?_
            refine hno (ho.no (no fun x xf xb z => ?_)) H3 k13
            rcases brow xf xb z with ⟨z0, _⟩ | ⟨z0, _⟩ | ⟨_, _, _, _, _, _, _, _, _, _, _, _, _, e⟩
            · exact absurd z0 c2
            · exact absurd z0 c1
            · exact l6 (by rw [e]; rfl)
        · refine iteFe (decide_eq_false fun z => c3 (V.str.inj z)) (iteF ?_)
          refine hno (ho.no (no fun x xf xb z => ?_)) H3 k13
          rcases brow xf xb z with ⟨z0, _⟩ | ⟨z0, _⟩ | ⟨z0, _⟩
          · exact c2 z0
          · exact c1 z0
          · exact c3 z0
end

end MD
namespace MD
open PySem PySem.Spec PyProof.Rows L2
local macro_rules | `(tactic| walk_at "ne") => `(tactic| first | assumption | (apply Ne.symm; assumption) | exact ne_of_none (by assumption) (by assumption) | exact (ne_of_none (by assumption) (by assumption)).symm)
local macro_rules | `(tactic| walk_at "hp") => `(tactic| first | assumption | exact upd_same | (refine (upd_ne ?_).trans ?_; (focus walk_at "ne"); walk_at "hp"))
local macro_rules | `(tactic| walk_at "nm") => `(tactic| first | exact nmem_nil | exact nmem_one (by walk_at "ne") | exact nmem_cons (by walk_at "ne") (by walk_at "nm"))
section
variable {P : Program} {w : World} {K : PySem.W.Frag} {mg : Str → Option Value} {base : Heap}
open TL
/-! ### whole texts, by the law -/
theorem split_last (x : Str) : ∃ ls z, Txt.split x "\n" = ls ++ [z] ∧ 10 ∉ tl z := by
  obtain ⟨_, h2, ne⟩ := split_parts tl_feed (by decide +kernel) x
  refine ⟨_, _, (List.dropLast_concat_getLast ne).symm, h2 _ (List.getLast_mem ne)⟩
theorem join_snoc (y z : Str) : ∀ {ls : List Str}, ls ≠ [] → Txt.join y (ls ++ [z]) = Txt.join y ls ++ y ++ z
  | [a], _ => by rw [join_eq]; rfl
  | a :: b :: r, _ => by
    have ih := join_snoc y z (ls := b :: r) (fun h => nomatch h)
    rw [join_eq, join_eq] at ih
    rw [join_eq, join_eq]
    show a ++ y ++ Str.join y ((b :: r) ++ [z]) = a ++ y ++ Str.join y (b :: r) ++ y ++ z
    rw [ih]
    simp only [app_assoc]
theorem getLast_of {a : Nat} {l r : List Nat} (h : r = l ++ [a]) : r.getLast? = some a := by rw [h]; simp
theorem feed_last {x : Str} {ls : List Str} {z : Str} (e : Txt.split x "\n" = ls ++ [z]) (nz : 10 ∉ tl z) : (x = Str.empty ∨ (tl x).getLast? = some 10) ↔ z = Str.empty := by
  have ex := (split_parts tl_feed (by decide +kernel) x).1
  rw [e] at ex
  constructor
  · rintro (h | h)
    · rw [h, show Txt.split Str.empty "\n" = [Str.empty] by decide +kernel] at e
      have := (List.append_inj' (s₁ := []) (show [] ++ [Str.empty] = ls ++ [z] from e) rfl).2
      exact (List.cons.inj this).1.symm
    · have tx : (tl z).getLast? = some 10 ∨ tl z = [] := by
        by_cases hz : tl z = []
        · exact .inr hz
        · refine .inl ?_
          rw [← h]
          cases ls with
          | nil =>
            have : x = z := by rw [ex, join_eq]; rfl
            rw [this]
          | cons a r =>
            rw [ex, join_snoc _ _ (List.cons_ne_nil a r), tl_append, List.getLast?_append]
            cases q : (tl z).getLast? with
            | none => exact absurd (List.getLast?_eq_none_iff.mp q) hz
            | some c => rfl
      rcases tx with h | h
      · exact absurd (List.mem_of_getLast? h) nz
      · exact ext_tl (by rw [h]; rfl)
  · intro h
    subst h
    cases ls with
    | nil =>
      left
      rw [ex, join_eq]; rfl
    | cons a r =>
      right
      rw [ex, join_snoc _ _ (List.cons_ne_nil a r), tl_append, tl_append, tl_feed]
      exact getLast_of (by show _ ++ [10] ++ [] = _; rw [List.append_nil])
theorem cut_take {xs : List V} {i : Int} (h : 0 ≤ i) : cutV xs none (some i) = xs.take i.toNat := by
  have e : HT.sIx xs.length xs.length (some i) = min i.toNat xs.length := if_neg (by omega)
  have e2 : HT.sIx xs.length 0 none = 0 := rfl
  unfold cutV
  rw [e, e2, List.drop_zero, Nat.sub_zero]
  by_cases z : i.toNat ≤ xs.length
  · rw [Nat.min_eq_left z]
  · rw [Nat.min_eq_right (by omega), List.take_of_length_le (Nat.le_refl _), List.take_of_length_le (by omega)]
/-- row by row -/
theorem rows_take {b : Bool} {ls : List Str} {rs : List Tx} (ok : ∀ r ∈ rs, TxF r ∧ r.bk = b) (e : ls = rs.map txS) {x : Str} (ex : Txt.split x "\n" = ls ++ [Str.empty]) : x = allS rs := by
  refine (text_iff (fun r h => (ok r h).1) x).mp ?_
  rw [ex, e]
def spLRead (b : Bool) : Sp := fun vs H Q _ => ∃ (x : Str) (o : Option (List Tx)), vs = [.str (kindS b), .str x] ∧ x.length ≤ 10000 ∧ IsO (fun rs => ∀ r ∈ rs, TxF r ∧ r.bk = b) allS x o ∧
  ∀ (v : V) (H' : Hp), Kp [] H H' → (∀ rs, o = some rs → ∃ l xs, v = .ref l ∧ H' l = some (.lst xs) ∧ RepTs H' (rs.map txD) xs ∧ rs.length ≤ 10001) → (o = none → v = .non) → Q v H'
theorem c_law_read (T : Txt K mg) (b : Bool) : Cal P w K mg base 6 "_law_read" (spLRead b) := by
  have c_law_read_history_row := c_law_read_history_row (P := P) (w := w) (base := base) T
  have c_law_read_book_row := c_law_read_book_row (P := P) (w := w) (base := base) T
  refine cal_of T.d_law_read sc_law_read (fun vs H Q E h => ?_) (fun f cdv A outer s H vs Q E hr h => ?_)
  · obtain ⟨x, o, rfl, _⟩ := h; rfl
  · obtain ⟨x, o, rfl, xl, ho, q⟩ := h
    have hu := hu_of hr
    refine ⟨_, (pss_cons (ps_set (i := 2) sc_law_read.nd rfl (Or.inl rfl) (ke_lst pa_nil))
  (C8.pss_cut (ps_if (PW.pt (pw_and (pt_cmpR op_ne (pv 1) pe_str (nomark _)) (pw_and1 (pt_cmpR op_ne (pe_ix ix_str (pv 1) (pe_op op_sub (pe_callB call_len_str (by rfl) T.z_len (by decide +kernel) (pa_cons (pv 1) pa_nil)) pe_int) (fun _ _ => rfl)) pe_str (nomark _)))))
  (pss_one (ps_ret pe_non))
  pss_nil)
  (pss_cons (ps_set (i := 3) sc_law_read.nd rfl (Or.inl rfl) (ke_split (pv 1) pe_str))
  (pss_cons (ps_for PassesOwn.never rfl (pilK (K := K) (pe_slice (kslL (K := K)) (pv 3) po_none (po_some (pe_op op_sub (pe_callB (lenK (K := K)) (by rfl) T.z_len (by decide +kernel) (pa_cons (pv 3) pa_nil)) pe_int)))) (pg_name (i := 4) sc_law_read.nd rfl (Or.inl rfl))
  (C8.pss_cut (ps_if (pt_cmpR op_eq (pv 0) pe_str (nomark _))
  (pss_one (ps_set (i := 5) sc_law_read.nd rfl (Or.inl rfl) (pe_c c_law_read_book_row (hr.mono (by first | decide | omega)) rfl (pa_cons (ke_split (pv 4) pe_str) pa_nil))))
  (pss_one (ps_set (i := 5) sc_law_read.nd rfl (Or.inl rfl) (pe_c c_law_read_history_row (hr.mono (by first | decide | omega)) rfl (pa_cons (ke_split (pv 4) pe_str) pa_nil)))))
  (pss_cons (ps_if (PW.pt (pw_or (pt_cmpR op_isN (pv 5) pe_non (nomark _)) (pw_or1 (pt_cmpR (op_inD (K := K) (hu9_of hr) rfl) pe_non (pv 5) (by rfl)))))
  (pss_one (ps_ret pe_non))
  pss_nil)
  (pss_one (ps_expr (pe_bm PySem.F.plainAttrs_list PySem.F.slot_list_append PySem.F.type_list_append mk_append (pv 2) (pa_cons (pv 5) pa_nil)))))))
  (pss_one (ps_ret (pv 2))))))), ?_⟩
    have b5 : 16000 ≤ sizeLine := by decide
    have hno : o = none → ∀ H1, Kp [] H H1 → Q .non H1 := fun no H1 k1 => q _ H1 k1 (fun x z => by rw [no] at z; cases z) (fun _ => rfl)
    refine ⟨(by show 0 ≤ sizeLine; decide), fun L H1 hL k1 h1 => ?_⟩
    obtain ⟨ls, z, e, nz⟩ := split_last x
    have hfe := feed_last e nz
    have need : (∃ rs, (∀ r ∈ rs, TxF r ∧ r.bk = b) ∧ x = allS rs) → z = Str.empty := fun ⟨rs, ok, ex⟩ => by
      have := lines_rows (fun r h => (ok r h).1) ex
      rw [e] at this
      exact (List.cons.inj (List.append_inj' this rfl).2).1
    refine ⟨fun σ H' => H' = H1 ∧ σ = [some (.str (kindS b)), some (.str x), some (.ref L), none, none, none] ∧ (x = Str.empty ∨ (tl x).getLast? = some 10), ?_, ?_⟩
    · refine ⟨_, rfl, rfl, _, rfl, ?_⟩
      by_cases e0 : x = Str.empty
      · exact iteFe (by rw [e0]; decide +kernel) (iteF ⟨rfl, rfl, .inl e0⟩)
      · refine iteTe (congrArg (!·) (decide_eq_false fun z => e0 ?_)) ?_
        · have z := V.str.inj z
          rw [z]; decide +kernel
        · have xne : tl x ≠ [] := fun z => e0 (ext_tl (by rw [z]; rfl))
          have ed := (List.dropLast_concat_getLast xne).symm
          generalize (tl x).getLast xne = c at ed
          generalize (tl x).dropLast = i at ed
          have xl2 : x.length = i.length + 1 := by rw [len_tl, ed, List.length_append]; rfl
          have eat : atI x.cps.toList (((x.length : Nat) : Int) - 1) = some c := by
            rw [show ((x.length : Nat) : Int) - 1 = ((i.length : Nat) : Int) by omega]
            refine atI_nat ?_
            show (tl x)[i.length]? = some c
            rw [ed]; exact List.getElem?_concat_length
          refine ⟨_, rfl, _, rfl, x, rfl, by omega, _, _, rfl, rfl, x, _, c, rfl, rfl, by omega, eat, rfl, _, rfl, ?_⟩
          by_cases c10 : c = 10
          · refine iteFe (congrArg (!·) (decide_eq_true (by rw [c10]; decide +kernel))) ⟨rfl, rfl, .inr (by rw [ed, c10]; simp)⟩
          · refine iteTe (congrArg (!·) (decide_eq_false fun z => c10 ?_)) (hno (ho.no fun hs => ?_) H1 k1)
            · have z := congrArg Str.cps (V.str.inj z)
              have z2 : (#[c] : Array Nat).toList = (Str.ofString "\n").cps.toList := congrArg Array.toList z
              have : [c] = [10] := z2.trans (by decide +kernel)
              exact (List.cons.inj this).1
            · rcases hfe.mpr (need hs) with z | z
              · exact e0 z
              · rw [ed] at z; simp at z; exact c10 z
    · rintro σ H' ⟨rfl, rfl, hx⟩
      have ez := hfe.mp hx
      subst ez
      obtain ⟨wl, wp⟩ := split_len tl_feed (by decide +kernel) xl
      have lsl : ls.length ≤ 10000 := by
        rw [e, List.length_append] at wl
        simp only [List.length_cons, List.length_nil] at wl
        omega
      have lsp : ∀ y ∈ ls, y.length ≤ 10000 := fun y hy => wp y (by rw [e]; exact List.mem_append_left _ hy)
      refine ⟨_, rfl, ⟨_, rfl⟩, x, _, rfl, rfl, (by decide +kernel), by omega, fun sl H2 hsl k2 h2 => ?_⟩
      have h2' : H2 sl = some (.lst (vStr ls ++ [.str Str.empty])) := by
        rw [h2, e]
        show some (HO.lst ((ls ++ [Str.empty]).map V.str)) = _
        rw [List.map_append]; rfl
      have l2len : ((vStr ls ++ [V.str Str.empty]).length : Int) - 1 = (ls.length : Nat) := by
        unfold vStr
        rw [List.length_append, List.length_map]
        show ((ls.length + 1 : Nat) : Int) - 1 = _
        omega
      refine ⟨_, rfl, _, rfl, sl, _, rfl, .inl (SqL.of h2'), _, _, rfl, rfl, _, rfl, sl, _, rfl, SqL.of h2', fun l2 H3 hl2 k3 h3 => ?_⟩
      rw [cut_take (by omega), l2len, Int.toNat_natCast, show ls.length = (vStr ls).length from (List.length_map ..).symm, List.take_left] at h3
      have hLH : H L = none := hL
      have k23 := k2.trans k3
      refine ⟨l2, rfl, ⟨_, SqL.of h3⟩, for_list (K := K) (a := l2) (xs := vStr ls) (fun i σ H' => ∃ (y z : Option V) (rs : List Tx) (acc : List V), σ = [some (.str (kindS b)), some (.str x), some (.ref L), some (.ref sl), y, z] ∧ Kp [] H H' ∧ H' l2 = some (.lst (vStr ls)) ∧ H' L = some (.lst acc) ∧ (∀ r ∈ rs, TxF r ∧ r.bk = b) ∧ ls.take i = rs.map txS ∧ RepTs H' (rs.map txD) acc)
        ⟨_, _, [], [], rfl, k1.trans k23, h3, k23.at h1 nmem_nil, (fun _ z => nomatch z), rfl, RepTs.nil⟩ (fun i σ H' _ ⟨_, _, _, _, _, _, h, _⟩ => SqL.of h) ?_ ?_⟩
      · rintro i v σ H4 hv ⟨y0, z0, rs, acc, rfl, k4, hl4, hL4, ok, em, r4⟩
        rw [show (vStr ls)[i]? = (ls[i]?).map V.str from List.getElem?_map ..] at hv
        cases en : ls[i]? with
        | none => rw [en] at hv; cases hv
        | some y =>
          rw [en] at hv
          cases hv
          have ym := List.mem_of_getElem? en
          have il : i < ls.length := (List.getElem?_eq_some_iff.mp en).1
          have rl : rs.length = i := by
            have := congrArg List.length em
            rw [List.length_map, List.length_take] at this
            omega
          have yl := lsp y ym
          obtain ⟨pl, pp⟩ := split_len tl_blank (by decide +kernel) yl
          have pne := (split_parts tl_blank (by decide +kernel) y).2.2
          obtain ⟨oy, hoy⟩ := isO_ex (fun r => TxF r ∧ r.bk = b) txW (Txt.split y " ")
          have nLl : L ≠ l2 := fun z => by rw [z, h3 |> fun h => hl4] at hL4; cases hL4; exact absurd hl2 (by rw [← z]; exact fun h => by have := (k2.at h1 nmem_nil); rw [h] at this; cases this)
          refine ⟨fun σ H' => ∃ v, σ = [some (.str (kindS b)), some (.str x), some (.ref L), some (.ref sl), some (.str y), some v] ∧ Kp [] H4 H' ∧ RowR H' oy v, ?_, ?_⟩
          · refine ⟨_, rfl, rfl, _, rfl, ?_⟩
            cases b with
            | true => exact iteTe (by decide +kernel) ⟨_, rfl, ⟨_, rfl⟩, y, _, rfl, rfl, (by decide +kernel), by omega, fun wd H5 hwd k5 h5 => ⟨wd, Txt.split y " ", oy, rfl, h5, pne, pp, pl, hoy, fun v H6 k6 rr => ⟨v, rfl, k5.trans k6, rr⟩⟩⟩
            | false => exact iteFe (by decide +kernel) ⟨_, rfl, ⟨_, rfl⟩, y, _, rfl, rfl, (by decide +kernel), by omega, fun wd H5 hwd k5 h5 => ⟨wd, Txt.split y " ", oy, rfl, h5, pne, pp, pl, hoy, fun v H6 k6 rr => ⟨v, rfl, k5.trans k6, rr⟩⟩⟩
          · rintro σ H5 ⟨v, rfl, k5, g1, g2⟩
            refine ⟨_, rfl, rfl, _, rfl, ?_⟩
            have k45 := k4.trans k5
            cases oy with
            | none =>
              have no : o = none := ho.no fun ⟨rs', ok', ex⟩ => by
                have e' := lines_rows (fun r h => (ok' r h).1) ex
                rw [e] at e'
                have e' := (List.append_inj' e' rfl).1
                rw [e', List.getElem?_map] at en
                cases e2 : rs'[i]? with
                | none => rw [e2] at en; cases en
                | some z =>
                  rw [e2] at en
                  obtain ⟨zf, zb⟩ := ok' z (List.mem_of_getElem? e2)
                  have ey : txS z = y := by injection en
                  exact hoy ⟨z, ⟨zf, zb⟩, by rw [← ey]; exact txS_split zf⟩
              rcases g2 rfl with rfl | ⟨ds, rd, an⟩
              · exact iteTe (decide_eq_true rfl) (hno no H5 k45)
              · obtain ⟨dt, xs, rfl, hdt, rx⟩ := RepT.tupE rd
                refine iteFe (decide_eq_false fun z => nomatch z) ?_
                refine ⟨_, rfl, non_in (SqB_tup hdt) rx ⟨_, rfl, ?_⟩⟩
                rw [an]
                exact iteT (hno no H5 k45)
            | some r =>
              have gr := g1 r rfl
              have gr' := gr
              rw [txD_eq] at gr
              obtain ⟨dt, xs, rfl, hdt, rx⟩ := RepT.tupE gr
              refine iteFe (decide_eq_false fun z => nomatch z) ?_
              refine ⟨_, rfl, non_in (SqB_tup hdt) rx ⟨_, rfl, ?_⟩⟩
              have an : ((txI r).map itD).any nonD = false := by
                cases r with
                | asked s n d => cases d <;> rfl
                | _ => rfl
              rw [an]
              refine iteF ?_
              have hL5 := k5.at hL4 nmem_nil
              refine ⟨_, rfl, .inl ⟨rfl, _, SqL.of hL5⟩, _, rfl, L, _, _, rfl, rfl, hL5, sz (m := 10001) (by rw [r4.lenM, rl]; omega), fun H6 k6 h6 => ?_⟩
              refine ⟨_, _, rs ++ [r], _, rfl, k45.put k6 hLH, k6.at (k5.at hl4 nmem_nil) (nmem_one nLl.symm), h6, fun r' hr' => ?_, ?_, ?_⟩
              · rcases List.mem_append.mp hr' with z1 | z1
                · exact ok r' z1
                · rw [List.mem_singleton.mp z1]; exact hoy.1
              · rw [take_sn en, em, List.map_append, line_is hoy.1.1 hoy.2]; rfl
              · rw [List.map_append]
                exact RepTs.snoc (gr'.kp k6) ((r4.kp k5).kp k6)
      · rintro σ H4 ⟨y0, z0, rs, acc, rfl, k4, hl4, hL4, ok, em, r4⟩
        rw [show (vStr ls).length = ls.length from List.length_map .., List.take_length] at em
        have ex : x = allS rs := rows_take ok em e
        have rl : rs.length ≤ 10001 := by
          have := congrArg List.length em
          rw [List.length_map] at this
          omega
        have eo := ho.is (fun a b ha hb => allS_inj (fun r h => (ha r h).1) (fun r h => (hb r h).1)) ok ex
        refine ⟨_, rfl, q _ H4 k4 (fun rs' e' => ?_) (fun e' => by rw [eo] at e'; cases e')⟩
        rw [eo] at e'
        cases e'
        exact ⟨L, acc, rfl, hL4, r4, rl⟩
end

end MD
namespace MD
open PySem PySem.Spec PyProof.Rows L2
local macro_rules | `(tactic| walk_at "ne") => `(tactic| first | assumption | (apply Ne.symm; assumption) | exact ne_of_none (by assumption) (by assumption) | exact (ne_of_none (by assumption) (by assumption)).symm)
local macro_rules | `(tactic| walk_at "hp") => `(tactic| first | assumption | exact upd_same | (refine (upd_ne ?_).trans ?_; (focus walk_at "ne"); walk_at "hp"))
local macro_rules | `(tactic| walk_at "nm") => `(tactic| first | exact nmem_nil | exact nmem_one (by walk_at "ne") | exact nmem_cons (by walk_at "ne") (by walk_at "nm"))
section
variable {P : Program} {w : World} {K : PySem.W.Frag} {mg : Str → Option Value} {base : Heap}
open TL
/-! ### what is changed -/
def spChanged : Sp := fun vs H Q _ => ∃ (d n : Addr) (ns : List Int) (k : Int) (x : Str), vs = [.ref d, .str x] ∧ DrawsAt H d n ns k ∧ x.length ≤ 9000 ∧
  ∀ (y : Str) (k' : Int) (H' : Hp), y.length ≤ x.length + 24 → Kp [d] H H' → DrawsAt H' d n ns k' → Q (.str y) H'
theorem signs_len (x : Str) : (signs x).length = x.length := by unfold signs; rw [List.length_map, Array.length_toList]; rfl
theorem signs_one (x : Str) : ∀ y ∈ signs x, y.length ≤ 1 := fun y hy => by
  unfold signs at hy
  obtain ⟨c, _, rfl⟩ := List.mem_map.mp hy
  exact Nat.le_refl 1
def chW : List Str := ["0", "1", "9", "00", ":", "-", "+", " ", "\n", "wish", "told", "yes", "no", "sold", "x", "-1", "a", ".", "+0:1-2", "cancel 1", "\t", "|"]
theorem chW_len : ∀ y ∈ chW, y.length ≤ 8 := by decide +kernel
theorem c_law_changed (T : Txt K mg) : Cal P w K mg base 3 "_law_changed" spChanged := by
  have c_law_draw := c_law_draw (P := P) (w := w) (base := base) T
  refine cal_of T.d_law_changed sc_law_changed (fun vs H Q E h => ?_) (fun f cdv A outer s H vs Q E hr h => ?_)
  · obtain ⟨d, n, ns, k, x, rfl, _⟩ := h; rfl
  · obtain ⟨d, n, ns, k, x, rfl, DA, xl, q⟩ := h
    have hu := hu_of hr
    refine ⟨_, (pss_cons (ps_set (i := 2) sc_law_changed.nd rfl (Or.inl rfl) (pe_callTy (call_list_text rfl) (by rfl) T.z_list (by decide +kernel) (pa_cons (pv 1) pa_nil)))
  (pss_cons (ps_set (i := 3) sc_law_changed.nd rfl (Or.inl rfl) (ke_lst (pa_cons pe_str (pa_cons pe_str (pa_cons pe_str (pa_cons pe_str (pa_cons pe_str (pa_cons pe_str (pa_cons pe_str (pa_cons pe_str (pa_cons pe_str (pa_cons pe_str (pa_cons pe_str (pa_cons pe_str (pa_cons pe_str (pa_cons pe_str (pa_cons pe_str (pa_cons pe_str (pa_cons pe_str (pa_cons pe_str (pa_cons pe_str (pa_cons pe_str (pa_cons pe_str (pa_cons pe_str pa_nil))))))))))))))))))))))))
  (pss_cons (ps_for PassesOwn.never rfl (pi_range1 (by rfl) T.z_range (pa_cons (pe_op op_add pe_int (pe_op op_mod (pe_c c_law_draw (hr.mono (by first | decide | omega)) rfl (pa_cons (pv 0) pa_nil)) pe_int)) pa_nil)) (pg_name (i := 4) sc_law_changed.nd rfl (Or.inl rfl))
  (pss_cons (ps_set (i := 5) sc_law_changed.nd rfl (Or.inl rfl) (pe_op op_mod (pe_c c_law_draw (hr.mono (by first | decide | omega)) rfl (pa_cons (pv 0) pa_nil)) (pe_op op_add (pe_callB (lenK (K := K)) (by rfl) T.z_len (by decide +kernel) (pa_cons (pv 2) pa_nil)) pe_int)))
  (pss_cons (ps_set (i := 6) sc_law_changed.nd rfl (Or.inl rfl) (pe_ix (ixL (K := K)) (pv 3) (pe_op op_mod (pe_c c_law_draw (hr.mono (by first | decide | omega)) rfl (pa_cons (pv 0) pa_nil)) pe_int) (fun _ _ => rfl)))
  (pss_cons (ps_set (i := 7) sc_law_changed.nd rfl (Or.inl rfl) (pe_op op_mod (pe_c c_law_draw (hr.mono (by first | decide | omega)) rfl (pa_cons (pv 0) pa_nil)) pe_int))
  (pss_one (ps_if (pt_cmpR op_eq (pv 7) pe_int (nomark _))
  (pss_one (ps_set (i := 2) sc_law_changed.nd rfl (Or.inl rfl) (pe_op kcat (pe_op kcat (pe_slice (kslL (K := K)) (pv 2) po_none (po_some (pv 5))) (pe_callTy (call_list_text rfl) (by rfl) T.z_list (by decide +kernel) (pa_cons (pv 6) pa_nil))) (pe_slice (kslL (K := K)) (pv 2) (po_some (pv 5)) po_none))))
  (pss_one (ps_if (pt_cmpR op_eq (pv 7) pe_int (nomark _))
  (pss_one (ps_set (i := 2) sc_law_changed.nd rfl (Or.inl rfl) (pe_op kcat (pe_op kcat (pe_slice (kslL (K := K)) (pv 2) po_none (po_some (pv 5))) (pe_callTy (call_list_text rfl) (by rfl) T.z_list (by decide +kernel) (pa_cons (pv 6) pa_nil))) (pe_slice (kslL (K := K)) (pv 2) (po_some (pe_op op_add (pv 5) pe_int)) po_none))))
  (pss_one (ps_set (i := 2) sc_law_changed.nd rfl (Or.inl rfl) (pe_op kcat (pe_slice (kslL (K := K)) (pv 2) po_none (po_some (pv 5))) (pe_slice (kslL (K := K)) (pv 2) (po_some (pe_op op_add (pe_op op_add (pv 5) pe_int) (pe_op op_mod (pe_c c_law_draw (hr.mono (by first | decide | omega)) rfl (pa_cons (pv 0) pa_nil)) pe_int))) po_none))))))))))))
  (pss_one (ps_ret (ke_join (K := K) pe_str (pv 2))))))), ?_⟩
    have b5 : 16000 ≤ sizeLine := by decide
    refine ⟨_, rfl, x, rfl, by omega, fun s0 H1 hs0 k1 h1 => ?_⟩
    refine ⟨(by show 22 ≤ sizeLine; decide), fun wl H2 hwl k2 h2 => ?_⟩
    have h2 : H2 wl = some (.lst (vStr chW)) := h2
    have k02 := (k1.trans k2)
    have D2 := DA.kp0 k02
    refine ⟨_, rfl, d, n, ns, k, rfl, D2, fun c0 H3 c00 c01 k3 D3 => ⟨_, _, rfl, rfl, (by show (0 : Int) < 3; decide), _, _, rfl, rfl, ?_⟩⟩
    have m0 := MD.md c0 3 (by decide)
    have dwl : wl ≠ d := (ne_of_none (DA.kp0 k1).hd hwl).symm
    have ds0 : s0 ≠ d := (ne_of_none DA.hd hs0).symm
    have h1' : H3 s0 = some (.lst (vStr (signs x))) := k3.at (k2.at h1 nmem_nil) (nmem_one ds0)
    have w3 := k3.at h2 (nmem_one dwl)
    refine ⟨_, rfl, (by omega), (by omega), for_range (n := (1 + c0 % 3).toNat) (fun i σ H' => ∃ (sg : Addr) (ss : List Str) (k' : Int) (y4 y5 y6 y7 : Option V), σ = [some (.ref d), some (.str x), some (.ref sg), some (.ref wl), y4, y5, y6, y7] ∧ sg ≠ d ∧ H' sg = some (.lst (vStr ss)) ∧ (∀ y ∈ ss, y.length ≤ 1) ∧ ss.length ≤ x.length + 8 * i ∧ Kp [d] H H' ∧ DrawsAt H' d n ns k' ∧ H' wl = some (.lst (vStr chW)))
      ⟨s0, signs x, _, _, _, _, _, rfl, ds0, h1', signs_one x, by rw [signs_len]; omega, k02.nil.trans k3, D3, w3⟩ ?_ ?_⟩
    · rintro i σ H4 hi ⟨sg, ss, kk, y4, y5, y6, y7, rfl, nsd, h4, one, sl, k4, D4, w4⟩
      have i3 : i < 3 := by omega
      have sl' : ss.length ≤ 9100 := by omega
      have ln : ((vStr ss).length : Int) = ss.length := by unfold vStr; rw [List.length_map]
      refine ⟨_, rfl, d, n, ns, kk, rfl, D4, fun c1 H5 c10 c11 k5 D5 => ?_⟩
      have h5 := k5.at h4 (nmem_one nsd)
      refine ⟨_, rfl, sg, _, rfl, .inl (SqL.of h5), _, _, rfl, rfl, _, _, rfl, rfl, by omega, ?_⟩
      have ma := MD.md c1 ((vStr ss).length + 1) (by omega)
      obtain ⟨pa, ep⟩ : ∃ pa : Int, c1 % (((vStr ss).length : Int) + 1) = pa := ⟨_, rfl⟩
      rw [ep] at ma
      refine ⟨_, rfl, _, rfl, d, n, ns, _, rfl, D5, fun c2 H6 c20 c21 k6 D6 => ⟨_, _, rfl, rfl, (by show (0 : Int) < 22; decide), ?_⟩⟩
      have m2 := MD.md c2 22 (by decide)
      have w6 := (k5.trans k6).at w4 (nmem_one dwl)
      obtain ⟨wd, ew, wdm⟩ : ∃ wd : Str, atI (vStr chW) (c2 % 22) = some (.str wd) ∧ wd ∈ chW := by
        obtain ⟨j, ej, lt⟩ : ∃ j : Nat, c2 % 22 = (j : Int) ∧ j < chW.length := ⟨(c2 % 22).toNat, by omega, by show _ < 22; omega⟩
        refine ⟨chW[j], ?_, List.getElem_mem lt⟩
        rw [ej]
        refine atI_nat ?_
        show (chW.map V.str)[j]? = _
        rw [List.getElem?_map, List.getElem?_eq_getElem lt]; rfl
      have wdl := chW_len wd wdm
      refine ⟨wl, _, _, _, rfl, rfl, SqL.of w6, ew, ?_⟩
      refine ⟨_, rfl, d, n, ns, _, rfl, D6, fun c3 H7 c30 c31 k7 D7 => ⟨_, _, rfl, rfl, (by show (0 : Int) < 3; decide), ?_⟩⟩
      have k47 := (k5.trans k6).trans k7
      have h7 := k47.at h4 (nmem_one nsd)
      have w7 := k7.at w6 (nmem_one dwl)
      have tk : ∀ j : Int, 0 ≤ j → cutV (vStr ss) none (some j) = vStr (ss.take j.toNat) := fun j h => by rw [cut_take h]; unfold vStr; rw [List.map_take]
      have dr : ∀ j : Int, 0 ≤ j → cutV (vStr ss) (some j) none = vStr (ss.drop j.toNat) := fun j h => by rw [cut_drop h]; unfold vStr; rw [List.map_drop]
      have vl : ∀ l : List Str, (vStr l).length = l.length := fun l => by unfold vStr; rw [List.length_map]
      have va : ∀ a b : List Str, vStr a ++ vStr b = vStr (a ++ b) := fun a b => by unfold vStr; rw [List.map_append]
      have gs : (signs wd).length ≤ 8 := by rw [signs_len]; exact wdl
      have l1 : ∀ j, (ss.take j).length ≤ ss.length := fun j => by rw [List.length_take]; omega
      have l2 : ∀ j, (ss.drop j).length ≤ ss.length := fun j => by rw [List.length_drop]; omega
      have l3 : ∀ j, (ss.take j).length + (ss.drop j).length = ss.length := fun j => by rw [List.length_take, List.length_drop]; omega
      have l4 : ∀ j j', j ≤ j' → (ss.drop j').length ≤ (ss.drop j).length := fun j j' h => by rw [List.length_drop, List.length_drop]; omega
      have fin : ∀ (L : Addr) (zs : List Str) (kz : Int) (H9 : Hp) (y5 y6 y7 : Option V), L ≠ d → H9 L = some (.lst (vStr zs)) → (∀ y ∈ zs, y ∈ ss ∨ y ∈ signs wd) → zs.length ≤ ss.length + 8 → Kp [d] H H9 → DrawsAt H9 d n ns kz → H9 wl = some (.lst (vStr chW)) →
          ∃ (sg : Addr) (ss : List Str) (k' : Int) (y4 z5 z6 z7 : Option V), [some (.ref d), some (.str x), some (.ref L), some (.ref wl), some (.int (0 + (i : Nat))), y5, y6, y7] = [some (.ref d), some (.str x), some (.ref sg), some (.ref wl), y4, z5, z6, z7] ∧ sg ≠ d ∧ H9 sg = some (.lst (vStr ss)) ∧ (∀ y ∈ ss, y.length ≤ 1) ∧ ss.length ≤ x.length + 8 * (i + 1) ∧ Kp [d] H H9 ∧ DrawsAt H9 d n ns k' ∧ H9 wl = some (.lst (vStr chW)) := fun L zs kz H9 y5 y6 y7 nL hL mem ll kk Dz wz =>
        ⟨L, zs, kz, _, _, _, _, rfl, nL, hL, fun y hy => (mem y hy).elim (one y) (signs_one wd y), by omega, kk, Dz, wz⟩
      have k07 := k4.trans k47
      refine ⟨_, rfl, rfl, _, rfl, ite2 (fun _ => ?_) (fun _ => ?_)⟩
      · refine ⟨_, rfl, _, rfl, _, rfl, sg, _, rfl, SqL.of h7, fun a1 H8 ha1 k8 h8 => ?_⟩
        rw [ep, tk pa ma.1] at h8
        refine ⟨_, rfl, wd, rfl, by omega, fun a2 H9 ha2 k9 h9 => ?_⟩
        have h9 : H9 a2 = some (.lst (vStr (signs wd))) := h9
        refine ⟨a1, a2, _, _, rfl, rfl, k9.at h8 nmem_nil, h9, by rw [vl, vl]; have := l1 pa.toNat; omega, fun a3 H10 ha3 k10 h10 => ?_⟩
        rw [va] at h10
        refine ⟨_, rfl, _, rfl, _, rfl, sg, _, rfl, SqL.of (((k8.trans k9).trans k10).at h7 nmem_nil), fun a4 H11 ha4 k11 h11 => ?_⟩
        rw [ep, dr pa ma.1] at h11
        refine ⟨a3, a4, _, _, rfl, rfl, k11.at h10 nmem_nil, h11, by rw [vl, vl, List.length_append]; have := l3 pa.toNat; omega, fun a5 H12 ha5 k12 h12 => ?_⟩
        rw [va] at h12
        have kk := (((k8.trans k9).trans k10).trans k11).trans k12
        have DX := D7.kp0 kk
        refine fin a5 _ _ H12 _ _ _ ((ne_of_none (D7.kp0 (((k8.trans k9).trans k10).trans k11)).hd ha5).symm) h12 (fun y hy => ?_) (by rw [List.length_append, List.length_append]; have := l3 pa.toNat; omega) (k07.th0 kk) DX (kk.at w7 nmem_nil)
        rcases List.mem_append.mp hy with z | z
        · rcases List.mem_append.mp z with z | z
          · exact .inl (List.mem_of_mem_take z)
          · exact .inr z
        · exact .inl (List.mem_of_mem_drop z)
      · refine ⟨_, rfl, rfl, _, rfl, ite2 (fun _ => ?_) (fun _ => ?_)⟩
        · refine ⟨_, rfl, _, rfl, _, rfl, sg, _, rfl, SqL.of h7, fun a1 H8 ha1 k8 h8 => ?_⟩
          rw [ep, tk pa ma.1] at h8
          refine ⟨_, rfl, wd, rfl, by omega, fun a2 H9 ha2 k9 h9 => ?_⟩
          have h9 : H9 a2 = some (.lst (vStr (signs wd))) := h9
          refine ⟨a1, a2, _, _, rfl, rfl, k9.at h8 nmem_nil, h9, by rw [vl, vl]; have := l1 pa.toNat; omega, fun a3 H10 ha3 k10 h10 => ?_⟩
          rw [va] at h10
          refine ⟨_, rfl, _, rfl, _, _, rfl, rfl, _, rfl, sg, _, rfl, SqL.of (((k8.trans k9).trans k10).at h7 nmem_nil), fun a4 H11 ha4 k11 h11 => ?_⟩
          rw [ep, dr (pa + 1) (by omega)] at h11
          refine ⟨a3, a4, _, _, rfl, rfl, k11.at h10 nmem_nil, h11, by rw [vl, vl, List.length_append]; have := l3 pa.toNat; have := l4 pa.toNat (pa + 1).toNat (by omega); omega, fun a5 H12 ha5 k12 h12 => ?_⟩
          rw [va] at h12
          have kk := (((k8.trans k9).trans k10).trans k11).trans k12
          have DX := D7.kp0 kk
          refine fin a5 _ _ H12 _ _ _ ((ne_of_none (D7.kp0 (((k8.trans k9).trans k10).trans k11)).hd ha5).symm) h12 (fun y hy => ?_) (by rw [List.length_append, List.length_append]; have := l3 pa.toNat; have := l4 pa.toNat (pa + 1).toNat (by omega); omega) (k07.th0 kk) DX (kk.at w7 nmem_nil)
          rcases List.mem_append.mp hy with z | z
          · rcases List.mem_append.mp z with z | z
            · exact .inl (List.mem_of_mem_take z)
            · exact .inr z
          · exact .inl (List.mem_of_mem_drop z)
        · refine ⟨_, rfl, _, rfl, _, rfl, sg, _, rfl, SqL.of h7, fun a1 H8 ha1 k8 h8 => ?_⟩
          rw [ep, tk pa ma.1] at h8
          have D8 := D7.kp0 k8
          refine ⟨_, rfl, _, rfl, _, _, rfl, rfl, _, rfl, d, n, ns, _, rfl, D8, fun c4 H9 c40 c41 k9 D9 => ⟨_, _, rfl, rfl, (by show (0 : Int) < 3; decide), _, _, rfl, rfl, _, rfl, sg, _, rfl, SqL.of (k9.at (k8.at h7 nmem_nil) (nmem_one nsd)), fun a4 H10 ha4 k10 h10 => ?_⟩⟩
          have m4 := MD.md c4 3 (by decide)
          rw [ep, dr (pa + 1 + c4 % 3) (by omega)] at h10
          have a1d : a1 ≠ d := (ne_of_none D7.hd ha1).symm
          refine ⟨a1, a4, _, _, rfl, rfl, k10.at (k9.at h8 (nmem_one a1d)) nmem_nil, h10, by rw [vl, vl]; have := l3 pa.toNat; have := l4 pa.toNat (pa + 1 + c4 % 3).toNat (by omega); omega, fun a5 H11 ha5 k11 h11 => ?_⟩
          rw [va] at h11
          have k811 : Kp [d] H7 H11 := ((k8.nil.trans k9).th0 k10).th0 k11
          have DX := (D9.kp0 k10).kp0 k11
          refine fin a5 _ _ H11 _ _ _ ((ne_of_none (D9.kp0 k10).hd ha5).symm) h11 (fun y hy => ?_) (by rw [List.length_append]; have := l3 pa.toNat; have := l4 pa.toNat (pa + 1 + c4 % 3).toNat (by omega); omega) (k07.trans k811) DX (k811.at w7 (nmem_one dwl))
          rcases List.mem_append.mp hy with z | z
          · exact .inl (List.mem_of_mem_take z)
          · exact .inl (List.mem_of_mem_drop z)
    · rintro σ H4 ⟨sg, ss, kk, y4, y5, y6, y7, rfl, nsd, h4, one, sl, k4, D4, w4⟩
      have bound := join_len (sep := "") one
      have c0' : ("" : Str).length = 0 := by decide +kernel
      rw [c0'] at bound
      have sm := sum_len one
      refine ⟨⟨_, rfl⟩, _, rfl, _, sg, ss, rfl, rfl, .inl (SqL.of h4), by rw [c0']; omega, q _ kk H4 (by omega) k4 D4⟩
end

end MD
namespace MD
open PySem PySem.Spec PyProof.Rows L2
local macro_rules | `(tactic| walk_at "ne") => `(tactic| first | assumption | (apply Ne.symm; assumption) | exact ne_of_none (by assumption) (by assumption) | exact (ne_of_none (by assumption) (by assumption)).symm)
local macro_rules | `(tactic| walk_at "hp") => `(tactic| first | assumption | exact upd_same | (refine (upd_ne ?_).trans ?_; (focus walk_at "ne"); walk_at "hp"))
local macro_rules | `(tactic| walk_at "nm") => `(tactic| first | exact nmem_nil | exact nmem_one (by walk_at "ne") | exact nmem_cons (by walk_at "ne") (by walk_at "nm"))
section
variable {P : Program} {w : World} {K : PySem.W.Frag} {mg : Str → Option Value} {base : Heap}
open TL
/-! ### told and due -/
theorem pss_ifD {X : Cx} {b : List Stmt} {p : Prop} {t : TS} (h : p → PSs X b t) : PSs X b (fun D0 σ H => p ∧ t D0 σ H) := ⟨fun pins s σ H D0 I ⟨hp, q⟩ => (h hp).run pins s σ H D0 I q⟩
def rwD (rs : List Tx) : MD.D := .sq true (rs.map txD)
def rowsF (b : Bool) (rs : List Tx) : Prop := ∀ r ∈ rs, TxF r ∧ r.bk = b
def RD (wh : Int) (x : Str) (od : Option MD.D) : Prop := (wh = 0 ∧ ∃ o, IsO PaF ptS x o ∧ od = o.map ptD) ∨ ∃ b, wh = (if b = true then 2 else 1) ∧ ∃ o, IsO (rowsF b) allS x o ∧ od = o.map rwD
def tldD : Option MD.D → MD.D
  | some d => .sq true [dS "read", d]
  | none => .sq false [dS "refused", dS "text"]
def spTold (K : PySem.W.Frag) : Sp := fun vs H Q _ => ∃ (wh : Int) (v : V), vs = [.int wh, v] ∧ ((∃ (x : Str) (od : Option MD.D), v = .str x ∧ x.length ≤ 10000 ∧ RD wh x od ∧ ∀ (u : V) (H' : Hp), Kp [] H H' → Rep K H' (tldD od) u → Q u H') ∨
  ((wh = 0 ∨ wh = 1 ∨ wh = 2) ∧ NoTxt K H v ∧ ∀ (u : V) (H' : Hp), Kp [] H H' → Rep K H' (tldD none) u → Q u H'))
theorem c_law_told (T : Txt K mg) (W_BOOK_WORDS : WrD w K T.A_BOOK_WORDS bkN) (N_BOOK_WORDS : WrN K T.A_BOOK_WORDS bkK) : Cal P w K mg base 9 "_law_told" (spTold K) := by
  have c_parse_party := c_parse_party (P := P) (w := w) (base := base) T
  have c_parse_history := c_parse_history (P := P) (w := w) (base := base) T
  have c_parse_book := c_parse_book (P := P) (w := w) (base := base) T W_BOOK_WORDS N_BOOK_WORDS
  refine cal_of T.d_law_told sc_law_told (fun vs H Q E h => ?_) (fun f cdv A outer s H vs Q E hr h => ?_)
  · obtain ⟨d, v, rfl, _⟩ := h; rfl
  · obtain ⟨wh, v, rfl, h⟩ := h
    have hu := hu_of hr
    refine ⟨_, pss_cons (ps_try_as (i := 2) rfl rfl sc_law_told.nd rfl rfl ⟨rfl, by decide, .inl T.x_BadText.g⟩ takes0
        (fun W pn xe tk _ => pss_cons (ps_if (pt_cmpR op_eq (pv 0) pe_int (nomark _)) (pss_one (ps_ret (ke_lst (pa_cons pe_str (pa_cons (pe_cX c_parse_party (hr.mono (by first | decide | omega)) rfl (fun σ => passAt tk σ) (pa_cons (pv 1) pa_nil)) pa_nil))))) pss_nil)
          (pss_cons (ps_if (pt_cmpR op_eq (pv 0) pe_int (nomark _)) (pss_one (ps_ret (ke_lst (pa_cons pe_str (pa_cons (pe_cX c_parse_history (hr.mono (by first | decide | omega)) rfl (fun σ => passAt tk σ) (pa_cons (pv 1) pa_nil)) pa_nil))))) pss_nil)
          (pss_one (ps_ret (ke_lst (pa_cons pe_str (pa_cons (pe_cX c_parse_book (hr.mono (by first | decide | omega)) rfl (fun σ => passAt tk σ) (pa_cons (pv 1) pa_nil)) pa_nil)))))))
        (fun a oe cls d pn hz hf => (pss_ifD (p := cls = .ref T.C_BadText ∧ d = none) fun hp => pss_one (ps_if (PW.pt (pw_and (pt_val (pe_callB (call_isE T.ie_BadText (show Zc (.ref T.C_BadText) none oe from by rw [← hp.1, ← hp.2]; exact hz) hf) (by rfl) T.z_isinstance (by decide +kernel) (pa_cons (pv 2) (pa_cons (pe_bltn (v := .ty "ValueError") (by rfl) T.z_ValueError (by decide +kernel) rfl) pa_nil))))
          (pw_and1 (pt_val (pe_callB (call_isE T.ie_BadText (show Zc (.ref T.C_BadText) none oe from by rw [← hp.1, ← hp.2]; exact hz) hf) (by rfl) T.z_isinstance (by decide +kernel) (pa_cons (pv 2) (pa_cons (pe_glob (v := .ref T.C_ManydoorsError) (u := .ref T.C_ManydoorsError) rfl T.g_ManydoorsError rfl) pa_nil)))))))
          (pss_one (ps_if (pt_not (pt_val (pe_callB (call_isET T.ie_BadText (show Zc (.ref T.C_BadText) none oe from by rw [← hp.1, ← hp.2]; exact hz) hf) (by rfl) T.z_isinstance (by decide +kernel) (pa_cons (pv 2) (pa_cons (ke_tup (pa_cons (pe_glob (v := .ref T.C_BadDeed) (u := .ref T.C_BadDeed) rfl T.g_BadDeed rfl) (pa_cons (pe_glob (v := .ref T.C_BadHistory) (u := .ref T.C_BadHistory) rfl T.g_BadHistory rfl) (pa_cons (pe_glob (v := .ref T.C_BadLine) (u := .ref T.C_BadLine) rfl T.g_BadLine rfl) (pa_cons (pe_glob (v := .ref T.C_BadSetup) (u := .ref T.C_BadSetup) rfl T.g_BadSetup rfl) (pa_cons (pe_glob (v := .ref T.C_BadStay) (u := .ref T.C_BadStay) rfl T.g_BadStay rfl) pa_nil)))))) pa_nil)))))
            (pss_one (ps_ret (ke_tup (pa_cons pe_str (pa_cons pe_str pa_nil))))) pss_nil)) pss_nil))))
      (pss_one (ps_ret (ke_tup (pa_cons pe_str (pa_cons pe_str pa_nil))))), ?_⟩
    have rf : ∀ (t : Addr) (H3 : Hp), H3 t = some (.tup [.str "refused", .str "text"]) → Rep K H3 (tldD none) (.ref t) := fun t H3 h3 => Rep.tup (SqT.of h3) (Reps.cons Rep.str (Reps.cons Rep.str Reps.nil))
    rcases h with ⟨x, od, rfl, xl, rd, q⟩ | ⟨hw, nt, q⟩
    · have b5 : 16000 ≤ sizeLine := by decide
      rcases rd with ⟨rfl, o, ho, rfl⟩ | ⟨b, rfl, o, ho, rfl⟩
      · refine ⟨_, rfl, rfl, _, rfl, iteTe (decide_eq_true rfl) ?_⟩
        refine ⟨_, rfl, _, rfl, .inl ⟨x, rfl, xl, fun p pf ex t xs H1 k1 ht rx => ?_, fun nn H1 k1 => ?_⟩⟩
        · rw [ho.is (fun a b => ptS_inj) pf ex] at q
          exact ⟨(by show 2 ≤ sizeLine; decide), fun l H2 hl k2 h2 => q _ H2 (k1.trans k2) (Rep.lst (SqL.of h2) (Reps.cons Rep.str (Reps.cons (RepT.rep (RepT.tup (k2.tup _ _ ht) (rx.kp k2))) Reps.nil)))⟩
        · rw [ho.no nn] at q
          have no : ∀ (t : Addr) (H3 : Hp), Kp [] H H3 → H3 t = some (.tup [.str "refused", .str "text"]) → Q (.ref t) H3 := fun t H3 k3 h3 => q _ H3 k3 (rf t H3 h3)
          refine ⟨true, T.m_BadText, fun _ e he => ⟨⟨rfl, rfl⟩, ?_⟩, fun z => nomatch z⟩
          refine ⟨_, rfl, _, _, true, rfl, (fun u h => h), T.ki_ValueError, _, rfl, iteT ⟨_, rfl, _, _, true, rfl, (fun u h => h), T.ki_ManydoorsError, _, rfl, iteT ?_⟩⟩
          refine ⟨_, rfl, (by show 5 ≤ sizeLine; decide), fun tp H2 htp k2 htp2 => ?_⟩
          refine ⟨tp, _, _, false, rfl, htp2, .cons (.own _) (.cons (.own _) (.cons (.own _) (.cons (.own _) (.cons (.own _) .nil)))), ?_, ?_⟩
          · exact kitAny_cons T.ki_BadDeed (fun _ => kitAny_cons T.ki_BadHistory (fun _ => kitAny_cons T.ki_BadLine (fun _ => kitAny_cons T.ki_BadSetup (fun _ => kitAny_cons T.ki_BadStay (fun _ => rfl) (fun z => nomatch z)) (fun z => nomatch z)) (fun z => nomatch z)) (fun z => nomatch z)) (fun z => nomatch z)
          · exact ⟨_, rfl, iteT ⟨(by show 2 ≤ sizeLine; decide), fun t H3 ht k3 h3 => no t H3 ((k1.trans k2).trans k3) h3⟩⟩
      · cases b with
        | false =>
          refine ⟨_, rfl, rfl, _, rfl, iteFe (by decide +kernel) ?_⟩
          refine ⟨_, rfl, rfl, _, rfl, iteTe (by decide +kernel) ?_⟩
          refine ⟨_, rfl, _, rfl, .inl ⟨x, rfl, xl, fun rs ok ex _ l xs H1 k1 hl rx => ?_, fun nn H1 k1 => ?_⟩⟩
          · rw [ho.is (fun a b ha hb => allS_inj (fun r h => (ha r h).1) (fun r h => (hb r h).1)) ok ex] at q
            exact ⟨(by show 2 ≤ sizeLine; decide), fun l2 H2 hl2 k2 h2 => q _ H2 (k1.trans k2) (Rep.lst (SqL.of h2) (Reps.cons Rep.str (Reps.cons (Rep.lst (SqL.of (k2.at hl nmem_nil)) (RepTs.reps (rx.kp k2))) Reps.nil)))⟩
          · rw [ho.no nn] at q
            have no : ∀ (t : Addr) (H3 : Hp), Kp [] H H3 → H3 t = some (.tup [.str "refused", .str "text"]) → Q (.ref t) H3 := fun t H3 k3 h3 => q _ H3 k3 (rf t H3 h3)
            refine ⟨true, T.m_BadText, fun _ e he => ⟨⟨rfl, rfl⟩, ?_⟩, fun z => nomatch z⟩
            refine ⟨_, rfl, _, _, true, rfl, (fun u h => h), T.ki_ValueError, _, rfl, iteT ⟨_, rfl, _, _, true, rfl, (fun u h => h), T.ki_ManydoorsError, _, rfl, iteT ?_⟩⟩
            refine ⟨_, rfl, (by show 5 ≤ sizeLine; decide), fun tp H2 htp k2 htp2 => ?_⟩
            refine ⟨tp, _, _, false, rfl, htp2, .cons (.own _) (.cons (.own _) (.cons (.own _) (.cons (.own _) (.cons (.own _) .nil)))), ?_, ?_⟩
            · exact kitAny_cons T.ki_BadDeed (fun _ => kitAny_cons T.ki_BadHistory (fun _ => kitAny_cons T.ki_BadLine (fun _ => kitAny_cons T.ki_BadSetup (fun _ => kitAny_cons T.ki_BadStay (fun _ => rfl) (fun z => nomatch z)) (fun z => nomatch z)) (fun z => nomatch z)) (fun z => nomatch z)) (fun z => nomatch z)
            · exact ⟨_, rfl, iteT ⟨(by show 2 ≤ sizeLine; decide), fun t H3 ht k3 h3 => no t H3 ((k1.trans k2).trans k3) h3⟩⟩
        | true =>
          refine ⟨_, rfl, rfl, _, rfl, iteFe (by decide +kernel) ?_⟩
          refine ⟨_, rfl, rfl, _, rfl, iteFe (by decide +kernel) ?_⟩
          refine ⟨_, rfl, _, rfl, .inl ⟨x, rfl, xl, fun rs ok ex _ l xs H1 k1 hl rx => ?_, fun nn H1 k1 => ?_⟩⟩
          · rw [ho.is (fun a b ha hb => allS_inj (fun r h => (ha r h).1) (fun r h => (hb r h).1)) ok ex] at q
            exact ⟨(by show 2 ≤ sizeLine; decide), fun l2 H2 hl2 k2 h2 => q _ H2 (k1.trans k2) (Rep.lst (SqL.of h2) (Reps.cons Rep.str (Reps.cons (Rep.lst (SqL.of (k2.at hl nmem_nil)) (RepTs.reps (rx.kp k2))) Reps.nil)))⟩
          · rw [ho.no nn] at q
            have no : ∀ (t : Addr) (H3 : Hp), Kp [] H H3 → H3 t = some (.tup [.str "refused", .str "text"]) → Q (.ref t) H3 := fun t H3 k3 h3 => q _ H3 k3 (rf t H3 h3)
            refine ⟨true, T.m_BadText, fun _ e he => ⟨⟨rfl, rfl⟩, ?_⟩, fun z => nomatch z⟩
            refine ⟨_, rfl, _, _, true, rfl, (fun u h => h), T.ki_ValueError, _, rfl, iteT ⟨_, rfl, _, _, true, rfl, (fun u h => h), T.ki_ManydoorsError, _, rfl, iteT ?_⟩⟩
            refine ⟨_, rfl, (by show 5 ≤ sizeLine; decide), fun tp H2 htp k2 htp2 => ?_⟩
            refine ⟨tp, _, _, false, rfl, htp2, .cons (.own _) (.cons (.own _) (.cons (.own _) (.cons (.own _) (.cons (.own _) .nil)))), ?_, ?_⟩
            · exact kitAny_cons T.ki_BadDeed (fun _ => kitAny_cons T.ki_BadHistory (fun _ => kitAny_cons T.ki_BadLine (fun _ => kitAny_cons T.ki_BadSetup (fun _ => kitAny_cons T.ki_BadStay (fun _ => rfl) (fun z => nomatch z)) (fun z => nomatch z)) (fun z => nomatch z)) (fun z => nomatch z)) (fun z => nomatch z)
            · exact ⟨_, rfl, iteT ⟨(by show 2 ≤ sizeLine; decide), fun t H3 ht k3 h3 => no t H3 ((k1.trans k2).trans k3) h3⟩⟩
    · have no : ∀ (t : Addr) (H3 : Hp), Kp [] H H3 → H3 t = some (.tup [.str "refused", .str "text"]) → Q (.ref t) H3 := fun t H3 k3 h3 => q _ H3 k3 (rf t H3 h3)
      have k0 : Kp [] H H := Kp.refl
      rcases hw with rfl | rfl | rfl
      · refine ⟨_, rfl, rfl, _, rfl, iteTe (decide_eq_true rfl) ⟨_, rfl, _, rfl, .inr ⟨nt, ?_⟩⟩⟩
        refine ⟨true, T.m_BadText, fun _ e he => ⟨⟨rfl, rfl⟩, ?_⟩, fun z => nomatch z⟩
        refine ⟨_, rfl, _, _, true, rfl, (fun u h => h), T.ki_ValueError, _, rfl, iteT ⟨_, rfl, _, _, true, rfl, (fun u h => h), T.ki_ManydoorsError, _, rfl, iteT ?_⟩⟩
        refine ⟨_, rfl, (by show 5 ≤ sizeLine; decide), fun tp H2 htp k2 htp2 => ?_⟩
        refine ⟨tp, _, _, false, rfl, htp2, .cons (.own _) (.cons (.own _) (.cons (.own _) (.cons (.own _) (.cons (.own _) .nil)))), ?_, ?_⟩
        · exact kitAny_cons T.ki_BadDeed (fun _ => kitAny_cons T.ki_BadHistory (fun _ => kitAny_cons T.ki_BadLine (fun _ => kitAny_cons T.ki_BadSetup (fun _ => kitAny_cons T.ki_BadStay (fun _ => rfl) (fun z => nomatch z)) (fun z => nomatch z)) (fun z => nomatch z)) (fun z => nomatch z)) (fun z => nomatch z)
        · exact ⟨_, rfl, iteT ⟨(by show 2 ≤ sizeLine; decide), fun t H3 ht k3 h3 => no t H3 ((k0.trans k2).trans k3) h3⟩⟩
      · refine ⟨_, rfl, rfl, _, rfl, iteFe (by decide +kernel) ⟨_, rfl, rfl, _, rfl, iteTe (decide_eq_true rfl) ⟨_, rfl, _, rfl, .inr ⟨nt, ?_⟩⟩⟩⟩
        refine ⟨true, T.m_BadText, fun _ e he => ⟨⟨rfl, rfl⟩, ?_⟩, fun z => nomatch z⟩
        refine ⟨_, rfl, _, _, true, rfl, (fun u h => h), T.ki_ValueError, _, rfl, iteT ⟨_, rfl, _, _, true, rfl, (fun u h => h), T.ki_ManydoorsError, _, rfl, iteT ?_⟩⟩
        refine ⟨_, rfl, (by show 5 ≤ sizeLine; decide), fun tp H2 htp k2 htp2 => ?_⟩
        refine ⟨tp, _, _, false, rfl, htp2, .cons (.own _) (.cons (.own _) (.cons (.own _) (.cons (.own _) (.cons (.own _) .nil)))), ?_, ?_⟩
        · exact kitAny_cons T.ki_BadDeed (fun _ => kitAny_cons T.ki_BadHistory (fun _ => kitAny_cons T.ki_BadLine (fun _ => kitAny_cons T.ki_BadSetup (fun _ => kitAny_cons T.ki_BadStay (fun _ => rfl) (fun z => nomatch z)) (fun z => nomatch z)) (fun z => nomatch z)) (fun z => nomatch z)) (fun z => nomatch z)
        · exact ⟨_, rfl, iteT ⟨(by show 2 ≤ sizeLine; decide), fun t H3 ht k3 h3 => no t H3 ((k0.trans k2).trans k3) h3⟩⟩
      · refine ⟨_, rfl, rfl, _, rfl, iteFe (by decide +kernel) ⟨_, rfl, rfl, _, rfl, iteFe (by decide +kernel) ⟨_, rfl, _, rfl, .inr ⟨nt, ?_⟩⟩⟩⟩
        refine ⟨true, T.m_BadText, fun _ e he => ⟨⟨rfl, rfl⟩, ?_⟩, fun z => nomatch z⟩
        refine ⟨_, rfl, _, _, true, rfl, (fun u h => h), T.ki_ValueError, _, rfl, iteT ⟨_, rfl, _, _, true, rfl, (fun u h => h), T.ki_ManydoorsError, _, rfl, iteT ?_⟩⟩
        refine ⟨_, rfl, (by show 5 ≤ sizeLine; decide), fun tp H2 htp k2 htp2 => ?_⟩
        refine ⟨tp, _, _, false, rfl, htp2, .cons (.own _) (.cons (.own _) (.cons (.own _) (.cons (.own _) (.cons (.own _) .nil)))), ?_, ?_⟩
        · exact kitAny_cons T.ki_BadDeed (fun _ => kitAny_cons T.ki_BadHistory (fun _ => kitAny_cons T.ki_BadLine (fun _ => kitAny_cons T.ki_BadSetup (fun _ => kitAny_cons T.ki_BadStay (fun _ => rfl) (fun z => nomatch z)) (fun z => nomatch z)) (fun z => nomatch z)) (fun z => nomatch z)) (fun z => nomatch z)
        · exact ⟨_, rfl, iteT ⟨(by show 2 ≤ sizeLine; decide), fun t H3 ht k3 h3 => no t H3 ((k0.trans k2).trans k3) h3⟩⟩
def spDue (K : PySem.W.Frag) : Sp := fun vs H Q _ => ∃ (wh : Int) (x : Str) (od : Option MD.D), vs = [.int wh, .str x] ∧ x.length ≤ 10000 ∧ RD wh x od ∧ ∀ (u : V) (H' : Hp), Kp [] H H' → Rep K H' (tldD od) u → Q u H'
theorem c_law_due (T : Txt K mg) : Cal P w K mg base 7 "_law_due" (spDue K) := by
  have c_law_read_party := c_law_read_party (P := P) (w := w) (base := base) T
  refine cal_of T.d_law_due sc_law_due (fun vs H Q E h => ?_) (fun f cdv A outer s H vs Q E hr h => ?_)
  · obtain ⟨d, v, o, rfl, _⟩ := h; rfl
  · obtain ⟨wh, x, od, rfl, xl, rd, q⟩ := h
    have hu := hu_of hr
    rcases rd with ⟨rfl, o, ho, rfl⟩ | ⟨b, rfl, o, ho, rfl⟩
    · have c_law_read := c_law_read (P := P) (w := w) (base := base) T true
      refine ⟨_, (C8.pss_cut (ps_if (pt_cmpR op_eq (pv 0) pe_int (nomark _))
  (pss_one (ps_set (i := 2) sc_law_due.nd rfl (Or.inl rfl) (pe_c c_law_read_party (hr.mono (by first | decide | omega)) rfl (pa_cons (pv 1) pa_nil))))
  (pss_one (ps_set (i := 2) sc_law_due.nd rfl (Or.inl rfl) (pe_c c_law_read (hr.mono (by first | decide | omega)) rfl (pa_cons (pe_ix (ixL (K := K)) (ke_lst (pa_cons pe_str (pa_cons pe_str (pa_cons pe_str pa_nil)))) (pv 0) (fun _ _ => rfl)) (pa_cons (pv 1) pa_nil))))))
  (pss_cons (ps_if (pt_cmpR op_isN (pv 2) pe_non (nomark _))
  (pss_one (ps_ret (ke_tup (pa_cons pe_str (pa_cons pe_str pa_nil)))))
  pss_nil)
  (pss_one (ps_ret (ke_lst (pa_cons pe_str (pa_cons (pv 2) pa_nil))))))), ?_⟩
      refine ⟨fun σ H' => ∃ v, σ = [some (.int 0), some (.str x), some v] ∧ Kp [] H H' ∧ RepT H' (oD ptD o) v, ?_, ?_⟩
      · exact ⟨_, rfl, rfl, _, rfl, iteTe (decide_eq_true rfl) ⟨_, rfl, x, o, rfl, xl, ho, fun v H1 k1 rv => ⟨v, rfl, k1, rv⟩⟩⟩
      · rintro σ H1 ⟨v, rfl, k1, rv⟩
        refine ⟨_, rfl, rfl, _, rfl, ?_⟩
        cases o with
        | none =>
          obtain rfl := rv.vE
          exact iteTe (decide_eq_true rfl) ⟨(by show 2 ≤ sizeLine; decide), fun t H2 ht k2 h2 => q _ H2 (k1.trans k2) (Rep.tup (SqT.of h2) (Reps.cons Rep.str (Reps.cons Rep.str Reps.nil)))⟩
        | some p =>
          obtain ⟨t, xs, rfl, ht, rx⟩ := RepT.tupE (show RepT H1 (ptD p) v from rv)
          exact iteFe (decide_eq_false fun z => nomatch z) ⟨_, rfl, (by show 2 ≤ sizeLine; decide), fun l H2 hl k2 h2 => q _ H2 (k1.trans k2) (Rep.lst (SqL.of h2) (Reps.cons Rep.str (Reps.cons (RepT.rep (RepT.tup (k2.tup _ _ ht) (rx.kp k2))) Reps.nil)))⟩
    · have c_law_read := c_law_read (P := P) (w := w) (base := base) T b
      refine ⟨_, (C8.pss_cut (ps_if (pt_cmpR op_eq (pv 0) pe_int (nomark _))
  (pss_one (ps_set (i := 2) sc_law_due.nd rfl (Or.inl rfl) (pe_c c_law_read_party (hr.mono (by first | decide | omega)) rfl (pa_cons (pv 1) pa_nil))))
  (pss_one (ps_set (i := 2) sc_law_due.nd rfl (Or.inl rfl) (pe_c c_law_read (hr.mono (by first | decide | omega)) rfl (pa_cons (pe_ix (ixL (K := K)) (ke_lst (pa_cons pe_str (pa_cons pe_str (pa_cons pe_str pa_nil)))) (pv 0) (fun _ _ => rfl)) (pa_cons (pv 1) pa_nil))))))
  (pss_cons (ps_if (pt_cmpR op_isN (pv 2) pe_non (nomark _))
  (pss_one (ps_ret (ke_tup (pa_cons pe_str (pa_cons pe_str pa_nil)))))
  pss_nil)
  (pss_one (ps_ret (ke_lst (pa_cons pe_str (pa_cons (pv 2) pa_nil))))))), ?_⟩
      refine ⟨fun σ H' => ∃ v, σ = [some (.int (if b = true then 2 else 1)), some (.str x), some v] ∧ Kp [] H H' ∧ (∀ rs, o = some rs → ∃ l xs, v = .ref l ∧ H' l = some (.lst xs) ∧ RepTs H' (rs.map txD) xs) ∧ (o = none → v = .non), ?_, ?_⟩
      · refine ⟨_, rfl, rfl, _, rfl, iteFe (by cases b <;> decide +kernel) ?_⟩
        refine ⟨(by show 3 ≤ sizeLine; decide), fun kl H1 hkl k1 hk1 => ?_⟩
        refine ⟨_, rfl, kl, _, _, .str (kindS b), rfl, rfl, SqL.of hk1, by cases b <;> rfl, _, rfl, x, o, rfl, xl, ho, fun v H2 k2 g1 g2 => ⟨v, rfl, k1.trans k2, fun rs e => ?_, g2⟩⟩
        obtain ⟨l, xs, a, c, d, _⟩ := g1 rs e
        exact ⟨l, xs, a, c, d⟩
      · rintro σ H1 ⟨v, rfl, k1, g1, g2⟩
        refine ⟨_, rfl, rfl, _, rfl, ?_⟩
        cases o with
        | none =>
          obtain rfl := g2 rfl
          exact iteTe (decide_eq_true rfl) ⟨(by show 2 ≤ sizeLine; decide), fun t H2 ht k2 h2 => q _ H2 (k1.trans k2) (Rep.tup (SqT.of h2) (Reps.cons Rep.str (Reps.cons Rep.str Reps.nil)))⟩
        | some rs =>
          obtain ⟨l, xs, rfl, hl, rx⟩ := g1 rs rfl
          exact iteFe (decide_eq_false fun z => nomatch z) ⟨_, rfl, (by show 2 ≤ sizeLine; decide), fun l2 H2 hl2 k2 h2 => q _ H2 (k1.trans k2) (Rep.lst (SqL.of h2) (Reps.cons Rep.str (Reps.cons (Rep.lst (SqL.of (k2.at hl nmem_nil)) (RepTs.reps (rx.kp k2))) Reps.nil)))⟩
end

end MD
namespace MD
open PySem PySem.Spec PyProof.Rows L2
local macro_rules | `(tactic| walk_at "ne") => `(tactic| first | assumption | (apply Ne.symm; assumption) | exact ne_of_none (by assumption) (by assumption) | exact (ne_of_none (by assumption) (by assumption)).symm)
local macro_rules | `(tactic| walk_at "hp") => `(tactic| first | assumption | exact upd_same | (refine (upd_ne ?_).trans ?_; (focus walk_at "ne"); walk_at "hp"))
local macro_rules | `(tactic| walk_at "nm") => `(tactic| first | exact nmem_nil | exact nmem_one (by walk_at "ne") | exact nmem_cons (by walk_at "ne") (by walk_at "nm"))
section
variable {P : Program} {w : World} {K : PySem.W.Frag} {mg : Str → Option Value} {base : Heap}
open TL
def spTextM : Sp := fun vs H Q _ => ∃ (l : Addr) (rs : List Tx), vs = [.ref l] ∧ (∃ xs, H l = some (.lst xs) ∧ RepTs H (rs.map txD) xs) ∧ (∀ x ∈ rs, TxF x) ∧ rs.length ≤ 10 ∧ ∀ H' : Hp, Kp [] H H' → Q (.str (allS rs)) H'
theorem c_law_textM (T : Txt K mg) : Cal P w K mg base 6 "_law_text" spTextM := by
  have c_law_words := c_law_words (P := P) (w := w) (base := base) T
  refine cal_of T.d_law_text sc_law_text (fun vs H Q E h => ?_) (fun f cdv A outer s H vs Q E hr h => ?_)
  · obtain ⟨l, rs, rfl, _⟩ := h; rfl
  · obtain ⟨l, rs, rfl, ⟨xs, hl, rx⟩, ok, le, q⟩ := h
    have hu := hu_of hr
    refine ⟨_, (pss_one (ps_ret (ke_join (K := K) pe_str (ke_lc rfl sc_law_text.nd (pilK (K := K) (pv 0)) (blkOk_by (own := [("row", 1)]) (N := ["rows", "row"]) (sc := defScope s_law_text) (by decide +kernel)) (fun _ _ _ _ _ => (pg_name (i := 1) sc_law_text.nd rfl (Or.inl rfl))) (fun _ _ _ _ _ => pts_nil) (fun _ _ _ _ _ => (pe_op op_add_str (ke_join (K := K) pe_str (pe_c c_law_words (hr.mono (by first | decide | omega)) rfl (pa_cons (pv 1) pa_nil))) pe_str)))))), ?_⟩
    refine ⟨⟨_, rfl⟩, _, rfl, l, rfl, ⟨xs, SqL.of hl⟩, fun D H1 hD k1 hD1 => ?_⟩
    have cf : ("\n" : Str).length ≤ 1 := by decide +kernel
    have cb : (" " : Str).length = 1 := by decide +kernel
    refine kl_list (xs := xs) (fun i acc H' => Kp [] H H' ∧ acc = ((rs.take i).map fun x => feed (txS x)).map V.str) ⟨k1, rfl⟩ (fun i acc H' z => SqL.of (z.1.at hl nmem_nil)) ?_ ?_
    · rintro i v acc H2 hv hDa ⟨k2, rfl⟩
      obtain ⟨x, hx, r⟩ := rx.at hv
      have xf := ok x (List.mem_of_getElem? hx)
      have il : i < rs.length := (List.getElem?_eq_some_iff.mp hx).1
      rw [txD_eq] at r
      obtain ⟨t, ys, rfl, ht, ry⟩ := RepT.tupE r
      refine ⟨rfl, yesT ⟨⟨_, rfl⟩, _, rfl, t, ys, txI x, rfl, k2.tup _ _ ht, ry.kp k2, txI_ok xf, (fun z => absurd z (by decide)), Nat.le_trans (txI_len x) (by decide), fun L H3 hL k3 h3 => ?_⟩⟩
      obtain ⟨w1, w2⟩ := txW_len xf
      have := sum_len w2
      have w3 : (txW x).length * 164 ≤ 7 * 164 := Nat.mul_le_mul_right _ w1
      have tl := txS_len xf
      have b5 : 6000 ≤ sizeLine := by decide
      refine ⟨_, L, txW x, rfl, rfl, .inl (SqL.of h3), by rw [cb]; omega, _, _, rfl, rfl, ?_, k3.at hDa nmem_nil, sz (m := 100) (by rw [List.length_map, List.length_map, List.length_take]; omega), fun H4 k4 h4 => ⟨(k2.trans k3).put k4 hD, ?_⟩⟩
      · show (txS x).length + ("\n" : Str).length ≤ sizeLine
        omega
      · rw [take_sn hx, List.map_append, List.map_append]
        rfl
    · rintro acc H2 hDa ⟨k2, rfl⟩
      rw [rx.lenM, List.take_length] at hDa
      refine ⟨_, D, rs.map fun x => feed (txS x), rfl, rfl, .inl (SqL.of hDa), ?_, q H2 k2⟩
      have := sum_len (l := rs.map fun x => feed (txS x)) (m := 1201) fun z hz => by
        obtain ⟨x, hx, rfl⟩ := List.mem_map.mp hz
        exact jl (txS_len (ok x hx)) cf
      have c1 : ("" : Str).length = 0 := by decide +kernel
      rw [List.length_map] at this
      rw [c1, List.length_map]
      have : rs.length * 1201 ≤ 10 * 1201 := Nat.mul_le_mul_right _ le
      omega
def spLaw (K : PySem.W.Frag) : Sp := fun vs H Q _ => ∃ (a : Addr) (ns : List Int), vs = [.ref a] ∧ SqL K H a (ns.map V.int) ∧ ns.length ≤ 63 ∧ ∀ H', Q (.bl true) H'
theorem okSq {n : Nat} {l : Bool} {ds : List MD.D} (h1 : ds.length ≤ 100000) (h2 : ∀ d ∈ ds, MD.D.ok n d) : MD.D.ok (n + 1) (.sq l ds) := by unfold MD.D.ok; exact ⟨h1, h2⟩
theorem okV {n : Nat} {x : V} : MD.D.ok n (.v x) := by cases n <;> (unfold MD.D.ok; trivial)
theorem okSy (s : Sy) : MD.D.ok 1 (syD s) := okSq (by show 3 ≤ 100000; decide) (List.forall_mem_cons.mpr ⟨okV, List.forall_mem_cons.mpr ⟨okV, List.forall_mem_cons.mpr ⟨okV, fun _ z => nomatch z⟩⟩⟩)
theorem okPt {p : List Sy} (h : PaF p) : MD.D.ok 2 (ptD p) := okSq (by rw [List.length_map]; have := h.l4; omega) fun d hd => by
  obtain ⟨s, _, rfl⟩ := List.mem_map.mp hd
  exact okSy s
theorem okDe {e : De} (h : DeF e) : MD.D.ok 3 (deD e) := by
  cases e with
  | wish p => exact okSq (by show 2 ≤ 100000; decide) (List.forall_mem_cons.mpr ⟨okV, List.forall_mem_cons.mpr ⟨okPt h, fun _ z => nomatch z⟩⟩)
  | cancel n => exact okSq (by show 2 ≤ 100000; decide) (List.forall_mem_cons.mpr ⟨okV, List.forall_mem_cons.mpr ⟨okV, fun _ z => nomatch z⟩⟩)
  | change n p => exact okSq (by show 3 ≤ 100000; decide) (List.forall_mem_cons.mpr ⟨okV, List.forall_mem_cons.mpr ⟨okV, List.forall_mem_cons.mpr ⟨okPt h.2, fun _ z => nomatch z⟩⟩⟩)
theorem okTx {x : Tx} (h : TxF x) : MD.D.ok 4 (txD x) := by
  cases x with
  | told s n g => exact okSq (by show 4 ≤ 100000; decide) (List.forall_mem_cons.mpr ⟨okV, List.forall_mem_cons.mpr ⟨okV, List.forall_mem_cons.mpr ⟨okV, List.forall_mem_cons.mpr ⟨okV, fun _ z => nomatch z⟩⟩⟩⟩)
  | asked s n d => exact okSq (by show 4 ≤ 100000; decide) (List.forall_mem_cons.mpr ⟨okV, List.forall_mem_cons.mpr ⟨okV, List.forall_mem_cons.mpr ⟨okV, List.forall_mem_cons.mpr ⟨okDe h.2.2, fun _ z => nomatch z⟩⟩⟩⟩)
  | sold n p a b => exact okSq (by show 5 ≤ 100000; decide) (List.forall_mem_cons.mpr ⟨okV, List.forall_mem_cons.mpr ⟨okV, List.forall_mem_cons.mpr ⟨MD.D.ok_le (okPt h.2.1) (by decide), List.forall_mem_cons.mpr ⟨okV, List.forall_mem_cons.mpr ⟨okV, fun _ z => nomatch z⟩⟩⟩⟩⟩)
  | canc n a b => exact okSq (by show 4 ≤ 100000; decide) (List.forall_mem_cons.mpr ⟨okV, List.forall_mem_cons.mpr ⟨okV, List.forall_mem_cons.mpr ⟨okV, List.forall_mem_cons.mpr ⟨okV, fun _ z => nomatch z⟩⟩⟩⟩)
  | chan n p a b c e => exact okSq (by show 7 ≤ 100000; decide) (List.forall_mem_cons.mpr ⟨okV, List.forall_mem_cons.mpr ⟨okV, List.forall_mem_cons.mpr ⟨MD.D.ok_le (okPt h.2.1) (by decide), List.forall_mem_cons.mpr ⟨okV, List.forall_mem_cons.mpr ⟨okV, List.forall_mem_cons.mpr ⟨okV, List.forall_mem_cons.mpr ⟨okV, fun _ z => nomatch z⟩⟩⟩⟩⟩⟩⟩)
theorem sqt_kp {K : PySem.W.Frag} {H H1 : Hp} {a : Addr} {xs : List V} (k : Kp [] H H1) (h : SqT K H a xs) : SqT K H1 a xs := by
  rcases h with (h | ⟨o, h⟩) | h
  · exact .inl (.inl (k.at h nmem_nil))
  · exact .inl (.inr ⟨o, k.at h nmem_nil⟩)
  · exact .inr h
def oddD : List MD.D := [.v .non, .v (.int 5), .sq true [dS "0:1-2"], .sq false [dS "0:1-2"], .v (.bl true)]
mutual
theorem rep_kp {K : PySem.W.Frag} {H H' : Hp} (k : Kp [] H H') : ∀ {d : MD.D} {x : V}, Rep K H d x → Rep K H' d x
  | .v y, x, h => by unfold Rep at h ⊢; exact h
  | .sq l ds, x, h => by
    unfold Rep at h ⊢
    obtain ⟨a, vs, e, hs, r⟩ := h
    refine ⟨a, vs, e, ?_, reps_kp k r⟩
    cases l with
    | true => exact k.seq (show SqL K H a vs from hs) nmem_nil
    | false => exact sqt_kp k (show SqT K H a vs from hs)
theorem reps_kp {K : PySem.W.Frag} {H H' : Hp} (k : Kp [] H H') : ∀ {ds : List MD.D} {vs : List V}, Reps K H ds vs → Reps K H' ds vs
  | [], vs, h => by unfold Reps at h ⊢; exact h
  | d :: ds, vs, h => by
    unfold Reps at h ⊢
    obtain ⟨v, r, e, h1, h2⟩ := h
    exact ⟨v, r, e, rep_kp k h1, reps_kp k h2⟩
end
theorem allS_many {rs : List Tx} (h : ∀ x ∈ rs, TxF x) : rs.length ≤ (allS rs).length := by
  have a := (split_len tl_feed (by decide +kernel) (x := allS rs) (Nat.le_refl _)).1
  rw [allS_split h, List.length_append, List.length_map] at a
  simp only [List.length_cons, List.length_nil] at a
  omega
theorem allS_short {rs : List Tx} (h : ∀ x ∈ rs, TxF x) (le : rs.length ≤ 4) : (allS rs).length ≤ 6100 := by
  rw [allS_eq]
  have := join_len (sep := "\n") (l := rs.map txS ++ [Str.empty]) (m := 1200) fun y hy => by
    rcases List.mem_append.mp hy with z | z
    · obtain ⟨x, hx, rfl⟩ := List.mem_map.mp z
      exact txS_len (h x hx)
    · rw [List.mem_singleton.mp z]; exact Nat.zero_le _
  have c1 : ("\n" : Str).length = 1 := by decide +kernel
  rw [c1, List.length_append, List.length_map] at this
  have c2 : (rs.length + 1) * (1200 + 1) ≤ 5 * (1200 + 1) := Nat.mul_le_mul_right _ (by omega)
  exact Nat.le_trans this (Nat.le_trans c2 (by decide))
theorem okAns {wh : Int} {x : Str} {od : Option MD.D} (xl : x.length ≤ 10000) (rd : RD wh x od) : MD.D.ok 6 (tldD od) := by
  cases od with
  | none => exact okSq (by show 2 ≤ 100000; decide) (List.forall_mem_cons.mpr ⟨okV, List.forall_mem_cons.mpr ⟨okV, fun _ z => nomatch z⟩⟩)
  | some d =>
    refine okSq (by show 2 ≤ 100000; decide) (List.forall_mem_cons.mpr ⟨okV, List.forall_mem_cons.mpr ⟨?_, fun _ z => nomatch z⟩⟩)
    rcases rd with ⟨_, o, ho, e⟩ | ⟨b, _, o, ho, e⟩
    · cases o with
      | none => cases e
      | some p => cases e; exact MD.D.ok_le (okPt ho.1) (by decide)
    · cases o with
      | none => cases e
      | some rs =>
        cases e
        have := allS_many (rs := rs) fun r h => (ho.1 r h).1
        rw [← ho.2] at this
        exact okSq (by rw [List.length_map]; omega) fun d hd => by
          obtain ⟨s, hs, rfl⟩ := List.mem_map.mp hd
          exact okTx (ho.1 s hs).1
theorem rd_ex (wh : Int) (h : wh = 0 ∨ wh = 1 ∨ wh = 2) (x : Str) : ∃ od, RD wh x od := by
  rcases h with rfl | rfl | rfl
  · obtain ⟨o, ho⟩ := isO_ex PaF ptS x
    exact ⟨_, .inl ⟨rfl, o, ho, rfl⟩⟩
  · obtain ⟨o, ho⟩ := isO_ex (rowsF false) allS x
    exact ⟨_, .inr ⟨false, rfl, o, ho, rfl⟩⟩
  · obtain ⟨o, ho⟩ := isO_ex (rowsF true) allS x
    exact ⟨_, .inr ⟨true, rfl, o, ho, rfl⟩⟩
theorem ok_law {f : Addr} {fd : FuncData} (F : L2.Fun K "law" "law" s_law f fd) (T : Txt K mg) (W_BOOK_WORDS : WrD w K T.A_BOOK_WORDS bkN) (N_BOOK_WORDS : WrN K T.A_BOOK_WORDS bkK) : FnOk P w K mg base CX0 60 f fd ["script"] (spLaw K) := by
  have c_law_numbers := c_law_numbers (P := P) (w := w) (base := base) T
  have c_law_draw := c_law_draw (P := P) (w := w) (base := base) T
  have c_law_any_row := c_law_any_row (P := P) (w := w) (base := base) T
  have c_law_any_party := c_law_any_party (P := P) (w := w) (base := base) T
  have c_law_text := c_law_textM (P := P) (w := w) (base := base) T
  have c_law_party_text := c_law_party_text (P := P) (w := w) (base := base) T
  have c_law_changed := c_law_changed (P := P) (w := w) (base := base) T
  have c_law_told := c_law_told (P := P) (w := w) (base := base) T W_BOOK_WORDS N_BOOK_WORDS
  have c_law_due := c_law_due (P := P) (w := w) (base := base) T
  have c_law_equal := ok_eq (P := P) (w := w) (base := base) T 6
  refine F.ok sc_law (fun vs H Q E h => ?_) (fun cdv Ar outer s H vs Q E hr h => ?_)
  · obtain ⟨a, ns, rfl, _⟩ := h; rfl
  · obtain ⟨a0, ns, rfl, hS, hlen, q⟩ := h
    refine ⟨_, (pss_cons (ps_set (i := 1) sc_law.nd rfl (Or.inr rfl) (ke_lst (pa_cons (pe_c c_law_numbers (hr.mono (by first | decide | omega)) rfl (pa_cons (pv 0) pa_nil)) (pa_cons pe_int pa_nil))))
  (pss_cons (ps_for PassesOwn.never rfl (pi_range1 (by rfl) T.z_range (pa_cons pe_int pa_nil)) (pg_name (i := 2) sc_law.nd rfl (Or.inr rfl))
  (pss_cons (ks_setLc (i := 3) rfl sc_law.nd rfl rfl (sw_true rfl rfl rfl (by decide +kernel)) (pi_range1 (by rfl) T.z_range (pa_cons (pe_op op_add pe_int (pe_op op_mod (pe_c c_law_draw (hr.mono (by first | decide | omega)) rfl (pa_cons (pv 1) pa_nil)) pe_int)) pa_nil)) (blkOk_by (own := [("k", 8)]) (N := ["script", "draws", "which", "rows", "text", "turn", "spoilt", "odd", "k"]) (sc := defScope s_law) (by decide +kernel)) (fun _ _ _ _ _ => (pg_name (i := 8) sc_law.nd rfl (Or.inl rfl))) (fun _ _ _ _ _ => pts_nil) (fun _ _ _ _ _ => (pe_c c_law_any_row (hr.mono (by first | decide | omega)) rfl (pa_cons (pv 1) (pa_cons (pe_ix (ixL (K := K)) (ke_lst (pa_cons pe_str (pa_cons pe_str (pa_cons pe_str pa_nil)))) (pv 2) (fun _ _ => rfl)) pa_nil)))))
  (C8.pss_cut (ps_if (pt_cmpR op_eq (pe_op op_mod (pe_c c_law_draw (hr.mono (by first | decide | omega)) rfl (pa_cons (pv 1) pa_nil)) pe_int) pe_int (nomark _))
  (pss_one (ps_expr (pe_bm PySem.F.plainAttrs_list PySem.F.slot_list_append PySem.F.type_list_append mk_append (pv 3) (pa_cons (pe_c c_law_any_row (hr.mono (by first | decide | omega)) rfl (pa_cons (pv 1) (pa_cons (pe_ix (ixL (K := K)) (ke_lst (pa_cons pe_str (pa_cons pe_str (pa_cons pe_str pa_nil)))) (pv 2) (fun _ _ => rfl)) pa_nil))) pa_nil))))
  pss_nil)
  (pss_cons (ps_set (i := 4) sc_law.nd rfl (Or.inl rfl) (pe_c c_law_text (hr.mono (by first | decide | omega)) rfl (pa_cons (pv 3) pa_nil)))
  (C8.pss_cut (ps_if (pt_cmpR op_eq (pv 2) pe_int (nomark _))
  (pss_one (ps_set (i := 4) sc_law.nd rfl (Or.inl rfl) (pe_c c_law_party_text (hr.mono (by first | decide | omega)) rfl (pa_cons (pe_c c_law_any_party (hr.mono (by first | decide | omega)) rfl (pa_cons (pv 1) pa_nil)) pa_nil))))
  pss_nil)
  (pss_cons (ps_for PassesOwn.never rfl (pi_range1 (by rfl) T.z_range (pa_cons pe_int pa_nil)) (pg_name (i := 5) sc_law.nd rfl (Or.inl rfl))
  (pss_cons (ps_set (i := 6) sc_law.nd rfl (Or.inl rfl) (pe_c c_law_changed (hr.mono (by first | decide | omega)) rfl (pa_cons (pv 1) (pa_cons (pv 4) pa_nil))))
  (pss_one (ps_if (pt_not (pt_val (pe_c c_law_equal (hr.mono (by first | decide | omega)) rfl (pa_cons (pe_c c_law_told (hr.mono (by first | decide | omega)) rfl (pa_cons (pv 2) (pa_cons (pv 6) pa_nil))) (pa_cons (pe_c c_law_due (hr.mono (by first | decide | omega)) rfl (pa_cons (pv 2) (pa_cons (pv 6) pa_nil))) pa_nil)))))
  (pss_one (ps_ret pe_bl))
  pss_nil))))
  (pss_cons (ps_set (i := 7) sc_law.nd rfl (Or.inl rfl) (pe_ix (ixL (K := K)) (ke_lst (pa_cons pe_non (pa_cons pe_int (pa_cons (ke_lst (pa_cons pe_str pa_nil)) (pa_cons (ke_tup (pa_cons pe_str pa_nil)) (pa_cons pe_bl pa_nil)))))) (pe_op op_mod (pe_c c_law_draw (hr.mono (by first | decide | omega)) rfl (pa_cons (pv 1) pa_nil)) pe_int) (fun _ _ => rfl)))
  (pss_one (ps_if (PW.pt (pw_or (pt_cmpR (op_neD (hu64_of hr)) (pe_c c_law_told (hr.mono (by first | decide | omega)) rfl (pa_cons (pv 2) (pa_cons (pv 7) pa_nil))) (ke_tup (pa_cons pe_str (pa_cons pe_str pa_nil))) (nomark _)) (pw_or1 (pt_cmpR (op_notInD (K := K) (hu9_of hr) rfl) (pv 7) (ke_lst (pa_cons pe_non (pa_cons pe_int (pa_cons (ke_lst (pa_cons pe_str pa_nil)) (pa_cons (ke_tup (pa_cons pe_str pa_nil)) (pa_cons pe_bl pa_nil)))))) (by rfl)))))
  (pss_one (ps_ret pe_bl))
  pss_nil)))))))))
  (pss_one (ps_ret pe_bl)))), ?_⟩
    refine ⟨_, rfl, a0, ns, rfl, hS, hlen, fun n H1 ms hn k1 hn1 rg hl => ⟨(by show 2 ≤ sizeLine; decide), fun d H2 hd k2 hd2 => ?_⟩⟩
    have D2 : DrawsAt H2 d n ms 0 := ⟨hd2, k2.at hn1 nmem_nil, rg, Int.le_refl _⟩
    refine ⟨_, rfl, (by decide), (by decide), for_range (n := 3) (fun i σ H' => ∃ (y2 y3 y4 y5 y6 y7 : Option V) (kd : Int), σ = [some (.ref a0), some (.ref d), y2, y3, y4, y5, y6, y7, none] ∧ DrawsAt H' d n ms kd) ⟨_, _, _, _, _, _, _, rfl, D2⟩ ?_ ?_⟩
    · rintro i σ H3 hi ⟨y2, y3, y4, y5, y6, y7, kd, rfl, D3⟩
      obtain ⟨wh, ewh⟩ : ∃ wh : Int, (0 : Int) + (i : Nat) = wh := ⟨_, rfl⟩
      have hw : wh = 0 ∨ wh = 1 ∨ wh = 2 := by omega
      rw [ewh]
      obtain ⟨b1, eb1⟩ : ∃ b : Bool, b = decide (wh ≠ 1) := ⟨_, rfl⟩
      obtain ⟨b2, eb2⟩ : ∃ b : Bool, b = decide (wh ≠ 2) := ⟨_, rfl⟩
      have at1 : atI [V.str "book", V.str "history", V.str "book"] wh = some (.str (kindS b1)) := by rw [eb1]; rcases hw with h | h | h <;> rw [h] <;> rfl
      have at2 : atI [V.str "book", V.str "book", V.str "history"] wh = some (.str (kindS b2)) := by rw [eb2]; rcases hw with h | h | h <;> rw [h] <;> rfl
      refine ⟨_, rfl, d, n, ms, kd, rfl, D3, fun c0 H4 c00 c01 k4 D4 => ⟨_, _, rfl, rfl, (by show (0 : Int) < 3; decide), _, _, rfl, rfl, ?_⟩⟩
      have m0 := MD.md c0 3 (by decide)
      refine ⟨_, rfl, (by omega), (by omega), fun L H5 hL k5 h5 => ?_⟩
      have nLd : L ≠ d := (ne_of_none D4.hd hL).symm
      have nLn : L ≠ n := (ne_of_none D4.hn hL).symm
      refine kl_range (n := (1 + c0 % 3).toNat) (fun i acc H' => ∃ (rs : List Tx) (k' : Int), RepTs H' (rs.map txD) acc ∧ rs.length = i ∧ (∀ x ∈ rs, TxF x) ∧ DrawsAt H' d n ms k') ⟨[], _, RepTs.nil, rfl, (fun _ h => nomatch h), D4.kp0 k5⟩ ?_ ?_
      · rintro j acc H6 hj hacc ⟨rs, k', rr, rl, rf, D6⟩
        refine turn1 rfl ?_
        refine ⟨_, rfl, (by show 3 ≤ sizeLine; decide), fun kl H7 hkl k7 h7 => ?_⟩
        refine ⟨_, rfl, kl, _, _, .str (kindS b1), rfl, rfl, SqL.of h7, at1, ?_⟩
        refine ⟨d, n, ms, _, b1, rfl, D6.kp0 k7, fun v x k'' H8 xf xb k8 D8 rv => ?_⟩
        refine ⟨k8.at (k7.at hacc nmem_nil) (nmem_one nLd), sz (m := 10) (by rw [rr.lenM, rl]; omega), fun H9 k9 h9 => ⟨rs ++ [x], _, ?_, by rw [List.length_append, rl]; rfl, fun z hz => ?_, D8.kp k9 (nmem_one nLd.symm) (nmem_one nLn.symm)⟩⟩
        · rw [List.map_append]
          exact RepTs.snoc (rv.kp k9) (((rr.kp k7).kp k8).kp k9)
        · rcases List.mem_append.mp hz with z1 | z1
          · exact rf z z1
          · rw [List.mem_singleton.mp z1]; exact xf
      rintro acc H6 hacc ⟨rs, k', rr, rl, rf, D6⟩
      refine ⟨fun σ H' => ∃ (rs : List Tx) (acc : List V) (k' : Int), σ = [some (.ref a0), some (.ref d), some (.int wh), some (.ref L), y4, y5, y6, y7, none] ∧ H' L = some (.lst acc) ∧ RepTs H' (rs.map txD) acc ∧ rs.length ≤ 4 ∧ (∀ x ∈ rs, TxF x) ∧ DrawsAt H' d n ms k', ?_, ?_⟩
      · refine ⟨_, rfl, d, n, ms, _, rfl, D6, fun c1 H7 c10 c11 k7 D7 => ⟨_, _, rfl, rfl, (by show (0 : Int) < 8; decide), rfl, _, rfl, ite2 (fun _ => ?_) (fun _ => ?_)⟩⟩
        · have hacc7 := k7.at hacc (nmem_one nLd)
          refine ⟨_, rfl, .inl ⟨rfl, _, SqL.of hacc7⟩, _, rfl, (by show 3 ≤ sizeLine; decide), fun kl H8 hkl k8 h8 => ?_⟩
          refine ⟨_, rfl, kl, _, _, .str (kindS b2), rfl, rfl, SqL.of h8, at2, ?_⟩
          refine ⟨d, n, ms, _, b2, rfl, D7.kp0 k8, fun v x k'' H9 xf xb k9 D9 rv => ?_⟩
          refine ⟨L, _, _, rfl, rfl, k9.at (k8.at hacc7 nmem_nil) (nmem_one nLd), sz (m := 10) (by rw [rr.lenM, rl]; omega), fun H10 k10 h10 => ⟨rs ++ [x], _, _, rfl, h10, ?_, by rw [List.length_append]; show rs.length + 1 ≤ 4; omega, fun z hz => ?_, D9.kp k10 (nmem_one nLd.symm) (nmem_one nLn.symm)⟩⟩
          · rw [List.map_append]
            exact RepTs.snoc (rv.kp k10) ((((rr.kp k7).kp k8).kp k9).kp k10)
          · rcases List.mem_append.mp hz with z1 | z1
            · exact rf z z1
            · rw [List.mem_singleton.mp z1]; exact xf
        · exact ⟨rs, acc, _, rfl, k7.at hacc (nmem_one nLd), rr.kp k7, by omega, rf, D7⟩
      · rintro σ H7 ⟨rs, acc, k', rfl, hacc, rr, rl, rf, D7⟩
        refine ⟨_, rfl, L, rs, rfl, ⟨acc, hacc, rr⟩, rf, by omega, fun H8 k8 => ?_⟩
        have D8 := D7.kp0 k8
        refine ⟨fun σ H' => ∃ (x : Str) (k' : Int), σ = [some (.ref a0), some (.ref d), some (.int wh), some (.ref L), some (.str x), y5, y6, y7, none] ∧ x.length ≤ 9000 ∧ DrawsAt H' d n ms k', ?_, ?_⟩
        · refine ⟨_, rfl, rfl, _, rfl, ite2 (fun _ => ?_) (fun _ => ?_)⟩
          · refine ⟨_, rfl, d, n, ms, _, rfl, D8, fun t xs p kd' H9 pf k9 D9 ht rx => ?_⟩
            exact ⟨t, xs, p, rfl, ht, rx, pf, fun H10 k10 => ⟨ptS p, _, rfl, Nat.le_trans (ptS_len pf) (by decide), D9.kp0 k10⟩⟩
          · exact ⟨allS rs, _, rfl, Nat.le_trans (allS_short rf rl) (by decide), D8⟩
        · rintro σ H9 ⟨x, k', rfl, xl, D9⟩
          refine ⟨_, rfl, (by decide), (by decide), for_range (n := 3) (fun i σ H' => ∃ (y5 y6 y7 : Option V) (kd : Int), σ = [some (.ref a0), some (.ref d), some (.int wh), some (.ref L), some (.str x), y5, y6, y7, none] ∧ DrawsAt H' d n ms kd) ⟨_, _, _, _, rfl, D9⟩ ?_ ?_⟩
          · rintro j σ H10 hj ⟨y5, y6, y7, kd', rfl, D10⟩
            refine ⟨_, rfl, _, rfl, d, n, ms, _, x, rfl, D10, xl, fun y k' H11 yl k11 D11 => ?_⟩
            have yl' : y.length ≤ 10000 := by omega
            obtain ⟨od, rd⟩ := rd_ex wh hw y
            refine ⟨_, rfl, _, rfl, wh, _, rfl, .inl ⟨y, od, rfl, yl', rd, fun u H12 k12 ru => ?_⟩⟩
            refine ⟨_, rfl, _, rfl, wh, y, od, rfl, yl', rd, fun u2 H13 k13 ru2 => ?_⟩
            refine ⟨tldD od, u, u2, rfl, rep_kp k13 ru, ru2, okAns yl' rd, _, rfl, iteF ?_⟩
            exact ⟨_, _, _, _, rfl, (D11.kp0 k12).kp0 k13⟩
          · rintro σ H10 ⟨y5, y6, y7, kd', rfl, D10⟩
            refine ⟨(by show 1 ≤ sizeLine; decide), fun ol H11 hol k11 h11 => ⟨(by show 1 ≤ sizeLine; decide), fun ot H12 hot k12 h12 => ⟨(by show 5 ≤ sizeLine; decide), fun oL H13 hoL k13 h13 => ?_⟩⟩⟩
            have D13 := ((D10.kp0 k11).kp0 k12).kp0 k13
            refine ⟨_, rfl, d, n, ms, _, rfl, D13, fun c5 H14 c50 c51 k14 D14 => ⟨_, _, rfl, rfl, (by show (0 : Int) < 5; decide), ?_⟩⟩
            have m5 := MD.md c5 5 (by decide)
            have nod : oL ≠ d := (ne_of_none ((D10.kp0 k11).kp0 k12).hd hoL).symm
            have nld : ol ≠ d := (ne_of_none D10.hd hol).symm
            have h14 := k14.at h13 (nmem_one nod)
            have l14 := k14.at ((k12.trans k13).at h11 nmem_nil) (nmem_one nld)
            have t14 := (k13.nil.trans k14).tup _ _ h12
            obtain ⟨ov, dd, eo, rdd, nt, mem, dep⟩ : ∃ (ov : V) (dd : MD.D), atI [V.non, V.int 5, V.ref ol, V.ref ot, V.bl true] (c5 % 5) = some ov ∧ Rep K H14 dd ov ∧ NoTxt K H14 ov ∧ ((Ds.py oddD).any fun z => PyData.eqv z dd.py) = true ∧ dd.py.depth ≤ 1 := by
              rcases (show c5 % 5 = 0 ∨ c5 % 5 = 1 ∨ c5 % 5 = 2 ∨ c5 % 5 = 3 ∨ c5 % 5 = 4 by omega) with z | z | z | z | z
              · exact ⟨.non, .v .non, by rw [z]; rfl, Rep.non, ⟨"NoneType", ty_scl (v := .non) trivial, by decide +kernel⟩, by decide +kernel, by decide +kernel⟩
              · exact ⟨.int 5, .v (.int 5), by rw [z]; rfl, Rep.int, ⟨"int", ty_scl (v := .int 5) trivial, by decide +kernel⟩, by decide +kernel, by decide +kernel⟩
              · exact ⟨.ref ol, .sq true [dS "0:1-2"], by rw [z]; rfl, Rep.lst (SqL.of l14) (Reps.cons Rep.str Reps.nil), ⟨"list", ty_sq (l := true) (SqB_lst l14), by decide +kernel⟩, by decide +kernel, by decide +kernel⟩
              · exact ⟨.ref ot, .sq false [dS "0:1-2"], by rw [z]; rfl, Rep.tup (SqT.of t14) (Reps.cons Rep.str Reps.nil), ⟨"tuple", ty_sq (l := false) (SqB_tup t14), by decide +kernel⟩, by decide +kernel, by decide +kernel⟩
              · exact ⟨.bl true, .v (.bl true), by rw [z]; rfl, Rep.bl, ⟨"bool", ty_scl (v := .bl true) trivial, by decide +kernel⟩, by decide +kernel, by decide +kernel⟩
            refine ⟨oL, _, _, ov, rfl, rfl, SqL.of h14, eo, ?_⟩
            refine ⟨_, rfl, _, rfl, wh, ov, rfl, .inr ⟨hw, nt, fun u H15 k15 ru => ?_⟩⟩
            refine ⟨(by show 2 ≤ sizeLine; decide), fun tt H16 htt k16 h16 => ?_⟩
            refine ⟨_, _, (rep_kp k16 ru).dp, (Rep.tup (SqT.of h16) (Reps.cons Rep.str (Reps.cons Rep.str Reps.nil))).dp, by decide +kernel, by decide +kernel, _, rfl, iteFe (by decide +kernel) ?_⟩
            refine ⟨_, rfl, (by show 1 ≤ sizeLine; decide), fun ol2 H17 hol2 k17 h17 => ⟨(by show 1 ≤ sizeLine; decide), fun ot2 H18 hot2 k18 h18 => ⟨(by show 5 ≤ sizeLine; decide), fun oL2 H19 hoL2 k19 h19 => ?_⟩⟩⟩
            have k1519 := (((k15.trans k16).trans k17).trans k18).trans k19
            refine ⟨dd, true, oddD, rep_kp k1519 rdd, Rep.lst (SqL.of h19) (Reps.cons Rep.non (Reps.cons Rep.int (Reps.cons (Rep.lst (SqL.of ((k18.trans k19).at h17 nmem_nil)) (Reps.cons Rep.str Reps.nil)) (Reps.cons (Rep.tup (SqT.of (k19.tup _ _ h18)) (Reps.cons Rep.str Reps.nil)) (Reps.cons Rep.bl Reps.nil))))), Ds.plain _, D.plain _, Nat.le_trans (Nat.min_le_right _ _) (Nat.le_trans dep (by decide)), ?_⟩
            rw [if_pos rfl, mem]
            exact ⟨_, rfl, iteF ⟨_, _, _, _, _, _, _, rfl, D14.kp0 k1519⟩⟩
    · rintro σ H3 ⟨y2, y3, y4, y5, y6, y7, kd, rfl, D3⟩
      exact q H3
end

end MD
namespace MD
open PySem PySem.Spec PyProof.Rows L2
theorem all_mk {l : PySem.W.OpenLaw} {w : World} {K : PySem.W.Frag} {h : Heap} {mg : Str → Option Value} {fa f0 f1 f2 f3 f4 f5 f6 f7 f8 f9 f10 f11 f12 f13 f14 f15 f16 f17 f18 f19 f20 f21 f22 f23 f24 f25 f26 f27 f28 f29 f30 f31 f32 f33 C_BadText C_ManydoorsError C_BadDeed C_BadHistory C_BadLine C_BadSetup C_BadStay wd_BOOK_WORDS : Addr} (X : K.In h) (G : h.Ns mainGlobals mg) (hfa : mg "law" = some (.ref fa))
    {od0 an0 od1 an1 od2 an2 od3 an3 od4 an4 od5 an5 od6 an6 od7 an7 od8 an8 od9 an9 od10 an10 od11 an11 od12 an12 od13 an13 od14 an14 od15 an15 od16 an16 od17 an17 od18 an18 od19 an19 od20 an20 od21 an21 od22 an22 od23 an23 od24 an24 od25 an25 od26 an26 od27 an27 od28 an28 od29 an29 od30 an30 od31 an31 od32 an32 od33 an33 : Option Addr} {sl0 sl1 sl2 sl3 sl4 sl5 sl6 sl7 sl8 sl9 sl10 sl11 sl12 sl13 sl14 sl15 sl16 sl17 sl18 sl19 sl20 sl21 sl22 sl23 sl24 sl25 sl26 sl27 sl28 sl29 sl30 sl31 sl32 sl33 : Array (Option Value)} {oc0 kV0 dc0 pm0 cd0 ct0 oc1 kV1 dc1 pm1 cd1 ct1 oc2 kV2 dc2 pm2 cd2 ct2 oc3 kV3 dc3 pm3 cd3 ct3 oc4 kV4 dc4 pm4 cd4 ct4 oc5 kV5 dc5 pm5 cd5 ct5 oc6 kV6 dc6 pm6 cd6 ct6 oc7 kV7 dc7 pm7 cd7 ct7 oc8 kV8 dc8 pm8 cd8 ct8 oc9 kV9 dc9 pm9 cd9 ct9 oc10 kV10 dc10 pm10 cd10 ct10 oc11 kV11 dc11 pm11 cd11 ct11 oc12 kV12 dc12 pm12 cd12 ct12 oc13 kV13 dc13 pm13 cd13 ct13 oc14 kV14 dc14 pm14 cd14 ct14 oc15 kV15 dc15 pm15 cd15 ct15 oc16 kV16 dc16 pm16 cd16 ct16 oc17 kV17 dc17 pm17 cd17 ct17 oc18 kV18 dc18 pm18 cd18 ct18 oc19 kV19 dc19 pm19 cd19 ct19 oc20 kV20 dc20 pm20 cd20 ct20 oc21 kV21 dc21 pm21 cd21 ct21 oc22 kV22 dc22 pm22 cd22 ct22 oc23 kV23 dc23 pm23 cd23 ct23 oc24 kV24 dc24 pm24 cd24 ct24 oc25 kV25 dc25 pm25 cd25 ct25 oc26 kV26 dc26 pm26 cd26 ct26 oc27 kV27 dc27 pm27 cd27 ct27 oc28 kV28 dc28 pm28 cd28 ct28 oc29 kV29 dc29 pm29 cd29 ct29 oc30 kV30 dc30 pm30 cd30 ct30 oc31 kV31 dc31 pm31 cd31 ct31 oc32 kV32 dc32 pm32 cd32 ct32 oc33 kV33 dc33 pm33 cd33 ct33 : Value} {kc_MOST_DIGITS kc_MOST_STAYS kd0_BOOK_WORDS kd1_BOOK_WORDS kd2_BOOK_WORDS : Tok} {we_BOOK_WORDS : Array DictEntry} {wn_BOOK_WORDS : Nat}
    (aC_BadText : PySem.W.nsIn K mainGlobals "BadText" = some (some (.ref C_BadText)))
    (aC_ManydoorsError : PySem.W.nsIn K mainGlobals "ManydoorsError" = some (some (.ref C_ManydoorsError)))
    (aC_BadDeed : PySem.W.nsIn K mainGlobals "BadDeed" = some (some (.ref C_BadDeed)))
    (aC_BadHistory : PySem.W.nsIn K mainGlobals "BadHistory" = some (some (.ref C_BadHistory)))
    (aC_BadLine : PySem.W.nsIn K mainGlobals "BadLine" = some (some (.ref C_BadLine)))
    (aC_BadSetup : PySem.W.nsIn K mainGlobals "BadSetup" = some (some (.ref C_BadSetup)))
    (aC_BadStay : PySem.W.nsIn K mainGlobals "BadStay" = some (some (.ref C_BadStay)))
    (a0 : PySem.W.nsIn K mainGlobals "parse_party" = some (some (.ref f0)))
    (l0 : K.lookup f0 = some ⟨oc0, od0, .func (PySem.W.fnOf "parse_party" "parse_party" (defArgs s_parse_party) (defBody s_parse_party) (defScope s_parse_party) .none kV0 dc0 pm0 an0 cd0 ct0), sl0⟩)
    (c0 : PySem.W.codeIn K cd0 "parse_party" = true)
    (k0 : PySem.W.keepIn K (.ref f0) = true)
    (a1 : PySem.W.nsIn K mainGlobals "parse_history" = some (some (.ref f1)))
    (l1 : K.lookup f1 = some ⟨oc1, od1, .func (PySem.W.fnOf "parse_history" "parse_history" (defArgs s_parse_history) (defBody s_parse_history) (defScope s_parse_history) .none kV1 dc1 pm1 an1 cd1 ct1), sl1⟩)
    (c1 : PySem.W.codeIn K cd1 "parse_history" = true)
    (k1 : PySem.W.keepIn K (.ref f1) = true)
    (a2 : PySem.W.nsIn K mainGlobals "parse_book" = some (some (.ref f2)))
    (l2 : K.lookup f2 = some ⟨oc2, od2, .func (PySem.W.fnOf "parse_book" "parse_book" (defArgs s_parse_book) (defBody s_parse_book) (defScope s_parse_book) .none kV2 dc2 pm2 an2 cd2 ct2), sl2⟩)
    (c2 : PySem.W.codeIn K cd2 "parse_book" = true)
    (k2 : PySem.W.keepIn K (.ref f2) = true)
    (a3 : PySem.W.nsIn K mainGlobals "check_text" = some (some (.ref f3)))
    (l3 : K.lookup f3 = some ⟨oc3, od3, .func (PySem.W.fnOf "check_text" "check_text" (defArgs s_check_text) (defBody s_check_text) (defScope s_check_text) .none kV3 dc3 pm3 an3 cd3 ct3), sl3⟩)
    (c3 : PySem.W.codeIn K cd3 "check_text" = true)
    (k3 : PySem.W.keepIn K (.ref f3) = true)
    (a4 : PySem.W.nsIn K mainGlobals "lines_of" = some (some (.ref f4)))
    (l4 : K.lookup f4 = some ⟨oc4, od4, .func (PySem.W.fnOf "lines_of" "lines_of" (defArgs s_lines_of) (defBody s_lines_of) (defScope s_lines_of) .none kV4 dc4 pm4 an4 cd4 ct4), sl4⟩)
    (c4 : PySem.W.codeIn K cd4 "lines_of" = true)
    (k4 : PySem.W.keepIn K (.ref f4) = true)
    (a5 : PySem.W.nsIn K mainGlobals "parse_history_row" = some (some (.ref f5)))
    (l5 : K.lookup f5 = some ⟨oc5, od5, .func (PySem.W.fnOf "parse_history_row" "parse_history_row" (defArgs s_parse_history_row) (defBody s_parse_history_row) (defScope s_parse_history_row) .none kV5 dc5 pm5 an5 cd5 ct5), sl5⟩)
    (c5 : PySem.W.codeIn K cd5 "parse_history_row" = true)
    (k5 : PySem.W.keepIn K (.ref f5) = true)
    (a6 : PySem.W.nsIn K mainGlobals "parse_deed" = some (some (.ref f6)))
    (l6 : K.lookup f6 = some ⟨oc6, od6, .func (PySem.W.fnOf "parse_deed" "parse_deed" (defArgs s_parse_deed) (defBody s_parse_deed) (defScope s_parse_deed) .none kV6 dc6 pm6 an6 cd6 ct6), sl6⟩)
    (c6 : PySem.W.codeIn K cd6 "parse_deed" = true)
    (k6 : PySem.W.keepIn K (.ref f6) = true)
    (a7 : PySem.W.nsIn K mainGlobals "parse_book_row" = some (some (.ref f7)))
    (l7 : K.lookup f7 = some ⟨oc7, od7, .func (PySem.W.fnOf "parse_book_row" "parse_book_row" (defArgs s_parse_book_row) (defBody s_parse_book_row) (defScope s_parse_book_row) .none kV7 dc7 pm7 an7 cd7 ct7), sl7⟩)
    (c7 : PySem.W.codeIn K cd7 "parse_book_row" = true)
    (k7 : PySem.W.keepIn K (.ref f7) = true)
    (a8 : PySem.W.nsIn K mainGlobals "parse_stay" = some (some (.ref f8)))
    (l8 : K.lookup f8 = some ⟨oc8, od8, .func (PySem.W.fnOf "parse_stay" "parse_stay" (defArgs s_parse_stay) (defBody s_parse_stay) (defScope s_parse_stay) .none kV8 dc8 pm8 an8 cd8 ct8), sl8⟩)
    (c8 : PySem.W.codeIn K cd8 "parse_stay" = true)
    (k8 : PySem.W.keepIn K (.ref f8) = true)
    (a9 : PySem.W.nsIn K mainGlobals "parse_integers" = some (some (.ref f9)))
    (l9 : K.lookup f9 = some ⟨oc9, od9, .func (PySem.W.fnOf "parse_integers" "parse_integers" (defArgs s_parse_integers) (defBody s_parse_integers) (defScope s_parse_integers) .none kV9 dc9 pm9 an9 cd9 ct9), sl9⟩)
    (c9 : PySem.W.codeIn K cd9 "parse_integers" = true)
    (k9 : PySem.W.keepIn K (.ref f9) = true)
    (a10 : PySem.W.nsIn K mainGlobals "parse_integer" = some (some (.ref f10)))
    (l10 : K.lookup f10 = some ⟨oc10, od10, .func (PySem.W.fnOf "parse_integer" "parse_integer" (defArgs s_parse_integer) (defBody s_parse_integer) (defScope s_parse_integer) .none kV10 dc10 pm10 an10 cd10 ct10), sl10⟩)
    (c10 : PySem.W.codeIn K cd10 "parse_integer" = true)
    (k10 : PySem.W.keepIn K (.ref f10) = true)
    (a11 : PySem.W.nsIn K mainGlobals "_law_mixed" = some (some (.ref f11)))
    (l11 : K.lookup f11 = some ⟨oc11, od11, .func (PySem.W.fnOf "_law_mixed" "_law_mixed" (defArgs s_law_mixed) (defBody s_law_mixed) (defScope s_law_mixed) .none kV11 dc11 pm11 an11 cd11 ct11), sl11⟩)
    (c11 : PySem.W.codeIn K cd11 "_law_mixed" = true)
    (k11 : PySem.W.keepIn K (.ref f11) = true)
    (a12 : PySem.W.nsIn K mainGlobals "_law_numbers" = some (some (.ref f12)))
    (l12 : K.lookup f12 = some ⟨oc12, od12, .func (PySem.W.fnOf "_law_numbers" "_law_numbers" (defArgs s_law_numbers) (defBody s_law_numbers) (defScope s_law_numbers) .none kV12 dc12 pm12 an12 cd12 ct12), sl12⟩)
    (c12 : PySem.W.codeIn K cd12 "_law_numbers" = true)
    (k12 : PySem.W.keepIn K (.ref f12) = true)
    (a13 : PySem.W.nsIn K mainGlobals "_law_draw" = some (some (.ref f13)))
    (l13 : K.lookup f13 = some ⟨oc13, od13, .func (PySem.W.fnOf "_law_draw" "_law_draw" (defArgs s_law_draw) (defBody s_law_draw) (defScope s_law_draw) .none kV13 dc13 pm13 an13 cd13 ct13), sl13⟩)
    (c13 : PySem.W.codeIn K cd13 "_law_draw" = true)
    (k13 : PySem.W.keepIn K (.ref f13) = true)
    (a14 : PySem.W.nsIn K mainGlobals "_law_equal" = some (some (.ref f14)))
    (l14 : K.lookup f14 = some ⟨oc14, od14, .func (PySem.W.fnOf "_law_equal" "_law_equal" (defArgs s_law_equal) (defBody s_law_equal) (defScope s_law_equal) .none kV14 dc14 pm14 an14 cd14 ct14), sl14⟩)
    (c14 : PySem.W.codeIn K cd14 "_law_equal" = true)
    (k14 : PySem.W.keepIn K (.ref f14) = true)
    (a15 : PySem.W.nsIn K mainGlobals "_law_all_equal" = some (some (.ref f15)))
    (l15 : K.lookup f15 = some ⟨oc15, od15, .func (PySem.W.fnOf "_law_all_equal" "_law_all_equal" (defArgs s_law_all_equal) (defBody s_law_all_equal) (defScope s_law_all_equal) .none kV15 dc15 pm15 an15 cd15 ct15), sl15⟩)
    (c15 : PySem.W.codeIn K cd15 "_law_all_equal" = true)
    (k15 : PySem.W.keepIn K (.ref f15) = true)
    (a16 : PySem.W.nsIn K mainGlobals "_law_any_stay" = some (some (.ref f16)))
    (l16 : K.lookup f16 = some ⟨oc16, od16, .func (PySem.W.fnOf "_law_any_stay" "_law_any_stay" (defArgs s_law_any_stay) (defBody s_law_any_stay) (defScope s_law_any_stay) .none kV16 dc16 pm16 an16 cd16 ct16), sl16⟩)
    (c16 : PySem.W.codeIn K cd16 "_law_any_stay" = true)
    (k16 : PySem.W.keepIn K (.ref f16) = true)
    (a17 : PySem.W.nsIn K mainGlobals "_law_any_party" = some (some (.ref f17)))
    (l17 : K.lookup f17 = some ⟨oc17, od17, .func (PySem.W.fnOf "_law_any_party" "_law_any_party" (defArgs s_law_any_party) (defBody s_law_any_party) (defScope s_law_any_party) .none kV17 dc17 pm17 an17 cd17 ct17), sl17⟩)
    (c17 : PySem.W.codeIn K cd17 "_law_any_party" = true)
    (k17 : PySem.W.keepIn K (.ref f17) = true)
    (a18 : PySem.W.nsIn K mainGlobals "_law_figure" = some (some (.ref f18)))
    (l18 : K.lookup f18 = some ⟨oc18, od18, .func (PySem.W.fnOf "_law_figure" "_law_figure" (defArgs s_law_figure) (defBody s_law_figure) (defScope s_law_figure) .none kV18 dc18 pm18 an18 cd18 ct18), sl18⟩)
    (c18 : PySem.W.codeIn K cd18 "_law_figure" = true)
    (k18 : PySem.W.keepIn K (.ref f18) = true)
    (a19 : PySem.W.nsIn K mainGlobals "_law_any_row" = some (some (.ref f19)))
    (l19 : K.lookup f19 = some ⟨oc19, od19, .func (PySem.W.fnOf "_law_any_row" "_law_any_row" (defArgs s_law_any_row) (defBody s_law_any_row) (defScope s_law_any_row) .none kV19 dc19 pm19 an19 cd19 ct19), sl19⟩)
    (c19 : PySem.W.codeIn K cd19 "_law_any_row" = true)
    (k19 : PySem.W.keepIn K (.ref f19) = true)
    (a20 : PySem.W.nsIn K mainGlobals "_law_party_text" = some (some (.ref f20)))
    (l20 : K.lookup f20 = some ⟨oc20, od20, .func (PySem.W.fnOf "_law_party_text" "_law_party_text" (defArgs s_law_party_text) (defBody s_law_party_text) (defScope s_law_party_text) .none kV20 dc20 pm20 an20 cd20 ct20), sl20⟩)
    (c20 : PySem.W.codeIn K cd20 "_law_party_text" = true)
    (k20 : PySem.W.keepIn K (.ref f20) = true)
    (a21 : PySem.W.nsIn K mainGlobals "_law_words" = some (some (.ref f21)))
    (l21 : K.lookup f21 = some ⟨oc21, od21, .func (PySem.W.fnOf "_law_words" "_law_words" (defArgs s_law_words) (defBody s_law_words) (defScope s_law_words) .none kV21 dc21 pm21 an21 cd21 ct21), sl21⟩)
    (c21 : PySem.W.codeIn K cd21 "_law_words" = true)
    (k21 : PySem.W.keepIn K (.ref f21) = true)
    (a22 : PySem.W.nsIn K mainGlobals "_law_text" = some (some (.ref f22)))
    (l22 : K.lookup f22 = some ⟨oc22, od22, .func (PySem.W.fnOf "_law_text" "_law_text" (defArgs s_law_text) (defBody s_law_text) (defScope s_law_text) .none kV22 dc22 pm22 an22 cd22 ct22), sl22⟩)
    (c22 : PySem.W.codeIn K cd22 "_law_text" = true)
    (k22 : PySem.W.keepIn K (.ref f22) = true)
    (a23 : PySem.W.nsIn K mainGlobals "_law_read_number" = some (some (.ref f23)))
    (l23 : K.lookup f23 = some ⟨oc23, od23, .func (PySem.W.fnOf "_law_read_number" "_law_read_number" (defArgs s_law_read_number) (defBody s_law_read_number) (defScope s_law_read_number) .none kV23 dc23 pm23 an23 cd23 ct23), sl23⟩)
    (c23 : PySem.W.codeIn K cd23 "_law_read_number" = true)
    (k23 : PySem.W.keepIn K (.ref f23) = true)
    (a24 : PySem.W.nsIn K mainGlobals "_law_read_stay" = some (some (.ref f24)))
    (l24 : K.lookup f24 = some ⟨oc24, od24, .func (PySem.W.fnOf "_law_read_stay" "_law_read_stay" (defArgs s_law_read_stay) (defBody s_law_read_stay) (defScope s_law_read_stay) .none kV24 dc24 pm24 an24 cd24 ct24), sl24⟩)
    (c24 : PySem.W.codeIn K cd24 "_law_read_stay" = true)
    (k24 : PySem.W.keepIn K (.ref f24) = true)
    (a25 : PySem.W.nsIn K mainGlobals "_law_read_party" = some (some (.ref f25)))
    (l25 : K.lookup f25 = some ⟨oc25, od25, .func (PySem.W.fnOf "_law_read_party" "_law_read_party" (defArgs s_law_read_party) (defBody s_law_read_party) (defScope s_law_read_party) .none kV25 dc25 pm25 an25 cd25 ct25), sl25⟩)
    (c25 : PySem.W.codeIn K cd25 "_law_read_party" = true)
    (k25 : PySem.W.keepIn K (.ref f25) = true)
    (a26 : PySem.W.nsIn K mainGlobals "_law_read_deed" = some (some (.ref f26)))
    (l26 : K.lookup f26 = some ⟨oc26, od26, .func (PySem.W.fnOf "_law_read_deed" "_law_read_deed" (defArgs s_law_read_deed) (defBody s_law_read_deed) (defScope s_law_read_deed) .none kV26 dc26 pm26 an26 cd26 ct26), sl26⟩)
    (c26 : PySem.W.codeIn K cd26 "_law_read_deed" = true)
    (k26 : PySem.W.keepIn K (.ref f26) = true)
    (a27 : PySem.W.nsIn K mainGlobals "_law_read_history_row" = some (some (.ref f27)))
    (l27 : K.lookup f27 = some ⟨oc27, od27, .func (PySem.W.fnOf "_law_read_history_row" "_law_read_history_row" (defArgs s_law_read_history_row) (defBody s_law_read_history_row) (defScope s_law_read_history_row) .none kV27 dc27 pm27 an27 cd27 ct27), sl27⟩)
    (c27 : PySem.W.codeIn K cd27 "_law_read_history_row" = true)
    (k27 : PySem.W.keepIn K (.ref f27) = true)
    (a28 : PySem.W.nsIn K mainGlobals "_law_read_book_row" = some (some (.ref f28)))
    (l28 : K.lookup f28 = some ⟨oc28, od28, .func (PySem.W.fnOf "_law_read_book_row" "_law_read_book_row" (defArgs s_law_read_book_row) (defBody s_law_read_book_row) (defScope s_law_read_book_row) .none kV28 dc28 pm28 an28 cd28 ct28), sl28⟩)
    (c28 : PySem.W.codeIn K cd28 "_law_read_book_row" = true)
    (k28 : PySem.W.keepIn K (.ref f28) = true)
    (a29 : PySem.W.nsIn K mainGlobals "_law_read" = some (some (.ref f29)))
    (l29 : K.lookup f29 = some ⟨oc29, od29, .func (PySem.W.fnOf "_law_read" "_law_read" (defArgs s_law_read) (defBody s_law_read) (defScope s_law_read) .none kV29 dc29 pm29 an29 cd29 ct29), sl29⟩)
    (c29 : PySem.W.codeIn K cd29 "_law_read" = true)
    (k29 : PySem.W.keepIn K (.ref f29) = true)
    (a30 : PySem.W.nsIn K mainGlobals "_law_changed" = some (some (.ref f30)))
    (l30 : K.lookup f30 = some ⟨oc30, od30, .func (PySem.W.fnOf "_law_changed" "_law_changed" (defArgs s_law_changed) (defBody s_law_changed) (defScope s_law_changed) .none kV30 dc30 pm30 an30 cd30 ct30), sl30⟩)
    (c30 : PySem.W.codeIn K cd30 "_law_changed" = true)
    (k30 : PySem.W.keepIn K (.ref f30) = true)
    (a31 : PySem.W.nsIn K mainGlobals "_law_told" = some (some (.ref f31)))
    (l31 : K.lookup f31 = some ⟨oc31, od31, .func (PySem.W.fnOf "_law_told" "_law_told" (defArgs s_law_told) (defBody s_law_told) (defScope s_law_told) .none kV31 dc31 pm31 an31 cd31 ct31), sl31⟩)
    (c31 : PySem.W.codeIn K cd31 "_law_told" = true)
    (k31 : PySem.W.keepIn K (.ref f31) = true)
    (a32 : PySem.W.nsIn K mainGlobals "_law_due" = some (some (.ref f32)))
    (l32 : K.lookup f32 = some ⟨oc32, od32, .func (PySem.W.fnOf "_law_due" "_law_due" (defArgs s_law_due) (defBody s_law_due) (defScope s_law_due) .none kV32 dc32 pm32 an32 cd32 ct32), sl32⟩)
    (c32 : PySem.W.codeIn K cd32 "_law_due" = true)
    (k32 : PySem.W.keepIn K (.ref f32) = true)
    (a33 : PySem.W.nsIn K mainGlobals "law" = some (some (.ref f33)))
    (l33 : K.lookup f33 = some ⟨oc33, od33, .func (PySem.W.fnOf "law" "law" (defArgs s_law) (defBody s_law) (defScope s_law) .none kV33 dc33 pm33 an33 cd33 ct33), sl33⟩)
    (c33 : PySem.W.codeIn K cd33 "law" = true)
    (k33 : PySem.W.keepIn K (.ref f33) = true)
    (xe_BadText : PySem.W.excIn K C_BadText [.type "ValueError", .type "Exception", .type "BaseException", .type "object"] "ValueError.__new__" = true)
    (xk_BadText : PySem.W.keepIn K (.ref C_BadText) = true)
    (xb_BadText : PySem.W.subIn K (.ref C_BadText) (.type "BaseException") = some true)
    (xt_BadText : PySem.W.typeIn K (.ref C_BadText) = some (.type "type"))
    (xi_BadText : PySem.W.isClsIn K C_BadText = true)
    (xs_BadText : PySem.W.subIn K (.ref C_BadText) (.ref C_BadText) = some true)
    (ki_ManydoorsError : PySem.W.kitOne K (.ref C_BadText) (.ref C_ManydoorsError) = some true)
    (ki_ValueError : PySem.W.kitOne K (.ref C_BadText) (.type "ValueError") = some true)
    (ki_BadDeed : PySem.W.kitOne K (.ref C_BadText) (.ref C_BadDeed) = some false)
    (ki_BadHistory : PySem.W.kitOne K (.ref C_BadText) (.ref C_BadHistory) = some false)
    (ki_BadLine : PySem.W.kitOne K (.ref C_BadText) (.ref C_BadLine) = some false)
    (ki_BadSetup : PySem.W.kitOne K (.ref C_BadText) (.ref C_BadSetup) = some false)
    (ki_BadStay : PySem.W.kitOne K (.ref C_BadText) (.ref C_BadStay) = some false)
    (iehg_BadText : PySem.W.findIn K (.ref C_BadText) "__getattribute__" = some (some (.builtin "BaseException.__getattribute__")))
    (iehk_BadText : PySem.W.findIn K (.ref C_BadText) "__getattr__" = some none)
    (iehs_BadText : PySem.W.subIn K (.ref C_BadText) (.type "BaseException") = some true)
    (iehd_BadText : PySem.W.hasDictIn K C_BadText = true)
    (ieha_BadText : PySem.W.findIn K (.ref C_BadText) "__class__" = some (some (.builtin "object.__class__")))
    (iehn_BadText : PySem.W.specialIn K (.builtin "object.__class__") "__get__" = some (some (.builtin "getset_descriptor.__get__")))
    (ieht_BadText : PySem.W.takesIn K (.builtin "object.__class__") = some true)
    (iehm_BadText : PySem.W.mroIn K C_BadText (.type "object") = some true)
    (z_ValueError : PySem.W.nsIn K mainGlobals "ValueError" = some none)
    (z_bool : PySem.W.nsIn K mainGlobals "bool" = some none)
    (z_int : PySem.W.nsIn K mainGlobals "int" = some none)
    (z_isinstance : PySem.W.nsIn K mainGlobals "isinstance" = some none)
    (z_len : PySem.W.nsIn K mainGlobals "len" = some none)
    (z_list : PySem.W.nsIn K mainGlobals "list" = some none)
    (z_range : PySem.W.nsIn K mainGlobals "range" = some none)
    (z_sorted : PySem.W.nsIn K mainGlobals "sorted" = some none)
    (z_str : PySem.W.nsIn K mainGlobals "str" = some none)
    (z_tuple : PySem.W.nsIn K mainGlobals "tuple" = some none)
    (gc_MOST_DIGITS : PySem.W.nsIn K mainGlobals "MOST_DIGITS" = some (some (.int 12 kc_MOST_DIGITS)))
    (gc_MOST_STAYS : PySem.W.nsIn K mainGlobals "MOST_STAYS" = some (some (.int 4 kc_MOST_STAYS)))
    (gd_BOOK_WORDS : PySem.W.nsIn K mainGlobals "BOOK_WORDS" = some (some (.ref wd_BOOK_WORDS)))
    (kl_BOOK_WORDS : K.lookup wd_BOOK_WORDS = some ⟨.type "dict", none, .dict we_BOOK_WORDS wn_BOOK_WORDS, #[]⟩)
    (kk_BOOK_WORDS : PySem.W.KeysLit w.params we_BOOK_WORDS.toList)
    (ks_BOOK_WORDS : (wd_BOOK_WORDS == sysModules) = false)
    (kv0_BOOK_WORDS : PySem.W.nsIn K wd_BOOK_WORDS "sold" = some (some (.int 5 kd0_BOOK_WORDS)))
    (kv1_BOOK_WORDS : PySem.W.nsIn K wd_BOOK_WORDS "cancelled" = some (some (.int 4 kd1_BOOK_WORDS)))
    (kv2_BOOK_WORDS : PySem.W.nsIn K wd_BOOK_WORDS "changed" = some (some (.int 7 kd2_BOOK_WORDS)))
    (ko_BOOK_WORDS : (we_BOOK_WORDS.toList.all fun e => (["sold", "cancelled", "changed"] : List Str).any fun x => e.key.isStr x) = true)
    : ∃ fd : FuncData, (∀ (s : Shared) (v : Value), BindsTo s fd ⟨[v], []⟩ [("script", v)]) ∧ ∀ base : Heap, K.In base → base.Ns mainGlobals mg → FnOk l.prog w K mg base CX0 60 fa fd ["script"] (spLaw K) := by
  have e := hfa.symm.trans (PySem.W.mg_of X G a33)
  cases e
  have F0 := fun_mk (st := s_parse_party) l0 c0 k0
  have b0 := F0.binds (ps := ["text"]) fun _ _ _ _ _ _ us hl => match us, hl with | [_], _ => rfl
  have F1 := fun_mk (st := s_parse_history) l1 c1 k1
  have b1 := F1.binds (ps := ["text"]) fun _ _ _ _ _ _ us hl => match us, hl with | [_], _ => rfl
  have F2 := fun_mk (st := s_parse_book) l2 c2 k2
  have b2 := F2.binds (ps := ["text"]) fun _ _ _ _ _ _ us hl => match us, hl with | [_], _ => rfl
  have F3 := fun_mk (st := s_check_text) l3 c3 k3
  have b3 := F3.binds (ps := ["text"]) fun _ _ _ _ _ _ us hl => match us, hl with | [_], _ => rfl
  have F4 := fun_mk (st := s_lines_of) l4 c4 k4
  have b4 := F4.binds (ps := ["text"]) fun _ _ _ _ _ _ us hl => match us, hl with | [_], _ => rfl
  have F5 := fun_mk (st := s_parse_history_row) l5 c5 k5
  have b5 := F5.binds (ps := ["words"]) fun _ _ _ _ _ _ us hl => match us, hl with | [_], _ => rfl
  have F6 := fun_mk (st := s_parse_deed) l6 c6 k6
  have b6 := F6.binds (ps := ["words"]) fun _ _ _ _ _ _ us hl => match us, hl with | [_], _ => rfl
  have F7 := fun_mk (st := s_parse_book_row) l7 c7 k7
  have b7 := F7.binds (ps := ["words"]) fun _ _ _ _ _ _ us hl => match us, hl with | [_], _ => rfl
  have F8 := fun_mk (st := s_parse_stay) l8 c8 k8
  have b8 := F8.binds (ps := ["text"]) fun _ _ _ _ _ _ us hl => match us, hl with | [_], _ => rfl
  have F9 := fun_mk (st := s_parse_integers) l9 c9 k9
  have b9 := F9.binds (ps := ["words"]) fun _ _ _ _ _ _ us hl => match us, hl with | [_], _ => rfl
  have F10 := fun_mk (st := s_parse_integer) l10 c10 k10
  have b10 := F10.binds (ps := ["text"]) fun _ _ _ _ _ _ us hl => match us, hl with | [_], _ => rfl
  have F11 := fun_mk (st := s_law_mixed) l11 c11 k11
  have b11 := F11.binds (ps := ["number", "k"]) fun _ _ _ _ _ _ us hl => match us, hl with | [_, _], _ => rfl
  have F12 := fun_mk (st := s_law_numbers) l12 c12 k12
  have b12 := F12.binds (ps := ["script"]) fun _ _ _ _ _ _ us hl => match us, hl with | [_], _ => rfl
  have F13 := fun_mk (st := s_law_draw) l13 c13 k13
  have b13 := F13.binds (ps := ["draws"]) fun _ _ _ _ _ _ us hl => match us, hl with | [_], _ => rfl
  have F14 := fun_mk (st := s_law_equal) l14 c14 k14
  have b14 := F14.binds (ps := ["actual", "due"]) fun _ _ _ _ _ _ us hl => match us, hl with | [_, _], _ => rfl
  have F15 := fun_mk (st := s_law_all_equal) l15 c15 k15
  have b15 := F15.binds (ps := ["actual", "due"]) fun _ _ _ _ _ _ us hl => match us, hl with | [_, _], _ => rfl
  have F16 := fun_mk (st := s_law_any_stay) l16 c16 k16
  have b16 := F16.binds (ps := ["draws"]) fun _ _ _ _ _ _ us hl => match us, hl with | [_], _ => rfl
  have F17 := fun_mk (st := s_law_any_party) l17 c17 k17
  have b17 := F17.binds (ps := ["draws"]) fun _ _ _ _ _ _ us hl => match us, hl with | [_], _ => rfl
  have F18 := fun_mk (st := s_law_figure) l18 c18 k18
  have b18 := F18.binds (ps := ["draws"]) fun _ _ _ _ _ _ us hl => match us, hl with | [_], _ => rfl
  have F19 := fun_mk (st := s_law_any_row) l19 c19 k19
  have b19 := F19.binds (ps := ["draws", "kind"]) fun _ _ _ _ _ _ us hl => match us, hl with | [_, _], _ => rfl
  have F20 := fun_mk (st := s_law_party_text) l20 c20 k20
  have b20 := F20.binds (ps := ["party"]) fun _ _ _ _ _ _ us hl => match us, hl with | [_], _ => rfl
  have F21 := fun_mk (st := s_law_words) l21 c21 k21
  have b21 := F21.binds (ps := ["parts"]) fun _ _ _ _ _ _ us hl => match us, hl with | [_], _ => rfl
  have F22 := fun_mk (st := s_law_text) l22 c22 k22
  have b22 := F22.binds (ps := ["rows"]) fun _ _ _ _ _ _ us hl => match us, hl with | [_], _ => rfl
  have F23 := fun_mk (st := s_law_read_number) l23 c23 k23
  have b23 := F23.binds (ps := ["word"]) fun _ _ _ _ _ _ us hl => match us, hl with | [_], _ => rfl
  have F24 := fun_mk (st := s_law_read_stay) l24 c24 k24
  have b24 := F24.binds (ps := ["word"]) fun _ _ _ _ _ _ us hl => match us, hl with | [_], _ => rfl
  have F25 := fun_mk (st := s_law_read_party) l25 c25 k25
  have b25 := F25.binds (ps := ["word"]) fun _ _ _ _ _ _ us hl => match us, hl with | [_], _ => rfl
  have F26 := fun_mk (st := s_law_read_deed) l26 c26 k26
  have b26 := F26.binds (ps := ["words"]) fun _ _ _ _ _ _ us hl => match us, hl with | [_], _ => rfl
  have F27 := fun_mk (st := s_law_read_history_row) l27 c27 k27
  have b27 := F27.binds (ps := ["words"]) fun _ _ _ _ _ _ us hl => match us, hl with | [_], _ => rfl
  have F28 := fun_mk (st := s_law_read_book_row) l28 c28 k28
  have b28 := F28.binds (ps := ["words"]) fun _ _ _ _ _ _ us hl => match us, hl with | [_], _ => rfl
  have F29 := fun_mk (st := s_law_read) l29 c29 k29
  have b29 := F29.binds (ps := ["kind", "text"]) fun _ _ _ _ _ _ us hl => match us, hl with | [_, _], _ => rfl
  have F30 := fun_mk (st := s_law_changed) l30 c30 k30
  have b30 := F30.binds (ps := ["draws", "text"]) fun _ _ _ _ _ _ us hl => match us, hl with | [_, _], _ => rfl
  have F31 := fun_mk (st := s_law_told) l31 c31 k31
  have b31 := F31.binds (ps := ["which", "text"]) fun _ _ _ _ _ _ us hl => match us, hl with | [_, _], _ => rfl
  have F32 := fun_mk (st := s_law_due) l32 c32 k32
  have b32 := F32.binds (ps := ["which", "text"]) fun _ _ _ _ _ _ us hl => match us, hl with | [_, _], _ => rfl
  have F33 := fun_mk (st := s_law) l33 c33 k33
  let T : Txt K mg := {
    C_BadText := C_BadText
    x_BadText := ⟨PySem.W.mg_of X G aC_BadText, xe_BadText, xk_BadText, xb_BadText, xt_BadText⟩
    m_BadText := exm_self xb_BadText xi_BadText xt_BadText xs_BadText
    ie_BadText := ⟨iehg_BadText, iehk_BadText, iehs_BadText, iehd_BadText, ieha_BadText, iehn_BadText, ieht_BadText, iehm_BadText⟩
    C_ManydoorsError := C_ManydoorsError
    g_ManydoorsError := PySem.W.mg_of X G aC_ManydoorsError
    ki_ManydoorsError := ki_ManydoorsError
    ki_ValueError := ki_ValueError
    C_BadDeed := C_BadDeed
    g_BadDeed := PySem.W.mg_of X G aC_BadDeed
    ki_BadDeed := ki_BadDeed
    C_BadHistory := C_BadHistory
    g_BadHistory := PySem.W.mg_of X G aC_BadHistory
    ki_BadHistory := ki_BadHistory
    C_BadLine := C_BadLine
    g_BadLine := PySem.W.mg_of X G aC_BadLine
    ki_BadLine := ki_BadLine
    C_BadSetup := C_BadSetup
    g_BadSetup := PySem.W.mg_of X G aC_BadSetup
    ki_BadSetup := ki_BadSetup
    C_BadStay := C_BadStay
    g_BadStay := PySem.W.mg_of X G aC_BadStay
    ki_BadStay := ki_BadStay
    d_parse_party := ⟨_, _, PySem.W.mg_of X G a0, F0, b0⟩
    d_parse_history := ⟨_, _, PySem.W.mg_of X G a1, F1, b1⟩
    d_parse_book := ⟨_, _, PySem.W.mg_of X G a2, F2, b2⟩
    d_check_text := ⟨_, _, PySem.W.mg_of X G a3, F3, b3⟩
    d_lines_of := ⟨_, _, PySem.W.mg_of X G a4, F4, b4⟩
    d_parse_history_row := ⟨_, _, PySem.W.mg_of X G a5, F5, b5⟩
    d_parse_deed := ⟨_, _, PySem.W.mg_of X G a6, F6, b6⟩
    d_parse_book_row := ⟨_, _, PySem.W.mg_of X G a7, F7, b7⟩
    d_parse_stay := ⟨_, _, PySem.W.mg_of X G a8, F8, b8⟩
    d_parse_integers := ⟨_, _, PySem.W.mg_of X G a9, F9, b9⟩
    d_parse_integer := ⟨_, _, PySem.W.mg_of X G a10, F10, b10⟩
    d_law_mixed := ⟨_, _, PySem.W.mg_of X G a11, F11, b11⟩
    d_law_numbers := ⟨_, _, PySem.W.mg_of X G a12, F12, b12⟩
    d_law_draw := ⟨_, _, PySem.W.mg_of X G a13, F13, b13⟩
    d_law_equal := ⟨_, _, PySem.W.mg_of X G a14, F14, b14⟩
    d_law_all_equal := ⟨_, _, PySem.W.mg_of X G a15, F15, b15⟩
    d_law_any_stay := ⟨_, _, PySem.W.mg_of X G a16, F16, b16⟩
    d_law_any_party := ⟨_, _, PySem.W.mg_of X G a17, F17, b17⟩
    d_law_figure := ⟨_, _, PySem.W.mg_of X G a18, F18, b18⟩
    d_law_any_row := ⟨_, _, PySem.W.mg_of X G a19, F19, b19⟩
    d_law_party_text := ⟨_, _, PySem.W.mg_of X G a20, F20, b20⟩
    d_law_words := ⟨_, _, PySem.W.mg_of X G a21, F21, b21⟩
    d_law_text := ⟨_, _, PySem.W.mg_of X G a22, F22, b22⟩
    d_law_read_number := ⟨_, _, PySem.W.mg_of X G a23, F23, b23⟩
    d_law_read_stay := ⟨_, _, PySem.W.mg_of X G a24, F24, b24⟩
    d_law_read_party := ⟨_, _, PySem.W.mg_of X G a25, F25, b25⟩
    d_law_read_deed := ⟨_, _, PySem.W.mg_of X G a26, F26, b26⟩
    d_law_read_history_row := ⟨_, _, PySem.W.mg_of X G a27, F27, b27⟩
    d_law_read_book_row := ⟨_, _, PySem.W.mg_of X G a28, F28, b28⟩
    d_law_read := ⟨_, _, PySem.W.mg_of X G a29, F29, b29⟩
    d_law_changed := ⟨_, _, PySem.W.mg_of X G a30, F30, b30⟩
    d_law_told := ⟨_, _, PySem.W.mg_of X G a31, F31, b31⟩
    d_law_due := ⟨_, _, PySem.W.mg_of X G a32, F32, b32⟩
    z_ValueError := PySem.W.mg_none_of X G z_ValueError
    z_bool := PySem.W.mg_none_of X G z_bool
    z_int := PySem.W.mg_none_of X G z_int
    z_isinstance := PySem.W.mg_none_of X G z_isinstance
    z_len := PySem.W.mg_none_of X G z_len
    z_list := PySem.W.mg_none_of X G z_list
    z_range := PySem.W.mg_none_of X G z_range
    z_sorted := PySem.W.mg_none_of X G z_sorted
    z_str := PySem.W.mg_none_of X G z_str
    z_tuple := PySem.W.mg_none_of X G z_tuple
    A_BOOK_WORDS := wd_BOOK_WORDS
    c_BOOK_WORDS := ⟨_, PySem.W.mg_of X G gd_BOOK_WORDS, rfl⟩
    c_MOST_DIGITS := ⟨_, PySem.W.mg_of X G gc_MOST_DIGITS, _, rfl⟩
    c_MOST_STAYS := ⟨_, PySem.W.mg_of X G gc_MOST_STAYS, _, rfl⟩ }
  exact ⟨PySem.W.fnOf "law" "law" (defArgs s_law) (defBody s_law) (defScope s_law) .none kV33 dc33 pm33 an33 cd33 ct33, fun s v => .of_eq rfl, fun base _ _ => ok_law F33 T ⟨_, _, ⟨kl_BOOK_WORDS, kk_BOOK_WORDS, ks_BOOK_WORDS⟩, List.forall_mem_cons.mpr ⟨⟨_, kv0_BOOK_WORDS, _, rfl⟩, List.forall_mem_cons.mpr ⟨⟨_, kv1_BOOK_WORDS, _, rfl⟩, List.forall_mem_cons.mpr ⟨⟨_, kv2_BOOK_WORDS, _, rfl⟩, fun _ z => nomatch z⟩⟩⟩⟩ (wrN_of kl_BOOK_WORDS ko_BOOK_WORDS)⟩
theorem walk {l : PySem.W.OpenLaw} {q : Program} {loose : List Str} {XP : (Str → Option Value) → Heap → Prop} {YP : World → Heap → Prop} {d : DefRec} {K : Params → PySem.W.Frag} (hn : l.most = some 63) (hdf : d.params.defaults = [])
    (hY : ∀ (w : World) (h : Heap), YP w h → (K w.params).In h)
    (F : ∀ (w : World) (mg : Str → Option Value) (fa : Addr) (h : Heap), (K w.params).In h → h.Ns mainGlobals mg → mg d.name = some (.ref fa) →
      ∃ fd : FuncData, (∀ (s : Shared) (u : Value), BindsTo s fd ⟨[u], []⟩ [("script", u)]) ∧ ∀ base : Heap, (K w.params).In base → base.Ns mainGlobals mg → FnOk l.prog w (K w.params) mg base CX0 60 fa fd ["script"] (spLaw (K w.params))) :
    PySem.W.WalkO q loose XP YP l.row.toRowW d [] (fun f vs => PySem.call f vs) :=
  L2.walk_of (n := 63) (k := 60) (x := "script") (CX := fun _ => CX0) (sp := fun w => spLaw (K w.params)) hn (by decide) hdf ⟨rfl, by decide, by decide⟩ hY F (fun _ _ a ns hl _ hS => ⟨a, ns, rfl, hS, hl, fun _ => rfl⟩) fun _ _ _ _ _ z => z
end MD
open PySem PySem.W PyProof.Rows
set_option maxRecDepth 100000 in
set_option maxHeartbeats 0 in
theorem PySem.Challenge.cw_manydoors_k14_texts_that_are_none_holds : PySem.Challenge.rw_manydoors_k14_texts_that_are_none.Holds := by
  w_on; o_law; k_head; (case hw => w_witness2)
  k_fill
  refine MD.walk (l := PySem.Challenge.rw_manydoors_k14_texts_that_are_none) rfl rfl (fun w h Y => PySem.W.kIn_of Y) ?F
  case F =>
    intro w mg fa h KX G hmg
    refine' MD.all_mk KX G hmg ?aC_BadText ?aC_ManydoorsError ?aC_BadDeed ?aC_BadHistory ?aC_BadLine ?aC_BadSetup ?aC_BadStay ?a0 ?l0 ?c0 ?k0 ?a1 ?l1 ?c1 ?k1 ?a2 ?l2 ?c2 ?k2 ?a3 ?l3 ?c3 ?k3 ?a4 ?l4 ?c4 ?k4 ?a5 ?l5 ?c5 ?k5 ?a6 ?l6 ?c6 ?k6 ?a7 ?l7 ?c7 ?k7 ?a8 ?l8 ?c8 ?k8 ?a9 ?l9 ?c9 ?k9 ?a10 ?l10 ?c10 ?k10 ?a11 ?l11 ?c11 ?k11 ?a12 ?l12 ?c12 ?k12 ?a13 ?l13 ?c13 ?k13 ?a14 ?l14 ?c14 ?k14 ?a15 ?l15 ?c15 ?k15 ?a16 ?l16 ?c16 ?k16 ?a17 ?l17 ?c17 ?k17 ?a18 ?l18 ?c18 ?k18 ?a19 ?l19 ?c19 ?k19 ?a20 ?l20 ?c20 ?k20 ?a21 ?l21 ?c21 ?k21 ?a22 ?l22 ?c22 ?k22 ?a23 ?l23 ?c23 ?k23 ?a24 ?l24 ?c24 ?k24 ?a25 ?l25 ?c25 ?k25 ?a26 ?l26 ?c26 ?k26 ?a27 ?l27 ?c27 ?k27 ?a28 ?l28 ?c28 ?k28 ?a29 ?l29 ?c29 ?k29 ?a30 ?l30 ?c30 ?k30 ?a31 ?l31 ?c31 ?k31 ?a32 ?l32 ?c32 ?k32 ?a33 ?l33 ?c33 ?k33 ?xe_BadText ?xk_BadText ?xb_BadText ?xt_BadText ?xi_BadText ?xs_BadText ?ki_ManydoorsError ?ki_ValueError ?ki_BadDeed ?ki_BadHistory ?ki_BadLine ?ki_BadSetup ?ki_BadStay ?iehg_BadText ?iehk_BadText ?iehs_BadText ?iehd_BadText ?ieha_BadText ?iehn_BadText ?ieht_BadText ?iehm_BadText ?z_ValueError ?z_bool ?z_int ?z_isinstance ?z_len ?z_list ?z_range ?z_sorted ?z_str ?z_tuple ?gc_MOST_DIGITS ?gc_MOST_STAYS ?gd_BOOK_WORDS ?kl_BOOK_WORDS ?kk_BOOK_WORDS ?ks_BOOK_WORDS ?kv0_BOOK_WORDS ?kv1_BOOK_WORDS ?kv2_BOOK_WORDS ?ko_BOOK_WORDS
    (case aC_BadText => k_is)
    (case aC_ManydoorsError => k_is)
    (case aC_BadDeed => k_is)
    (case aC_BadHistory => k_is)
    (case aC_BadLine => k_is)
    (case aC_BadSetup => k_is)
    (case aC_BadStay => k_is)
    (case a0 => k_is)
    (case l0 => k_is)
    (case c0 => k_is)
    (case k0 => k_is)
    (case a1 => k_is)
    (case l1 => k_is)
    (case c1 => k_is)
    (case k1 => k_is)
    (case a2 => k_is)
    (case l2 => k_is)
    (case c2 => k_is)
    (case k2 => k_is)
    (case a3 => k_is)
    (case l3 => k_is)
    (case c3 => k_is)
    (case k3 => k_is)
    (case a4 => k_is)
    (case l4 => k_is)
    (case c4 => k_is)
    (case k4 => k_is)
    (case a5 => k_is)
    (case l5 => k_is)
    (case c5 => k_is)
    (case k5 => k_is)
    (case a6 => k_is)
    (case l6 => k_is)
    (case c6 => k_is)
    (case k6 => k_is)
    (case a7 => k_is)
    (case l7 => k_is)
    (case c7 => k_is)
    (case k7 => k_is)
    (case a8 => k_is)
    (case l8 => k_is)
    (case c8 => k_is)
    (case k8 => k_is)
    (case a9 => k_is)
    (case l9 => k_is)
    (case c9 => k_is)
    (case k9 => k_is)
    (case a10 => k_is)
    (case l10 => k_is)
    (case c10 => k_is)
    (case k10 => k_is)
    (case a11 => k_is)
    (case l11 => k_is)
    (case c11 => k_is)
    (case k11 => k_is)
    (case a12 => k_is)
    (case l12 => k_is)
    (case c12 => k_is)
    (case k12 => k_is)
    (case a13 => k_is)
    (case l13 => k_is)
    (case c13 => k_is)
    (case k13 => k_is)
    (case a14 => k_is)
    (case l14 => k_is)
    (case c14 => k_is)
    (case k14 => k_is)
    (case a15 => k_is)
    (case l15 => k_is)
    (case c15 => k_is)
    (case k15 => k_is)
    (case a16 => k_is)
    (case l16 => k_is)
    (case c16 => k_is)
    (case k16 => k_is)
    (case a17 => k_is)
    (case l17 => k_is)
    (case c17 => k_is)
    (case k17 => k_is)
    (case a18 => k_is)
    (case l18 => k_is)
    (case c18 => k_is)
    (case k18 => k_is)
    (case a19 => k_is)
    (case l19 => k_is)
    (case c19 => k_is)
    (case k19 => k_is)
    (case a20 => k_is)
    (case l20 => k_is)
    (case c20 => k_is)
    (case k20 => k_is)
    (case a21 => k_is)
    (case l21 => k_is)
    (case c21 => k_is)
    (case k21 => k_is)
    (case a22 => k_is)
    (case l22 => k_is)
    (case c22 => k_is)
    (case k22 => k_is)
    (case a23 => k_is)
    (case l23 => k_is)
    (case c23 => k_is)
    (case k23 => k_is)
    (case a24 => k_is)
    (case l24 => k_is)
    (case c24 => k_is)
    (case k24 => k_is)
    (case a25 => k_is)
    (case l25 => k_is)
    (case c25 => k_is)
    (case k25 => k_is)
    (case a26 => k_is)
    (case l26 => k_is)
    (case c26 => k_is)
    (case k26 => k_is)
    (case a27 => k_is)
    (case l27 => k_is)
    (case c27 => k_is)
    (case k27 => k_is)
    (case a28 => k_is)
    (case l28 => k_is)
    (case c28 => k_is)
    (case k28 => k_is)
    (case a29 => k_is)
    (case l29 => k_is)
    (case c29 => k_is)
    (case k29 => k_is)
    (case a30 => k_is)
    (case l30 => k_is)
    (case c30 => k_is)
    (case k30 => k_is)
    (case a31 => k_is)
    (case l31 => k_is)
    (case c31 => k_is)
    (case k31 => k_is)
    (case a32 => k_is)
    (case l32 => k_is)
    (case c32 => k_is)
    (case k32 => k_is)
    (case a33 => k_is)
    (case l33 => k_is)
    (case c33 => k_is)
    (case k33 => k_is)
    (case xe_BadText => k_exc)
    (case xk_BadText => k_is)
    (case xb_BadText => k_is)
    (case xt_BadText => k_is)
    (case xi_BadText => k_is)
    (case xs_BadText => first | rfl | k_is)
    (case ki_ManydoorsError => kit_is)
    (case ki_ValueError => kit_is)
    (case ki_BadDeed => kit_is)
    (case ki_BadHistory => kit_is)
    (case ki_BadLine => kit_is)
    (case ki_BadSetup => kit_is)
    (case ki_BadStay => kit_is)
    (case iehg_BadText => k_is)
    (case iehk_BadText => k_is)
    (case iehs_BadText => k_is)
    (case iehd_BadText => k_is)
    (case ieha_BadText => k_is)
    (case iehn_BadText => k_is)
    (case ieht_BadText => k_is)
    (case iehm_BadText => k_is)
    (case z_ValueError => k_is)
    (case z_bool => k_is)
    (case z_int => k_is)
    (case z_isinstance => k_is)
    (case z_len => k_is)
    (case z_list => k_is)
    (case z_range => k_is)
    (case z_sorted => k_is)
    (case z_str => k_is)
    (case z_tuple => k_is)
    (case gc_MOST_DIGITS => k_is)
    (case gc_MOST_STAYS => k_is)
    (case gd_BOOK_WORDS => k_is)
    (case kl_BOOK_WORDS => k_is)
    (case kk_BOOK_WORDS => k_keys)
    (case ks_BOOK_WORDS => decide)
    (case kv0_BOOK_WORDS => k_is)
    (case kv1_BOOK_WORDS => k_is)
    (case kv2_BOOK_WORDS => k_is)
    (case ko_BOOK_WORDS => first | rfl | kernel_rfl | decide +kernel)
