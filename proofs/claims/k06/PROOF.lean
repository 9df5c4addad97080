import PyProof.Rows.All
import Wide.All
import OpenK.AllK
import Wide.FinOn
import HandS.ForMost
import HandS.IsInst
import HandS.Codes
import HandS.TupSets
import HandS.SortRule
import HandS.DictTup
import KE.KDictCopyH
import KE.KDictWalk
import HandS.WordsExc
import HandS.Ends
import HandS.ExcIs
import KE.RegKIsAll
import PySem.Challenge.RW_manydoors_k06_housings_are_refused
set_option Elab.async false
set_option linter.all false
set_option maxRecDepth 100000
set_option maxHeartbeats 4000000
namespace MD
open PySem PySem.Spec PyProof.Rows L2
/-! ### what changes: only what stands at M; tuples never; what is tracked stays tracked -/
structure Kp (M : List Addr) (H H' : Hp) : Prop where
  keep : ∀ b o, H b = some o → b ∉ M → H' b = some o
  tup : ∀ b xs, H b = some (.tup xs) → H' b = some (.tup xs)
  live : ∀ b o, H b = some o → ∃ o', H' b = some o'
theorem Kp.refl {M : List Addr} {H : Hp} : Kp M H H := ⟨fun _ _ h _ => h, fun _ _ h => h, fun _ o h => ⟨o, h⟩⟩
theorem Kp.trans {M : List Addr} {H H1 H2 : Hp} (a : Kp M H H1) (b : Kp M H1 H2) : Kp M H H2 :=
  ⟨fun x o h n => b.keep x o (a.keep x o h n) n, fun x xs h => b.tup x xs (a.tup x xs h), fun x o h => let ⟨o', h'⟩ := a.live x o h; b.live x o' h'⟩
theorem Kp.mono {M M' : List Addr} {H H' : Hp} (k : Kp M H H') (h : ∀ a, a ∈ M → a ∈ M') : Kp M' H H' :=
  ⟨fun b o e n => k.keep b o e fun z => n (h b z), k.tup, k.live⟩
/-- addresses that were not there may be left out -/
theorem Kp.drop {M M' : List Addr} {H H' : Hp} (k : Kp M H H') (h : ∀ a, a ∈ M → a ∈ M' ∨ H a = none) : Kp M' H H' :=
  ⟨fun b o e n => k.keep b o e fun z => (h b z).elim n fun q => (by rw [q] at e; cases e), k.tup, k.live⟩
theorem Kp.free {M : List Addr} {H H' : Hp} (k : Kp M H H') {b : Addr} (h : H' b = none) : H b = none := by
  cases e : H b with
  | none => rfl
  | some o => obtain ⟨o', h'⟩ := k.live b o e; rw [h] at h'; cases h'
theorem Kp.new {M : List Addr} {H : Hp} {p : Addr} {o : HO} (h : H p = none) : Kp M H (upd H p o) :=
  ⟨fun b u e _ => by rw [upd_ne (ne_of_none e h)]; exact e, fun b u e => by rw [upd_ne (ne_of_none e h)]; exact e, fun b u e => ⟨u, by rw [upd_ne (ne_of_none e h)]; exact e⟩⟩
/-- what may be written over: not a tuple -/
def NT : HO → Prop
  | .tup _ => False
  | _ => True
theorem Kp.old {M : List Addr} {H : Hp} {p : Addr} {o u : HO} (h : H p = some u) (nt : NT u) (m : p ∈ M) : Kp M H (upd H p o) := by
  refine ⟨fun b v e n => ?_, fun b v e => ?_, fun b v e => ?_⟩
  · rw [upd_ne (fun z : b = p => n (by rw [z]; exact m))]; exact e
  · rw [upd_ne (fun z => by rw [z, h] at e; cases e; exact nt)]; exact e
  · by_cases z : b = p
    · rw [z]; exact ⟨o, upd_same⟩
    · exact ⟨v, by rw [upd_ne z]; exact e⟩
/-- an object that was not there is written -/
theorem Kp.own {M : List Addr} {H H1 : Hp} {p : Addr} {o : HO} (k : Kp M H H1) (h : H p = none) : Kp M H (upd H1 p o) :=
  ⟨fun b u e n => by rw [upd_ne (ne_of_none e h)]; exact k.keep b u e n, fun b u e => by rw [upd_ne (ne_of_none e h)]; exact k.tup b u e, fun b u e => by rw [upd_ne (ne_of_none e h)]; exact k.live b u e⟩
theorem Kp.wr {M : List Addr} {H H1 : Hp} {p : Addr} {o u : HO} (k : Kp M H H1) (h : H1 p = some u) (nt : NT u) (m : p ∈ M) : Kp M H (upd H1 p o) := k.trans (Kp.old h nt m)
theorem Kp.nw {M : List Addr} {H H1 : Hp} {p : Addr} {o : HO} (k : Kp M H H1) (h : H1 p = none) : Kp M H (upd H1 p o) := k.own (k.free h)
theorem Kp.at {M : List Addr} {H H' : Hp} {b : Addr} {o : HO} (k : Kp M H H') (h : H b = some o) (n : b ∉ M) : H' b = some o := k.keep b o h n
theorem Kp.seq {M : List Addr} {K : PySem.W.Frag} {H H' : Hp} {a : Addr} {xs : List V} (k : Kp M H H') (h : SqL K H a xs) (n : a ∉ M) : SqL K H' a xs := by
  rcases h with (h | ⟨o, h⟩) | h
  · exact .inl (.inl (k.keep _ _ h n))
  · exact .inl (.inr ⟨o, k.keep _ _ h n⟩)
  · exact .inr h
theorem Kp.sqt {M : List Addr} {K : PySem.W.Frag} {H H' : Hp} {a : Addr} {xs : List V} (k : Kp M H H') (h : H a = some (.tup xs)) : SqT K H' a xs := .inl (.inl (k.tup _ _ h))
theorem nmem_nil {a : Addr} : a ∉ ([] : List Addr) := fun h => nomatch h
theorem nmem_one {a b : Addr} (h : a ≠ b) : a ∉ [b] := fun z => h (by simpa using z)
theorem nmem_two {a b c : Addr} (h : a ≠ b) (h2 : a ≠ c) : a ∉ [b, c] := fun z => by
  rcases List.mem_cons.mp z with e | e
  · exact h e
  · exact nmem_one h2 e
theorem nmem_cons {a b : Addr} {M : List Addr} (h : a ≠ b) (h2 : a ∉ M) : a ∉ b :: M := fun z => (List.mem_cons.mp z).elim h h2

/-! ### defs, methods, classes of the text; what may be called -/
structure DefAt (K : PySem.W.Frag) (mg : Str → Option Value) (x : Str) (st : Stmt) (ps : List Str) : Prop where
  ex : ∃ (f : Addr) (fd : FuncData), mg x = some (.ref f) ∧ L2.Fun K x x st f fd ∧ Binds K fd ps []
structure MethAt (K : PySem.W.Frag) (C : Addr) (m qual : Str) (st : Stmt) (ps : List Str) : Prop where
  ex : ∃ (f : Addr) (fd : FuncData), Meth K C m f ∧ L2.Fun K m qual st f fd ∧ Binds K fd ps []
structure MakeAt (K : PySem.W.Frag) (mg : Str → Option Value) (C : Addr) (x qual : Str) (st : Stmt) (ps : List Str) : Prop where
  ex : ∃ (f : Addr) (fd : FuncData), Mk K C f ∧ mg x = some (.ref C) ∧ L2.Fun K "__init__" qual st f fd ∧ Binds K fd ps []
structure Cal (P : Program) (w : World) (K : PySem.W.Frag) (mg : Str → Option Value) (base : Heap) (k : Nat) (x : Str) (sp : Sp) : Prop where
  ex : ∃ (f : Addr) (fd : FuncData) (ps : List Str), FnOk P w K mg base L2.CX0 k f fd ps sp ∧ mg x = some (.ref f) ∧ PySem.W.keepIn K (.ref f) = true ∧ Binds K fd ps []
structure Met (P : Program) (w : World) (K : PySem.W.Frag) (mg : Str → Option Value) (base : Heap) (k : Nat) (C : Addr) (m : Str) (sp : Sp) : Prop where
  ex : ∃ (f : Addr) (fd : FuncData) (ps : List Str), Cls K C ∧ Meth K C m f ∧ FnOk P w K mg base L2.CX0 k f fd ps sp ∧ Binds K fd ps []
structure Mak (P : Program) (w : World) (K : PySem.W.Frag) (mg : Str → Option Value) (base : Heap) (k : Nat) (x : Str) (C : Addr) (sp : Sp) : Prop where
  ex : ∃ (f : Addr) (fd : FuncData) (ps : List Str), Mk K C f ∧ FnOk P w K mg base L2.CX0 k f fd ps sp ∧ mg x = some (.ref C) ∧ Binds K fd ps []
section
variable {P : Program} {w : World} {K : PySem.W.Frag} {mg : Str → Option Value} {base : Heap}
theorem cal_of {x : Str} {st : Stmt} {N ps : List Str} {k : Nat} {sp : Sp} (D : DefAt K mg x st ps) (S : FnScope N ps (defScope st)) (len : ∀ vs H Q E, sp vs H Q E → vs.length = ps.length)
    (hbody : ∀ (f : Addr) (cdv : Value) (A : Around) (outer : List Env) (s : Shared) (H : Hp) (vs : List V) (Q : VK) (E : XK), Room k (A.deeper (envOfC x (defScope st) s.heap.objs.size f cdv)) → sp vs H Q E →
      ∃ t, PSs (cxOf L2.CX0 P w K mg base N x (defScope st) f cdv A outer s H E).nox (defBody st) t ∧ t { nx := fun _ H' => Q .non H', rt := Q } (start N vs) H) : Cal P w K mg base (k + 1) x sp := by
  obtain ⟨f, fd, hm, F, b⟩ := D.ex
  exact ⟨f, fd, ps, F.ok S len (hbody f), hm, F.kp, b⟩
theorem met_of {C : Addr} {m qual : Str} {st : Stmt} {N ps : List Str} {k : Nat} {sp : Sp} (c : Cls K C) (D : MethAt K C m qual st ps) (S : FnScope N ps (defScope st)) (len : ∀ vs H Q E, sp vs H Q E → vs.length = ps.length)
    (hbody : ∀ (f : Addr) (cdv : Value) (A : Around) (outer : List Env) (s : Shared) (H : Hp) (vs : List V) (Q : VK) (E : XK), Room k (A.deeper (envOfC qual (defScope st) s.heap.objs.size f cdv)) → sp vs H Q E →
      ∃ t, PSs (cxOf L2.CX0 P w K mg base N qual (defScope st) f cdv A outer s H E).nox (defBody st) t ∧ t { nx := fun _ H' => Q .non H', rt := Q } (start N vs) H) : Met P w K mg base (k + 1) C m sp := by
  obtain ⟨f, fd, hm, F, b⟩ := D.ex
  exact ⟨f, fd, ps, c, hm, F.ok S len (hbody f), b⟩
theorem mak_of {C : Addr} {x qual : Str} {st : Stmt} {N ps : List Str} {k : Nat} {sp : Sp} (D : MakeAt K mg C x qual st ps) (S : FnScope N ps (defScope st)) (len : ∀ vs H Q E, sp vs H Q E → vs.length = ps.length)
    (hbody : ∀ (f : Addr) (cdv : Value) (A : Around) (outer : List Env) (s : Shared) (H : Hp) (vs : List V) (Q : VK) (E : XK), Room k (A.deeper (envOfC qual (defScope st) s.heap.objs.size f cdv)) → sp vs H Q E →
      ∃ t, PSs (cxOf L2.CX0 P w K mg base N qual (defScope st) f cdv A outer s H E).nox (defBody st) t ∧ t { nx := fun _ H' => Q .non H', rt := Q } (start N vs) H) : Mak P w K mg base (k + 1) x C sp := by
  obtain ⟨f, fd, hm, mgx, F, b⟩ := D.ex
  exact ⟨f, fd, ps, hm, F.ok S len (hbody f), mgx, b⟩
theorem Cal.imp {x : Str} {k : Nat} {sp sp' : Sp} (c : Cal P w K mg base k x sp) (h : ∀ vs H Q E, sp' vs H Q E → sp vs H Q E) : Cal P w K mg base k x sp' := by
  obtain ⟨f, fd, ps, F, a, b, d⟩ := c.ex
  exact ⟨f, fd, ps, F.imp h, a, b, d⟩
theorem Cal.mono {x : Str} {k j : Nat} {sp : Sp} (c : Cal P w K mg base k x sp) (h : k ≤ j) : Cal P w K mg base j x sp := by
  obtain ⟨f, fd, ps, F, a, b, d⟩ := c.ex
  exact ⟨f, fd, ps, F.mono h, a, b, d⟩
end
section
variable {X : Cx} {k j : Nat} {C : Addr} {x m : Str} {sp : Sp} {p pos apos : Pos} {e o : Expr} {es : List Expr} {ta : TE} {t : TA} {E : XK}
/-- nothing is wanted of an exception: none comes -/
theorem passE : Passes L2.CX0 X E := fun _ _ _ _ _ _ _ h => h.elim
theorem pe_c (c : Cal X.prog X.w X.K X.mg X.base k x sp) (hr : Room k X.A) (hg : Gl X x) (ha : PA X (e :: es) t)
    (hdb : (x == ("__debug__" : Str)) = false := by decide) (he : starEach (e :: es) X.env = (false, eval e X.env) :: starEach es X.env := by rfl) (hpl : (backTo pos (starEach es X.env)).any (·.1) = false := by rfl) :
    PE X (.Call (.Name x p) (e :: es) [] pos) (tCall sp [] L2.E0 t) := by
  obtain ⟨f, fd, ps, F, hm, kp, b⟩ := c.ex
  exact pe_call F hr hg hm kp b .nil pass0 ha hdb he hpl
theorem pe_mt {pl : Sem Bool} (c : Met X.prog X.w X.K X.mg X.base k C m sp) (hr : Room k X.A) (he : PE X o ta) (ha : PA X (e :: es) t)
    (hst : starEach (e :: es) X.env = (false, eval e X.env) :: starEach es X.env := by rfl) (hpl : (backTo pos (starEach es X.env)).any (·.1) = false := by rfl)
    (ht : eval (.Call (.Attribute o m apos) (e :: es) [] pos) X.env = (do
      let ov ← eval o X.env
      standAt apos.atName
      let (f, first) ← holding [ov] (getMethod ov m pl)
      callWith pos f first (backTo pos (starEach (e :: es) X.env)) (backToKw pos (keywordEach [] X.env))) := by rfl) :
    PE X (.Call (.Attribute o m apos) (e :: es) [] pos) (tMeth C m sp [] L2.E0 ta t) := by
  obtain ⟨f, fd, ps, hc, hm, F, b⟩ := c.ex
  exact pe_meth (pl := pl) he hc hm F hr b .nil pass0 ha hst hpl ht
theorem pe_mt0 {pl : Sem Bool} (c : Met X.prog X.w X.K X.mg X.base k C m sp) (hr : Room k X.A) (he : PE X o ta)
    (ht : eval (.Call (.Attribute o m apos) [] [] pos) X.env = (do
      let ov ← eval o X.env
      standAt apos.atName
      let (f, first) ← holding [ov] (getMethod ov m pl)
      callWith pos f first (backTo pos (starEach [] X.env)) (backToKw pos (keywordEach [] X.env))) := by rfl) :
    PE X (.Call (.Attribute o m apos) [] [] pos) (tMeth C m sp [] L2.E0 ta tNil) := by
  obtain ⟨f, fd, ps, hc, hm, F, b⟩ := c.ex
  exact pe_meth0 (pl := pl) he hc hm F hr b .nil pass0 ht
theorem pe_mk (c : Mak X.prog X.w X.K X.mg X.base k x C sp) (hr : Room (k + 1) X.A) (hg : Gl X x) (ha : PA X (e :: es) t)
    (hdb : (x == ("__debug__" : Str)) = false := by decide) (he : starEach (e :: es) X.env = (false, eval e X.env) :: starEach es X.env := by rfl) (hpl : (backTo pos (starEach es X.env)).any (·.1) = false := by rfl) :
    PE X (.Call (.Name x p) (e :: es) [] pos) (tMake C sp [] L2.E0 t) := by
  obtain ⟨f, fd, ps, M, F, hm, b⟩ := c.ex
  exact pe_make M F hr hg hm b .nil pass0 ha hdb he hpl
theorem pe_mk0 (c : Mak X.prog X.w X.K X.mg X.base k x C sp) (hr : Room (k + 1) X.A) (hg : Gl X x)
    (hdb : (x == ("__debug__" : Str)) = false := by decide) :
    PE X (.Call (.Name x p) [] [] pos) (tMake C sp [] L2.E0 tNil) := by
  obtain ⟨f, fd, ps, M, F, hm, b⟩ := c.ex
  exact pe_make0 M F hr hg hm b .nil pass0 hdb
end
/-! ### data: scalars, and lists and tuples of data -/
inductive D where
  | v (x : V)
  | sq (l : Bool) (xs : List D)
/-- a list (l) or a tuple of these values is read at a -/
def SqB (K : PySem.W.Frag) (H : Hp) (l : Bool) (a : Addr) (xs : List V) : Prop := if l = true then SqL K H a xs else SqT K H a xs
def scl : V → Prop
  | .non => True
  | .bl _ => True
  | .int _ => True
  | .str _ => True
  | _ => False
mutual
def Rep (K : PySem.W.Frag) (H : Hp) : D → V → Prop
  | .v y, x => x = y ∧ scl y
  | .sq l ds, x => ∃ a vs, x = .ref a ∧ SqB K H l a vs ∧ Reps K H ds vs
def Reps (K : PySem.W.Frag) (H : Hp) : List D → List V → Prop
  | [], vs => vs = []
  | d :: ds, vs => ∃ v r, vs = v :: r ∧ Rep K H d v ∧ Reps K H ds r
end
mutual
def D.depth : D → Nat
  | .v _ => 0
  | .sq _ ds => Ds.depth ds + 1
def Ds.depth : List D → Nat
  | [] => 0
  | d :: ds => max d.depth (Ds.depth ds)
end
theorem Reps.len {K : PySem.W.Frag} {H : Hp} : ∀ {ds : List D} {vs : List V}, Reps K H ds vs → vs.length = ds.length
  | [], vs, h => by unfold Reps at h; subst h; rfl
  | d :: ds, vs, h => by
    unfold Reps at h
    obtain ⟨v, r, rfl, _, h2⟩ := h
    simp [Reps.len h2]
theorem Reps.get {K : PySem.W.Frag} {H : Hp} : ∀ {ds : List D} {vs : List V} {i : Nat} {d : D}, Reps K H ds vs → ds[i]? = some d → ∃ v, vs[i]? = some v ∧ Rep K H d v
  | [], _, i, _, _, e => by simp at e
  | d :: ds, vs, 0, d', h, e => by
    unfold Reps at h
    obtain ⟨v, r, rfl, h1, _⟩ := h
    simp at e; subst e
    exact ⟨v, rfl, h1⟩
  | d :: ds, vs, i + 1, d', h, e => by
    unfold Reps at h
    obtain ⟨v, r, rfl, _, h2⟩ := h
    obtain ⟨u, e1, e2⟩ := Reps.get h2 (by simpa using e)
    exact ⟨u, by simpa using e1, e2⟩
theorem Ds.depth_mem : ∀ {ds : List D} {i : Nat} {d : D}, ds[i]? = some d → d.depth ≤ Ds.depth ds
  | [], i, _, e => by simp at e
  | d :: ds, 0, d', e => by simp at e; subst e; unfold Ds.depth; omega
  | d :: ds, i + 1, d', e => by
    have := Ds.depth_mem (ds := ds) (i := i) (d := d') (by simpa using e)
    unfold Ds.depth; omega
theorem Rep.int {K : PySem.W.Frag} {H : Hp} {i : Int} : Rep K H (.v (.int i)) (.int i) := by unfold Rep; exact ⟨rfl, trivial⟩
theorem Rep.bl {K : PySem.W.Frag} {H : Hp} {i : Bool} : Rep K H (.v (.bl i)) (.bl i) := by unfold Rep; exact ⟨rfl, trivial⟩
theorem Rep.str {K : PySem.W.Frag} {H : Hp} {i : Str} : Rep K H (.v (.str i)) (.str i) := by unfold Rep; exact ⟨rfl, trivial⟩
theorem Rep.non {K : PySem.W.Frag} {H : Hp} : Rep K H (.v .non) .non := by unfold Rep; exact ⟨rfl, trivial⟩
theorem Reps.nil {K : PySem.W.Frag} {H : Hp} : Reps K H [] [] := by unfold Reps; rfl
theorem Reps.cons {K : PySem.W.Frag} {H : Hp} {d : D} {ds : List D} {v : V} {vs : List V} (h : Rep K H d v) (r : Reps K H ds vs) : Reps K H (d :: ds) (v :: vs) := by unfold Reps; exact ⟨v, vs, rfl, h, r⟩
theorem Rep.lst {K : PySem.W.Frag} {H : Hp} {a : Addr} {vs : List V} {ds : List D} (h : SqL K H a vs) (r : Reps K H ds vs) : Rep K H (.sq true ds) (.ref a) := by unfold Rep; exact ⟨a, vs, rfl, by unfold SqB; rw [if_pos rfl]; exact h, r⟩
theorem Rep.tup {K : PySem.W.Frag} {H : Hp} {a : Addr} {vs : List V} {ds : List D} (h : SqT K H a vs) (r : Reps K H ds vs) : Rep K H (.sq false ds) (.ref a) := by unfold Rep; exact ⟨a, vs, rfl, by unfold SqB; rw [if_neg Bool.false_ne_true]; exact h, r⟩
mutual
/-- data of tuples alone -/
def D.imm : D → Prop
  | .v _ => True
  | .sq l ds => l = false ∧ Ds.imm ds
def Ds.imm : List D → Prop
  | [] => True
  | d :: ds => d.imm ∧ Ds.imm ds
end
mutual
/-- .. that this law has made: tracked tuples -/
def RepT (H : Hp) : D → V → Prop
  | .v y, x => x = y ∧ scl y
  | .sq l ds, x => l = false ∧ ∃ a vs, x = .ref a ∧ H a = some (.tup vs) ∧ RepTs H ds vs
def RepTs (H : Hp) : List D → List V → Prop
  | [], vs => vs = []
  | d :: ds, vs => ∃ v r, vs = v :: r ∧ RepT H d v ∧ RepTs H ds r
end
mutual
theorem RepT.kp {M : List Addr} {H H' : Hp} (k : Kp M H H') : ∀ {d : D} {x : V}, RepT H d x → RepT H' d x
  | .v y, x, h => by unfold RepT at h ⊢; exact h
  | .sq l ds, x, h => by
    unfold RepT at h ⊢
    obtain ⟨e, a, vs, e1, e2, r⟩ := h
    exact ⟨e, a, vs, e1, k.tup _ _ e2, RepTs.kp k r⟩
theorem RepTs.kp {M : List Addr} {H H' : Hp} (k : Kp M H H') : ∀ {ds : List D} {vs : List V}, RepTs H ds vs → RepTs H' ds vs
  | [], vs, h => by unfold RepTs at h ⊢; exact h
  | d :: ds, vs, h => by
    unfold RepTs at h ⊢
    obtain ⟨v, r, e, h1, h2⟩ := h
    exact ⟨v, r, e, RepT.kp k h1, RepTs.kp k h2⟩
end
mutual
theorem RepT.rep {K : PySem.W.Frag} {H : Hp} : ∀ {d : D} {x : V}, RepT H d x → Rep K H d x
  | .v y, x, h => by unfold RepT at h; unfold Rep; exact h
  | .sq l ds, x, h => by
    unfold RepT at h
    obtain ⟨rfl, a, vs, rfl, e2, r⟩ := h
    exact Rep.tup (SqT.of e2) (RepTs.reps r)
theorem RepTs.reps {K : PySem.W.Frag} {H : Hp} : ∀ {ds : List D} {vs : List V}, RepTs H ds vs → Reps K H ds vs
  | [], vs, h => by unfold RepTs at h; unfold Reps; exact h
  | d :: ds, vs, h => by
    unfold RepTs at h
    obtain ⟨v, r, rfl, h1, h2⟩ := h
    exact Reps.cons (RepT.rep h1) (RepTs.reps h2)
end
theorem RepTs.len {H : Hp} : ∀ {ds : List D} {vs : List V}, RepTs H ds vs → vs.length = ds.length
  | [], vs, h => by unfold RepTs at h; subst h; rfl
  | d :: ds, vs, h => by
    unfold RepTs at h
    obtain ⟨v, r, rfl, _, h2⟩ := h
    simp [RepTs.len h2]
theorem RepT.int {H : Hp} {i : Int} : RepT H (.v (.int i)) (.int i) := by unfold RepT; exact ⟨rfl, trivial⟩
theorem RepT.bl {H : Hp} {i : Bool} : RepT H (.v (.bl i)) (.bl i) := by unfold RepT; exact ⟨rfl, trivial⟩
theorem RepT.str {H : Hp} {i : Str} : RepT H (.v (.str i)) (.str i) := by unfold RepT; exact ⟨rfl, trivial⟩
theorem RepT.non {H : Hp} : RepT H (.v .non) .non := by unfold RepT; exact ⟨rfl, trivial⟩
theorem RepTs.nil {H : Hp} : RepTs H [] [] := by unfold RepTs; rfl
theorem RepTs.cons {H : Hp} {d : D} {ds : List D} {v : V} {vs : List V} (h : RepT H d v) (r : RepTs H ds vs) : RepTs H (d :: ds) (v :: vs) := by unfold RepTs; exact ⟨v, vs, rfl, h, r⟩
theorem RepT.tup {H : Hp} {a : Addr} {vs : List V} {ds : List D} (h : H a = some (.tup vs)) (r : RepTs H ds vs) : RepT H (.sq false ds) (.ref a) := by unfold RepT; exact ⟨rfl, a, vs, rfl, h, r⟩
theorem RepTs.snoc {H : Hp} {d : D} {v : V} (h : RepT H d v) : ∀ {ds : List D} {vs : List V}, RepTs H ds vs → RepTs H (ds ++ [d]) (vs ++ [v])
  | [], vs, q => by unfold RepTs at q; subst q; exact RepTs.cons h RepTs.nil
  | e :: ds, vs, q => by
    unfold RepTs at q
    obtain ⟨u, r, rfl, h1, h2⟩ := q
    exact RepTs.cons h1 (RepTs.snoc h h2)
theorem RepTs.get {H : Hp} : ∀ {ds : List D} {vs : List V} {i : Nat} {v : V}, RepTs H ds vs → vs[i]? = some v → ∃ d, ds[i]? = some d ∧ RepT H d v
  | [], _, i, _, h, e => by unfold RepTs at h; subst h; simp at e
  | d :: ds, vs, 0, v', h, e => by
    unfold RepTs at h
    obtain ⟨v, r, rfl, h1, _⟩ := h
    simp at e; subst e
    exact ⟨d, rfl, h1⟩
  | d :: ds, vs, i + 1, v', h, e => by
    unfold RepTs at h
    obtain ⟨v, r, rfl, _, h2⟩ := h
    obtain ⟨u, e1, e2⟩ := RepTs.get h2 (by simpa using e)
    exact ⟨u, by simpa using e1, e2⟩
/-! ### lists of ints -/
theorem int_item {ns : List Int} {i : Nat} {y : V} (h : (ns.map V.int)[i]? = some y) : ∃ z, y = V.int z ∧ ns[i]? = some z := by
  rw [List.getElem?_map] at h
  cases e : ns[i]? with
  | none => rw [e] at h; cases h
  | some z => rw [e] at h; exact ⟨z, (Option.some.inj h).symm, rfl⟩
theorem int_snoc (ms : List Int) (v : Int) : ms.map V.int ++ [V.int v] = (ms ++ [v]).map V.int := by rw [List.map_append]; rfl
theorem at_of {α : Type} {xs : List α} {i : Int} {v : α} (h0 : 0 ≤ i) (h : xs[i.toNat]? = some v) : atI xs i = some v := by
  have q := atI_nat h
  rw [Int.toNat_of_nonneg h0] at q
  exact q
theorem int_at {ns : List Int} {i : Int} {z : Int} (h0 : 0 ≤ i) (h : ns[i.toNat]? = some z) : atI (ns.map V.int) i = some (V.int z) :=
  at_of h0 (by rw [List.getElem?_map, h]; rfl)
def Rg (ns : List Int) : Prop := ∀ x ∈ ns, 0 ≤ x ∧ x < 1000000
theorem Rg.nil : Rg [] := fun _ h => nomatch h
theorem Rg.snoc {ns : List Int} {v : Int} (h : Rg ns) (h0 : 0 ≤ v) (h1 : v < 1000000) : Rg (ns ++ [v]) := fun x hx => by
  rcases List.mem_append.mp hx with z | z
  · exact h x z
  · rw [List.mem_singleton.mp z]; exact ⟨h0, h1⟩
theorem sz {n m : Nat} (h : n ≤ m) (hm : m < 100000 := by omega) : n < sizeLine := Nat.lt_of_le_of_lt h (Nat.lt_of_lt_of_le hm (by decide))
theorem szl {n m : Nat} (h : n ≤ m) (hm : m < 100000 := by omega) : n ≤ sizeLine := Nat.le_of_lt (sz h hm)
/-! ### deep equality: what the data may be -/
def D.ok : Nat → D → Prop
  | _, .v _ => True
  | 0, .sq _ _ => False
  | n + 1, .sq _ ds => ds.length ≤ 100000 ∧ ∀ d ∈ ds, D.ok n d
theorem ty_sq {K : PySem.W.Frag} {H : Hp} {l : Bool} {a : Addr} {vs : List V} (h : SqB K H l a vs) : TyX K H (.ref a) (.type (if l = true then "list" else "tuple")) := by
  cases l with
  | true =>
    have h : SqL K H a vs := h
    rcases h with (h | ⟨o, h⟩) | ⟨o, its, n, hk, hc, _⟩
    · exact .base (.lst h)
    · exact .base (.frz h)
    · exact .kList hk hc
  | false =>
    have h : SqT K H a vs := h
    rcases h with (h | ⟨o, h⟩) | ⟨o, its, n, hk, hc, _⟩
    · exact .base (.tup h)
    · exact .fTuple h
    · exact .kTuple hk hc
theorem SqB.any {K : PySem.W.Frag} {H : Hp} {l : Bool} {a : Addr} {vs : List V} (h : SqB K H l a vs) : SqL K H a vs ∨ SqT K H a vs := by
  cases l with
  | true => exact .inl h
  | false => exact .inr h
theorem SqB.ix {K : PySem.W.Frag} {H : Hp} {l : Bool} {a : Addr} {vs : List V} {i : Int} {v : V} {Q : VK} (h : SqB K H l a vs) (e : atI vs i = some v) (q : Q v H) : rIx K (.ref a) (.int i) H Q := by
  cases l with
  | true => exact .inl ⟨a, vs, i, v, rfl, rfl, h, e, q⟩
  | false => exact .inr (.inl ⟨a, vs, i, v, rfl, rfl, h, e, q⟩)
/-- the type of a scalar, by name -/
def tyS : V → String
  | .non => "NoneType"
  | .bl _ => "bool"
  | .int _ => "int"
  | .str _ => "str"
  | _ => ""
theorem ty_scl {K : PySem.W.Frag} {H : Hp} {v : V} (h : scl v) : TyX K H v (.type (tyS v)) := by
  cases v with
  | non => exact .base .non
  | bl b => exact .base (.bl b)
  | int i => exact .base (.int i)
  | str x => exact .base (.str x)
  | _ => cases h
theorem r_isi {K : PySem.W.Frag} {H : Hp} {x : V} {t c : String} {b : Bool} {Q : VK} (ty : TyX K H x (.type t)) (k : kitB t c = some b) (q : Q (.bl b) H) : rIsi K [x, .ty c] H Q :=
  ⟨x, .ty c, _, _, b, rfl, .ty c, ty, kit_ty k, q⟩
/-! ### rules with the written part by name (within comprehensions the context is another one) -/
section
variable {X : Cx} {K : PySem.W.Frag}
def rLenK (K : PySem.W.Frag) : List V → Hp → VK → Prop := fun xs H Q => ∃ p ys, xs = [.ref p] ∧ (SqL K H p ys ∨ SqT K H p ys) ∧ Q (.int ys.length) H
def rListK (K : PySem.W.Frag) : List V → Hp → VK → Prop := fun xs H Q => ∃ p ys, xs = [.ref p] ∧ (SqL K H p ys ∨ SqT K H p ys) ∧ ∀ l, H l = none → Q (.ref l) (upd H l (.lst ys))
def rTupleK (K : PySem.W.Frag) : List V → Hp → VK → Prop := fun xs H Q => ∃ p ys, xs = [.ref p] ∧ ((SqL K H p ys ∧ ∀ l, H l = none → Q (.ref l) (upd H l (.tup ys))) ∨ (SqT K H p ys ∧ Q (.ref p) H))
theorem ixL (h : X.K = K := by rfl) : IxR X (rIxL K) := by subst h; exact ix_list
theorem ixT (h : X.K = K := by rfl) : IxR X (rIxT K) := by subst h; exact ix_tup
theorem ixS (h : X.K = K := by rfl) : IxR X (rIx K) := by subst h; exact ix_seq
theorem slL (h : X.K = K := by rfl) : SlR X (rSlL K) := by subst h; exact sl_list
theorem slT (h : X.K = K := by rfl) : SlR X (rSlT K) := by subst h; exact sl_tup
theorem lenK (h : X.K = K := by rfl) : CallR X (.builtin "len") (rLenK K) := by subst h; exact call_len_seq
theorem listK (h : X.K = K := by rfl) : CallR X (.type "list") (rListK K) := by subst h; exact call_list_of
theorem tupleK (h : X.K = K := by rfl) : CallR X (.type "tuple") (rTupleK K) := by subst h; exact call_tuple_of
theorem isiK (h : X.K = K := by rfl) : CallR X (.builtin "isinstance") (rIsi K) := by subst h; exact call_isi
theorem inK (h : X.K = K := by rfl) : OpR X (compareOp .In) (rIn K false) := by subst h; exact op_in_seq
theorem niK (h : X.K = K := by rfl) : OpR X (compareOp .NotIn) (rIn K true) := by subst h; exact op_notIn_seq
theorem fldK {e : Expr} {f : Str} {pos : Pos} {ta : TE} (he : PE X e ta) (hb : attributeBase e f X.env (eval e X.env) = eval e X.env) (h : X.K = K := by rfl) : PE X (.Attribute e f pos) (tFld K ta f) := by subst h; exact pe_fld he hb
end
theorem Kp.wrI {M : List Addr} {H H1 : Hp} {p C dx : Addr} {fs : List (Str × V)} {o : HO} (k : Kp M H H1) (h : H1 p = some (.ins C dx fs)) (m : p ∈ M) : Kp M H (upd H1 p o) := k.wr h trivial m
theorem Kp.wrL {M : List Addr} {H H1 : Hp} {p : Addr} {xs : List V} {o : HO} (k : Kp M H H1) (h : H1 p = some (.lst xs)) (m : p ∈ M) : Kp M H (upd H1 p o) := k.wr h trivial m
theorem Kp.wrT {M : List Addr} {H H1 : Hp} {p : Addr} {kvs : List (List Key × V)} {o : HO} (k : Kp M H H1) (h : H1 p = some (.dT kvs)) (m : p ∈ M) : Kp M H (upd H1 p o) := k.wr h trivial m
end MD

namespace MD
open PySem PySem.Spec PyProof.Rows L2
/-! ### rules whose readings tell the heap behind a change by what is kept (Kp), not as a term -/
def mE (t : TE) : TE := fun σ H Q => ∃ R : VK, t σ H R ∧ ∀ x H1, R x H1 → Q x H1
def mA (t : TA) : TA := fun σ H Q => ∃ R : List V → Hp → Prop, t σ H R ∧ ∀ x H1, R x H1 → Q x H1
section
variable {X : Cx} {e : Expr} {es : List Expr} {st : Stmt} {pos : Pos}
theorem peM {t : TE} (h : PE X e t) : PE X e (mE t) := ⟨fun pins s σ H Q I ⟨R, h1, h2⟩ => thn (h.run pins s σ H R I h1) fun _ _ ⟨v, H', J, r, q⟩ => ⟨v, H', J, r, h2 _ _ q⟩⟩
theorem paM {t : TA} (h : PA X es t) : PA X es (mA t) := ⟨fun pos pins s σ H Q I ⟨R, h1, h2⟩ => thn (h.run pos pins s σ H R I h1) fun _ _ ⟨v, H', J, r, q⟩ => ⟨v, H', J, r, h2 _ _ q⟩⟩
theorem peI {t t' : TE} (h : PE X e t) (i : ∀ σ H Q, t' σ H Q → t σ H Q) : PE X e t' := ⟨fun pins s σ H Q I q => h.run pins s σ H Q I (i _ _ _ q)⟩
theorem ptI {t t' : TT} (h : PT X e t) (i : ∀ σ H Q, t' σ H Q → t σ H Q) : PT X e t' := ⟨fun pins s σ H Q I q => h.run pins s σ H Q I (i _ _ _ q)⟩
theorem psI {t t' : TS} (h : PS X st t) (i : ∀ D σ H, t' D σ H → t D σ H) : PS X st t' := ⟨fun pins s σ H D I q => h.run pins s σ H D I (i _ _ _ q)⟩
theorem callI {f : Value} {r r' : List V → Hp → VK → Prop} (h : CallR X f r) (i : ∀ xs H Q, r' xs H Q → r xs H Q) : CallR X f r' := fun pins s σ H xs us Q I v q => h pins s σ H xs us Q I v (i _ _ _ q)
theorem mtI {f : String} {r r' : V → List V → Hp → VK → Prop} (h : MtR X f r) (i : ∀ x xs H Q, r' x xs H Q → r x xs H Q) : MtR X f r' := fun pins s σ H x xs v us Q I a b q => h pins s σ H x xs v us Q I a b (i _ _ _ _ q)
theorem oprI {f : Value → Value → Sem Value} {r r' : R2} (h : OpR X f r) (i : ∀ x y H Q, r' x y H Q → r x y H Q) : OpR X f r' := fun pins s σ H x y v u Q I a b q => h pins s σ H x y v u Q I a b (i _ _ _ _ q)
theorem slrI {r r' : V → Option Int → Option Int → Hp → VK → Prop} (h : SlR X r) (i : ∀ x lo hi H Q, r' x lo hi H Q → r x lo hi H Q) : SlR X r' := fun pins s σ H x v vl vu lo hi sl Q I a b c d q => h pins s σ H x v vl vu lo hi sl Q I a b c d (i _ _ _ _ _ q)
theorem psetI {t t' : TSet} (h : PSet X t) (i : ∀ o i v H Q, t' o i v H Q → t o i v H Q) : PSet X t' := fun pins s σ H o j v ov iv u Q I a b c q => h pins s σ H o j v ov iv u Q I a b c (i _ _ _ _ _ q)

/-- a new object u, told by what is kept -/
def New (H : Hp) (u : HO) (Q : VK) : Prop := ∀ p H2, H p = none → Kp [] H H2 → H2 p = some u → Q (.ref p) H2
theorem New.old {H : Hp} {u : HO} {Q : VK} (h : New H u Q) : ∀ p, H p = none → Q (.ref p) (upd H p u) := fun p hp => h p _ hp (Kp.new hp) upd_same
/-- the object at p is now u -/
def Wr (H : Hp) (p : Addr) (u : HO) (Q : Hp → Prop) : Prop := ∀ H2, Kp [p] H H2 → H2 p = some u → Q H2
theorem Wr.old {H : Hp} {p : Addr} {u o : HO} {Q : Hp → Prop} (h : Wr H p u Q) (e : H p = some o) (nt : NT o) : Q (upd H p u) := h _ (Kp.old e nt List.mem_cons_self) upd_same

def kTup (t : TA) : TE := fun σ H Q => t σ H fun xs H1 => xs.length ≤ sizeLine ∧ New H1 (.tup xs) Q
def kLst (t : TA) : TE := fun σ H Q => t σ H fun xs H1 => xs.length ≤ sizeLine ∧ New H1 (.lst xs) Q
theorem ke_tup {x1} {t : TA} (h : PA X es t) : PE X (.Tuple es x1 pos) (kTup t) := peI (pe_tup (paM h)) fun σ H Q q => ⟨_, q, fun xs H1 r => ⟨r.1, r.2.old⟩⟩
theorem ke_lst {t : TA} (h : PA X es t) : PE X (.List es pos) (kLst t) := peI (pe_lst (paM h)) fun σ H Q q => ⟨_, q, fun xs H1 r => ⟨r.1, r.2.old⟩⟩
def kList (K : PySem.W.Frag) : List V → Hp → VK → Prop := fun xs H Q => ∃ p ys, xs = [.ref p] ∧ (SqL K H p ys ∨ SqT K H p ys) ∧ New H (.lst ys) Q
theorem klistK {K : PySem.W.Frag} (h : X.K = K := by rfl) : CallR X (.type "list") (kList K) := callI (listK h) fun xs H Q ⟨p, ys, a, b, c⟩ => ⟨p, ys, a, b, c.old⟩
def kTuple (K : PySem.W.Frag) : List V → Hp → VK → Prop := fun xs H Q => ∃ p ys, xs = [.ref p] ∧ ((SqL K H p ys ∧ New H (.tup ys) Q) ∨ (SqT K H p ys ∧ Q (.ref p) H))
theorem ktupleK {K : PySem.W.Frag} (h : X.K = K := by rfl) : CallR X (.type "tuple") (kTuple K) := callI (tupleK h) fun xs H Q ⟨p, ys, a, b⟩ => ⟨p, ys, a, b.elim (fun z => .inl ⟨z.1, z.2.old⟩) .inr⟩
def kSlL (K : PySem.W.Frag) : V → Option Int → Option Int → Hp → VK → Prop := fun x lo hi H Q => ∃ a xs, x = .ref a ∧ SqL K H a xs ∧ New H (.lst (cutV xs lo hi)) Q
theorem kslL {K : PySem.W.Frag} (h : X.K = K := by rfl) : SlR X (kSlL K) := slrI (slL h) fun x lo hi H Q ⟨a, xs, e, b, c⟩ => ⟨a, xs, e, b, c.old⟩
def kSlT (K : PySem.W.Frag) : V → Option Int → Option Int → Hp → VK → Prop := fun x lo hi H Q => ∃ a xs, x = .ref a ∧ SqT K H a xs ∧
  ¬ (HT.sIx xs.length 0 lo = 0 ∧ HT.sIx xs.length xs.length hi = xs.length) ∧ New H (.tup (cutV xs lo hi)) Q
theorem kslT {K : PySem.W.Frag} (h : X.K = K := by rfl) : SlR X (kSlT K) := slrI (slT h) fun x lo hi H Q ⟨a, xs, e, b, n, c⟩ => ⟨a, xs, e, b, n, c.old⟩
def kCat : R2 := fun x y H Q => ∃ l b xs zs, x = .ref l ∧ y = .ref b ∧ H l = some (.lst xs) ∧ H b = some (.lst zs) ∧ xs.length + zs.length ≤ sizeLine ∧ New H (.lst (xs ++ zs)) Q
theorem kcat : OpR X (binaryOp .Add) kCat := oprI op_cat fun x y H Q ⟨l, b, xs, zs, h1, h2, h3, h4, h5, q⟩ => ⟨l, b, xs, zs, h1, h2, h3, h4, h5, q.old⟩
def kRep : R2 := fun x y H Q => ∃ l k xs, x = .ref l ∧ y = .int k ∧ H l = some (.lst xs) ∧ -(2 ^ 63) ≤ k ∧ k < 2 ^ 63 ∧ xs.length * k.toNat ≤ sizeLine ∧ New H (.lst (List.replicate k.toNat xs).flatten) Q
theorem krep : OpR X (binaryOp .Mult) kRep := oprI op_rep fun x y H Q ⟨l, k, xs, h1, h2, h3, h4, h5, h6, q⟩ => ⟨l, k, xs, h1, h2, h3, h4, h5, h6, q.old⟩
def kCatT (K : PySem.W.Frag) : R2 := fun x y H Q => ∃ a b xs ys, x = .ref a ∧ y = .ref b ∧ SqT K H a xs ∧ SqT K H b ys ∧ xs ≠ [] ∧ xs.length + ys.length ≤ sizeLine ∧
  (ys = [] → Q (.ref a) H) ∧ (ys ≠ [] → New H (.tup (xs ++ ys)) Q)
theorem kcatT {K : PySem.W.Frag} (h : X.K = K := by rfl) : OpR X (binaryOp .Add) (kCatT K) := by
  subst h
  exact oprI op_catT fun x y H Q ⟨a, b, xs, ys, h1, h2, h3, h4, h5, h6, h7, q⟩ => ⟨a, b, xs, ys, h1, h2, h3, h4, h5, h6, h7, fun z => (q z).old⟩
def kAppend : V → List V → Hp → VK → Prop := fun x vs H Q => ∃ l xs y, x = .ref l ∧ vs = [y] ∧ H l = some (.lst xs) ∧ xs.length < sizeLine ∧ Wr H l (.lst (xs ++ [y])) (Q .non)
theorem mk_append : MtR X "list.append" kAppend := mtI mt_append fun x xs H Q ⟨l, ys, y, h1, h2, h3, h4, q⟩ => ⟨l, ys, y, h1, h2, h3, h4, q.old h3 trivial⟩
def kExtend : V → List V → Hp → VK → Prop := fun x vs H Q => ∃ l b xs zs, x = .ref l ∧ vs = [.ref b] ∧ H l = some (.lst xs) ∧ H b = some (.lst zs) ∧ xs.length + zs.length ≤ sizeLine ∧ Wr H l (.lst (xs ++ zs)) (Q .non)
theorem mk_extend : MtR X "list.extend" kExtend := mtI mt_extend fun x xs H Q ⟨l, b, ys, y, h1, h2, h3, h4, h5, q⟩ => ⟨l, b, ys, y, h1, h2, h3, h4, h5, q.old h3 trivial⟩
def kPop : V → List V → Hp → VK → Prop := fun x vs H Q => ∃ l xs y, x = .ref l ∧ vs = [] ∧ H l = some (.lst xs) ∧ xs[xs.length - 1]? = some y ∧ Wr H l (.lst xs.dropLast) (Q y)
theorem mk_pop : MtR X "list.pop" kPop := mtI mt_pop fun x xs H Q ⟨l, ys, y, h1, h2, h3, h4, q⟩ => ⟨l, ys, y, h1, h2, h3, h4, q.old h3 trivial⟩
def kPopAt : V → List V → Hp → VK → Prop := fun x vs H Q => ∃ l xs i k y, x = .ref l ∧ vs = [.int i] ∧ H l = some (.lst xs) ∧ -(2 ^ 63) ≤ i ∧ i < 2 ^ 63 ∧ seqIndex? i xs.length = some k ∧ xs[k]? = some y ∧ Wr H l (.lst (xs.eraseIdx k)) (Q y)
theorem mk_popAt : MtR X "list.pop" kPopAt := mtI mt_popAt fun x xs H Q ⟨l, ys, i, k, y, h1, h2, h3, h4, h5, h6, h7, q⟩ => ⟨l, ys, i, k, y, h1, h2, h3, h4, h5, h6, h7, q.old h3 trivial⟩
def kClear : V → List V → Hp → VK → Prop := fun x vs H Q => ∃ l xs, x = .ref l ∧ vs = [] ∧ H l = some (.lst xs) ∧ Wr H l (.lst []) (Q .non)
theorem mk_clear : MtR X "list.clear" kClear := mtI mt_clear fun x xs H Q ⟨l, ys, h1, h2, h3, q⟩ => ⟨l, ys, h1, h2, h3, q.old h3 trivial⟩
def kSetL : V → V → V → Hp → (Hp → Prop) → Prop := fun o i v H Q => ∃ p xs k j, o = .ref p ∧ i = .int k ∧ H p = some (.lst xs) ∧ ixN xs.length k = some j ∧ Wr H p (.lst (xs.set j v)) Q
theorem kset_list : PSet X kSetL := psetI set_list fun o i v H Q ⟨p, xs, k, j, h1, h2, h3, h4, q⟩ => ⟨p, xs, k, j, h1, h2, h3, h4, q.old h3 trivial⟩
def kFld (K : PySem.W.Frag) (ta tv : TE) (f : Str) : TS := fun D σ H => tv σ H fun y H1 => ta σ H1 fun x H2 => ∃ a C dx fs, x = .ref a ∧ H2 a = some (.ins C dx fs) ∧ Cls K C ∧ NoAttr K C f ∧ fs.length < 1000 ∧
  Wr H2 a (.ins C dx (putF f y fs)) (D.nx σ)
theorem ks_fld {K : PySem.W.Frag} {o value : Expr} {f : Str} {pos' : Pos} {ta tv : TE} (ha : PE X o ta) (hv : PE X value tv) (hs : swapsWith value (some (.Attribute o f pos')) pos.line X.env = pure false) (h : X.K = K := by rfl) : PS X (.Assign [.Attribute o f pos'] value pos) (kFld K ta tv f) := by
  subst h
  refine psI (ps_fld (peM ha) (peM hv) hs) fun D σ H q => ⟨_, q, fun y H1 r => ⟨_, r, fun x H2 ⟨a, C, dx, fs, h1, h2, h3, h4, h5, q⟩ => ⟨a, C, dx, fs, h1, h2, h3, h4, h5, q.old h2 trivial⟩⟩⟩
def kFldAug (K : PySem.W.Frag) (ta tv : TE) (rd : V → V → Hp → VK → Prop) (f : Str) : TS := fun D σ H => ta σ H fun x H1 => ∃ a C dx fs v, x = .ref a ∧ H1 a = some (.ins C dx fs) ∧ Cls K C ∧ NoAttr K C f ∧ fs.lookup f = some v ∧
  tv σ H1 fun y H2 => rd v y H2 fun z H3 => ∃ dx' fs', H3 a = some (.ins C dx' fs') ∧ fs'.length < 1000 ∧ Wr H3 a (.ins C dx' (putF f z fs')) (D.nx σ)
def mR (r : V → V → Hp → VK → Prop) : V → V → Hp → VK → Prop := fun x y H Q => ∃ R : VK, r x y H R ∧ ∀ z H1, R z H1 → Q z H1
theorem inM {op : Operator} {rd : V → V → Hp → VK → Prop} (h : InOp X op rd) : InOp X op (mR rd) := fun pins s σ H x y u v Q I a b ⟨R, h1, h2⟩ => thn (h pins s σ H x y u v R I a b h1) fun _ _ ⟨v, H', J, r, q⟩ => ⟨v, H', J, r, h2 _ _ q⟩
theorem ks_fldaug {K : PySem.W.Frag} {o value : Expr} {f : Str} {tpos : Pos} {ta tv : TE} {op : Operator} {rd : V → V → Hp → VK → Prop} (ha : PE X o ta) (hv : PE X value tv) (hop : InOp X op rd) (h : X.K = K := by rfl) : PS X (.AugAssign (.Attribute o f tpos) op value pos) (kFldAug K ta tv rd f) := by
  subst h
  refine psI (ps_fldaug (peM ha) (peM hv) (inM hop)) fun D σ H q => ⟨_, q, fun x H1 ⟨a, C, dx, fs, v, h1, h2, h3, h4, h5, q⟩ => ⟨a, C, dx, fs, v, h1, h2, h3, h4, h5, _, q, fun y H2 q => ⟨_, q, fun z H3 ⟨dx', fs', h1, h2, q⟩ => ⟨dx', fs', h1, h2, q.old h1 trivial⟩⟩⟩⟩
def kMake (C : Addr) (sp : Sp) (t : TA) : TE := fun σ H Q => t σ H fun vs H1 => ∀ x dx H2, H1 x = none → Kp [] H1 H2 → H2 x = some (.ins C dx []) → sp (.ref x :: vs) H2 (fun v H3 => v = .non ∧ Q (.ref x) H3) L2.E0
theorem kMake.old {C : Addr} {sp : Sp} {vs : List V} {H1 : Hp} {Q : VK} (h : ∀ x dx H2, H1 x = none → Kp [] H1 H2 → H2 x = some (.ins C dx []) → sp (.ref x :: vs) H2 (fun v H3 => v = .non ∧ Q (.ref x) H3) L2.E0) :
    ∀ x dx, H1 x = none → H1 dx = none → dx ≠ x → sp (.ref x :: (vs ++ [])) (upd (upd H1 dx (.own x)) x (.ins C dx [])) (fun v H2 => v = .non ∧ Q (.ref x) H2) L2.E0 := fun x dx hx hdx hne => by
  rw [List.append_nil]
  exact h x dx _ hx ((Kp.new hdx).own hx) upd_same
theorem ke_mk {k : Nat} {x : Str} {C : Addr} {sp : Sp} {p : Pos} {t : TA} (c : Mak X.prog X.w X.K X.mg X.base k x C sp) (hr : Room (k + 1) X.A) (hg : Gl X x) (ha : PA X (e :: es) t)
    (hdb : (x == ("__debug__" : Str)) = false := by decide) (he : starEach (e :: es) X.env = (false, eval e X.env) :: starEach es X.env := by rfl) (hpl : (backTo pos (starEach es X.env)).any (·.1) = false := by rfl) :
    PE X (.Call (.Name x p) (e :: es) [] pos) (kMake C sp t) := peI (pe_mk c hr hg (paM ha) hdb he hpl) fun σ H Q q => ⟨_, q, fun vs H1 r => kMake.old r⟩
theorem ke_mk0 {k : Nat} {x : Str} {C : Addr} {sp : Sp} {p : Pos} (c : Mak X.prog X.w X.K X.mg X.base k x C sp) (hr : Room (k + 1) X.A) (hg : Gl X x)
    (hdb : (x == ("__debug__" : Str)) = false := by decide) : PE X (.Call (.Name x p) [] [] pos) (kMake C sp tNil) := peI (pe_mk0 c hr hg hdb) fun σ H Q q => kMake.old q
end
/-! ### comprehensions: what the made list holds (acc) apart from the rest -/
def mI (t : TI) : TI := fun σ H Q => ∃ R : It → Hp → Prop, t σ H R ∧ ∀ x H1, R x H1 → Q x H1
def mG (t : TG) : TG := fun v σ H Q => ∃ R : L2.St → Hp → Prop, t v σ H R ∧ ∀ x H1, R x H1 → Q x H1
def mT (t : TT) : TT := fun σ H Q => ∃ R : Bool → Hp → Prop, t σ H R ∧ ∀ x H1, R x H1 → Q x H1
section
variable {X : Cx}
theorem piM {tg iter : Expr} {t : TI} (h : PI X tg iter t) : PI X tg iter (mI t) := ⟨fun pins s σ H Q I ⟨R, h1, h2⟩ => thn (h.run pins s σ H R I h1) fun _ _ q => thn q fun _ _ ⟨it, fp, tn, J, H', a, b, c, d, e, r⟩ => ⟨it, fp, tn, J, H', a, b, c, d, e, h2 _ _ r⟩⟩
theorem pgM {tg : Expr} {t : TG} (h : PG X tg t) : PG X tg (mG t) := ⟨fun pins s σ H v u Q I r ⟨R, h1, h2⟩ => thn (h.run pins s σ H v u R I r h1) fun _ _ ⟨σ', H', J, q⟩ => ⟨σ', H', J, h2 _ _ q⟩⟩
theorem ptsM {ifs : List Expr} {t : TT} (h : PTs X ifs t) : PTs X ifs (mT t) := ⟨fun pins s σ H Q I ⟨R, h1, h2⟩ => thn (h.run pins s σ H R I h1) fun _ _ ⟨H', J, q⟩ => ⟨H', J, h2 _ _ q⟩⟩
end
/-- behind an element: y goes to the list at D -/
def Put (D : Addr) (acc : List V) (Nx : List V → Hp → Prop) (y : V) (H4 : Hp) : Prop := H4 D = some (.lst acc) ∧ acc.length < sizeLine ∧ ∀ H5, Kp [D] H4 H5 → H5 D = some (.lst (acc ++ [y])) → Nx (acc ++ [y]) H5
/-- one turn of a comprehension -/
def Turn1 (g : TG) (tt : TT) (te : TE) (vs : List Nat) (σ : L2.St) (D : Addr) (acc : List V) (Nx : List V → Hp → Prop) (x : V) (H' : Hp) : Prop :=
  g x (wipe σ vs) H' fun σ2 H2 => wipe σ2 vs = wipe σ vs ∧ tt σ2 H2 fun b H3 => if b = true then te σ2 H3 (Put D acc Nx) else H3 D = some (.lst acc) ∧ Nx acc H3
def kLcW (g : TG) (tt : TT) (te : TE) (vs : List Nat) (σ : L2.St) (J : It) (D : Addr) (H1' : Hp) (Qd : Hp → Prop) : Prop := ∃ W : Nat → Nat → List V → Hp → Prop, (∃ m, W 0 m [] H1') ∧ ∀ i m acc H, H D = some (.lst acc) → W i m acc H →
  (J.stop i H ∧ Qd H) ∨ (J.go i H ∧ ∃ Nx : List V → Hp → Prop, (∀ acc H', Nx acc H' → ∃ m', m' < m ∧ W (i + 1) m' acc H') ∧ ∀ x H', J.yld i H x H' → Turn1 g tt te vs σ D acc Nx x H')
def kLc (wi : TI) (g : TG) (tt : TT) (te : TE) (vs : List Nat) : TE := fun σ H Q => wi σ H fun J H1 => ∀ D H1', H1 D = none → Kp [] H1 H1' → H1' D = some (.lst []) → kLcW g tt te vs σ J D H1' (Q (.ref D))
theorem kLc.old {wi : TI} {g : TG} {tt : TT} {te : TE} {vs : List Nat} {σ : L2.St} {H : Hp} {Q : VK} (h : kLc wi g tt te vs σ H Q) : tLc (mI wi) (mG g) (mT tt) (mE te) vs σ H Q := by
  refine ⟨_, h, fun J H1 r D hD => ?_⟩
  obtain ⟨W, ⟨m, w0⟩, turn⟩ := r D _ hD (Kp.new hD) upd_same
  refine ⟨fun i m H => ∃ acc, H D = some (.lst acc) ∧ W i m acc H, ⟨m, [], upd_same, w0⟩, ?_⟩
  rintro i m H ⟨acc, hD, w⟩
  rcases turn i m acc H hD w with ⟨a, b⟩ | ⟨go, Nx, hN, step⟩
  · exact .inl ⟨a, b⟩
  · refine .inr ⟨go, fun H' => ∃ acc, H' D = some (.lst acc) ∧ Nx acc H', fun H' ⟨acc', h1, h2⟩ => let ⟨m', a, b⟩ := hN acc' H' h2; ⟨m', a, acc', h1, b⟩, fun x H' y => ?_⟩
    refine ⟨_, step x H' y, fun σ2 H2 ⟨e, t⟩ => ⟨e, _, t, fun b H3 q => ?_⟩⟩
    cases b with
    | true =>
      refine iteT ?_
      refine ⟨_, (show te σ2 H3 (Put D acc Nx) from q), fun y H4 ⟨h1, h2, h3⟩ => ⟨acc, h1, h2, _, upd_same, h3 _ (Kp.old h1 trivial List.mem_cons_self) upd_same⟩⟩
    | false => exact iteF ⟨acc, q⟩
section
variable {X : Cx}
theorem ke_lc {elt tg iter : Expr} {ifs : List Expr} {scope : Scope} {own : List (Str × Nat)} {pos : Pos} {wi : TI} {g : TG} {tt : TT} {te : TE} (hc : X.calm = true) (hN : X.N.Nodup) (hi : PI X tg iter wi) (ok : BlkOk X.N X.env.scope scope own)
    (hg : ∀ (s : Shared) (H : Hp) (C : Addr) (cl : List (Str × Addr)) (fp : List Addr), PG (X.blk s H scope (compEnvC scope cl C X.env) fp) tg g) (ht : ∀ (s : Shared) (H : Hp) (C : Addr) (cl : List (Str × Addr)) (fp : List Addr), PTs (X.blk s H scope (compEnvC scope cl C X.env) fp) ifs tt)
    (he : ∀ (s : Shared) (H : Hp) (C : Addr) (cl : List (Str × Addr)) (fp : List Addr), PE (X.blk s H scope (compEnvC scope cl C X.env) fp) elt te) (hs : ∀ x, foldedSetIterable iter X.env x = pure x := by intro _; rfl) :
    PE X (.ListComp elt [⟨tg, iter, ifs, 0⟩] scope pos) (kLc wi g tt te (own.map (·.2))) :=
  peI (pe_lc hc hN (piM hi) ok (fun a b c d e => pgM (hg a b c d e)) (fun a b c d e => ptsM (ht a b c d e)) (fun a b c d e => peM (he a b c d e)) hs) fun σ H Q q => kLc.old q
theorem ks_setLc {i : Nat} {y : Str} {py : Pos} {elt tg iter : Expr} {ifs : List Expr} {scope : Scope} {own : List (Str × Nat)} {pos spos : Pos} {wi : TI} {g : TG} {tt : TT} {te : TE} (hc : X.calm = true) (hN : X.N.Nodup) (hy : X.N[i]? = some y) (hyl : X.env.scope.names.lookup y = some .local)
    (hsw : swapsWith (.ListComp elt [⟨tg, iter, ifs, 0⟩] scope pos) (some (.Name y py)) spos.line X.env = pure true) (hi : PI X tg iter wi) (ok : BlkOk X.N X.env.scope scope own)
    (hg : ∀ (s : Shared) (H : Hp) (C : Addr) (cl : List (Str × Addr)) (fp : List Addr), PG (X.blk s H scope (compEnvC scope cl C X.env) fp) tg g) (ht : ∀ (s : Shared) (H : Hp) (C : Addr) (cl : List (Str × Addr)) (fp : List Addr), PTs (X.blk s H scope (compEnvC scope cl C X.env) fp) ifs tt)
    (he : ∀ (s : Shared) (H : Hp) (C : Addr) (cl : List (Str × Addr)) (fp : List Addr), PE (X.blk s H scope (compEnvC scope cl C X.env) fp) elt te) (hs : ∀ x, foldedSetIterable iter X.env x = pure x := by intro _; rfl) :
    PS X (.Assign [.Name y py] (.ListComp elt [⟨tg, iter, ifs, 0⟩] scope pos) spos) (tAsg (kLc wi g tt te (own.map (·.2))) (gName i)) :=
  psI (ps_setLc hc hN hy hyl hsw (piM hi) ok (fun a b c d e => pgM (hg a b c d e)) (fun a b c d e => ptsM (ht a b c d e)) (fun a b c d e => peM (he a b c d e)) hs) fun D σ H q => kLc.old q
end
section
variable {K : PySem.W.Frag} {a : Addr} {xs : List V} {g : TG} {tt : TT} {te : TE} {vs : List Nat} {σ : L2.St} {H1 : Hp} {D : Addr} {Qd : Hp → Prop}
theorem kl_list (Pv : Nat → List V → Hp → Prop) (h0 : Pv 0 [] H1) (hl : ∀ i acc H, Pv i acc H → SqL K H a xs)
    (hs : ∀ i x acc H, xs[i]? = some x → H D = some (.lst acc) → Pv i acc H → Turn1 g tt te vs σ D acc (Pv (i + 1)) x H) (hd : ∀ acc H, H D = some (.lst acc) → Pv xs.length acc H → Qd H) : kLcW g tt te vs σ (Itl K a) D H1 Qd := by
  refine ⟨fun i m acc H => m = xs.length - i ∧ i ≤ xs.length ∧ Pv i acc H, ⟨xs.length, by simp, Nat.zero_le _, h0⟩, ?_⟩
  rintro i m acc H hD ⟨rfl, hi, p⟩
  have q := hl i acc H p
  by_cases hlt : i < xs.length
  · refine .inr ⟨⟨xs, xs[i], q, by simp [hlt]⟩, Pv (i + 1), fun acc H' p' => ⟨xs.length - (i + 1), by omega, rfl, hlt, p'⟩, fun x H' y => ?_⟩
    obtain ⟨e, y⟩ := y
    subst e
    exact hs i x acc _ (y xs q) hD p
  · have e : i = xs.length := by omega
    subst e
    exact .inl ⟨⟨xs, q, Nat.le_refl _⟩, hd acc H hD p⟩
theorem kl_tup (Pv : Nat → List V → Hp → Prop) (h0 : Pv 0 [] H1) (hl : ∀ i acc H, Pv i acc H → SqT K H a xs)
    (hs : ∀ i x acc H, xs[i]? = some x → H D = some (.lst acc) → Pv i acc H → Turn1 g tt te vs σ D acc (Pv (i + 1)) x H) (hd : ∀ acc H, H D = some (.lst acc) → Pv xs.length acc H → Qd H) : kLcW g tt te vs σ (Itt K a) D H1 Qd := by
  refine ⟨fun i m acc H => m = xs.length - i ∧ i ≤ xs.length ∧ Pv i acc H, ⟨xs.length, by simp, Nat.zero_le _, h0⟩, ?_⟩
  rintro i m acc H hD ⟨rfl, hi, p⟩
  have q := hl i acc H p
  by_cases hlt : i < xs.length
  · refine .inr ⟨⟨xs, xs[i], q, by simp [hlt]⟩, Pv (i + 1), fun acc H' p' => ⟨xs.length - (i + 1), by omega, rfl, hlt, p'⟩, fun x H' y => ?_⟩
    obtain ⟨e, y⟩ := y
    subst e
    exact hs i x acc _ (y xs q) hD p
  · have e : i = xs.length := by omega
    subst e
    exact .inl ⟨⟨xs, q, Nat.le_refl _⟩, hd acc H hD p⟩
theorem kl_range {lo : Int} {n : Nat} (Pv : Nat → List V → Hp → Prop) (h0 : Pv 0 [] H1)
    (hs : ∀ i acc H, i < n → H D = some (.lst acc) → Pv i acc H → Turn1 g tt te vs σ D acc (Pv (i + 1)) (.int (lo + i)) H) (hd : ∀ acc H, H D = some (.lst acc) → Pv n acc H → Qd H) : kLcW g tt te vs σ (Itr lo n) D H1 Qd := by
  refine ⟨fun i m acc H => m = n - i ∧ i ≤ n ∧ Pv i acc H, ⟨n, by simp, Nat.zero_le _, h0⟩, ?_⟩
  rintro i m acc H hD ⟨rfl, hi, p⟩
  by_cases hlt : i < n
  · refine .inr ⟨hlt, Pv (i + 1), fun acc H' p' => ⟨n - (i + 1), by omega, rfl, hlt, p'⟩, fun x H' y => ?_⟩
    obtain ⟨e, y⟩ := y
    subst e y
    exact hs i acc _ hlt hD p
  · have e : i = n := by omega
    subst e
    exact .inl ⟨Nat.le_refl _, hd acc H hD p⟩
end
end MD

namespace MD
open PySem PySem.Spec PyProof.Rows L2
/-! ### more of what is kept; tuples of numbers -/
theorem Kp.then' {M M' : List Addr} {H0 H H5 : Hp} (k : Kp M H0 H) (k' : Kp M' H H5) (h : ∀ a, a ∈ M' → a ∈ M ∨ H0 a = none) : Kp M H0 H5 := by
  refine ⟨fun b o e n => k'.keep b o (k.keep b o e n) fun z => ?_, fun b xs e => k'.tup b xs (k.tup b xs e), fun b o e => let ⟨o', e'⟩ := k.live b o e; k'.live b o' e'⟩
  rcases h b z with q | q
  · exact n q
  · rw [q] at e; cases e
theorem Kp.th0 {M : List Addr} {H0 H H5 : Hp} (k : Kp M H0 H) (k' : Kp [] H H5) : Kp M H0 H5 := k.then' k' fun _ z => nomatch z
theorem Kp.put {M : List Addr} {H0 H H5 : Hp} {p : Addr} (k : Kp M H0 H) (k' : Kp [p] H H5) (h : H0 p = none) : Kp M H0 H5 := k.then' k' fun a z => .inr (by rw [List.mem_singleton.mp z]; exact h)
theorem Kp.putM {M : List Addr} {H0 H H5 : Hp} {p : Addr} (k : Kp M H0 H) (k' : Kp [p] H H5) (h : p ∈ M) : Kp M H0 H5 := k.then' k' fun a z => .inl (by rw [List.mem_singleton.mp z]; exact h)
theorem Kp.nil {M : List Addr} {H H' : Hp} (k : Kp [] H H') : Kp M H H' := k.mono fun _ z => nomatch z
def intD (rs : List Int) : List D := rs.map fun r => D.v (.int r)
theorem ints_rep {H : Hp} : ∀ rs : List Int, RepTs H (intD rs) (rs.map V.int)
  | [] => RepTs.nil
  | _ :: r => RepTs.cons RepT.int (ints_rep r)
theorem ints_of {H : Hp} : ∀ {rs : List Int} {vs : List V}, RepTs H (intD rs) vs → vs = rs.map V.int
  | [], vs, h => by unfold intD RepTs at h; exact h
  | a :: r, vs, h => by
    unfold intD at h
    rw [List.map_cons] at h
    unfold RepTs at h
    obtain ⟨v, w, rfl, h1, h2⟩ := h
    unfold RepT at h1
    obtain ⟨rfl, _⟩ := h1
    rw [ints_of (rs := r) h2]; rfl
/-- a tuple of data, opened -/
theorem RepT.tupE {H : Hp} {l : Bool} {ds : List D} {x : V} (h : RepT H (.sq l ds) x) : ∃ a vs, x = .ref a ∧ H a = some (.tup vs) ∧ RepTs H ds vs := by
  unfold RepT at h
  obtain ⟨_, h⟩ := h
  exact h
theorem RepT.tupI {H : Hp} {rs : List Int} {x : V} (h : RepT H (.sq false (intD rs)) x) : ∃ a, x = .ref a ∧ H a = some (.tup (rs.map V.int)) := by
  obtain ⟨a, vs, e, h1, h2⟩ := h.tupE
  rw [ints_of h2] at h1
  exact ⟨a, e, h1⟩
theorem RepT.tupI' {H : Hp} {rs : List Int} {a : Addr} (h : H a = some (.tup (rs.map V.int))) : RepT H (.sq false (intD rs)) (.ref a) := RepT.tup h (ints_rep rs)
theorem RepTs.consE {H : Hp} {d : D} {ds : List D} {vs : List V} (h : RepTs H (d :: ds) vs) : ∃ v r, vs = v :: r ∧ RepT H d v ∧ RepTs H ds r := by unfold RepTs at h; exact h
theorem RepTs.nilE {H : Hp} {vs : List V} (h : RepTs H [] vs) : vs = [] := by unfold RepTs at h; exact h
theorem RepT.intE {H : Hp} {i : Int} {x : V} (h : RepT H (.v (.int i)) x) : x = .int i := by unfold RepT at h; exact h.1
theorem RepT.vE {H : Hp} {y : V} {x : V} (h : RepT H (.v y) x) : x = y := by unfold RepT at h; exact h.1
theorem at_mem (zs : List Int) {i : Int} (h0 : 0 ≤ i) (h1 : i < zs.length) : ∃ z, atI (zs.map V.int) i = some (.int z) ∧ z ∈ zs := by
  have hl : i.toNat < zs.length := by omega
  exact ⟨zs[i.toNat], int_at h0 (by simp [hl]), List.getElem_mem hl⟩
theorem md (z : Int) (n : Int) (h : 0 < n) : 0 ≤ z % n ∧ z % n < n := ⟨Int.emod_nonneg _ (by omega), Int.emod_lt_of_pos _ h⟩
/-- an inn: rooms, nights, sellers, prices, share -/
structure Su where
  rooms : List Int
  nights : Int
  sellers : Int
  prices : List (List Int)
  share : Int
structure Su.ok (s : Su) : Prop where
  r1 : 1 ≤ s.rooms.length
  r3 : s.rooms.length ≤ 3
  rr : ∀ r ∈ s.rooms, 0 ≤ r ∧ r ≤ 4
  n1 : 1 ≤ s.nights
  n12 : s.nights ≤ 12
  s1 : 1 ≤ s.sellers
  s4 : s.sellers ≤ 4
  pl : s.prices.length = s.rooms.length
  pr : ∀ r ∈ s.prices, (r.length : Int) = s.nights ∧ ∀ p ∈ r, 0 ≤ p ∧ p ≤ 1000000
  h0 : 0 ≤ s.share
  h100 : s.share ≤ 100
def suD (s : Su) : D := .sq false [.sq false (intD s.rooms), .v (.int s.nights), .v (.int s.sellers), .sq false (s.prices.map fun r => .sq false (intD r)), .v (.int s.share)]
/-- the tuple of an inn's setup, opened -/
structure SuAt (H : Hp) (a r p : Addr) (s : Su) : Prop where
  ha : H a = some (.tup [.ref r, .int s.nights, .int s.sellers, .ref p, .int s.share])
  hr : H r = some (.tup (s.rooms.map V.int))
  hp : ∃ ps, H p = some (.tup ps) ∧ RepTs H (s.prices.map fun r => D.sq false (intD r)) ps
theorem SuAt.kp {M : List Addr} {H H' : Hp} {a r p : Addr} {s : Su} (h : SuAt H a r p s) (k : Kp M H H') : SuAt H' a r p s :=
  ⟨k.tup _ _ h.ha, k.tup _ _ h.hr, h.hp.elim fun ps q => ⟨ps, k.tup _ _ q.1, q.2.kp k⟩⟩
theorem SuAt.rep {H : Hp} {a r p : Addr} {s : Su} (h : SuAt H a r p s) : RepT H (suD s) (.ref a) := by
  obtain ⟨ps, h1, h2⟩ := h.hp
  exact RepT.tup h.ha (RepTs.cons (RepT.tupI' h.hr) (RepTs.cons RepT.int (RepTs.cons RepT.int (RepTs.cons (RepT.tup h1 h2) (RepTs.cons RepT.int RepTs.nil)))))
/-- prices[k]: a row -/
theorem SuAt.row {H : Hp} {a r p : Addr} {s : Su} (h : SuAt H a r p s) {k : Nat} {row : List Int} (e : s.prices[k]? = some row) : ∃ ps q, H p = some (.tup ps) ∧ ps[k]? = some (.ref q) ∧ H q = some (.tup (row.map V.int)) := by
  obtain ⟨ps, h1, h2⟩ := h.hp
  have hl : ps.length = s.prices.length := by rw [h2.len, List.length_map]
  obtain ⟨hk, _⟩ := List.getElem?_eq_some_iff.mp e
  have e1 : ps[k]? = some (ps[k]'(by omega)) := by simp [show k < ps.length by omega]
  obtain ⟨d, hd, rd⟩ := h2.get e1
  rw [List.getElem?_map, e] at hd
  cases hd
  obtain ⟨q, eq, hq⟩ := rd.tupI
  exact ⟨ps, q, h1, by rw [e1, eq], hq⟩
theorem turn1 {te : TE} {vs : List Nat} {σ : L2.St} {D : Addr} {acc : List V} {Nx : List V → Hp → Prop} {x : V} {H : Hp} {i : Nat} (hw : wipe ((wipe σ vs).set i (some x)) vs = wipe σ vs) (h : te ((wipe σ vs).set i (some x)) H (Put D acc Nx)) :
    Turn1 (gName i) tYes te vs σ D acc Nx x H := by
  refine ⟨hw, ?_⟩
  show (if true = true then te ((wipe σ vs).set i (some x)) H (Put D acc Nx) else H D = some (.lst acc) ∧ Nx acc H)
  exact iteT h
end MD

namespace MD
open PySem PySem.Spec PyProof.Rows L2
/-! ### stays and parties -/
abbrev Sy := Int × Int × Int
def syI (s : Sy) : List Int := [s.1, s.2.1, s.2.2]
def syD (s : Sy) : D := .sq false (intD (syI s))
def ptD (p : List Sy) : D := .sq false (p.map syD)
structure Sy.ok (su : Su) (s : Sy) : Prop where
  k0 : 0 ≤ s.1
  k1 : s.1 < su.rooms.length
  f0 : 0 ≤ s.2.1
  fe : s.2.1 < s.2.2
  e1 : s.2.2 ≤ su.nights
/-- not later, by kind, first night, end -/
def Sy.le (a b : Sy) : Prop := a.1 < b.1 ∨ (a.1 = b.1 ∧ (a.2.1 < b.2.1 ∨ (a.2.1 = b.2.1 ∧ a.2.2 ≤ b.2.2)))
structure Pty (su : Su) (p : List Sy) : Prop where
  l1 : 1 ≤ p.length
  l4 : p.length ≤ 4
  ok : ∀ s ∈ p, Sy.ok su s
  srt : p.Pairwise Sy.le
theorem RepTs.perm {α : Type} {H : Hp} {f : α → D} {ys xs : List V} (p : ys.Perm xs) : ∀ {ss : List α}, RepTs H (ss.map f) xs → ∃ ss' : List α, ss'.Perm ss ∧ RepTs H (ss'.map f) ys := by
  induction p with
  | nil =>
    intro ss h
    cases ss with
    | nil => exact ⟨[], .refl _, h⟩
    | cons a r => obtain ⟨v, w, e, _⟩ := h.consE; cases e
  | cons x p ih =>
    intro ss h
    cases ss with
    | nil => have := h.nilE; cases this
    | cons a r =>
      obtain ⟨v, w, e, h1, h2⟩ := h.consE
      injection e with e1 e2
      subst e1 e2
      obtain ⟨ss', p', h'⟩ := ih h2
      exact ⟨a :: ss', p'.cons a, RepTs.cons h1 h'⟩
  | swap x y l =>
    intro ss h
    cases ss with
    | nil => have := h.nilE; cases this
    | cons a r =>
      obtain ⟨v, w, e, h1, h2⟩ := h.consE
      injection e with e1 e2
      subst e1 e2
      cases r with
      | nil => have := h2.nilE; cases this
      | cons b r =>
        obtain ⟨v2, w2, e, h3, h4⟩ := h2.consE
        injection e with e1 e2
        subst e1 e2
        exact ⟨b :: a :: r, .swap _ _ _, RepTs.cons h3 (RepTs.cons h1 h4)⟩
  | trans p1 p2 ih1 ih2 =>
    intro ss h
    obtain ⟨s2, q2, h2⟩ := ih2 h
    obtain ⟨s1, q1, h1⟩ := ih1 h2
    exact ⟨s1, q1.trans q2, h1⟩
theorem RepTs.at {α : Type} {H : Hp} {f : α → D} {ss : List α} {vs : List V} {i : Nat} {v : V} (h : RepTs H (ss.map f) vs) (e : vs[i]? = some v) : ∃ s, ss[i]? = some s ∧ RepT H (f s) v := by
  obtain ⟨d, hd, r⟩ := h.get e
  rw [List.getElem?_map] at hd
  cases q : ss[i]? with
  | none => rw [q] at hd; cases hd
  | some s => rw [q] at hd; cases hd; exact ⟨s, rfl, r⟩
theorem RepTs.lenM {α : Type} {H : Hp} {f : α → D} {ss : List α} {vs : List V} (h : RepTs H (ss.map f) vs) : vs.length = ss.length := by rw [h.len, List.length_map]
theorem RepTs.set {H : Hp} : ∀ {ds : List D} {vs : List V} {i : Nat} {d : D} {v : V}, RepTs H ds vs → RepT H d v → RepTs H (ds.set i d) (vs.set i v)
  | [], vs, _, _, _, h, _ => by have := h.nilE; subst this; exact RepTs.nil
  | e :: ds, vs, 0, d, v, h, r => by
    obtain ⟨u, w, rfl, h1, h2⟩ := h.consE
    exact RepTs.cons r h2
  | e :: ds, vs, i + 1, d, v, h, r => by
    obtain ⟨u, w, rfl, h1, h2⟩ := h.consE
    exact RepTs.cons h1 (RepTs.set h2 r)
theorem syD_at {H : Hp} {s : Sy} {x : V} (h : RepT H (syD s) x) : ∃ a, x = .ref a ∧ H a = some (.tup [.int s.1, .int s.2.1, .int s.2.2]) := h.tupI
theorem syD_of {H : Hp} {a : Addr} {k f e : Int} (h : H a = some (.tup [.int k, .int f, .int e])) : RepT H (syD (k, f, e)) (.ref a) := RepT.tupI' h
theorem code3 (a b c : Int) : TS.code 16 [a, b, c] = a * 256 + b * 16 + c := by
  simp only [TS.code, List.length_cons, List.length_nil]
  omega
theorem sy_le {su : Su} {a b : Sy} (ha : Sy.ok su a) (hb : Sy.ok su b) (hn : su.nights ≤ 12) (h : TS.code 16 (syI a) ≤ TS.code 16 (syI b)) : Sy.le a b := by
  unfold syI at h
  rw [code3, code3] at h
  have := ha.f0; have := ha.fe; have := ha.e1; have := hb.f0; have := hb.fe; have := hb.e1
  unfold Sy.le
  omega
/-- sorted(..) of a list of tuples of d ints below B, fewer than 64 -/
def kSortU (K : PySem.W.Frag) (d : Nat) (B : Int) : List V → Hp → VK → Prop := fun vs H Q => ∃ (a : Addr) (xs : List V), vs = [V.ref a] ∧ SqL K H a xs ∧ xs.length < 64 ∧ (∀ x ∈ xs, ∃ ns, TupI K H x ns ∧ ns.length = d ∧ TS.Bd B ns) ∧
  ∀ ys : List V, ys.Perm xs → ys.Pairwise (fun x y => ∀ n m, TupI K H x n → TupI K H y m → TS.code B n ≤ TS.code B m) → New H (.lst ys) Q
theorem ksortU {X : Cx} {K : PySem.W.Frag} {d : Nat} {B : Int} (hd : 1 ≤ d) (h : X.K = K := by rfl) : CallR X (.builtin "sorted") (kSortU K d B) := by
  subst h
  exact callI (cr_sortT hd) fun xs H Q ⟨a, ys, h1, h2, h3, h4, h5⟩ => ⟨a, ys, h1, h2, h3, h4, fun zs p h6 h7 h8 => (h5 zs h6 h7).old p h8⟩
theorem tupI_of {K : PySem.W.Frag} {H : Hp} {a : Addr} {ns : List Int} (h : H a = some (.tup (ns.map V.int))) : TupI K H (.ref a) ns := ⟨a, rfl, SqT.of h⟩
end MD

/-! pairs ((i, j), x), sorted by their distinct (i, j) -/
namespace MD
open PySem PySem.Spec PyProof.Rows L2 SrtO Srt
section
variable {prog : Program} {w : World} {A : Around} {E : Value → Shared → Prop} {s : Shared}
theorem eqBool_self {v : Value} {Q : Bool → Shared → Prop} (hv : (v == v) = true) (h : Q true s) : wpAny (model prog w) A (eqBool v v) Q E s := by
  unfold eqBool
  try with_reducible refine wpAny_holding ?_
  show wpAny _ _ (if (v == v) = true then _ else _) Q E s
  rw [if_pos hv]
  exact wpAny_bind (wpAny_rule (wpAny_pure h))
/-- v is a tuple of a tuple of the ints i, j, and of something -/
def IsNP (h : Heap) (v : Value) (i j : Int) : Prop := ∃ a q x t u o n o2 n2, v = .ref a ∧ h.get? a = some o ∧ o.cls = .type "tuple" ∧ o.data = .seq #[.ref q, x] n ∧ h.get? q = some o2 ∧ o2.cls = .type "tuple" ∧ o2.data = .seq #[.int i t, .int j u] n2 ∧ (x == x) = true
theorem IsNP.keeps {h h' : Heap} {v : Value} {i j : Int} (p : IsNP h v i j) (k : ∀ b o, h.get? b = some o → o.cls = .type "tuple" → h'.get? b = some o) : IsNP h' v i j := by
  obtain ⟨a, q, x, t, u, o, n, o2, n2, e, h1, h2, h3, h4, h5, h6, h7⟩ := p
  exact ⟨a, q, x, t, u, o, n, o2, n2, e, k _ _ h1 h2, h2, h3, k _ _ h4 h5, h5, h6, h7⟩
theorem np_cmp {vs : List Value} {k : Value → Int × Int} (hu : A.units < cLine) (hp : ∀ v ∈ vs, IsNP s.heap v (k v).1 (k v).2) (hd : ∀ v ∈ vs, ∀ u ∈ vs, k v = k u → v = u) : Cmp prog w A s (tuples' false) (fun p => p.1 ∈ vs) (lt2 fun v u => lexB (k v) (k u)) := by
  intro p q hm hm'
  have h1 := hp _ hm
  have h2 := hp _ hm'
  have hdd := hd _ hm _ hm'
  show wpAny (model prog w) A (keyLt' (tuples' false) p.1 q.1) (fun r s' => s' = s ∧ r = lexB (k p.1) (k q.1)) (fun _ _ => False) s
  unfold lexB
  generalize k p.1 = kp at h1 hdd ⊢
  generalize k q.1 = kq at h2 hdd ⊢
  obtain ⟨x, y⟩ := kp
  obtain ⟨x', y'⟩ := kq
  obtain ⟨a, c, z, t, u, o, n, o2, n2, e, ho, hc, hdt, ho2, hc2, hd2, hz⟩ := h1
  obtain ⟨a', c', z', t', u', o', n', o2', n2', e', ho', hc', hdt', ho2', hc2', hd2', hz'⟩ := h2
  have k1 : IsTupleKey (L2.mixKind prog w) s.heap [Sum.inl x, Sum.inl y] c := ⟨o2, _, n2, ho2, hc2, hd2, .cons (L2.mixKind_int prog w x t) (.cons (L2.mixKind_int prog w y u) .nil)⟩
  have k2 : IsTupleKey (L2.mixKind prog w) s.heap [Sum.inl x', Sum.inl y'] c' := ⟨o2', _, n2', ho2', hc2', hd2', .cons (L2.mixKind_int prog w x' t') (.cons (L2.mixKind_int prog w y' u') .nil)⟩
  by_cases ek : (x, y) = (x', y')
  · have ee := hdd ek
    have hb : lexB (x, y) (x', y') = false := by rw [ek]; exact lexB_no.mpr (by omega)
    have hb' : (if (x, y).1 = (x', y').1 then decide ((x, y).2 < (x', y').2) else decide ((x, y).1 < (x', y').1)) = false := hb
    rw [hb']
    have ea : a = a' := by rw [e, e'] at ee; injection ee
    subst ea
    rw [ho] at ho'; cases ho'
    rw [hdt] at hdt'
    injection hdt' with hd5 hd6
    subst hd6
    have l1 := congrArg Array.toList hd5
    injection l1 with l2 l3
    injection l3 with l4 l5
    subst l4
    rw [e, e']
    refine PySem.W.kat_lt ho hdt ho hdt ?_
    show PySem.W.KatLex prog w A false (decide (2 < 2)) _ [(.ref c, .ref c), (z, z)] 0 s
    refine PySem.W.kat_cons (eqBool_self (by simp) ?_)
    refine PySem.W.kat_yes (PySem.W.kat_cons (eqBool_self hz ?_))
    exact PySem.W.kat_yes (PySem.W.kat_nil ⟨rfl, rfl⟩)
  · rw [e, e']
    refine PySem.W.kat_lt ho hdt ho' hdt' ?_
    show PySem.W.KatLex prog w A false (decide (2 < 2)) _ [(.ref c, .ref c'), (z, z')] 0 s
    refine PySem.W.kat_cons (wpAny_eqBool_tuple hu k1 k2 ?_)
    refine PySem.W.kat_go (fun e0 => ?_) (fun _ => ?_)
    · exfalso
      have z0 := of_decide_eq_true e0
      injection z0 with z1 z2
      injection z2 with z3 _
      exact ek (by rw [Sum.inl.inj z1, Sum.inl.inj z3])
    · refine PySem.W.kat_no ?_
      show wpAny _ _ (oneLt' false _ _) _ _ _
      refine PySem.W.kat_one _ _ (HT.lt_tupInts (ns := [x, y]) (ms := [x', y']) ⟨o2, ho2, hc2, n2, hd2⟩ ⟨o2', ho2', hc2', n2', hd2'⟩ ?_ ?_ hu ?_)
      · exact intsAre_of (ns := [x, y]) (.cons ⟨t, rfl⟩ (.cons ⟨u, rfl⟩ .nil))
      · exact intsAre_of (ns := [x', y']) (.cons ⟨t', rfl⟩ (.cons ⟨u', rfl⟩ .nil))
      · refine ⟨rfl, ?_⟩
        show HT.lexLt [x, y] [x', y'] = (if x = x' then decide (y < y') else decide (x < x'))
        rw [HT.lexLt_cons]
        by_cases h : x = x'
        · rw [if_pos h, if_pos h, HT.lexLt_cons]
          by_cases h2 : y = y'
          · exact absurd (by rw [h, h2]) ek
          · rw [if_neg h2]
        · rw [if_neg h, if_neg h]
theorem np_firsts {h : Heap} : ∀ {vs : List Value}, (∀ v ∈ vs, ∃ i j, IsNP h v i j) → ∃ fs : List Value, PySem.W.KatTups h vs fs ∧ fs.length = vs.length ∧ ∀ f ∈ fs, ∃ (q : Addr) (o : Obj), f = Value.ref q ∧ h.get? q = some o ∧ o.cls = .type "tuple"
  | [], _ => ⟨[], PySem.W.KatTups.nil, rfl, fun f hf => by simp at hf⟩
  | v :: vs, x => by
    obtain ⟨fs, k, hl, hi⟩ := np_firsts (vs := vs) fun u hu => x u (List.mem_cons_of_mem _ hu)
    obtain ⟨i, j, a, q, z, t, u, o, n, o2, n2, rfl, ho, hc, hd, ho2, hc2, _⟩ := x v List.mem_cons_self
    refine ⟨.ref q :: fs, PySem.W.KatTups.cons ho hc hd rfl k, by rw [List.length_cons, List.length_cons, hl], fun f hf => ?_⟩
    rcases List.mem_cons.mp hf with rfl | hf
    · exact ⟨q, o2, rfl, ho2, hc2⟩
    · exact hi f hf
theorem np_sortable {a : Addr} {vs : List Value} {k : Value → Int × Int} (hu : A.units < cLine) (h0 : 0 < vs.length) (hp : ∀ v ∈ vs, IsNP s.heap v (k v).1 (k v).2) (hdd : ∀ v ∈ vs, ∀ u ∈ vs, k v = k u → v = u) (ha : ∀ o, s.heap.get? a = some o → o.cls ≠ .type "tuple") :
    SortableO prog w A s a vs fun v u => lexB (k v) (k u) := by
  intro h' keep
  have hp' : ∀ v ∈ vs, IsNP h' v (k v).1 (k v).2 := fun v hm => (hp v hm).keeps fun b o e c => keep b o (fun z => by subst z; exact ha o e c) e
  obtain ⟨fs, h1, h2, h3⟩ := np_firsts fun v hm => ⟨_, _, hp' v hm⟩
  refine ⟨tuples' false, fun Q E hq => ?_, np_cmp hu hp' hdd⟩
  refine PySem.W.kat_kind (T := .type "tuple") h1 (by omega) (fun f hm => ?_) (by rfl) ?_
  · obtain ⟨q, o, rfl, ho, hc⟩ := h3 f hm
    have z : PySem.W.Looks (model prog w) h' (typeOf (.ref q)) o.cls := (PySem.W.Looks.ld ho).andThen .now
    rw [hc] at z
    exact z
  · have e : (Value.type "tuple" != Value.type "tuple") = false := by first | rfl | decide | simp
    rw [e]
    exact hq
theorem sorted_np {l : Addr} {vs : List Value} {k : Value → Int × Int} {Q : Value → Shared → Prop} (hu : A.in1.in1.units < cLine) (hl : s.heap.IsList l vs.toArray) (hz : vs.length ≤ sizeLine) (hp : ∀ v ∈ vs, IsNP s.heap v (k v).1 (k v).2) (hdd : ∀ v ∈ vs, ∀ u ∈ vs, k v = k u → v = u)
    (h : ∀ (h' : Heap) (d : Addr) (out : List Value), Srtd (fun v u => lexB (k v) (k u)) out → Stb (fun v u => lexB (k v) (k u)) out vs → (∀ b o, s.heap.get? b = some o → h'.get? b = some o) → s.heap.objs.size ≤ d → (∃ n, h'.get? d = some (seqObj "list" out.toArray n)) → Q (.ref d) { s with heap := h' }) :
    wpAny (model prog w) A (call (.builtin "sorted") [.ref l]) Q E s := by
  refine sorted_ord (swo_lex k) hl hz (fun h2 h₁ a ha kk => ?_) fun out hs hb => ?_
  · refine np_sortable (s := { s with heap := h₁ }) hu (by omega) (fun v hm => (hp v hm).keeps fun b o e _ => (kk b o e).2) hdd fun o e => ?_
    have e' : some o = some (seqObj "list" vs.toArray 0) := e.symm.trans ha
    cases e'
    intro c
    exact absurd (Value.type.inj c) (by decide)
  · exact h _ _ out hs hb (fun b o e => sortedAll_old e) (Nat.le_succ _) (sortedAll_at s.heap vs out.toArray)
end
/-- sorted(xs), xs a list of pairs ((i, j), x) with distinct (i, j) (k says which) -/
def kSortN (K : PySem.W.Frag) : List V → Hp → VK → Prop := fun vs H Q => ∃ (a : Addr) (xs : List V) (k : V → Int × Int), vs = [V.ref a] ∧ SqL K H a xs ∧ (∀ x ∈ xs, ∃ t q z, x = V.ref t ∧ H t = some (.tup [.ref q, z]) ∧ H q = some (.tup [.int (k x).1, .int (k x).2])) ∧
  (∀ x ∈ xs, ∀ y ∈ xs, k x = k y → x = y) ∧ ∀ ys, Srtd (ltP k) ys → Stb (ltP k) ys xs → New H (.lst ys) Q
theorem relV_beq {v : V} {u : Value} (h : RelV v u) (n : ∀ b, v ≠ .flt b) : (u == u) = true := by
  first | exact beq_self_eq_true u | simp
theorem ksortN {X : Cx} {K : PySem.W.Frag} (hu : X.A.in1.in1.units < cLine) (h : X.K = K := by rfl) : CallR X (.builtin "sorted") (kSortN K) := by
  subst h
  intro pins s σ H vs us Q I r h
  obtain ⟨a, xs, k, rfl, hs, hx, hdd, q⟩ := h
  obtain ⟨its, rv, hl, hz⟩ := I.list hs
  obtain ⟨u, rfl, ru⟩ := vals1 r
  obtain rfl : u = Value.ref a := ru
  obtain ⟨e1, e2⟩ := refs_back rv fun x m => by
    obtain ⟨t, _, _, e, _⟩ := hx x m
    exact ⟨t, e⟩
  refine sorted_np (k := fun u => k (backV u)) hu hl.isList (by rw [← rv.length]; exact hz) (fun v hv => ?_) (fun v hv u hu2 ek => ?_) fun h' d out h1 h2 kp hd hn => ?_
  · obtain ⟨t, rfl⟩ := e2 v hv
    have hm : V.ref t ∈ xs := by rw [e1]; exact List.mem_map.mpr ⟨_, hv, rfl⟩
    obtain ⟨t', q', z, e, ht, hq⟩ := hx _ hm
    cases e
    obtain ⟨_, its2, r2, o, ho, hc, n, hd⟩ := I.hok _ _ ht
    obtain ⟨u1, u2, rfl, ri, rj⟩ := vals2 r2
    obtain rfl : u1 = Value.ref q' := ri
    obtain ⟨_, its3, r3, o3, ho3, hc3, n3, hd3⟩ := I.hok _ _ hq
    obtain ⟨w1, w2, rfl, rk, rl⟩ := vals2 r3
    obtain ⟨t1, rfl⟩ := rk
    obtain ⟨t2, rfl⟩ := rl
    exact ⟨t, q', u2, t1, t2, o, n, o3, n3, rfl, ho, hc, hd, ho3, hc3, hd3, by simp⟩
  · obtain ⟨t, rfl⟩ := e2 v hv
    obtain ⟨t', rfl⟩ := e2 u hu2
    have := hdd (.ref t) (by rw [e1]; exact List.mem_map.mpr ⟨_, hv, rfl⟩) (.ref t') (by rw [e1]; exact List.mem_map.mpr ⟨_, hu2, rfl⟩) ek
    cases this
    rfl
  · have h3 : ∀ u ∈ out, ∃ a, u = Value.ref a := fun u hu => e2 u (h2.perm.mem_iff.mp hu)
    obtain ⟨n, hn⟩ := hn
    have hb : Stb (ltP k) (out.map backV) xs := by
      rw [e1]
      exact Stb.map (ltP_swo k) backV h2
    refine ⟨.ref d, upd H d (.lst (out.map backV)), I.laid (t' := s.toks) kp hd ⟨?_, out, n, vals_back h3, hn⟩, rfl, (q _ (srtd_map h1) hb).old d (I.hok.fresh hd)⟩
    rw [hb.len]
    exact hz
end MD

namespace MD
open PySem PySem.Spec PyProof.Rows L2
/-! ### dicts with tuple keys; locks; comprehensions of two clauses; sums -/
theorem Kp.same {M : List Addr} {H H2 : Hp} {d : Addr} {u : HO} (k : Kp (d :: M) H H2) (h : H d = some u) (h2 : H2 d = some u) : Kp M H H2 := by
  refine ⟨fun b o e n => ?_, k.tup, k.live⟩
  by_cases z : b = d
  · rw [z] at e ⊢
    rw [h] at e; cases e; exact h2
  · exact k.keep b o e fun q => (List.mem_cons.mp q).elim z n
section
variable {X : Cx} {pos : Pos}
def kNewT : TE := fun _ H Q => New H (.dT []) Q
theorem ke_dnewT : PE X (.Dict [] [] pos) kNewT := peI pe_dnewT fun σ H Q q => New.old q
def kNewK : TE := fun _ H Q => New H (.dK []) Q
theorem ke_dnewK : PE X (.Dict [] [] pos) kNewK := peI pe_dnewK fun σ H Q q => New.old q
def kDPutT (td ty tv : TE) : TS := fun D σ H => tv σ H fun v H1 => td σ H1 fun x H2 => ty σ H2 fun y H3 => ∃ a kvs k b, x = .ref a ∧ y = .ref b ∧ H3 a = some (.dT kvs) ∧ H3 b = some (.tup (k.map kV)) ∧ kvs.length < sizeLine ∧ Wr H3 a (.dT (putK kvs k v)) (D.nx σ)
theorem ks_dputT {o i value : Expr} {pos' : Pos} {td ty tv : TE} (hu : X.A.units + 1 < cLine) (ho : PE X o td) (hi : PE X i ty) (hv : PE X value tv) (hs : swapsWith value (some (.Subscript o i pos')) pos.line X.env = pure false) :
    PS X (.Assign [.Subscript o i pos'] value pos) (kDPutT td ty tv) :=
  psI (ps_dput hu (peM ho) (peM hi) (peM hv) hs) fun D σ H q => ⟨_, q, fun v H1 q => ⟨_, q, fun x H2 q => ⟨_, q, fun y H3 ⟨a, kvs, k, b, h1, h2, h3, h4, h5, q⟩ => ⟨a, _, h1, .inr ⟨kvs, k, b, h3, h2, h4, h5, rfl⟩, q.old h3 trivial⟩⟩⟩⟩
def kLockE (t : TE) : TE := fun σ H Q => ∃ d u, H d = some u ∧ Mut (some u) ∧ NT u ∧ ∀ od H1, Kp [d] H H1 → H1 d = some (.frz od u) → t σ H1 fun v H' => H' d = some (.frz od u) ∧ Wr H' d u (Q v)
theorem ke_lock {e : Expr} {t : TE} (h : PE X e t) : PE X e (kLockE t) :=
  peI (pe_lock (peM h)) fun σ H Q ⟨d, u, h1, h2, nt, q⟩ => ⟨d, u, h1, h2, fun od => ⟨_, q od _ (Kp.old h1 nt List.mem_cons_self) upd_same, fun v H' ⟨h3, w⟩ => ⟨h3, w.old h3 trivial⟩⟩⟩
end
/-! the keys of a locked dict, one by one -/
section
variable {d : Addr} {od : Obj} {kvs : List (List Key × V)} {g : TG} {tt : TT} {te : TE} {vs : List Nat} {σ : L2.St} {H1 : Hp} {D : Addr} {Qd : Hp → Prop}
theorem kl_keysT (Pv : Nat → List V → Hp → Prop) (h0 : Pv 0 [] H1) (hl : ∀ i acc H, Pv i acc H → H d = some (.frz od (.dT kvs)))
    (hs : ∀ i k v q acc H, kvs[i]? = some (k, v) → H q = some (.tup (k.map kV)) → H D = some (.lst acc) → Pv i acc H → Turn1 g tt te vs σ D acc (Pv (i + 1)) (.ref q) H) (hd : ∀ acc H, H D = some (.lst acc) → Pv kvs.length acc H → Qd H) : kLcW g tt te vs σ (Itkt d od kvs) D H1 Qd := by
  refine ⟨fun i m acc H => m = kvs.length - i ∧ i ≤ kvs.length ∧ Pv i acc H, ⟨kvs.length, by simp, Nat.zero_le _, h0⟩, ?_⟩
  rintro i m acc H hD ⟨rfl, hi, p⟩
  have q := hl i acc H p
  by_cases hlt : i < kvs.length
  · refine .inr ⟨⟨q, hlt⟩, Pv (i + 1), fun acc H' p' => ⟨kvs.length - (i + 1), by omega, rfl, hlt, p'⟩, fun x H' y => ?_⟩
    obtain ⟨e, k, v, b, e1, e2, e3⟩ := y
    subst e e2
    exact hs i k v b acc _ e1 e3 hD p
  · have e : i = kvs.length := by omega
    subst e
    exact .inl ⟨⟨q, Nat.le_refl _⟩, hd acc H hD p⟩
end
/-! two clauses: the inner loop goes on with what the list holds -/
def kGo (g : TG) (tt : TT) (te : TE) (vs : List Nat) (σ : L2.St) (J : It) (D : Addr) (acc0 : List V) (H0 : Hp) (Nx : List V → Hp → Prop) : Prop := ∃ W : Nat → Nat → List V → Hp → Prop, (∃ m, W 0 m acc0 H0) ∧ ∀ i m acc H, H D = some (.lst acc) → W i m acc H →
  (J.stop i H ∧ Nx acc H) ∨ (J.go i H ∧ ∃ Nx1 : List V → Hp → Prop, (∀ acc H', Nx1 acc H' → ∃ m', m' < m ∧ W (i + 1) m' acc H') ∧ ∀ x H', J.yld i H x H' → Turn1 g tt te vs σ D acc Nx1 x H')
def Turn2 (g : TG) (tt : TT) (wi1 : TI) (g1 : TG) (tt1 : TT) (te : TE) (vs vs1 : List Nat) (σ : L2.St) (D : Addr) (acc : List V) (Nx : List V → Hp → Prop) (x : V) (H' : Hp) : Prop :=
  g x (wipe σ vs) H' fun σ2 H2 => wipe σ2 vs = wipe σ vs ∧ tt σ2 H2 fun b H3 => if b = true then wi1 σ2 H3 (fun J1 H4 => H4 D = some (.lst acc) ∧ kGo g1 tt1 te vs1 σ2 J1 D acc H4 Nx) else H3 D = some (.lst acc) ∧ Nx acc H3
def kLc2W (g : TG) (tt : TT) (wi1 : TI) (g1 : TG) (tt1 : TT) (te : TE) (vs vs1 : List Nat) (σ : L2.St) (J : It) (D : Addr) (H1' : Hp) (Qd : Hp → Prop) : Prop := ∃ W : Nat → Nat → List V → Hp → Prop, (∃ m, W 0 m [] H1') ∧ ∀ i m acc H, H D = some (.lst acc) → W i m acc H →
  (J.stop i H ∧ Qd H) ∨ (J.go i H ∧ ∃ Nx : List V → Hp → Prop, (∀ acc H', Nx acc H' → ∃ m', m' < m ∧ W (i + 1) m' acc H') ∧ ∀ x H', J.yld i H x H' → Turn2 g tt wi1 g1 tt1 te vs vs1 σ D acc Nx x H')
def kLc2 (wi : TI) (g : TG) (tt : TT) (wi1 : TI) (g1 : TG) (tt1 : TT) (te : TE) (vs vs1 : List Nat) : TE := fun σ H Q => wi σ H fun J H1 => ∀ D H1', H1 D = none → Kp [] H1 H1' → H1' D = some (.lst []) → kLc2W g tt wi1 g1 tt1 te vs vs1 σ J D H1' (Q (.ref D))
theorem kLc2.old {wi wi1 : TI} {g g1 : TG} {tt tt1 : TT} {te : TE} {vs vs1 : List Nat} {σ : L2.St} {H : Hp} {Q : VK} (h : kLc2 wi g tt wi1 g1 tt1 te vs vs1 σ H Q) : tLc2 (mI wi) (mG g) (mT tt) (mI wi1) (mG g1) (mT tt1) (mE te) vs vs1 σ H Q := by
  refine ⟨_, h, fun J H1 r D hD => ?_⟩
  obtain ⟨W, ⟨m, w0⟩, turn⟩ := r D _ hD (Kp.new hD) upd_same
  refine ⟨fun i m H => ∃ acc, H D = some (.lst acc) ∧ W i m acc H, ⟨m, [], upd_same, w0⟩, ?_⟩
  rintro i m H ⟨acc, hD, w⟩
  rcases turn i m acc H hD w with ⟨a, b⟩ | ⟨go, Nx, hN, step⟩
  · exact .inl ⟨a, b⟩
  · refine .inr ⟨go, fun H' => ∃ acc, H' D = some (.lst acc) ∧ Nx acc H', fun H' ⟨acc', h1, h2⟩ => let ⟨m', a, b⟩ := hN acc' H' h2; ⟨m', a, acc', h1, b⟩, fun x H' y => ?_⟩
    refine ⟨_, step x H' y, fun σ2 H2 ⟨e, t⟩ => ⟨e, _, t, fun b H3 q => ?_⟩⟩
    cases b with
    | false => exact iteF ⟨acc, q⟩
    | true =>
      refine iteT ⟨_, (show wi1 σ2 H3 (fun J1 H4 => H4 D = some (.lst acc) ∧ kGo g1 tt1 te vs1 σ2 J1 D acc H4 Nx) from q), fun J1 H4 ⟨hD4, W1, ⟨m1, w1⟩, turn1⟩ => ?_⟩
      refine ⟨fun i m H => ∃ acc, H D = some (.lst acc) ∧ W1 i m acc H, ⟨m1, acc, hD4, w1⟩, ?_⟩
      rintro j k H ⟨acc1, hD1, w⟩
      rcases turn1 j k acc1 H hD1 w with ⟨a, b⟩ | ⟨go1, Nx1, hN1, step1⟩
      · exact .inl ⟨a, acc1, hD1, b⟩
      · refine .inr ⟨go1, fun H' => ∃ acc, H' D = some (.lst acc) ∧ Nx1 acc H', fun H' ⟨acc', h1, h2⟩ => let ⟨m', a, b⟩ := hN1 acc' H' h2; ⟨m', a, acc', h1, b⟩, fun x H' y => ?_⟩
        refine ⟨_, step1 x H' y, fun σ3 H5 ⟨e, t⟩ => ⟨e, _, t, fun b H6 q => ?_⟩⟩
        cases b with
        | true =>
          refine iteT ?_
          refine ⟨_, (show te σ3 H6 (Put D acc1 Nx1) from q), fun y H4 ⟨h1, h2, h3⟩ => ⟨acc1, h1, h2, _, upd_same, h3 _ (Kp.old h1 trivial List.mem_cons_self) upd_same⟩⟩
        | false => exact iteF ⟨acc1, q⟩
section
variable {X : Cx}
theorem ke_lc2 {elt tg iter tg1 iter1 : Expr} {ifs ifs1 : List Expr} {scope : Scope} {own : List (Str × Nat)} {vs1 : List Nat} {pos : Pos} {wi wi1 : TI} {g g1 : TG} {tt tt1 : TT} {te : TE} (hc : X.calm = true) (hN : X.N.Nodup) (hi : PI X tg iter wi) (ok : BlkOk X.N X.env.scope scope own) (hv : ∀ i ∈ vs1, i ∈ own.map (·.2))
    (hg : ∀ (s : Shared) (H : Hp) (C : Addr) (cl : List (Str × Addr)) (fp : List Addr), PG (X.blk s H scope (compEnvC scope cl C X.env) fp) tg g) (ht : ∀ (s : Shared) (H : Hp) (C : Addr) (cl : List (Str × Addr)) (fp : List Addr), PTs (X.blk s H scope (compEnvC scope cl C X.env) fp) ifs tt)
    (hi1 : ∀ (s : Shared) (H : Hp) (C : Addr) (cl : List (Str × Addr)) (fp : List Addr), PI (X.blk s H scope (compEnvC scope cl C X.env) fp) tg1 iter1 wi1)
    (hg1 : ∀ (s : Shared) (H : Hp) (C : Addr) (cl : List (Str × Addr)) (fp : List Addr), PG (X.blk s H scope (compEnvC scope cl C X.env) fp) tg1 g1) (ht1 : ∀ (s : Shared) (H : Hp) (C : Addr) (cl : List (Str × Addr)) (fp : List Addr), PTs (X.blk s H scope (compEnvC scope cl C X.env) fp) ifs1 tt1)
    (he : ∀ (s : Shared) (H : Hp) (C : Addr) (cl : List (Str × Addr)) (fp : List Addr), PE (X.blk s H scope (compEnvC scope cl C X.env) fp) elt te) (hs : ∀ x, foldedSetIterable iter X.env x = pure x := by intro _; rfl) (hs1 : ∀ env x, foldedSetIterable iter1 env x = pure x := by intro _ _; rfl) :
    PE X (.ListComp elt [⟨tg, iter, ifs, 0⟩, ⟨tg1, iter1, ifs1, 0⟩] scope pos) (kLc2 wi g tt wi1 g1 tt1 te (own.map (·.2)) vs1) :=
  peI (pe_lc2 hc hN (piM hi) ok hv (fun a b c d e => pgM (hg a b c d e)) (fun a b c d e => ptsM (ht a b c d e)) (fun a b c d e => piM (hi1 a b c d e)) (fun a b c d e => pgM (hg1 a b c d e)) (fun a b c d e => ptsM (ht1 a b c d e)) (fun a b c d e => peM (he a b c d e)) hs hs1) fun σ H Q q => kLc2.old q
theorem sumK {K : PySem.W.Frag} (hc : X.calm = true) (h : X.K = K := by rfl) : CallR X (.builtin "sum") (rSum K) := by subst h; exact cr_sum hc
theorem pgtK {K : PySem.W.Frag} {es : List Expr} {k : Nat} {t : TGs} {n : Nat} {pos : Pos} (hc : X.calm = true) (h : PGs X es t)
    (hn : (assignEach es X.env).length = n := by rfl) (hst : (assignEach es X.env).findIdx? (·.1) = none := by rfl) (hK : X.K = K := by rfl) : PG X (.Tuple es k pos) (gTup K n t) := by subst hK; exact pg_tup hc h hn hst
theorem pitK {K : PySem.W.Frag} {tg l : Expr} {tl : TE} (hl : PE X l tl) (hK : X.K = K := by rfl) : PI X tg l (iTup K tl) := by subst hK; exact pi_tup hl
theorem pilK {K : PySem.W.Frag} {tg l : Expr} {tl : TE} (hl : PE X l tl) (hK : X.K = K := by rfl) : PI X tg l (iList K tl) := by subst hK; exact pi_list hl
end
section
variable {K : PySem.W.Frag} {a : Addr} {xs : List V} {g : TG} {tt : TT} {te : TE} {vs : List Nat} {σ : L2.St} {H1 : Hp} {D : Addr}
theorem kg_range {lo : Int} {n : Nat} {acc0 : List V} {Nx : List V → Hp → Prop} (Pv : Nat → List V → Hp → Prop) (h0 : Pv 0 acc0 H1)
    (hs : ∀ i acc H, i < n → H D = some (.lst acc) → Pv i acc H → Turn1 g tt te vs σ D acc (Pv (i + 1)) (.int (lo + i)) H) (hd : ∀ acc H, H D = some (.lst acc) → Pv n acc H → Nx acc H) : kGo g tt te vs σ (Itr lo n) D acc0 H1 Nx := by
  refine ⟨fun i m acc H => m = n - i ∧ i ≤ n ∧ Pv i acc H, ⟨n, by simp, Nat.zero_le _, h0⟩, ?_⟩
  rintro i m acc H hD ⟨rfl, hi, p⟩
  by_cases hlt : i < n
  · refine .inr ⟨hlt, Pv (i + 1), fun acc H' p' => ⟨n - (i + 1), by omega, rfl, hlt, p'⟩, fun x H' y => ?_⟩
    obtain ⟨e, y⟩ := y
    subst e y
    exact hs i acc _ hlt hD p
  · have e : i = n := by omega
    subst e
    exact .inl ⟨Nat.le_refl _, hd acc H hD p⟩
theorem k2_tup {wi1 : TI} {g1 : TG} {tt1 : TT} {vs1 : List Nat} {Qd : Hp → Prop} (Pv : Nat → List V → Hp → Prop) (h0 : Pv 0 [] H1) (hl : ∀ i acc H, Pv i acc H → SqT K H a xs)
    (hs : ∀ i x acc H, xs[i]? = some x → H D = some (.lst acc) → Pv i acc H → Turn2 g tt wi1 g1 tt1 te vs vs1 σ D acc (Pv (i + 1)) x H) (hd : ∀ acc H, H D = some (.lst acc) → Pv xs.length acc H → Qd H) : kLc2W g tt wi1 g1 tt1 te vs vs1 σ (Itt K a) D H1 Qd := by
  refine ⟨fun i m acc H => m = xs.length - i ∧ i ≤ xs.length ∧ Pv i acc H, ⟨xs.length, by simp, Nat.zero_le _, h0⟩, ?_⟩
  rintro i m acc H hD ⟨rfl, hi, p⟩
  have q := hl i acc H p
  by_cases hlt : i < xs.length
  · refine .inr ⟨⟨xs, xs[i], q, by simp [hlt]⟩, Pv (i + 1), fun acc H' p' => ⟨xs.length - (i + 1), by omega, rfl, hlt, p'⟩, fun x H' y => ?_⟩
    obtain ⟨e, y⟩ := y
    subst e
    exact hs i x acc _ (y xs q) hD p
  · have e : i = xs.length := by omega
    subst e
    exact .inl ⟨⟨xs, q, Nat.le_refl _⟩, hd acc H hD p⟩
end
theorem if_true {A B : Prop} (h : A) : if true = true then A else B := iteT h
/-! ### what a party needs -/
abbrev Kvs := List (List Key × V)
def cellK (k t : Int) : List Key := [.inl k, .inl t]
def cntV (kvs : Kvs) (c : List Key) : Int := match valV kvs c with
  | some (.int n) => n
  | _ => 0
def bump (kvs : Kvs) (c : List Key) : Kvs := putK kvs c (.int (cntV kvs c + 1))
def bumps (kvs : Kvs) (k f : Int) : Nat → Kvs
  | 0 => kvs
  | n + 1 => bump (bumps kvs k f n) (cellK k (f + n))
def needs1 (kvs : Kvs) (s : Sy) : Kvs := bumps kvs s.1 s.2.1 (s.2.2 - s.2.1).toNat
def needsL (p : List Sy) : Kvs := p.foldl needs1 []
def AllI (kvs : Kvs) : Prop := ∀ c v, valV kvs c = some v → ∃ n, v = .int n
theorem AllI.nil : AllI [] := fun c v h => by rw [valV_nil] at h; cases h
theorem AllI.bump {kvs : Kvs} (h : AllI kvs) (c : List Key) : AllI (bump kvs c) := fun d v e => by
  unfold MD.bump at e
  rw [valV_put] at e
  split at e
  · exact ⟨_, (Option.some.inj e).symm⟩
  · exact h d v e
theorem AllI.bumps {kvs : Kvs} (h : AllI kvs) (k f : Int) : ∀ n, AllI (bumps kvs k f n)
  | 0 => h
  | n + 1 => (AllI.bumps h k f n).bump _
theorem cnt_get {kvs : Kvs} (h : AllI kvs) (c : List Key) : (valV kvs c).getD (.int 0) = .int (cntV kvs c) := by
  unfold cntV
  cases e : valV kvs c with
  | none => rfl
  | some v => obtain ⟨n, rfl⟩ := h c v e; rfl
theorem putK_le {κ : Type} [DecidableEq κ] (kvs : List (κ × V)) (k : κ) (v : V) : (putK kvs k v).length ≤ kvs.length + 1 := by
  unfold putK
  split
  · rw [List.length_map]; omega
  · rw [List.length_append]; simp
theorem bumps_le (kvs : Kvs) (k f : Int) : ∀ n, (bumps kvs k f n).length ≤ kvs.length + n
  | 0 => Nat.le_refl _
  | n + 1 => by
    have := bumps_le kvs k f n
    have h2 := putK_le (bumps kvs k f n) (cellK k (f + n)) (.int (cntV (bumps kvs k f n) (cellK k (f + n)) + 1))
    show (bump _ _).length ≤ _
    unfold bump
    omega
/-- stays within twelve nights -/
def Sb (s : Sy) : Prop := 0 ≤ s.2.1 ∧ s.2.1 ≤ s.2.2 ∧ s.2.2 ≤ 12
theorem Sy.ok.sb {su : Su} {s : Sy} (h : Sy.ok su s) (hs : su.ok) : Sb s := by
  have := h.f0; have := h.fe; have := h.e1; have := hs.n12
  exact ⟨by omega, by omega, by omega⟩
theorem needs_snoc {p : List Sy} {i : Nat} {s : Sy} (h : p[i]? = some s) : needsL (p.take (i + 1)) = needs1 (needsL (p.take i)) s := by
  unfold needsL
  rw [List.take_add_one, h, List.foldl_append]; rfl
theorem needs_le : ∀ (p : List Sy) (kvs : Kvs), (∀ s ∈ p, Sb s) → (p.foldl needs1 kvs).length ≤ kvs.length + 12 * p.length
  | [], kvs, _ => Nat.le_refl _
  | s :: r, kvs, h => by
    have h1 := needs_le r (needs1 kvs s) fun x hx => h x (List.mem_cons_of_mem _ hx)
    have h2 := bumps_le kvs s.1 s.2.1 (s.2.2 - s.2.1).toNat
    have h3 := h s List.mem_cons_self
    unfold Sb at h3
    rw [List.foldl_cons, List.length_cons]
    unfold needs1 at h1 ⊢
    omega
theorem needs_int : ∀ (p : List Sy) (kvs : Kvs), AllI kvs → AllI (p.foldl needs1 kvs)
  | [], _, h => h
  | s :: r, kvs, h => needs_int r _ (h.bumps _ _ _)
theorem cell_tup {H : Hp} {a : Addr} {k t : Int} (h : H a = some (.tup [.int k, .int t])) : H a = some (.tup ((cellK k t).map kV)) := h
end MD

namespace MD
open PySem PySem.Spec PyProof.Rows L2
/-! ### the prices of nights -/
def priceAt (su : Su) (k t : Int) : Int := (su.prices.getD k.toNat []).getD t.toNat 0
def stayL (su : Su) (s : Sy) : Nat → List Int := fun n => (List.range n).map fun (j : Nat) => priceAt su s.1 (s.2.1 + j)
def nightL (su : Su) (p : List Sy) : List Int := p.flatMap fun s => stayL su s (s.2.2 - s.2.1).toNat
theorem stayL_snoc (su : Su) (s : Sy) (n : Nat) : stayL su s (n + 1) = stayL su s n ++ [priceAt su s.1 (s.2.1 + n)] := by
  unfold stayL
  rw [List.range_succ, List.map_append]; rfl
theorem nightL_snoc {su : Su} {p : List Sy} {i : Nat} {s : Sy} (h : p[i]? = some s) : nightL su (p.take (i + 1)) = nightL su (p.take i) ++ stayL su s (s.2.2 - s.2.1).toNat := by
  unfold nightL
  rw [List.take_add_one, h, List.flatMap_append]
  simp
theorem stayL_len (su : Su) (s : Sy) (n : Nat) : (stayL su s n).length = n := by unfold stayL; rw [List.length_map, List.length_range]
theorem nightL_len {su : Su} : ∀ {p : List Sy}, (∀ s ∈ p, Sb s) → (nightL su p).length ≤ 12 * p.length
  | [], _ => Nat.le_refl _
  | s :: r, h => by
    have h1 := nightL_len (su := su) (p := r) fun x hx => h x (List.mem_cons_of_mem _ hx)
    have h3 := h s List.mem_cons_self
    unfold Sb at h3
    unfold nightL at h1 ⊢
    rw [List.flatMap_cons, List.length_append, List.length_cons, stayL_len]
    omega
theorem sum_map_flat (φ : Int → Int) {α : Type} (f : α → List Int) : ∀ l : List α, ((l.flatMap f).map φ).sum = (l.map fun s => ((f s).map φ).sum).sum
  | [] => rfl
  | a :: r => by
    rw [List.flatMap_cons, List.map_append, List.sum_append, List.map_cons, List.sum_cons, sum_map_flat φ f r]
/-- a price, read off the setup -/
theorem SuAt.price {H : Hp} {a r p : Addr} {su : Su} (h : SuAt H a r p su) (so : su.ok) {k t : Int} (k0 : 0 ≤ k) (k1 : k < su.rooms.length) (t0 : 0 ≤ t) (t1 : t < su.nights) :
    ∃ (ps : List V) (q : Addr) (row : List Int), H p = some (.tup ps) ∧ atI ps k = some (.ref q) ∧ H q = some (.tup (row.map V.int)) ∧ atI (row.map V.int) t = some (.int (priceAt su k t)) ∧ 0 ≤ priceAt su k t ∧ priceAt su k t ≤ 1000000 := by
  have hl := so.pl
  have hk : k.toNat < su.prices.length := by omega
  have e : su.prices[k.toNat]? = some (su.prices[k.toNat]) := by simp [hk]
  obtain ⟨ps, q, h1, h2, h3⟩ := h.row e
  have hr := so.pr _ (List.getElem_mem hk)
  have ht : t.toNat < (su.prices[k.toNat]).length := by omega
  have e2 : (su.prices[k.toNat])[t.toNat]? = some ((su.prices[k.toNat])[t.toNat]) := by simp [ht]
  have e3 : priceAt su k t = (su.prices[k.toNat])[t.toNat] := by
    unfold priceAt
    rw [List.getD_eq_getElem?_getD, List.getD_eq_getElem?_getD, e, Option.getD_some, e2, Option.getD_some]
  have hp := hr.2 _ (List.getElem_mem ht)
  exact ⟨ps, q, _, h1, at_of k0 h2, h3, by rw [e3]; exact int_at t0 e2, by rw [e3]; exact hp.1, by rw [e3]; exact hp.2⟩
theorem yesT {σ : L2.St} {H : Hp} {A B : Hp → Prop} (h : A H) : tYes σ H (fun b H3 => if b = true then A H3 else B H3) := by
  show (if true = true then A H else B H)
  exact iteT h
end MD

namespace MD
open PySem PySem.Spec PyProof.Rows L2
/-! ### dicts from pairs of ints to data, as lists of entries -/
def enD (f : V → D) (e : (Int × Int) × V) : D := .sq false [.sq false [.v (.int e.1.1), .v (.int e.1.2)], f e.2]
def kvsOf (es : List ((Int × Int) × V)) : Kvs := es.map fun e => (cellK e.1.1 e.1.2, e.2)
theorem cellK_inj {a b c d : Int} (h : cellK a b = cellK c d) : (a, b) = (c, d) := by
  unfold cellK at h
  injection h with h1 h2
  injection h2 with h3 _
  rw [Sum.inl.inj h1, Sum.inl.inj h3]
theorem valV_kvs {es : List ((Int × Int) × V)} (nd : (es.map (·.1)).Nodup) {e : (Int × Int) × V} (h : e ∈ es) : valV (kvsOf es) (cellK e.1.1 e.1.2) = some e.2 := by
  induction es with
  | nil => cases h
  | cons a r ih =>
    rw [List.map_cons, List.nodup_cons] at nd
    by_cases q : cellK a.1.1 a.1.2 = cellK e.1.1 e.1.2
    · have ek : a.1 = e.1 := cellK_inj q
      have : a = e := by
        rcases List.mem_cons.mp h with z | z
        · exact z.symm
        · exact absurd (List.mem_map.mpr ⟨e, z, ek.symm⟩) nd.1
      subst this
      exact valV_pos (p := (cellK a.1.1 a.1.2, a.2)) rfl
    · have : e ∈ r := by
        rcases List.mem_cons.mp h with z | z
        · exact absurd (by rw [z]) q
        · exact z
      exact (valV_neg (p := (cellK a.1.1 a.1.2, a.2)) q).trans (ih nd.2 this)
/-- the pair's two ints, read off the heap -/
def kyOf (H : Hp) : V → Int × Int
  | .ref t => match H t with
    | some (.tup (.ref q :: _)) => (match H q with
      | some (.tup [.int i, .int j]) => (i, j)
      | _ => (0, 0))
    | _ => (0, 0)
  | _ => (0, 0)
theorem enD_at {H : Hp} {f : V → D} {e : (Int × Int) × V} {x : V} (h : RepT H (enD f e) x) : ∃ t q z, x = .ref t ∧ H t = some (.tup [.ref q, z]) ∧ H q = some (.tup [.int e.1.1, .int e.1.2]) ∧ RepT H (f e.2) z ∧ kyOf H x = e.1 := by
  obtain ⟨t, vs, rfl, ht, r⟩ := h.tupE
  obtain ⟨v1, r1, rfl, h1, h2⟩ := r.consE
  obtain ⟨v2, r2, rfl, h3, h4⟩ := h2.consE
  have := h4.nilE; subst this
  obtain ⟨q, vs2, rfl, hq, r3⟩ := h1.tupE
  obtain ⟨w1, s1, rfl, g1, g2⟩ := r3.consE
  obtain ⟨w2, s2, rfl, g3, g4⟩ := g2.consE
  have := g4.nilE; subst this
  have := g1.vE; subst this
  have := g3.vE; subst this
  refine ⟨t, q, v2, rfl, ht, hq, h3, ?_⟩
  show (match H t with
    | some (.tup (.ref q :: _)) => (match H q with
      | some (.tup [.int i, .int j]) => (i, j)
      | _ => (0, 0))
    | _ => (0, 0)) = e.1
  rw [ht]
  show (match H q with
      | some (.tup [.int i, .int j]) => (i, j)
      | _ => ((0 : Int), (0 : Int))) = e.1
  rw [hq]
theorem RepTs.mem {α : Type} {H : Hp} {f : α → D} {ss : List α} {vs : List V} {x : V} (h : RepTs H (ss.map f) vs) (hx : x ∈ vs) : ∃ (i : Nat) (s : α), vs[i]? = some x ∧ ss[i]? = some s ∧ RepT H (f s) x := by
  obtain ⟨i, hi⟩ := List.mem_iff_getElem?.mp hx
  obtain ⟨s, hs, r⟩ := h.at hi
  exact ⟨i, s, hi, hs, r⟩
/-- what sorted asks of such a list -/
theorem en_sortable {H : Hp} {f : V → D} {es : List ((Int × Int) × V)} {xs : List V} (nd : (es.map (·.1)).Nodup) (r : RepTs H (es.map (enD f)) xs) :
    (∀ x ∈ xs, ∃ t q z, x = V.ref t ∧ H t = some (.tup [.ref q, z]) ∧ H q = some (.tup [.int (kyOf H x).1, .int (kyOf H x).2])) ∧ (∀ x ∈ xs, ∀ y ∈ xs, kyOf H x = kyOf H y → x = y) := by
  refine ⟨fun x hx => ?_, fun x hx y hy e => ?_⟩
  · obtain ⟨i, s, hi, hs, r1⟩ := r.mem hx
    obtain ⟨t, q, z, e, ht, hq, _, ek⟩ := enD_at r1
    exact ⟨t, q, z, e, ht, by rw [ek]; exact hq⟩
  · obtain ⟨i, s, hi, hs, r1⟩ := r.mem hx
    obtain ⟨j, s', hj, hs', r2⟩ := r.mem hy
    obtain ⟨_, _, _, _, _, _, _, e1⟩ := enD_at r1
    obtain ⟨_, _, _, _, _, _, _, e2⟩ := enD_at r2
    rw [e1, e2] at e
    have a1 : (es.map (·.1))[i]? = some s.1 := by rw [List.getElem?_map, hs]; rfl
    have a2 : (es.map (·.1))[j]? = some s'.1 := by rw [List.getElem?_map, hs']; rfl
    have ij : i = j := by
      obtain ⟨h1, g1⟩ := List.getElem?_eq_some_iff.mp a1
      obtain ⟨h2, g2⟩ := List.getElem?_eq_some_iff.mp a2
      exact (List.getElem_inj nd).mp (by rw [g1, g2, e])
    subst ij
    rw [hi] at hj
    exact Option.some.inj hj
/-- the sorted list's data: a rearrangement of the entries, by ascending keys -/
theorem en_sorted {H : Hp} {f : V → D} {es : List ((Int × Int) × V)} {xs ys : List V} (r : RepTs H (es.map (enD f)) xs) (hs : SrtO.Srtd (ltP (kyOf H)) ys) (hp : ys.Perm xs) :
    ∃ es' : List ((Int × Int) × V), es'.Perm es ∧ RepTs H (es'.map (enD f)) ys ∧ es'.Pairwise fun a b => SrtO.lexB b.1 a.1 = false := by
  obtain ⟨es', p, r'⟩ := RepTs.perm hp r
  refine ⟨es', p, r', ?_⟩
  have hl : ys.length = es'.length := r'.lenM
  rw [List.pairwise_iff_getElem]
  intro i j hi hj hij
  obtain ⟨s1, e1, q1⟩ := r'.at (show ys[i]? = some (ys[i]'(by omega)) by simp [show i < ys.length by omega])
  obtain ⟨s2, e2, q2⟩ := r'.at (show ys[j]? = some (ys[j]'(by omega)) by simp [show j < ys.length by omega])
  obtain ⟨_, _, _, _, _, _, _, k1⟩ := enD_at q1
  obtain ⟨_, _, _, _, _, _, _, k2⟩ := enD_at q2
  have h := (List.pairwise_iff_getElem.mp hs) i j (by omega) (by omega) hij
  have h' : SrtO.lexB (kyOf H (ys[j]'(by omega))) (kyOf H (ys[i]'(by omega))) = false := h
  rw [k1, k2] at h'
  have f1 : es'[i] = s1 := by
    have : es'[i]? = some es'[i] := by simp
    rw [this] at e1; exact Option.some.inj e1
  have f2 : es'[j] = s2 := by
    have : es'[j]? = some es'[j] := by simp
    rw [this] at e2; exact Option.some.inj e2
  rw [f1, f2]
  exact h'
theorem en_uniq {es e1 e2 : List ((Int × Int) × V)} (nd : (es.map (·.1)).Nodup) (p1 : e1.Perm es) (p2 : e2.Perm es) (s1 : e1.Pairwise fun a b => SrtO.lexB b.1 a.1 = false) (s2 : e2.Pairwise fun a b => SrtO.lexB b.1 a.1 = false) : e1 = e2 := by
  refine List.Perm.eq_of_pairwise (le := fun a b => SrtO.lexB b.1 a.1 = false) (fun a b ha hb h1 h2 => ?_) s1 s2 (p1.trans p2.symm)
  have a1 := SrtO.lexB_no.mp h1
  have a2 := SrtO.lexB_no.mp h2
  have ek : a.1 = b.1 := by
    refine Prod.ext ?_ ?_ <;> omega
  have ma := p1.mem_iff.mp ha
  have mb := p2.mem_iff.mp hb
  obtain ⟨i, hi⟩ := List.mem_iff_getElem?.mp ma
  obtain ⟨j, hj⟩ := List.mem_iff_getElem?.mp mb
  have g1 : (es.map (·.1))[i]? = some a.1 := by rw [List.getElem?_map, hi]; rfl
  have g2 : (es.map (·.1))[j]? = some b.1 := by rw [List.getElem?_map, hj]; rfl
  have ij : i = j := by
    obtain ⟨h1, g1⟩ := List.getElem?_eq_some_iff.mp g1
    obtain ⟨h2, g2⟩ := List.getElem?_eq_some_iff.mp g2
    exact (List.getElem_inj nd).mp (by rw [g1, g2, ek])
  subst ij
  rw [hi] at hj
  exact Option.some.inj hj
/-! needs, as entries -/
theorem kvs_map (es : List ((Int × Int) × V)) (k t : Int) (v : V) : (kvsOf es).map (fun kv => if kv.1 = cellK k t then (kv.1, v) else kv) = kvsOf (es.map fun e => if e.1 = (k, t) then (e.1, v) else e) := by
  unfold kvsOf
  rw [List.map_map, List.map_map]
  refine List.map_congr_left fun e _ => ?_
  show (if cellK e.1.1 e.1.2 = cellK k t then (cellK e.1.1 e.1.2, v) else (cellK e.1.1 e.1.2, e.2)) = (fun e : (Int × Int) × V => (cellK e.1.1 e.1.2, e.2)) (if e.1 = (k, t) then (e.1, v) else e)
  by_cases h : e.1 = (k, t)
  · rw [if_pos h, if_pos (by rw [h])]
  · rw [if_neg h, if_neg (fun q => h (cellK_inj q))]
theorem putK_kvs {es : List ((Int × Int) × V)} (nd : (es.map (·.1)).Nodup) (k t : Int) (v : V) : ∃ es' : List ((Int × Int) × V), putK (kvsOf es) (cellK k t) v = kvsOf es' ∧ (es'.map (·.1)).Nodup ∧ ∀ e ∈ es', e ∈ es ∨ e.2 = v := by
  unfold putK
  by_cases h : ((kvsOf es).any fun kv => decide (kv.1 = cellK k t)) = true
  · rw [if_pos h, kvs_map]
    refine ⟨_, rfl, ?_, fun e he => ?_⟩
    · have e1 : (es.map fun e => if e.1 = (k, t) then (e.1, v) else e).map (·.1) = es.map (·.1) := by
        rw [List.map_map]
        refine List.map_congr_left fun e _ => ?_
        show (if e.1 = (k, t) then (e.1, v) else e).1 = e.1
        by_cases q : e.1 = (k, t)
        · rw [if_pos q]
        · rw [if_neg q]
      rw [e1]; exact nd
    · obtain ⟨e0, h0, rfl⟩ := List.mem_map.mp he
      by_cases q : e0.1 = (k, t)
      · rw [if_pos q]; exact .inr rfl
      · rw [if_neg q]; exact .inl h0
  · rw [if_neg h]
    refine ⟨es ++ [((k, t), v)], by unfold kvsOf; rw [List.map_append]; rfl, ?_, fun e he => ?_⟩
    · rw [List.map_append, List.nodup_append]
      refine ⟨nd, by simp, fun x hx y hy => ?_⟩
      intro exy
      subst exy
      simp only [List.map_cons, List.map_nil, List.mem_singleton] at hy
      obtain ⟨e0, h0, rfl⟩ := List.mem_map.mp hx
      refine h (List.any_eq_true.mpr ⟨(cellK e0.1.1 e0.1.2, e0.2), List.mem_map.mpr ⟨e0, h0, rfl⟩, ?_⟩)
      simp only [decide_eq_true_eq]
      rw [hy]
    · rcases List.mem_append.mp he with z | z
      · exact .inl z
      · rw [List.mem_singleton.mp z]; exact .inr rfl
def IntE (es : List ((Int × Int) × V)) : Prop := ∀ e ∈ es, ∃ n, e.2 = .int n
theorem bumps_en (k f : Int) : ∀ (n : Nat) {es : List ((Int × Int) × V)}, (es.map (·.1)).Nodup → IntE es → ∃ es' : List ((Int × Int) × V), bumps (kvsOf es) k f n = kvsOf es' ∧ (es'.map (·.1)).Nodup ∧ IntE es'
  | 0, es, nd, hi => ⟨es, rfl, nd, hi⟩
  | n + 1, es, nd, hi => by
    obtain ⟨e1, h1, h2, h3⟩ := bumps_en k f n nd hi
    obtain ⟨e2, h4, h5, h6⟩ := putK_kvs h2 k (f + n) (.int (cntV (kvsOf e1) (cellK k (f + n)) + 1))
    refine ⟨e2, ?_, h5, fun e he => ?_⟩
    · show bump (bumps (kvsOf es) k f n) (cellK k (f + n)) = _
      rw [h1]; exact h4
    · rcases h6 e he with z | z
      · exact h3 e z
      · exact ⟨_, z⟩
theorem needs_en : ∀ (p : List Sy) {es : List ((Int × Int) × V)}, (es.map (·.1)).Nodup → IntE es → ∃ es' : List ((Int × Int) × V), p.foldl needs1 (kvsOf es) = kvsOf es' ∧ (es'.map (·.1)).Nodup ∧ IntE es'
  | [], es, nd, hi => ⟨es, rfl, nd, hi⟩
  | s :: r, es, nd, hi => by
    obtain ⟨e1, h1, h2, h3⟩ := bumps_en s.1 s.2.1 (s.2.2 - s.2.1).toNat nd hi
    obtain ⟨e2, h4, h5, h6⟩ := needs_en r h2 h3
    refine ⟨e2, ?_, h5, h6⟩
    rw [List.foldl_cons]
    show List.foldl needs1 (bumps (kvsOf es) s.1 s.2.1 (s.2.2 - s.2.1).toNat) r = _
    rw [h1]; exact h4
theorem needsL_en (p : List Sy) : ∃ es : List ((Int × Int) × V), needsL p = kvsOf es ∧ (es.map (·.1)).Nodup ∧ IntE es := needs_en p (es := []) List.nodup_nil fun _ h => nomatch h
theorem in12 {A : Around} {k : Nat} (r : Room k A) : A.in1.in1.units < cLine := by
  have := r.un
  show A.units + 1 + 1 < cLine
  omega
def ensD (f : V → D) (es : List ((Int × Int) × V)) : D := .sq true (es.map (enD f))
theorem enD_ok {f : V → D} {e : (Int × Int) × V} {n : Nat} (h : (f e.2).ok n) (hn : 1 ≤ n) : (enD f e).ok (n + 1) := by
  refine ⟨by simp, fun d hd => ?_⟩
  rcases List.mem_cons.mp hd with rfl | hd
  · obtain ⟨m, rfl⟩ : ∃ m, n = m + 1 := ⟨n - 1, by omega⟩
    refine ⟨by simp, fun d hd => ?_⟩
    rcases List.mem_cons.mp hd with rfl | hd
    · cases m <;> trivial
    rcases List.mem_cons.mp hd with rfl | hd
    · cases m <;> trivial
    · cases hd
  rcases List.mem_cons.mp hd with rfl | hd
  · exact h
  · cases hd
theorem kvs_len (es : List ((Int × Int) × V)) : (kvsOf es).length = es.length := by unfold kvsOf; rw [List.length_map]
theorem kvs_at {es : List ((Int × Int) × V)} {i : Nat} {c : List Key} {v : V} (h : (kvsOf es)[i]? = some (c, v)) : ∃ e, es[i]? = some e ∧ c = cellK e.1.1 e.1.2 ∧ v = e.2 := by
  unfold kvsOf at h
  rw [List.getElem?_map] at h
  cases q : es[i]? with
  | none => rw [q] at h; cases h
  | some e => rw [q] at h; cases h; exact ⟨e, rfl, rfl, rfl⟩
end MD

namespace MD
open PySem PySem.Spec PyProof.Rows L2
/-! ### dicts with tuple keys: clear, del -/
section
variable {X : Cx} {pins : List (Addr × Obj)} {σ : L2.St} {H : Hp} {s : Shared} {a : Addr} {kvs : Kvs} {A : Around} {E : Value → Shared → Prop}
theorem dT_clear {Q : Value → Shared → Prop} (I : Inv X pins σ H s) (e : H a = some (.dT kvs)) (h : ∀ s', Inv X pins σ (upd H a (.dT [])) s' → Q .none s') : wpAny (model X.prog X.w) A (call (.builtin "dict.clear") [.ref a]) Q E s := by
  obtain ⟨z, hd, xs, rel, dd⟩ := dt_of I.hok e
  have hz : xs.length ≤ sizeLine := by rw [← Paired.length rel]; exact z
  obtain ⟨o, es, ep, ho, hc, hdat, he, his, hn⟩ := id dd
  have hes : es.size = xs.length := size_of_entries he
  refine call_meetsIn PySem.F.slot_dict_clear dd.typeIs PySem.F.entry_dict_clear (PySem.F.args_dict_clear_1 _) (meets_dict_clear_raw a) ⟨es, ep, ⟨o, ho, hc, hdat⟩, by omega, fun h' dd' hs => h _ ?_⟩
  obtain ⟨o', ho', hc', hd'⟩ := dd'
  exact d_write (t' := s.toks) I (by rw [e]; exact True.intro) hs ⟨o', ho'⟩ ⟨Nat.zero_le _, hd, [], .nil, o', #[], ep + 1, ho', hc', hd', rfl, List.nodup_nil⟩
end
def kClearT : V → List V → Hp → VK → Prop := fun x vs H Q => ∃ (a : Addr) (kvs : Kvs), x = .ref a ∧ vs = [] ∧ H a = some (.dT kvs) ∧ Wr H a (.dT []) (Q .non)
theorem mk_clearT {X : Cx} : MtR X "dict.clear" kClearT := by
  intro pins s σ H x vs v us Q I rx rv h
  obtain ⟨a, kvs, rfl, rfl, e, q⟩ := h
  obtain rfl : v = Value.ref a := rx
  have hus := rv.zero
  subst hus
  exact dT_clear I e fun s' I' => ⟨.non, _, I', rfl, q.old e trivial⟩
end MD

namespace MD
open PySem PySem.Spec PyProof.Rows L2
/-! ### for .. in d.items(), d with tuple keys: each a new pair of the key's own tuple and the value -/
def Itit (d : Addr) (o : Obj) (kvs : List (List Key × V)) : It :=
  ⟨fun i H => H d = some (.frz o (.dT kvs)) ∧ i < kvs.length, fun i H x H' => ∃ (T : Addr) (k : List Key) (v : V) (q : Addr), kvs[i]? = some (k, v) ∧ H q = some (.tup (k.map kV)) ∧ x = .ref T ∧ H T = none ∧ H' = upd H T (.tup [.ref q, v]), fun i H => H d = some (.frz o (.dT kvs)) ∧ kvs.length ≤ i⟩
section
variable {X : Cx} {pins : List (Addr × Obj)} {σ : L2.St} {H : Hp} {s : Shared} {d : Addr} {o : Obj}
theorem frzTv {kvs : List (List Key × V)} (I : Inv X pins σ H s) (h : H d = some (.frz o (.dT kvs))) :
    (d == sysModules) = false ∧ s.heap.get? d = some o ∧ o.ExactDict ∧ ∃ (es : Array DictEntry) (ep : Nat), o.data = .dict es ep ∧ es.size = kvs.length ∧
      ∀ (i : Nat) (k : List Key) (v : V), kvs[i]? = some (k, v) → ∃ (en : DictEntry) (q : Addr), es[i]? = some en ∧ en.key = .ref q ∧ H q = some (.tup (k.map kV)) ∧ RelV v en.val := by
  obtain ⟨hd, z, hs, xs, pr, o', es, ep, ho, hx, hdt, he, _⟩ := I.hok d _ h
  rw [hd] at ho
  cases ho
  refine ⟨hs, hd, hx, es, ep, hdt, ?_, fun i k v e => ?_⟩
  · have l1 : es.size = xs.length := size_of_entries he
    have l2 : kvs.length = xs.length := Paired.length pr
    omega
  · obtain ⟨b, hb, e1, e2, e3⟩ := paired_get pr e
    have q := entry_at he i
    rw [hb] at q
    exact ⟨_, b.2.1, q, rfl, e2, e3⟩
theorem rawT {kvs : List (List Key × V)} (I : Inv X pins σ H s) (h : H d = some (.frz o (.dT kvs))) : True := trivial
end
section
variable {P : Program} {w : World} {K : PySem.W.Frag} {d : Addr} {o : Obj} {es : Array DictEntry} {ep : Nat}
theorem turn_itemsT {kvs : List (List Key × V)} {elts : List Expr} {kk : Nat} {tpos : Pos} (it : Addr) (hod : o.data = .dict es ep) :
    Turn P w K (.Tuple elts kk tpos) (Itit d o kvs) [it] it (fun i h => ∃ ok ov, IsItemIter h it d i kvs.length ep ok ov) where
  mem := by simp
  obj := fun i h st b hb => by
    have e : b = it := by simpa using hb
    subst e
    obtain ⟨ok, ov, e⟩ := st
    exact ⟨_, e, fun v z => nomatch z⟩
  keep := fun i h h' st k => let ⟨ok, ov, e⟩ := st; ⟨ok, ov, k it (by simp) _ e⟩
  item := by
    intro X hP hw hK hc i pins s σ H E I hf st hg
    subst hP hw hK
    obtain ⟨hd, hi⟩ := hg
    obtain ⟨hs, hgd, hx, es', ep', hdt, hsz, ent⟩ := frzTv I hd
    obtain ⟨rfl, rfl⟩ := dict_ep hod hdt
    obtain ⟨⟨k, v⟩, hkv⟩ : ∃ p, kvs[i]? = some p := ⟨kvs[i], List.getElem?_eq_getElem hi⟩
    obtain ⟨en, q, hen, hkey, hq, rv⟩ := ent i k v hkv
    obtain ⟨ok, ov, he⟩ := st
    rw [← hsz] at he
    have hlt : it < s.heap.objs.size := Heap.lt_size he
    obtain ⟨hie, hee⟩ := Array.getElem?_eq_some_iff.mp hen
    refine wpAny_pyNext_items_item_raw he ⟨o, hgd, hx, hdt⟩ hie fun h' ho hT hz hk => ?_
    rw [hee, hkey] at hT ho
    refine ⟨_, rfl, wpAny_letOwnedTupleGo_items (s := { s with heap := h' }) ho fun h'' he' sb => ?_⟩
    have hT2 : h''.get? s.heap.objs.size = some { cls := .type "tuple", data := .seq #[.ref q, en.val] } := (sb.2 _ (Nat.ne_of_gt hlt)).trans hT
    have new : ObjOk X.prog X.w (upd H s.heap.objs.size (.tup [.ref q, v])) h'' s.heap.objs.size (.tup [.ref q, v]) :=
      ⟨by show 2 ≤ sizeLine; decide, [.ref q, en.val], .cons rfl (.cons rv .nil), ⟨_, hT2, rfl, _, rfl⟩⟩
    have I1 : Inv X pins σ (upd H s.heap.objs.size (.tup [.ref q, v])) { s with heap := h'' } :=
      I.turnedNew (t' := s.toks) (ch := [it]) (fun b ob hb e => (sb.2 b (by simpa using hb)).trans (hk b ob (by simpa using hb) e)) hf (Nat.le_refl _) new
    refine ⟨.ref s.heap.objs.size, _, I1, rfl, ⟨_, k, v, q, hkv, hq, rfl, I.hok.fresh (Nat.le_refl _), rfl⟩, ⟨.ref q, en.val, ?_⟩, fun b hb => ?_⟩
    · rw [← hsz]; exact he'
    · have e : b = it := by simpa using hb
      rw [e, upd_ne (Nat.ne_of_lt hlt)]
      exact (hf it (by simp)).1
  done := by
    intro X hP hw hK hc i pins s σ H E I hf st hg
    subst hP hw hK
    obtain ⟨hd, hi⟩ := hg
    obtain ⟨f0, f1, f2, f3, f4, f5⟩ := hf it (by simp)
    obtain ⟨hs, hgd, hx, es', ep', hdt, hsz, ent⟩ := frzTv I hd
    obtain ⟨rfl, rfl⟩ := dict_ep hod hdt
    obtain ⟨ok, ov, he⟩ := st
    rw [← hsz] at he
    exact wpAny_pyNext_items_end_raw (I.ok.hd hc) he ⟨o, hgd, hx, hdt⟩ (by omega) fun h' eb => ⟨rfl, I.turned (t' := s.toks) (fun b ob hb e => eb b ob hb e) f0 f1 f3 f4 f5⟩
  self := fun A i s Q E st h => let ⟨_, _, e⟩ := st; PySem.W.kcp_self e h
end
def iItemsT (td : TE) : TI := fun σ H R => td σ H fun x H1 => ∃ d o kvs, x = .ref d ∧ H1 d = some (.frz o (.dT kvs)) ∧ R (Itit d o kvs) H1
section
variable {X : Cx} {tg e : Expr} {td : TE} {apos cpos : Pos}
theorem pi_itemsT {elts : List Expr} {kk : Nat} {tpos : Pos} (he : PE X e td) (hbase : attributeBase e "items" X.env (eval e X.env) = eval e X.env := by rfl) (hline : (apos.endLine == cpos.line) = true := by rfl) :
    PI X (.Tuple elts kk tpos) (.Call (.Attribute e "items" apos) [] [] cpos) (iItemsT td) := by
  refine ⟨fun pins s σ H R I h => ?_⟩
  refine wpAny_Call_method (T := "dict") (id := "dict.items") hbase rfl hline F.plainAttrs_dict F.slot_dict_items F.type_dict_items (thn (he.run pins s σ H _ I h) fun u s1 ⟨x, H1, I1, rx, d, o, kvs, ex, hd, q⟩ => ?_)
  subst ex
  obtain rfl : u = Value.ref d := rx
  obtain ⟨hs, hgd, hx, es, ep, hdt, hsz, ent⟩ := frzTv I1 hd
  have hr : s1.heap.DictRaw d es ep := ⟨o, hgd, hx, hdt⟩
  refine ⟨hr.typeIs, fun b e => by cases e; exact ⟨o, hgd, hx.2.1⟩, ?_⟩
  have I2 : Inv X pins σ H1 { s1 with heap := s1.heap.push { cls := .type "dict_items", data := .fields #[.ref d] } } := I1.kept (t' := s1.toks) fun b ob q => Heap.get?_push_of_some _ q
  have fin : wpAny (model X.prog X.w) X.A (pyIter (.ref s1.heap.objs.size)) (PIE X pins σ (.Tuple elts kk tpos) R) X.xe { s1 with heap := s1.heap.push { cls := .type "dict_items", data := .fields #[.ref d] } } := by
    refine wpAny_pyIter_items_raw (d := d) ⟨_, Heap.get?_push_size _ rfl, rfl, rfl⟩ ⟨o, Heap.get?_push_of_some _ hgd, hx, hdt⟩ (pi_one (tk := s1.toks) I2 _ (turn_itemsT _ hdt) ⟨.none, .none, ?_⟩ q)
    rw [← hsz]
    exact Heap.get?_push_size _ rfl
  show wpAny _ _ (callWith cpos (.builtin "dict.items") [.ref d] [] []) _ X.xe s1
  exact method_meetsIn F.slot_dict_items F.entry_dict_items rfl (PySem.evalArgs_none ⟨rfl, hr.typeIs, F.args_dict_items_1 _, _, meets_dict_items_raw d hs, ⟨es, ep, hr⟩, fin⟩)
/-- a new dict, locked from here on -/
def kFrz (t : TE) : TE := fun σ H Q => t σ H fun x H1 => ∃ d kvs, x = .ref d ∧ H1 d = some (.dT kvs) ∧ ∀ od H2, Kp [d] H1 H2 → H2 d = some (.frz od (.dT kvs)) → Q x H2
theorem pe_frz (h : PE X e td) : PE X e (kFrz td) := by
  refine ⟨fun pins s σ H Q I hw => ?_⟩
  refine thn (h.run pins s σ H _ I hw) fun v s1 ⟨x, H1, I1, r, d, kvs, ex, hd, q⟩ => ?_
  obtain ⟨od, I2⟩ := I1.lock hd trivial
  exact ⟨x, _, I2, r, q od _ (Kp.old hd trivial List.mem_cons_self) upd_same⟩
end
/-- the walk of a for -/
theorem for_itemsT {d : Addr} {od : Obj} {kvs : List (List Key × V)} {g : TG} {tb : TS} {D0 : Ends} {σ : L2.St} {H : Hp} (Pv : Nat → L2.St → Hp → Prop) (h0 : Pv 0 σ H) (hl : ∀ i σ H, Pv i σ H → H d = some (.frz od (.dT kvs)))
    (hs : ∀ i k v q T σ H H', kvs[i]? = some (k, v) → H q = some (.tup (k.map kV)) → Pv i σ H → H T = none → Kp [] H H' → H' T = some (.tup [.ref q, v]) → g (.ref T) σ H' fun σ2 H2 => tb { D0 with nx := Pv (i + 1), ct := Pv (i + 1), bk := D0.nx } σ2 H2) (hd : ∀ σ H, Pv kvs.length σ H → D0.nx σ H) :
    ∃ W : Nat → Nat → L2.St → Hp → Prop, (∃ m, W 0 m σ H) ∧ ∀ i m σ H, W i m σ H →
      ((Itit d od kvs).stop i H ∧ D0.nx σ H) ∨ ((Itit d od kvs).go i H ∧ ∃ N : L2.St → Hp → Prop, (∀ σ' H', N σ' H' → ∃ m', m' < m ∧ W (i + 1) m' σ' H') ∧ ∀ x H', (Itit d od kvs).yld i H x H' → g x σ H' fun σ2 H2 => tb { D0 with nx := N, ct := N, bk := D0.nx } σ2 H2) := by
  refine ⟨fun i m σ H => m = kvs.length - i ∧ i ≤ kvs.length ∧ Pv i σ H, ⟨kvs.length, by simp, Nat.zero_le _, h0⟩, ?_⟩
  rintro i m σ H ⟨rfl, hi, p⟩
  have q := hl i σ H p
  by_cases hlt : i < kvs.length
  · refine .inr ⟨⟨q, hlt⟩, Pv (i + 1), fun σ' H' p' => ⟨kvs.length - (i + 1), by omega, rfl, hlt, p'⟩, fun x H' y => ?_⟩
    obtain ⟨T, k, v, b, e1, e2, e3, e4, e5⟩ := y
    subst e3 e5
    exact hs i k v b T σ H _ e1 e2 p e4 (Kp.new e4) upd_same
  · have e : i = kvs.length := by omega
    subst e
    exact .inl ⟨⟨q, Nat.le_refl _⟩, hd σ H p⟩
end MD

namespace MD
open PySem PySem.Spec PyProof.Rows L2
/-! ### stays and their rooms -/
def meetB (s t : Sy) : Bool := decide (s.1 = t.1) && (decide (s.2.1 < t.2.2) && decide (t.2.1 < s.2.2))
theorem meetB_iff {s t : Sy} : meetB s t = true ↔ s.1 = t.1 ∧ s.2.1 < t.2.2 ∧ t.2.1 < s.2.2 := by
  unfold meetB; simp
theorem meetB_comm (s t : Sy) : meetB s t = meetB t s := by
  rw [Bool.eq_iff_iff, meetB_iff, meetB_iff]
  constructor <;> (rintro ⟨a, b, c⟩; exact ⟨a.symm, c, b⟩)
/-- the stay s needs a room of the kind k in the night t -/
def inN (k t : Int) (s : Sy) : Bool := decide (s.1 = k) && (decide (s.2.1 ≤ t) && decide (t < s.2.2))
theorem inN_iff {k t : Int} {s : Sy} : inN k t s = true ↔ s.1 = k ∧ s.2.1 ≤ t ∧ t < s.2.2 := by
  unfold inN; simp
def capK (su : Su) (k : Int) : Int := su.rooms.getD k.toNat 0
/-- no night has too many -/
def Fits (su : Su) (ss : List Sy) : Prop := ∀ k t : Int, 0 ≤ k → k < su.rooms.length → 0 ≤ t → t < su.nights → ((ss.countP (inN k t) : Nat) : Int) ≤ capK su k
def odD : Option Int → D
  | none => .v .non
  | some r => .v (.int r)
def syN : Sy := (0, 0, 0)
def gS (ss : List Sy) (k : Nat) : Sy := ss.getD k syN
def gR (rm : List (Option Int)) (k : Nat) : Option Int := rm.getD k none
theorem gS_of {ss : List Sy} {k : Nat} {s : Sy} (h : ss[k]? = some s) : gS ss k = s := by unfold gS; rw [List.getD_eq_getElem?_getD, h]; rfl
theorem gR_of {rm : List (Option Int)} {k : Nat} {r : Option Int} (h : rm[k]? = some r) : gR rm k = r := by unfold gR; rw [List.getD_eq_getElem?_getD, h]; rfl
theorem gS_mem {ss : List Sy} {k : Nat} (h : k < ss.length) : gS ss k ∈ ss := by
  unfold gS; rw [List.getD_eq_getElem?_getD]; simp [h]
theorem gR_set {rm : List (Option Int)} {k j : Nat} {x : Option Int} (h : k < rm.length) : gR (rm.set k x) j = if j = k then x else gR rm j := by
  unfold gR
  rw [List.getD_eq_getElem?_getD, List.getD_eq_getElem?_getD]
  by_cases e : j = k
  · subst e
    rw [if_pos rfl, List.getElem?_set_self h]; rfl
  · rw [if_neg e, List.getElem?_set_ne (fun z => e z.symm)]
/-- the rooms that stays which meet the k-th have -/
def takenL (ss : List Sy) (rm : List (Option Int)) (k : Nat) : List Int := (List.range ss.length).filterMap fun j => if meetB (gS ss j) (gS ss k) = true then gR rm j else none
theorem mem_taken {ss : List Sy} {rm : List (Option Int)} {k : Nat} {r : Int} : r ∈ takenL ss rm k ↔ ∃ j, j < ss.length ∧ meetB (gS ss j) (gS ss k) = true ∧ gR rm j = some r := by
  unfold takenL
  rw [List.mem_filterMap]
  constructor
  · rintro ⟨j, hj, h⟩
    split at h
    · rename_i hm
      exact ⟨j, List.mem_range.mp hj, hm, h⟩
    · cases h
  · rintro ⟨j, hj, hm, h⟩
    exact ⟨j, List.mem_range.mpr hj, by rw [if_pos hm]; exact h⟩
structure RmOk (su : Su) (ss : List Sy) (rm : List (Option Int)) : Prop where
  len : rm.length = ss.length
  rg : ∀ k r, k < ss.length → gR rm k = some r → 0 ≤ r ∧ r < capK su (gS ss k).1
  ne : ∀ j k r, j < ss.length → k < ss.length → j ≠ k → meetB (gS ss j) (gS ss k) = true → gR rm j = some r → gR rm k ≠ some r
theorem RmOk.set {su : Su} {ss : List Sy} {rm : List (Option Int)} (h : RmOk su ss rm) {k : Nat} {r : Int} (hk : k < ss.length) (h0 : 0 ≤ r) (h1 : r < capK su (gS ss k).1) (hn : r ∉ takenL ss rm k) : RmOk su ss (rm.set k (some r)) := by
  have hkr : k < rm.length := by rw [h.len]; exact hk
  refine ⟨by rw [List.length_set]; exact h.len, fun j x hj e => ?_, fun i j x hi hj hij hm e1 e2 => ?_⟩
  · rw [gR_set hkr] at e
    by_cases z : j = k
    · subst z
      rw [if_pos rfl] at e
      cases e
      exact ⟨h0, h1⟩
    · rw [if_neg z] at e
      exact h.rg j x hj e
  · rw [gR_set hkr] at e1 e2
    by_cases z1 : i = k
    · subst z1
      rw [if_pos rfl] at e1
      cases e1
      rw [if_neg (fun z => hij z.symm)] at e2
      exact hn (mem_taken.mpr ⟨j, hj, by rw [meetB_comm]; exact hm, e2⟩)
    · rw [if_neg z1] at e1
      by_cases z2 : j = k
      · subst z2
        rw [if_pos rfl] at e2
        cases e2
        exact hn (mem_taken.mpr ⟨i, hi, hm, e1⟩)
      · rw [if_neg z2] at e2
        exact h.ne i j x hi hj hij hm e1 e2
theorem countP_lt {α : Type} {p q : α → Bool} (h : ∀ x, p x = true → q x = true) : ∀ {l : List α} {k : α}, k ∈ l → q k = true → p k = false → l.countP p + 1 ≤ l.countP q
  | a :: l, k, hk, hq, hp => by
    have mono : l.countP p ≤ l.countP q := List.countP_mono_left fun x _ => h x
    rcases List.mem_cons.mp hk with rfl | hk
    · rw [List.countP_cons_of_neg (by rw [hp]; exact Bool.false_ne_true), List.countP_cons_of_pos hq]
      omega
    · have ih := countP_lt h hk hq hp
      by_cases z : p a = true
      · rw [List.countP_cons_of_pos z, List.countP_cons_of_pos (h a z)]; omega
      · rw [List.countP_cons_of_neg z]
        have : l.countP q ≤ (a :: l).countP q := by rw [List.countP_cons]; omega
        omega
theorem countP_range (ss : List Sy) (p : Sy → Bool) : (List.range ss.length).countP (fun j => p (gS ss j)) = ss.countP p := by
  have e : (List.range ss.length).map (gS ss) = ss := by
    refine List.ext_getElem? fun i => ?_
    rw [List.getElem?_map]
    by_cases h : i < ss.length
    · rw [List.getElem?_range h]
      have : ss[i]? = some ss[i] := by simp [h]
      rw [this]
      show some (gS ss i) = _
      rw [gS_of this]
    · rw [List.getElem?_eq_none (by rw [List.length_range]; omega), List.getElem?_eq_none (by omega)]; rfl
  have := List.countP_map (p := p) (f := gS ss) (l := List.range ss.length)
  rw [e] at this
  exact this.symm
theorem filterMap_len {α β : Type} (f : α → Option β) (p : α → Bool) (h : ∀ x, (f x).isSome = true → p x = true) : ∀ l : List α, (l.filterMap f).length ≤ l.countP p
  | [] => Nat.le_refl _
  | a :: l => by
    have ih := filterMap_len f p h l
    rw [List.filterMap_cons]
    cases e : f a with
    | none =>
      have : l.countP p ≤ (a :: l).countP p := by rw [List.countP_cons]; omega
      show (l.filterMap f).length ≤ _
      omega
    | some b =>
      have hp := h a (by rw [e]; rfl)
      rw [List.countP_cons_of_pos hp]
      show (b :: l.filterMap f).length ≤ _
      rw [List.length_cons]; omega
/-- all that have a room begin no later than the k-th: fewer are taken than there are -/
theorem taken_lt {su : Su} {ss : List Sy} {rm : List (Option Int)} (F : Fits su ss) (ok : ∀ s ∈ ss, Sy.ok su s) {k : Nat} (hk : k < ss.length) (hn : gR rm k = none)
    (hf : ∀ j r, j < ss.length → gR rm j = some r → (gS ss j).2.1 ≤ (gS ss k).2.1) : ((takenL ss rm k).length : Int) < capK su (gS ss k).1 := by
  have o := ok _ (gS_mem hk)
  have h1 := F (gS ss k).1 (gS ss k).2.1 o.k0 o.k1 o.f0 (by have := o.fe; have := o.e1; omega)
  have h2 : (takenL ss rm k).length ≤ (List.range ss.length).countP fun j => decide (j < ss.length) && (meetB (gS ss j) (gS ss k) && (gR rm j).isSome) := by
    unfold takenL
    have e : ∀ l : List Nat, (∀ j ∈ l, j < ss.length) → (l.filterMap fun j => if meetB (gS ss j) (gS ss k) = true then gR rm j else none).length ≤ l.countP fun j => decide (j < ss.length) && (meetB (gS ss j) (gS ss k) && (gR rm j).isSome) := by
      intro l hl
      induction l with
      | nil => exact Nat.le_refl _
      | cons a l ih =>
        have ih := ih fun j hj => hl j (List.mem_cons_of_mem _ hj)
        have ha := hl a List.mem_cons_self
        rw [List.filterMap_cons, List.countP_cons]
        by_cases hm : meetB (gS ss a) (gS ss k) = true
        · rw [if_pos hm]
          cases e : gR rm a with
          | none => show (List.filterMap _ l).length ≤ _; omega
          | some b =>
            show (List.filterMap _ l).length + 1 ≤ _
            rw [if_pos (by simp [ha, hm, e])]
            omega
        · rw [if_neg hm]
          show (List.filterMap _ l).length ≤ _
          omega
    exact e _ fun j hj => List.mem_range.mp hj
  have h3 := countP_lt (p := fun j => decide (j < ss.length) && (meetB (gS ss j) (gS ss k) && (gR rm j).isSome)) (q := fun j => inN (gS ss k).1 (gS ss k).2.1 (gS ss j)) (l := List.range ss.length) (k := k) (fun j hj => by
    simp only [Bool.and_eq_true, decide_eq_true_eq] at hj
    obtain ⟨a, b, c⟩ := hj
    obtain ⟨m1, m2, m3⟩ := meetB_iff.mp b
    obtain ⟨r, hr⟩ := Option.isSome_iff_exists.mp c
    exact inN_iff.mpr ⟨m1, hf j r a hr, m3⟩) (List.mem_range.mpr hk) (inN_iff.mpr ⟨rfl, Int.le_refl _, o.fe⟩) (by rw [hn]; simp)
  rw [countP_range ss (inN (gS ss k).1 (gS ss k).2.1)] at h3
  omega
/-! the least number that is not in a list -/
theorem free_len (T : List Int) : ∀ n : Nat, n ≤ ((List.range n).filter fun (r : Nat) => decide ((r : Int) ∉ T)).length + T.length := by
  intro n
  induction T with
  | nil =>
    have : ((List.range n).filter fun (r : Nat) => decide ((r : Int) ∉ ([] : List Int))) = List.range n := List.filter_eq_self.mpr fun x _ => by simp
    rw [this, List.length_range, List.length_nil]; omega
  | cons a T ih =>
    have h : ∀ l : List Nat, l.Nodup → (l.filter fun (r : Nat) => decide ((r : Int) ∉ T)).length ≤ (l.filter fun (r : Nat) => decide ((r : Int) ∉ a :: T)).length + 1 := by
      intro l nd
      have key : ∀ l : List Nat, l.Nodup → (∀ r ∈ l, (r : Int) ≠ a) → (l.filter fun (r : Nat) => decide ((r : Int) ∉ T)) = (l.filter fun (r : Nat) => decide ((r : Int) ∉ a :: T)) := fun l _ hl => List.filter_congr fun r hr => by
        have := hl r hr
        simp [this]
      induction l with
      | nil => exact Nat.zero_le _
      | cons b l ihl =>
        obtain ⟨n1, n2⟩ := List.nodup_cons.mp nd
        have ihl := ihl n2
        by_cases e : (b : Int) = a
        · have hl : ∀ r ∈ l, (r : Int) ≠ a := fun r hr z => n1 (by have : r = b := by omega
                                                                   rw [← this]; exact hr)
          have k := key l n2 hl
          rw [List.filter_cons, List.filter_cons, ← k]
          split <;> split <;> (try simp only [List.length_cons]) <;> omega
        · have e2 : decide ((b : Int) ∉ T) = decide ((b : Int) ∉ a :: T) := by simp [e]
          rw [List.filter_cons, List.filter_cons, e2]
          split
          · simp only [List.length_cons]; omega
          · exact ihl
    have := h (List.range n) List.nodup_range
    rw [List.length_cons]
    omega
def IsL (T : List Int) (r : Nat) : Prop := (r : Int) ∉ T ∧ ∀ s : Nat, s < r → (s : Int) ∈ T
theorem IsL.uniq {T : List Int} {r s : Nat} (h : IsL T r) (g : IsL T s) : r = s := by
  rcases Nat.lt_trichotomy r s with z | z | z
  · exact absurd (g.2 r z) h.1
  · exact z
  · exact absurd (h.2 s z) g.1
theorem IsL.ex (T : List Int) : ∃ r, IsL T r ∧ r ≤ T.length := by
  have h : ∃ r : Nat, (r : Int) ∉ T ∧ r ≤ T.length := by
    have h := free_len T (T.length + 1)
    cases e : (List.range (T.length + 1)).filter fun (r : Nat) => decide ((r : Int) ∉ T) with
    | nil => rw [e, List.length_nil] at h; omega
    | cons a l =>
      have ha : a ∈ (List.range (T.length + 1)).filter fun (r : Nat) => decide ((r : Int) ∉ T) := by rw [e]; exact List.mem_cons_self
      obtain ⟨h1, h2⟩ := List.mem_filter.mp ha
      exact ⟨a, of_decide_eq_true h2, by have := List.mem_range.mp h1; omega⟩
  obtain ⟨r, h1, h2⟩ := h
  have : ∀ n r : Nat, r ≤ n → (r : Int) ∉ T → ∃ s, IsL T s ∧ s ≤ r := by
    intro n
    induction n with
    | zero => intro r hr hn; exact ⟨r, ⟨hn, fun s hs => by omega⟩, Nat.le_refl _⟩
    | succ n ih =>
      intro r hr hn
      by_cases z : ∀ s : Nat, s < r → (s : Int) ∈ T
      · exact ⟨r, ⟨hn, z⟩, Nat.le_refl _⟩
      · have ⟨s, hs⟩ := Classical.not_forall.mp z
        have ⟨h3, h4⟩ := Classical.not_imp.mp hs
        obtain ⟨u, hu, hl⟩ := ih s (by omega) h4
        exact ⟨u, hu, by omega⟩
  obtain ⟨s, hs, hl⟩ := this r r (Nat.le_refl _) h1
  exact ⟨s, hs, by omega⟩
noncomputable def leastN (T : List Int) : Nat := Classical.choose (IsL.ex T)
theorem leastN_is (T : List Int) : IsL T (leastN T) := (Classical.choose_spec (IsL.ex T)).1
theorem leastN_le (T : List Int) : leastN T ≤ T.length := (Classical.choose_spec (IsL.ex T)).2
/-- the first of the free ones is the least -/
theorem free_head {T : List Int} {n a : Nat} {l : List Nat} (h : (List.range n).filter (fun (r : Nat) => decide ((r : Int) ∉ T)) = a :: l) : a = leastN T := by
  refine IsL.uniq ⟨?_, fun s hs => ?_⟩ (leastN_is T)
  · have ha : a ∈ (List.range n).filter fun (r : Nat) => decide ((r : Int) ∉ T) := by rw [h]; exact List.mem_cons_self
    exact of_decide_eq_true (List.mem_filter.mp ha).2
  · refine Classical.byContradiction fun z => ?_
    have ha : a ∈ (List.range n).filter fun (r : Nat) => decide ((r : Int) ∉ T) := by rw [h]; exact List.mem_cons_self
    have hs' : s ∈ (List.range n).filter fun (r : Nat) => decide ((r : Int) ∉ T) := List.mem_filter.mpr ⟨List.mem_range.mpr (by have := List.mem_range.mp (List.mem_filter.mp ha).1; omega), decide_eq_true z⟩
    have pw : ((List.range n).filter fun (r : Nat) => decide ((r : Int) ∉ T)).Pairwise (· < ·) := List.Pairwise.filter _ List.pairwise_lt_range
    rw [h] at pw hs'
    rcases List.mem_cons.mp hs' with e | e
    · omega
    · have := (List.pairwise_cons.mp pw).1 s e
      omega
/-- each of the given order takes the least room that is left -/
noncomputable def stepH (ss : List Sy) (rm : List (Option Int)) (k : Nat) : List (Option Int) := if gR rm k = none then rm.set k (some (leastN (takenL ss rm k) : Int)) else rm
noncomputable def runH (ss : List Sy) (rm : List (Option Int)) (os : List Nat) : List (Option Int) := os.foldl (stepH ss) rm
/-- of those in rest that have no room none begins before one that has -/
def Lat (ss : List Sy) (rm : List (Option Int)) (rest : List Nat) : Prop := ∀ j k r, j < ss.length → gR rm j = some r → k ∈ rest → gR rm k = none → (gS ss j).2.1 ≤ (gS ss k).2.1
theorem stepH_ok {su : Su} {ss : List Sy} {rm : List (Option Int)} {k : Nat} {rest : List Nat} (F : Fits su ss) (ok : ∀ s ∈ ss, Sy.ok su s) (h : RmOk su ss rm) (hk : k < ss.length) (hl : Lat ss rm (k :: rest)) (hs : ∀ j ∈ rest, (gS ss k).2.1 ≤ (gS ss j).2.1) :
    RmOk su ss (stepH ss rm k) ∧ Lat ss (stepH ss rm k) rest ∧ (gR rm k = none → ((takenL ss rm k).length : Int) < capK su (gS ss k).1) := by
  unfold stepH
  by_cases z : gR rm k = none
  · have hc := taken_lt F ok hk z fun j r hj e => hl j k r hj e List.mem_cons_self z
    have hle := leastN_le (takenL ss rm k)
    have hkr : k < rm.length := by rw [h.len]; exact hk
    rw [if_pos z]
    refine ⟨h.set hk (by omega) (by omega) (leastN_is _).1, fun j i r hj e hi hn => ?_, fun _ => hc⟩
    rw [gR_set hkr] at e hn
    by_cases zi : i = k
    · rw [if_pos zi] at hn; cases hn
    · rw [if_neg zi] at hn
      by_cases zj : j = k
      · subst zj
        exact hs i hi
      · rw [if_neg zj] at e
        exact hl j i r hj e (List.mem_cons_of_mem _ hi) hn
  · rw [if_neg z]
    exact ⟨h, fun j i r hj e hi hn => hl j i r hj e (List.mem_cons_of_mem _ hi) hn, fun q => absurd q z⟩
end MD

namespace MD
open PySem PySem.Spec PyProof.Rows L2
/-! ### enumerate; sorted pairs of ints -/
theorem pi_enumK {X : Cx} {K : PySem.W.Frag} {e : Expr} {ta : TA} {p pos tpos : Pos} {elts : List Expr} {kk : Nat} (hg : Gl X "enumerate") (hm : X.mg "enumerate" = none) (ha : PA X [e] ta) (hs : starEach [e] X.env = [(false, eval e X.env)] := by rfl) (hK : X.K = K := by rfl) :
    PI X (.Tuple elts kk tpos) (.Call (.Name "enumerate" p) [e] [] pos) (iEnum K ta) := by subst hK; exact pi_enum hg hm ha hs
section
variable {K : PySem.W.Frag} {a : Addr} {xs : List V} {g : TG} {σ : L2.St}
theorem kl_enum {tt : TT} {te : TE} {vs : List Nat} {H1 : Hp} {D : Addr} {Qd : Hp → Prop} (Pv : Nat → List V → Hp → Prop) (h0 : Pv 0 [] H1) (hl : ∀ i acc H, Pv i acc H → SqL K H a xs)
    (hs : ∀ i x T acc H H', xs[i]? = some x → H T = none → Kp [] H H' → H' T = some (.tup [.int (i : Nat), x]) → H D = some (.lst acc) → Pv i acc H → Turn1 g tt te vs σ D acc (Pv (i + 1)) (.ref T) H') (hd : ∀ acc H, H D = some (.lst acc) → Pv xs.length acc H → Qd H) : kLcW g tt te vs σ (Ite K a) D H1 Qd := by
  refine ⟨fun i m acc H => m = xs.length - i ∧ i ≤ xs.length ∧ Pv i acc H, ⟨xs.length, by simp, Nat.zero_le _, h0⟩, ?_⟩
  rintro i m acc H hD ⟨rfl, hi, p⟩
  have q := hl i acc H p
  by_cases hlt : i < xs.length
  · refine .inr ⟨⟨xs, xs[i], q, by simp [hlt]⟩, Pv (i + 1), fun acc H' p' => ⟨xs.length - (i + 1), by omega, rfl, hlt, p'⟩, fun x H' y => ?_⟩
    obtain ⟨T, x1, e1, e2, e3, y⟩ := y
    subst e1 e3
    exact hs i x1 T acc H _ (y xs q) e2 (Kp.new e2) upd_same hD p
  · have e : i = xs.length := by omega
    subst e
    exact .inl ⟨⟨xs, q, Nat.le_refl _⟩, hd acc H hD p⟩
theorem for_enum {tb : TS} {D0 : Ends} {H : Hp} (Pv : Nat → L2.St → Hp → Prop) (h0 : Pv 0 σ H) (hl : ∀ i σ H, Pv i σ H → SqL K H a xs)
    (hs : ∀ i x T σ H H', xs[i]? = some x → Pv i σ H → H T = none → Kp [] H H' → H' T = some (.tup [.int (i : Nat), x]) → g (.ref T) σ H' fun σ2 H2 => tb { D0 with nx := Pv (i + 1), ct := Pv (i + 1), bk := D0.nx } σ2 H2) (hd : ∀ σ H, Pv xs.length σ H → D0.nx σ H) :
    ∃ W : Nat → Nat → L2.St → Hp → Prop, (∃ m, W 0 m σ H) ∧ ∀ i m σ H, W i m σ H →
      ((Ite K a).stop i H ∧ D0.nx σ H) ∨ ((Ite K a).go i H ∧ ∃ N : L2.St → Hp → Prop, (∀ σ' H', N σ' H' → ∃ m', m' < m ∧ W (i + 1) m' σ' H') ∧ ∀ x H', (Ite K a).yld i H x H' → g x σ H' fun σ2 H2 => tb { D0 with nx := N, ct := N, bk := D0.nx } σ2 H2) := by
  refine ⟨fun i m σ H => m = xs.length - i ∧ i ≤ xs.length ∧ Pv i σ H, ⟨xs.length, by simp, Nat.zero_le _, h0⟩, ?_⟩
  rintro i m σ H ⟨rfl, hi, p⟩
  have q := hl i σ H p
  by_cases hlt : i < xs.length
  · refine .inr ⟨⟨xs, xs[i], q, by simp [hlt]⟩, Pv (i + 1), fun σ' H' p' => ⟨xs.length - (i + 1), by omega, rfl, hlt, p'⟩, fun x H' y => ?_⟩
    obtain ⟨T, x1, e1, e2, e3, y⟩ := y
    subst e1 e3
    exact hs i x1 T σ H _ (y xs q) p e2 (Kp.new e2) upd_same
  · have e : i = xs.length := by omega
    subst e
    exact .inl ⟨⟨xs, q, Nat.le_refl _⟩, hd σ H p⟩
end
def kSortPO (K : PySem.W.Frag) : List V → Hp → VK → Prop := fun vs H Q => ∃ (a : Addr) (xs : List V) (k : V → Int × Int), vs = [V.ref a] ∧ SqL K H a xs ∧ (∀ x ∈ xs, ∃ t, x = V.ref t ∧ H t = some (.tup [.int (k x).1, .int (k x).2])) ∧
  ∀ ys, SrtO.Srtd (ltP k) ys → ys.Perm xs → New H (.lst ys) Q
theorem ksortPO {X : Cx} {K : PySem.W.Frag} (h : X.K = K := by rfl) : CallR X (.builtin "sorted") (kSortPO K) := by
  subst h
  exact callI cr_sortedPO fun xs H Q ⟨a, ys, k, h1, h2, h3, h4⟩ => ⟨a, ys, k, h1, h2, h3, fun zs p h5 h6 h7 => (h4 zs h5 h6.perm).old p h7⟩
def prD (a b : Int) : D := .sq false [.v (.int a), .v (.int b)]
def kyP (H : Hp) : V → Int × Int := fun x => match x with
  | .ref t => (match H t with | some (.tup [.int i, .int j]) => (i, j) | _ => (0, 0))
  | _ => (0, 0)
theorem prD_at {H : Hp} {a b : Int} {x : V} (h : RepT H (prD a b) x) : ∃ t, x = .ref t ∧ H t = some (.tup [.int a, .int b]) ∧ kyP H x = (a, b) := by
  obtain ⟨t, vs, rfl, ht, rw⟩ := RepT.tupE h
  obtain ⟨v1, r1, rfl, g1, rw⟩ := rw.consE
  obtain ⟨v2, r2, rfl, g2, rw⟩ := rw.consE
  have := rw.nilE; subst this
  have := g1.vE; subst this
  have := g2.vE; subst this
  refine ⟨t, rfl, ht, ?_⟩
  show (match H t with | some (.tup [.int i, .int j]) => (i, j) | _ => (0, 0)) = (a, b)
  rw [ht]
def kf (ss : List Sy) (k : Nat) : Int := (gS ss k).2.1
/-- in the order of the first nights -/
def IsOrd (ss : List Sy) (ks os : List Nat) : Prop := os.Perm ks ∧ os.Pairwise fun i j => ¬ (kf ss j < kf ss i ∨ (kf ss j = kf ss i ∧ j < i))
theorem IsOrd.uniq {ss : List Sy} {ks o1 o2 : List Nat} (h1 : IsOrd ss ks o1) (h2 : IsOrd ss ks o2) : o1 = o2 :=
  List.Perm.eq_of_pairwise (le := fun i j => ¬ (kf ss j < kf ss i ∨ (kf ss j = kf ss i ∧ j < i))) (fun a b _ _ q1 q2 => by omega) h1.2 h2.2 (h1.1.trans h2.1.symm)
theorem IsOrd.filter {ss : List Sy} {ks os : List Nat} (h : IsOrd ss ks os) (p : Nat → Bool) : IsOrd ss (ks.filter p) (os.filter p) := ⟨h.1.filter p, h.2.filter p⟩
theorem ord_of {H : Hp} {ss : List Sy} {ks : List Nat} {xs ys : List V} (r : RepTs H (ks.map fun k => prD (kf ss k) (k : Nat)) xs) (hs : SrtO.Srtd (ltP (kyP H)) ys) (hp : ys.Perm xs) :
    ∃ os, IsOrd ss ks os ∧ RepTs H (os.map fun k => prD (kf ss k) (k : Nat)) ys := by
  obtain ⟨os, p, r'⟩ := RepTs.perm hp r
  refine ⟨os, ⟨p, ?_⟩, r'⟩
  have hl : ys.length = os.length := r'.lenM
  rw [List.pairwise_iff_getElem]
  intro i j hi hj hij
  obtain ⟨s1, e1, q1⟩ := r'.at (show ys[i]? = some (ys[i]'(by omega)) by simp [show i < ys.length by omega])
  obtain ⟨s2, e2, q2⟩ := r'.at (show ys[j]? = some (ys[j]'(by omega)) by simp [show j < ys.length by omega])
  obtain ⟨_, _, _, k1⟩ := prD_at q1
  obtain ⟨_, _, _, k2⟩ := prD_at q2
  have h := (List.pairwise_iff_getElem.mp hs) i j (by omega) (by omega) hij
  have h' : SrtO.lexB (kyP H (ys[j]'(by omega))) (kyP H (ys[i]'(by omega))) = false := h
  rw [k1, k2] at h'
  have f1 : os[i] = s1 := by
    have : os[i]? = some os[i] := by simp
    rw [this] at e1; exact Option.some.inj e1
  have f2 : os[j] = s2 := by
    have : os[j]? = some os[j] := by simp
    rw [this] at e2; exact Option.some.inj e2
  rw [f1, f2]
  have := SrtO.lexB_no.mp h'
  simp only at this
  omega
/-- who has a room already is passed over -/
theorem runH_filter {ss : List Sy} {rm0 : List (Option Int)} : ∀ {os : List Nat} {rm : List (Option Int)}, os.Nodup → (∀ k ∈ os, k < rm.length) → (∀ k ∈ os, gR rm k = none ↔ gR rm0 k = none) →
    runH ss rm os = runH ss rm (os.filter fun k => decide (gR rm0 k = none))
  | [], _, _, _, _ => rfl
  | k :: os, rm, nd, hl, h => by
    obtain ⟨n1, n2⟩ := List.nodup_cons.mp nd
    have hk := hl k List.mem_cons_self
    have hs : ∀ j ∈ os, gR (stepH ss rm k) j = gR rm j := fun j hj => by
      unfold stepH
      split
      · rw [gR_set hk, if_neg (fun z => n1 (by rw [← z]; exact hj))]
      · rfl
    have hlen : (stepH ss rm k).length = rm.length := by
      unfold stepH
      split
      · rw [List.length_set]
      · rfl
    have ih := runH_filter (ss := ss) (rm0 := rm0) (os := os) (rm := stepH ss rm k) n2 (fun j hj => by rw [hlen]; exact hl j (List.mem_cons_of_mem _ hj)) (fun j hj => by rw [hs j hj]; exact h j (List.mem_cons_of_mem _ hj))
    show runH ss (stepH ss rm k) os = _
    rw [List.filter_cons]
    by_cases z : gR rm0 k = none
    · rw [if_pos (by simp [z])]
      exact ih
    · rw [if_neg (by simp [z]), ih]
      have : gR rm k ≠ none := fun q => z ((h k List.mem_cons_self).mp q)
      have e : stepH ss rm k = rm := if_neg this
      rw [e]
theorem runH_ok {su : Su} {ss : List Sy} (F : Fits su ss) (ok : ∀ s ∈ ss, Sy.ok su s) : ∀ {os : List Nat} {rm : List (Option Int)}, RmOk su ss rm → (∀ k ∈ os, k < ss.length) → os.Pairwise (fun i j => kf ss i ≤ kf ss j) → Lat ss rm os →
    RmOk su ss (runH ss rm os) ∧ (∀ k ∈ os, gR (runH ss rm os) k ≠ none) ∧ ∀ k, gR rm k ≠ none → gR (runH ss rm os) k = gR rm k
  | [], rm, h, _, _, _ => ⟨h, (fun _ z => nomatch z), fun _ _ => rfl⟩
  | k :: os, rm, h, hl, pw, la => by
    obtain ⟨p1, p2⟩ := List.pairwise_cons.mp pw
    have hk := hl k List.mem_cons_self
    obtain ⟨s1, s2, s3⟩ := stepH_ok F ok h hk la p1
    obtain ⟨r1, r2, r3⟩ := runH_ok F ok (os := os) s1 (fun j hj => hl j (List.mem_cons_of_mem _ hj)) p2 s2
    have hkr : k < rm.length := by rw [h.len]; exact hk
    have kn : gR (stepH ss rm k) k ≠ none := by
      unfold stepH
      by_cases z : gR rm k = none
      · rw [if_pos z, gR_set hkr, if_pos rfl]; exact fun q => by cases q
      · rw [if_neg z]; exact z
    refine ⟨r1, fun j hj => ?_, fun j hj => ?_⟩
    · rcases List.mem_cons.mp hj with rfl | hj
      · show gR (runH ss (stepH ss rm j) os) j ≠ none
        rw [r3 j kn]; exact kn
      · exact r2 j hj
    · have e : gR (stepH ss rm k) j = gR rm j := by
        unfold stepH
        by_cases z : gR rm k = none
        · rw [if_pos z, gR_set hkr, if_neg (fun q => hj (by rw [q]; exact z))]
        · rw [if_neg z]
      show gR (runH ss (stepH ss rm k) os) j = gR rm j
      rw [r3 j (by rw [e]; exact hj), e]
end MD

namespace MD
open PySem PySem.Spec PyProof.Rows L2
/-! ### what needs count -/
theorem cntV_bump (kvs : Kvs) (c d : List Key) : cntV (bump kvs c) d = cntV kvs d + (if d = c then 1 else 0) := by
  unfold bump cntV
  rw [valV_put]
  by_cases h : d = c
  · subst h; simp
  · simp [h]
theorem cellK_iff {a b c d : Int} : cellK a b = cellK c d ↔ a = c ∧ b = d := ⟨fun h => by have := cellK_inj h; exact ⟨congrArg Prod.fst this, congrArg Prod.snd this⟩, fun h => by rw [h.1, h.2]⟩
theorem cntV_bumps (kvs : Kvs) (k f k' t : Int) : ∀ n : Nat, cntV (bumps kvs k f n) (cellK k' t) = cntV kvs (cellK k' t) + (if k' = k ∧ f ≤ t ∧ t < f + n then 1 else 0)
  | 0 => by
    rw [if_neg (by omega)]
    show cntV kvs _ = _
    omega
  | n + 1 => by
    show cntV (bump (bumps kvs k f n) (cellK k (f + n))) (cellK k' t) = _
    rw [cntV_bump, cntV_bumps kvs k f k' t n]
    by_cases h : cellK k' t = cellK k (f + n)
    · rw [if_pos h]
      obtain ⟨h1, h2⟩ := cellK_iff.mp h
      rw [if_neg (by omega), if_pos (by omega)]; omega
    · rw [if_neg h]
      have h' : ¬ (k' = k ∧ t = f + n) := fun z => h (cellK_iff.mpr z)
      by_cases z : k' = k ∧ f ≤ t ∧ t < f + n
      · rw [if_pos z, if_pos (by omega)]; omega
      · rw [if_neg z, if_neg (by omega)]; omega
theorem cnt_fold (k t : Int) : ∀ (p : List Sy) (kvs : Kvs), (∀ s ∈ p, s.2.1 ≤ s.2.2) → cntV (p.foldl needs1 kvs) (cellK k t) = cntV kvs (cellK k t) + ((p.countP (inN k t) : Nat) : Int)
  | [], kvs, _ => by simp
  | s :: p, kvs, h => by
    have hs := h s List.mem_cons_self
    rw [List.foldl_cons, cnt_fold k t p _ fun x hx => h x (List.mem_cons_of_mem _ hx)]
    unfold needs1
    rw [cntV_bumps, List.countP_cons]
    by_cases z : inN k t s = true
    · obtain ⟨z1, z2, z3⟩ := inN_iff.mp z
      rw [if_pos (by omega), if_pos z]; omega
    · have z' : ¬ (s.1 = k ∧ s.2.1 ≤ t ∧ t < s.2.2) := fun q => z (inN_iff.mpr q)
      rw [if_neg (by omega), if_neg z]; omega
theorem cnt_needs {p : List Sy} (h : ∀ s ∈ p, s.2.1 ≤ s.2.2) (k t : Int) : cntV (needsL p) (cellK k t) = ((p.countP (inN k t) : Nat) : Int) := by
  unfold needsL
  rw [cnt_fold k t p [] h]
  show (0 : Int) + _ = _
  omega
def roomsOf (su : Su) (k : Int) : Int := if 0 ≤ k ∧ k < su.rooms.length then capK su k else 0
/-- an entry of the needs, in an inn whose nights have not too many -/
theorem need_le {su : Su} {p : List Sy} (so : su.ok) (ok : ∀ s ∈ p, Sy.ok su s) (F : Fits su p) (c0 : ∀ k : Int, 0 ≤ k → k < su.rooms.length → 0 ≤ capK su k) (k t : Int) : ((p.countP (inN k t) : Nat) : Int) ≤ roomsOf su k := by
  by_cases z : p.countP (inN k t) = 0
  · rw [z]
    unfold roomsOf
    split
    · rename_i h; exact c0 k h.1 h.2
    · exact Int.le_refl _
  · obtain ⟨s, hs, h⟩ := List.countP_pos_iff.mp (Nat.pos_of_ne_zero z)
    obtain ⟨h1, h2, h3⟩ := inN_iff.mp h
    have o := ok s hs
    have := o.k0; have := o.k1; have := o.f0; have := o.e1
    unfold roomsOf
    rw [if_pos (by omega)]
    exact F k t (by omega) (by omega) (by omega) (by omega)
/-- the rooms of those that meet s -/
def besideU (ss : List Sy) (rm : List (Option Int)) (s : Sy) (n : Nat) : List (Option Int) := (List.range n).filterMap fun j => if meetB (gS ss j) s = true then some (gR rm j) else none
theorem besideU_s (ss : List Sy) (rm : List (Option Int)) (s : Sy) (n : Nat) : besideU ss rm s (n + 1) = besideU ss rm s n ++ (if meetB (gS ss n) s = true then [gR rm n] else []) := by
  unfold besideU
  rw [List.range_succ, List.filterMap_append]
  congr 1
  rw [List.filterMap_cons, List.filterMap_nil]
  by_cases h : meetB (gS ss n) s = true
  · rw [if_pos h, if_pos h]
  · rw [if_neg h, if_neg h]
theorem besideU_len (ss : List Sy) (rm : List (Option Int)) (s : Sy) (n : Nat) : (besideU ss rm s n).length ≤ n := by
  have := List.length_filterMap_le (fun j => if meetB (gS ss j) s = true then some (gR rm j) else none) (List.range n)
  rw [List.length_range] at this
  exact this
theorem mem_beside {ss : List Sy} {rm : List (Option Int)} {s : Sy} {n : Nat} {r : Option Int} : r ∈ besideU ss rm s n ↔ ∃ j, j < n ∧ meetB (gS ss j) s = true ∧ gR rm j = r := by
  unfold besideU
  rw [List.mem_filterMap]
  constructor
  · rintro ⟨j, hj, h⟩
    split at h
    · rename_i hm
      exact ⟨j, List.mem_range.mp hj, hm, Option.some.inj h⟩
    · cases h
  · rintro ⟨j, hj, hm, h⟩
    exact ⟨j, List.mem_range.mpr hj, by rw [if_pos hm, h]⟩
theorem beside_taken {ss : List Sy} {rm : List (Option Int)} {k : Nat} {r : Int} : some r ∈ besideU ss rm (gS ss k) ss.length ↔ r ∈ takenL ss rm k := by
  rw [mem_beside, mem_taken]
theorem RepTs.take {H : Hp} : ∀ {ds : List D} {vs : List V} {i : Nat}, RepTs H ds vs → RepTs H (ds.take i) (vs.take i)
  | [], vs, i, h => by
    have := h.nilE; subst this
    rw [List.take_nil, List.take_nil]
    exact RepTs.nil
  | d :: ds, vs, i, h => by
    obtain ⟨v, r, rfl, h1, h2⟩ := h.consE
    cases i with
    | zero => exact RepTs.nil
    | succ i => exact RepTs.cons h1 (RepTs.take h2)
end MD

namespace MD
open PySem PySem.Spec PyProof.Rows L2
/-! ### defs that may raise -/
structure CalX (P : Program) (w : World) (K : PySem.W.Frag) (mg : Str → Option Value) (base : Heap) (k : Nat) (x : Str) (sp : Sp) : Prop where
  ex : ∃ (f : Addr) (fd : FuncData) (ps : List Str), FnOk P w K mg base (L2.CX P w) k f fd ps sp ∧ mg x = some (.ref f) ∧ PySem.W.keepIn K (.ref f) = true ∧ Binds K fd ps []
section
variable {P : Program} {w : World} {K : PySem.W.Frag} {mg : Str → Option Value} {base : Heap}
theorem calX_of {x : Str} {st : Stmt} {N ps : List Str} {k : Nat} {sp : Sp} (D : DefAt K mg x st ps) (S : FnScope N ps (defScope st)) (len : ∀ vs H Q E, sp vs H Q E → vs.length = ps.length)
    (hbody : ∀ (f : Addr) (cdv : Value) (A : Around) (outer : List Env) (s : Shared) (H : Hp) (vs : List V) (Q : VK) (E : XK), Room k (A.deeper (envOfC x (defScope st) s.heap.objs.size f cdv)) → sp vs H Q E →
      ∃ t, PSs (cxOf (L2.CX P w) P w K mg base N x (defScope st) f cdv A outer s H E) (defBody st) t ∧ t { nx := fun _ H' => Q .non H', rt := Q } (start N vs) H) : CalX P w K mg base (k + 1) x sp := by
  obtain ⟨f, fd, hm, F, b⟩ := D.ex
  exact ⟨f, fd, ps, F.okX S len (hbody f), hm, F.kp, b⟩
end
section
variable {X : Cx} {k : Nat} {x : Str} {sp : Sp} {p pos : Pos} {e : Expr} {es : List Expr} {t : TA} {E : L2.St → XK}
theorem pe_cX (c : CalX X.prog X.w X.K X.mg X.base k x sp) (hr : Room k X.A) (hg : Gl X x) (hx : ∀ σ, PassesAt (L2.CX X.prog X.w) X σ (E σ)) (ha : PA X (e :: es) t)
    (hdb : (x == ("__debug__" : Str)) = false := by decide) (he : starEach (e :: es) X.env = (false, eval e X.env) :: starEach es X.env := by rfl) (hpl : (backTo pos (starEach es X.env)).any (·.1) = false := by rfl) :
    PE X (.Call (.Name x p) (e :: es) [] pos) (tCallS sp E t) := by
  obtain ⟨f, fd, ps, F, hm, kp, b⟩ := c.ex
  exact pe_callS F hr hg hm kp b hx ha hdb he hpl
end
/-- what a raise of the class C asks: facts of the class -/
structure ExcC (K : PySem.W.Frag) (mg : Str → Option Value) (x : Str) (C : Addr) : Prop where
  g : mg x = some (.ref C)
  e : PySem.W.excIn K C [.type "ValueError", .type "Exception", .type "BaseException", .type "object"] "ValueError.__new__" = true
  k : PySem.W.keepIn K (.ref C) = true
  b : PySem.W.subIn K (.ref C) (.type "BaseException") = some true
  t : PySem.W.typeIn K (.ref C) = some (.type "type")
theorem ps_rz {X : Cx} {x m : Str} {C : Addr} {W : WX} {j : Nat} {p p2 pos pos' : Pos} (c : ExcC X.K X.mg x C) (hc : X.calm = true) (tk : Takes X W) (hg : Gl X x) (hdb : (x == ("__debug__" : Str)) = false := by decide) :
    PS X (.Raise (some (.Call (.Name x p) [.Constant (.str m) j p2] [] pos)) none pos') (fun _ σ H => W (.ref C) none σ H) :=
  ps_raise hc tk (pmk_own PySem.F.excBase_ValueError c.e c.g c.k (raises_own c.b c.t) hg hdb)
theorem exm_self {K : PySem.W.Frag} {C : Addr} (b : PySem.W.subIn K (.ref C) (.type "BaseException") = some true) (i : PySem.W.isClsIn K C = true) (t : PySem.W.typeIn K (.ref C) = some (.type "type")) (s : PySem.W.subIn K (.ref C) (.ref C) = some true) :
    PySem.W.exmOne K (.ref C) (.ref C) = some true := by
  have i : (PySem.W.clsIn K C).isSome = true := i
  show (if (PySem.W.subIn K (.ref C) (.type "BaseException") == some true) = true then PySem.W.kitCls K (.ref C) (.ref C) else none) = some true
  rw [b, if_pos (by rfl)]
  show (if ((PySem.W.clsIn K C).isSome && PySem.W.typeIn K (.ref C) == some (.type "type")) = true then PySem.W.subIn K (.ref C) (.ref C) else none) = some true
  rw [i, t, if_pos (by rfl), s]
end MD

namespace MD
open PySem PySem.Spec PyProof.Rows L2
/-! ### defs that are called while nothing is being shown (no guard): for str(..) of nested data -/
structure FnG (P : Program) (w : World) (K : PySem.W.Frag) (mg : Str → Option Value) (base : Heap) (Z : CXT)
    (k : Nat) (f : Addr) (fd : FuncData) (ps : List Str) (sp : Sp) : Prop where
  ln : ∀ vs H Q E, sp vs H Q E → vs.length = ps.length
  go : ∀ (A : Around) (up : List Env) (s : Shared) (H : Hp) (ar : Args) (us : List Value) (vs : List V) (Q : VK) (E : XK),
    Room k A → A.guards = some [] → Env0 P w K mg base A up s H → BindsTo s fd ar (ps.zip us) → Vals vs us →
    sp vs H Q E → codeAny (model P w) A (.call (.ref f) ar) (CR Z up P w H s Q E) s
section
variable {P : Program} {w : World} {K : PySem.W.Frag} {mg : Str → Option Value} {base : Heap}
theorem fnG_of {Z : CXT} {x qual : Str} {st : Stmt} {f : Addr} {fd : FuncData} {N ps : List Str} {k : Nat} {sp : Sp}
    (F : Fun K x qual st f fd) (S : FnScope N ps (defScope st)) (ln : ∀ vs H Q E, sp vs H Q E → vs.length = ps.length)
    (body : ∀ (cdv : Value) (A : Around) (up : List Env) (s : Shared) (H : Hp) (vs : List V) (Q : VK) (E : XK),
      Room k (A.deeper (envOfC qual (defScope st) s.heap.objs.size f cdv)) → A.guards = some [] → sp vs H Q E →
      ∃ t, PSs (cxOf Z P w K mg base N qual (defScope st) f cdv A up s H E).nox (defBody st) t ∧
        t { nx := fun _ H' => Q .non H', rt := Q } (start N vs) H) : FnG P w K mg base Z (k + 1) f fd ps sp := by
  obtain ⟨oc, od, kV, doc, pm, an, cdv, ct, osl, rfl, lk, hcd⟩ := F.ex
  refine ⟨ln, fun A up s H ar us vs Q E rm gu e0 bi rv h => ?_⟩
  have inK : K.In s.heap := e0.mod.kin.keeps fun b o q => (e0.bs b o q).1
  have hl := ln _ _ _ _ h
  refine codeAny_call_function rm.depth (inK _ _ lk) rfl S.co S.gen rfl (PySem.W.codeRec_of inK hcd) (bi _ _ _ _ ?_)
  have kd : ∀ y ∈ ps.zip us, (defScope st).names.lookup y.1 = some .local ∨
      ((defScope st).names.lookup y.1 = some .cell ∧ ((cellsFrom (s.heap.objs.size + 1) (defScope st).names []).lookup y.1).isSome = true) := by
    rintro ⟨n, v⟩ hy
    cases S.par n (List.of_mem_zip hy).1 with
    | inl q => exact .inl q
    | inr q => exact .inr ⟨q, PySem.W.cellsFrom_some _ _ _ (.inl q)⟩
  refine wpAny_newFunctionEnv_cells S.kind kd fun env he s1 ic => ?_
  subst he
  have lim := e0.mod.nolimit.keeps (h' := s.heap) fun b o q => (e0.bs b o q).1
  refine ⟨lim.keeps ic.toInCall.keep, codeAny_func ?_⟩
  obtain ⟨t, ht, hq⟩ := body cdv A up s H vs Q E (rm.deeper _) gu h
  have st0 := inv_start (CX := Z) (E := E) S rm.hd e0 hl rv ic
  refine wpAny_mono (ht.nox.run [] s1 (start N vs) H _ st0 hq) (fun fl s' hs => ?_) fun e s' hs => hs
  cases fl with
  | ret u =>
    obtain ⟨v, σ', H', J, r', q⟩ := hs
    exact ⟨v, H', J.os, J.bare, J.base, J.hok, r', q⟩
  | next =>
    obtain ⟨σ', H', J, q⟩ := hs
    exact ⟨V.non, H', J.os, J.bare, J.base, J.hok, rfl, q⟩
  | brk => exact hs.elim fun _ q => q.elim fun _ q => q.2.elim
  | cont => exact hs.elim fun _ q => q.elim fun _ q => q.2.elim
structure CalG (P : Program) (w : World) (K : PySem.W.Frag) (mg : Str → Option Value) (base : Heap) (k : Nat) (x : Str) (sp : Sp) : Prop where
  ex : ∃ (f : Addr) (fd : FuncData) (ps : List Str), FnG P w K mg base L2.CX0 k f fd ps sp ∧ mg x = some (.ref f) ∧
    PySem.W.keepIn K (.ref f) = true ∧ Binds K fd ps []
theorem calG_of {x : Str} {st : Stmt} {N ps : List Str} {k : Nat} {sp : Sp} (D : DefAt K mg x st ps) (S : FnScope N ps (defScope st))
    (ln : ∀ vs H Q E, sp vs H Q E → vs.length = ps.length)
    (body : ∀ (f : Addr) (cdv : Value) (A : Around) (up : List Env) (s : Shared) (H : Hp) (vs : List V) (Q : VK) (E : XK),
      Room k (A.deeper (envOfC x (defScope st) s.heap.objs.size f cdv)) → A.guards = some [] → sp vs H Q E →
      ∃ t, PSs (cxOf L2.CX0 P w K mg base N x (defScope st) f cdv A up s H E).nox (defBody st) t ∧
        t { nx := fun _ H' => Q .non H', rt := Q } (start N vs) H) : CalG P w K mg base (k + 1) x sp := by
  obtain ⟨f, fd, hm, F, b⟩ := D.ex
  exact ⟨f, fd, ps, fnG_of F S ln (body f), hm, F.kp, b⟩
end
section
variable {X : Cx} {k : Nat} {x : Str} {sp : Sp} {p pos : Pos} {e : Expr} {es : List Expr} {t : TA}
theorem pe_cG (c : CalG X.prog X.w X.K X.mg X.base k x sp) (hr : Room k X.A) (gu : X.A.guards = some []) (hg : Gl X x) (ha : PA X (e :: es) t)
    (hdb : (x == ("__debug__" : Str)) = false := by decide) (he : starEach (e :: es) X.env = (false, eval e X.env) :: starEach es X.env := by rfl)
    (hpl : (backTo pos (starEach es X.env)).any (·.1) = false := by rfl) :
    PE X (.Call (.Name x p) (e :: es) [] pos) (tCall sp [] L2.E0 t) := by
  obtain ⟨f, fd, ps, F, hm, kp, b⟩ := c.ex
  refine ⟨fun pins s σ H Q I h => wpAny_Call_Name_kw (ld_glob I hg hm ?_ hdb)⟩
  refine PySem.W.callWith_K (h₀ := X.base) I.ok.mod.kin kp (thn (ha.run pos pins s σ H _ I h) fun us s1 ⟨vs, H1, I1, r, q⟩ => ⟨I1.kIn, ?_⟩) he hpl
  have q : sp (vs ++ []) H1 Q L2.E0 := q
  rw [List.append_nil] at q
  have hl : us.length = ps.length := by rw [← r.length]; exact F.ln _ _ _ _ q
  have bb := b s1 us I1.kIn (by rw [List.append_nil]; exact hl)
  rw [List.append_nil] at bb
  refine wpAny_call (codeAny_mono (F.go X.A X.stack s1 H1 ⟨us, []⟩ us vs Q L2.E0 hr gu I1.env0 bb r q) fun o s' ho => ?_)
  cases o with
  | error z => exact (ho : False).elim
  | ok fl =>
    cases fl with
    | ret u => exact I1.after ho
    | next => exact (ho : False).elim
    | brk => exact (ho : False).elim
    | cont => exact (ho : False).elim
end
/-! ### the head, for a law of this kind -/
section
variable {P : Program} {w : World} {K : PySem.W.Frag} {mg mb : Str → Option Value}
theorem head_core {k : Nat} {fa a : Addr} {fd : FuncData} {x : Str} {sp : Sp} {s1 : Shared} {vs : List Value} {ns : List Int} (H : Hp)
    (KX : K.In s1.heap) (hn : s1.heap.Ns mainGlobals mg) (hb : s1.heap.Ns builtinsNs mb)
    (hbb : ∀ x : Str, x ≠ "__name__" → mb x = bootBuiltins x) (lim : s1.heap.NoLimit) (hg : s1.gens = #[])
    (ha : s1.heap.get? a = some { cls := .type "list", data := .seq vs.toArray }) (rm : Room k callerA)
    (F : ∀ base : Heap, K.In base → base.Ns mainGlobals mg → FnG P w K mg base CX0 k fa fd [x] sp)
    (bi : ∀ (s : Shared) (u : Value), BindsTo s fd ⟨[u], []⟩ [(x, u)])
    (h : sp [.ref a] H (fun v _ => v = .bl true) fun _ _ _ => False) (on : Only H) (ok : HOk P w H s1.heap)
    (hA : ∀ b, H b ≠ none → b = a) (hK : H a ≠ none → K.lookup a = none) :
    codeAny (model P w) callerA (.call (.ref fa) ⟨[.ref a], []⟩)
      (fun r s' => r = .ok (.ret (.bool true)) ∧ OldK s1.heap s'.heap ∧ s'.os = s1.os ∧ AllBare s'.gens) s1 := by
  have fr : ∀ {b : Addr} {o : Obj}, s1.heap.get? b = some o → (∀ d n, o.data = .dict d n → H b = none) := fun {b o} e d n hd => by
    refine Classical.byContradiction fun z => ?_
    have := hA b z
    subst this
    rw [ha] at e
    cases e
    cases hd
  have mv : ∀ {b : Addr} {m : Str → Option Value}, s1.heap.Ns b m → (hidT s1.heap H).Ns b m := fun {b m} q => by
    obtain ⟨o, es, ep, e, d, r⟩ := q
    exact ⟨o, es, ep, hidT_get e (fr e _ _ d), d, r⟩
  have kIn : K.In (hidT s1.heap H) := fun b o e => hidT_get (KX b o e) (Classical.byContradiction fun z => by
    have := hA b z
    subst this
    rw [hK z] at e
    cases e)
  obtain ⟨mc, l1, l2⟩ := lim
  have md : Mod K mg (hidT s1.heap H) := ⟨kIn, mv hn, ⟨mb, mv hb, hbb⟩, ⟨mc, mv l1, l2⟩⟩
  have e0 : Env0 P w K mg (hidT s1.heap H) callerA [] s1 H :=
    ⟨rfl, md, fun b o e => of_hidT e, Nat.le_of_eq (hidT_size _ _), trivial,
      (fun b hb => (List.not_mem_nil (show b ∈ ([] : List Addr) from hb)).elim),
      ok, .of_eq hg⟩
  refine codeAny_mono ((F _ kIn (mv hn)).go callerA [] s1 H ⟨[.ref a], []⟩ [.ref a] [.ref a] _ _ rm rfl e0 (bi s1 (.ref a)) (.cons rfl .nil) h) fun r s' q => ?_
  cases r with
  | error e => exact (q : False).elim
  | ok fl =>
    cases fl with
    | next => exact (q : False).elim
    | brk => exact (q : False).elim
    | cont => exact (q : False).elim
    | ret u =>
      obtain ⟨v, H', os, bare, un, ok', rv, e⟩ := q
      have e : v = .bl true := e
      subst e
      have rv : u = Value.bool true := rv
      subst rv
      refine ⟨rfl, OldK.of_keep fun b o e => ?_, os, bare⟩
      cases z : H b with
      | none => exact un.keep b o e z (fun y => nomatch (show b ∈ ([] : List Addr) from y)) (fun y => nomatch y)
      | some u =>
        rcases on b with y | ⟨ob, xs, y⟩
        · rw [z] at y; cases y
        · obtain ⟨g1, _⟩ := ok b _ y
          obtain ⟨g2, _⟩ := ok' b _ (un.frzs b ob _ y)
          rw [g1] at e
          cases e
          exact g2
theorem head_call {k : Nat} {fa a : Addr} {fd : FuncData} {x : Str} {sp : Sp} {s1 : Shared} {vs : List Value} {ns : List Int}
    (KX : K.In s1.heap) (hn : s1.heap.Ns mainGlobals mg) (hb : s1.heap.Ns builtinsNs mb)
    (hbb : ∀ x : Str, x ≠ "__name__" → mb x = bootBuiltins x) (lim : s1.heap.NoLimit) (hg : s1.gens = #[])
    (ha : s1.heap.get? a = some { cls := .type "list", data := .seq vs.toArray }) (hi : IntsAre vs ns) (hl : ns.length ≤ sizeLine) (rm : Room k callerA)
    (F : ∀ base : Heap, K.In base → base.Ns mainGlobals mg → FnG P w K mg base CX0 k fa fd [x] sp)
    (bi : ∀ (s : Shared) (u : Value), BindsTo s fd ⟨[u], []⟩ [(x, u)])
    (h : ∀ H : Hp, SqL K H a (ns.map V.int) → sp [.ref a] H (fun v _ => v = .bl true) fun _ _ _ => False) :
    codeAny (model P w) callerA (.call (.ref fa) ⟨[.ref a], []⟩)
      (fun r s' => r = .ok (.ret (.bool true)) ∧ OldK s1.heap s'.heap ∧ s'.os = s1.os ∧ AllBare s'.gens) s1 := by
  have ri := vals_ints hi
  have li := hi.length
  by_cases hk : K.lookup a = none
  · obtain ⟨H, eH⟩ : ∃ H : Hp, H = fun b => if b = a then some (.frz { cls := .type "list", data := .seq vs.toArray } (.lst (ns.map V.int))) else none := ⟨_, rfl⟩
    have at' : H a = some (.frz { cls := .type "list", data := .seq vs.toArray } (.lst (ns.map V.int))) := by rw [eH]; exact if_pos rfl
    have no : ∀ b, b ≠ a → H b = none := fun b z => by rw [eH]; exact if_neg z
    refine head_core (ns := ns) H KX hn hb hbb lim hg ha rm F bi (h H (.inl (.inr ⟨_, at'⟩))) (fun b => ?_) (fun b u q => ?_) (fun b q => ?_) fun _ => hk
    · by_cases z : b = a
      · rw [z]; exact .inr ⟨_, _, at'⟩
      · exact .inl (no b z)
    · by_cases z : b = a
      · subst z
        rw [at'] at q
        cases q
        exact ⟨ha, by rw [List.length_map]; exact hl, vs, _, ri, ha⟩
      · rw [no b z] at q; cases q
    · exact Classical.byContradiction fun z => q (no b z)
  · obtain ⟨o, ho⟩ := Option.ne_none_iff_exists'.mp hk
    have e := KX a o ho
    rw [ha] at e
    cases e
    refine head_core (ns := ns) (fun _ => none) KX hn hb hbb lim hg ha rm F bi (h _ (.inr ⟨_, vs.toArray, _, ho, rfl, rfl, rfl, ?_, ?_⟩)) (fun _ => .inl rfl) (fun b u q => ?_) (fun b q => absurd rfl q) fun q => absurd rfl q
    · rw [List.size_toArray, li]; exact hl
    · simpa using ri
    · have q : (none : Option HO) = some u := q
      cases q
end
theorem walkG {l : PySem.W.OpenLaw} {n k : Nat} {q : Program} {loose : List Str} {XP : (Str → Option Value) → Heap → Prop} {YP : World → Heap → Prop}
    {d : DefRec} {K : Params → PySem.W.Frag} {sp : World → Sp} {x : Str}
    (hn : l.most = some n) (hz : n ≤ sizeLine) (hdf : d.params.defaults = []) (rm : Room k callerA)
    (hY : ∀ (w : World) (h : Heap), YP w h → (K w.params).In h)
    (F : ∀ (w : World) (mg : Str → Option Value) (fa : Addr) (h : Heap), (K w.params).In h → h.Ns mainGlobals mg → mg d.name = some (.ref fa) →
      ∃ fd : FuncData, (∀ (s : Shared) (u : Value), BindsTo s fd ⟨[u], []⟩ [(x, u)]) ∧
        ∀ base : Heap, (K w.params).In base → base.Ns mainGlobals mg → FnG l.prog w (K w.params) mg base CX0 k fa fd [x] (sp w))
    (hsp : ∀ (w : World) (H : Hp) (a : Addr) (ns : List Int), ns.length ≤ n → SqL (K w.params) H a (ns.map V.int) → sp w [.ref a] H (fun v _ => v = .bl true) fun _ _ _ => False) :
    PySem.W.WalkO q loose XP YP l.row.toRowW d [] (fun f vs => PySem.call f vs) := by
  refine Att.attach_call hn hdf ?_
  intro w s0 s1 mg mb fa o pm cd doc a vs ns G Y ho hd hcd hmg hobj hints hlen hg
  obtain ⟨fd, hb, hF⟩ := F w mg fa _ (hY w _ Y) G.T.g hmg
  exact head_call (hY w _ Y) G.T.g G.T.b G.T.builtins G.T.nolimit hg hobj hints (Nat.le_trans hlen hz) rm hF hb fun H hS => hsp w H a ns hlen hS
end MD

namespace MD
open PySem PySem.Spec PyProof.Rows L2
/-! ### str(..) of data -/
mutual
def D.py : D → PyData
  | .v .non => .none
  | .v (.bl b) => .bool b
  | .v (.int i) => .int i
  | .v (.str x) => .str x
  | .v _ => .none
  | .sq true ds => .list (Ds.py ds)
  | .sq false ds => .tuple (Ds.py ds)
def Ds.py : List D → List PyData
  | [] => []
  | d :: ds => d.py :: Ds.py ds
end
mutual
theorem Rep.dp {K : PySem.W.Frag} {H : Hp} : ∀ {d : D} {x : V}, Rep K H d x → Dp K H x d.py
  | .v u, x, h => by
    unfold Rep at h
    obtain ⟨rfl, su⟩ := h
    cases x with
    | non => exact Dp.non
    | bl b => exact Dp.bl b
    | int i => exact Dp.int i
    | str y => exact Dp.str y
    | _ => exact su.elim
  | .sq l ds, x, h => by
    unfold Rep at h
    obtain ⟨a, vs, rfl, hq, hr⟩ := h
    have r := Reps.dp hr
    unfold SqB at hq
    cases l with
    | true => rw [if_pos rfl] at hq; exact Dp.lst hq r
    | false => rw [if_neg Bool.false_ne_true] at hq; exact Dp.tup hq r
theorem Reps.dp {K : PySem.W.Frag} {H : Hp} : ∀ {ds : List D} {vs : List V}, Reps K H ds vs → DpAll K H vs (Ds.py ds)
  | [], vs, h => by
    unfold Reps at h
    subst h
    exact DpAll.nil
  | d :: ds, vs, h => by
    unfold Reps at h
    obtain ⟨v, r, rfl, h1, h2⟩ := h
    exact DpAll.cons (Rep.dp h1) (Reps.dp h2)
end
mutual
theorem D.noDict : ∀ d : D, d.py.hasDict = false
  | .v u => by cases u <;> rfl
  | .sq true ds => Ds.noDict ds
  | .sq false ds => Ds.noDict ds
theorem Ds.noDict : ∀ ds : List D, PyData.hasDictAll (Ds.py ds) = false
  | [] => rfl
  | d :: ds => by
    show (PyData.hasDict d.py || PyData.hasDictAll (Ds.py ds)) = false
    rw [D.noDict d, Ds.noDict ds]; rfl
end
/-- what str makes of it -/
def D.txt (d : D) : Str := match d with
  | .v (.str x) => x
  | d => d.py.shown
structure D.Fit (d : D) : Prop where
  sh : d.py.showable = true
  sz : d.py.shown.length ≤ sizeLine
  dp : d.py.depth ≤ 60
def kStrD (K : PySem.W.Frag) : List V → Hp → VK → Prop := fun xs H Q => ∃ (x : V) (d : D), xs = [x] ∧ Rep K H d x ∧ d.Fit ∧ Q (.str d.txt) H
theorem kstrD {X : Cx} {K : PySem.W.Frag} (gu : X.A.guards = some []) (hu : X.A.units + 100 < cLine) (hK : X.K = K := by rfl) : CallR X (.type "str") (kStrD K) := by
  subst hK
  intro pins s σ H xs us Q I r h
  obtain ⟨x, d, rfl, rd, ft, q⟩ := h
  obtain ⟨u, rfl, ru⟩ := vals1 r
  cases d with
  | v z =>
    have rd' := rd
    unfold Rep at rd'
    obtain ⟨rfl, su⟩ := rd'
    cases x with
    | non =>
      cases (show u = Value.none from ru)
      exact PySem.P.str_of_none ⟨.str _, H, I.tok _, ⟨_, rfl⟩, q⟩
    | bl b =>
      cases (show u = Value.bool b from ru)
      exact PySem.P.str_of_bool ⟨.str _, H, I.tok _, ⟨_, rfl⟩, q⟩
    | int i =>
      obtain ⟨t, rfl⟩ := ru
      have hi : i.natAbs.log2 < 1920 := of_decide_eq_true ft.sh
      exact PySem.P.str_of_int hi ⟨.str _, H, I.tok _, ⟨_, rfl⟩, q⟩
    | str y =>
      obtain ⟨t, rfl⟩ := ru
      exact PySem.P.str_of_str ⟨.str _, H, I, ⟨_, rfl⟩, q⟩
    | _ => exact su.elim
  | sq l ds =>
    obtain ⟨as, rr⟩ := Dp.reads I _ _ _ rd.dp ru
    have rd' := rd
    unfold Rep at rd'
    obtain ⟨a, vs, rfl, _, _⟩ := rd'
    cases (show u = Value.ref a from ru)
    have hd := ft.dp
    have hnd := D.noDict (.sq l ds)
    refine str_of_reads (h₀ := s.heap) rr ft.sh (fun z => by rw [hnd] at z; cases z) gu (by omega) (fun _ _ e => e) (fun h' t tk hk => ?_) ft.sz
    exact ⟨.str _, H, I.kept hk, ⟨_, rfl⟩, q⟩
/-- isinstance(e, (c1, c2, ..)), e the exception that the suite holds -/
def rIsET (K : PySem.W.Frag) (D a : Addr) : List V → Hp → VK → Prop := fun xs H Q => ∃ (tp : Addr) (cs : List V) (us : List Value) (b : Bool),
  xs = [.ref a, .ref tp] ∧ H tp = some (.tup cs) ∧ Paired ClsV cs us ∧ PySem.W.kitAny K (.ref D) us = some b ∧ Q (.bl b) H
theorem call_isET {X : Cx} {a D : Addr} {oe : Obj} {pn : List (Addr × Obj)} (C : L2.ExcC X.K D) (hz : Zc (.ref D) none oe) (hf : ∃ vs, oe.data = .fields vs) :
    CallR (X.suite a ((a, oe) :: pn)) (.builtin "isinstance") (rIsET X.K D a) := by
  intro pins s σ H xs us Q I r h
  obtain ⟨tp, cs, ws, b, rfl, hT, k, e, q⟩ := h
  obtain ⟨u1, u2, rfl, r1, r2⟩ := vals2 r
  cases (show u1 = Value.ref a from r1)
  cases (show u2 = Value.ref tp from r2)
  obtain ⟨hget, _⟩ := I.pin (a, oe) (List.mem_append.mpr (.inl List.mem_cons_self))
  have J : PySem.W.InstAt s.heap a oe D none := by
    obtain ⟨fv, hv⟩ := hf
    obtain ⟨h1, h2⟩ := hz
    obtain ⟨oc, od, oda, osl⟩ := oe
    dsimp only at h1 h2 hv
    subst h1 h2 hv
    exact ⟨hget, rfl, rfl, trivial⟩
  obtain ⟨_, its, rv, ot, g1, g2, n, g3⟩ := (show ObjOk X.prog X.w H s.heap tp (.tup cs) from I.hok tp _ hT)
  have e3 := ClsV.all k rv
  subst e3
  obtain ⟨tc, td, tt, tl⟩ := ot
  dsimp only at g2 g3
  subst g2 g3
  have Z := PySem.W.handS_kitx_exc (x := a) (ox := oe) C.hg C.hk C.hs C.hd C.ha C.hn C.ht C.hm
  exact PySem.W.kia_tup Z I.kIn J g1 e (fun z => nomatch z) fun tk => ⟨.bl b, H, I.kept (t' := tk) fun _ _ z => z, rfl, q⟩
end MD

namespace MD
open PySem PySem.Spec PyProof.Rows L2
/-! ### data that str can show: small ints, not too many of them -/
def Vl : V → Prop
  | .non => True
  | .bl _ => True
  | .int i => i.natAbs < 10 ^ 12
  | _ => False
mutual
def D.Il : D → Prop
  | .v u => Vl u
  | .sq _ ds => Ds.Il ds
def Ds.Il : List D → Prop
  | [] => True
  | d :: ds => d.Il ∧ Ds.Il ds
end
mutual
def D.nz : D → Nat
  | .v _ => 1
  | .sq _ ds => Ds.nz ds + 1
def Ds.nz : List D → Nat
  | [] => 0
  | d :: ds => d.nz + Ds.nz ds
end
theorem log_le {n : Nat} (h : n < 10 ^ 12) : n.log2 ≤ 40 := by
  by_cases z : n = 0
  · subst z; decide
  · have : n.log2 < 41 := (Nat.log2_lt z).mpr (by omega)
    omega
structure Fit4 (p : PyData) (nz : Nat) : Prop where
  sh : p.showable = true
  cl : p.canLay0 = true
  sm : p.intsShort 13 = true
  wt : p.weight + 1 ≤ 43 * nz
structure FitA (p : List PyData) (nz : Nat) : Prop where
  sh : PyData.showableAll p = true
  cl : PyData.canLayAll0 p = true
  sm : PyData.intsShortAll 13 p = true
  wt : PyData.weightAll p ≤ 43 * nz
theorem fit_int {i : Int} (h : i.natAbs < 10 ^ 12) : Fit4 (.int i) 1 := by
  have hl := log_le h
  refine ⟨decide_eq_true (by omega), rfl, decide_eq_true ?_, ?_⟩
  · show (Str.ofString (toString i)).length ≤ 13
    have e := int_text_length_le10 (a := i) (k := 12) (by decide) h
    rw [PySem.ofString_length]
    exact e
  · show (if (i == 0) = true then 0 else i.natAbs.log2 + 1) + 1 ≤ 43 * 1
    split <;> omega
mutual
theorem D.f4 : ∀ {d : D}, d.Il → Fit4 d.py d.nz
  | .v u, h => by
    unfold D.Il at h
    cases u with
    | non => exact ⟨rfl, rfl, rfl, by show 0 + 1 ≤ 43 * 1; decide⟩
    | bl b => exact ⟨rfl, rfl, rfl, by show 0 + 1 ≤ 43 * 1; decide⟩
    | int i => exact fit_int h
    | _ => exact h.elim
  | .sq l ds, h => by
    unfold D.Il at h
    have r := Ds.f4 h
    have e : (D.sq l ds).nz = Ds.nz ds + 1 := rfl
    have w := r.wt
    cases l with
    | true => exact ⟨r.sh, r.cl, r.sm, by rw [e]; show PyData.weightAll (Ds.py ds) + 1 ≤ _; omega⟩
    | false => exact ⟨r.sh, r.cl, r.sm, by rw [e]; show PyData.weightAll (Ds.py ds) + 1 ≤ _; omega⟩
theorem Ds.f4 : ∀ {ds : List D}, Ds.Il ds → FitA (Ds.py ds) (Ds.nz ds)
  | [], _ => ⟨rfl, rfl, rfl, Nat.le_refl _⟩
  | d :: ds, h => by
    unfold Ds.Il at h
    have a := D.f4 h.1
    have b := Ds.f4 h.2
    have wa := a.wt
    have wb := b.wt
    refine ⟨?_, ?_, ?_, ?_⟩
    · show (PyData.showable d.py && PyData.showableAll (Ds.py ds)) = true
      rw [a.sh, b.sh]; rfl
    · show (PyData.canLay0 d.py && PyData.canLayAll0 (Ds.py ds)) = true
      rw [a.cl, b.cl]; rfl
    · show (PyData.intsShort 13 d.py && PyData.intsShortAll 13 (Ds.py ds)) = true
      rw [a.sm, b.sm]; rfl
    · show PyData.weight d.py + 1 + PyData.weightAll (Ds.py ds) ≤ 43 * (d.nz + Ds.nz ds)
      omega
end
theorem D.fit {d : D} (h : d.Il) (hn : d.nz ≤ 20000) (hd : d.py.depth ≤ 60) : d.Fit := by
  have f := D.f4 h
  have w := f.wt
  refine ⟨f.sh, ?_, hd⟩
  have l0 : PyData.layable0 d.py = true := by
    show (PyData.canLay0 d.py && decide (PyData.depth d.py ≤ 64) && decide (PyData.weight d.py ≤ 2 ^ 20)) = true
    rw [f.cl, decide_eq_true (show PyData.depth d.py ≤ 64 by omega), decide_eq_true (show PyData.weight d.py ≤ 2 ^ 20 by omega)]; rfl
  exact Nat.le_trans (shown_le13 l0 f.sm) (by decide)
end MD

namespace MD
open PySem PySem.Spec PyProof.Rows L2
/-! ### the text by places -/
def top (i : Nat) : Stmt := PySem.Challenge.pw_manydoors_k06_housings_are_refused.main.body.getD i (.Pass ⟨0, 0, 0, 0⟩)
abbrev s_is_count : Stmt := top 9
abbrev s_is_between : Stmt := top 10
abbrev s_needs_of : Stmt := top 11
abbrev s_housing : Stmt := top 12
abbrev s_check_enough_rooms : Stmt := top 13
abbrev s_check_given : Stmt := top 14
abbrev s_least_room : Stmt := top 15
abbrev s_rooms_beside : Stmt := top 16
abbrev s_do_meet : Stmt := top 17
abbrev s_rooms_of : Stmt := top 18
abbrev s_law_mixed : Stmt := top 20
abbrev s_law_numbers : Stmt := top 21
abbrev s_law_draw : Stmt := top 22
abbrev s_law_setup : Stmt := top 23
abbrev s_law_stay : Stmt := top 24
abbrev s_law_meet : Stmt := top 25
abbrev s_law_stays : Stmt := top 26
abbrev s_law_fits : Stmt := top 27
abbrev s_law_order : Stmt := top 28
abbrev s_law_given : Stmt := top 29
abbrev s_law_good : Stmt := top 30
abbrev s_law_refused : Stmt := top 31
abbrev s_law : Stmt := top 32
/-! ### the names of each def -/
theorem sc_is_count : FnScope ["value"] ["value"] (defScope s_is_count) := ⟨rfl, rfl, rfl, by decide +kernel, rfl, by decide +kernel, by decide +kernel⟩
theorem sc_is_between : FnScope ["value", "least", "most"] ["value", "least", "most"] (defScope s_is_between) := ⟨rfl, rfl, rfl, by decide +kernel, rfl, by decide +kernel, by decide +kernel⟩
theorem sc_needs_of : FnScope ["party", "needs", "kind", "first", "end", "night"] ["party"] (defScope s_needs_of) := ⟨rfl, rfl, rfl, by decide +kernel, rfl, by decide +kernel, by decide +kernel⟩
theorem sc_housing : FnScope ["rooms", "stays", "night", "given", "housed", "index", "later", "_"] ["rooms", "stays", "night", "given"] (defScope s_housing) := ⟨rfl, rfl, rfl, by decide +kernel, rfl, by decide +kernel, by decide +kernel⟩
theorem sc_check_enough_rooms : FnScope ["rooms", "stays", "kind", "_", "number"] ["rooms", "stays"] (defScope s_check_enough_rooms) := ⟨rfl, rfl, rfl, by decide +kernel, rfl, by decide +kernel, by decide +kernel⟩
theorem sc_check_given : FnScope ["rooms", "stays", "night", "given", "index", "kind", "first", "_", "room"] ["rooms", "stays", "night", "given"] (defScope s_check_given) := ⟨rfl, rfl, rfl, by decide +kernel, rfl, by decide +kernel, by decide +kernel⟩
theorem sc_least_room : FnScope ["stays", "housed", "index", "taken", "room"] ["stays", "housed", "index"] (defScope s_least_room) := ⟨rfl, rfl, rfl, by decide +kernel, rfl, by decide +kernel, by decide +kernel⟩
theorem sc_rooms_beside : FnScope ["stays", "housed", "stay", "index", "other"] ["stays", "housed", "stay"] (defScope s_rooms_beside) := ⟨rfl, rfl, rfl, by decide +kernel, rfl, by decide +kernel, by decide +kernel⟩
theorem sc_do_meet : FnScope ["stay", "other"] ["stay", "other"] (defScope s_do_meet) := ⟨rfl, rfl, rfl, by decide +kernel, rfl, by decide +kernel, by decide +kernel⟩
theorem sc_rooms_of : FnScope ["rooms", "kind"] ["rooms", "kind"] (defScope s_rooms_of) := ⟨rfl, rfl, rfl, by decide +kernel, rfl, by decide +kernel, by decide +kernel⟩
theorem sc_law_mixed : FnScope ["number", "k", "step"] ["number", "k"] (defScope s_law_mixed) := ⟨rfl, rfl, rfl, by decide +kernel, rfl, by decide +kernel, by decide +kernel⟩
theorem sc_law_numbers : FnScope ["script", "numbers", "cell", "rest", "k"] ["script"] (defScope s_law_numbers) := ⟨rfl, rfl, rfl, by decide +kernel, rfl, by decide +kernel, by decide +kernel⟩
theorem sc_law_draw : FnScope ["draws", "at", "first"] ["draws"] (defScope s_law_draw) := ⟨rfl, rfl, rfl, by decide +kernel, rfl, by decide +kernel, by decide +kernel⟩
theorem sc_law_setup : FnScope ["draws", "k", "rooms", "nights", "prices", "t"] ["draws"] (defScope s_law_setup) := ⟨rfl, rfl, rfl, by decide +kernel, rfl, by decide +kernel, by decide +kernel⟩
theorem sc_law_stay : FnScope ["draws", "setup", "first", "most"] ["draws", "setup"] (defScope s_law_stay) := ⟨rfl, rfl, rfl, by decide +kernel, rfl, by decide +kernel, by decide +kernel⟩
theorem sc_law_meet : FnScope ["first", "second"] ["first", "second"] (defScope s_law_meet) := ⟨rfl, rfl, rfl, by decide +kernel, rfl, by decide +kernel, by decide +kernel⟩
theorem sc_law_stays : FnScope ["draws", "setup", "many", "stays", "k", "stay"] ["draws", "setup", "many"] (defScope s_law_stays) := ⟨rfl, rfl, rfl, by decide +kernel, rfl, by decide +kernel, by decide +kernel⟩
theorem sc_law_fits : FnScope ["setup", "stays", "kind", "night", "one"] ["setup", "stays"] (defScope s_law_fits) := ⟨rfl, rfl, rfl, by decide +kernel, rfl, by decide +kernel, by decide +kernel⟩
theorem sc_law_order : FnScope ["stays", "pair", "k"] ["stays"] (defScope s_law_order) := ⟨rfl, rfl, rfl, by decide +kernel, rfl, by decide +kernel, by decide +kernel⟩
theorem sc_law_given : FnScope ["draws", "setup", "stays", "night", "rooms", "k", "taken", "free", "stay", "j", "room"] ["draws", "setup", "stays", "night"] (defScope s_law_given) := ⟨rfl, rfl, rfl, by decide +kernel, rfl, by decide +kernel, by decide +kernel⟩
theorem sc_law_good : FnScope ["setup", "stays", "night", "given", "k", "j"] ["setup", "stays", "night", "given"] (defScope s_law_good) := ⟨rfl, rfl, rfl, by decide +kernel, rfl, by decide +kernel, by decide +kernel⟩
theorem sc_law_refused : FnScope ["setup", "stays", "night", "given", "handed", "e"] ["setup", "stays", "night", "given"] (defScope s_law_refused) := ⟨rfl, rfl, rfl, by decide +kernel, rfl, by decide +kernel, by decide +kernel⟩
theorem sc_law : FnScope ["script", "draws", "setup", "stays", "night", "given", "pick", "at", "kind", "first", "k", "spot"] ["script"] (defScope s_law) := ⟨rfl, rfl, rfl, by decide +kernel, rfl, by decide +kernel, by decide +kernel⟩
/-! ### what the top has written -/
structure Txt (K : PySem.W.Frag) (mg : Str → Option Value) where
  C_BadStay : Addr
  x_BadStay : ExcC K mg "BadStay" C_BadStay
  m_BadStay : PySem.W.exmOne K (.ref C_BadStay) (.ref C_BadStay) = some true
  ie_BadStay : L2.ExcC K C_BadStay
  C_ManydoorsError : Addr
  g_ManydoorsError : mg "ManydoorsError" = some (.ref C_ManydoorsError)
  ki_ManydoorsError : PySem.W.kitOne K (.ref C_BadStay) (.ref C_ManydoorsError) = some true
  C_BadDeed : Addr
  g_BadDeed : mg "BadDeed" = some (.ref C_BadDeed)
  ki_BadDeed : PySem.W.kitOne K (.ref C_BadStay) (.ref C_BadDeed) = some false
  C_BadHistory : Addr
  g_BadHistory : mg "BadHistory" = some (.ref C_BadHistory)
  ki_BadHistory : PySem.W.kitOne K (.ref C_BadStay) (.ref C_BadHistory) = some false
  C_BadLine : Addr
  g_BadLine : mg "BadLine" = some (.ref C_BadLine)
  ki_BadLine : PySem.W.kitOne K (.ref C_BadStay) (.ref C_BadLine) = some false
  C_BadSetup : Addr
  g_BadSetup : mg "BadSetup" = some (.ref C_BadSetup)
  ki_BadSetup : PySem.W.kitOne K (.ref C_BadStay) (.ref C_BadSetup) = some false
  C_BadText : Addr
  g_BadText : mg "BadText" = some (.ref C_BadText)
  ki_BadText : PySem.W.kitOne K (.ref C_BadStay) (.ref C_BadText) = some false
  d_is_count : DefAt K mg "is_count" s_is_count ["value"]
  d_is_between : DefAt K mg "is_between" s_is_between ["value", "least", "most"]
  d_needs_of : DefAt K mg "needs_of" s_needs_of ["party"]
  d_housing : DefAt K mg "housing" s_housing ["rooms", "stays", "night", "given"]
  d_check_enough_rooms : DefAt K mg "check_enough_rooms" s_check_enough_rooms ["rooms", "stays"]
  d_check_given : DefAt K mg "check_given" s_check_given ["rooms", "stays", "night", "given"]
  d_least_room : DefAt K mg "least_room" s_least_room ["stays", "housed", "index"]
  d_rooms_beside : DefAt K mg "rooms_beside" s_rooms_beside ["stays", "housed", "stay"]
  d_do_meet : DefAt K mg "do_meet" s_do_meet ["stay", "other"]
  d_rooms_of : DefAt K mg "rooms_of" s_rooms_of ["rooms", "kind"]
  d_law_mixed : DefAt K mg "_law_mixed" s_law_mixed ["number", "k"]
  d_law_numbers : DefAt K mg "_law_numbers" s_law_numbers ["script"]
  d_law_draw : DefAt K mg "_law_draw" s_law_draw ["draws"]
  d_law_setup : DefAt K mg "_law_setup" s_law_setup ["draws"]
  d_law_stay : DefAt K mg "_law_stay" s_law_stay ["draws", "setup"]
  d_law_meet : DefAt K mg "_law_meet" s_law_meet ["first", "second"]
  d_law_stays : DefAt K mg "_law_stays" s_law_stays ["draws", "setup", "many"]
  d_law_fits : DefAt K mg "_law_fits" s_law_fits ["setup", "stays"]
  d_law_order : DefAt K mg "_law_order" s_law_order ["stays"]
  d_law_given : DefAt K mg "_law_given" s_law_given ["draws", "setup", "stays", "night"]
  d_law_good : DefAt K mg "_law_good" s_law_good ["setup", "stays", "night", "given"]
  d_law_refused : DefAt K mg "_law_refused" s_law_refused ["setup", "stays", "night", "given"]
  z_bool : mg "bool" = none
  z_enumerate : mg "enumerate" = none
  z_int : mg "int" = none
  z_isinstance : mg "isinstance" = none
  z_len : mg "len" = none
  z_list : mg "list" = none
  z_max : mg "max" = none
  z_min : mg "min" = none
  z_range : mg "range" = none
  z_sorted : mg "sorted" = none
  z_str : mg "str" = none
  z_tuple : mg "tuple" = none
end MD
namespace MD
open PySem PySem.Spec PyProof.Rows L2
local macro_rules | `(tactic| walk_at "ne") => `(tactic| first | assumption | (apply Ne.symm; assumption) | exact ne_of_none (by assumption) (by assumption) | exact (ne_of_none (by assumption) (by assumption)).symm)
local macro_rules | `(tactic| walk_at "hp") => `(tactic| first | assumption | exact upd_same | (refine (upd_ne ?_).trans ?_; (focus walk_at "ne"); walk_at "hp"))
local macro_rules | `(tactic| walk_at "nm") => `(tactic| first | exact nmem_nil | exact nmem_one (by walk_at "ne") | exact nmem_cons (by walk_at "ne") (by walk_at "nm"))
/-! ### the draws -/
section
variable {P : Program} {w : World} {K : PySem.W.Frag} {mg : Str → Option Value} {base : Heap}
def spMixed : Sp := fun vs H Q _ => ∃ a k : Int, vs = [.int a, .int k] ∧ ∀ r : Int, 0 ≤ r → r < 2147483647 → Q (.int r) H
theorem c_law_mixed (T : Txt K mg) : Cal P w K mg base 1 "_law_mixed" spMixed := by
  refine cal_of T.d_law_mixed sc_law_mixed (fun vs H Q E h => ?_) (fun f cdv A outer s H vs Q E hr h => ?_)
  · obtain ⟨a, k, rfl, _⟩ := h; rfl
  · obtain ⟨a, k, rfl, q⟩ := h
    refine ⟨_, (pss_cons (ps_set (i := 2) sc_law_mixed.nd rfl (Or.inl rfl) (pe_op op_mod (pe_op op_add (pe_op op_add (pe_op op_mul (pv 0) pe_int) (pe_op op_mul (pv 1) pe_int)) pe_int) pe_int))
  (pss_one (ps_ret (pe_op op_mod (pe_op op_add (pe_op op_mul (pv 2) (pe_op op_add (pe_op op_fdiv (pv 2) pe_int) pe_int)) (pv 1)) pe_int)))), ?_⟩
    refine ⟨_, rfl, _, _, rfl, rfl, .inr ⟨by decide, by decide⟩, _, rfl, _, _, rfl, rfl, .inr ⟨by decide, by decide⟩, _, _, rfl, rfl, _, _, rfl, rfl, _, _, rfl, rfl, (by show (0 : Int) < 2147483647; decide), ?_⟩
    have h0 : 0 ≤ (a * 48271 + k * 69621 + 12345) % 2147483647 := Int.emod_nonneg _ (by decide)
    have h1 : (a * 48271 + k * 69621 + 12345) % 2147483647 < 2147483647 := Int.emod_lt_of_pos _ (by decide)
    generalize (a * 48271 + k * 69621 + 12345) % 2147483647 = st at h0 h1
    refine ⟨_, rfl, _, rfl, _, _, rfl, rfl, ⟨by decide, by decide⟩, _, _, rfl, rfl, _, _, rfl, rfl, .inl ⟨by omega, by omega⟩, _, rfl, _, _, rfl, rfl, _, _, rfl, rfl, (by show (0 : Int) < 2147483647; decide), ?_⟩
    exact q _ (Int.emod_nonneg _ (by decide)) (Int.emod_lt_of_pos _ (by decide))
def spNumbers (K : PySem.W.Frag) : Sp := fun vs H Q _ => ∃ (a : Addr) (ns : List Int), vs = [.ref a] ∧ SqL K H a (ns.map V.int) ∧ ns.length ≤ 63 ∧
  ∀ (p : Addr) (H' : Hp) (ms : List Int), H p = none → Kp [] H H' → H' p = some (.lst (ms.map V.int)) → Rg ms → ms.length ≤ 3780 → Q (.ref p) H'
theorem mod6 (z : Int) : 0 ≤ z % 1000000 ∧ z % 1000000 < 1000000 := ⟨Int.emod_nonneg _ (by decide), Int.emod_lt_of_pos _ (by decide)⟩
theorem c_law_numbers (T : Txt K mg) : Cal P w K mg base 2 "_law_numbers" (spNumbers K) := by
  have c_law_mixed := c_law_mixed (P := P) (w := w) (base := base) T
  refine cal_of T.d_law_numbers sc_law_numbers (fun vs H Q E h => ?_) (fun f cdv A outer s H vs Q E hr h => ?_)
  · obtain ⟨a, k, rfl, _⟩ := h; rfl
  · obtain ⟨a, ns, rfl, hS, hlen, q⟩ := h
    refine ⟨_, (pss_cons (ps_set (i := 1) sc_law_numbers.nd rfl (Or.inl rfl) (pe_lst pa_nil))
  (pss_cons (ps_for PassesOwn.never rfl (pi_list (pv 0)) (pg_name (i := 2) sc_law_numbers.nd rfl (Or.inl rfl))
  (pss_one (ps_if (pt_cmpR op_ge (pv 2) (pe_op op_pow pe_int pe_int) (nomark _))
  (pss_cons (ps_set (i := 3) sc_law_numbers.nd rfl (Or.inl rfl) (pv 2))
  (pss_one (ps_for PassesOwn.never rfl (pi_range1 (by rfl) T.z_range (pa_cons pe_int pa_nil)) (pg_name (i := 4) sc_law_numbers.nd rfl (Or.inl rfl))
  (pss_one (ps_if (pt_cmpR op_gt (pv 3) pe_int (nomark _))
  (pss_cons (ps_expr (pe_bm PySem.F.plainAttrs_list PySem.F.slot_list_append PySem.F.type_list_append mt_append (pv 1) (pa_cons (pe_op op_mod (pv 3) pe_int) pa_nil)))
  (pss_one (ps_set (i := 3) sc_law_numbers.nd rfl (Or.inl rfl) (pe_op op_fdiv (pv 3) pe_int))))
  pss_nil)))))
  (pss_cons (ps_expr (pe_bm PySem.F.plainAttrs_list PySem.F.slot_list_append PySem.F.type_list_append mt_append (pv 1) (pa_cons (pe_op op_mod (pv 2) pe_int) pa_nil)))
  (pss_one (ps_for PassesOwn.never rfl (pi_range1 (by rfl) T.z_range (pa_cons pe_int pa_nil)) (pg_name (i := 4) sc_law_numbers.nd rfl (Or.inl rfl))
  (pss_one (ps_expr (pe_bm PySem.F.plainAttrs_list PySem.F.slot_list_append PySem.F.type_list_append mt_append (pv 1) (pa_cons (pe_op op_mod (pe_c c_law_mixed (hr.mono (by first | decide | omega)) rfl (pa_cons (pe_c c_law_mixed (hr.mono (by first | decide | omega)) rfl (pa_cons (pe_op op_mod (pv 2) pe_int) (pa_cons (pv 4) pa_nil))) (pa_cons (pe_op op_add (pv 4) pe_int) pa_nil))) pe_int) pa_nil))))))))))
  (pss_one (ps_ret (pv 1))))), ?_⟩
    refine ⟨Nat.zero_le _, fun p hp => ?_⟩
    have k0 : Kp [] H (upd H p (.lst [])) := Kp.new hp
    refine ⟨_, rfl, a, rfl, ⟨_, k0.seq hS nmem_nil⟩, for_list (K := K) (a := a) (xs := ns.map V.int) (fun i σ H2 => ∃ (ms : List Int) (c r kk : Option V), σ = [some (.ref a), some (.ref p), c, r, kk] ∧ Kp [] H H2 ∧ H2 p = some (.lst (ms.map V.int)) ∧ Rg ms ∧ ms.length ≤ 60 * i)
      ⟨[], none, none, none, rfl, k0, upd_same, Rg.nil, Nat.le_refl _⟩ (fun i σ H2 _ ⟨_, _, _, _, _, k2, _⟩ => k2.seq hS nmem_nil) ?_ ?_⟩
    · rintro i y σ H2 hi ⟨ms, c, r, kk, rfl, k2, hp2, rg, hl⟩
      obtain ⟨z, rfl, hz⟩ := int_item hi
      have hi63 : i < 63 := Nat.lt_of_lt_of_le (List.getElem?_eq_some_iff.mp hz).1 hlen
      refine ⟨_, rfl, _, _, rfl, rfl, ⟨by decide, by decide, by decide⟩, _, _, rfl, rfl, _, rfl, ?_⟩
      refine ite2 (fun hc => ?_) (fun hc => ?_)
      · refine ⟨_, rfl, _, rfl, (by decide), (by decide), for_range (n := 60) (fun j σ H3 => ∃ (ms : List Int) (r : Int) (kk : Option V), σ = [some (.ref a), some (.ref p), some (.int z), some (.int r), kk] ∧ Kp [] H H3 ∧ H3 p = some (.lst (ms.map V.int)) ∧ Rg ms ∧ ms.length ≤ 60 * i + j)
          ⟨ms, z, _, rfl, k2, hp2, rg, hl⟩ ?_ ?_⟩
        · rintro j σ H3 hj ⟨ms, r, kk, rfl, k3, hp3, rg3, hl3⟩
          refine ⟨_, rfl, _, _, rfl, rfl, _, rfl, ?_⟩
          refine ite2 (fun hc => ?_) (fun hc => ?_)
          · refine ⟨_, rfl, .inl ⟨rfl, _, SqL.of hp3⟩, _, rfl, _, _, rfl, rfl, (by show (0 : Int) < 1000000; decide), p, _, _, rfl, rfl, hp3, (by rw [List.length_map]; exact sz hl3), ?_⟩
            refine ⟨_, rfl, _, _, rfl, rfl, ⟨by decide, by decide⟩, ?_⟩
            exact ⟨ms ++ [r % 1000000], r / 1000000, _, rfl, k3.own hp, by rw [← int_snoc]; exact upd_same, rg3.snoc (mod6 r).1 (mod6 r).2, by rw [List.length_append, List.length_singleton]; omega⟩
          · exact ⟨ms, r, _, rfl, k3, hp3, rg3, by omega⟩
        · rintro σ H3 ⟨ms, r, kk, rfl, k3, hp3, rg3, hl3⟩
          exact ⟨ms, _, _, _, rfl, k3, hp3, rg3, by omega⟩
      · refine ⟨_, rfl, .inl ⟨rfl, _, SqL.of hp2⟩, _, rfl, _, _, rfl, rfl, (by show (0 : Int) < 1000000; decide), p, _, _, rfl, rfl, hp2, (by rw [List.length_map]; exact sz hl), ?_⟩
        refine ⟨_, rfl, (by decide), (by decide), for_range (n := 5) (fun j σ H3 => ∃ (ms : List Int) (r kk : Option V), σ = [some (.ref a), some (.ref p), some (.int z), r, kk] ∧ Kp [] H H3 ∧ H3 p = some (.lst (ms.map V.int)) ∧ Rg ms ∧ ms.length ≤ 60 * i + 1 + j)
          ⟨ms ++ [z % 1000000], _, _, rfl, k2.own hp, by rw [← int_snoc]; exact upd_same, rg.snoc (mod6 z).1 (mod6 z).2, by rw [List.length_append, List.length_singleton]; omega⟩ ?_ ?_⟩
        · rintro j σ H3 hj ⟨ms, r, kk, rfl, k3, hp3, rg3, hl3⟩
          refine ⟨_, rfl, .inl ⟨rfl, _, SqL.of hp3⟩, ?_⟩
          refine ⟨_, rfl, _, _, rfl, rfl, (by show (0 : Int) < 2147483647; decide), _, rfl, _, _, rfl, fun r1 h0 h1 => ?_⟩
          refine ⟨_, rfl, _, _, rfl, rfl, _, _, rfl, fun r2 h2 h3 => ?_⟩
          refine ⟨_, _, rfl, rfl, (by show (0 : Int) < 1000000; decide), p, _, _, rfl, rfl, hp3, (by rw [List.length_map]; exact sz hl3), ?_⟩
          exact ⟨ms ++ [r2 % 1000000], _, _, rfl, k3.own hp, by rw [← int_snoc]; exact upd_same, rg3.snoc (mod6 r2).1 (mod6 r2).2, by rw [List.length_append, List.length_singleton]; omega⟩
        · rintro σ H3 ⟨ms, r, kk, rfl, k3, hp3, rg3, hl3⟩
          exact ⟨ms, _, _, _, rfl, k3, hp3, rg3, by omega⟩
    · rintro σ H2 ⟨ms, c, r, kk, rfl, k2, hp2, rg, hl⟩
      refine ⟨_, rfl, ?_⟩
      rw [List.length_map] at hl
      exact q p H2 ms hp k2 hp2 rg (by omega)
/-- at d the pair of the drawn numbers, at n, and of how many are used -/
structure DrawsAt (H : Hp) (d n : Addr) (ns : List Int) (k : Int) : Prop where
  hd : H d = some (.lst [.ref n, .int k])
  hn : H n = some (.lst (ns.map V.int))
  rg : Rg ns
  k0 : 0 ≤ k
theorem DrawsAt.ne {H : Hp} {d n : Addr} {ns : List Int} {k : Int} (h : DrawsAt H d n ns k) : d ≠ n := by
  refine ne_of h.hd h.hn fun e => ?_
  cases ns with
  | nil => cases e
  | cons a r => injection e with e; injection e with e _; cases e
theorem DrawsAt.kp {M : List Addr} {H H' : Hp} {d n : Addr} {ns : List Int} {k : Int} (h : DrawsAt H d n ns k) (q : Kp M H H') (h1 : d ∉ M) (h2 : n ∉ M) : DrawsAt H' d n ns k := ⟨q.at h.hd h1, q.at h.hn h2, h.rg, h.k0⟩
def spDraw : Sp := fun vs H Q _ => ∃ (d n : Addr) (ns : List Int) (k : Int), vs = [.ref d] ∧ DrawsAt H d n ns k ∧
  ∀ (r : Int) (H' : Hp), 0 ≤ r → r < 1000000 → Kp [d] H H' → DrawsAt H' d n ns (k + 1) → Q (.int r) H'
theorem c_law_draw (T : Txt K mg) : Cal P w K mg base 2 "_law_draw" spDraw := by
  have c_law_mixed := c_law_mixed (P := P) (w := w) (base := base) T
  refine cal_of T.d_law_draw sc_law_draw (fun vs H Q E h => ?_) (fun f cdv A outer s H vs Q E hr h => ?_)
  · obtain ⟨d, n, ns, k, rfl, _⟩ := h; rfl
  · obtain ⟨d, n, ns, k, rfl, D, q⟩ := h
    have k0 := D.k0
    refine ⟨_, (pss_cons (ps_set (i := 1) sc_law_draw.nd rfl (Or.inl rfl) (pe_ix (ixL (K := K)) (pv 0) pe_int (fun _ _ => rfl)))
  (pss_cons (ps_asg (pe_op op_add (pv 1) pe_int) (pg_sub (pv 0) pe_int set_list))
  (pss_cons (ps_if (pt_cmpR op_lt (pv 1) (pe_callB (lenK (K := K)) (by rfl) T.z_len (by decide +kernel) (pa_cons (pe_ix (ixL (K := K)) (pv 0) pe_int (fun _ _ => rfl)) pa_nil)) (nomark _))
  (pss_one (ps_ret (pe_ix (ixL (K := K)) (pe_ix (ixL (K := K)) (pv 0) pe_int (fun _ _ => rfl)) (pv 1) (fun _ _ => rfl))))
  pss_nil)
  (pss_cons (ps_set (i := 2) sc_law_draw.nd rfl (Or.inl rfl) (pe_op op_add pe_int (pv 1)))
  (pss_cons (ps_if (pt_cmpR op_gt (pe_callB (lenK (K := K)) (by rfl) T.z_len (by decide +kernel) (pa_cons (pe_ix (ixL (K := K)) (pv 0) pe_int (fun _ _ => rfl)) pa_nil)) pe_int (nomark _))
  (pss_one (ps_set (i := 2) sc_law_draw.nd rfl (Or.inl rfl) (pe_op op_add (pv 2) (pe_op op_mul pe_int (pe_ix (ixL (K := K)) (pe_ix (ixL (K := K)) (pv 0) pe_int (fun _ _ => rfl)) pe_int (fun _ _ => rfl))))))
  pss_nil)
  (pss_one (ps_ret (pe_op op_mod (pe_c c_law_mixed (hr.mono (by first | decide | omega)) rfl (pa_cons (pe_c c_law_mixed (hr.mono (by first | decide | omega)) rfl (pa_cons (pv 2) (pa_cons (pv 1) pa_nil))) (pa_cons pe_int pa_nil))) pe_int)))))))), ?_⟩
    refine ⟨_, rfl, d, _, _, _, rfl, rfl, SqL.of D.hd, rfl, ?_⟩
    refine ⟨_, rfl, _, _, rfl, rfl, _, rfl, d, _, _, 1, rfl, rfl, D.hd, rfl, ?_⟩
    have hk : Kp [d] H (upd H d (.lst [.ref n, .int (k + 1)])) := Kp.old D.hd trivial List.mem_cons_self
    have D' : DrawsAt (upd H d (.lst [.ref n, .int (k + 1)])) d n ns (k + 1) := ⟨upd_same, (upd_ne D.ne.symm).trans D.hn, D.rg, by omega⟩
    obtain ⟨H1, eH⟩ : ∃ H1, H1 = upd H d (.lst [.ref n, .int (k + 1)]) := ⟨_, rfl⟩
    rw [← eH] at hk D'
    refine Eq.mp (congrArg _ eH) ?_
    refine ⟨_, rfl, _, rfl, d, _, _, _, rfl, rfl, SqL.of D'.hd, rfl, n, _, rfl, .inl (SqL.of D'.hn), _, _, rfl, rfl, _, rfl, ?_⟩
    refine ite2 (fun hc => ?_) (fun hc => ?_)
    · have hc := of_decide_eq_true hc
      rw [List.length_map] at hc
      have hlt : k.toNat < ns.length := by omega
      have hz : ns[k.toNat]? = some ns[k.toNat] := by simp [hlt]
      have hr := D.rg _ (List.getElem_mem hlt)
      refine ⟨_, rfl, d, _, _, _, rfl, rfl, SqL.of D'.hd, rfl, _, rfl, n, _, _, _, rfl, rfl, SqL.of D'.hn, int_at k0 hz, ?_⟩
      exact q _ _ hr.1 hr.2 hk D'
    · refine ⟨_, rfl, _, _, rfl, rfl, ?_⟩
      refine ⟨_, rfl, d, _, _, _, rfl, rfl, SqL.of D'.hd, rfl, n, _, rfl, .inl (SqL.of D'.hn), _, _, rfl, rfl, _, rfl, ?_⟩
      have fin : ∀ f : Int, ∃ v, ([some (V.ref d), some (V.int k), some (V.int f)] : L2.St)[2]? = some (some v) ∧ ∃ u, ([some (V.ref d), some (V.int k), some (V.int f)] : L2.St)[1]? = some (some u) ∧ spMixed [v, u] H1 (fun x H2 => spMixed [x, .int 5] H2 (fun y H3 => ∃ i j, y = .int i ∧ V.int 1000000 = .int j ∧ 0 < j ∧ Q (.int (i % j)) H3) E0) E0 := fun f =>
        ⟨_, rfl, _, rfl, _, _, rfl, fun r1 h0 h1 => ⟨_, _, rfl, fun r2 h2 h3 => ⟨_, _, rfl, rfl, by decide, q _ _ (mod6 r2).1 (mod6 r2).2 hk D'⟩⟩⟩
      refine ite2 (fun hc => ?_) (fun hc => ?_)
      · have hc := of_decide_eq_true hc
        rw [List.length_map] at hc
        have hlt : 0 < ns.length := by omega
        have hz : ns[(0 : Int).toNat]? = some ns[0] := by simp [hlt]
        refine ⟨_, rfl, _, rfl, d, _, _, _, rfl, rfl, SqL.of D'.hd, rfl, n, _, _, _, rfl, rfl, SqL.of D'.hn, int_at (by decide) hz, _, _, rfl, rfl, .inl ⟨by decide, by decide⟩, _, _, rfl, rfl, ?_⟩
        exact fin _
      · exact fin _
end

end MD
namespace MD
open PySem PySem.Spec PyProof.Rows L2
local macro_rules | `(tactic| walk_at "ne") => `(tactic| first | assumption | (apply Ne.symm; assumption) | exact ne_of_none (by assumption) (by assumption) | exact (ne_of_none (by assumption) (by assumption)).symm)
local macro_rules | `(tactic| walk_at "hp") => `(tactic| first | assumption | exact upd_same | (refine (upd_ne ?_).trans ?_; (focus walk_at "ne"); walk_at "hp"))
local macro_rules | `(tactic| walk_at "nm") => `(tactic| first | exact nmem_nil | exact nmem_one (by walk_at "ne") | exact nmem_cons (by walk_at "ne") (by walk_at "nm"))
/-! ### a drawn setup -/
section
variable {P : Program} {w : World} {K : PySem.W.Frag} {mg : Str → Option Value} {base : Heap}
theorem DrawsAt.kp0 {H H' : Hp} {d n : Addr} {ns : List Int} {k : Int} (h : DrawsAt H d n ns k) (q : Kp [] H H') : DrawsAt H' d n ns k := h.kp q nmem_nil nmem_nil
theorem DrawsAt.put {H H' : Hp} {d n p : Addr} {ns : List Int} {k : Int} (h : DrawsAt H d n ns k) (q : Kp [p] H H') (h1 : d ≠ p) (h2 : n ≠ p) : DrawsAt H' d n ns k := h.kp q (nmem_one h1) (nmem_one h2)
def spSetup : Sp := fun vs H Q _ => ∃ (d n : Addr) (ns : List Int) (k : Int), vs = [.ref d] ∧ DrawsAt H d n ns k ∧
  ∀ (a r p : Addr) (su : Su) (k' : Int) (H' : Hp), su.ok → Kp [d] H H' → DrawsAt H' d n ns k' → SuAt H' a r p su → Q (.ref a) H'
theorem c_law_setup (T : Txt K mg) : Cal P w K mg base 3 "_law_setup" spSetup := by
  have c_law_draw := c_law_draw (P := P) (w := w) (base := base) T
  refine cal_of T.d_law_setup sc_law_setup (fun vs H Q E h => ?_) (fun f cdv A outer s H vs Q E hr h => ?_)
  · obtain ⟨d, n, ns, k, rfl, _⟩ := h; rfl
  · obtain ⟨d, n, ns, k, rfl, D, q⟩ := h
    refine ⟨_, (pss_cons (ps_set (i := 2) sc_law_setup.nd rfl (Or.inl rfl) (pe_callTy (ktupleK (K := K)) (by rfl) T.z_tuple (by decide +kernel) (pa_cons (ke_lc rfl sc_law_setup.nd (pi_range1 (by rfl) T.z_range (pa_cons (pe_op op_add pe_int (pe_op op_mod (pe_c c_law_draw (hr.mono (by first | decide | omega)) rfl (pa_cons (pv 0) pa_nil)) pe_int)) pa_nil)) (blkOk_by (own := [("k", 1)]) (N := ["draws", "k", "rooms", "nights", "prices", "t"]) (sc := defScope s_law_setup) (by decide +kernel)) (fun _ _ _ _ _ => (pg_name (i := 1) sc_law_setup.nd rfl (Or.inl rfl))) (fun _ _ _ _ _ => pts_nil) (fun _ _ _ _ _ => (pe_op op_mod (pe_c c_law_draw (hr.mono (by first | decide | omega)) rfl (pa_cons (pv 0) pa_nil)) pe_int))) pa_nil)))
  (pss_cons (ps_set (i := 3) sc_law_setup.nd rfl (Or.inl rfl) (pe_op op_add pe_int (pe_op op_mod (pe_c c_law_draw (hr.mono (by first | decide | omega)) rfl (pa_cons (pv 0) pa_nil)) pe_int)))
  (pss_cons (ps_set (i := 4) sc_law_setup.nd rfl (Or.inl rfl) (ke_lst pa_nil))
  (pss_cons (ps_for PassesOwn.never rfl (pi_range1 (by rfl) T.z_range (pa_cons (pe_callB (lenK (K := K)) (by rfl) T.z_len (by decide +kernel) (pa_cons (pv 2) pa_nil)) pa_nil)) (pg_name (i := 1) sc_law_setup.nd rfl (Or.inl rfl))
  (pss_one (ps_expr (pe_bm PySem.F.plainAttrs_list PySem.F.slot_list_append PySem.F.type_list_append mk_append (pv 4) (pa_cons (pe_callTy (ktupleK (K := K)) (by rfl) T.z_tuple (by decide +kernel) (pa_cons (ke_lc rfl sc_law_setup.nd (pi_range1 (by rfl) T.z_range (pa_cons (pv 3) pa_nil)) (blkOk_by (own := [("t", 5)]) (N := ["draws", "k", "rooms", "nights", "prices", "t"]) (sc := defScope s_law_setup) (by decide +kernel)) (fun _ _ _ _ _ => (pg_name (i := 5) sc_law_setup.nd rfl (Or.inl rfl))) (fun _ _ _ _ _ => pts_nil) (fun _ _ _ _ _ => (pe_ix (ixL (K := K)) (ke_lst (pa_cons (pe_op op_mod (pe_c c_law_draw (hr.mono (by first | decide | omega)) rfl (pa_cons (pv 0) pa_nil)) pe_int) (pa_cons pe_int (pa_cons (pe_op op_pow pe_int pe_int) (pa_cons (pe_op op_mod (pe_c c_law_draw (hr.mono (by first | decide | omega)) rfl (pa_cons (pv 0) pa_nil)) pe_int) pa_nil))))) (pe_op op_mod (pe_c c_law_draw (hr.mono (by first | decide | omega)) rfl (pa_cons (pv 0) pa_nil)) pe_int) (fun _ _ => rfl)))) pa_nil)) pa_nil)))))
  (pss_one (ps_ret (ke_tup (pa_cons (pv 2) (pa_cons (pv 3) (pa_cons (pe_op op_add pe_int (pe_op op_mod (pe_c c_law_draw (hr.mono (by first | decide | omega)) rfl (pa_cons (pv 0) pa_nil)) pe_int)) (pa_cons (pe_callTy (ktupleK (K := K)) (by rfl) T.z_tuple (by decide +kernel) (pa_cons (pv 4) pa_nil)) (pa_cons (pe_ix (ixL (K := K)) (ke_lst (pa_cons (pe_op op_mod (pe_c c_law_draw (hr.mono (by first | decide | omega)) rfl (pa_cons (pv 0) pa_nil)) pe_int) (pa_cons pe_int (pa_cons pe_int pa_nil)))) (pe_op op_mod (pe_c c_law_draw (hr.mono (by first | decide | omega)) rfl (pa_cons (pv 0) pa_nil)) pe_int) (fun _ _ => rfl)) pa_nil)))))))))))), ?_⟩
    refine ⟨_, rfl, d, n, ns, k, rfl, D, fun r1 H1 r10 r11 k1 D1 => ?_⟩
    have m1 := md r1 3 (by decide)
    refine ⟨_, _, rfl, rfl, (by show (0 : Int) < 3; decide), _, _, rfl, rfl, _, rfl, (by omega), (by omega), fun R0 H2 hR kR hR2 => ?_⟩
    have R0d : H R0 = none := k1.free hR
    have dR : d ≠ R0 := ne_of_none D.hd R0d
    have nR : n ≠ R0 := ne_of_none D.hn R0d
    refine kl_range (n := (1 + r1 % 3).toNat) (fun i acc H' => ∃ (ms : List Int) (k' : Int), acc = ms.map V.int ∧ ms.length = i ∧ (∀ m ∈ ms, 0 ≤ m ∧ m ≤ 4) ∧ Kp [d] H H' ∧ DrawsAt H' d n ns k')
      ⟨[], _, rfl, rfl, (fun _ h => nomatch h), k1.th0 kR, D1.kp0 kR⟩ ?_ ?_
    · rintro i acc H3 hi hacc ⟨ms, k', rfl, hl, hm, k3, D3⟩
      refine turn1 rfl ?_
      refine ⟨_, rfl, d, n, ns, k', rfl, D3, fun r2 H4 r20 r21 k4 D4 => ?_⟩
      have m2 := md r2 5 (by decide)
      refine ⟨_, _, rfl, rfl, (by show (0 : Int) < 5; decide), k4.at hacc (nmem_one dR.symm), (by rw [List.length_map]; exact sz (show ms.length ≤ 3 by omega)), fun H5 k5 h5 => ?_⟩
      refine ⟨ms ++ [r2 % 5], _, int_snoc _ _, by rw [List.length_append, hl]; rfl, fun m hm' => ?_, (k3.trans k4).put k5 R0d, D4.put k5 dR nR⟩
      rcases List.mem_append.mp hm' with z | z
      · exact hm m z
      · rw [List.mem_singleton.mp z]; omega
    rintro acc H3 hacc ⟨rs, k', rfl, hrl, hrr, k3, D3⟩
    refine ⟨R0, _, rfl, .inl ⟨SqL.of hacc, fun r H4 hr4 kr hr4' => ?_⟩⟩
    have k4 := k3.th0 kr
    have D4 := D3.kp0 kr
    refine ⟨_, rfl, d, n, ns, k', rfl, D4, fun r2 H5 r20 r21 k5 D5 => ?_⟩
    have m2 := md r2 12 (by decide)
    refine ⟨_, _, rfl, rfl, (by show (0 : Int) < 12; decide), _, _, rfl, rfl, ?_⟩
    refine ⟨Nat.zero_le _, fun l H6 hl kl hl6 => ?_⟩
    have lH : H l = none := (k4.trans k5).free hl
    have dl : d ≠ l := ne_of_none D.hd lH
    have nl : n ≠ l := ne_of_none D.hn lH
    have hr6 := (k5.th0 kl).tup _ _ hr4'
    refine ⟨_, rfl, r, _, rfl, .inr (SqT.of hr6), _, rfl, (by rw [List.length_map]; omega), (by rw [List.length_map]; omega), for_range (n := (rs.map V.int).length) (fun i σ H' => ∃ (kk : Option V) (ps : List V) (pss : List (List Int)) (k' : Int), σ = [some (.ref d), kk, some (.ref r), some (.int (1 + r2 % 12)), some (.ref l), none] ∧ Kp [d] H H' ∧ DrawsAt H' d n ns k' ∧ H' r = some (.tup (rs.map V.int)) ∧
        H' l = some (.lst ps) ∧ RepTs H' (pss.map fun r => MD.D.sq false (intD r)) ps ∧ pss.length = i ∧ ∀ r ∈ pss, (r.length : Int) = 1 + r2 % 12 ∧ ∀ p ∈ r, 0 ≤ p ∧ p ≤ 1000000)
      ⟨_, [], [], _, rfl, (k4.trans k5).th0 kl, D5.kp0 kl, hr6, hl6, RepTs.nil, rfl, fun _ h => nomatch h⟩ ?_ ?_⟩
    · rintro i σ H7 hi ⟨kk, ps, pss, k7', rfl, k7, D7, hr7, hl7, rp, hpl, hpr⟩
      rw [List.length_map] at hi
      refine ⟨_, rfl, .inl ⟨rfl, _, SqL.of hl7⟩, ?_⟩
      refine ⟨_, rfl, _, rfl, (by omega), (by omega), fun W0 H8 hW kW hW8 => ?_⟩
      have WH : H W0 = none := k7.free hW
      have dW : d ≠ W0 := ne_of_none D.hd WH
      have nW : n ≠ W0 := ne_of_none D.hn WH
      have lW : l ≠ W0 := ne_of_none hl7 hW
      refine kl_range (n := (1 + r2 % 12).toNat) (fun j acc H' => ∃ (ms : List Int) (k' : Int), acc = ms.map V.int ∧ ms.length = j ∧ (∀ m ∈ ms, 0 ≤ m ∧ m ≤ 1000000) ∧ Kp [d] H7 H' ∧ DrawsAt H' d n ns k')
        ⟨[], _, rfl, rfl, (fun _ h => nomatch h), kW.nil, D7.kp0 kW⟩ ?_ ?_
      · rintro j acc H9 hj hacc ⟨ms, k', rfl, hml, hm, k9, D9⟩
        refine turn1 rfl ?_
        refine ⟨_, rfl, d, n, ns, k', rfl, D9, fun q1 Ha q10 q11 ka Da => ⟨_, _, rfl, rfl, (by show (0 : Int) < 200; decide), ?_⟩⟩
        refine ⟨_, _, rfl, rfl, ⟨by decide, by decide, by decide⟩, ?_⟩
        refine ⟨_, rfl, d, n, ns, _, rfl, Da, fun q2 Hb q20 q21 kb Db => ⟨_, _, rfl, rfl, (by show (0 : Int) < 1000001; decide), (by show 4 ≤ sizeLine; decide), fun L Hc hL kc hLc => ?_⟩⟩
        refine ⟨_, rfl, d, n, ns, _, rfl, Db.kp0 kc, fun q3 Hd q30 q31 kd Dd => ?_⟩
        have dL : d ≠ L := ne_of_none Db.hd hL
        have mq := md q3 4 (by decide)
        have b1 := md q1 200 (by decide)
        have b2 := md q2 1000001 (by decide)
        obtain ⟨z, hz, zm⟩ := at_mem [q1 % 200, 0, 10 ^ 6, q2 % 1000001] (i := q3 % 4) mq.1 (by show q3 % 4 < 4; exact mq.2)
        have hz0 : 0 ≤ z ∧ z ≤ 1000000 := by
          simp at zm
          rcases zm with rfl | rfl | rfl | rfl <;> omega
        have k9d : Kp [d] H9 Hd := ((ka.trans kb).th0 kc).trans kd
        refine ⟨_, _, rfl, rfl, (by show (0 : Int) < 4; decide), L, _, _, _, rfl, rfl, SqL.of (kd.at hLc (nmem_one dL.symm)), hz, k9d.at hacc (nmem_one dW.symm), (by rw [List.length_map]; exact sz (show ms.length ≤ 12 by omega)), fun H5 k5' h5 => ?_⟩
        refine ⟨ms ++ [z], _, int_snoc _ _, by rw [List.length_append, hml]; rfl, fun m hm' => ?_, (k9.trans k9d).put k5' hW, Dd.put k5' dW nW⟩
        rcases List.mem_append.mp hm' with y | y
        · exact hm m y
        · rw [List.mem_singleton.mp y]; exact hz0
      rintro acc H9 hacc ⟨ms, k', rfl, hml, hm, k9, D9⟩
      refine ⟨W0, _, rfl, .inl ⟨SqL.of hacc, fun t Ha ht kt hta => ?_⟩⟩
      have k9a := k9.th0 kt
      have hla := k9a.at hl7 (nmem_one dl.symm)
      have pl : ps.length = i := by rw [rp.len, List.length_map, hpl]
      refine ⟨l, ps, _, rfl, rfl, hla, sz (show ps.length ≤ 3 by omega), fun Hb kb hb => ?_⟩
      have ddb := (D9.kp0 kt).put kb dl nl
      refine ⟨_, ps ++ [.ref t], pss ++ [ms], k', rfl, (k7.trans k9a).put kb lH, ddb, kb.tup _ _ (k9a.tup _ _ hr7), hb, ?_, by rw [List.length_append, hpl]; rfl, fun r hr' => ?_⟩
      · rw [List.map_append]
        exact RepTs.snoc (RepT.tupI' (kb.tup _ _ hta)) ((rp.kp k9a).kp kb)
      · rcases List.mem_append.mp hr' with y | y
        · exact hpr r y
        · rw [List.mem_singleton.mp y]
          exact ⟨by rw [hml]; omega, hm⟩
    · rintro σ H7 ⟨kk, ps, pss, k7', rfl, k7, D7, hr7, hl7, rp, hpl, hpr⟩
      rw [List.length_map] at hpl
      refine ⟨_, rfl, _, rfl, _, rfl, d, n, ns, k7', rfl, D7, fun r3 H8 r30 r31 k8 D8 => ?_⟩
      have m3 := md r3 4 (by decide)
      refine ⟨_, _, rfl, rfl, (by show (0 : Int) < 4; decide), _, _, rfl, rfl, ?_⟩
      have hl8 := k8.at hl7 (nmem_one dl.symm)
      refine ⟨_, rfl, l, ps, rfl, .inl ⟨SqL.of hl8, fun p H9 hp kp hp9 => ?_⟩⟩
      refine ⟨_, rfl, d, n, ns, _, rfl, D8.kp0 kp, fun r4 Ha r40 r41 ka Da => ?_⟩
      have m4 := md r4 101 (by decide)
      refine ⟨_, _, rfl, rfl, (by show (0 : Int) < 101; decide), (by show 3 ≤ sizeLine; decide), fun L Hb hL kb hLb => ?_⟩
      refine ⟨_, rfl, d, n, ns, _, rfl, Da.kp0 kb, fun r5 Hc r50 r51 kc Dc => ?_⟩
      have m5 := md r5 3 (by decide)
      have dL : d ≠ L := ne_of_none Da.hd hL
      obtain ⟨z, hz, zm⟩ := at_mem [r4 % 101, 0, 100] (i := r5 % 3) m5.1 (by show r5 % 3 < 3; exact m5.2)
      have hz0 : 0 ≤ z ∧ z ≤ 100 := by
        simp at zm
        rcases zm with rfl | rfl | rfl <;> omega
      refine ⟨_, _, rfl, rfl, (by show (0 : Int) < 3; decide), L, _, _, _, rfl, rfl, SqL.of (kc.at hLb (nmem_one dL.symm)), hz, (by show 5 ≤ sizeLine; decide), fun a Hd ha kd had => ?_⟩
      have k9c : Kp [d] H9 Hc := (ka.th0 kb).trans kc
      have k7d : Kp [d] H7 Hd := ((k8.th0 kp).trans k9c).th0 kd
      have k9d : Kp [d] H9 Hd := k9c.th0 kd
      refine q a r p ⟨rs, 1 + r2 % 12, 1 + r3 % 4, pss, z⟩ _ Hd ⟨by show 1 ≤ rs.length; omega, by show rs.length ≤ 3; omega, hrr, by show 1 ≤ 1 + r2 % 12; omega, by show 1 + r2 % 12 ≤ 12; omega, by show 1 ≤ 1 + r3 % 4; omega, by show 1 + r3 % 4 ≤ 4; omega, hpl, hpr, hz0.1, hz0.2⟩
        (k7.trans k7d) (Dc.kp0 kd) ⟨had, k7d.tup _ _ hr7, ps, k9d.tup _ _ hp9, rp.kp k7d⟩
end

end MD
namespace MD
open PySem PySem.Spec PyProof.Rows L2
local macro_rules | `(tactic| walk_at "ne") => `(tactic| first | assumption | (apply Ne.symm; assumption) | exact ne_of_none (by assumption) (by assumption) | exact (ne_of_none (by assumption) (by assumption)).symm)
local macro_rules | `(tactic| walk_at "hp") => `(tactic| first | assumption | exact upd_same | (refine (upd_ne ?_).trans ?_; (focus walk_at "ne"); walk_at "hp"))
local macro_rules | `(tactic| walk_at "nm") => `(tactic| first | exact nmem_nil | exact nmem_one (by walk_at "ne") | exact nmem_cons (by walk_at "ne") (by walk_at "nm"))
/-! ### drawn stays -/
section
variable {P : Program} {w : World} {K : PySem.W.Frag} {mg : Str → Option Value} {base : Heap}
def spStay : Sp := fun vs H Q _ => ∃ (d n : Addr) (ns : List Int) (k : Int) (a r p : Addr) (su : Su), vs = [.ref d, .ref a] ∧ DrawsAt H d n ns k ∧ SuAt H a r p su ∧ su.ok ∧
  ∀ (t : Addr) (s : Sy) (k' : Int) (H' : Hp), Sy.ok su s → Kp [d] H H' → DrawsAt H' d n ns k' → H' t = some (.tup [.int s.1, .int s.2.1, .int s.2.2]) → Q (.ref t) H'
theorem c_law_stay (T : Txt K mg) : Cal P w K mg base 3 "_law_stay" spStay := by
  have c_law_draw := c_law_draw (P := P) (w := w) (base := base) T
  refine cal_of T.d_law_stay sc_law_stay (fun vs H Q E h => ?_) (fun f cdv A outer s H vs Q E hr h => ?_)
  · obtain ⟨d, n, ns, k, a, r, p, su, rfl, _⟩ := h; rfl
  · obtain ⟨d, n, ns, k, a, r, p, su, rfl, DA, S, so, q⟩ := h
    have hn1 := so.n1
    have hn12 := so.n12
    refine ⟨_, (pss_cons (ps_set (i := 2) sc_law_stay.nd rfl (Or.inl rfl) (pe_op op_mod (pe_c c_law_draw (hr.mono (by first | decide | omega)) rfl (pa_cons (pv 0) pa_nil)) (pe_ix (ixT (K := K)) (pv 1) pe_int (fun _ _ => rfl))))
  (pss_cons (ps_set (i := 3) sc_law_stay.nd rfl (Or.inl rfl) (pe_op op_sub (pe_ix (ixT (K := K)) (pv 1) pe_int (fun _ _ => rfl)) (pv 2)))
  (pss_one (ps_ret (ke_tup (pa_cons (pe_op op_mod (pe_c c_law_draw (hr.mono (by first | decide | omega)) rfl (pa_cons (pv 0) pa_nil)) (pe_callB (lenK (K := K)) (by rfl) T.z_len (by decide +kernel) (pa_cons (pe_ix (ixT (K := K)) (pv 1) pe_int (fun _ _ => rfl)) pa_nil))) (pa_cons (pv 2) (pa_cons (pe_op op_add (pe_op op_add (pv 2) pe_int) (pe_op op_mod (pe_c c_law_draw (hr.mono (by first | decide | omega)) rfl (pa_cons (pv 0) pa_nil)) (pe_ix (ixL (K := K)) (ke_lst (pa_cons (pv 3) (pa_cons (pe_callB (call_min2 rfl) (by rfl) T.z_min (by decide +kernel) (pa_cons (pv 3) (pa_cons pe_int pa_nil))) pa_nil))) (pe_op op_mod (pe_c c_law_draw (hr.mono (by first | decide | omega)) rfl (pa_cons (pv 0) pa_nil)) pe_int) (fun _ _ => rfl)))) pa_nil)))))))), ?_⟩
    refine ⟨_, rfl, d, n, ns, k, rfl, DA, fun r1 H1 r10 r11 k1 D1 => ?_⟩
    have S1 := S.kp k1
    refine ⟨_, rfl, a, _, _, _, rfl, rfl, SqT.of S1.ha, rfl, _, _, rfl, rfl, (by show (0 : Int) < su.nights; omega), ?_⟩
    have m1 := md r1 su.nights (by omega)
    refine ⟨_, rfl, a, _, _, _, rfl, rfl, SqT.of S1.ha, rfl, _, rfl, _, _, rfl, rfl, ?_⟩
    refine ⟨_, rfl, d, n, ns, _, rfl, D1, fun r2 H2 r20 r21 k2 D2 => ?_⟩
    have S2 := S1.kp k2
    have hl : 0 < su.rooms.length := so.r1
    have m2 := md r2 (su.rooms.length : Int) (by omega)
    have el : ((su.rooms.map V.int).length : Int) = su.rooms.length := by rw [List.length_map]
    refine ⟨_, rfl, a, _, _, _, rfl, rfl, SqT.of S2.ha, rfl, r, _, rfl, .inr (SqT.of S2.hr), _, _, rfl, rfl, (by rw [el]; omega), ?_⟩
    refine ⟨_, rfl, _, rfl, _, _, rfl, rfl, ?_⟩
    refine ⟨_, rfl, d, n, ns, _, rfl, D2, fun r3 H3 r30 r31 k3 D3 => ?_⟩
    refine ⟨_, rfl, _, rfl, _, _, rfl, (by show 2 ≤ sizeLine; decide), fun L H4 hL k4 hL4 => ?_⟩
    refine ⟨_, rfl, d, n, ns, _, rfl, D3.kp0 k4, fun r4 H5 r40 r41 k5 D5 => ?_⟩
    have dL : d ≠ L := ne_of_none D3.hd hL
    have m4 := md r4 2 (by decide)
    obtain ⟨z, hz, zm⟩ := at_mem [su.nights - r1 % su.nights, (if 3 < su.nights - r1 % su.nights then 3 else su.nights - r1 % su.nights)] (i := r4 % 2) m4.1 (by show r4 % 2 < 2; exact m4.2)
    have hz0 : 1 ≤ z ∧ z ≤ su.nights - r1 % su.nights := by
      simp only [List.mem_cons, List.not_mem_nil, or_false] at zm
      rcases zm with rfl | rfl
      · omega
      · split <;> omega
    refine ⟨_, _, rfl, rfl, (by show (0 : Int) < 2; decide), L, _, _, _, rfl, rfl, SqL.of (k5.at hL4 (nmem_one dL.symm)), hz, _, _, rfl, rfl, (by show (0 : Int) < z; omega), ?_⟩
    have m3 := md r3 z (by omega)
    refine ⟨_, _, rfl, rfl, (by show 3 ≤ sizeLine; decide), fun t H6 ht k6 ht6 => ?_⟩
    refine q t (r2 % ((su.rooms.map V.int).length : Int), r1 % su.nights, r1 % su.nights + 1 + r3 % z) _ H6 ⟨by rw [el]; omega, by rw [el]; omega, m1.1, by show r1 % su.nights < r1 % su.nights + 1 + r3 % z; omega, by show r1 % su.nights + 1 + r3 % z ≤ su.nights; omega⟩
      ((((k1.trans k2).trans k3).th0 k4).trans k5 |>.th0 k6) (D5.kp0 k6) ht6
end

end MD
namespace MD
open PySem PySem.Spec PyProof.Rows L2
local macro_rules | `(tactic| walk_at "ne") => `(tactic| first | assumption | (apply Ne.symm; assumption) | exact ne_of_none (by assumption) (by assumption) | exact (ne_of_none (by assumption) (by assumption)).symm)
local macro_rules | `(tactic| walk_at "hp") => `(tactic| first | assumption | exact upd_same | (refine (upd_ne ?_).trans ?_; (focus walk_at "ne"); walk_at "hp"))
local macro_rules | `(tactic| walk_at "nm") => `(tactic| first | exact nmem_nil | exact nmem_one (by walk_at "ne") | exact nmem_cons (by walk_at "ne") (by walk_at "nm"))
/-! ### lists of stays -/
section
variable {P : Program} {w : World} {K : PySem.W.Frag} {mg : Str → Option Value} {base : Heap}
def StAt (H : Hp) (l : Addr) (ss : List Sy) : Prop := ∃ xs, H l = some (.lst xs) ∧ RepTs H (ss.map syD) xs
theorem StAt.kp {M : List Addr} {H H' : Hp} {l : Addr} {ss : List Sy} (h : StAt H l ss) (k : Kp M H H') (hl : l ∉ M) : StAt H' l ss := by
  obtain ⟨xs, h1, h2⟩ := h
  exact ⟨xs, k.at h1 hl, h2.kp k⟩
theorem StAt.kp0 {H H' : Hp} {l : Addr} {ss : List Sy} (h : StAt H l ss) (k : Kp [] H H') : StAt H' l ss := h.kp k nmem_nil
theorem decV {x e : Int} : decide (V.int x = V.int e) = decide (x = e) := by
  by_cases h : x = e
  · subst h; simp
  · rw [decide_eq_false h, decide_eq_false (fun z => h (V.int.inj z))]
def spMeet : Sp := fun vs H Q _ => ∃ (s t : Sy) (x y : V), vs = [x, y] ∧ RepT H (syD s) x ∧ RepT H (syD t) y ∧ Q (.bl (meetB s t)) H
theorem c_law_meet (T : Txt K mg) : Cal P w K mg base 1 "_law_meet" spMeet := by
  refine cal_of T.d_law_meet sc_law_meet (fun vs H Q E h => ?_) (fun f cdv A outer s H vs Q E hr h => ?_)
  · obtain ⟨s, t, x, y, rfl, _⟩ := h; rfl
  · obtain ⟨s, t, x, y, rfl, rs, rt, q⟩ := h
    obtain ⟨a, rfl, ha⟩ := syD_at rs
    obtain ⟨b, rfl, hb⟩ := syD_at rt
    refine ⟨_, (pss_one (ps_ret (pe_and (pe_cmpR op_eq (pe_ix (ixT (K := K)) (pv 0) pe_int (fun _ _ => rfl)) (pe_ix (ixT (K := K)) (pv 1) pe_int (fun _ _ => rfl)) (nomark _)) (pe_and (pe_cmpR op_lt (pe_ix (ixT (K := K)) (pv 0) pe_int (fun _ _ => rfl)) (pe_ix (ixT (K := K)) (pv 1) pe_int (fun _ _ => rfl)) (nomark _)) (pe_one (pe_cmpR op_lt (pe_ix (ixT (K := K)) (pv 1) pe_int (fun _ _ => rfl)) (pe_ix (ixT (K := K)) (pv 0) pe_int (fun _ _ => rfl)) (nomark _))))))), ?_⟩
    unfold meetB at q
    refine ⟨_, rfl, a, _, _, _, rfl, rfl, SqT.of ha, rfl, _, rfl, b, _, _, _, rfl, rfl, SqT.of hb, rfl, rfl, _, rfl, ?_⟩
    rw [decV]
    by_cases h1 : s.1 = t.1
    · rw [decide_eq_true h1] at q ⊢
      refine iteT ?_
      refine ⟨_, rfl, a, _, _, _, rfl, rfl, SqT.of ha, rfl, _, rfl, b, _, _, _, rfl, rfl, SqT.of hb, rfl, _, _, rfl, rfl, _, rfl, ?_⟩
      by_cases h2 : s.2.1 < t.2.2
      · rw [decide_eq_true h2] at q ⊢
        refine iteT ?_
        exact ⟨_, rfl, b, _, _, _, rfl, rfl, SqT.of hb, rfl, _, rfl, a, _, _, _, rfl, rfl, SqT.of ha, rfl, _, _, rfl, rfl, q⟩
      · rw [decide_eq_false h2] at q ⊢
        exact iteF q
    · rw [decide_eq_false h1] at q ⊢
      exact iteF q
def spFits : Sp := fun vs H Q _ => ∃ (a r p l : Addr) (su : Su) (ss : List Sy), vs = [.ref a, .ref l] ∧ SuAt H a r p su ∧ su.ok ∧ StAt H l ss ∧ ss.length ≤ 1000 ∧ ∀ (b : Bool) (H' : Hp), Kp [] H H' → (b = true ↔ Fits su ss) → Q (.bl b) H'
theorem cap_at {H : Hp} {a r p : Addr} {su : Su} (S : SuAt H a r p su) {k : Int} (h0 : 0 ≤ k) (h1 : k < su.rooms.length) : atI (su.rooms.map V.int) k = some (.int (capK su k)) := by
  have hk : k.toNat < su.rooms.length := by omega
  have e : su.rooms[k.toNat]? = some (su.rooms[k.toNat]) := by simp [hk]
  have e3 : capK su k = su.rooms[k.toNat] := by unfold capK; rw [List.getD_eq_getElem?_getD, e]; rfl
  rw [e3]; exact int_at h0 e
theorem c_law_fits (T : Txt K mg) : Cal P w K mg base 1 "_law_fits" spFits := by
  refine cal_of T.d_law_fits sc_law_fits (fun vs H Q E h => ?_) (fun f cdv A outer s H vs Q E hr h => ?_)
  · obtain ⟨a, r, p, l, su, ss, rfl, _⟩ := h; rfl
  · obtain ⟨a, r, p, l, su, ss, rfl, S, so, ⟨xs, hl, rx⟩, hsl, q⟩ := h
    refine ⟨_, (pss_cons (ps_for PassesOwn.never rfl (pi_range1 (by rfl) T.z_range (pa_cons (pe_callB (lenK (K := K)) (by rfl) T.z_len (by decide +kernel) (pa_cons (pe_ix (ixT (K := K)) (pv 0) pe_int (fun _ _ => rfl)) pa_nil)) pa_nil)) (pg_name (i := 2) sc_law_fits.nd rfl (Or.inr rfl))
  (pss_one (ps_for PassesOwn.never rfl (pi_range1 (by rfl) T.z_range (pa_cons (pe_ix (ixT (K := K)) (pv 0) pe_int (fun _ _ => rfl)) pa_nil)) (pg_name (i := 3) sc_law_fits.nd rfl (Or.inr rfl))
  (pss_one (ps_if (pt_cmpR op_gt (pe_callB (lenK (K := K)) (by rfl) T.z_len (by decide +kernel) (pa_cons (ke_lc rfl sc_law_fits.nd (pilK (K := K) (pv 1)) (blkOk_by (own := [("one", 4)]) (N := ["setup", "stays", "kind", "night", "one"]) (sc := defScope s_law_fits) (by decide +kernel)) (fun _ _ _ _ _ => (pg_name (i := 4) sc_law_fits.nd rfl (Or.inl rfl))) (fun _ _ _ _ _ => (pts_one (PW.pt (pw_and (pt_cmpR op_eq (pe_ix (ixT (K := K)) (pv 4) pe_int (fun _ _ => rfl)) (pv 2) (nomark _)) (pw_and1 (pt_chain op_le op_lt (pe_ix (ixT (K := K)) (pv 4) pe_int (fun _ _ => rfl)) (pv 3) (pe_ix (ixT (K := K)) (pv 4) pe_int (fun _ _ => rfl)))))))) (fun _ _ _ _ _ => (pv 4))) pa_nil)) (pe_ix (ixT (K := K)) (pe_ix (ixT (K := K)) (pv 0) pe_int (fun _ _ => rfl)) (pv 2) (fun _ _ => rfl)) (nomark _))
  (pss_one (ps_ret pe_bl))
  pss_nil)))))
  (pss_one (ps_ret pe_bl))), ?_⟩
    have hrl : (su.rooms.map V.int).length = su.rooms.length := List.length_map _
    have h3 := so.r3
    have h12 := so.n12
    have h1 := so.n1
    refine ⟨_, rfl, a, _, _, _, rfl, rfl, SqT.of S.ha, rfl, r, _, rfl, .inr (SqT.of S.hr), _, rfl, (by omega), (by omega), for_range (n := (su.rooms.map V.int).length) (fun i σ H' => ∃ (k2 k3 k4 : Option V), σ = [some (.ref a), some (.ref l), k2, k3, k4] ∧ Kp [] H H' ∧ ∀ k t : Int, 0 ≤ k → k < i → 0 ≤ t → t < su.nights → ((ss.countP (inN k t) : Nat) : Int) ≤ capK su k)
      ⟨_, _, _, rfl, Kp.refl, fun k t a b => by omega⟩ ?_ ?_⟩
    · rintro i σ H1 hi ⟨k2, k3, k4, rfl, k1, hb⟩
      have S1 := S.kp k1
      refine ⟨_, rfl, a, _, _, _, rfl, rfl, SqT.of S1.ha, rfl, _, rfl, (by omega), (by omega), for_range (n := su.nights.toNat) (fun j σ H' => ∃ (k3 k4 : Option V), σ = [some (.ref a), some (.ref l), some (.int (0 + i)), k3, k4] ∧ Kp [] H H' ∧ ∀ t : Int, 0 ≤ t → t < j → ((ss.countP (inN i t) : Nat) : Int) ≤ capK su i)
        ⟨_, _, rfl, k1, fun t a b => by omega⟩ ?_ ?_⟩
      · rintro j σ H2 hj ⟨k3, k4, rfl, k2, hbj⟩
        have S2 := S.kp k2
        have hl2 := k2.at hl nmem_nil
        have rx2 := rx.kp k2
        have ei : (0 : Int) + (i : Int) = i := by omega
        have ej : (0 : Int) + (j : Int) = j := by omega
        rw [ei, ej]
        refine ⟨_, rfl, l, rfl, ⟨_, SqL.of hl2⟩, fun D0 H3 hD kD hD' => ?_⟩
        refine kl_list (K := K) (a := l) (xs := xs) (fun m acc H' => Kp [] H2 H' ∧ acc.length = (ss.take m).countP (inN i j)) ⟨kD, rfl⟩ (fun m acc H' ⟨k, _⟩ => k.seq (SqL.of hl2) nmem_nil) ?_ ?_
        · rintro m x acc H4 hx hacc ⟨k4, ha⟩
          obtain ⟨s, hs, rs⟩ := rx2.at hx
          obtain ⟨y, rfl, hy⟩ := syD_at rs
          have hy4 := k4.tup _ _ hy
          have hm : m < ss.length := (List.getElem?_eq_some_iff.mp hs).1
          have hcl : (ss.take m).countP (inN i j) ≤ m := Nat.le_trans List.countP_le_length (by rw [List.length_take]; omega)
          have et : ss.take (m + 1) = ss.take m ++ [s] := by rw [List.take_add_one, hs]; rfl
          have no : inN i j s = false → acc.length = (ss.take (m + 1)).countP (inN i j) := fun z => by
            rw [et, List.countP_append, List.countP_cons_of_neg (by rw [z]; exact Bool.false_ne_true), List.countP_nil]; exact ha
          refine ⟨rfl, _, rfl, y, _, _, _, rfl, rfl, SqT.of hy4, rfl, _, rfl, rfl, _, rfl, ?_⟩
          rw [decV]
          by_cases h1 : s.1 = (i : Int)
          · rw [decide_eq_true h1]
            refine iteT ?_
            refine ⟨_, rfl, y, _, _, _, rfl, rfl, SqT.of hy4, rfl, _, rfl, _, _, rfl, rfl, _, rfl, ?_⟩
            by_cases h2 : s.2.1 ≤ (j : Int)
            · rw [decide_eq_true h2]
              refine iteT ?_
              refine ⟨_, rfl, y, _, _, _, rfl, rfl, SqT.of hy4, rfl, _, _, rfl, rfl, _, rfl, ?_⟩
              by_cases h3 : (j : Int) < s.2.2
              · rw [decide_eq_true h3]
                refine iteT ?_
                refine ⟨_, rfl, hacc, sz (show acc.length ≤ 1000 by omega), fun H5 k5 h5 => ⟨k4.put k5 hD, ?_⟩⟩
                rw [et, List.countP_append, List.countP_cons_of_pos (inN_iff.mpr ⟨h1, h2, h3⟩), List.length_append, ha]; rfl
              · rw [decide_eq_false h3]
                exact iteF ⟨hacc, k4, no (by unfold inN; rw [decide_eq_false h3]; simp)⟩
            · rw [decide_eq_false h2]
              exact iteF ⟨_, rfl, iteF ⟨hacc, k4, no (by unfold inN; rw [decide_eq_false h2]; simp)⟩⟩
          · rw [decide_eq_false h1]
            exact iteF (iteF ⟨hacc, k4, no (by unfold inN; rw [decide_eq_false h1]; simp)⟩)
        · rintro acc H4 hacc ⟨k4, ha⟩
          rw [rx.lenM, List.take_length] at ha
          have S4 := S2.kp k4
          refine ⟨D0, acc, rfl, .inl (SqL.of hacc), ?_⟩
          refine ⟨_, rfl, a, _, _, _, rfl, rfl, SqT.of S4.ha, rfl, _, rfl, r, _, _, _, rfl, rfl, SqT.of S4.hr, cap_at S4 (by omega) (by omega), _, _, rfl, rfl, _, rfl, ?_⟩
          refine ite2 (fun hc => ?_) (fun hc => ?_)
          · have hc := of_decide_eq_true hc
            refine q false H4 (k2.trans k4) ⟨(fun z => nomatch z), fun z => ?_⟩
            have := z i j (by omega) (by omega) (by omega) (by omega)
            omega
          · have hc : ¬ capK su i < (acc.length : Int) := fun z => hc (decide_eq_true z)
            refine ⟨_, _, rfl, k2.trans k4, fun t t0 t1 => ?_⟩
            by_cases z : t = j
            · rw [z]; omega
            · exact hbj t t0 (by omega)
      · rintro σ H2 ⟨k3, k4, rfl, k2, hbj⟩
        refine ⟨_, _, _, rfl, k2, fun k t a b c d => ?_⟩
        by_cases z : k = i
        · rw [z]; exact hbj t c (by omega)
        · exact hb k t a (by omega) c d
    · rintro σ H1 ⟨k2, k3, k4, rfl, k1, hb⟩
      exact q true H1 k1 ⟨fun _ k t a b c d => hb k t a (by rw [hrl]; exact b) c d, fun _ => rfl⟩
def spStays : Sp := fun vs H Q _ => ∃ (d n : Addr) (ns : List Int) (k : Int) (a r p : Addr) (su : Su) (many : Int), vs = [.ref d, .ref a, .int many] ∧ DrawsAt H d n ns k ∧ SuAt H a r p su ∧ su.ok ∧ 0 ≤ many ∧ many ≤ 60 ∧
  ∀ (l : Addr) (ss : List Sy) (k' : Int) (H' : Hp), H l = none → Kp [d] H H' → DrawsAt H' d n ns k' → StAt H' l ss → (∀ s ∈ ss, Sy.ok su s) → Fits su ss → (ss.length : Int) ≤ many → Q (.ref l) H'
theorem Fits.nil (su : Su) (so : su.ok) : Fits su [] := fun k t k0 k1 _ _ => by
  have hk : k.toNat < su.rooms.length := by omega
  have e : su.rooms[k.toNat]? = some (su.rooms[k.toNat]) := by simp [hk]
  have e3 : capK su k = su.rooms[k.toNat] := by unfold capK; rw [List.getD_eq_getElem?_getD, e]; rfl
  rw [List.countP_nil, e3]
  exact (so.rr _ (List.getElem_mem hk)).1
theorem c_law_stays (T : Txt K mg) : Cal P w K mg base 4 "_law_stays" spStays := by
  have c_law_stay := c_law_stay (P := P) (w := w) (base := base) T
  have c_law_fits := c_law_fits (P := P) (w := w) (base := base) T
  refine cal_of T.d_law_stays sc_law_stays (fun vs H Q E h => ?_) (fun f cdv A outer s H vs Q E hr h => ?_)
  · obtain ⟨d, n, ns, k, a, r, p, su, many, rfl, _⟩ := h; rfl
  · obtain ⟨d, n, ns, k, a, r, p, su, many, rfl, DA, S, so, h0, h60, q⟩ := h
    refine ⟨_, (pss_cons (ps_set (i := 3) sc_law_stays.nd rfl (Or.inl rfl) (ke_lst pa_nil))
  (pss_cons (ps_for PassesOwn.never rfl (pi_range1 (by rfl) T.z_range (pa_cons (pv 2) pa_nil)) (pg_name (i := 4) sc_law_stays.nd rfl (Or.inl rfl))
  (pss_cons (ps_set (i := 5) sc_law_stays.nd rfl (Or.inl rfl) (pe_c c_law_stay (hr.mono (by first | decide | omega)) rfl (pa_cons (pv 0) (pa_cons (pv 1) pa_nil))))
  (pss_one (ps_if (pt_val (pe_c c_law_fits (hr.mono (by first | decide | omega)) rfl (pa_cons (pv 1) (pa_cons (pe_op kcat (pv 3) (ke_lst (pa_cons (pv 5) pa_nil))) pa_nil))))
  (pss_one (ps_expr (pe_bm PySem.F.plainAttrs_list PySem.F.slot_list_append PySem.F.type_list_append mk_append (pv 3) (pa_cons (pv 5) pa_nil))))
  pss_nil))))
  (pss_one (ps_ret (pv 3))))), ?_⟩
    refine ⟨Nat.zero_le _, fun l H1 hl k1 hl1 => ?_⟩
    have dl : d ≠ l := ne_of_none DA.hd hl
    have nl : n ≠ l := ne_of_none DA.hn hl
    refine ⟨_, rfl, _, rfl, (by omega), (by omega), for_range (n := many.toNat) (fun i σ H' => ∃ (k4 k5 : Option V) (ss : List Sy) (k' : Int), σ = [some (.ref d), some (.ref a), some (.int many), some (.ref l), k4, k5] ∧ Kp [d] H H' ∧ DrawsAt H' d n ns k' ∧ StAt H' l ss ∧ (∀ s ∈ ss, Sy.ok su s) ∧ Fits su ss ∧ ss.length ≤ i)
      ⟨_, _, [], k, rfl, k1.nil, DA.kp0 k1, ⟨[], hl1, RepTs.nil⟩, (fun _ z => nomatch z), Fits.nil su so, Nat.le_refl _⟩ ?_ ?_⟩
    · rintro i σ H2 hi ⟨k4, k5, ss, k', rfl, k2, D2, ⟨xs, hx2, rx2⟩, hok, hf, hlen⟩
      refine ⟨_, rfl, _, rfl, d, n, ns, k', a, r, p, su, rfl, D2, S.kp k2, so, fun t s k'' H3 hs k3 D3 ht3 => ?_⟩
      have hx3 := k3.at hx2 (nmem_one dl.symm)
      have rx3 := rx2.kp k3
      have hxl : xs.length = ss.length := rx2.lenM
      refine ⟨_, rfl, _, rfl, _, rfl, (by show 1 ≤ sizeLine; decide), fun u H4 hu k4 hu4 => ?_⟩
      refine ⟨l, u, xs, _, rfl, rfl, k4.at hx3 nmem_nil, hu4, Nat.le_of_lt (sz (show xs.length + 1 ≤ 100 by omega)), fun z H5 hz k5 hz5 => ?_⟩
      have k35 := k4.trans k5
      have rt5 : RepT H5 (syD s) (.ref t) := syD_of (k35.tup _ _ ht3)
      have k25 : Kp [d] H H5 := (k2.trans k3).th0 k35
      refine ⟨a, r, p, z, su, ss ++ [s], rfl, S.kp k25, so, ⟨_, hz5, by rw [List.map_append]; exact RepTs.snoc rt5 (rx3.kp k35)⟩, by rw [List.length_append, List.length_singleton]; omega, fun b H6 k6 hb => ?_⟩
      have hx6 := k6.at (k35.at hx3 nmem_nil) nmem_nil
      have D6 := (D3.kp0 k35).kp0 k6
      refine ⟨_, rfl, ?_⟩
      cases b with
      | true =>
        refine iteT ?_
        refine ⟨_, rfl, .inl ⟨rfl, _, SqL.of hx6⟩, _, rfl, l, xs, _, rfl, rfl, hx6, sz (show xs.length ≤ 100 by omega), fun H7 k7 h7 => ?_⟩
        refine ⟨_, _, ss ++ [s], _, rfl, (k25.th0 k6).put k7 hl, D6.put k7 dl nl, ⟨_, h7, by rw [List.map_append]; exact RepTs.snoc ((rt5.kp k6).kp k7) (((rx3.kp k35).kp k6).kp k7)⟩, fun y hy => ?_, hb.mp rfl, by rw [List.length_append, List.length_singleton]; omega⟩
        rcases List.mem_append.mp hy with z | z
        · exact hok y z
        · rw [List.mem_singleton.mp z]; exact hs
      | false =>
        refine iteF ?_
        exact ⟨_, _, ss, _, rfl, k25.th0 k6, D6, ⟨xs, hx6, (rx3.kp k35).kp k6⟩, hok, hf, by omega⟩
    · rintro σ H2 ⟨k4, k5, ss, k', rfl, k2, D2, st, hok, hf, hlen⟩
      exact ⟨_, rfl, q l ss k' H2 hl k2 D2 st hok hf (by omega)⟩
end

end MD
namespace MD
open PySem PySem.Spec PyProof.Rows L2
local macro_rules | `(tactic| walk_at "ne") => `(tactic| first | assumption | (apply Ne.symm; assumption) | exact ne_of_none (by assumption) (by assumption) | exact (ne_of_none (by assumption) (by assumption)).symm)
local macro_rules | `(tactic| walk_at "hp") => `(tactic| first | assumption | exact upd_same | (refine (upd_ne ?_).trans ?_; (focus walk_at "ne"); walk_at "hp"))
local macro_rules | `(tactic| walk_at "nm") => `(tactic| first | exact nmem_nil | exact nmem_one (by walk_at "ne") | exact nmem_cons (by walk_at "ne") (by walk_at "nm"))
/-! ### the order of the first nights -/
section
variable {P : Program} {w : World} {K : PySem.W.Frag} {mg : Str → Option Value} {base : Heap}
theorem gS_at {ss : List Sy} {i : Nat} (h : i < ss.length) : ss[i]? = some (gS ss i) := by
  have : ss[i]? = some ss[i] := by simp [h]
  rw [this, gS_of this]
/-- stays[k], opened -/
theorem StAt.at {H : Hp} {l : Addr} {ss : List Sy} {xs : List V} (h : RepTs H (ss.map syD) xs) {k : Nat} (hk : k < ss.length) : ∃ y, xs[k]? = some (.ref y) ∧ H y = some (.tup [.int (gS ss k).1, .int (gS ss k).2.1, .int (gS ss k).2.2]) := by
  have hl := h.lenM
  have e : xs[k]? = some (xs[k]'(by omega)) := by simp [show k < xs.length by omega]
  obtain ⟨s, hs, rs⟩ := h.at e
  rw [gS_at hk] at hs
  cases hs
  obtain ⟨y, ey, hy⟩ := syD_at rs
  exact ⟨y, by rw [e, ey], hy⟩
def spOrder : Sp := fun vs H Q _ => ∃ (l : Addr) (ss : List Sy), vs = [.ref l] ∧ StAt H l ss ∧ ss.length ≤ 100 ∧
  ∀ (lo : Addr) (os : List Nat) (H' : Hp), H lo = none → Kp [] H H' → H' lo = some (.lst (os.map fun k => V.int (k : Nat))) → IsOrd ss (List.range ss.length) os → Q (.ref lo) H'
theorem c_law_order (T : Txt K mg) : Cal P w K mg base 1 "_law_order" spOrder := by
  refine cal_of T.d_law_order sc_law_order (fun vs H Q E h => ?_) (fun f cdv A outer s H vs Q E hr h => ?_)
  · obtain ⟨l, ss, rfl, _⟩ := h; rfl
  · obtain ⟨l, ss, rfl, ⟨xs, hl, rx⟩, hlen, q⟩ := h
    have hxl : xs.length = ss.length := rx.lenM
    refine ⟨_, (pss_one (ps_ret (ke_lc rfl sc_law_order.nd (pilK (K := K) (pe_callB (ksortPO (K := K)) (by rfl) T.z_sorted (by decide +kernel) (pa_cons (ke_lc rfl sc_law_order.nd (pi_range1 (by rfl) T.z_range (pa_cons (pe_callB (lenK (K := K)) (by rfl) T.z_len (by decide +kernel) (pa_cons (pv 0) pa_nil)) pa_nil)) (blkOk_by (own := [("k", 2)]) (N := ["stays", "pair", "k"]) (sc := defScope s_law_order) (by decide +kernel)) (fun _ _ _ _ _ => (pg_name (i := 2) sc_law_order.nd rfl (Or.inl rfl))) (fun _ _ _ _ _ => pts_nil) (fun _ _ _ _ _ => (ke_tup (pa_cons (pe_ix (ixT (K := K)) (pe_ix (ixL (K := K)) (pv 0) (pv 2) (fun _ _ => rfl)) pe_int (fun _ _ => rfl)) (pa_cons (pv 2) pa_nil))))) pa_nil))) (blkOk_by (own := [("pair", 1)]) (N := ["stays", "pair", "k"]) (sc := defScope s_law_order) (by decide +kernel)) (fun _ _ _ _ _ => (pg_name (i := 1) sc_law_order.nd rfl (Or.inl rfl))) (fun _ _ _ _ _ => pts_nil) (fun _ _ _ _ _ => (pe_ix (ixT (K := K)) (pv 1) pe_int (fun _ _ => rfl)))))), ?_⟩
    refine ⟨_, rfl, l, xs, rfl, .inl (SqL.of hl), _, rfl, (by omega), (by omega), fun D0 H1 hD kD hD' => ?_⟩
    refine kl_range (n := xs.length) (fun i acc H' => Kp [] H H' ∧ RepTs H' ((List.range i).map fun k => prD (kf ss k) (k : Nat)) acc ∧ acc.length = i) ⟨kD, RepTs.nil, rfl⟩ ?_ ?_
    · rintro i acc H2 hi hacc ⟨k2, ra, hal⟩
      have ei : (0 : Int) + (i : Int) = i := by omega
      rw [ei]
      obtain ⟨y, hy, hy2⟩ := StAt.at (l := l) (rx.kp k2) (show i < ss.length by omega)
      refine turn1 rfl ?_
      refine ⟨_, rfl, _, rfl, l, _, _, _, rfl, rfl, SqL.of (k2.at hl nmem_nil), atI_nat hy, y, _, _, _, rfl, rfl, SqT.of hy2, rfl, _, rfl, (by show 2 ≤ sizeLine; decide), fun t H3 ht k3 ht3 => ⟨k3.at hacc nmem_nil, sz (show acc.length ≤ 100 by omega), fun H4 k4 h4 => ⟨(k2.trans k3).put k4 hD, ?_, by rw [List.length_append, hal]; rfl⟩⟩⟩
      rw [List.range_succ, List.map_append]
      exact RepTs.snoc (RepT.tup (k4.tup _ _ ht3) (RepTs.cons RepT.int (RepTs.cons RepT.int RepTs.nil))) ((ra.kp k3).kp k4)
    · rintro acc H2 hacc ⟨k2, ra, hal⟩
      rw [hxl] at ra
      refine ⟨D0, acc, kyP H2, rfl, SqL.of hacc, fun x hx => ?_, fun ys hs hp d H3 hd k3 hd3 => ?_⟩
      · obtain ⟨i, s, h1, h2, h3⟩ := RepTs.mem ra hx
        obtain ⟨t, e1, e2, e3⟩ := prD_at h3
        exact ⟨t, e1, by rw [e3]; exact e2⟩
      · obtain ⟨os, ho, ro⟩ := ord_of ra hs hp
        have hol : ys.length = os.length := ro.lenM
        have hos : os.length = ss.length := by rw [ho.1.length_eq, List.length_range]
        refine ⟨d, rfl, ⟨_, SqL.of hd3⟩, fun D1 H4 hD1 kD1 hD1' => ?_⟩
        refine kl_list (K := K) (a := d) (xs := ys) (fun m acc H' => Kp [] H3 H' ∧ acc = (os.take m).map fun k => V.int (k : Nat)) ⟨kD1, rfl⟩ (fun m acc H' ⟨k, _⟩ => k.seq (SqL.of hd3) nmem_nil) ?_ ?_
        · rintro m x acc H5 hx hacc5 ⟨k5, rfl⟩
          obtain ⟨s, hs1, rs⟩ := (ro.kp k3).at hx
          obtain ⟨t, rfl, ht, _⟩ := prD_at rs
          refine turn1 rfl ?_
          refine ⟨_, rfl, t, _, _, _, rfl, rfl, SqT.of (k5.tup _ _ ht), rfl, hacc5, ?_, fun H6 k6 h6 => ⟨k5.put k6 hD1, ?_⟩⟩
          · rw [List.length_map, List.length_take]
            exact sz (show min m os.length ≤ 100 by omega)
          · rw [List.take_add_one, hs1, List.map_append]; rfl
        · rintro acc H5 hacc5 ⟨k5, rfl⟩
          rw [hol, List.take_length] at hacc5
          exact q D1 os H5 ((k2.trans k3).free hD1) ((k2.trans k3).trans k5) hacc5 ho
end

end MD
namespace MD
open PySem PySem.Spec PyProof.Rows L2
local macro_rules | `(tactic| walk_at "ne") => `(tactic| first | assumption | (apply Ne.symm; assumption) | exact ne_of_none (by assumption) (by assumption) | exact (ne_of_none (by assumption) (by assumption)).symm)
local macro_rules | `(tactic| walk_at "hp") => `(tactic| first | assumption | exact upd_same | (refine (upd_ne ?_).trans ?_; (focus walk_at "ne"); walk_at "hp"))
local macro_rules | `(tactic| walk_at "nm") => `(tactic| first | exact nmem_nil | exact nmem_one (by walk_at "ne") | exact nmem_cons (by walk_at "ne") (by walk_at "nm"))
/-! ### rooms that are given -/
section
variable {P : Program} {w : World} {K : PySem.W.Frag} {mg : Str → Option Value} {base : Heap}
def odV : Option Int → V
  | none => .non
  | some r => .int r
theorem odV_at {rm : List (Option Int)} {k : Nat} (h : k < rm.length) : (rm.map odV)[k]? = some (odV (gR rm k)) := by
  have e : rm[k]? = some rm[k] := by simp [h]
  rw [List.getElem?_map, e, gR_of e]; rfl
theorem flat_od : ∀ rm : List (Option Int), (rm.map odV).all flatV = true
  | [] => rfl
  | none :: r => flat_od r
  | some x :: r => flat_od r
theorem inV_od {r : Int} : ∀ {rm : List (Option Int)}, inV (.int r) (rm.map odV) = decide (some r ∈ rm)
  | [] => by simp [inV]
  | none :: rm => by
    have ih := inV_od (r := r) (rm := rm)
    unfold inV at ih ⊢
    rw [List.map_cons, List.any_cons, ih]
    simp [odV, eqV]
  | some x :: rm => by
    have ih := inV_od (r := r) (rm := rm)
    unfold inV at ih ⊢
    rw [List.map_cons, List.any_cons, ih]
    simp only [odV, eqV, List.mem_cons, Option.some.injEq]
    rw [Bool.eq_iff_iff]
    simp only [Bool.or_eq_true, beq_iff_eq, decide_eq_true_eq]
    constructor
    · rintro (h | h)
      · exact .inl h.symm
      · exact .inr h
    · rintro (h | h)
      · exact .inl h.symm
      · exact .inr h
theorem inV_int {r : Int} {T : List Int} : inV (.int r) (T.map V.int) = decide (r ∈ T) := by
  have e : T.map V.int = (T.map some).map odV := by rw [List.map_map]; rfl
  rw [e, inV_od]
  simp
theorem flat_int (T : List Int) : (T.map V.int).all flatV = true := by
  have e : T.map V.int = (T.map some).map odV := by rw [List.map_map]; rfl
  rw [e]; exact flat_od _
/-- takenL, over the first j -/
def takenU (ss : List Sy) (rm : List (Option Int)) (k n : Nat) : List Int := (List.range n).filterMap fun j => if meetB (gS ss j) (gS ss k) = true then gR rm j else none
theorem takenU_s (ss : List Sy) (rm : List (Option Int)) (k n : Nat) : takenU ss rm k (n + 1) = takenU ss rm k n ++ (match (if meetB (gS ss n) (gS ss k) = true then gR rm n else none) with | some r => [r] | none => []) := by
  unfold takenU
  rw [List.range_succ, List.filterMap_append]
  congr 1
  rw [List.filterMap_cons, List.filterMap_nil]
  cases (if meetB (gS ss n) (gS ss k) = true then gR rm n else none) <;> rfl
theorem takenU_len (ss : List Sy) (rm : List (Option Int)) (k n : Nat) : (takenU ss rm k n).length ≤ n := by
  have := List.length_filterMap_le (fun j => if meetB (gS ss j) (gS ss k) = true then gR rm j else none) (List.range n)
  rw [List.length_range] at this
  exact this
def freeU (T : List Int) (n : Nat) : List Nat := (List.range n).filter fun (r : Nat) => decide ((r : Int) ∉ T)
theorem freeU_s (T : List Int) (n : Nat) : freeU T (n + 1) = freeU T n ++ (if (n : Int) ∉ T then [n] else []) := by
  unfold freeU
  rw [List.range_succ, List.filter_append]
  congr 1
  rw [List.filter_cons, List.filter_nil]
  by_cases h : (n : Int) ∈ T <;> simp [h]
theorem set_od {rm : List (Option Int)} {k : Nat} {r : Int} : (rm.map odV).set k (.int r) = (rm.set k (some r)).map odV := by
  rw [List.map_set]; rfl
theorem ixN_nat {n k : Nat} (h : k < n) : ixN n (k : Int) = some k := by
  have e1 : ¬ ((k : Int) < 0) := by omega
  simp [ixN, e1, h]
theorem cap_rg {su : Su} (so : su.ok) {k : Int} (h0 : 0 ≤ k) (h1 : k < su.rooms.length) : 0 ≤ capK su k ∧ capK su k ≤ 4 := by
  have hk : k.toNat < su.rooms.length := by omega
  have e : su.rooms[k.toNat]? = some (su.rooms[k.toNat]) := by simp [hk]
  have e3 : capK su k = su.rooms[k.toNat] := by unfold capK; rw [List.getD_eq_getElem?_getD, e]; rfl
  rw [e3]
  exact so.rr _ (List.getElem_mem hk)
end

end MD
namespace MD
open PySem PySem.Spec PyProof.Rows L2
local macro_rules | `(tactic| walk_at "ne") => `(tactic| first | assumption | (apply Ne.symm; assumption) | exact ne_of_none (by assumption) (by assumption) | exact (ne_of_none (by assumption) (by assumption)).symm)
local macro_rules | `(tactic| walk_at "hp") => `(tactic| first | assumption | exact upd_same | (refine (upd_ne ?_).trans ?_; (focus walk_at "ne"); walk_at "hp"))
local macro_rules | `(tactic| walk_at "nm") => `(tactic| first | exact nmem_nil | exact nmem_one (by walk_at "ne") | exact nmem_cons (by walk_at "ne") (by walk_at "nm"))
/-! ### drawn rooms for those that have come -/
section
variable {P : Program} {w : World} {K : PySem.W.Frag} {mg : Str → Option Value} {base : Heap}
def spGiven : Sp := fun vs H Q _ => ∃ (d n : Addr) (ns : List Int) (kd : Int) (a r p l : Addr) (su : Su) (ss : List Sy) (night : Int), vs = [.ref d, .ref a, .ref l, .int night] ∧ DrawsAt H d n ns kd ∧ SuAt H a r p su ∧ su.ok ∧ StAt H l ss ∧ l ≠ d ∧ ss.length ≤ 100 ∧ (∀ s ∈ ss, Sy.ok su s) ∧ Fits su ss ∧
  ∀ (R : Addr) (rm : List (Option Int)) (kd' : Int) (H' : Hp), H R = none → Kp [d] H H' → DrawsAt H' d n ns kd' → H' R = some (.lst (rm.map odV)) → RmOk su ss rm → (∀ k, k < ss.length → (gR rm k = none ↔ night < kf ss k)) → Q (.ref R) H'
theorem c_law_given (T : Txt K mg) : Cal P w K mg base 3 "_law_given" spGiven := by
  have c_law_order := c_law_order (P := P) (w := w) (base := base) T
  have c_law_meet := c_law_meet (P := P) (w := w) (base := base) T
  have c_law_draw := c_law_draw (P := P) (w := w) (base := base) T
  refine cal_of T.d_law_given sc_law_given (fun vs H Q E h => ?_) (fun f cdv A outer s H vs Q E hr h => ?_)
  · obtain ⟨d, n, ns, kd, a, r, p, l, su, ss, night, rfl, _⟩ := h; rfl
  · obtain ⟨d, n, ns, kd, a, r, p, l, su, ss, night, rfl, DA, S, so, ⟨xs, hl, rx⟩, ld, hlen, ok, F, q⟩ := h
    have hxl : xs.length = ss.length := rx.lenM
    refine ⟨_, (pss_cons (ps_set (i := 4) sc_law_given.nd rfl (Or.inr rfl) (ke_lc rfl sc_law_given.nd (pilK (K := K) (pv 2)) (blkOk_by (own := [("stay", 8)]) (N := ["draws", "setup", "stays", "night", "rooms", "k", "taken", "free", "stay", "j", "room"]) (sc := defScope s_law_given) (by decide +kernel)) (fun _ _ _ _ _ => (pg_name (i := 8) sc_law_given.nd rfl (Or.inl rfl))) (fun _ _ _ _ _ => pts_nil) (fun _ _ _ _ _ => pe_non)))
  (pss_cons (ps_for PassesOwn.never rfl (pilK (K := K) (pe_c c_law_order (hr.mono (by first | decide | omega)) rfl (pa_cons (pv 2) pa_nil))) (pg_name (i := 5) sc_law_given.nd rfl (Or.inr rfl))
  (pss_one (ps_if (pt_cmpR op_le (pe_ix (ixT (K := K)) (pe_ix (ixL (K := K)) (pv 2) (pv 5) (fun _ _ => rfl)) pe_int (fun _ _ => rfl)) (pv 3) (nomark _))
  (pss_cons (ps_set (i := 6) sc_law_given.nd rfl (Or.inr rfl) (ke_lc rfl sc_law_given.nd (pi_range1 (by rfl) T.z_range (pa_cons (pe_callB (lenK (K := K)) (by rfl) T.z_len (by decide +kernel) (pa_cons (pv 2) pa_nil)) pa_nil)) (blkOk_by (own := [("j", 9)]) (N := ["draws", "setup", "stays", "night", "rooms", "k", "taken", "free", "stay", "j", "room"]) (sc := defScope s_law_given) (by decide +kernel)) (fun _ _ _ _ _ => (pg_name (i := 9) sc_law_given.nd rfl (Or.inl rfl))) (fun _ _ _ _ _ => (pts_one (PW.pt (pw_and (pt_cmpR op_notN (pe_ix (ixL (K := K)) (pv 4) (pv 9) (fun _ _ => rfl)) pe_non (nomark _)) (pw_and1 (pt_val (pe_c c_law_meet (hr.mono (by first | decide | omega)) rfl (pa_cons (pe_ix (ixL (K := K)) (pv 2) (pv 9) (fun _ _ => rfl)) (pa_cons (pe_ix (ixL (K := K)) (pv 2) (pv 5) (fun _ _ => rfl)) pa_nil))))))))) (fun _ _ _ _ _ => (pe_ix (ixL (K := K)) (pv 4) (pv 9) (fun _ _ => rfl)))))
  (pss_cons (ks_setLc (i := 7) rfl sc_law_given.nd rfl rfl (sw_true rfl rfl rfl (by decide +kernel)) (pi_range1 (by rfl) T.z_range (pa_cons (pe_ix (ixT (K := K)) (pe_ix (ixT (K := K)) (pv 1) pe_int (fun _ _ => rfl)) (pe_ix (ixT (K := K)) (pe_ix (ixL (K := K)) (pv 2) (pv 5) (fun _ _ => rfl)) pe_int (fun _ _ => rfl)) (fun _ _ => rfl)) pa_nil)) (blkOk_by (own := [("room", 10)]) (N := ["draws", "setup", "stays", "night", "rooms", "k", "taken", "free", "stay", "j", "room"]) (sc := defScope s_law_given) (by decide +kernel)) (fun _ _ _ _ _ => (pg_name (i := 10) sc_law_given.nd rfl (Or.inl rfl))) (fun _ _ _ _ _ => (pts_one (pt_cmpR (niK (K := K)) (pv 10) (pv 6) (by rfl)))) (fun _ _ _ _ _ => (pv 10)))
  (pss_one (ps_asg (pe_ix (ixL (K := K)) (pv 7) (pe_op op_mod (pe_c c_law_draw (hr.mono (by first | decide | omega)) rfl (pa_cons (pv 0) pa_nil)) (pe_callB (lenK (K := K)) (by rfl) T.z_len (by decide +kernel) (pa_cons (pv 7) pa_nil))) (fun _ _ => rfl)) (pg_sub (pv 4) (pv 5) kset_list)))))
  pss_nil)))
  (pss_one (ps_ret (pv 4))))), ?_⟩
    refine ⟨_, rfl, l, rfl, ⟨_, SqL.of hl⟩, fun R H0 hR kR hR0 => ?_⟩
    refine kl_list (K := K) (a := l) (xs := xs) (fun m acc H' => Kp [] H H' ∧ acc = (List.replicate m (none : Option Int)).map odV) ⟨kR, rfl⟩ (fun m acc H' ⟨k, _⟩ => k.seq (SqL.of hl) nmem_nil) ?_ ?_
    · rintro m x acc H1 hx hacc ⟨k1, rfl⟩
      have hm := (List.getElem?_eq_some_iff.mp hx).1
      refine turn1 rfl ?_
      refine ⟨hacc, ?_, fun H2 k2 h2 => ⟨k1.put k2 hR, ?_⟩⟩
      · rw [List.length_map, List.length_replicate]
        exact sz (show m ≤ 100 by omega)
      · rw [List.replicate_succ', List.map_append]; rfl
    rintro acc H1 hR1 ⟨k1, rfl⟩
    rw [hxl] at hR1
    have hl1 := k1.at hl nmem_nil
    have D1 := DA.kp0 k1
    have dR : d ≠ R := ne_of_none DA.hd hR
    have nR : n ≠ R := ne_of_none DA.hn hR
    refine ⟨_, rfl, l, ss, rfl, ⟨xs, hl1, rx.kp k1⟩, hlen, fun lo os H2 hlo k2 hlo2 ord => ?_⟩
    have hmem : ∀ k ∈ os, k < ss.length := fun k hk => List.mem_range.mp (ord.1.mem_iff.mp hk)
    have hall : ∀ k, k < ss.length → k ∈ os := fun k hk => ord.1.mem_iff.mpr (List.mem_range.mpr hk)
    have hnd : os.Nodup := ord.1.nodup_iff.mpr List.nodup_range
    have hpw : os.Pairwise (fun i j => kf ss i ≤ kf ss j) := ord.2.imp fun h => by omega
    have hR2 := k2.at hR1 nmem_nil
    have D2 := D1.kp0 k2
    have lR : lo ≠ R := (ne_of_none hR1 hlo).symm
    have lD : lo ≠ d := (ne_of_none D1.hd hlo).symm
    have lxR : l ≠ R := ne_of_none hl hR
    have dn := DA.ne
    have ro0 : RmOk su ss (List.replicate ss.length none) := ⟨List.length_replicate, (fun k r hk e => by
      rw [gR_of (by simp [hk] : (List.replicate ss.length (none : Option Int))[k]? = some none)] at e; cases e), fun j k r hj hk _ _ e => by
      rw [gR_of (by simp [hj] : (List.replicate ss.length (none : Option Int))[j]? = some none)] at e; cases e⟩
    refine ⟨lo, rfl, ⟨_, SqL.of hlo2⟩, for_list (K := K) (a := lo) (xs := os.map fun k => V.int (k : Nat)) (fun i σ H' => ∃ (k4 k5 k6 k7 k8 k9 : Option V) (rm : List (Option Int)) (kd' : Int), σ = [some (.ref d), some (.ref a), some (.ref l), some (.int night), some (.ref R), k4, k5, k6, k7, k8, k9] ∧ Kp [d, R] H2 H' ∧ DrawsAt H' d n ns kd' ∧ H' R = some (.lst (rm.map odV)) ∧ RmOk su ss rm ∧ ∀ k, k < ss.length → (gR rm k ≠ none ↔ (k ∈ os.take i ∧ kf ss k ≤ night)))
      ⟨_, _, _, _, _, _, _, _, rfl, Kp.refl, D2, hR2, ro0, fun k hk => by
        rw [gR_of (by simp [hk] : (List.replicate ss.length (none : Option Int))[k]? = some none), List.take_zero]
        simp⟩ (fun i σ H' _ ⟨_, _, _, _, _, _, _, _, _, k, _⟩ => k.seq (SqL.of hlo2) (by simp [lR, lD])) ?_ ?_⟩
    · rintro i x σ H3 hx ⟨k4, k5, k6, k7, k8, k9, rm3, kd3, rfl, k3, D3, hR3, ro3, hin⟩
      obtain ⟨k, hk, rfl⟩ : ∃ k, os[i]? = some k ∧ x = .int (k : Nat) := by
        rw [List.getElem?_map] at hx
        cases e : os[i]? with
        | none => rw [e] at hx; cases hx
        | some k => rw [e] at hx; cases hx; exact ⟨k, rfl, rfl⟩
      have hkl := hmem k (List.mem_of_getElem? hk)
      have hi : i < os.length := (List.getElem?_eq_some_iff.mp hk).1
      have ed : os.drop i = k :: os.drop (i + 1) := by
        rw [List.drop_eq_getElem_cons hi]
        congr 1
        exact (List.getElem?_eq_some_iff.mp hk).2
      have esp : os = os.take i ++ os.drop i := (List.take_append_drop i os).symm
      have hnk : k ∉ os.take i := fun z => by
        rw [esp] at hnd
        exact (List.nodup_append.mp hnd).2.2 k z k (by rw [ed]; exact List.mem_cons_self) rfl
      have hbe : ∀ j ∈ os.take i, kf ss j ≤ kf ss k := fun j hj => by
        rw [esp] at hpw
        exact (List.pairwise_append.mp hpw).2.2 j hj k (by rw [ed]; exact List.mem_cons_self)
      have et : ∀ j, j ∈ os.take (i + 1) ↔ j ∈ os.take i ∨ j = k := fun j => by
        rw [List.take_add_one, hk, List.mem_append]
        simp
      have en : gR rm3 k = none := Classical.byContradiction fun z => hnk ((hin k hkl).mp z).1
      have hrl : k < rm3.length := by rw [ro3.len]; exact hkl
      have hl3 := k3.at (k2.at hl1 nmem_nil) (by simp [lxR, ld])
      have rx3 := ((rx.kp k1).kp k2).kp k3
      obtain ⟨y0, g0, g1⟩ := StAt.at (l := l) rx3 hkl
      refine ⟨_, rfl, _, rfl, l, _, _, _, rfl, rfl, SqL.of hl3, atI_nat g0, y0, _, _, _, rfl, rfl, SqT.of g1, rfl, _, rfl, _, _, rfl, rfl, _, rfl, ?_⟩
      refine ite2 (fun hc => ?_) (fun hc => ?_)
      · have hc : kf ss k ≤ night := of_decide_eq_true hc
        have hcap := taken_lt F ok hkl en fun j r hj e => hbe j ((hin j hj).mp (by rw [e]; exact fun z => by cases z)).1
        have ok3 := ok _ (gS_mem hkl)
        obtain ⟨c0, c4⟩ := cap_rg so ok3.k0 ok3.k1
        refine ⟨_, rfl, l, xs, rfl, .inl (SqL.of hl3), _, rfl, (by omega), (by omega), fun D0 H4 hD kD hD' => ?_⟩
        refine kl_range (n := xs.length) (fun j acc H' => Kp [] H3 H' ∧ acc = (takenU ss rm3 k j).map V.int) ⟨kD, rfl⟩ ?_ ?_
        · rintro j acc H5 hj hacc ⟨k5, rfl⟩
          have hjs : j < ss.length := by omega
          have hjr : j < rm3.length := by rw [ro3.len]; exact hjs
          have e0 : (0 : Int) + (j : Int) = j := by omega
          rw [e0]
          have hR5 := k5.at hR3 nmem_nil
          have hl5 := k5.at hl3 nmem_nil
          have hat := odV_at hjr
          have hts := takenU_s ss rm3 k j
          have htl := takenU_len ss rm3 k j
          refine ⟨rfl, _, rfl, _, rfl, R, _, _, _, rfl, rfl, SqL.of hR5, atI_nat hat, rfl, _, rfl, ?_⟩
          cases ej : gR rm3 j with
          | none =>
            have e1 : (!decide (odV none = V.non)) = false := by simp [odV]
            rw [e1]
            refine iteF (iteF ⟨hacc, k5, ?_⟩)
            rw [hts, ej, ite_self]
            show _ = List.map V.int (_ ++ [])
            rw [List.append_nil]
          | some v =>
            have e1 : (!decide (odV (some v) = V.non)) = true := by simp [odV]
            rw [e1]
            rw [ej] at hat hts
            obtain ⟨y1, g1, g2⟩ := StAt.at (l := l) (rx3.kp k5) hjs
            obtain ⟨y2, g3, g4⟩ := StAt.at (l := l) (rx3.kp k5) hkl
            refine iteT ⟨_, rfl, _, rfl, l, _, _, _, rfl, rfl, SqL.of hl5, atI_nat g1, _, rfl, _, rfl, l, _, _, _, rfl, rfl, SqL.of hl5, atI_nat g3, gS ss j, gS ss k, _, _, rfl, syD_of g2, syD_of g4, _, rfl, ?_⟩
            by_cases hm : meetB (gS ss j) (gS ss k) = true
            · rw [hm]
              rw [if_pos hm] at hts
              refine iteT ⟨_, rfl, _, rfl, R, _, _, _, rfl, rfl, SqL.of hR5, atI_nat hat, hacc, ?_, fun H6 k6 h6 => ⟨k5.put k6 hD, ?_⟩⟩
              · rw [List.length_map]
                exact sz (show (takenU ss rm3 k j).length ≤ 100 by omega)
              · rw [hts, List.map_append]; rfl
            · rw [Bool.eq_false_iff.mpr hm]
              rw [if_neg hm] at hts
              refine iteF ⟨hacc, k5, ?_⟩
              rw [hts]
              show _ = List.map V.int (_ ++ [])
              rw [List.append_nil]
        · rintro acc H5 hacc ⟨k5, rfl⟩
          rw [hxl] at hacc
          have hT : takenU ss rm3 k ss.length = takenL ss rm3 k := rfl
          rw [hT] at hacc
          generalize eT : takenL ss rm3 k = TT at *
          have hl5 := k5.at hl3 nmem_nil
          obtain ⟨y2, g3, g4⟩ := StAt.at (l := l) (rx3.kp k5) hkl
          have S5 := (((S.kp k1).kp k2).kp k3).kp k5
          refine ⟨_, rfl, a, _, _, _, rfl, rfl, SqT.of S5.ha, rfl, _, rfl, _, rfl, l, _, _, _, rfl, rfl, SqL.of hl5, atI_nat g3, y2, _, _, _, rfl, rfl, SqT.of g4, rfl, r, _, _, _, rfl, rfl, SqT.of S5.hr, cap_at S5 ok3.k0 ok3.k1, _, rfl, (by omega), (by omega), fun D1 H6 hD1 kD1 hD1' => ?_⟩
          refine kl_range (n := (capK su (gS ss k).1).toNat) (fun m acc H' => Kp [] H5 H' ∧ acc = (freeU TT m).map (fun r => V.int (r : Nat))) ⟨kD1, rfl⟩ ?_ ?_
          · rintro m acc H7 hm hacc7 ⟨k7, rfl⟩
            have e0 : (0 : Int) + (m : Int) = m := by omega
            rw [e0]
            have hfs := freeU_s TT m
            have hfl : (freeU TT m).length ≤ m := Nat.le_trans (List.length_filter_le _ _) (by rw [List.length_range]; omega)
            refine ⟨rfl, _, rfl, _, rfl, D0, _, rfl, .inl (SqL.of (k7.at hacc nmem_nil)), rfl, flat_int _, _, rfl, ?_⟩
            have e2 : (if true = true then !inV (.int (m : Int)) (TT.map V.int) else inV (.int (m : Int)) (TT.map V.int)) = !decide ((m : Int) ∈ TT) := by rw [if_pos rfl, inV_int]
            rw [e2]
            by_cases hin : (m : Int) ∈ TT
            · rw [decide_eq_true hin]
              rw [if_neg (fun z => z hin), List.append_nil] at hfs
              exact iteF ⟨hacc7, k7, by rw [hfs]⟩
            · rw [decide_eq_false hin]
              rw [if_pos hin] at hfs
              refine iteT ⟨_, rfl, hacc7, ?_, fun H8 k8 h8 => ⟨k7.put k8 hD1, by rw [hfs, List.map_append]; rfl⟩⟩
              rw [List.length_map]
              exact sz (show (freeU TT m).length ≤ 100 by omega)
          · rintro acc H7 hacc7 ⟨k7, rfl⟩
            have hfree := free_len TT (capK su (gS ss k).1).toNat
            have hfree : (capK su (gS ss k).1).toNat ≤ (freeU TT (capK su (gS ss k).1).toNat).length + TT.length := hfree
            have hfl : (freeU TT (capK su (gS ss k).1).toNat).length ≤ (capK su (gS ss k).1).toNat := Nat.le_trans (List.length_filter_le _ _) (by rw [List.length_range]; omega)
            generalize eF : freeU TT (capK su (gS ss k).1).toNat = FF at *
            have k37 := k5.trans k7
            have D7 := D3.kp0 k37
            have dD1 : d ≠ D1 := ne_of_none (D3.kp0 k5).hd hD1
            refine ⟨_, rfl, _, rfl, d, n, ns, kd3, rfl, D7, fun r1 H8 r10 r11 k8 D8 => ?_⟩
            have h8 := k8.at hacc7 (nmem_one dD1.symm)
            have hfm : (FF.map fun (r : Nat) => V.int (r : Nat)).length = FF.length := List.length_map _
            have hpos : (0 : Int) < ((FF.map fun (r : Nat) => V.int (r : Nat)).length : Int) := by rw [hfm]; omega
            obtain ⟨z, hz, hzl⟩ : ∃ z : Nat, r1 % ((FF.map fun (r : Nat) => V.int (r : Nat)).length : Int) = (z : Int) ∧ z < FF.length := by
              have h1 := Int.emod_nonneg r1 (show ((FF.map fun (r : Nat) => V.int (r : Nat)).length : Int) ≠ 0 by omega)
              have h2 := Int.emod_lt_of_pos r1 hpos
              rw [hfm] at h1 h2 ⊢
              exact ⟨(r1 % (FF.length : Int)).toNat, by omega, by omega⟩
            have hb : FF[z]? = some FF[z] := by simp [hzl]
            have hbm : FF[z] ∈ freeU TT (capK su (gS ss k).1).toNat := by rw [eF]; exact List.getElem_mem hzl
            obtain ⟨b1, b2⟩ := List.mem_filter.mp hbm
            have b1 := List.mem_range.mp b1
            have b2 := of_decide_eq_true b2
            generalize FF[z] = b at hb b1 b2
            have hat0 : atI (FF.map fun (r : Nat) => V.int (r : Nat)) (r1 % ((FF.map fun (r : Nat) => V.int (r : Nat)).length : Int)) = some (.int (b : Nat)) := by
              rw [hz]
              exact atI_nat (by rw [List.getElem?_map, hb]; rfl)
            refine ⟨_, rfl, D1, _, rfl, .inl (SqL.of h8), _, _, rfl, rfl, hpos, D1, _, _, _, rfl, rfl, SqL.of h8, hat0, _, rfl, _, rfl, R, _, _, k, rfl, rfl, k8.at (k37.at hR3 nmem_nil) (nmem_one dR.symm), ixN_nat (by rw [List.length_map]; exact hrl), fun H9 k9 h9 => ?_⟩
            rw [set_od] at h9
            refine ⟨_, _, _, _, _, _, _, _, rfl, ((k3.th0 k37).then' k8 fun x hx => .inl (by simp at hx; simp [hx])).putM k9 (by simp), D8.put k9 dR nR, h9, ro3.set hkl (by omega) (by omega) (by rw [eT]; exact b2), fun j hj => ?_⟩
            rw [gR_set hrl, et j]
            by_cases zj : j = k
            · subst zj
              rw [if_pos rfl]
              exact ⟨fun _ => ⟨.inr rfl, hc⟩, fun _ w => by cases w⟩
            · rw [if_neg zj, hin j hj]
              exact ⟨fun w => ⟨.inl w.1, w.2⟩, fun w => ⟨w.1.resolve_right zj, w.2⟩⟩
      · have hc : ¬ kf ss k ≤ night := fun z => hc (decide_eq_true z)
        refine ⟨_, _, _, _, _, _, rm3, _, rfl, k3, D3, hR3, ro3, fun j hj => ?_⟩
        rw [hin j hj, et j]
        exact ⟨fun w => ⟨.inl w.1, w.2⟩, fun w => ⟨w.1.resolve_right (fun e => hc (by rw [← e]; exact w.2)), w.2⟩⟩
    · rintro σ H3 ⟨k4, k5, k6, k7, k8, k9, rm3, kd3, rfl, k3, D3, hR3, ro3, hin⟩
      rw [List.length_map, List.take_length] at hin
      refine ⟨_, rfl, q R rm3 kd3 H3 hR (((k1.trans k2).nil.then' k3 fun x hx => ?_)) D3 hR3 ro3 fun k hk => ?_⟩
      · simp only [List.mem_cons, List.not_mem_nil, or_false] at hx
        rcases hx with rfl | rfl
        · exact .inl List.mem_cons_self
        · exact .inr hR
      · have := hin k hk
        constructor
        · intro e
          refine Classical.byContradiction fun z => ?_
          exact this.mpr ⟨hall k hk, by omega⟩ e
        · intro e
          refine Classical.byContradiction fun z => ?_
          have := (this.mp z).2
          omega
end

end MD
namespace MD
open PySem PySem.Spec PyProof.Rows L2
local macro_rules | `(tactic| walk_at "ne") => `(tactic| first | assumption | (apply Ne.symm; assumption) | exact ne_of_none (by assumption) (by assumption) | exact (ne_of_none (by assumption) (by assumption)).symm)
local macro_rules | `(tactic| walk_at "hp") => `(tactic| first | assumption | exact upd_same | (refine (upd_ne ?_).trans ?_; (focus walk_at "ne"); walk_at "hp"))
local macro_rules | `(tactic| walk_at "nm") => `(tactic| first | exact nmem_nil | exact nmem_one (by walk_at "ne") | exact nmem_cons (by walk_at "ne") (by walk_at "nm"))
/-! ### needs -/
section
variable {P : Program} {w : World} {K : PySem.W.Frag} {mg : Str → Option Value} {base : Heap}
def spNeeds : Sp := fun vs H Q _ => ∃ (t : Addr) (xs : List V) (p : List Sy), vs = [.ref t] ∧ H t = some (.lst xs) ∧ RepTs H (p.map syD) xs ∧ (∀ s ∈ p, Sb s) ∧ p.length ≤ 1000 ∧
  ∀ (dd : Addr) (H' : Hp), H dd = none → Kp [] H H' → H' dd = some (.dT (needsL p)) → Q (.ref dd) H'
theorem c_needs_of (T : Txt K mg) : Cal P w K mg base 1 "needs_of" spNeeds := by
  refine cal_of T.d_needs_of sc_needs_of (fun vs H Q E h => ?_) (fun f cdv A outer s H vs Q E hr h => ?_)
  · obtain ⟨t, xs, p, rfl, _⟩ := h; rfl
  · obtain ⟨t, xs, p, rfl, ht, rp, hsb, hpl, q⟩ := h
    have hu := hu_of hr
    have hxl : xs.length = p.length := rp.lenM
    refine ⟨_, (pss_cons (ps_set (i := 1) sc_needs_of.nd rfl (Or.inl rfl) ke_dnewT)
  (pss_cons (ps_for PassesOwn.never rfl (pilK (K := K) (pv 0)) (pgtK (K := K) (n := 3) rfl (pgs_cons (pg_name (i := 2) sc_needs_of.nd rfl (Or.inl rfl)) (pgs_cons (pg_name (i := 3) sc_needs_of.nd rfl (Or.inl rfl)) (pgs_cons (pg_name (i := 4) sc_needs_of.nd rfl (Or.inl rfl)) pgs_nil))))
  (pss_one (ps_for PassesOwn.never rfl (pi_range2 (by rfl) T.z_range (pa_cons (pv 3) (pa_cons (pv 4) pa_nil))) (pg_name (i := 5) sc_needs_of.nd rfl (Or.inl rfl))
  (pss_one (ks_dputT hu (pv 1) (ke_tup (pa_cons (pv 2) (pa_cons (pv 5) pa_nil))) (pe_op op_add (pe_dget2 hu (pv 1) (ke_tup (pa_cons (pv 2) (pa_cons (pv 5) pa_nil))) pe_int ⟨rfl, rfl, rfl, rfl⟩) pe_int) rfl)))))
  (pss_one (ps_ret (pv 1))))), ?_⟩
    intro dd H1 hd k1 hd1
    refine ⟨_, rfl, t, rfl, ⟨xs, SqL.of (k1.at ht nmem_nil)⟩, for_list (K := K) (a := t) (xs := xs) (fun i σ H' => ∃ (a1 a2 a3 a4 : Option V), σ = [some (.ref t), some (.ref dd), a1, a2, a3, a4] ∧ Kp [] H H' ∧ H' dd = some (.dT (needsL (p.take i))))
      ⟨_, _, _, _, rfl, k1, hd1⟩ (fun i σ H' _ ⟨_, _, _, _, _, k, _⟩ => SqL.of (k.at ht nmem_nil)) ?_ ?_⟩
    · rintro i x σ H2 hx ⟨a1, a2, a3, a4, rfl, k2, hd2⟩
      obtain ⟨s, hs, rs⟩ := rp.at hx
      obtain ⟨y, rfl, hy⟩ := syD_at rs
      have hb := hsb s (List.mem_of_getElem? hs)
      have hip : i < p.length := (List.getElem?_eq_some_iff.mp hs).1
      obtain ⟨b1, b2, b3⟩ := hb
      have hil : (needsL (p.take i)).length ≤ 12 * p.length := by
        have h1 := needs_le (p.take i) [] fun x hx => hsb x (List.mem_of_mem_take hx)
        rw [List.length_take, List.length_nil] at h1
        show (List.foldl needs1 [] (p.take i)).length ≤ _
        have h2 : min i p.length ≤ p.length := Nat.min_le_right _ _
        omega
      have hai : AllI (needsL (p.take i)) := needs_int _ _ AllI.nil
      refine ⟨y, _, rfl, SqT.of (k2.tup _ _ hy), rfl, _, _, rfl, _, _, rfl, _, _, rfl, rfl, ?_⟩
      refine ⟨_, rfl, _, rfl, _, _, rfl, ⟨by omega, by omega, by omega, by omega⟩, for_range (n := (s.2.2 - s.2.1).toNat) (fun j σ H' => ∃ (a4 : Option V), σ = [some (.ref t), some (.ref dd), some (.int s.1), some (.int s.2.1), some (.int s.2.2), a4] ∧ Kp [] H H' ∧ H' dd = some (.dT (bumps (needsL (p.take i)) s.1 s.2.1 j)))
        ⟨_, rfl, k2, hd2⟩ ?_ ?_⟩
      · rintro j σ H3 hj ⟨a4, rfl, k3, hd3⟩
        have hbi := hai.bumps s.1 s.2.1 j
        have hbl := bumps_le (needsL (p.take i)) s.1 s.2.1 j
        refine ⟨_, rfl, dd, rfl, .inr ⟨_, .inl hd3⟩, _, rfl, _, rfl, (by show 2 ≤ sizeLine; decide), fun c1 H4 hc1 k4 hc4 => ?_⟩
        have hd4 := k4.at hd3 nmem_nil
        refine ⟨_, DGet.t hd4 (cell_tup hc4), ?_⟩
        rw [cnt_get hbi]
        refine ⟨_, _, rfl, rfl, _, rfl, _, rfl, _, rfl, (by show 2 ≤ sizeLine; decide), fun c2 H5 hc2 k5 hc5 => ?_⟩
        have hd5 := k5.at hd4 nmem_nil
        refine ⟨dd, _, cellK s.1 (s.2.1 + j), c2, rfl, rfl, hd5, hc5, sz (show (bumps (needsL (p.take i)) s.1 s.2.1 j).length ≤ 12 * 1000 + 12 by omega), fun H6 k6 hd6 => ?_⟩
        exact ⟨_, rfl, ((k3.trans k4).trans k5).put k6 hd, hd6⟩
      · rintro σ H3 ⟨a4, rfl, k3, hd3⟩
        exact ⟨_, _, _, _, rfl, k3, by rw [needs_snoc hs]; exact hd3⟩
    · rintro σ H2 ⟨a1, a2, a3, a4, rfl, k2, hd2⟩
      refine ⟨_, rfl, ?_⟩
      rw [hxl, List.take_length] at hd2
      exact q dd H2 hd k2 hd2
end

end MD
namespace MD
open PySem PySem.Spec PyProof.Rows L2
local macro_rules | `(tactic| walk_at "ne") => `(tactic| first | assumption | (apply Ne.symm; assumption) | exact ne_of_none (by assumption) (by assumption) | exact (ne_of_none (by assumption) (by assumption)).symm)
local macro_rules | `(tactic| walk_at "hp") => `(tactic| first | assumption | exact upd_same | (refine (upd_ne ?_).trans ?_; (focus walk_at "ne"); walk_at "hp"))
local macro_rules | `(tactic| walk_at "nm") => `(tactic| first | exact nmem_nil | exact nmem_one (by walk_at "ne") | exact nmem_cons (by walk_at "ne") (by walk_at "nm"))
/-! ### the inn's housing -/
section
variable {P : Program} {w : World} {K : PySem.W.Frag} {mg : Str → Option Value} {base : Heap}
def spCount : Sp := fun vs H Q _ => ∃ v : Int, vs = [.int v] ∧ Q (.bl (decide (0 ≤ v))) H
theorem c_is_count (T : Txt K mg) : Cal P w K mg base 1 "is_count" spCount := by
  refine cal_of T.d_is_count sc_is_count (fun vs H Q E h => ?_) (fun f cdv A outer s H vs Q E hr h => ?_)
  · obtain ⟨v, rfl, _⟩ := h; rfl
  · obtain ⟨v, rfl, q⟩ := h
    refine ⟨_, (pss_one (ps_ret (pe_and (pe_callB (isiK (K := K)) (by rfl) T.z_isinstance (by decide +kernel) (pa_cons (pv 0) (pa_cons (pe_bltn (v := .ty "int") (by rfl) T.z_int (by decide +kernel) rfl) pa_nil))) (pe_and (pe_not (pe_callB (isiK (K := K)) (by rfl) T.z_isinstance (by decide +kernel) (pa_cons (pv 0) (pa_cons (pe_bltn (v := .ty "bool") (by rfl) T.z_bool (by decide +kernel) rfl) pa_nil)))) (pe_one (pe_cmpR op_ge (pv 0) pe_int (nomark _))))))), ?_⟩
    refine ⟨_, rfl, _, _, _, _, true, rfl, .ty _, (.base (.int v)), kit_ty (by decide +kernel), _, rfl, iteT ?_⟩
    refine ⟨_, rfl, _, _, _, _, false, rfl, .ty _, (.base (.int v)), kit_ty (by decide +kernel), _, rfl, _, rfl, iteT ?_⟩
    exact ⟨_, rfl, _, _, rfl, rfl, q⟩
def spBetween : Sp := fun vs H Q _ => ∃ v a b : Int, vs = [.int v, .int a, .int b] ∧ 0 ≤ v ∧ a ≤ v ∧ v ≤ b ∧ Q (.bl true) H
theorem c_is_between (T : Txt K mg) : Cal P w K mg base 2 "is_between" spBetween := by
  have c_is_count := c_is_count (P := P) (w := w) (base := base) T
  refine cal_of T.d_is_between sc_is_between (fun vs H Q E h => ?_) (fun f cdv A outer s H vs Q E hr h => ?_)
  · obtain ⟨v, a, b, rfl, _⟩ := h; rfl
  · obtain ⟨v, a, b, rfl, h0, h1, h2, q⟩ := h
    refine ⟨_, (pss_one (ps_ret (pe_and (pe_c c_is_count (hr.mono (by first | decide | omega)) rfl (pa_cons (pv 0) pa_nil)) (pe_one (pe_chain op_le op_le (pv 1) (pv 0) (pv 2)))))), ?_⟩
    refine ⟨_, rfl, v, rfl, _, rfl, ?_⟩
    rw [decide_eq_true h0]
    refine iteT ?_
    refine ⟨_, rfl, _, rfl, _, _, rfl, rfl, _, rfl, ?_⟩
    rw [decide_eq_true h1]
    refine iteT ?_
    refine ⟨_, rfl, _, _, rfl, rfl, ?_⟩
    show Q (.bl (decide (v ≤ b))) H
    rw [decide_eq_true h2]
    exact q
theorem c_do_meet (T : Txt K mg) : Cal P w K mg base 1 "do_meet" spMeet := by
  refine cal_of T.d_do_meet sc_do_meet (fun vs H Q E h => ?_) (fun f cdv A outer s H vs Q E hr h => ?_)
  · obtain ⟨s, t, x, y, rfl, _⟩ := h; rfl
  · obtain ⟨s, t, x, y, rfl, rs, rt, q⟩ := h
    obtain ⟨a, rfl, ha⟩ := syD_at rs
    obtain ⟨b, rfl, hb⟩ := syD_at rt
    refine ⟨_, (pss_one (ps_ret (pe_and (pe_cmpR op_eq (pe_ix (ixT (K := K)) (pv 0) pe_int (fun _ _ => rfl)) (pe_ix (ixT (K := K)) (pv 1) pe_int (fun _ _ => rfl)) (nomark _)) (pe_and (pe_cmpR op_lt (pe_ix (ixT (K := K)) (pv 0) pe_int (fun _ _ => rfl)) (pe_ix (ixT (K := K)) (pv 1) pe_int (fun _ _ => rfl)) (nomark _)) (pe_one (pe_cmpR op_lt (pe_ix (ixT (K := K)) (pv 1) pe_int (fun _ _ => rfl)) (pe_ix (ixT (K := K)) (pv 0) pe_int (fun _ _ => rfl)) (nomark _))))))), ?_⟩
    unfold meetB at q
    refine ⟨_, rfl, a, _, _, _, rfl, rfl, SqT.of ha, rfl, _, rfl, b, _, _, _, rfl, rfl, SqT.of hb, rfl, rfl, _, rfl, ?_⟩
    rw [decV]
    by_cases h1 : s.1 = t.1
    · rw [decide_eq_true h1] at q ⊢
      refine iteT ?_
      refine ⟨_, rfl, a, _, _, _, rfl, rfl, SqT.of ha, rfl, _, rfl, b, _, _, _, rfl, rfl, SqT.of hb, rfl, _, _, rfl, rfl, _, rfl, ?_⟩
      by_cases h2 : s.2.1 < t.2.2
      · rw [decide_eq_true h2] at q ⊢
        refine iteT ?_
        exact ⟨_, rfl, b, _, _, _, rfl, rfl, SqT.of hb, rfl, _, rfl, a, _, _, _, rfl, rfl, SqT.of ha, rfl, _, _, rfl, rfl, q⟩
      · rw [decide_eq_false h2] at q ⊢
        exact iteF q
    · rw [decide_eq_false h1] at q ⊢
      exact iteF q
def spRoomsOf : Sp := fun vs H Q _ => ∃ (r : Addr) (su : Su) (k : Int), vs = [.ref r, .int k] ∧ H r = some (.tup (su.rooms.map V.int)) ∧ Q (.int (roomsOf su k)) H
theorem c_rooms_of (T : Txt K mg) : Cal P w K mg base 1 "rooms_of" spRoomsOf := by
  refine cal_of T.d_rooms_of sc_rooms_of (fun vs H Q E h => ?_) (fun f cdv A outer s H vs Q E hr h => ?_)
  · obtain ⟨r, su, k, rfl, _⟩ := h; rfl
  · obtain ⟨r, su, k, rfl, hr', q⟩ := h
    have hrl : (su.rooms.map V.int).length = su.rooms.length := List.length_map _
    refine ⟨_, (pss_one (ps_ret (pe_ifExp (pt_chain op_le op_lt pe_int (pv 1) (pe_callB (lenK (K := K)) (by rfl) T.z_len (by decide +kernel) (pa_cons (pv 0) pa_nil))) (pe_ix (ixT (K := K)) (pv 0) (pv 1) (fun _ _ => rfl)) pe_int))), ?_⟩
    unfold roomsOf at q
    refine ⟨_, rfl, _, _, rfl, rfl, _, rfl, ?_⟩
    by_cases h1 : (0 : Int) ≤ k
    · rw [decide_eq_true h1]
      refine iteT ?_
      refine ⟨_, rfl, r, _, rfl, .inr (SqT.of hr'), _, _, rfl, rfl, _, rfl, ?_⟩
      rw [hrl]
      by_cases h2 : k < (su.rooms.length : Int)
      · rw [decide_eq_true h2]
        rw [if_pos ⟨h1, h2⟩] at q
        refine iteT ?_
        have hk : k.toNat < su.rooms.length := by omega
        have e : su.rooms[k.toNat]? = some (su.rooms[k.toNat]) := by simp [hk]
        have e3 : capK su k = su.rooms[k.toNat] := by unfold capK; rw [List.getD_eq_getElem?_getD, e]; rfl
        exact ⟨_, rfl, _, rfl, r, _, _, _, rfl, rfl, SqT.of hr', (by rw [e3]; exact int_at h1 e), q⟩
      · rw [decide_eq_false h2]
        rw [if_neg (fun z => h2 z.2)] at q
        exact iteF q
    · rw [decide_eq_false h1]
      rw [if_neg (fun z => h1 z.1)] at q
      exact iteF ⟨_, rfl, iteF q⟩
def spBeside : Sp := fun vs H Q _ => ∃ (l g : Addr) (y : V) (ss : List Sy) (rm : List (Option Int)) (s : Sy), vs = [.ref l, .ref g, y] ∧ StAt H l ss ∧ ss.length ≤ rm.length ∧ ss.length ≤ 100 ∧ H g = some (.lst (rm.map odV)) ∧ RepT H (syD s) y ∧
  ∀ (R : Addr) (H' : Hp), H R = none → Kp [] H H' → H' R = some (.lst ((besideU ss rm s ss.length).map odV)) → Q (.ref R) H'
theorem c_rooms_beside (T : Txt K mg) : Cal P w K mg base 2 "rooms_beside" spBeside := by
  have c_do_meet := c_do_meet (P := P) (w := w) (base := base) T
  refine cal_of T.d_rooms_beside sc_rooms_beside (fun vs H Q E h => ?_) (fun f cdv A outer s H vs Q E hr h => ?_)
  · obtain ⟨l, g, y, ss, rm, s, rfl, _⟩ := h; rfl
  · obtain ⟨l, g, y, ss, rm, s, rfl, ⟨xs, hl, rx⟩, hlr, hlen, hg, rs, q⟩ := h
    have hxl : xs.length = ss.length := rx.lenM
    refine ⟨_, (pss_one (ps_ret (ke_lc rfl sc_rooms_beside.nd (pi_enumK (K := K) (by rfl) T.z_enumerate (pa_cons (pv 0) pa_nil)) (blkOk_by (own := [("index", 3), ("other", 4)]) (N := ["stays", "housed", "stay", "index", "other"]) (sc := defScope s_rooms_beside) (by decide +kernel)) (fun _ _ _ _ _ => (pgtK (K := K) (n := 2) rfl (pgs_cons (pg_name (i := 3) sc_rooms_beside.nd rfl (Or.inl rfl)) (pgs_cons (pg_name (i := 4) sc_rooms_beside.nd rfl (Or.inl rfl)) pgs_nil)))) (fun _ _ _ _ _ => (pts_one (pt_val (pe_c c_do_meet (hr.mono (by first | decide | omega)) rfl (pa_cons (pv 4) (pa_cons (pv 2) pa_nil)))))) (fun _ _ _ _ _ => (pe_ix (ixL (K := K)) (pv 1) (pv 3) (fun _ _ => rfl)))))), ?_⟩
    refine ⟨_, rfl, l, xs, rfl, SqL.of hl, fun R H1 hR k1 hR1 => ?_⟩
    refine kl_enum (K := K) (a := l) (xs := xs) (fun m acc H' => Kp [] H H' ∧ acc = (besideU ss rm s m).map odV) ⟨k1, rfl⟩ (fun m acc H' ⟨k, _⟩ => k.seq (SqL.of hl) nmem_nil) ?_ ?_
    · rintro m x t acc H2 H3 hx ht k3 ht3 hacc ⟨k2, rfl⟩
      have hm : m < ss.length := by rw [← hxl]; exact (List.getElem?_eq_some_iff.mp hx).1
      have hacc3 := k3.at hacc nmem_nil
      have rx3 := (rx.kp k2).kp k3
      have k23 := k2.trans k3
      obtain ⟨s', hs, rs'⟩ := rx3.at hx
      have es : gS ss m = s' := gS_of hs
      have hbs := besideU_s ss rm s m
      have hbl := besideU_len ss rm s m
      refine ⟨t, _, rfl, SqT.of ht3, rfl, _, _, rfl, _, _, rfl, rfl, rfl, _, rfl, _, rfl, s', s, _, _, rfl, rs', (rs.kp k2).kp k3, _, rfl, ?_⟩
      rw [es] at hbs
      by_cases hm' : meetB s' s = true
      · rw [hm']
        rw [if_pos hm'] at hbs
        refine iteT ⟨_, rfl, _, rfl, g, _, _, _, rfl, rfl, SqL.of (k23.at hg nmem_nil), atI_nat (odV_at (by omega)), hacc3, ?_, fun H4 k4 h4 => ⟨k23.put k4 hR, by rw [hbs, List.map_append]; rfl⟩⟩
        rw [List.length_map]
        exact sz (show (besideU ss rm s m).length ≤ 100 by omega)
      · rw [Bool.eq_false_iff.mpr hm']
        rw [if_neg hm', List.append_nil] at hbs
        exact iteF ⟨hacc3, k23, by rw [hbs]⟩
    · rintro acc H2 hacc ⟨k2, rfl⟩
      rw [hxl] at hacc
      exact q R H2 hR k2 hacc
end

end MD
namespace MD
open PySem PySem.Spec PyProof.Rows L2
local macro_rules | `(tactic| walk_at "ne") => `(tactic| first | assumption | (apply Ne.symm; assumption) | exact ne_of_none (by assumption) (by assumption) | exact (ne_of_none (by assumption) (by assumption)).symm)
local macro_rules | `(tactic| walk_at "hp") => `(tactic| first | assumption | exact upd_same | (refine (upd_ne ?_).trans ?_; (focus walk_at "ne"); walk_at "hp"))
local macro_rules | `(tactic| walk_at "nm") => `(tactic| first | exact nmem_nil | exact nmem_one (by walk_at "ne") | exact nmem_cons (by walk_at "ne") (by walk_at "nm"))
/-! ### the checks of housing that raise -/
section
variable {P : Program} {w : World} {K : PySem.W.Frag} {mg : Str → Option Value} {base : Heap}
theorem valV_in {κ : Type} [DecidableEq κ] {k : κ} {v : V} : ∀ {kvs : List (κ × V)}, valV kvs k = some v → (k, v) ∈ kvs
  | [], h => by rw [valV_nil] at h; cases h
  | p :: r, h => by
    by_cases e : p.1 = k
    · rw [valV_pos e] at h
      cases h
      rw [← e]
      exact List.mem_cons_self
    · rw [valV_neg e] at h
      exact List.mem_cons_of_mem _ (valV_in h)
theorem iteTe {c : Bool} {A B : Prop} (h : c = true) (a : A) : if c = true then A else B := by rw [h]; exact iteT a
theorem iteFe {c : Bool} {A B : Prop} (h : c = false) (b : B) : if c = true then A else B := by rw [h]; exact iteF b
def spEnoughX (C : Addr) : Sp := fun vs H Q E => ∃ (r l : Addr) (su : Su) (ss : List Sy), vs = [.ref r, .ref l] ∧ su.ok ∧ H r = some (.tup (su.rooms.map V.int)) ∧ StAt H l ss ∧ ss.length ≤ 100 ∧ (∀ s ∈ ss, Sy.ok su s) ∧
  (Fits su ss → ∀ H' : Hp, Kp [] H H' → Q .non H') ∧ (¬ Fits su ss → ∀ H' : Hp, Kp [] H H' → E (.ref C) none H')
theorem c_check_enough_rooms (T : Txt K mg) : CalX P w K mg base 2 "check_enough_rooms" (spEnoughX T.C_BadStay) := by
  have c_needs_of := c_needs_of (P := P) (w := w) (base := base) T
  have c_rooms_of := c_rooms_of (P := P) (w := w) (base := base) T
  refine calX_of T.d_check_enough_rooms sc_check_enough_rooms (fun vs H Q E h => ?_) (fun f cdv A outer s H vs Q E hr h => ?_)
  · obtain ⟨r, l, su, ss, rfl, _⟩ := h; rfl
  · obtain ⟨r, l, su, ss, rfl, so, hr', ⟨xs, hl, rx⟩, hlen, ok, q, qn⟩ := h
    refine ⟨_, (pss_one (ps_for (passes_of rfl) rfl (pi_itemsT (pe_frz (pe_c c_needs_of (hr.mono (by first | decide | omega)) rfl (pa_cons (pv 1) pa_nil)))) (pgtK (K := K) (n := 2) rfl (pgs_cons (pgtK (K := K) (n := 2) rfl (pgs_cons (pg_name (i := 2) sc_check_enough_rooms.nd rfl (Or.inl rfl)) (pgs_cons (pg_name (i := 3) sc_check_enough_rooms.nd rfl (Or.inl rfl)) pgs_nil))) (pgs_cons (pg_name (i := 4) sc_check_enough_rooms.nd rfl (Or.inl rfl)) pgs_nil)))
  (pss_one (ps_if (pt_cmpR op_gt (pv 4) (pe_c c_rooms_of (hr.mono (by first | decide | omega)) rfl (pa_cons (pv 0) (pa_cons (pv 2) pa_nil))) (nomark _))
  (pss_one (ps_rz T.x_BadStay rfl (takes_of rfl rfl rfl rfl) rfl))
  pss_nil)))), ?_⟩
    refine ⟨_, rfl, l, xs, ss, rfl, hl, rx, fun s hs => (ok s hs).sb so, by omega, fun dd H1 hdd k1 hd1 => ⟨dd, _, rfl, hd1, fun od H2 k2 hd2 => ?_⟩⟩
    have k12 : Kp [] H H2 := k1.put k2 hdd
    obtain ⟨es, ees, nd, hie⟩ := needsL_en ss
    have cnt : ∀ en ∈ es, en.2 = .int ((ss.countP (inN en.1.1 en.1.2) : Nat) : Int) := fun en hen => by
      obtain ⟨n, hn⟩ := hie en hen
      have hv := valV_kvs nd hen
      have hcnt := cnt_needs (p := ss) (fun s hs => Int.le_of_lt (ok s hs).fe) en.1.1 en.1.2
      rw [ees] at hcnt
      unfold cntV at hcnt
      rw [hv, hn] at hcnt
      have hcnt : n = ((ss.countP (inN en.1.1 en.1.2) : Nat) : Int) := hcnt
      rw [hn, hcnt]
    refine ⟨dd, od, needsL ss, rfl, hd2, for_itemsT (d := dd) (od := od) (kvs := needsL ss) (fun i σ H' => ∃ (k2 k3 k4 : Option V), σ = [some (.ref r), some (.ref l), k2, k3, k4] ∧ Kp [] H H' ∧ H' dd = some (.frz od (.dT (needsL ss))) ∧
      ∀ j en, j < i → es[j]? = some en → ((ss.countP (inN en.1.1 en.1.2) : Nat) : Int) ≤ roomsOf su en.1.1) ⟨_, _, _, rfl, k12, hd2, fun j en hj => absurd hj (Nat.not_lt_zero _)⟩ (fun i σ H' ⟨_, _, _, _, _, h, _⟩ => h) ?_ ?_⟩
    · rintro i k v qa T1 σ H3 H4 hkv hqa ⟨k2, k3, k4, rfl, k3', hd3, hall⟩ hT k4' hT4
      rw [ees] at hkv
      unfold kvsOf at hkv
      rw [List.getElem?_map] at hkv
      cases e : es[i]? with
      | none => rw [e] at hkv; cases hkv
      | some en =>
        rw [e] at hkv
        injection hkv with hkv
        injection hkv with e1 e2
        have hen : en ∈ es := List.mem_of_getElem? e
        have hn := cnt en hen
        subst e1
        rw [← e2, hn] at hT4
        have hq4 : H4 qa = some (.tup [.int en.1.1, .int en.1.2]) := k4'.tup _ _ hqa
        refine ⟨T1, _, rfl, SqT.of hT4, rfl, _, _, rfl, qa, _, rfl, SqT.of hq4, rfl, _, _, rfl, _, _, rfl, rfl, _, _, rfl, rfl, ?_⟩
        refine ⟨_, rfl, _, rfl, _, rfl, r, su, _, rfl, (k3'.trans k4').tup _ _ hr', _, _, rfl, rfl, _, rfl, ?_⟩
        by_cases hle : ((ss.countP (inN en.1.1 en.1.2) : Nat) : Int) ≤ roomsOf su en.1.1
        · rw [decide_eq_false (by omega)]
          refine iteF ⟨_, _, _, rfl, k3'.trans k4', k4'.at hd3 nmem_nil, fun j en' hj e' => ?_⟩
          by_cases z : j = i
          · rw [z, e] at e'
            cases e'
            exact hle
          · exact hall j en' (by omega) e'
        · rw [decide_eq_true (by omega)]
          exact iteT (qn (fun F => hle (need_le so ok F (fun k h0 h1 => (cap_rg so h0 h1).1) en.1.1 en.1.2)) H4 (k3'.trans k4'))
    · rintro σ H3 ⟨k2, k3, k4, rfl, k3', hd3, hall⟩
      refine q (fun k t h0 h1 h2 h3 => ?_) H3 k3'
      by_cases z : ss.countP (inN k t) = 0
      · rw [z]; exact (cap_rg so h0 h1).1
      · have hc := cnt_needs (p := ss) (fun s hs => Int.le_of_lt (ok s hs).fe) k t
        cases ev : valV (needsL ss) (cellK k t) with
        | none => unfold cntV at hc; rw [ev] at hc; have hc : (0 : Int) = ((ss.countP (inN k t) : Nat) : Int) := hc; omega
        | some v =>
          have hm := valV_in ev
          rw [ees] at hm
          obtain ⟨en, hen, ee⟩ := List.mem_map.mp hm
          injection ee with ee1 ee2
          obtain ⟨e3, e4⟩ := cellK_iff.mp ee1
          obtain ⟨j, hj⟩ := List.mem_iff_getElem?.mp hen
          have hjl : j < (needsL ss).length := by rw [ees]; unfold kvsOf; rw [List.length_map]; exact (List.getElem?_eq_some_iff.mp hj).1
          have := hall j en hjl hj
          rw [e3, e4] at this
          unfold roomsOf at this
          rw [if_pos ⟨h0, h1⟩] at this
          exact this
def spCountX : Sp := fun vs H Q _ => ∃ x : V, vs = [x] ∧ ((∃ v, x = .int v ∧ Q (.bl (decide (0 ≤ v))) H) ∨ ∃ b, x = .bl b ∧ Q (.bl false) H)
theorem c_is_countX (T : Txt K mg) : Cal P w K mg base 1 "is_count" spCountX := by
  refine cal_of T.d_is_count sc_is_count (fun vs H Q E h => ?_) (fun f cdv A outer s H vs Q E hr h => ?_)
  · obtain ⟨v, rfl, _⟩ := h; rfl
  · obtain ⟨x, rfl, h⟩ := h
    refine ⟨_, (pss_one (ps_ret (pe_and (pe_callB (isiK (K := K)) (by rfl) T.z_isinstance (by decide +kernel) (pa_cons (pv 0) (pa_cons (pe_bltn (v := .ty "int") (by rfl) T.z_int (by decide +kernel) rfl) pa_nil))) (pe_and (pe_not (pe_callB (isiK (K := K)) (by rfl) T.z_isinstance (by decide +kernel) (pa_cons (pv 0) (pa_cons (pe_bltn (v := .ty "bool") (by rfl) T.z_bool (by decide +kernel) rfl) pa_nil)))) (pe_one (pe_cmpR op_ge (pv 0) pe_int (nomark _))))))), ?_⟩
    rcases h with ⟨v, rfl, q⟩ | ⟨b, rfl, q⟩
    · refine ⟨_, rfl, _, _, _, _, true, rfl, .ty _, (.base (.int v)), kit_ty (by decide +kernel), _, rfl, iteT ?_⟩
      refine ⟨_, rfl, _, _, _, _, false, rfl, .ty _, (.base (.int v)), kit_ty (by decide +kernel), _, rfl, _, rfl, iteT ?_⟩
      exact ⟨_, rfl, _, _, rfl, rfl, q⟩
    · refine ⟨_, rfl, _, _, _, _, true, rfl, .ty _, (.base (.bl b)), kit_ty (by decide +kernel), _, rfl, iteT ?_⟩
      exact ⟨_, rfl, _, _, _, _, true, rfl, .ty _, (.base (.bl b)), kit_ty (by decide +kernel), _, rfl, _, rfl, iteF q⟩
def spBetweenX : Sp := fun vs H Q _ => ∃ (x : V) (a b : Int), vs = [x, .int a, .int b] ∧ ((∃ v, x = .int v ∧ Q (.bl (decide (0 ≤ v) && (decide (a ≤ v) && decide (v ≤ b)))) H) ∨ ∃ y, x = .bl y ∧ Q (.bl false) H)
theorem c_is_betweenX (T : Txt K mg) : Cal P w K mg base 2 "is_between" spBetweenX := by
  have c_is_count := c_is_countX (P := P) (w := w) (base := base) T
  refine cal_of T.d_is_between sc_is_between (fun vs H Q E h => ?_) (fun f cdv A outer s H vs Q E hr h => ?_)
  · obtain ⟨x, a, b, rfl, _⟩ := h; rfl
  · obtain ⟨x, a, b, rfl, h⟩ := h
    refine ⟨_, (pss_one (ps_ret (pe_and (pe_c c_is_count (hr.mono (by first | decide | omega)) rfl (pa_cons (pv 0) pa_nil)) (pe_one (pe_chain op_le op_le (pv 1) (pv 0) (pv 2)))))), ?_⟩
    rcases h with ⟨v, rfl, q⟩ | ⟨y, rfl, q⟩
    · refine ⟨_, rfl, _, rfl, .inl ⟨v, rfl, _, rfl, ?_⟩⟩
      by_cases h0 : 0 ≤ v
      · rw [decide_eq_true h0] at q ⊢
        refine iteT ?_
        refine ⟨_, rfl, _, rfl, _, _, rfl, rfl, _, rfl, ?_⟩
        by_cases h1 : a ≤ v
        · rw [decide_eq_true h1] at q ⊢
          refine iteT ?_
          exact ⟨_, rfl, _, _, rfl, rfl, q⟩
        · rw [decide_eq_false h1] at q ⊢
          exact iteF q
      · rw [decide_eq_false h0] at q ⊢
        exact iteF q
    · exact ⟨_, rfl, _, rfl, .inr ⟨y, rfl, _, rfl, iteF q⟩⟩
/-- what the k-th of a list is -/
def gV (gv : List V) (k : Nat) : V := gv.getD k .non
theorem gV_at {gv : List V} {k : Nat} (h : k < gv.length) : gv[k]? = some (gV gv k) := by
  have e : gv[k]? = some gv[k] := by simp [h]
  unfold gV
  rw [List.getD_eq_getElem?_getD, e]; rfl
def besideV (ss : List Sy) (gv : List V) (s : Sy) (n : Nat) : List V := (List.range n).filterMap fun j => if meetB (gS ss j) s = true then some (gV gv j) else none
theorem besideV_s (ss : List Sy) (gv : List V) (s : Sy) (n : Nat) : besideV ss gv s (n + 1) = besideV ss gv s n ++ (if meetB (gS ss n) s = true then [gV gv n] else []) := by
  unfold besideV
  rw [List.range_succ, List.filterMap_append]
  congr 1
  rw [List.filterMap_cons, List.filterMap_nil]
  by_cases h : meetB (gS ss n) s = true
  · rw [if_pos h, if_pos h]
  · rw [if_neg h, if_neg h]
theorem besideV_len (ss : List Sy) (gv : List V) (s : Sy) (n : Nat) : (besideV ss gv s n).length ≤ n := by
  have := List.length_filterMap_le (fun j => if meetB (gS ss j) s = true then some (gV gv j) else none) (List.range n)
  rw [List.length_range] at this
  exact this
theorem mem_besideV {ss : List Sy} {gv : List V} {s : Sy} {n : Nat} {r : V} : r ∈ besideV ss gv s n ↔ ∃ j, j < n ∧ meetB (gS ss j) s = true ∧ gV gv j = r := by
  unfold besideV
  rw [List.mem_filterMap]
  constructor
  · rintro ⟨j, hj, h⟩
    split at h
    · rename_i hm
      exact ⟨j, List.mem_range.mp hj, hm, Option.some.inj h⟩
    · cases h
  · rintro ⟨j, hj, hm, h⟩
    exact ⟨j, List.mem_range.mpr hj, by rw [if_pos hm, h]⟩
def spBesideX : Sp := fun vs H Q _ => ∃ (l g : Addr) (y : V) (ss : List Sy) (gv : List V) (s : Sy), vs = [.ref l, .ref g, y] ∧ StAt H l ss ∧ ss.length ≤ gv.length ∧ ss.length ≤ 100 ∧ H g = some (.lst gv) ∧ RepT H (syD s) y ∧
  ∀ (R : Addr) (H' : Hp), H R = none → Kp [] H H' → H' R = some (.lst (besideV ss gv s ss.length)) → Q (.ref R) H'
theorem c_rooms_besideX (T : Txt K mg) : Cal P w K mg base 2 "rooms_beside" spBesideX := by
  have c_do_meet := c_do_meet (P := P) (w := w) (base := base) T
  refine cal_of T.d_rooms_beside sc_rooms_beside (fun vs H Q E h => ?_) (fun f cdv A outer s H vs Q E hr h => ?_)
  · obtain ⟨l, g, y, ss, gv, s, rfl, _⟩ := h; rfl
  · obtain ⟨l, g, y, ss, gv, s, rfl, ⟨xs, hl, rx⟩, hlr, hlen, hg, rs, q⟩ := h
    have hxl : xs.length = ss.length := rx.lenM
    refine ⟨_, (pss_one (ps_ret (ke_lc rfl sc_rooms_beside.nd (pi_enumK (K := K) (by rfl) T.z_enumerate (pa_cons (pv 0) pa_nil)) (blkOk_by (own := [("index", 3), ("other", 4)]) (N := ["stays", "housed", "stay", "index", "other"]) (sc := defScope s_rooms_beside) (by decide +kernel)) (fun _ _ _ _ _ => (pgtK (K := K) (n := 2) rfl (pgs_cons (pg_name (i := 3) sc_rooms_beside.nd rfl (Or.inl rfl)) (pgs_cons (pg_name (i := 4) sc_rooms_beside.nd rfl (Or.inl rfl)) pgs_nil)))) (fun _ _ _ _ _ => (pts_one (pt_val (pe_c c_do_meet (hr.mono (by first | decide | omega)) rfl (pa_cons (pv 4) (pa_cons (pv 2) pa_nil)))))) (fun _ _ _ _ _ => (pe_ix (ixL (K := K)) (pv 1) (pv 3) (fun _ _ => rfl)))))), ?_⟩
    refine ⟨_, rfl, l, xs, rfl, SqL.of hl, fun R H1 hR k1 hR1 => ?_⟩
    refine kl_enum (K := K) (a := l) (xs := xs) (fun m acc H' => Kp [] H H' ∧ acc = besideV ss gv s m) ⟨k1, rfl⟩ (fun m acc H' ⟨k, _⟩ => k.seq (SqL.of hl) nmem_nil) ?_ ?_
    · rintro m x t acc H2 H3 hx ht k3 ht3 hacc ⟨k2, rfl⟩
      have hm : m < ss.length := by rw [← hxl]; exact (List.getElem?_eq_some_iff.mp hx).1
      have hacc3 := k3.at hacc nmem_nil
      have rx3 := (rx.kp k2).kp k3
      have k23 := k2.trans k3
      obtain ⟨s', hs, rs'⟩ := rx3.at hx
      have es : gS ss m = s' := gS_of hs
      have hbs := besideV_s ss gv s m
      have hbl := besideV_len ss gv s m
      refine ⟨t, _, rfl, SqT.of ht3, rfl, _, _, rfl, _, _, rfl, rfl, rfl, _, rfl, _, rfl, s', s, _, _, rfl, rs', (rs.kp k2).kp k3, _, rfl, ?_⟩
      rw [es] at hbs
      by_cases hm' : meetB s' s = true
      · rw [hm']
        rw [if_pos hm'] at hbs
        exact iteT ⟨_, rfl, _, rfl, g, _, _, _, rfl, rfl, SqL.of (k23.at hg nmem_nil), atI_nat (gV_at (by omega)), hacc3, sz (show (besideV ss gv s m).length ≤ 100 by omega), fun H4 k4 h4 => ⟨k23.put k4 hR, by rw [hbs]⟩⟩
      · rw [Bool.eq_false_iff.mpr hm']
        rw [if_neg hm', List.append_nil] at hbs
        exact iteF ⟨hacc3, k23, by rw [hbs]⟩
    · rintro acc H2 hacc ⟨k2, rfl⟩
      rw [hxl] at hacc
      exact q R H2 hR k2 hacc
end

end MD
namespace MD
open PySem PySem.Spec PyProof.Rows L2
local macro_rules | `(tactic| walk_at "ne") => `(tactic| first | assumption | (apply Ne.symm; assumption) | exact ne_of_none (by assumption) (by assumption) | exact (ne_of_none (by assumption) (by assumption)).symm)
local macro_rules | `(tactic| walk_at "hp") => `(tactic| first | assumption | exact upd_same | (refine (upd_ne ?_).trans ?_; (focus walk_at "ne"); walk_at "hp"))
local macro_rules | `(tactic| walk_at "nm") => `(tactic| first | exact nmem_nil | exact nmem_one (by walk_at "ne") | exact nmem_cons (by walk_at "ne") (by walk_at "nm"))
/-! ### the check of given rooms, with its raises -/
section
variable {P : Program} {w : World} {K : PySem.W.Frag} {mg : Str → Option Value} {base : Heap}
def Flat3 (gv : List V) : Prop := ∀ v ∈ gv, v = .non ∨ (∃ i, v = .int i) ∨ ∃ b, v = .bl b
theorem Flat3.at {gv : List V} (h : Flat3 gv) (k : Nat) : gV gv k = .non ∨ (∃ i, gV gv k = .int i) ∨ ∃ b, gV gv k = .bl b := by
  by_cases z : k < gv.length
  · exact h _ (List.mem_of_getElem? (gV_at z))
  · refine .inl ?_
    unfold gV
    rw [List.getD_eq_getElem?_getD, List.getElem?_eq_none (by omega)]; rfl
def OkAt (su : Su) (ss : List Sy) (gv : List V) (night : Int) (i : Nat) : Prop := (gV gv i = .non ∧ night < kf ss i) ∨
  ∃ v, gV gv i = .int v ∧ kf ss i ≤ night ∧ 0 ≤ v ∧ v < capK su (gS ss i).1 ∧ ∀ j, j < i → meetB (gS ss j) (gS ss i) = true → gV gv j ≠ .int v
structure GivV (su : Su) (ss : List Sy) (gv : List V) (night : Int) : Prop where
  len : gv.length = ss.length
  ok : ∀ i, i < ss.length → OkAt su ss gv night i
theorem inV_mem {v : Int} : ∀ {L : List V}, (∀ y ∈ L, y = .non ∨ ∃ i, y = .int i) → (inV (.int v) L = true ↔ V.int v ∈ L)
  | [], _ => by simp [inV]
  | y :: L, h => by
    have ih := inV_mem (v := v) (L := L) fun z hz => h z (List.mem_cons_of_mem _ hz)
    unfold inV at ih ⊢
    rw [List.any_cons, Bool.or_eq_true, ih, List.mem_cons]
    rcases h y List.mem_cons_self with rfl | ⟨i, rfl⟩
    · simp [eqV]
    · simp only [eqV, beq_iff_eq, V.int.injEq]
      constructor
      · rintro (e | e)
        · exact .inl e.symm
        · exact .inr e
      · rintro (e | e)
        · exact .inl e.symm
        · exact .inr e
theorem flat_all {L : List V} (h : ∀ y ∈ L, y = .non ∨ (∃ i, y = .int i) ∨ ∃ b, y = .bl b) : L.all flatV = true := by
  rw [List.all_eq_true]
  intro y hy
  rcases h y hy with rfl | ⟨i, rfl⟩ | ⟨b, rfl⟩ <;> rfl
theorem gS_take {ss : List Sy} {i j : Nat} (h : j < i) : gS (ss.take i) j = gS ss j := by
  unfold gS
  rw [List.getD_eq_getElem?_getD, List.getD_eq_getElem?_getD, List.getElem?_take_of_lt h]
def spCheckX (C : Addr) : Sp := fun vs H Q E => ∃ (r l g : Addr) (su : Su) (ss : List Sy) (gv : List V) (night : Int), vs = [.ref r, .ref l, .int night, .ref g] ∧ su.ok ∧ H r = some (.tup (su.rooms.map V.int)) ∧ StAt H l ss ∧ ss.length ≤ 100 ∧ (∀ s ∈ ss, Sy.ok su s) ∧
  H g = some (.lst gv) ∧ Flat3 gv ∧ (GivV su ss gv night → ∀ H' : Hp, Kp [] H H' → Q .non H') ∧ (¬ GivV su ss gv night → ∀ H' : Hp, Kp [] H H' → E (.ref C) none H')
theorem c_check_given (T : Txt K mg) : CalX P w K mg base 3 "check_given" (spCheckX T.C_BadStay) := by
  have c_rooms_of := c_rooms_of (P := P) (w := w) (base := base) T
  have c_is_between := c_is_betweenX (P := P) (w := w) (base := base) T
  have c_rooms_beside := c_rooms_besideX (P := P) (w := w) (base := base) T
  refine calX_of T.d_check_given sc_check_given (fun vs H Q E h => ?_) (fun f cdv A outer s H vs Q E hr h => ?_)
  · obtain ⟨r, l, g, su, ss, gv, night, rfl, _⟩ := h; rfl
  · obtain ⟨r, l, g, su, ss, gv, night, rfl, so, hr', ⟨xs, hl, rx⟩, hlen, ok, hg, fl, q, qn⟩ := h
    have hxl : xs.length = ss.length := rx.lenM
    refine ⟨_, (pss_cons (ps_if (pt_cmpR op_ne (pe_callB (lenK (K := K)) (by rfl) T.z_len (by decide +kernel) (pa_cons (pv 3) pa_nil)) (pe_callB (lenK (K := K)) (by rfl) T.z_len (by decide +kernel) (pa_cons (pv 1) pa_nil)) (nomark _))
  (pss_one (ps_rz T.x_BadStay rfl (takes_of rfl rfl rfl rfl) rfl))
  pss_nil)
  (pss_one (ps_for (passes_of rfl) rfl (pi_enumK (K := K) (by rfl) T.z_enumerate (pa_cons (pv 1) pa_nil)) (pgtK (K := K) (n := 2) rfl (pgs_cons (pg_name (i := 4) sc_check_given.nd rfl (Or.inl rfl)) (pgs_cons (pgtK (K := K) (n := 3) rfl (pgs_cons (pg_name (i := 5) sc_check_given.nd rfl (Or.inl rfl)) (pgs_cons (pg_name (i := 6) sc_check_given.nd rfl (Or.inl rfl)) (pgs_cons (pg_name (i := 7) sc_check_given.nd rfl (Or.inl rfl)) pgs_nil)))) pgs_nil)))
  (pss_cons (ps_set (i := 8) sc_check_given.nd rfl (Or.inl rfl) (pe_ix (ixL (K := K)) (pv 3) (pv 4) (fun _ _ => rfl)))
  (pss_cons (ps_if (pt_cmpR op_ne (pe_cmpR op_notN (pv 8) pe_non (nomark _)) (pe_cmpR op_le (pv 6) (pv 2) (nomark _)) (nomark _))
  (pss_one (ps_rz T.x_BadStay rfl (takes_of rfl rfl rfl rfl) rfl))
  pss_nil)
  (pss_cons (ps_if (PW.pt (pw_and (pt_cmpR op_notN (pv 8) pe_non (nomark _)) (pw_and1 (pt_not (pt_val (pe_c c_is_between (hr.mono (by first | decide | omega)) rfl (pa_cons (pv 8) (pa_cons pe_int (pa_cons (pe_op op_sub (pe_c c_rooms_of (hr.mono (by first | decide | omega)) rfl (pa_cons (pv 0) (pa_cons (pv 5) pa_nil))) pe_int) pa_nil)))))))))
  (pss_one (ps_rz T.x_BadStay rfl (takes_of rfl rfl rfl rfl) rfl))
  pss_nil)
  (pss_one (ps_if (PW.pt (pw_and (pt_cmpR op_notN (pv 8) pe_non (nomark _)) (pw_and1 (pt_cmpR (inK (K := K)) (pv 8) (pe_c c_rooms_beside (hr.mono (by first | decide | omega)) rfl (pa_cons (pe_slice (kslL (K := K)) (pv 1) po_none (po_some (pv 4))) (pa_cons (pv 3) (pa_cons (pe_ix (ixL (K := K)) (pv 1) (pv 4) (fun _ _ => rfl)) pa_nil)))) (by rfl)))))
  (pss_one (ps_rz T.x_BadStay rfl (takes_of rfl rfl rfl rfl) rfl))
  pss_nil)))))))), ?_⟩
    refine ⟨_, rfl, g, _, rfl, .inl (SqL.of hg), _, rfl, l, xs, rfl, .inl (SqL.of hl), rfl, _, rfl, ?_⟩
    by_cases hgl : gv.length = xs.length
    case neg =>
      refine iteTe (show (!decide (V.int (gv.length : Int) = V.int (xs.length : Int))) = true by rw [decV, decide_eq_false (by omega)]; rfl) ?_
      exact qn (fun G => hgl (by rw [G.len, hxl])) H Kp.refl
    refine iteFe (show (!decide (V.int (gv.length : Int) = V.int (xs.length : Int))) = false by rw [hgl, decide_eq_true rfl]; rfl) ?_
    refine ⟨_, rfl, l, xs, rfl, SqL.of hl, for_enum (K := K) (a := l) (xs := xs) (fun i σ H' => ∃ (k4 k5 k6 k7 k8 : Option V), σ = [some (.ref r), some (.ref l), some (.int night), some (.ref g), k4, k5, k6, k7, k8] ∧ Kp [] H H' ∧ ∀ j, j < i → OkAt su ss gv night j) ⟨_, _, _, _, _, rfl, Kp.refl, fun j hj => absurd hj (Nat.not_lt_zero _)⟩ (fun i σ H' ⟨_, _, _, _, _, _, k, _⟩ => k.seq (SqL.of hl) nmem_nil) ?_ ?_⟩
    · rintro i x t σ H1 H2 hx ⟨k4, k5, k6, k7, k8, rfl, k1, hall⟩ ht k2 ht2
      have hi : i < ss.length := by rw [← hxl]; exact (List.getElem?_eq_some_iff.mp hx).1
      have k12 := k1.trans k2
      have rx2 := rx.kp k12
      obtain ⟨y, g1, g2⟩ := StAt.at (l := l) rx2 hi
      rw [hx] at g1
      cases g1
      have oks := ok _ (gS_mem hi)
      have hro : roomsOf su (gS ss i).1 = capK su (gS ss i).1 := if_pos ⟨oks.k0, oks.k1⟩
      have bad : ¬ OkAt su ss gv night i → ∀ H', Kp [] H H' → E (.ref T.C_BadStay) none H' := fun z => qn fun G => z (G.ok i hi)
      have nxt : OkAt su ss gv night i → ∀ j, j < i + 1 → OkAt su ss gv night j := fun z j hj => by
        by_cases e : j = i
        · rw [e]; exact z
        · exact hall j (by omega)
      refine ⟨t, _, rfl, SqT.of ht2, rfl, _, _, rfl, _, _, rfl, y, _, rfl, SqT.of g2, rfl, _, _, rfl, _, _, rfl, _, _, rfl, rfl, rfl, ?_⟩
      have hgi := gV_at (gv := gv) (k := i) (by omega)
      have hkf : kf ss i = (gS ss i).2.1 := rfl
      refine ⟨_, rfl, _, rfl, g, _, _, _, rfl, rfl, SqL.of (k12.at hg nmem_nil), atI_nat hgi, ?_⟩
      refine ⟨_, rfl, rfl, _, rfl, _, rfl, _, _, rfl, rfl, rfl, _, rfl, ?_⟩
      have hob : OkAt su ss gv night i ↔ ((gV gv i = .non ∧ night < kf ss i) ∨ ∃ v, gV gv i = .int v ∧ kf ss i ≤ night ∧ 0 ≤ v ∧ v < capK su (gS ss i).1 ∧ ∀ j, j < i → meetB (gS ss j) (gS ss i) = true → gV gv j ≠ .int v) := Iff.rfl
      rcases fl.at i with en | ⟨v, en⟩ | ⟨b, en⟩
      · rw [en] at hob ⊢
        by_cases hf : (gS ss i).2.1 ≤ night
        · refine iteTe (show (!decide (V.bl (!decide (V.non = V.non)) = V.bl (decide ((gS ss i).2.1 ≤ night)))) = true from by rw [decide_eq_true hf]; simp) ?_
          refine bad (fun z => ?_) H2 k12
          rcases hob.mp z with ⟨_, z⟩ | ⟨v, z, _⟩
          · omega
          · cases z
        · refine iteFe (show (!decide (V.bl (!decide (V.non = V.non)) = V.bl (decide ((gS ss i).2.1 ≤ night)))) = false from by rw [decide_eq_false hf]; simp) ?_
          have e2 : (!decide (V.non = V.non)) = false := by simp
          refine ⟨_, rfl, rfl, _, rfl, ?_⟩
          refine iteFe e2 (iteF ?_)
          refine ⟨_, rfl, rfl, _, rfl, ?_⟩
          refine iteFe e2 (iteF ?_)
          exact ⟨_, _, _, _, _, rfl, k12, nxt (hob.mpr (.inl ⟨rfl, by omega⟩))⟩
      · rw [en] at hob ⊢
        have e2 : (!decide (V.int v = V.non)) = true := by simp
        by_cases hf : (gS ss i).2.1 ≤ night
        case neg =>
          refine iteTe (show (!decide (V.bl (!decide (V.int v = V.non)) = V.bl (decide ((gS ss i).2.1 ≤ night)))) = true from by rw [decide_eq_false hf]; simp) ?_
          refine bad (fun z => ?_) H2 k12
          rcases hob.mp z with ⟨z, _⟩ | ⟨u, _, z, _⟩
          · cases z
          · omega
        refine iteFe (show (!decide (V.bl (!decide (V.int v = V.non)) = V.bl (decide ((gS ss i).2.1 ≤ night)))) = false from by rw [decide_eq_true hf]; simp) ?_
        refine ⟨_, rfl, rfl, _, rfl, ?_⟩
        refine iteTe e2 ?_
        refine ⟨_, rfl, _, rfl, _, rfl, r, su, _, rfl, k12.tup _ _ hr', _, _, rfl, rfl, _, _, _, rfl, .inl ⟨v, rfl, _, rfl, ?_⟩⟩
        by_cases hb : 0 ≤ v ∧ v < capK su (gS ss i).1
        case neg =>
          refine iteTe (show (!(decide (0 ≤ v) && (decide (0 ≤ v) && decide (v ≤ roomsOf su (gS ss i).1 - 1)))) = true from by rw [hro]; simp; omega) ?_
          refine bad (fun z => ?_) H2 k12
          rcases hob.mp z with ⟨z, _⟩ | ⟨u, e, _, z0, z1, _⟩
          · cases z
          · cases e; exact hb ⟨z0, z1⟩
        refine iteFe (show (!(decide (0 ≤ v) && (decide (0 ≤ v) && decide (v ≤ roomsOf su (gS ss i).1 - 1)))) = false from by rw [hro]; simp; omega) ?_
        refine ⟨_, rfl, rfl, _, rfl, ?_⟩
        refine iteTe e2 ?_
        have hl2 := k12.at hl nmem_nil
        have hcut : cutV xs none (some (i : Int)) = xs.take i := by
          unfold cutV
          rw [HT.sIx_nat, HT.sIx_none, List.drop_zero, Nat.sub_zero]
          congr 1
          omega
        refine ⟨_, rfl, _, rfl, _, rfl, _, rfl, l, xs, rfl, SqL.of hl2, fun D0 H3 hD k3 hD3 => ?_⟩
        rw [hcut] at hD3
        have k13 := k12.trans k3
        obtain ⟨y', g3, g4⟩ := StAt.at (l := l) (rx.kp k13) hi
        have rtk : RepTs H3 ((ss.take i).map syD) (xs.take i) := by
          rw [List.map_take]
          exact RepTs.take (rx.kp k13)
        have htl : (ss.take i).length = i := by rw [List.length_take]; omega
        refine ⟨_, rfl, _, rfl, _, rfl, l, _, _, _, rfl, rfl, SqL.of (k13.at hl nmem_nil), atI_nat g3, D0, g, _, ss.take i, gv, gS ss i, rfl, ⟨_, hD3, rtk⟩, by omega, by omega, k13.at hg nmem_nil, syD_of g4, fun R H4 hR k4 hR4 => ?_⟩
        rw [htl] at hR4
        have k14 := k13.trans k4
        have hmem : ∀ y ∈ besideV (ss.take i) gv (gS ss i) i, y = .non ∨ ∃ z, y = .int z := fun y hy => by
          obtain ⟨j, hj, _, e⟩ := mem_besideV.mp hy
          rcases hall j hj with ⟨z, _⟩ | ⟨u, z, _⟩
          · exact .inl (by rw [← e, z])
          · exact .inr ⟨u, by rw [← e, z]⟩
        refine ⟨R, _, rfl, .inl (SqL.of hR4), rfl, flat_all (fun y hy => (hmem y hy).elim .inl fun z => .inr (.inl z)), _, rfl, ?_⟩
        have hiff : (V.int v ∈ besideV (ss.take i) gv (gS ss i) i) ↔ ∃ j, j < i ∧ meetB (gS ss j) (gS ss i) = true ∧ gV gv j = .int v := by
          rw [mem_besideV]
          constructor
          · rintro ⟨j, hj, hm, e⟩
            rw [gS_take hj] at hm
            exact ⟨j, hj, hm, e⟩
          · rintro ⟨j, hj, hm, e⟩
            exact ⟨j, hj, by rw [gS_take hj]; exact hm, e⟩
        have hin := inV_mem (v := v) hmem
        by_cases hc : inV (.int v) (besideV (ss.take i) gv (gS ss i) i) = true
        · refine iteTe (show (if false = true then !inV (.int v) (besideV (ss.take i) gv (gS ss i) i) else inV (.int v) (besideV (ss.take i) gv (gS ss i) i)) = true from by rw [if_neg (by decide)]; exact hc) ?_
          refine bad (fun z => ?_) H4 k14
          obtain ⟨j, hj, hm, e⟩ := hiff.mp (hin.mp hc)
          rcases hob.mp z with ⟨z, _⟩ | ⟨u, e', _, _, _, z⟩
          · cases z
          · cases e'; exact z j hj hm e
        · refine iteFe (show (if false = true then !inV (.int v) (besideV (ss.take i) gv (gS ss i) i) else inV (.int v) (besideV (ss.take i) gv (gS ss i) i)) = false from by rw [if_neg (by decide)]; exact Bool.eq_false_iff.mpr hc) ?_
          exact ⟨_, _, _, _, _, rfl, k14, nxt (hob.mpr (.inr ⟨v, rfl, hf, hb.1, hb.2, fun j hj hm e => hc (hin.mpr (hiff.mpr ⟨j, hj, hm, e⟩))⟩))⟩
      · rw [en] at hob ⊢
        have e2 : (!decide (V.bl b = V.non)) = true := by simp
        have nok : ¬ OkAt su ss gv night i := fun z => by
          rcases hob.mp z with ⟨z, _⟩ | ⟨u, z, _⟩ <;> cases z
        by_cases hf : (gS ss i).2.1 ≤ night
        case neg =>
          refine iteTe (show (!decide (V.bl (!decide (V.bl b = V.non)) = V.bl (decide ((gS ss i).2.1 ≤ night)))) = true from by rw [decide_eq_false hf]; simp) ?_
          exact bad nok H2 k12
        refine iteFe (show (!decide (V.bl (!decide (V.bl b = V.non)) = V.bl (decide ((gS ss i).2.1 ≤ night)))) = false from by rw [decide_eq_true hf]; simp) ?_
        refine ⟨_, rfl, rfl, _, rfl, ?_⟩
        refine iteTe e2 ?_
        exact ⟨_, rfl, _, rfl, _, rfl, r, su, _, rfl, k12.tup _ _ hr', _, _, rfl, rfl, _, _, _, rfl, .inr ⟨b, rfl, _, rfl, iteT (bad nok H2 k12)⟩⟩
    · rintro σ H1 ⟨k4, k5, k6, k7, k8, rfl, k1, hall⟩
      exact q ⟨by omega, fun i hi => hall i (by omega)⟩ H1 k1
end

end MD
namespace MD
open PySem PySem.Spec PyProof.Rows L2
local macro_rules | `(tactic| walk_at "ne") => `(tactic| first | assumption | (apply Ne.symm; assumption) | exact ne_of_none (by assumption) (by assumption) | exact (ne_of_none (by assumption) (by assumption)).symm)
local macro_rules | `(tactic| walk_at "hp") => `(tactic| first | assumption | exact upd_same | (refine (upd_ne ?_).trans ?_; (focus walk_at "ne"); walk_at "hp"))
local macro_rules | `(tactic| walk_at "nm") => `(tactic| first | exact nmem_nil | exact nmem_one (by walk_at "ne") | exact nmem_cons (by walk_at "ne") (by walk_at "nm"))
/-! ### the least room -/
section
variable {P : Program} {w : World} {K : PySem.W.Frag} {mg : Str → Option Value} {base : Heap}
/-- the rooms that were given: of the kinds, without a clash, to those that have come -/
structure Giv (su : Su) (ss : List Sy) (rm : List (Option Int)) (night : Int) : Prop where
  ok : RmOk su ss rm
  come : ∀ k, k < ss.length → (gR rm k = none ↔ night < kf ss k)
def spLeast : Sp := fun vs H Q _ => ∃ (l g : Addr) (ss : List Sy) (rm : List (Option Int)) (k : Nat), vs = [.ref l, .ref g, .int k] ∧ StAt H l ss ∧ rm.length = ss.length ∧ ss.length ≤ 100 ∧ H g = some (.lst (rm.map odV)) ∧ k < ss.length ∧ ∀ H' : Hp, Kp [] H H' → Q (.int (leastN (takenL ss rm k) : Nat)) H'
theorem c_least_room (T : Txt K mg) : Cal P w K mg base 3 "least_room" spLeast := by
  have c_rooms_beside := c_rooms_beside (P := P) (w := w) (base := base) T
  refine cal_of T.d_least_room sc_least_room (fun vs H Q E h => ?_) (fun f cdv A outer s H vs Q E hr h => ?_)
  · obtain ⟨l, g, ss, rm, k, rfl, _⟩ := h; rfl
  · obtain ⟨l, g, ss, rm, k, rfl, ⟨xs, hl, rx⟩, hrl, hlen, hg, hk, q⟩ := h
    refine ⟨_, (pss_cons (ps_set (i := 3) sc_least_room.nd rfl (Or.inl rfl) (pe_c c_rooms_beside (hr.mono (by first | decide | omega)) rfl (pa_cons (pv 0) (pa_cons (pv 1) (pa_cons (pe_ix (ixL (K := K)) (pv 0) (pv 2) (fun _ _ => rfl)) pa_nil)))))
  (pss_cons (ps_set (i := 4) sc_least_room.nd rfl (Or.inl rfl) pe_int)
  (pss_cons (ps_while PassesOwn.never (pt_cmpR (inK (K := K)) (pv 4) (pv 3) (by rfl)) (pss_one (ps_aug (i := 4) sc_least_room.nd rfl (Or.inl rfl) pe_int ip_add)))
  (pss_one (ps_ret (pv 4)))))), ?_⟩
    obtain ⟨y, g1, g2⟩ := StAt.at (l := l) rx hk
    refine ⟨_, rfl, _, rfl, _, rfl, _, rfl, l, _, _, _, rfl, rfl, SqL.of hl, atI_nat g1, l, g, _, ss, rm, gS ss k, rfl, ⟨xs, hl, rx⟩, by omega, hlen, hg, syD_of g2, fun R H1 hR k1 hR1 => ?_⟩
    have hL := leastN_is (takenL ss rm k)
    generalize leastN (takenL ss rm k) = L at hL q
    refine ⟨fun m σ H' => ∃ r : Nat, r ≤ L ∧ m = L - r ∧ σ = [some (.ref l), some (.ref g), some (.int k), some (.ref R), some (.int r)] ∧ H' = H1, ⟨L, 0, Nat.zero_le _, rfl, rfl, rfl⟩, ?_⟩
    rintro m σ H2 ⟨r, hr', rfl, rfl, rfl⟩
    refine ⟨_, rfl, _, rfl, R, _, rfl, .inl (SqL.of hR1), rfl, flat_od _, _, rfl, ?_⟩
    have e3 : (if false = true then !inV (.int (r : Int)) ((besideU ss rm (gS ss k) ss.length).map odV) else inV (.int (r : Int)) ((besideU ss rm (gS ss k) ss.length).map odV)) = decide ((r : Int) ∈ takenL ss rm k) := by
      rw [if_neg (by decide), inV_od]
      rw [Bool.eq_iff_iff, decide_eq_true_iff, decide_eq_true_iff]
      exact beside_taken
    rw [e3]
    by_cases h : r < L
    · rw [decide_eq_true (hL.2 r h)]
      refine iteT ⟨fun σ H' => σ = [some (.ref l), some (.ref g), some (.int k), some (.ref R), some (.int ((r + 1 : Nat) : Int))] ∧ H' = H2, ?_, ?_⟩
      · rintro σ' H' ⟨rfl, rfl⟩
        exact ⟨L - (r + 1), by omega, r + 1, h, rfl, rfl, rfl⟩
      · exact ⟨_, rfl, _, _, rfl, rfl, rfl, rfl⟩
    · have e : r = L := by omega
      subst e
      rw [decide_eq_false hL.1]
      exact iteF ⟨_, rfl, q H2 k1⟩
end

end MD
namespace MD
open PySem PySem.Spec PyProof.Rows L2
local macro_rules | `(tactic| walk_at "ne") => `(tactic| first | assumption | (apply Ne.symm; assumption) | exact ne_of_none (by assumption) (by assumption) | exact (ne_of_none (by assumption) (by assumption)).symm)
local macro_rules | `(tactic| walk_at "hp") => `(tactic| first | assumption | exact upd_same | (refine (upd_ne ?_).trans ?_; (focus walk_at "ne"); walk_at "hp"))
local macro_rules | `(tactic| walk_at "nm") => `(tactic| first | exact nmem_nil | exact nmem_one (by walk_at "ne") | exact nmem_cons (by walk_at "ne") (by walk_at "nm"))
/-! ### housing, with its raises -/
section
variable {P : Program} {w : World} {K : PySem.W.Frag} {mg : Str → Option Value} {base : Heap}
def toO : V → Option Int
  | .int v => some v
  | _ => none
theorem GivV.od {su : Su} {ss : List Sy} {gv : List V} {night : Int} (G : GivV su ss gv night) : gv = (gv.map toO).map odV := by
  refine List.ext_getElem? fun i => ?_
  by_cases h : i < gv.length
  · rw [List.getElem?_map, List.getElem?_map, gV_at h]
    rcases G.ok i (by rw [← G.len]; exact h) with ⟨e, _⟩ | ⟨v, e, _⟩ <;> rw [e] <;> rfl
  · rw [List.getElem?_eq_none (by omega), List.getElem?_eq_none (by rw [List.length_map, List.length_map]; omega)]
theorem gR_toO {gv : List V} {k : Nat} (h : k < gv.length) : gR (gv.map toO) k = toO (gV gv k) := by
  refine gR_of ?_
  rw [List.getElem?_map, gV_at h]; rfl
theorem GivV.giv {su : Su} {ss : List Sy} {gv : List V} {night : Int} (G : GivV su ss gv night) : Giv su ss (gv.map toO) night := by
  have hl := G.len
  refine ⟨⟨by rw [List.length_map]; exact hl, fun k r hk e => ?_, fun j k r hj hk hjk hm e1 e2 => ?_⟩, fun k hk => ?_⟩
  · rw [gR_toO (by omega)] at e
    rcases G.ok k hk with ⟨z, _⟩ | ⟨v, z, _, h0, h1, _⟩
    · rw [z] at e; cases e
    · rw [z] at e; cases e; exact ⟨h0, h1⟩
  · have key : ∀ j k, j < k → k < ss.length → meetB (gS ss j) (gS ss k) = true → gR (gv.map toO) j = some r → gR (gv.map toO) k = some r → False := fun j k hjk hk hm e1 e2 => by
      rw [gR_toO (by omega)] at e1 e2
      rcases G.ok k hk with ⟨z, _⟩ | ⟨v, z, _, _, _, hn⟩
      · rw [z] at e2; cases e2
      · rw [z] at e2
        cases e2
        refine hn j hjk hm ?_
        rcases G.ok j (by omega) with ⟨y, _⟩ | ⟨u, y, _⟩
        · rw [y] at e1; cases e1
        · rw [y] at e1 ⊢; cases e1; rfl
    by_cases z : j < k
    · exact key j k z hk hm e1 e2
    · exact key k j (by omega) hj (by rw [meetB_comm]; exact hm) e2 e1
  · rw [gR_toO (by omega)]
    rcases G.ok k hk with ⟨z, h⟩ | ⟨v, z, h, _⟩
    · rw [z]; exact ⟨fun _ => h, fun _ => rfl⟩
    · rw [z]
      exact ⟨(fun y => by cases y), fun y => by omega⟩
def spHousingX (C : Addr) : Sp := fun vs H Q E => ∃ (r l g : Addr) (su : Su) (ss : List Sy) (gv : List V) (night : Int), vs = [.ref r, .ref l, .int night, .ref g] ∧ su.ok ∧ H r = some (.tup (su.rooms.map V.int)) ∧ StAt H l ss ∧ ss.length ≤ 60 ∧ (∀ s ∈ ss, Sy.ok su s) ∧
  H g = some (.lst gv) ∧ Flat3 gv ∧ (Fits su ss ∧ GivV su ss gv night → ∀ (R : Addr) (H' : Hp), H R = none → Kp [] H H' → Q (.ref R) H') ∧ (¬ (Fits su ss ∧ GivV su ss gv night) → ∀ H' : Hp, Kp [] H H' → E (.ref C) none H')
theorem c_housing (T : Txt K mg) : CalX P w K mg base 4 "housing" (spHousingX T.C_BadStay) := by
  have c_check_enough_rooms := c_check_enough_rooms (P := P) (w := w) (base := base) T
  have c_check_given := c_check_given (P := P) (w := w) (base := base) T
  have c_least_room := c_least_room (P := P) (w := w) (base := base) T
  refine calX_of T.d_housing sc_housing (fun vs H Q E h => ?_) (fun f cdv A outer s H vs Q E hr h => ?_)
  · obtain ⟨r, l, g, su, ss, gv, night, rfl, _⟩ := h; rfl
  · obtain ⟨r, l, g, su, ss, gv, night, rfl, so, hr', ⟨xs, hl, rx⟩, hlen, ok, hgv, fl, q, qn⟩ := h
    have hxl : xs.length = ss.length := rx.lenM
    refine ⟨_, (pss_cons (ps_expr (pe_cX c_check_enough_rooms (hr.mono (by first | decide | omega)) rfl (fun σ => passAt (takes_of rfl rfl rfl rfl) σ) (pa_cons (pv 0) (pa_cons (pv 1) pa_nil))))
  (pss_cons (ps_expr (pe_cX c_check_given (hr.mono (by first | decide | omega)) rfl (fun σ => passAt (takes_of rfl rfl rfl rfl) σ) (pa_cons (pv 0) (pa_cons (pv 1) (pa_cons (pv 2) (pa_cons (pv 3) pa_nil))))))
  (pss_cons (ps_set (i := 4) sc_housing.nd rfl (Or.inl rfl) (pe_callTy (klistK (K := K)) (by rfl) T.z_list (by decide +kernel) (pa_cons (pv 3) pa_nil)))
  (pss_cons (ps_set (i := 6) sc_housing.nd rfl (Or.inl rfl) (pe_callB (ksortPO (K := K)) (by rfl) T.z_sorted (by decide +kernel) (pa_cons (ke_lc rfl sc_housing.nd (pi_range1 (by rfl) T.z_range (pa_cons (pe_callB (lenK (K := K)) (by rfl) T.z_len (by decide +kernel) (pa_cons (pv 1) pa_nil)) pa_nil)) (blkOk_by (own := [("index", 5)]) (N := ["rooms", "stays", "night", "given", "housed", "index", "later", "_"]) (sc := defScope s_housing) (by decide +kernel)) (fun _ _ _ _ _ => (pg_name (i := 5) sc_housing.nd rfl (Or.inl rfl))) (fun _ _ _ _ _ => (pts_one (pt_cmpR op_isN (pe_ix (ixL (K := K)) (pv 3) (pv 5) (fun _ _ => rfl)) pe_non (nomark _)))) (fun _ _ _ _ _ => (ke_tup (pa_cons (pe_ix (ixT (K := K)) (pe_ix (ixL (K := K)) (pv 1) (pv 5) (fun _ _ => rfl)) pe_int (fun _ _ => rfl)) (pa_cons (pv 5) pa_nil))))) pa_nil)))
  (pss_cons (ps_for (passes_of rfl) rfl (pilK (K := K) (pv 6)) (pgtK (K := K) (n := 2) rfl (pgs_cons (pg_name (i := 7) sc_housing.nd rfl (Or.inl rfl)) (pgs_cons (pg_name (i := 5) sc_housing.nd rfl (Or.inl rfl)) pgs_nil)))
  (pss_one (ps_asg (pe_c c_least_room (hr.mono (by first | decide | omega)) rfl (pa_cons (pv 1) (pa_cons (pv 4) (pa_cons (pv 5) pa_nil)))) (pg_sub (pv 4) (pv 5) kset_list))))
  (pss_one (ps_ret (pv 4)))))))), ?_⟩
    refine ⟨_, rfl, _, rfl, r, l, su, ss, rfl, so, hr', ⟨xs, hl, rx⟩, by omega, ok, fun F H1 k1 => ?_, fun nF H1 k1 => qn (fun z => nF z.1) H1 k1⟩
    refine ⟨_, rfl, _, rfl, _, rfl, _, rfl, r, l, g, su, ss, gv, night, rfl, so, k1.tup _ _ hr', ⟨xs, k1.at hl nmem_nil, rx.kp k1⟩, by omega, ok, k1.at hgv nmem_nil, fl, fun GV H2 k2 => ?_, fun nG H2 k2 => qn (fun z => nG z.2) H2 (k1.trans k2)⟩
    have G := GV.giv
    obtain ⟨rm, er⟩ : ∃ rm, rm = gv.map toO := ⟨_, rfl⟩
    rw [← er] at G
    have hg : H g = some (.lst (rm.map odV)) := by rw [hgv, GV.od, ← er]
    have hrl : rm.length = ss.length := G.ok.len
    have k02 := k1.trans k2
    refine ⟨_, rfl, g, _, rfl, .inl (SqL.of (k02.at hg nmem_nil)), fun R H3 hR k3 hR3 => ?_⟩
    have k03 := k02.trans k3
    have RH : H R = none := k02.free hR
    have lxR : l ≠ R := ne_of_none hl RH
    have gxR : g ≠ R := ne_of_none hg RH
    have hl3 := k03.at hl nmem_nil
    have hg3 := k03.at hg nmem_nil
    refine ⟨_, rfl, l, xs, rfl, .inl (SqL.of hl3), _, rfl, (by omega), (by omega), fun D0 H4 hD kD hD' => ?_⟩
    refine kl_range (n := xs.length) (fun i acc H' => Kp [] H3 H' ∧ RepTs H' (((List.range i).filter fun k => decide (gR rm k = none)).map fun k => prD (kf ss k) (k : Nat)) acc ∧ acc.length ≤ i) ⟨kD, RepTs.nil, Nat.le_refl _⟩ ?_ ?_
    · rintro i acc H5 hi hacc ⟨k5, ra, hal⟩
      have ei : (0 : Int) + (i : Int) = i := by omega
      rw [ei]
      obtain ⟨y, hy, hy2⟩ := StAt.at (l := l) ((rx.kp k03).kp k5) (show i < ss.length by omega)
      refine ⟨rfl, _, rfl, _, rfl, g, _, _, _, rfl, rfl, SqL.of (k5.at hg3 nmem_nil), atI_nat (odV_at (by omega)), rfl, _, rfl, ?_⟩
      have ers : (List.range (i + 1)).filter (fun k => decide (gR rm k = none)) = (List.range i).filter (fun k => decide (gR rm k = none)) ++ (if gR rm i = none then [i] else []) := by
        rw [List.range_succ, List.filter_append]
        congr 1
        rw [List.filter_cons, List.filter_nil]
        by_cases z : gR rm i = none <;> simp [z]
      cases er : gR rm i with
      | some v =>
        rw [er, if_neg (fun z => by cases z), List.append_nil] at ers
        have e2 : decide (odV (some v) = V.non) = false := by simp [odV]
        rw [e2]
        exact iteF ⟨hacc, k5, by rw [ers]; exact ra, by omega⟩
      | none =>
        rw [er, if_pos rfl] at ers
        have e2 : decide (odV none = V.non) = true := by simp [odV]
        rw [e2]
        refine iteT ⟨_, rfl, _, rfl, l, _, _, _, rfl, rfl, SqL.of (k5.at hl3 nmem_nil), atI_nat hy, y, _, _, _, rfl, rfl, SqT.of hy2, rfl, _, rfl, (by show 2 ≤ sizeLine; decide), fun t H6 ht k6 ht6 => ⟨k6.at hacc nmem_nil, sz (show acc.length ≤ 100 by omega), fun H7 k7 h7 => ⟨(k5.trans k6).put k7 hD, ?_, by rw [List.length_append, List.length_singleton]; omega⟩⟩⟩
        rw [ers, List.map_append]
        exact RepTs.snoc (RepT.tup (k7.tup _ _ ht6) (RepTs.cons RepT.int (RepTs.cons RepT.int RepTs.nil))) ((ra.kp k6).kp k7)
    · rintro acc H5 hacc ⟨k5, ra, hal⟩
      rw [hxl] at ra
      refine ⟨D0, acc, kyP H5, rfl, SqL.of hacc, fun x hx => ?_, fun ys hs hp d H6 hd k6 hd6 => ?_⟩
      · obtain ⟨i, s, h1, h2, h3⟩ := RepTs.mem ra hx
        obtain ⟨t, e1, e2, e3⟩ := prD_at h3
        exact ⟨t, e1, by rw [e3]; exact e2⟩
      · obtain ⟨os, ho, ro⟩ := ord_of ra hs hp
        have hol : ys.length = os.length := ro.lenM
        have hmem : ∀ k ∈ os, k < ss.length ∧ gR rm k = none := fun k hk => by
          have := List.mem_filter.mp (ho.1.mem_iff.mp hk)
          exact ⟨List.mem_range.mp this.1, of_decide_eq_true this.2⟩
        have hnd : os.Nodup := ho.1.nodup_iff.mpr (List.nodup_range.filter _)
        have k36 := k5.trans k6
        have hR6 := k36.at hR3 nmem_nil
        have dR : d ≠ R := (ne_of_none (k5.at hR3 nmem_nil) hd).symm
        refine ⟨_, rfl, d, rfl, ⟨_, SqL.of hd6⟩, for_list (K := K) (a := d) (xs := ys) (fun i σ H' => ∃ (k5 k7 : Option V), σ = [some (.ref r), some (.ref l), some (.int night), some (.ref g), some (.ref R), k5, some (.ref d), k7] ∧ Kp [R] H6 H' ∧ H' R = some (.lst ((runH ss rm (os.take i)).map odV)) ∧ (runH ss rm (os.take i)).length = rm.length ∧ ∀ k, k ∉ os.take i → gR (runH ss rm (os.take i)) k = gR rm k)
          ⟨_, _, rfl, Kp.refl, hR6, rfl, fun _ _ => rfl⟩ (fun i σ H' _ ⟨_, _, _, k, _⟩ => k.seq (SqL.of hd6) (nmem_one dR)) ?_ ?_⟩
        · rintro i x σ H7 hx ⟨j5, j7, rfl, k7, hR7, hlr, hun⟩
          obtain ⟨k, hk, rs⟩ := (ro.kp k6).at hx
          obtain ⟨t, rfl, ht, _⟩ := prD_at rs
          obtain ⟨hkl, hkn⟩ := hmem k (List.mem_of_getElem? hk)
          have hi : i < os.length := (List.getElem?_eq_some_iff.mp hk).1
          have ed : os.drop i = k :: os.drop (i + 1) := by
            rw [List.drop_eq_getElem_cons hi]
            congr 1
            exact (List.getElem?_eq_some_iff.mp hk).2
          have hnk : k ∉ os.take i := fun z => by
            rw [(List.take_append_drop i os).symm] at hnd
            exact (List.nodup_append.mp hnd).2.2 k z k (by rw [ed]; exact List.mem_cons_self) rfl
          have et : runH ss rm (os.take (i + 1)) = stepH ss (runH ss rm (os.take i)) k := by
            rw [List.take_add_one, hk]
            unfold runH
            rw [List.foldl_append]; rfl
          have em : ∀ j, j ∈ os.take (i + 1) ↔ j ∈ os.take i ∨ j = k := fun j => by
            rw [List.take_add_one, hk, List.mem_append]
            simp
          generalize runH ss rm (os.take i) = rm3 at hR7 hlr hun et
          have en : gR rm3 k = none := by rw [hun k hnk]; exact hkn
          have es : stepH ss rm3 k = rm3.set k (some (leastN (takenL ss rm3 k) : Int)) := if_pos en
          have k37 : Kp [R] H3 H7 := k36.nil.trans k7
          refine ⟨t, _, rfl, SqT.of (k7.tup _ _ ht), rfl, _, _, rfl, _, _, rfl, rfl, ?_⟩
          refine ⟨_, rfl, _, rfl, _, rfl, l, R, ss, rm3, k, rfl, ⟨xs, k37.at hl3 (nmem_one lxR), (rx.kp k03).kp k37⟩, by omega, by omega, hR7, hkl, fun H8 k8 => ?_⟩
          refine ⟨_, rfl, _, rfl, R, _, _, k, rfl, rfl, k8.at hR7 nmem_nil, ixN_nat (by rw [List.length_map]; omega), fun H9 k9 h9 => ?_⟩
          rw [set_od] at h9
          rw [et, es]
          refine ⟨_, _, rfl, (k7.th0 k8).putM k9 (by simp), h9, by rw [List.length_set]; exact hlr, fun j hj => ?_⟩
          have hj' : j ∉ os.take i ∧ j ≠ k := ⟨fun z => hj ((em j).mpr (.inl z)), fun z => hj ((em j).mpr (.inr z))⟩
          rw [gR_set (by omega), if_neg hj'.2]
          exact hun j hj'.1
        · rintro σ H7 ⟨j5, j7, rfl, k7, hR7, hlr, hun⟩
          rw [hol, List.take_length] at hR7
          exact ⟨_, rfl, q ⟨F, GV⟩ R H7 RH ((k03.trans k36).put k7 RH)⟩
end

end MD
namespace MD
open PySem PySem.Spec PyProof.Rows L2
local macro_rules | `(tactic| walk_at "ne") => `(tactic| first | assumption | (apply Ne.symm; assumption) | exact ne_of_none (by assumption) (by assumption) | exact (ne_of_none (by assumption) (by assumption)).symm)
local macro_rules | `(tactic| walk_at "hp") => `(tactic| first | assumption | exact upd_same | (refine (upd_ne ?_).trans ?_; (focus walk_at "ne"); walk_at "hp"))
local macro_rules | `(tactic| walk_at "nm") => `(tactic| first | exact nmem_nil | exact nmem_one (by walk_at "ne") | exact nmem_cons (by walk_at "ne") (by walk_at "nm"))
/-! ### the law's own check of a housing -/
section
variable {P : Program} {w : World} {K : PySem.W.Frag} {mg : Str → Option Value} {base : Heap}
def spGood : Sp := fun vs H Q _ => ∃ (a r p l g : Addr) (su : Su) (ss : List Sy) (gv : List V) (night : Int), vs = [.ref a, .ref l, .int night, .ref g] ∧ SuAt H a r p su ∧ su.ok ∧ StAt H l ss ∧ ss.length ≤ 100 ∧ (∀ s ∈ ss, Sy.ok su s) ∧ H g = some (.lst gv) ∧ Flat3 gv ∧ gv.length = ss.length ∧
  ∀ (b : Bool) (H' : Hp), Kp [] H H' → (b = true ↔ Fits su ss ∧ GivV su ss gv night) → Q (.bl b) H'
/-- what the law asks of the k-th alone -/
def Solo (su : Su) (ss : List Sy) (gv : List V) (night : Int) (i : Nat) : Prop := (gV gv i = .non ∧ night < kf ss i) ∨ ∃ v, gV gv i = .int v ∧ kf ss i ≤ night ∧ 0 ≤ v ∧ v < capK su (gS ss i).1
def Clash (ss : List Sy) (gv : List V) (j i : Nat) : Prop := ∃ u, gV gv j = .int u ∧ gV gv i = .int u ∧ meetB (gS ss j) (gS ss i) = true
theorem okAt_iff {su : Su} {ss : List Sy} {gv : List V} {night : Int} {i : Nat} : OkAt su ss gv night i ↔ Solo su ss gv night i ∧ ∀ j, j < i → ¬ Clash ss gv j i := by
  constructor
  · rintro (⟨e, h⟩ | ⟨v, e, h1, h2, h3, h4⟩)
    · exact ⟨.inl ⟨e, h⟩, fun j hj ⟨u, _, e2, _⟩ => by rw [e] at e2; cases e2⟩
    · exact ⟨.inr ⟨v, e, h1, h2, h3⟩, fun j hj ⟨u, e1, e2, hm⟩ => by rw [e] at e2; cases e2; exact h4 j hj hm e1⟩
  · rintro ⟨⟨e, h⟩ | ⟨v, e, h1, h2, h3⟩, h⟩
    · exact .inl ⟨e, by assumption⟩
    · exact .inr ⟨v, e, h1, h2, h3, fun j hj hm e1 => h j hj ⟨v, e1, e, hm⟩⟩
theorem c_law_good (T : Txt K mg) : Cal P w K mg base 2 "_law_good" spGood := by
  have c_law_fits := c_law_fits (P := P) (w := w) (base := base) T
  have c_law_meet := c_law_meet (P := P) (w := w) (base := base) T
  refine cal_of T.d_law_good sc_law_good (fun vs H Q E h => ?_) (fun f cdv A outer s H vs Q E hr h => ?_)
  · obtain ⟨a, r, p, l, g, su, ss, gv, night, rfl, _⟩ := h; rfl
  · obtain ⟨a, r, p, l, g, su, ss, gv, night, rfl, S, so, ⟨xs, hl, rx⟩, hlen, ok, hg, fl, hgl, q⟩ := h
    have hxl : xs.length = ss.length := rx.lenM
    refine ⟨_, (pss_cons (ps_if (pt_not (pt_val (pe_c c_law_fits (hr.mono (by first | decide | omega)) rfl (pa_cons (pv 0) (pa_cons (pv 1) pa_nil)))))
  (pss_one (ps_ret pe_bl))
  pss_nil)
  (pss_cons (ps_for PassesOwn.never rfl (pi_range1 (by rfl) T.z_range (pa_cons (pe_callB (lenK (K := K)) (by rfl) T.z_len (by decide +kernel) (pa_cons (pv 1) pa_nil)) pa_nil)) (pg_name (i := 4) sc_law_good.nd rfl (Or.inl rfl))
  (C8.pss_cut (ps_if (pt_cmpR op_ne (pe_cmpR op_isN (pe_ix (ixL (K := K)) (pv 3) (pv 4) (fun _ _ => rfl)) pe_non (nomark _)) (pe_cmpR op_gt (pe_ix (ixT (K := K)) (pe_ix (ixL (K := K)) (pv 1) (pv 4) (fun _ _ => rfl)) pe_int (fun _ _ => rfl)) (pv 2) (nomark _)) (nomark _))
  (pss_one (ps_ret pe_bl))
  pss_nil)
  (C8.pss_cut (ps_if (pt_val (pe_callB (isiK (K := K)) (by rfl) T.z_isinstance (by decide +kernel) (pa_cons (pe_ix (ixL (K := K)) (pv 3) (pv 4) (fun _ _ => rfl)) (pa_cons (pe_bltn (v := .ty "bool") (by rfl) T.z_bool (by decide +kernel) rfl) pa_nil))))
  (pss_one (ps_ret pe_bl))
  pss_nil)
  (C8.pss_cut (ps_if (PW.pt (pw_and (pt_cmpR op_notN (pe_ix (ixL (K := K)) (pv 3) (pv 4) (fun _ _ => rfl)) pe_non (nomark _)) (pw_and1 (PW.pt (pw_or (pt_cmpR op_lt (pe_ix (ixL (K := K)) (pv 3) (pv 4) (fun _ _ => rfl)) pe_int (nomark _)) (pw_or1 (pt_cmpR op_ge (pe_ix (ixL (K := K)) (pv 3) (pv 4) (fun _ _ => rfl)) (pe_ix (ixT (K := K)) (pe_ix (ixT (K := K)) (pv 0) pe_int (fun _ _ => rfl)) (pe_ix (ixT (K := K)) (pe_ix (ixL (K := K)) (pv 1) (pv 4) (fun _ _ => rfl)) pe_int (fun _ _ => rfl)) (fun _ _ => rfl)) (nomark _))))))))
  (pss_one (ps_ret pe_bl))
  pss_nil)
  (pss_one (ps_for PassesOwn.never rfl (pi_range1 (by rfl) T.z_range (pa_cons (pv 4) pa_nil)) (pg_name (i := 5) sc_law_good.nd rfl (Or.inl rfl))
  (pss_one (ps_if (PW.pt (pw_and (pt_cmpR op_notN (pe_ix (ixL (K := K)) (pv 3) (pv 5) (fun _ _ => rfl)) pe_non (nomark _)) (pw_and (pt_cmpR op_eq (pe_ix (ixL (K := K)) (pv 3) (pv 5) (fun _ _ => rfl)) (pe_ix (ixL (K := K)) (pv 3) (pv 4) (fun _ _ => rfl)) (nomark _)) (pw_and1 (pt_val (pe_c c_law_meet (hr.mono (by first | decide | omega)) rfl (pa_cons (pe_ix (ixL (K := K)) (pv 1) (pv 5) (fun _ _ => rfl)) (pa_cons (pe_ix (ixL (K := K)) (pv 1) (pv 4) (fun _ _ => rfl)) pa_nil))))))))
  (pss_one (ps_ret pe_bl))
  pss_nil))))))))
  (pss_one (ps_ret pe_bl)))), ?_⟩
    refine ⟨_, rfl, _, rfl, a, r, p, l, su, ss, rfl, S, so, ⟨xs, hl, rx⟩, by omega, fun b H1 k1 hb => ?_⟩
    refine ⟨_, rfl, ?_⟩
    cases b with
    | false => exact iteT (q false H1 k1 ⟨(fun z => nomatch z), fun z => (by have := hb.mpr z.1; cases this)⟩)
    | true =>
    refine iteF ?_
    have F := hb.mp rfl
    have hl1 := k1.at hl nmem_nil
    have hg1 := k1.at hg nmem_nil
    have S1 := S.kp k1
    have rx1 := rx.kp k1
    have out : ∀ i, i < ss.length → ¬ OkAt su ss gv night i → Q (.bl false) H1 := fun i hi z => q false H1 k1 ⟨(fun y => nomatch y), fun y => absurd (y.2.ok i hi) z⟩
    refine ⟨_, rfl, l, xs, rfl, .inl (SqL.of hl1), _, rfl, (by omega), (by omega), for_range (n := xs.length) (fun i σ H' => ∃ (k4 k5 : Option V), σ = [some (.ref a), some (.ref l), some (.int night), some (.ref g), k4, k5] ∧ H' = H1 ∧ ∀ j, j < i → OkAt su ss gv night j)
      ⟨_, _, rfl, rfl, fun j hj => absurd hj (Nat.not_lt_zero _)⟩ ?_ ?_⟩
    · rintro i σ H2 hi ⟨k4, k5, rfl, rfl, hall⟩
      have ei : (0 : Int) + (i : Int) = i := by omega
      rw [ei]
      have his : i < ss.length := by omega
      have oks := ok _ (gS_mem his)
      have hgi := gV_at (gv := gv) (k := i) (by omega)
      obtain ⟨y, g1, g2⟩ := StAt.at (l := l) rx1 his
      have hkf : kf ss i = (gS ss i).2.1 := rfl
      have hso : Solo su ss gv night i ↔ ((gV gv i = .non ∧ night < kf ss i) ∨ ∃ v, gV gv i = .int v ∧ kf ss i ≤ night ∧ 0 ≤ v ∧ v < capK su (gS ss i).1) := Iff.rfl
      have bad : ¬ Solo su ss gv night i → Q (.bl false) H2 := fun z => out i his fun y => z (okAt_iff.mp y).1
      refine ⟨fun σ H' => σ = [some (.ref a), some (.ref l), some (.int night), some (.ref g), some (.int (i : Int)), k5] ∧ H' = H2 ∧ (gV gv i = .non ↔ night < kf ss i), ?_, ?_⟩
      · refine ⟨_, rfl, _, rfl, g, _, _, _, rfl, rfl, SqL.of hg1, atI_nat hgi, rfl, _, rfl, _, rfl, l, _, _, _, rfl, rfl, SqL.of hl1, atI_nat g1, y, _, _, _, rfl, rfl, SqT.of g2, rfl, _, rfl, _, _, rfl, rfl, rfl, _, rfl, ?_⟩
        by_cases hn : gV gv i = .non
        · by_cases hf : night < (gS ss i).2.1
          · refine iteFe (show (!decide (V.bl (decide (gV gv i = V.non)) = V.bl (decide (night < (gS ss i).2.1)))) = false from by rw [decide_eq_true hf, decide_eq_true hn]; simp) ?_
            exact ⟨rfl, rfl, fun _ => hf, fun _ => hn⟩
          · refine iteTe (show (!decide (V.bl (decide (gV gv i = V.non)) = V.bl (decide (night < (gS ss i).2.1)))) = true from by rw [decide_eq_false hf, decide_eq_true hn]; simp) ?_
            refine bad fun z => ?_
            rcases hso.mp z with ⟨_, z⟩ | ⟨v, z, _⟩
            · exact hf z
            · rw [hn] at z; cases z
        · by_cases hf : night < (gS ss i).2.1
          · refine iteTe (show (!decide (V.bl (decide (gV gv i = V.non)) = V.bl (decide (night < (gS ss i).2.1)))) = true from by rw [decide_eq_true hf, decide_eq_false hn]; simp) ?_
            refine bad fun z => ?_
            rcases hso.mp z with ⟨z, _⟩ | ⟨v, _, z, _⟩
            · exact hn z
            · omega
          · refine iteFe (show (!decide (V.bl (decide (gV gv i = V.non)) = V.bl (decide (night < (gS ss i).2.1)))) = false from by rw [decide_eq_false hf, decide_eq_false hn]; simp) ?_
            exact ⟨rfl, rfl, fun z => absurd z hn, fun z => absurd z hf⟩
      rintro σ H' ⟨rfl, rfl, hcome⟩
      refine ⟨fun σ H'' => σ = [some (.ref a), some (.ref l), some (.int night), some (.ref g), some (.int (i : Int)), k5] ∧ H'' = H' ∧ (gV gv i = .non ∨ ∃ v, gV gv i = .int v), ?_, ?_⟩
      · refine ⟨_, rfl, _, rfl, g, _, _, _, rfl, rfl, SqL.of hg1, atI_nat hgi, ?_⟩
        rcases fl.at i with en | ⟨v, en⟩ | ⟨b, en⟩
        · rw [en]
          exact ⟨_, _, _, _, false, rfl, .ty _, (.base .non), kit_ty (by decide +kernel), _, rfl, iteF ⟨rfl, rfl, .inl rfl⟩⟩
        · rw [en]
          exact ⟨_, _, _, _, false, rfl, .ty _, (.base (.int v)), kit_ty (by decide +kernel), _, rfl, iteF ⟨rfl, rfl, .inr ⟨v, rfl⟩⟩⟩
        · rw [en]
          refine ⟨_, _, _, _, true, rfl, .ty _, (.base (.bl b)), kit_ty (by decide +kernel), _, rfl, iteT ?_⟩
          refine bad fun z => ?_
          rcases hso.mp z with ⟨z, _⟩ | ⟨v, z, _⟩
          · rw [en] at z; cases z
          · rw [en] at z; cases z
      rintro σ H2 ⟨rfl, rfl, hk⟩
      refine ⟨fun σ H'' => σ = [some (.ref a), some (.ref l), some (.int night), some (.ref g), some (.int (i : Int)), k5] ∧ H'' = H2 ∧ Solo su ss gv night i, ?_, ?_⟩
      · refine ⟨_, rfl, _, rfl, g, _, _, _, rfl, rfl, SqL.of hg1, atI_nat hgi, rfl, _, rfl, ?_⟩
        rcases hk with en | ⟨v, en⟩
        · refine iteFe (show (!decide (gV gv i = V.non)) = false from by rw [decide_eq_true en]; rfl) (iteF ?_)
          exact ⟨rfl, rfl, .inl ⟨en, hcome.mp en⟩⟩
        · refine iteTe (show (!decide (gV gv i = V.non)) = true from by rw [en]; simp) ?_
          have hn : ¬ night < kf ss i := fun z => by have := hcome.mpr z; rw [en] at this; cases this
          rw [en] at hgi
          refine ⟨_, rfl, _, rfl, g, _, _, _, rfl, rfl, SqL.of hg1, atI_nat hgi, _, _, rfl, rfl, _, rfl, ?_⟩
          by_cases h0 : v < 0
          · rw [decide_eq_true h0]
            refine iteT (iteT (bad fun z => ?_))
            rcases hso.mp z with ⟨z, _⟩ | ⟨u, z, _, z0, _⟩
            · rw [en] at z; cases z
            · rw [en] at z; cases z; omega
          rw [decide_eq_false h0]
          refine iteF ?_
          refine ⟨_, rfl, _, rfl, g, _, _, _, rfl, rfl, SqL.of hg1, atI_nat hgi, _, rfl, a, _, _, _, rfl, rfl, SqT.of S1.ha, rfl, _, rfl, _, rfl, l, _, _, _, rfl, rfl, SqL.of hl1, atI_nat g1, y, _, _, _, rfl, rfl, SqT.of g2, rfl, r, _, _, _, rfl, rfl, SqT.of S1.hr, cap_at S1 oks.k0 oks.k1, _, _, rfl, rfl, _, rfl, ?_⟩
          by_cases h1 : capK su (gS ss i).1 ≤ v
          · refine iteTe (decide_eq_true h1) (bad fun z => ?_)
            rcases hso.mp z with ⟨z, _⟩ | ⟨u, z, _, _, z1⟩
            · rw [en] at z; cases z
            · rw [en] at z; cases z; omega
          · refine iteFe (decide_eq_false h1) ?_
            exact ⟨rfl, rfl, .inr ⟨v, en, by omega, by omega, by omega⟩⟩
      rintro σ H3 ⟨rfl, rfl, hsolo⟩
      refine ⟨_, rfl, _, rfl, (by omega), (by omega), for_range (n := i) (fun j σ H' => ∃ k5 : Option V, σ = [some (.ref a), some (.ref l), some (.int night), some (.ref g), some (.int (i : Int)), k5] ∧ H' = H3 ∧ ∀ j', j' < j → ¬ Clash ss gv j' i)
        ⟨_, rfl, rfl, fun j hj => absurd hj (Nat.not_lt_zero _)⟩ ?_ ?_⟩
      · rintro j σ H4 hj ⟨k5, rfl, rfl, hcl⟩
        have ej : (0 : Int) + (j : Int) = j := by omega
        rw [ej]
        have hjs : j < ss.length := by omega
        have hgj := gV_at (gv := gv) (k := j) (by omega)
        obtain ⟨y1, g3, g4⟩ := StAt.at (l := l) rx1 hjs
        have nxt : ¬ Clash ss gv j i → ∀ j', j' < j + 1 → ¬ Clash ss gv j' i := fun z j' h => by
          by_cases e : j' = j
          · rw [e]; exact z
          · exact hcl j' (by omega)
        refine ⟨_, rfl, _, rfl, g, _, _, _, rfl, rfl, SqL.of hg1, atI_nat hgj, rfl, _, rfl, ?_⟩
        have hnj : gV gv j = .non ∨ ∃ u, gV gv j = .int u := (hall j hj).elim (fun z => .inl z.1) fun ⟨u, z, _⟩ => .inr ⟨u, z⟩
        rcases hnj with en | ⟨u, en⟩
        · refine iteFe (show (!decide (gV gv j = V.non)) = false from by rw [decide_eq_true en]; rfl) (iteF ?_)
          exact ⟨_, rfl, rfl, nxt fun ⟨u, z, _⟩ => by rw [en] at z; cases z⟩
        · refine iteTe (show (!decide (gV gv j = V.non)) = true from by rw [en]; simp) ?_
          rw [en] at hgj
          have hki : gV gv i = .non ∨ ∃ v, gV gv i = .int v := hsolo.elim (fun z => .inl z.1) fun ⟨u, z, _⟩ => .inr ⟨u, z⟩
          refine ⟨_, rfl, _, rfl, g, _, _, _, rfl, rfl, SqL.of hg1, atI_nat hgj, _, rfl, _, rfl, g, _, _, _, rfl, rfl, SqL.of hg1, atI_nat hgi, (by rcases hki with z | ⟨v, z⟩ <;> rw [z] <;> rfl), _, rfl, ?_⟩
          by_cases he : V.int u = gV gv i
          · refine iteTe (decide_eq_true he) ?_
            refine ⟨_, rfl, _, rfl, l, _, _, _, rfl, rfl, SqL.of hl1, atI_nat g3, _, rfl, _, rfl, l, _, _, _, rfl, rfl, SqL.of hl1, atI_nat g1, gS ss j, gS ss i, _, _, rfl, syD_of g4, syD_of g2, _, rfl, ?_⟩
            by_cases hm : meetB (gS ss j) (gS ss i) = true
            · rw [hm]
              exact iteT (out i his fun z => (okAt_iff.mp z).2 j hj ⟨u, en, he.symm, hm⟩)
            · rw [Bool.eq_false_iff.mpr hm]
              exact iteF ⟨_, rfl, rfl, nxt fun ⟨u, _, _, z⟩ => hm z⟩
          · refine iteFe (decide_eq_false he) (iteF ?_)
            exact ⟨_, rfl, rfl, nxt fun ⟨u', z1, z2, _⟩ => by rw [en] at z1; cases z1; exact he z2.symm⟩
      · rintro σ H4 ⟨k5, rfl, rfl, hcl⟩
        refine ⟨_, _, rfl, rfl, fun j hj => ?_⟩
        by_cases e : j = i
        · rw [e]; exact okAt_iff.mpr ⟨hsolo, hcl⟩
        · exact hall j (by omega)
    · rintro σ H2 ⟨k4, k5, rfl, rfl, hall⟩
      exact q true H2 k1 ⟨fun _ => ⟨F, hgl, fun i hi => hall i (by omega)⟩, fun _ => rfl⟩
end

end MD
namespace MD
open PySem PySem.Spec PyProof.Rows L2
local macro_rules | `(tactic| walk_at "ne") => `(tactic| first | assumption | (apply Ne.symm; assumption) | exact ne_of_none (by assumption) (by assumption) | exact (ne_of_none (by assumption) (by assumption)).symm)
local macro_rules | `(tactic| walk_at "hp") => `(tactic| first | assumption | exact upd_same | (refine (upd_ne ?_).trans ?_; (focus walk_at "ne"); walk_at "hp"))
local macro_rules | `(tactic| walk_at "nm") => `(tactic| first | exact nmem_nil | exact nmem_one (by walk_at "ne") | exact nmem_cons (by walk_at "ne") (by walk_at "nm"))
/-! ### the law's own trying of a housing -/
section
variable {P : Program} {w : World} {K : PySem.W.Frag} {mg : Str → Option Value} {base : Heap}
def bothD (ss : List Sy) (gv : List V) : D := .sq true [.sq true (ss.map syD), .sq true (gv.map D.v)]
theorem StAt.rep {H : Hp} {l : Addr} {ss : List Sy} (h : StAt H l ss) : Rep K H (.sq true (ss.map syD)) (.ref l) := by
  obtain ⟨xs, h1, h2⟩ := h
  exact Rep.lst (SqL.of h1) (RepTs.reps h2)
theorem reps_v {H : Hp} : ∀ {gv : List V}, Flat3 gv → Reps K H (gv.map D.v) gv
  | [], _ => Reps.nil
  | v :: gv, h => by
    refine Reps.cons ?_ (reps_v fun y hy => h y (List.mem_cons_of_mem _ hy))
    unfold Rep
    refine ⟨rfl, ?_⟩
    rcases h v List.mem_cons_self with rfl | ⟨i, rfl⟩ | ⟨b, rfl⟩ <;> trivial
theorem pss_if {X : Cx} {b : List Stmt} {p : Prop} {t : TS} (h : p → PSs X b t) : PSs X b (fun D0 σ H => p ∧ t D0 σ H) := ⟨fun pins s σ H D0 I ⟨hp, q⟩ => (h hp).run pins s σ H D0 I q⟩
def spRefused : Sp := fun vs H Q _ => ∃ (a r p l g : Addr) (su : Su) (ss : List Sy) (gv : List V) (night : Int), vs = [.ref a, .ref l, .int night, .ref g] ∧ SuAt H a r p su ∧ su.ok ∧ StAt H l ss ∧ ss.length ≤ 60 ∧ (∀ s ∈ ss, Sy.ok su s) ∧ H g = some (.lst gv) ∧ Flat3 gv ∧ (bothD ss gv).Fit ∧
  ∀ (b : Bool) (H' : Hp), Kp [] H H' → (b = true ↔ ¬ (Fits su ss ∧ GivV su ss gv night)) → Q (.bl b) H'
theorem c_law_refused (T : Txt K mg) : CalG P w K mg base 5 "_law_refused" spRefused := by
  have c_housing := c_housing (P := P) (w := w) (base := base) T
  refine calG_of T.d_law_refused sc_law_refused (fun vs H Q E h => ?_) (fun f cdv A outer s H vs Q E hr gu h => ?_)
  · obtain ⟨a, r, p, l, g, su, ss, gv, night, rfl, _⟩ := h; rfl
  · obtain ⟨a, r, p, l, g, su, ss, gv, night, rfl, S, so, ⟨xs, hl, rx⟩, hlen, ok, hg, fl, fit, q⟩ := h
    have hu : A.units + 200 < cLine := by
      have := hr.un
      have e : (A.deeper (envOfC "_law_refused" (defScope s_law_refused) s.heap.objs.size f cdv)).units = A.units + 3 := rfl
      omega
    refine ⟨_, pss_cons (ps_set (i := 4) sc_law_refused.nd rfl (Or.inl rfl) (ke_lst (pa_cons (pe_callTy (klistK (K := K)) (by rfl) T.z_list (by decide +kernel) (pa_cons (pv 1) pa_nil)) (pa_cons (pe_callTy (klistK (K := K)) (by rfl) T.z_list (by decide +kernel) (pa_cons (pv 3) pa_nil)) pa_nil))))
      (pss_cons (ps_try_as (i := 5) rfl rfl sc_law_refused.nd rfl rfl ⟨rfl, by decide, .inl T.x_BadStay.g⟩ takes0
        (fun W pn xe tk _ => pss_one (ps_expr (pe_cX c_housing (hr.mono (by first | decide | omega)) rfl (fun σ => passAt tk σ) (pa_cons (pe_ix (ixT (K := K)) (pv 0) pe_int (fun _ _ => rfl)) (pa_cons (pe_ix (ixL (K := K)) (pv 4) pe_int (fun _ _ => rfl)) (pa_cons (pv 2) (pa_cons (pe_ix (ixL (K := K)) (pv 4) pe_int (fun _ _ => rfl)) pa_nil)))))))
        (fun a oe cls d pn hz hf => (pss_if (p := cls = .ref T.C_BadStay ∧ d = none) fun hp => pss_one (ps_ret (pe_and (pe_cmpR op_eq (pe_callTy (kstrD (K := K) (show A.guards = some [] from gu) (show A.units + 3 + 100 < cLine by omega)) (by rfl) T.z_str (by decide +kernel) (pa_cons (pv 4) pa_nil))
          (pe_callTy (kstrD (K := K) (show A.guards = some [] from gu) (show A.units + 3 + 100 < cLine by omega)) (by rfl) T.z_str (by decide +kernel) (pa_cons (ke_lst (pa_cons (pe_callTy (klistK (K := K)) (by rfl) T.z_list (by decide +kernel) (pa_cons (pv 1) pa_nil)) (pa_cons (pe_callTy (klistK (K := K)) (by rfl) T.z_list (by decide +kernel) (pa_cons (pv 3) pa_nil)) pa_nil))) pa_nil)) (nomark _))
          (pe_and (pe_callB (call_isE T.ie_BadStay (show Zc (.ref T.C_BadStay) none oe from by rw [← hp.1, ← hp.2]; exact hz) hf) (by rfl) T.z_isinstance (by decide +kernel) (pa_cons (pv 5) (pa_cons (pe_glob (v := .ref T.C_ManydoorsError) (u := .ref T.C_ManydoorsError) rfl T.g_ManydoorsError rfl) pa_nil)))
          (pe_one (pe_not (pe_callB (call_isET T.ie_BadStay (show Zc (.ref T.C_BadStay) none oe from by rw [← hp.1, ← hp.2]; exact hz) hf) (by rfl) T.z_isinstance (by decide +kernel) (pa_cons (pv 5) (pa_cons (ke_tup (pa_cons (pe_glob (v := .ref T.C_BadDeed) (u := .ref T.C_BadDeed) rfl T.g_BadDeed rfl) (pa_cons (pe_glob (v := .ref T.C_BadHistory) (u := .ref T.C_BadHistory) rfl T.g_BadHistory rfl) (pa_cons (pe_glob (v := .ref T.C_BadLine) (u := .ref T.C_BadLine) rfl T.g_BadLine rfl) (pa_cons (pe_glob (v := .ref T.C_BadSetup) (u := .ref T.C_BadSetup) rfl T.g_BadSetup rfl) (pa_cons (pe_glob (v := .ref T.C_BadText) (u := .ref T.C_BadText) rfl T.g_BadText rfl) pa_nil)))))) pa_nil)))))))))))
      (pss_one (ps_ret pe_bl))), ?_⟩
    refine ⟨_, rfl, l, xs, rfl, .inl (SqL.of hl), fun u0 H1 hu0 k1 hu01 => ⟨_, rfl, g, _, rfl, .inl (SqL.of (k1.at hg nmem_nil)), fun u1 H2 hu1 k2 hu12 => ⟨(by show 2 ≤ sizeLine; decide), fun hh H3 hhh k3 hh3 => ?_⟩⟩⟩
    have k12 := k1.trans k2
    have k13 := k12.trans k3
    have hu03 := (k2.trans k3).at hu01 nmem_nil
    have hu13 := k3.at hu12 nmem_nil
    have hl3 := k13.at hl nmem_nil
    have hg3 := k13.at hg nmem_nil
    have rx3 := rx.kp k13
    have S3 := S.kp k13
    refine ⟨_, rfl, a, _, _, _, rfl, rfl, SqT.of S3.ha, rfl, _, rfl, hh, _, _, _, rfl, rfl, SqL.of hh3, rfl, _, rfl, _, rfl, hh, _, _, _, rfl, rfl, SqL.of hh3, rfl, r, u0, u1, su, ss, gv, night, rfl, so, S3.hr, ⟨xs, hu03, rx3⟩, hlen, ok, hu13, fl, fun good R H4 hR k4 => ?_, fun bad H4 k4 => ?_⟩
    · exact q false H4 (k13.trans k4) ⟨(fun z => nomatch z), fun z => absurd good z⟩
    · refine ⟨true, T.m_BadStay, fun _ e he => ⟨⟨rfl, rfl⟩, ?_⟩, fun z => nomatch z⟩
      have hh4 := k4.at hh3 nmem_nil
      have rep : ∀ {H' : Hp} {z c0 c1 : Addr}, H' z = some (.lst [.ref c0, .ref c1]) → StAt H' c0 ss → H' c1 = some (.lst gv) → Rep K H' (bothD ss gv) (.ref z) := fun hz h0 h1 =>
        Rep.lst (SqL.of hz) (Reps.cons (StAt.rep h0) (Reps.cons (Rep.lst (SqL.of h1) (reps_v fl)) Reps.nil))
      refine ⟨_, rfl, .ref hh, bothD ss gv, rfl, rep hh4 ⟨xs, k4.at hu03 nmem_nil, rx3.kp k4⟩ (k4.at hu13 nmem_nil), fit, ?_⟩
      refine ⟨_, rfl, l, xs, rfl, .inl (SqL.of (k4.at hl3 nmem_nil)), fun c0 H5 hc0 k5 hc05 => ⟨_, rfl, g, _, rfl, .inl (SqL.of (k5.at (k4.at hg3 nmem_nil) nmem_nil)), fun c1 H6 hc1 k6 hc16 => ⟨(by show 2 ≤ sizeLine; decide), fun z H7 hz k7 hz7 => ?_⟩⟩⟩
      have k47 := ((k4.trans k5).trans k6).trans k7
      refine ⟨.ref z, bothD ss gv, rfl, rep hz7 ⟨xs, (k6.trans k7).at hc05 nmem_nil, rx3.kp k47⟩ (k7.at hc16 nmem_nil), fit, rfl, _, rfl, ?_⟩
      rw [decide_eq_true rfl]
      refine iteT ?_
      refine ⟨_, rfl, _, _, true, rfl, (fun u h => h), T.ki_ManydoorsError, _, rfl, iteT ?_⟩
      refine ⟨_, rfl, (by show 5 ≤ sizeLine; decide), fun tp H8 htp k8 htp8 => ?_⟩
      refine ⟨tp, _, _, false, rfl, htp8, .cons (.own _) (.cons (.own _) (.cons (.own _) (.cons (.own _) (.cons (.own _) .nil)))), ?_, _, rfl, ?_⟩
      · exact kitAny_cons T.ki_BadDeed (fun _ => kitAny_cons T.ki_BadHistory (fun _ => kitAny_cons T.ki_BadLine (fun _ => kitAny_cons T.ki_BadSetup (fun _ => kitAny_cons T.ki_BadText (fun _ => rfl) (fun z => nomatch z)) (fun z => nomatch z)) (fun z => nomatch z)) (fun z => nomatch z)) (fun z => nomatch z)
      · exact q true H8 ((k13.trans k47).trans k8) ⟨fun _ => bad, fun _ => rfl⟩
end

end MD
namespace MD
open PySem PySem.Spec PyProof.Rows L2
local macro_rules | `(tactic| walk_at "ne") => `(tactic| first | assumption | (apply Ne.symm; assumption) | exact ne_of_none (by assumption) (by assumption) | exact (ne_of_none (by assumption) (by assumption)).symm)
local macro_rules | `(tactic| walk_at "hp") => `(tactic| first | assumption | exact upd_same | (refine (upd_ne ?_).trans ?_; (focus walk_at "ne"); walk_at "hp"))
local macro_rules | `(tactic| walk_at "nm") => `(tactic| first | exact nmem_nil | exact nmem_one (by walk_at "ne") | exact nmem_cons (by walk_at "ne") (by walk_at "nm"))
/-! ### the law -/
section
variable {P : Program} {w : World} {K : PySem.W.Frag} {mg : Str → Option Value} {base : Heap}
def spLaw (K : PySem.W.Frag) : Sp := fun vs H Q _ => ∃ (a : Addr) (ns : List Int), vs = [.ref a] ∧ SqL K H a (ns.map V.int) ∧ ns.length ≤ 63 ∧ ∀ H', Q (.bl true) H'
def kInsert : V → List V → Hp → VK → Prop := fun x vs H Q => ∃ l xs i y, x = .ref l ∧ vs = [.int i, y] ∧ H l = some (.lst xs) ∧ xs.length < sizeLine ∧ 0 ≤ i ∧ i < 2 ^ 63 ∧ Wr H l (.lst (xs.take i.toNat ++ [y] ++ xs.drop i.toNat)) (Q .non)
theorem mk_insert {X : Cx} : MtR X "list.insert" kInsert := mtI mt_insert fun x xs H Q ⟨l, ys, i, y, h1, h2, h3, h4, h5, h6, q⟩ => ⟨l, ys, i, y, h1, h2, h3, h4, h5, h6, q.old h3 trivial⟩
theorem RepTs.app {H : Hp} : ∀ {ds es : List D} {vs ws : List V}, RepTs H ds vs → RepTs H es ws → RepTs H (ds ++ es) (vs ++ ws)
  | [], es, vs, ws, h, r => by
    have := h.nilE; subst this
    exact r
  | d :: ds, es, vs, ws, h, r => by
    obtain ⟨v, q, rfl, h1, h2⟩ := h.consE
    exact RepTs.cons h1 (RepTs.app h2 r)
theorem RepTs.drop {H : Hp} : ∀ {ds : List D} {vs : List V} {i : Nat}, RepTs H ds vs → RepTs H (ds.drop i) (vs.drop i)
  | [], vs, i, h => by
    have := h.nilE; subst this
    rw [List.drop_nil, List.drop_nil]
    exact RepTs.nil
  | d :: ds, vs, 0, h => h
  | d :: ds, vs, i + 1, h => by
    obtain ⟨v, q, rfl, h1, h2⟩ := h.consE
    show RepTs H (ds.drop i) (q.drop i)
    exact RepTs.drop h2
theorem mem_ins {α : Type} {l : List α} {i : Nat} {x y : α} (h : x ∈ l.take i ++ [y] ++ l.drop i) : x ∈ l ∨ x = y := by
  rcases List.mem_append.mp h with h | h
  · rcases List.mem_append.mp h with h | h
    · exact .inl (List.mem_of_mem_take h)
    · exact .inr (List.mem_singleton.mp h)
  · exact .inl (List.mem_of_mem_drop h)
theorem len_ins {α : Type} {l : List α} {i : Nat} {y : α} : (l.take i ++ [y] ++ l.drop i).length = l.length + 1 := by
  rw [List.length_append, List.length_append, List.length_take, List.length_drop, List.length_singleton]
  omega
/-- the stays and rooms that the law tries -/
structure S6 (su : Su) (ss : List Sy) (gv : List V) (n : Nat) : Prop where
  ok : ∀ s ∈ ss, Sy.ok su s
  le : ss.length ≤ n
  eq : gv.length = ss.length
  fl : Flat3 gv
  vl : ∀ v ∈ gv, Vl v
theorem Ds.il_map {α : Type} {f : α → D} : ∀ {l : List α}, (∀ x ∈ l, (f x).Il) → Ds.Il (l.map f)
  | [], _ => trivial
  | a :: l, h => ⟨h a List.mem_cons_self, Ds.il_map fun x hx => h x (List.mem_cons_of_mem _ hx)⟩
theorem Ds.nz_map {α : Type} {f : α → D} {m : Nat} : ∀ {l : List α}, (∀ x ∈ l, (f x).nz ≤ m) → Ds.nz (l.map f) ≤ m * l.length
  | [], _ => Nat.zero_le _
  | a :: l, h => by
    have h1 := h a List.mem_cons_self
    have h2 := Ds.nz_map (f := f) (m := m) (l := l) fun x hx => h x (List.mem_cons_of_mem _ hx)
    show (f a).nz + Ds.nz (l.map f) ≤ m * (l.length + 1)
    rw [Nat.mul_add, Nat.mul_one]
    omega
theorem syD_il {su : Su} {s : Sy} (so : su.ok) (h : Sy.ok su s) : (syD s).Il := by
  have := h.k0; have := h.k1; have := h.f0; have := h.fe; have := h.e1; have := so.n12; have := so.r3
  have v : ∀ i : Int, 0 ≤ i → i ≤ 100 → Vl (.int i) := fun i a b => by show i.natAbs < 10 ^ 12; omega
  exact ⟨v _ (by omega) (by omega), v _ (by omega) (by omega), v _ (by omega) (by omega), trivial⟩
theorem dep_all {n : Nat} : ∀ {ds : List D}, (∀ d ∈ ds, d.py.depth ≤ n) → PyData.depthAll (Ds.py ds) ≤ n
  | [], _ => Nat.zero_le _
  | d :: ds, h => by
    show max (PyData.depth d.py) (PyData.depthAll (Ds.py ds)) ≤ n
    exact Nat.max_le.mpr ⟨h d List.mem_cons_self, dep_all fun x hx => h x (List.mem_cons_of_mem _ hx)⟩
theorem D.dep_sq {l : Bool} {ds : List D} {n : Nat} (h : ∀ d ∈ ds, d.py.depth ≤ n) : (D.sq l ds).py.depth ≤ n + 1 := by
  have := dep_all h
  cases l with
  | true =>
    show PyData.depthAll (Ds.py ds) + 1 ≤ n + 1
    omega
  | false =>
    show PyData.depthAll (Ds.py ds) + 1 ≤ n + 1
    omega
theorem dep_v {v : V} (h : Vl v) : (D.v v).py.depth = 0 := by
  cases v with
  | non => rfl
  | bl b => rfl
  | int i => rfl
  | _ => exact h.elim
theorem both_fit {su : Su} {ss : List Sy} {gv : List V} (so : su.ok) (ok : ∀ s ∈ ss, Sy.ok su s) (vl : ∀ v ∈ gv, Vl v) (h1 : ss.length ≤ 60) (h2 : gv.length ≤ 60) : (bothD ss gv).Fit := by
  have i1 : Ds.Il (ss.map syD) := Ds.il_map fun s hs => syD_il so (ok s hs)
  have i2 : Ds.Il (gv.map D.v) := Ds.il_map fun v hv => vl v hv
  have n1 : Ds.nz (ss.map syD) ≤ 4 * ss.length := Ds.nz_map fun s hs => Nat.le_refl 4
  have n2 : Ds.nz (gv.map D.v) ≤ 1 * gv.length := Ds.nz_map fun v hv => Nat.le_refl 1
  refine D.fit ⟨i1, i2, trivial⟩ ?_ ?_
  · show (Ds.nz (ss.map syD) + 1) + ((Ds.nz (gv.map D.v) + 1) + 0) + 1 ≤ 20000
    omega
  · refine Nat.le_trans (D.dep_sq (n := 2) fun d hd => ?_) (by decide)
    rcases List.mem_cons.mp hd with rfl | hd
    · refine D.dep_sq (n := 1) fun d hd => ?_
      obtain ⟨s, hs, rfl⟩ := List.mem_map.mp hd
      have b := syD_il so (ok s hs)
      refine D.dep_sq (n := 0) fun d hd => ?_
      have : d = .v (.int s.1) ∨ d = .v (.int s.2.1) ∨ d = .v (.int s.2.2) := by simpa [intD, syI] using hd
      rcases this with rfl | rfl | rfl <;> exact Nat.le_refl _
    rcases List.mem_cons.mp hd with rfl | hd
    · refine Nat.le_trans (D.dep_sq (n := 0) fun d hd => ?_) (by decide)
      obtain ⟨v, hv, rfl⟩ := List.mem_map.mp hd
      exact Nat.le_of_eq (dep_v (vl v hv))
    · cases hd
theorem S6.ins {su : Su} {ss : List Sy} {gv : List V} {n : Nat} (h : S6 su ss gv n) {s : Sy} {v : V} (hs : Sy.ok su s) (hv : v = .non ∨ (∃ i, v = .int i) ∨ ∃ b, v = .bl b) (hl : Vl v) (i : Nat) :
    S6 su (ss.take i ++ [s] ++ ss.drop i) (gv.take i ++ [v] ++ gv.drop i) (n + 1) := by
  have h1 := h.le
  refine ⟨fun x hx => ?_, by rw [len_ins]; omega, by rw [len_ins, len_ins, h.eq], fun x hx => ?_, fun x hx => ?_⟩
  · rcases mem_ins hx with z | z
    · exact h.ok x z
    · rw [z]; exact hs
  · rcases mem_ins hx with z | z
    · exact h.fl x z
    · rw [z]; exact hv
  · rcases mem_ins hx with z | z
    · exact h.vl x z
    · rw [z]; exact hl
theorem S6.set {su : Su} {ss : List Sy} {gv : List V} {n : Nat} (h : S6 su ss gv n) {v : V} (hv : v = .non ∨ (∃ i, v = .int i) ∨ ∃ b, v = .bl b) (hl : Vl v) (i : Nat) : S6 su ss (gv.set i v) n := by
  refine ⟨h.ok, h.le, by rw [List.length_set, h.eq], fun x hx => ?_, fun x hx => ?_⟩
  · rcases List.mem_or_eq_of_mem_set hx with z | z
    · exact h.fl x z
    · rw [z]; exact hv
  · rcases List.mem_or_eq_of_mem_set hx with z | z
    · exact h.vl x z
    · rw [z]; exact hl
theorem S6.mono {su : Su} {ss : List Sy} {gv : List V} {n m : Nat} (h : S6 su ss gv n) (hm : n ≤ m) : S6 su ss gv m := ⟨h.ok, Nat.le_trans h.le hm, h.eq, h.fl, h.vl⟩
theorem flat_nil_snoc {gv : List V} (fl : Flat3 gv) : Flat3 (gv ++ [.non]) := fun v hv => by
  rcases List.mem_append.mp hv with z | z
  · exact fl v z
  · rw [List.mem_singleton.mp z]; exact .inl rfl
theorem ok_law {f : Addr} {fd : FuncData} (F : L2.Fun K "law" "law" s_law f fd) (T : Txt K mg) : FnG P w K mg base CX0 20 f fd ["script"] (spLaw K) := by
  have c_law_numbers := c_law_numbers (P := P) (w := w) (base := base) T
  have c_law_draw := c_law_draw (P := P) (w := w) (base := base) T
  have c_law_setup := c_law_setup (P := P) (w := w) (base := base) T
  have c_law_stays := c_law_stays (P := P) (w := w) (base := base) T
  have c_law_given := c_law_given (P := P) (w := w) (base := base) T
  have c_law_refused := c_law_refused (P := P) (w := w) (base := base) T
  have c_law_good := c_law_good (P := P) (w := w) (base := base) T
  refine fnG_of F sc_law (fun vs H Q E h => ?_) (fun cdv Ar outer s H vs Q E hr gu h => ?_)
  · obtain ⟨a, ns, rfl, _⟩ := h; rfl
  · obtain ⟨a0, ns, rfl, hS, hlen, q⟩ := h
    refine ⟨_, (pss_cons (ps_set (i := 1) sc_law.nd rfl (Or.inl rfl) (ke_lst (pa_cons (pe_c c_law_numbers (hr.mono (by first | decide | omega)) rfl (pa_cons (pv 0) pa_nil)) (pa_cons pe_int pa_nil))))
  (pss_cons (ps_set (i := 2) sc_law.nd rfl (Or.inl rfl) (pe_c c_law_setup (hr.mono (by first | decide | omega)) rfl (pa_cons (pv 1) pa_nil)))
  (pss_cons (ps_set (i := 3) sc_law.nd rfl (Or.inl rfl) (pe_c c_law_stays (hr.mono (by first | decide | omega)) rfl (pa_cons (pv 1) (pa_cons (pv 2) (pa_cons (pe_op op_add pe_int (pe_op op_mod (pe_c c_law_draw (hr.mono (by first | decide | omega)) rfl (pa_cons (pv 1) pa_nil)) pe_int)) pa_nil)))))
  (pss_cons (ps_set (i := 4) sc_law.nd rfl (Or.inl rfl) (pe_op op_sub (pe_op op_mod (pe_c c_law_draw (hr.mono (by first | decide | omega)) rfl (pa_cons (pv 1) pa_nil)) (pe_op op_add (pe_ix (ixT (K := K)) (pv 2) pe_int (fun _ _ => rfl)) pe_int)) pe_int))
  (pss_cons (ps_set (i := 5) sc_law.nd rfl (Or.inl rfl) (pe_c c_law_given (hr.mono (by first | decide | omega)) rfl (pa_cons (pv 1) (pa_cons (pv 2) (pa_cons (pv 3) (pa_cons (pv 4) pa_nil))))))
  (pss_cons (ps_set (i := 6) sc_law.nd rfl (Or.inl rfl) (pe_op op_mod (pe_c c_law_draw (hr.mono (by first | decide | omega)) rfl (pa_cons (pv 1) pa_nil)) pe_int))
  (pss_cons (ps_set (i := 7) sc_law.nd rfl (Or.inl rfl) (pe_op op_mod (pe_c c_law_draw (hr.mono (by first | decide | omega)) rfl (pa_cons (pv 1) pa_nil)) (pe_callB (call_max2 rfl) (by rfl) T.z_max (by decide +kernel) (pa_cons pe_int (pa_cons (pe_callB (lenK (K := K)) (by rfl) T.z_len (by decide +kernel) (pa_cons (pv 3) pa_nil)) pa_nil)))))
  (C8.pss_cut (ps_if (pt_cmpR op_eq (pv 6) pe_int (nomark _))
  (pss_cons (ps_set (i := 8) sc_law.nd rfl (Or.inl rfl) (pe_op op_mod (pe_c c_law_draw (hr.mono (by first | decide | omega)) rfl (pa_cons (pv 1) pa_nil)) (pe_callB (lenK (K := K)) (by rfl) T.z_len (by decide +kernel) (pa_cons (pe_ix (ixT (K := K)) (pv 2) pe_int (fun _ _ => rfl)) pa_nil))))
  (pss_cons (ps_set (i := 9) sc_law.nd rfl (Or.inl rfl) (pe_op op_mod (pe_c c_law_draw (hr.mono (by first | decide | omega)) rfl (pa_cons (pv 1) pa_nil)) (pe_ix (ixT (K := K)) (pv 2) pe_int (fun _ _ => rfl))))
  (pss_one (ps_for PassesOwn.never rfl (pi_range1 (by rfl) T.z_range (pa_cons (pe_op op_add pe_int (pe_op op_mod (pe_c c_law_draw (hr.mono (by first | decide | omega)) rfl (pa_cons (pv 1) pa_nil)) pe_int)) pa_nil)) (pg_name (i := 10) sc_law.nd rfl (Or.inl rfl))
  (pss_cons (ps_set (i := 11) sc_law.nd rfl (Or.inl rfl) (pe_op op_mod (pe_c c_law_draw (hr.mono (by first | decide | omega)) rfl (pa_cons (pv 1) pa_nil)) (pe_op op_add (pe_callB (lenK (K := K)) (by rfl) T.z_len (by decide +kernel) (pa_cons (pv 3) pa_nil)) pe_int)))
  (pss_cons (ps_expr (pe_bm PySem.F.plainAttrs_list PySem.F.slot_list_insert PySem.F.type_list_insert mk_insert (pv 3) (pa_cons (pv 11) (pa_cons (ke_tup (pa_cons (pv 8) (pa_cons (pv 9) (pa_cons (pe_op op_add (pv 9) pe_int) pa_nil)))) pa_nil))))
  (pss_one (ps_expr (pe_bm PySem.F.plainAttrs_list PySem.F.slot_list_insert PySem.F.type_list_insert mk_insert (pv 5) (pa_cons (pv 11) (pa_cons (pe_ix (ixL (K := K)) (ke_lst (pa_cons pe_non (pa_cons (pe_op op_mod (pv 10) (pe_callB (call_max2 rfl) (by rfl) T.z_max (by decide +kernel) (pa_cons pe_int (pa_cons (pe_ix (ixT (K := K)) (pe_ix (ixT (K := K)) (pv 2) pe_int (fun _ _ => rfl)) (pv 8) (fun _ _ => rfl)) pa_nil)))) pa_nil))) (pe_callTy call_int1 (by rfl) T.z_int (by decide +kernel) (pa_cons (pe_cmpR op_le (pv 9) (pv 4) (nomark _)) pa_nil)) (fun _ _ => rfl)) pa_nil)))))))))))
  (pss_one (ps_if (PW.pt (pw_and (pt_cmpR op_eq (pv 6) pe_int (nomark _)) (pw_and (pt_cmpR op_gt (pe_callB (lenK (K := K)) (by rfl) T.z_len (by decide +kernel) (pa_cons (pv 3) pa_nil)) pe_int (nomark _)) (pw_and1 (pt_cmpR op_notN (pe_ix (ixL (K := K)) (pv 5) (pv 7) (fun _ _ => rfl)) pe_non (nomark _))))))
  (pss_one (ps_asg (pe_ix (ixL (K := K)) (ke_lst (pa_cons (pe_un un_neg pe_int) (pa_cons (pe_ix (ixT (K := K)) (pe_ix (ixT (K := K)) (pv 2) pe_int (fun _ _ => rfl)) (pe_ix (ixT (K := K)) (pe_ix (ixL (K := K)) (pv 3) (pv 7) (fun _ _ => rfl)) pe_int (fun _ _ => rfl)) (fun _ _ => rfl)) (pa_cons pe_non (pa_cons pe_int (pa_cons (pe_op op_mod (pe_c c_law_draw (hr.mono (by first | decide | omega)) rfl (pa_cons (pv 1) pa_nil)) pe_int) (pa_cons pe_bl (pa_cons pe_bl pa_nil)))))))) (pe_op op_mod (pe_c c_law_draw (hr.mono (by first | decide | omega)) rfl (pa_cons (pv 1) pa_nil)) pe_int) (fun _ _ => rfl)) (pg_sub (pv 5) (pv 7) kset_list)))
  (pss_one (ps_if (PW.pt (pw_and (pt_cmpR op_eq (pv 6) pe_int (nomark _)) (pw_and (pt_cmpR op_gt (pe_callB (lenK (K := K)) (by rfl) T.z_len (by decide +kernel) (pa_cons (pv 3) pa_nil)) pe_int (nomark _)) (pw_and1 (pt_cmpR op_isN (pe_ix (ixL (K := K)) (pv 5) (pv 7) (fun _ _ => rfl)) pe_non (nomark _))))))
  (pss_one (ps_asg (pe_op op_mod (pe_c c_law_draw (hr.mono (by first | decide | omega)) rfl (pa_cons (pv 1) pa_nil)) pe_int) (pg_sub (pv 5) (pv 7) kset_list)))
  (pss_one (ps_if (PW.pt (pw_and (pt_cmpR op_eq (pv 6) pe_int (nomark _)) (pw_and1 (pt_cmpR op_gt (pe_callB (lenK (K := K)) (by rfl) T.z_len (by decide +kernel) (pa_cons (pv 3) pa_nil)) pe_int (nomark _)))))
  (pss_one (ps_asg (pe_ix (ixL (K := K)) (pv 5) (pe_op op_mod (pe_c c_law_draw (hr.mono (by first | decide | omega)) rfl (pa_cons (pv 1) pa_nil)) (pe_callB (lenK (K := K)) (by rfl) T.z_len (by decide +kernel) (pa_cons (pv 3) pa_nil))) (fun _ _ => rfl)) (pg_sub (pv 5) (pv 7) kset_list)))
  pss_nil)))))))
  (pss_cons (ps_if (PW.pt (pw_or (pt_not (pt_val (pe_cG c_law_refused (hr.mono (by first | decide | omega)) gu rfl (pa_cons (pv 2) (pa_cons (pv 3) (pa_cons (pv 4) (pa_cons (pe_op kcat (pv 5) (ke_lst (pa_cons pe_non pa_nil))) pa_nil))))))) (pw_or1 (pt_not (pt_val (pe_cG c_law_refused (hr.mono (by first | decide | omega)) gu rfl (pa_cons (pv 2) (pa_cons (pe_op kcat (pv 3) (ke_lst (pa_cons (ke_tup (pa_cons pe_int (pa_cons pe_int (pa_cons pe_int pa_nil)))) pa_nil))) (pa_cons (pv 4) (pa_cons (pv 5) pa_nil))))))))))
  (pss_one (ps_ret pe_bl))
  pss_nil)
  (pss_one (ps_ret (pe_cmpR op_ne (pe_cG c_law_refused (hr.mono (by first | decide | omega)) gu rfl (pa_cons (pv 2) (pa_cons (pv 3) (pa_cons (pv 4) (pa_cons (pv 5) pa_nil))))) (pe_c c_law_good (hr.mono (by first | decide | omega)) rfl (pa_cons (pv 2) (pa_cons (pv 3) (pa_cons (pv 4) (pa_cons (pv 5) pa_nil))))) (nomark _))))))))))))), ?_⟩
    refine ⟨_, rfl, a0, ns, rfl, hS, hlen, fun n H1 ms hn k1 hn1 rg hl => ⟨(by show 2 ≤ sizeLine; decide), fun d H2 hd k2 hd2 => ?_⟩⟩
    have D2 : DrawsAt H2 d n ms 0 := ⟨hd2, k2.at hn1 nmem_nil, rg, Int.le_refl _⟩
    refine ⟨_, rfl, d, n, ms, 0, rfl, D2, fun a r pr su k3' H3 so k3 D3 S3 => ?_⟩
    refine ⟨_, rfl, _, rfl, _, rfl, d, n, ms, k3', rfl, D3, fun r1 H4 r10 r11 k4 D4 => ?_⟩
    have m1 := md r1 20 (by decide)
    refine ⟨_, _, rfl, rfl, (by show (0 : Int) < 20; decide), _, _, rfl, rfl, d, n, ms, _, a, r, pr, su, _, rfl, D4, S3.kp k4, so, by omega, by omega, fun l ss k5' H5 hl5 k5 D5 st5 ok fits hsl => ?_⟩
    have S5 := (S3.kp k4).kp k5
    have ld : l ≠ d := (ne_of_none D4.hd hl5).symm
    have hn1' := so.n1
    have hsl : ss.length ≤ 20 := by omega
    refine ⟨_, rfl, d, n, ms, k5', rfl, D5, fun r2 H6 r20 r21 k6 D6 => ?_⟩
    have S6' := S5.kp k6
    refine ⟨_, rfl, a, _, _, _, rfl, rfl, SqT.of S6'.ha, rfl, _, _, rfl, rfl, _, _, rfl, rfl, (by show (0 : Int) < su.nights + 1; omega), _, _, rfl, rfl, ?_⟩
    show gName 4 (V.int (r2 % (su.nights + 1) - 1)) _ _ _
    generalize r2 % (su.nights + 1) - 1 = night
    obtain ⟨xs, hx6, rx6⟩ := st5.kp k6 (nmem_one ld)
    have hxl : xs.length = ss.length := rx6.lenM
    refine ⟨_, rfl, _, rfl, _, rfl, _, rfl, d, n, ms, _, a, r, pr, l, su, ss, night, rfl, D6, S6', so, ⟨xs, hx6, rx6⟩, ld, by omega, ok, fits, fun g rm k7' H7 hg k7 D7 hg7 ro come => ?_⟩
    have S7 := S6'.kp k7
    have hx7 := k7.at hx6 (nmem_one ld)
    have rx7 := rx6.kp k7
    have gd : g ≠ d := (ne_of_none D6.hd hg).symm
    have gl : g ≠ l := (ne_of_none hx6 hg).symm
    have gnn : g ≠ n := (ne_of_none D6.hn hg).symm
    have ln : l ≠ n := (ne_of_none D4.hn hl5).symm
    refine ⟨_, rfl, d, n, ms, k7', rfl, D7, fun r3 H8 r30 r31 k8 D8 => ⟨_, _, rfl, rfl, (by show (0 : Int) < 5; decide), ?_⟩⟩
    show gName 6 (V.int (r3 % 5)) _ _ _
    have m3 := md r3 5 (by decide)
    generalize r3 % 5 = pick at m3 ⊢
    have g8 := k8.at hg7 (nmem_one gd)
    have hx8 := k8.at hx7 (nmem_one ld)
    refine ⟨_, rfl, d, n, ms, _, rfl, D8, fun r4 H9 r40 r41 k9 D9 => ⟨_, rfl, l, xs, rfl, .inl (SqL.of (k9.at hx8 (nmem_one ld))), _, _, rfl, _, _, rfl, rfl, (by show (0 : Int) < if (xs.length : Int) > 1 then (xs.length : Int) else 1; split <;> omega), ?_⟩⟩
    show gName 7 (V.int (r4 % (if (xs.length : Int) > 1 then (xs.length : Int) else 1))) _ _ _
    obtain ⟨mx, hmx⟩ : ∃ mx : Int, mx = if (xs.length : Int) > 1 then (xs.length : Int) else 1 := ⟨_, rfl⟩
    rw [← hmx]
    have hmx' : 0 < mx ∧ (0 < xs.length → mx = xs.length) := by
      rw [hmx]
      split <;> omega
    have hat0 := Int.emod_nonneg r4 (show mx ≠ 0 by omega)
    have hat1 := Int.emod_lt_of_pos r4 hmx'.1
    generalize r4 % mx = at' at hat0 hat1 ⊢
    have hx9 := k9.at hx8 (nmem_one ld)
    have g9 := k9.at g8 (nmem_one gd)
    have S9 := (S7.kp k8).kp k9
    have rx9 := (rx7.kp k8).kp k9
    have s6 : S6 su ss (rm.map odV) 20 := ⟨ok, hsl, by rw [List.length_map, ro.len], fun v hv => by
        obtain ⟨x, _, rfl⟩ := List.mem_map.mp hv
        cases x with
        | none => exact .inl rfl
        | some v => exact .inr (.inl ⟨v, rfl⟩), fun v hv => by
        obtain ⟨i, hi⟩ := List.mem_iff_getElem?.mp hv
        rw [List.getElem?_map] at hi
        cases e : rm[i]? with
        | none => rw [e] at hi; cases hi
        | some x =>
          rw [e] at hi; cases hi
          cases x with
          | none => trivial
          | some v =>
            have hil := (List.getElem?_eq_some_iff.mp e).1
            obtain ⟨b1, b2⟩ := ro.rg i v (by rw [← ro.len]; exact hil) (gR_of e)
            have o3 := ok _ (gS_mem (show i < ss.length by rw [← ro.len]; exact hil))
            obtain ⟨c0, c4⟩ := cap_rg so o3.k0 o3.k1
            show v.natAbs < 10 ^ 12
            omega⟩
    clear ro come fits hsl
    generalize rm.map odV = gv at *
    refine ⟨fun σ H' => ∃ (k8 k9 k10 k11 : Option V) (ss' : List Sy) (gv' : List V), σ = [some (.ref a0), some (.ref d), some (.ref a), some (.ref l), some (.int night), some (.ref g), some (.int pick), some (.int at'), k8, k9, k10, k11] ∧ SuAt H' a r pr su ∧ StAt H' l ss' ∧ H' g = some (.lst gv') ∧ S6 su ss' gv' 23, ?_, ?_⟩
    · refine ⟨_, rfl, rfl, _, rfl, ?_⟩
      by_cases hp0 : V.int pick = V.int 0
      · refine iteTe (decide_eq_true hp0) ?_
        have hrl : ((su.rooms.map V.int).length : Int) = su.rooms.length := by rw [List.length_map]
        have hr1 := so.r1
        refine ⟨_, rfl, d, n, ms, _, rfl, D9, fun r5 H10 r50 r51 k10 D10 => ?_⟩
        have S10 := S9.kp k10
        refine ⟨_, rfl, a, _, _, _, rfl, rfl, SqT.of S10.ha, rfl, r, _, rfl, .inr (SqT.of S10.hr), _, _, rfl, rfl, (by rw [hrl]; omega), ?_⟩
        have m5 := md r5 (su.rooms.length : Int) (by omega)
        show gName 8 (V.int (r5 % ((su.rooms.map V.int).length : Int))) _ _ _
        rw [hrl]
        generalize r5 % (su.rooms.length : Int) = kind at m5 ⊢
        refine ⟨_, rfl, d, n, ms, _, rfl, D10, fun r6 H11 r60 r61 k11 D11 => ?_⟩
        have S11 := S10.kp k11
        refine ⟨_, rfl, a, _, _, _, rfl, rfl, SqT.of S11.ha, rfl, _, _, rfl, rfl, (by show (0 : Int) < su.nights; omega), ?_⟩
        have m6 := md r6 su.nights (by omega)
        show gName 9 (V.int (r6 % su.nights)) _ _ _
        generalize r6 % su.nights = first at m6 ⊢
        refine ⟨_, rfl, d, n, ms, _, rfl, D11, fun r7 H12 r70 r71 k12 D12 => ?_⟩
        have m7 := md r7 3 (by decide)
        have hx12 := k12.at (k11.at (k10.at hx9 (nmem_one ld)) (nmem_one ld)) (nmem_one ld)
        have g12 := k12.at (k11.at (k10.at g9 (nmem_one gd)) (nmem_one gd)) (nmem_one gd)
        have rx12 := ((rx9.kp k10).kp k11).kp k12
        have S12 := S11.kp k12
        refine ⟨_, _, rfl, rfl, (by show (0 : Int) < 3; decide), _, _, rfl, rfl, _, rfl, ?_⟩
        have cap := cap_rg so m5.1 m5.2
        refine ⟨by omega, by omega, for_range (n := (1 + r7 % 3).toNat) (fun i σ H' => ∃ (k10 k11 : Option V) (ss' : List Sy) (gv' : List V) (kd : Int), σ = [some (.ref a0), some (.ref d), some (.ref a), some (.ref l), some (.int night), some (.ref g), some (.int pick), some (.int at'), some (.int kind), some (.int first), k10, k11] ∧ SuAt H' a r pr su ∧ DrawsAt H' d n ms kd ∧ StAt H' l ss' ∧ H' g = some (.lst gv') ∧ S6 su ss' gv' (20 + i))
          ⟨_, _, ss, gv, _, rfl, S12, D12, ⟨xs, hx12, rx12⟩, g12, s6⟩ ?_ ?_⟩
        · rintro i σ H13 hi ⟨k10, k11, ss', gv', kd, rfl, S13, D13, ⟨xs', hx13, rx13⟩, g13, s6'⟩
          have e0 : (0 : Int) + (i : Int) = i := by omega
          rw [e0]
          have hxl' : xs'.length = ss'.length := rx13.lenM
          have s6e := s6'.eq
          have s6l := s6'.le
          refine ⟨_, rfl, d, n, ms, _, rfl, D13, fun r8 H14 r80 r81 k14 D14 => ?_⟩
          have hx14 := k14.at hx13 (nmem_one ld)
          have g14 := k14.at g13 (nmem_one gd)
          have rx14 := rx13.kp k14
          have S14 := S13.kp k14
          refine ⟨_, rfl, l, _, rfl, .inl (SqL.of hx14), _, _, rfl, rfl, _, _, rfl, rfl, (by show (0 : Int) < (xs'.length : Int) + 1; omega), ?_⟩
          have m8 := md r8 ((xs'.length : Int) + 1) (by omega)
          show gName 11 (V.int (r8 % ((xs'.length : Int) + 1))) _ _ _
          generalize r8 % ((xs'.length : Int) + 1) = spot at m8 ⊢
          refine ⟨_, rfl, .inl ⟨rfl, _, SqL.of hx14⟩, _, rfl, _, rfl, _, rfl, _, rfl, _, _, rfl, rfl, (by show 3 ≤ sizeLine; decide), fun t H15 ht k15 ht15 => ?_⟩
          have hx15 := k15.at hx14 nmem_nil
          refine ⟨l, xs', spot, _, rfl, rfl, hx15, sz (show xs'.length ≤ 100 by omega), m8.1, by omega, fun H16 k16 h16 => ?_⟩
          have g16 := k16.at (k15.at g14 nmem_nil) (nmem_one gl)
          have ht16 := k16.tup _ _ ht15
          have rx16 := (rx14.kp k15).kp k16
          have S16 := (S14.kp k15).kp k16
          have D16 := (D14.kp0 k15).put k16 ld.symm ln.symm
          have cat := cap_at S16 m5.1 m5.2
          have o1 : Sy.ok su (kind, first, first + 1) := ⟨m5.1, m5.2, m6.1, by show first < first + 1; omega, by show first + 1 ≤ su.nights; omega⟩
          refine ⟨_, rfl, .inl ⟨rfl, _, SqL.of g16⟩, _, rfl, _, rfl, _, rfl, a, _, _, _, rfl, rfl, SqT.of S16.ha, rfl, _, rfl, r, _, _, _, rfl, rfl, SqT.of S16.hr, cat, _, _, rfl, _, _, rfl, rfl, (by show (0 : Int) < if capK su kind > 1 then capK su kind else 1; split <;> omega), (by show 2 ≤ sizeLine; decide), fun L H17 hL k17 hL17 => ?_⟩
          have g17 := k17.at g16 nmem_nil
          obtain ⟨mz, hmz⟩ : ∃ mz : Int, mz = if capK su kind > 1 then capK su kind else 1 := ⟨_, rfl⟩
          have hL17' : H17 L = some (.lst [.non, .int ((i : Int) % mz)]) := by rw [hmz]; exact hL17
          have hmz' : 0 < mz ∧ mz ≤ 4 := by rw [hmz]; split <;> omega
          have mi := md (i : Int) mz hmz'.1
          generalize (i : Int) % mz = room at hL17' mi
          have fin : ∀ (v : V) (H18 : Hp), (v = .non ∨ ∃ i, v = .int i) → Vl v → Kp [g] H17 H18 → H18 g = some (.lst (gv'.take spot.toNat ++ [v] ++ gv'.drop spot.toNat)) →
              ∃ (k10 k11 : Option V) (ss' : List Sy) (gv' : List V) (kd : Int), [some (V.ref a0), some (.ref d), some (.ref a), some (.ref l), some (.int night), some (.ref g), some (.int pick), some (.int at'), some (.int kind), some (.int first), some (.int (i : Int)), some (.int spot)] = [some (.ref a0), some (.ref d), some (.ref a), some (.ref l), some (.int night), some (.ref g), some (.int pick), some (.int at'), some (.int kind), some (.int first), k10, k11] ∧ SuAt H18 a r pr su ∧ DrawsAt H18 d n ms kd ∧ StAt H18 l ss' ∧ H18 g = some (.lst gv') ∧ S6 su ss' gv' (20 + (i + 1)) := fun v H18 hv hvl k18 g18 => by
            refine ⟨_, _, ss'.take spot.toNat ++ [(kind, first, first + 1)] ++ ss'.drop spot.toNat, _, _, rfl, (S16.kp k17).kp k18, (D16.kp0 k17).put k18 gd.symm gnn.symm, ⟨_, k18.at (k17.at h16 nmem_nil) (nmem_one gl.symm), ?_⟩, g18, s6'.ins o1 (hv.elim .inl fun z => .inr (.inl z)) hvl _⟩
            have rt : RepTs H16 [syD (kind, first, first + 1)] [.ref t] := RepTs.cons (syD_of ht16) RepTs.nil
            have rr := RepTs.app (RepTs.app (RepTs.take (i := spot.toNat) rx16) rt) (RepTs.drop (i := spot.toNat) rx16)
            rw [List.map_append, List.map_append, List.map_take, List.map_drop]
            exact (rr.kp k17).kp k18
          refine ⟨_, rfl, _, rfl, _, _, rfl, rfl, .inr ⟨_, rfl, ?_⟩⟩
          by_cases hfn : first ≤ night
          · rw [decide_eq_true hfn]
            refine ⟨L, _, _, _, rfl, rfl, SqL.of hL17', rfl, g, gv', spot, _, rfl, rfl, g17, sz (show gv'.length ≤ 100 by omega), m8.1, by omega, fun H18 k18 g18 => fin _ H18 (.inr ⟨_, rfl⟩) ?_ k18 g18⟩
            show room.natAbs < 10 ^ 12
            omega
          · rw [decide_eq_false hfn]
            exact ⟨L, _, _, _, rfl, rfl, SqL.of hL17', rfl, g, gv', spot, _, rfl, rfl, g17, sz (show gv'.length ≤ 100 by omega), m8.1, by omega, fun H18 k18 g18 => fin _ H18 (.inl rfl) trivial k18 g18⟩
        · rintro σ H13 ⟨k10, k11, ss', gv', kd, rfl, S13, D13, st13, g13, s6'⟩
          exact ⟨_, _, _, _, ss', gv', rfl, S13, st13, g13, s6'.mono (by omega)⟩
      · refine iteFe (decide_eq_false hp0) ?_
        have s6e := s6.eq
        have nxt : ∃ (k8 k9 k10 k11 : Option V) (ss' : List Sy) (gv' : List V), [some (V.ref a0), some (.ref d), some (.ref a), some (.ref l), some (.int night), some (.ref g), some (.int pick), some (.int at'), none, none, none, none] = [some (.ref a0), some (.ref d), some (.ref a), some (.ref l), some (.int night), some (.ref g), some (.int pick), some (.int at'), k8, k9, k10, k11] ∧ SuAt H9 a r pr su ∧ StAt H9 l ss' ∧ H9 g = some (.lst gv') ∧ S6 su ss' gv' 23 :=
          ⟨_, _, _, _, ss, gv, rfl, S9, ⟨xs, hx9, rx9⟩, g9, s6.mono (by decide)⟩
        have pt : ∀ (v : V) (H18 : Hp) (M : List Addr), (v = .non ∨ (∃ i, v = .int i) ∨ ∃ b, v = .bl b) → Vl v → Kp M H9 H18 → l ∉ M → H18 g = some (.lst (gv.set at'.toNat v)) →
            ∃ (k8 k9 k10 k11 : Option V) (ss' : List Sy) (gv' : List V), [some (V.ref a0), some (.ref d), some (.ref a), some (.ref l), some (.int night), some (.ref g), some (.int pick), some (.int at'), none, none, none, none] = [some (.ref a0), some (.ref d), some (.ref a), some (.ref l), some (.int night), some (.ref g), some (.int pick), some (.int at'), k8, k9, k10, k11] ∧ SuAt H18 a r pr su ∧ StAt H18 l ss' ∧ H18 g = some (.lst gv') ∧ S6 su ss' gv' 23 := fun v H18 M hv hvl k18 lM g18 =>
          ⟨_, _, _, _, ss, _, rfl, S9.kp k18, ⟨xs, k18.at hx9 lM, rx9.kp k18⟩, g18, (s6.set hv hvl _).mono (by decide)⟩
        have hatl : 0 < xs.length → at' < xs.length := fun z => by have := hmx'.2 z; omega
        have hgl : gv.length = xs.length := by omega
        have gat : 0 < xs.length → ∃ v, gv[at'.toNat]? = some v ∧ atI gv at' = some v ∧ ixN gv.length at' = some at'.toNat := fun z => by
          have := hatl z
          have e : gv[at'.toNat]? = some (gv[at'.toNat]'(by omega)) := by simp [show at'.toNat < gv.length by omega]
          refine ⟨_, e, at_of hat0 e, ?_⟩
          have := ixN_nat (n := gv.length) (k := at'.toNat) (by omega)
          rw [Int.toNat_of_nonneg hat0] at this
          exact this
        by_cases hp1 : pick = 1
        · subst hp1
          have out : (∃ (k8 k9 k10 k11 : Option V) (ss' : List Sy) (gv' : List V), [some (V.ref a0), some (.ref d), some (.ref a), some (.ref l), some (.int night), some (.ref g), some (.int 1), some (.int at'), none, none, none, none] = [some (.ref a0), some (.ref d), some (.ref a), some (.ref l), some (.int night), some (.ref g), some (.int 1), some (.int at'), k8, k9, k10, k11] ∧ SuAt H9 a r pr su ∧ StAt H9 l ss' ∧ H9 g = some (.lst gv') ∧ S6 su ss' gv' 23) := nxt
          refine ⟨_, rfl, rfl, _, rfl, iteTe (by simp) ?_⟩
          refine ⟨_, rfl, l, xs, rfl, .inl (SqL.of hx9), _, _, rfl, rfl, _, rfl, ?_⟩
          by_cases hz : (0 : Int) < (xs.length : Int)
          · refine iteTe (decide_eq_true hz) ?_
            have hz : 0 < xs.length := by omega
            obtain ⟨v, gv1, gv2, gv3⟩ := gat hz
            refine ⟨_, rfl, _, rfl, g, _, _, _, rfl, rfl, SqL.of g9, gv2, rfl, _, rfl, ?_⟩
            by_cases hv : v = .non
            · refine iteFe (by rw [decide_eq_true hv]; rfl) ?_
              refine ⟨_, rfl, rfl, _, rfl, iteFe (by simp) ?_⟩
              refine iteF ⟨_, rfl, rfl, _, rfl, iteFe (by simp) ?_⟩
              exact iteF nxt
            · refine iteTe (by rw [decide_eq_false hv]; rfl) ?_
              have hai : at'.toNat < ss.length := by have := hatl hz; omega
              obtain ⟨y, y1, y2⟩ := StAt.at (l := l) rx9 hai
              have y1 := at_of hat0 y1
              have oy := ok _ (gS_mem hai)
              obtain ⟨c0, c4⟩ := cap_rg so oy.k0 oy.k1
              refine ⟨_, rfl, _, rfl, a, _, _, _, rfl, rfl, SqT.of S9.ha, rfl, _, rfl, _, rfl, l, _, _, _, rfl, rfl, SqL.of hx9, y1, y, _, _, _, rfl, rfl, SqT.of y2, rfl, r, _, _, _, rfl, rfl, SqT.of S9.hr, cap_at S9 oy.k0 oy.k1, ?_⟩
              refine ⟨_, rfl, d, n, ms, _, rfl, D9, fun r5 H10 r50 r51 k10 D10 => ?_⟩
              have m5 := md r5 4 (by decide)
              refine ⟨_, _, rfl, rfl, (by show (0 : Int) < 4; decide), (by show 7 ≤ sizeLine; decide), fun L H11 hL k11 hL11 => ?_⟩
              refine ⟨_, rfl, d, n, ms, _, rfl, D10.kp0 k11, fun r6 H12 r60 r61 k12 D12 => ?_⟩
              have m6 := md r6 7 (by decide)
              have dL : d ≠ L := ne_of_none D10.hd hL
              obtain ⟨li, hli⟩ : ∃ li : List V, li = [.int (-1), .int (capK su (gS ss at'.toNat).1), .non, .int 99, .int (r5 % 4), .bl true, .bl false] := ⟨_, rfl⟩
              have hL12 : H12 L = some (.lst li) := by rw [hli]; exact k12.at hL11 (nmem_one dL.symm)
              have e : li[(r6 % 7).toNat]? = some (li[(r6 % 7).toNat]'(by rw [hli]; show _ < 7; omega)) := by simp
              have em := List.mem_of_getElem? e
              generalize li[(r6 % 7).toNat]'(by rw [hli]; show _ < 7; omega) = v5 at e em
              have hvl : (v5 = .non ∨ (∃ i, v5 = .int i) ∨ ∃ b, v5 = .bl b) ∧ Vl v5 := by
                rw [hli] at em
                have vn : ∀ i : Int, -1 ≤ i → i ≤ 100 → Vl (.int i) := fun i a b => by show i.natAbs < 10 ^ 12; omega
                simp only [List.mem_cons, List.not_mem_nil, or_false] at em
                rcases em with rfl | rfl | rfl | rfl | rfl | rfl | rfl
                · exact ⟨.inr (.inl ⟨_, rfl⟩), vn _ (by omega) (by omega)⟩
                · exact ⟨.inr (.inl ⟨_, rfl⟩), vn _ (by omega) (by omega)⟩
                · exact ⟨.inl rfl, trivial⟩
                · exact ⟨.inr (.inl ⟨_, rfl⟩), vn _ (by omega) (by omega)⟩
                · exact ⟨.inr (.inl ⟨_, rfl⟩), vn _ (by omega) (by omega)⟩
                · exact ⟨.inr (.inr ⟨_, rfl⟩), trivial⟩
                · exact ⟨.inr (.inr ⟨_, rfl⟩), trivial⟩
              have k9c : Kp [d] H9 H12 := (k10.th0 k11).trans k12
              exact ⟨_, _, rfl, rfl, (by show (0 : Int) < 7; decide), L, _, _, _, rfl, rfl, SqL.of hL12, at_of m6.1 e, _, rfl, _, rfl, g, _, _, _, rfl, rfl, k9c.at g9 (nmem_one gd), gv3, fun H13 k13 g13 => pt _ H13 [d, g] hvl.1 hvl.2 ((k9c.mono (by simp)).trans (k13.mono (by simp))) (by simp [ld, gl.symm]) g13⟩
          · refine iteFe (decide_eq_false hz) ?_
            refine iteF ?_
            refine ⟨_, rfl, rfl, _, rfl, iteFe (by simp) ?_⟩
            refine iteF ⟨_, rfl, rfl, _, rfl, iteFe (by simp) ?_⟩
            exact iteF nxt
        have e1 : decide (V.int pick = V.int 1) = false := by rw [decV]; exact decide_eq_false hp1
        refine ⟨_, rfl, rfl, _, rfl, iteFe e1 ?_⟩
        refine iteF ?_
        by_cases hp2 : pick = 2
        · subst hp2
          refine ⟨_, rfl, rfl, _, rfl, iteTe (by simp) ?_⟩
          refine ⟨_, rfl, l, xs, rfl, .inl (SqL.of hx9), _, _, rfl, rfl, _, rfl, ?_⟩
          by_cases hz : (0 : Int) < (xs.length : Int)
          · refine iteTe (decide_eq_true hz) ?_
            have hz : 0 < xs.length := by omega
            obtain ⟨v, gv1, gv2, gv3⟩ := gat hz
            refine ⟨_, rfl, _, rfl, g, _, _, _, rfl, rfl, SqL.of g9, gv2, rfl, _, rfl, ?_⟩
            by_cases hv : v = .non
            · refine iteTe (decide_eq_true hv) ?_
              refine ⟨_, rfl, d, n, ms, _, rfl, D9, fun r5 H10 r50 r51 k10 D10 => ?_⟩
              have m5 := md r5 4 (by decide)
              refine ⟨_, _, rfl, rfl, (by show (0 : Int) < 4; decide), _, rfl, _, rfl, g, _, _, _, rfl, rfl, k10.at g9 (nmem_one gd), gv3, fun H11 k11 g11 => pt _ H11 [d, g] (.inr (.inl ⟨_, rfl⟩)) ?_ ((k10.mono (by simp)).trans (k11.mono (by simp))) (by simp [ld, gl.symm]) g11⟩
              show (r5 % 4).natAbs < 10 ^ 12
              omega
            · refine iteFe (decide_eq_false hv) ?_
              refine ⟨_, rfl, rfl, _, rfl, iteFe (by simp) ?_⟩
              exact iteF nxt
          · refine iteFe (decide_eq_false hz) ?_
            refine iteF ?_
            refine ⟨_, rfl, rfl, _, rfl, iteFe (by simp) ?_⟩
            exact iteF nxt
        have e2 : decide (V.int pick = V.int 2) = false := by rw [decV]; exact decide_eq_false hp2
        refine ⟨_, rfl, rfl, _, rfl, iteFe e2 ?_⟩
        refine iteF ?_
        by_cases hp3 : pick = 3
        · subst hp3
          refine ⟨_, rfl, rfl, _, rfl, iteTe (by simp) ?_⟩
          refine ⟨_, rfl, l, xs, rfl, .inl (SqL.of hx9), _, _, rfl, rfl, _, rfl, ?_⟩
          by_cases hz : (1 : Int) < (xs.length : Int)
          · refine iteTe (decide_eq_true hz) ?_
            have hz : 0 < xs.length := by omega
            obtain ⟨_, _, _, gv3⟩ := gat hz
            refine ⟨_, rfl, _, rfl, d, n, ms, _, rfl, D9, fun r5 H10 r50 r51 k10 D10 => ?_⟩
            have m5 := md r5 (xs.length : Int) (by omega)
            have g10 := k10.at g9 (nmem_one gd)
            have e : gv[(r5 % (xs.length : Int)).toNat]? = some (gv[(r5 % (xs.length : Int)).toNat]'(by omega)) := by simp [show (r5 % (xs.length : Int)).toNat < gv.length by omega]
            have em := List.mem_of_getElem? e
            generalize gv[(r5 % (xs.length : Int)).toNat]'(by omega) = v at e em
            exact ⟨_, rfl, l, xs, rfl, .inl (SqL.of (k10.at hx9 (nmem_one ld))), _, _, rfl, rfl, (by omega), g, _, _, _, rfl, rfl, SqL.of g10, at_of m5.1 e, _, rfl, _, rfl, g, _, _, _, rfl, rfl, g10, gv3, fun H11 k11 g11 => pt _ H11 [d, g] (s6.fl v em) (s6.vl v em) ((k10.mono (by simp)).trans (k11.mono (by simp))) (by simp [ld, gl.symm]) g11⟩
          · exact iteFe (decide_eq_false hz) nxt
        have e3 : decide (V.int pick = V.int 3) = false := by rw [decV]; exact decide_eq_false hp3
        refine ⟨_, rfl, rfl, _, rfl, iteFe e3 ?_⟩
        exact iteF nxt
    rintro σ HA ⟨k8', k9', k10', k11', ss', gv', rfl, SA, ⟨xs', hxA, rxA⟩, gA, s6A⟩
    have s6l := s6A.le
    have s6e := s6A.eq
    have hxl' : xs'.length = ss'.length := rxA.lenM
    refine ⟨_, rfl, _, rfl, _, rfl, _, rfl, (by show 1 ≤ sizeLine; decide), fun u H1' hu k1' hu1 => ?_⟩
    refine ⟨g, u, gv', _, rfl, rfl, k1'.at gA nmem_nil, hu1, Nat.le_of_lt (sz (show gv'.length + 1 ≤ 100 by omega)), fun z H2' hz k2' hz2 => ?_⟩
    have k02 := k1'.trans k2'
    refine ⟨a, r, pr, l, z, su, ss', gv' ++ [.non], night, rfl, SA.kp k02, so, ⟨xs', k02.at hxA nmem_nil, rxA.kp k02⟩, by omega, s6A.ok, hz2, flat_nil_snoc s6A.fl, both_fit so s6A.ok (fun v hv => ?_) (by omega) (by rw [List.length_append, List.length_singleton]; omega), fun b H3' k3' hb => ?_⟩
    · rcases List.mem_append.mp hv with z | z
      · exact s6A.vl v z
      · rw [List.mem_singleton.mp z]; trivial
    have eb : b = true := hb.mpr fun z => by
      have := z.2.len
      rw [List.length_append, List.length_singleton] at this
      omega
    subst eb
    clear hb
    refine ⟨_, rfl, ?_⟩
    refine iteF ?_
    have hx3 := (k02.trans k3').at hxA nmem_nil
    have k03 := k02.trans k3'
    refine ⟨_, rfl, _, rfl, (by show 3 ≤ sizeLine; decide), fun t H4' ht k4' ht4 => ⟨(by show 1 ≤ sizeLine; decide), fun u2 H5' hu2 k5' hu25 => ?_⟩⟩
    have k35 := k4'.trans k5'
    refine ⟨l, u2, xs', _, rfl, rfl, k35.at hx3 nmem_nil, hu25, Nat.le_of_lt (sz (show xs'.length + 1 ≤ 100 by omega)), fun z2 H6' hz2' k6' hz26 => ?_⟩
    have k36 := k35.trans k6'
    have k06 := k03.trans k36
    have hr1 := so.r1
    have hn1 := so.n1
    have o1 : Sy.ok su (0, 0, 1) := ⟨Int.le_refl _, by show (0 : Int) < su.rooms.length; omega, Int.le_refl _, by decide, hn1⟩
    have okA : ∀ s ∈ ss' ++ [(0, 0, 1)], Sy.ok su s := fun s hs => by
      rcases List.mem_append.mp hs with z | z
      · exact s6A.ok s z
      · rw [List.mem_singleton.mp z]; exact o1
    have rt : RepTs H4' [syD (0, 0, 1)] [.ref t] := RepTs.cons (syD_of ht4) RepTs.nil
    have rr := RepTs.app ((rxA.kp k03).kp (k4'.trans (k5'.trans k6'))) (rt.kp (k5'.trans k6'))
    refine ⟨_, rfl, _, rfl, a, r, pr, z2, g, su, ss' ++ [(0, 0, 1)], gv', night, rfl, SA.kp k06, so, ⟨_, hz26, by rw [List.map_append]; exact rr⟩, by rw [List.length_append, List.length_singleton]; omega, okA, k06.at gA nmem_nil, s6A.fl, both_fit so okA s6A.vl (by rw [List.length_append, List.length_singleton]; omega) (by omega), fun b H7' k7'' hb => ?_⟩
    have eb : b = true := hb.mpr fun z => by
      have := z.2.len
      rw [List.length_append, List.length_singleton] at this
      omega
    subst eb
    clear hb
    refine ⟨_, rfl, ?_⟩
    refine iteF ?_
    have k07 := k06.trans k7''
    refine ⟨_, rfl, _, rfl, _, rfl, _, rfl, a, r, pr, l, g, su, ss', gv', night, rfl, SA.kp k07, so, ⟨xs', k07.at hxA nmem_nil, rxA.kp k07⟩, by omega, s6A.ok, k07.at gA nmem_nil, s6A.fl, both_fit so s6A.ok s6A.vl (by omega) (by omega), fun b H8' k8'' hb => ?_⟩
    have k08 := k07.trans k8''
    refine ⟨_, rfl, _, rfl, _, rfl, _, rfl, a, r, pr, l, g, su, ss', gv', night, rfl, SA.kp k08, so, ⟨xs', k08.at hxA nmem_nil, rxA.kp k08⟩, by omega, s6A.ok, k08.at gA nmem_nil, s6A.fl, s6e, fun b2 H9' k9'' hb2 => ⟨rfl, ?_⟩⟩
    have e : (!decide (V.bl b = V.bl b2)) = true := by
      have hn : b ≠ b2 := fun z => by
        subst z
        by_cases g : Fits su ss' ∧ GivV su ss' gv' night
        · exact hb.mp (hb2.mpr g) g
        · exact g (hb2.mp (hb.mpr g))
      cases b <;> cases b2 <;> first | exact absurd rfl hn | rfl
    show Q (V.bl (!decide (V.bl b = V.bl b2))) H9'
    rw [e]
    exact q _
end

end MD
namespace MD
open PySem PySem.Spec PyProof.Rows L2
theorem all_mk {l : PySem.W.OpenLaw} {w : World} {K : PySem.W.Frag} {h : Heap} {mg : Str → Option Value} {fa f0 f1 f2 f3 f4 f5 f6 f7 f8 f9 f10 f11 f12 f13 f14 f15 f16 f17 f18 f19 f20 f21 f22 C_BadStay C_ManydoorsError C_BadDeed C_BadHistory C_BadLine C_BadSetup C_BadText : Addr} (X : K.In h) (G : h.Ns mainGlobals mg) (hfa : mg "law" = some (.ref fa))
    {od0 an0 od1 an1 od2 an2 od3 an3 od4 an4 od5 an5 od6 an6 od7 an7 od8 an8 od9 an9 od10 an10 od11 an11 od12 an12 od13 an13 od14 an14 od15 an15 od16 an16 od17 an17 od18 an18 od19 an19 od20 an20 od21 an21 od22 an22 : Option Addr} {sl0 sl1 sl2 sl3 sl4 sl5 sl6 sl7 sl8 sl9 sl10 sl11 sl12 sl13 sl14 sl15 sl16 sl17 sl18 sl19 sl20 sl21 sl22 : Array (Option Value)} {oc0 kV0 dc0 pm0 cd0 ct0 oc1 kV1 dc1 pm1 cd1 ct1 oc2 kV2 dc2 pm2 cd2 ct2 oc3 kV3 dc3 pm3 cd3 ct3 oc4 kV4 dc4 pm4 cd4 ct4 oc5 kV5 dc5 pm5 cd5 ct5 oc6 kV6 dc6 pm6 cd6 ct6 oc7 kV7 dc7 pm7 cd7 ct7 oc8 kV8 dc8 pm8 cd8 ct8 oc9 kV9 dc9 pm9 cd9 ct9 oc10 kV10 dc10 pm10 cd10 ct10 oc11 kV11 dc11 pm11 cd11 ct11 oc12 kV12 dc12 pm12 cd12 ct12 oc13 kV13 dc13 pm13 cd13 ct13 oc14 kV14 dc14 pm14 cd14 ct14 oc15 kV15 dc15 pm15 cd15 ct15 oc16 kV16 dc16 pm16 cd16 ct16 oc17 kV17 dc17 pm17 cd17 ct17 oc18 kV18 dc18 pm18 cd18 ct18 oc19 kV19 dc19 pm19 cd19 ct19 oc20 kV20 dc20 pm20 cd20 ct20 oc21 kV21 dc21 pm21 cd21 ct21 oc22 kV22 dc22 pm22 cd22 ct22 : Value}
    (aC_BadStay : PySem.W.nsIn K mainGlobals "BadStay" = some (some (.ref C_BadStay)))
    (aC_ManydoorsError : PySem.W.nsIn K mainGlobals "ManydoorsError" = some (some (.ref C_ManydoorsError)))
    (aC_BadDeed : PySem.W.nsIn K mainGlobals "BadDeed" = some (some (.ref C_BadDeed)))
    (aC_BadHistory : PySem.W.nsIn K mainGlobals "BadHistory" = some (some (.ref C_BadHistory)))
    (aC_BadLine : PySem.W.nsIn K mainGlobals "BadLine" = some (some (.ref C_BadLine)))
    (aC_BadSetup : PySem.W.nsIn K mainGlobals "BadSetup" = some (some (.ref C_BadSetup)))
    (aC_BadText : PySem.W.nsIn K mainGlobals "BadText" = some (some (.ref C_BadText)))
    (a0 : PySem.W.nsIn K mainGlobals "is_count" = some (some (.ref f0)))
    (l0 : K.lookup f0 = some ⟨oc0, od0, .func (PySem.W.fnOf "is_count" "is_count" (defArgs s_is_count) (defBody s_is_count) (defScope s_is_count) .none kV0 dc0 pm0 an0 cd0 ct0), sl0⟩)
    (c0 : PySem.W.codeIn K cd0 "is_count" = true)
    (k0 : PySem.W.keepIn K (.ref f0) = true)
    (a1 : PySem.W.nsIn K mainGlobals "is_between" = some (some (.ref f1)))
    (l1 : K.lookup f1 = some ⟨oc1, od1, .func (PySem.W.fnOf "is_between" "is_between" (defArgs s_is_between) (defBody s_is_between) (defScope s_is_between) .none kV1 dc1 pm1 an1 cd1 ct1), sl1⟩)
    (c1 : PySem.W.codeIn K cd1 "is_between" = true)
    (k1 : PySem.W.keepIn K (.ref f1) = true)
    (a2 : PySem.W.nsIn K mainGlobals "needs_of" = some (some (.ref f2)))
    (l2 : K.lookup f2 = some ⟨oc2, od2, .func (PySem.W.fnOf "needs_of" "needs_of" (defArgs s_needs_of) (defBody s_needs_of) (defScope s_needs_of) .none kV2 dc2 pm2 an2 cd2 ct2), sl2⟩)
    (c2 : PySem.W.codeIn K cd2 "needs_of" = true)
    (k2 : PySem.W.keepIn K (.ref f2) = true)
    (a3 : PySem.W.nsIn K mainGlobals "housing" = some (some (.ref f3)))
    (l3 : K.lookup f3 = some ⟨oc3, od3, .func (PySem.W.fnOf "housing" "housing" (defArgs s_housing) (defBody s_housing) (defScope s_housing) .none kV3 dc3 pm3 an3 cd3 ct3), sl3⟩)
    (c3 : PySem.W.codeIn K cd3 "housing" = true)
    (k3 : PySem.W.keepIn K (.ref f3) = true)
    (a4 : PySem.W.nsIn K mainGlobals "check_enough_rooms" = some (some (.ref f4)))
    (l4 : K.lookup f4 = some ⟨oc4, od4, .func (PySem.W.fnOf "check_enough_rooms" "check_enough_rooms" (defArgs s_check_enough_rooms) (defBody s_check_enough_rooms) (defScope s_check_enough_rooms) .none kV4 dc4 pm4 an4 cd4 ct4), sl4⟩)
    (c4 : PySem.W.codeIn K cd4 "check_enough_rooms" = true)
    (k4 : PySem.W.keepIn K (.ref f4) = true)
    (a5 : PySem.W.nsIn K mainGlobals "check_given" = some (some (.ref f5)))
    (l5 : K.lookup f5 = some ⟨oc5, od5, .func (PySem.W.fnOf "check_given" "check_given" (defArgs s_check_given) (defBody s_check_given) (defScope s_check_given) .none kV5 dc5 pm5 an5 cd5 ct5), sl5⟩)
    (c5 : PySem.W.codeIn K cd5 "check_given" = true)
    (k5 : PySem.W.keepIn K (.ref f5) = true)
    (a6 : PySem.W.nsIn K mainGlobals "least_room" = some (some (.ref f6)))
    (l6 : K.lookup f6 = some ⟨oc6, od6, .func (PySem.W.fnOf "least_room" "least_room" (defArgs s_least_room) (defBody s_least_room) (defScope s_least_room) .none kV6 dc6 pm6 an6 cd6 ct6), sl6⟩)
    (c6 : PySem.W.codeIn K cd6 "least_room" = true)
    (k6 : PySem.W.keepIn K (.ref f6) = true)
    (a7 : PySem.W.nsIn K mainGlobals "rooms_beside" = some (some (.ref f7)))
    (l7 : K.lookup f7 = some ⟨oc7, od7, .func (PySem.W.fnOf "rooms_beside" "rooms_beside" (defArgs s_rooms_beside) (defBody s_rooms_beside) (defScope s_rooms_beside) .none kV7 dc7 pm7 an7 cd7 ct7), sl7⟩)
    (c7 : PySem.W.codeIn K cd7 "rooms_beside" = true)
    (k7 : PySem.W.keepIn K (.ref f7) = true)
    (a8 : PySem.W.nsIn K mainGlobals "do_meet" = some (some (.ref f8)))
    (l8 : K.lookup f8 = some ⟨oc8, od8, .func (PySem.W.fnOf "do_meet" "do_meet" (defArgs s_do_meet) (defBody s_do_meet) (defScope s_do_meet) .none kV8 dc8 pm8 an8 cd8 ct8), sl8⟩)
    (c8 : PySem.W.codeIn K cd8 "do_meet" = true)
    (k8 : PySem.W.keepIn K (.ref f8) = true)
    (a9 : PySem.W.nsIn K mainGlobals "rooms_of" = some (some (.ref f9)))
    (l9 : K.lookup f9 = some ⟨oc9, od9, .func (PySem.W.fnOf "rooms_of" "rooms_of" (defArgs s_rooms_of) (defBody s_rooms_of) (defScope s_rooms_of) .none kV9 dc9 pm9 an9 cd9 ct9), sl9⟩)
    (c9 : PySem.W.codeIn K cd9 "rooms_of" = true)
    (k9 : PySem.W.keepIn K (.ref f9) = true)
    (a10 : PySem.W.nsIn K mainGlobals "_law_mixed" = some (some (.ref f10)))
    (l10 : K.lookup f10 = some ⟨oc10, od10, .func (PySem.W.fnOf "_law_mixed" "_law_mixed" (defArgs s_law_mixed) (defBody s_law_mixed) (defScope s_law_mixed) .none kV10 dc10 pm10 an10 cd10 ct10), sl10⟩)
    (c10 : PySem.W.codeIn K cd10 "_law_mixed" = true)
    (k10 : PySem.W.keepIn K (.ref f10) = true)
    (a11 : PySem.W.nsIn K mainGlobals "_law_numbers" = some (some (.ref f11)))
    (l11 : K.lookup f11 = some ⟨oc11, od11, .func (PySem.W.fnOf "_law_numbers" "_law_numbers" (defArgs s_law_numbers) (defBody s_law_numbers) (defScope s_law_numbers) .none kV11 dc11 pm11 an11 cd11 ct11), sl11⟩)
    (c11 : PySem.W.codeIn K cd11 "_law_numbers" = true)
    (k11 : PySem.W.keepIn K (.ref f11) = true)
    (a12 : PySem.W.nsIn K mainGlobals "_law_draw" = some (some (.ref f12)))
    (l12 : K.lookup f12 = some ⟨oc12, od12, .func (PySem.W.fnOf "_law_draw" "_law_draw" (defArgs s_law_draw) (defBody s_law_draw) (defScope s_law_draw) .none kV12 dc12 pm12 an12 cd12 ct12), sl12⟩)
    (c12 : PySem.W.codeIn K cd12 "_law_draw" = true)
    (k12 : PySem.W.keepIn K (.ref f12) = true)
    (a13 : PySem.W.nsIn K mainGlobals "_law_setup" = some (some (.ref f13)))
    (l13 : K.lookup f13 = some ⟨oc13, od13, .func (PySem.W.fnOf "_law_setup" "_law_setup" (defArgs s_law_setup) (defBody s_law_setup) (defScope s_law_setup) .none kV13 dc13 pm13 an13 cd13 ct13), sl13⟩)
    (c13 : PySem.W.codeIn K cd13 "_law_setup" = true)
    (k13 : PySem.W.keepIn K (.ref f13) = true)
    (a14 : PySem.W.nsIn K mainGlobals "_law_stay" = some (some (.ref f14)))
    (l14 : K.lookup f14 = some ⟨oc14, od14, .func (PySem.W.fnOf "_law_stay" "_law_stay" (defArgs s_law_stay) (defBody s_law_stay) (defScope s_law_stay) .none kV14 dc14 pm14 an14 cd14 ct14), sl14⟩)
    (c14 : PySem.W.codeIn K cd14 "_law_stay" = true)
    (k14 : PySem.W.keepIn K (.ref f14) = true)
    (a15 : PySem.W.nsIn K mainGlobals "_law_meet" = some (some (.ref f15)))
    (l15 : K.lookup f15 = some ⟨oc15, od15, .func (PySem.W.fnOf "_law_meet" "_law_meet" (defArgs s_law_meet) (defBody s_law_meet) (defScope s_law_meet) .none kV15 dc15 pm15 an15 cd15 ct15), sl15⟩)
    (c15 : PySem.W.codeIn K cd15 "_law_meet" = true)
    (k15 : PySem.W.keepIn K (.ref f15) = true)
    (a16 : PySem.W.nsIn K mainGlobals "_law_stays" = some (some (.ref f16)))
    (l16 : K.lookup f16 = some ⟨oc16, od16, .func (PySem.W.fnOf "_law_stays" "_law_stays" (defArgs s_law_stays) (defBody s_law_stays) (defScope s_law_stays) .none kV16 dc16 pm16 an16 cd16 ct16), sl16⟩)
    (c16 : PySem.W.codeIn K cd16 "_law_stays" = true)
    (k16 : PySem.W.keepIn K (.ref f16) = true)
    (a17 : PySem.W.nsIn K mainGlobals "_law_fits" = some (some (.ref f17)))
    (l17 : K.lookup f17 = some ⟨oc17, od17, .func (PySem.W.fnOf "_law_fits" "_law_fits" (defArgs s_law_fits) (defBody s_law_fits) (defScope s_law_fits) .none kV17 dc17 pm17 an17 cd17 ct17), sl17⟩)
    (c17 : PySem.W.codeIn K cd17 "_law_fits" = true)
    (k17 : PySem.W.keepIn K (.ref f17) = true)
    (a18 : PySem.W.nsIn K mainGlobals "_law_order" = some (some (.ref f18)))
    (l18 : K.lookup f18 = some ⟨oc18, od18, .func (PySem.W.fnOf "_law_order" "_law_order" (defArgs s_law_order) (defBody s_law_order) (defScope s_law_order) .none kV18 dc18 pm18 an18 cd18 ct18), sl18⟩)
    (c18 : PySem.W.codeIn K cd18 "_law_order" = true)
    (k18 : PySem.W.keepIn K (.ref f18) = true)
    (a19 : PySem.W.nsIn K mainGlobals "_law_given" = some (some (.ref f19)))
    (l19 : K.lookup f19 = some ⟨oc19, od19, .func (PySem.W.fnOf "_law_given" "_law_given" (defArgs s_law_given) (defBody s_law_given) (defScope s_law_given) .none kV19 dc19 pm19 an19 cd19 ct19), sl19⟩)
    (c19 : PySem.W.codeIn K cd19 "_law_given" = true)
    (k19 : PySem.W.keepIn K (.ref f19) = true)
    (a20 : PySem.W.nsIn K mainGlobals "_law_good" = some (some (.ref f20)))
    (l20 : K.lookup f20 = some ⟨oc20, od20, .func (PySem.W.fnOf "_law_good" "_law_good" (defArgs s_law_good) (defBody s_law_good) (defScope s_law_good) .none kV20 dc20 pm20 an20 cd20 ct20), sl20⟩)
    (c20 : PySem.W.codeIn K cd20 "_law_good" = true)
    (k20 : PySem.W.keepIn K (.ref f20) = true)
    (a21 : PySem.W.nsIn K mainGlobals "_law_refused" = some (some (.ref f21)))
    (l21 : K.lookup f21 = some ⟨oc21, od21, .func (PySem.W.fnOf "_law_refused" "_law_refused" (defArgs s_law_refused) (defBody s_law_refused) (defScope s_law_refused) .none kV21 dc21 pm21 an21 cd21 ct21), sl21⟩)
    (c21 : PySem.W.codeIn K cd21 "_law_refused" = true)
    (k21 : PySem.W.keepIn K (.ref f21) = true)
    (a22 : PySem.W.nsIn K mainGlobals "law" = some (some (.ref f22)))
    (l22 : K.lookup f22 = some ⟨oc22, od22, .func (PySem.W.fnOf "law" "law" (defArgs s_law) (defBody s_law) (defScope s_law) .none kV22 dc22 pm22 an22 cd22 ct22), sl22⟩)
    (c22 : PySem.W.codeIn K cd22 "law" = true)
    (k22 : PySem.W.keepIn K (.ref f22) = true)
    (xe_BadStay : PySem.W.excIn K C_BadStay [.type "ValueError", .type "Exception", .type "BaseException", .type "object"] "ValueError.__new__" = true)
    (xk_BadStay : PySem.W.keepIn K (.ref C_BadStay) = true)
    (xb_BadStay : PySem.W.subIn K (.ref C_BadStay) (.type "BaseException") = some true)
    (xt_BadStay : PySem.W.typeIn K (.ref C_BadStay) = some (.type "type"))
    (xi_BadStay : PySem.W.isClsIn K C_BadStay = true)
    (xs_BadStay : PySem.W.subIn K (.ref C_BadStay) (.ref C_BadStay) = some true)
    (ki_ManydoorsError : PySem.W.kitOne K (.ref C_BadStay) (.ref C_ManydoorsError) = some true)
    (ki_BadDeed : PySem.W.kitOne K (.ref C_BadStay) (.ref C_BadDeed) = some false)
    (ki_BadHistory : PySem.W.kitOne K (.ref C_BadStay) (.ref C_BadHistory) = some false)
    (ki_BadLine : PySem.W.kitOne K (.ref C_BadStay) (.ref C_BadLine) = some false)
    (ki_BadSetup : PySem.W.kitOne K (.ref C_BadStay) (.ref C_BadSetup) = some false)
    (ki_BadText : PySem.W.kitOne K (.ref C_BadStay) (.ref C_BadText) = some false)
    (iehg_BadStay : PySem.W.findIn K (.ref C_BadStay) "__getattribute__" = some (some (.builtin "BaseException.__getattribute__")))
    (iehk_BadStay : PySem.W.findIn K (.ref C_BadStay) "__getattr__" = some none)
    (iehs_BadStay : PySem.W.subIn K (.ref C_BadStay) (.type "BaseException") = some true)
    (iehd_BadStay : PySem.W.hasDictIn K C_BadStay = true)
    (ieha_BadStay : PySem.W.findIn K (.ref C_BadStay) "__class__" = some (some (.builtin "object.__class__")))
    (iehn_BadStay : PySem.W.specialIn K (.builtin "object.__class__") "__get__" = some (some (.builtin "getset_descriptor.__get__")))
    (ieht_BadStay : PySem.W.takesIn K (.builtin "object.__class__") = some true)
    (iehm_BadStay : PySem.W.mroIn K C_BadStay (.type "object") = some true)
    (z_bool : PySem.W.nsIn K mainGlobals "bool" = some none)
    (z_enumerate : PySem.W.nsIn K mainGlobals "enumerate" = some none)
    (z_int : PySem.W.nsIn K mainGlobals "int" = some none)
    (z_isinstance : PySem.W.nsIn K mainGlobals "isinstance" = some none)
    (z_len : PySem.W.nsIn K mainGlobals "len" = some none)
    (z_list : PySem.W.nsIn K mainGlobals "list" = some none)
    (z_max : PySem.W.nsIn K mainGlobals "max" = some none)
    (z_min : PySem.W.nsIn K mainGlobals "min" = some none)
    (z_range : PySem.W.nsIn K mainGlobals "range" = some none)
    (z_sorted : PySem.W.nsIn K mainGlobals "sorted" = some none)
    (z_str : PySem.W.nsIn K mainGlobals "str" = some none)
    (z_tuple : PySem.W.nsIn K mainGlobals "tuple" = some none)
    : ∃ fd : FuncData, (∀ (s : Shared) (v : Value), BindsTo s fd ⟨[v], []⟩ [("script", v)]) ∧ ∀ base : Heap, K.In base → base.Ns mainGlobals mg → FnG l.prog w K mg base CX0 20 fa fd ["script"] (spLaw K) := by
  have e := hfa.symm.trans (PySem.W.mg_of X G a22)
  cases e
  have F0 := fun_mk (st := s_is_count) l0 c0 k0
  have b0 := F0.binds (ps := ["value"]) fun _ _ _ _ _ _ us hl => match us, hl with | [_], _ => rfl
  have F1 := fun_mk (st := s_is_between) l1 c1 k1
  have b1 := F1.binds (ps := ["value", "least", "most"]) fun _ _ _ _ _ _ us hl => match us, hl with | [_, _, _], _ => rfl
  have F2 := fun_mk (st := s_needs_of) l2 c2 k2
  have b2 := F2.binds (ps := ["party"]) fun _ _ _ _ _ _ us hl => match us, hl with | [_], _ => rfl
  have F3 := fun_mk (st := s_housing) l3 c3 k3
  have b3 := F3.binds (ps := ["rooms", "stays", "night", "given"]) fun _ _ _ _ _ _ us hl => match us, hl with | [_, _, _, _], _ => rfl
  have F4 := fun_mk (st := s_check_enough_rooms) l4 c4 k4
  have b4 := F4.binds (ps := ["rooms", "stays"]) fun _ _ _ _ _ _ us hl => match us, hl with | [_, _], _ => rfl
  have F5 := fun_mk (st := s_check_given) l5 c5 k5
  have b5 := F5.binds (ps := ["rooms", "stays", "night", "given"]) fun _ _ _ _ _ _ us hl => match us, hl with | [_, _, _, _], _ => rfl
  have F6 := fun_mk (st := s_least_room) l6 c6 k6
  have b6 := F6.binds (ps := ["stays", "housed", "index"]) fun _ _ _ _ _ _ us hl => match us, hl with | [_, _, _], _ => rfl
  have F7 := fun_mk (st := s_rooms_beside) l7 c7 k7
  have b7 := F7.binds (ps := ["stays", "housed", "stay"]) fun _ _ _ _ _ _ us hl => match us, hl with | [_, _, _], _ => rfl
  have F8 := fun_mk (st := s_do_meet) l8 c8 k8
  have b8 := F8.binds (ps := ["stay", "other"]) fun _ _ _ _ _ _ us hl => match us, hl with | [_, _], _ => rfl
  have F9 := fun_mk (st := s_rooms_of) l9 c9 k9
  have b9 := F9.binds (ps := ["rooms", "kind"]) fun _ _ _ _ _ _ us hl => match us, hl with | [_, _], _ => rfl
  have F10 := fun_mk (st := s_law_mixed) l10 c10 k10
  have b10 := F10.binds (ps := ["number", "k"]) fun _ _ _ _ _ _ us hl => match us, hl with | [_, _], _ => rfl
  have F11 := fun_mk (st := s_law_numbers) l11 c11 k11
  have b11 := F11.binds (ps := ["script"]) fun _ _ _ _ _ _ us hl => match us, hl with | [_], _ => rfl
  have F12 := fun_mk (st := s_law_draw) l12 c12 k12
  have b12 := F12.binds (ps := ["draws"]) fun _ _ _ _ _ _ us hl => match us, hl with | [_], _ => rfl
  have F13 := fun_mk (st := s_law_setup) l13 c13 k13
  have b13 := F13.binds (ps := ["draws"]) fun _ _ _ _ _ _ us hl => match us, hl with | [_], _ => rfl
  have F14 := fun_mk (st := s_law_stay) l14 c14 k14
  have b14 := F14.binds (ps := ["draws", "setup"]) fun _ _ _ _ _ _ us hl => match us, hl with | [_, _], _ => rfl
  have F15 := fun_mk (st := s_law_meet) l15 c15 k15
  have b15 := F15.binds (ps := ["first", "second"]) fun _ _ _ _ _ _ us hl => match us, hl with | [_, _], _ => rfl
  have F16 := fun_mk (st := s_law_stays) l16 c16 k16
  have b16 := F16.binds (ps := ["draws", "setup", "many"]) fun _ _ _ _ _ _ us hl => match us, hl with | [_, _, _], _ => rfl
  have F17 := fun_mk (st := s_law_fits) l17 c17 k17
  have b17 := F17.binds (ps := ["setup", "stays"]) fun _ _ _ _ _ _ us hl => match us, hl with | [_, _], _ => rfl
  have F18 := fun_mk (st := s_law_order) l18 c18 k18
  have b18 := F18.binds (ps := ["stays"]) fun _ _ _ _ _ _ us hl => match us, hl with | [_], _ => rfl
  have F19 := fun_mk (st := s_law_given) l19 c19 k19
  have b19 := F19.binds (ps := ["draws", "setup", "stays", "night"]) fun _ _ _ _ _ _ us hl => match us, hl with | [_, _, _, _], _ => rfl
  have F20 := fun_mk (st := s_law_good) l20 c20 k20
  have b20 := F20.binds (ps := ["setup", "stays", "night", "given"]) fun _ _ _ _ _ _ us hl => match us, hl with | [_, _, _, _], _ => rfl
  have F21 := fun_mk (st := s_law_refused) l21 c21 k21
  have b21 := F21.binds (ps := ["setup", "stays", "night", "given"]) fun _ _ _ _ _ _ us hl => match us, hl with | [_, _, _, _], _ => rfl
  have F22 := fun_mk (st := s_law) l22 c22 k22
  let T : Txt K mg := {
    C_BadStay := C_BadStay
    x_BadStay := ⟨PySem.W.mg_of X G aC_BadStay, xe_BadStay, xk_BadStay, xb_BadStay, xt_BadStay⟩
    m_BadStay := exm_self xb_BadStay xi_BadStay xt_BadStay xs_BadStay
    ie_BadStay := ⟨iehg_BadStay, iehk_BadStay, iehs_BadStay, iehd_BadStay, ieha_BadStay, iehn_BadStay, ieht_BadStay, iehm_BadStay⟩
    C_ManydoorsError := C_ManydoorsError
    g_ManydoorsError := PySem.W.mg_of X G aC_ManydoorsError
    ki_ManydoorsError := ki_ManydoorsError
    C_BadDeed := C_BadDeed
    g_BadDeed := PySem.W.mg_of X G aC_BadDeed
    ki_BadDeed := ki_BadDeed
    C_BadHistory := C_BadHistory
    g_BadHistory := PySem.W.mg_of X G aC_BadHistory
    ki_BadHistory := ki_BadHistory
    C_BadLine := C_BadLine
    g_BadLine := PySem.W.mg_of X G aC_BadLine
    ki_BadLine := ki_BadLine
    C_BadSetup := C_BadSetup
    g_BadSetup := PySem.W.mg_of X G aC_BadSetup
    ki_BadSetup := ki_BadSetup
    C_BadText := C_BadText
    g_BadText := PySem.W.mg_of X G aC_BadText
    ki_BadText := ki_BadText
    d_is_count := ⟨_, _, PySem.W.mg_of X G a0, F0, b0⟩
    d_is_between := ⟨_, _, PySem.W.mg_of X G a1, F1, b1⟩
    d_needs_of := ⟨_, _, PySem.W.mg_of X G a2, F2, b2⟩
    d_housing := ⟨_, _, PySem.W.mg_of X G a3, F3, b3⟩
    d_check_enough_rooms := ⟨_, _, PySem.W.mg_of X G a4, F4, b4⟩
    d_check_given := ⟨_, _, PySem.W.mg_of X G a5, F5, b5⟩
    d_least_room := ⟨_, _, PySem.W.mg_of X G a6, F6, b6⟩
    d_rooms_beside := ⟨_, _, PySem.W.mg_of X G a7, F7, b7⟩
    d_do_meet := ⟨_, _, PySem.W.mg_of X G a8, F8, b8⟩
    d_rooms_of := ⟨_, _, PySem.W.mg_of X G a9, F9, b9⟩
    d_law_mixed := ⟨_, _, PySem.W.mg_of X G a10, F10, b10⟩
    d_law_numbers := ⟨_, _, PySem.W.mg_of X G a11, F11, b11⟩
    d_law_draw := ⟨_, _, PySem.W.mg_of X G a12, F12, b12⟩
    d_law_setup := ⟨_, _, PySem.W.mg_of X G a13, F13, b13⟩
    d_law_stay := ⟨_, _, PySem.W.mg_of X G a14, F14, b14⟩
    d_law_meet := ⟨_, _, PySem.W.mg_of X G a15, F15, b15⟩
    d_law_stays := ⟨_, _, PySem.W.mg_of X G a16, F16, b16⟩
    d_law_fits := ⟨_, _, PySem.W.mg_of X G a17, F17, b17⟩
    d_law_order := ⟨_, _, PySem.W.mg_of X G a18, F18, b18⟩
    d_law_given := ⟨_, _, PySem.W.mg_of X G a19, F19, b19⟩
    d_law_good := ⟨_, _, PySem.W.mg_of X G a20, F20, b20⟩
    d_law_refused := ⟨_, _, PySem.W.mg_of X G a21, F21, b21⟩
    z_bool := PySem.W.mg_none_of X G z_bool
    z_enumerate := PySem.W.mg_none_of X G z_enumerate
    z_int := PySem.W.mg_none_of X G z_int
    z_isinstance := PySem.W.mg_none_of X G z_isinstance
    z_len := PySem.W.mg_none_of X G z_len
    z_list := PySem.W.mg_none_of X G z_list
    z_max := PySem.W.mg_none_of X G z_max
    z_min := PySem.W.mg_none_of X G z_min
    z_range := PySem.W.mg_none_of X G z_range
    z_sorted := PySem.W.mg_none_of X G z_sorted
    z_str := PySem.W.mg_none_of X G z_str
    z_tuple := PySem.W.mg_none_of X G z_tuple }
  exact ⟨PySem.W.fnOf "law" "law" (defArgs s_law) (defBody s_law) (defScope s_law) .none kV22 dc22 pm22 an22 cd22 ct22, fun s v => .of_eq rfl, fun base _ _ => ok_law F22 T⟩
theorem walk {l : PySem.W.OpenLaw} {q : Program} {loose : List Str} {XP : (Str → Option Value) → Heap → Prop} {YP : World → Heap → Prop} {d : DefRec} {K : Params → PySem.W.Frag} (hn : l.most = some 63) (hdf : d.params.defaults = [])
    (hY : ∀ (w : World) (h : Heap), YP w h → (K w.params).In h)
    (F : ∀ (w : World) (mg : Str → Option Value) (fa : Addr) (h : Heap), (K w.params).In h → h.Ns mainGlobals mg → mg d.name = some (.ref fa) →
      ∃ fd : FuncData, (∀ (s : Shared) (u : Value), BindsTo s fd ⟨[u], []⟩ [("script", u)]) ∧ ∀ base : Heap, (K w.params).In base → base.Ns mainGlobals mg → FnG l.prog w (K w.params) mg base CX0 20 fa fd ["script"] (spLaw (K w.params))) :
    PySem.W.WalkO q loose XP YP l.row.toRowW d [] (fun f vs => PySem.call f vs) :=
  MD.walkG (n := 63) (k := 20) (x := "script") (sp := fun w => spLaw (K w.params)) hn (by decide) hdf ⟨rfl, by decide, by decide⟩ hY F fun _ _ a ns hl hS => ⟨a, ns, rfl, hS, hl, fun _ => rfl⟩
end MD
open PySem PySem.W PyProof.Rows
set_option maxRecDepth 100000 in
set_option maxHeartbeats 0 in
theorem PySem.Challenge.cw_manydoors_k06_housings_are_refused_holds : PySem.Challenge.rw_manydoors_k06_housings_are_refused.Holds := by
  w_on; o_law; k_head; (case hw => w_witness2)
  k_fill
  refine MD.walk (l := PySem.Challenge.rw_manydoors_k06_housings_are_refused) rfl rfl (fun w h Y => PySem.W.kIn_of Y) ?F
  case F =>
    intro w mg fa h KX G hmg
    refine' MD.all_mk KX G hmg ?aC_BadStay ?aC_ManydoorsError ?aC_BadDeed ?aC_BadHistory ?aC_BadLine ?aC_BadSetup ?aC_BadText ?a0 ?l0 ?c0 ?k0 ?a1 ?l1 ?c1 ?k1 ?a2 ?l2 ?c2 ?k2 ?a3 ?l3 ?c3 ?k3 ?a4 ?l4 ?c4 ?k4 ?a5 ?l5 ?c5 ?k5 ?a6 ?l6 ?c6 ?k6 ?a7 ?l7 ?c7 ?k7 ?a8 ?l8 ?c8 ?k8 ?a9 ?l9 ?c9 ?k9 ?a10 ?l10 ?c10 ?k10 ?a11 ?l11 ?c11 ?k11 ?a12 ?l12 ?c12 ?k12 ?a13 ?l13 ?c13 ?k13 ?a14 ?l14 ?c14 ?k14 ?a15 ?l15 ?c15 ?k15 ?a16 ?l16 ?c16 ?k16 ?a17 ?l17 ?c17 ?k17 ?a18 ?l18 ?c18 ?k18 ?a19 ?l19 ?c19 ?k19 ?a20 ?l20 ?c20 ?k20 ?a21 ?l21 ?c21 ?k21 ?a22 ?l22 ?c22 ?k22 ?xe_BadStay ?xk_BadStay ?xb_BadStay ?xt_BadStay ?xi_BadStay ?xs_BadStay ?ki_ManydoorsError ?ki_BadDeed ?ki_BadHistory ?ki_BadLine ?ki_BadSetup ?ki_BadText ?iehg_BadStay ?iehk_BadStay ?iehs_BadStay ?iehd_BadStay ?ieha_BadStay ?iehn_BadStay ?ieht_BadStay ?iehm_BadStay ?z_bool ?z_enumerate ?z_int ?z_isinstance ?z_len ?z_list ?z_max ?z_min ?z_range ?z_sorted ?z_str ?z_tuple
    (case aC_BadStay => k_is)
    (case aC_ManydoorsError => k_is)
    (case aC_BadDeed => k_is)
    (case aC_BadHistory => k_is)
    (case aC_BadLine => k_is)
    (case aC_BadSetup => k_is)
    (case aC_BadText => k_is)
    (case a0 => k_is)
    (case l0 => k_is)
    (case c0 => k_is)
    (case k0 => k_is)
    (case a1 => k_is)
    (case l1 => k_is)
    (case c1 => k_is)
    (case k1 => k_is)
    (case a2 => k_is)
    (case l2 => k_is)
    (case c2 => k_is)
    (case k2 => k_is)
    (case a3 => k_is)
    (case l3 => k_is)
    (case c3 => k_is)
    (case k3 => k_is)
    (case a4 => k_is)
    (case l4 => k_is)
    (case c4 => k_is)
    (case k4 => k_is)
    (case a5 => k_is)
    (case l5 => k_is)
    (case c5 => k_is)
    (case k5 => k_is)
    (case a6 => k_is)
    (case l6 => k_is)
    (case c6 => k_is)
    (case k6 => k_is)
    (case a7 => k_is)
    (case l7 => k_is)
    (case c7 => k_is)
    (case k7 => k_is)
    (case a8 => k_is)
    (case l8 => k_is)
    (case c8 => k_is)
    (case k8 => k_is)
    (case a9 => k_is)
    (case l9 => k_is)
    (case c9 => k_is)
    (case k9 => k_is)
    (case a10 => k_is)
    (case l10 => k_is)
    (case c10 => k_is)
    (case k10 => k_is)
    (case a11 => k_is)
    (case l11 => k_is)
    (case c11 => k_is)
    (case k11 => k_is)
    (case a12 => k_is)
    (case l12 => k_is)
    (case c12 => k_is)
    (case k12 => k_is)
    (case a13 => k_is)
    (case l13 => k_is)
    (case c13 => k_is)
    (case k13 => k_is)
    (case a14 => k_is)
    (case l14 => k_is)
    (case c14 => k_is)
    (case k14 => k_is)
    (case a15 => k_is)
    (case l15 => k_is)
    (case c15 => k_is)
    (case k15 => k_is)
    (case a16 => k_is)
    (case l16 => k_is)
    (case c16 => k_is)
    (case k16 => k_is)
    (case a17 => k_is)
    (case l17 => k_is)
    (case c17 => k_is)
    (case k17 => k_is)
    (case a18 => k_is)
    (case l18 => k_is)
    (case c18 => k_is)
    (case k18 => k_is)
    (case a19 => k_is)
    (case l19 => k_is)
    (case c19 => k_is)
    (case k19 => k_is)
    (case a20 => k_is)
    (case l20 => k_is)
    (case c20 => k_is)
    (case k20 => k_is)
    (case a21 => k_is)
    (case l21 => k_is)
    (case c21 => k_is)
    (case k21 => k_is)
    (case a22 => k_is)
    (case l22 => k_is)
    (case c22 => k_is)
    (case k22 => k_is)
    (case xe_BadStay => k_exc)
    (case xk_BadStay => k_is)
    (case xb_BadStay => k_is)
    (case xt_BadStay => k_is)
    (case xi_BadStay => k_is)
    (case xs_BadStay => first | rfl | k_is)
    (case ki_ManydoorsError => kit_is)
    (case ki_BadDeed => kit_is)
    (case ki_BadHistory => kit_is)
    (case ki_BadLine => kit_is)
    (case ki_BadSetup => kit_is)
    (case ki_BadText => kit_is)
    (case iehg_BadStay => k_is)
    (case iehk_BadStay => k_is)
    (case iehs_BadStay => k_is)
    (case iehd_BadStay => k_is)
    (case ieha_BadStay => k_is)
    (case iehn_BadStay => k_is)
    (case ieht_BadStay => k_is)
    (case iehm_BadStay => k_is)
    (case z_bool => k_is)
    (case z_enumerate => k_is)
    (case z_int => k_is)
    (case z_isinstance => k_is)
    (case z_len => k_is)
    (case z_list => k_is)
    (case z_max => k_is)
    (case z_min => k_is)
    (case z_range => k_is)
    (case z_sorted => k_is)
    (case z_str => k_is)
    (case z_tuple => k_is)
