import PyProof.Rows.All
import Wide.All
import OpenK.AllK
import Wide.FinOn
import HandS.ForMost
import HandS.IsInst
import HandS.Codes
import PySem.Challenge.RW_manydoors_k07_wires
set_option Elab.async false
set_option linter.all false
set_option maxRecDepth 100000
set_option maxHeartbeats 4000000
namespace MD
open PySem PySem.Spec PyProof.Rows L2
/-! ### what changes: only what stands at M; tuples never; what is tracked stays tracked -/
structure Kp (M : List Addr) (H H' : Hp) : Prop where
  keep : ∀ b o, H b = some o → b ∉ M → H' b = some o
  tup : ∀ b xs, H b = some (.tup xs) → H' b = some (.tup xs)
  live : ∀ b o, H b = some o → ∃ o', H' b = some o'
theorem Kp.refl {M : List Addr} {H : Hp} : Kp M H H := ⟨fun _ _ h _ => h, fun _ _ h => h, fun _ o h => ⟨o, h⟩⟩
theorem Kp.trans {M : List Addr} {H H1 H2 : Hp} (a : Kp M H H1) (b : Kp M H1 H2) : Kp M H H2 :=
  ⟨fun x o h n => b.keep x o (a.keep x o h n) n, fun x xs h => b.tup x xs (a.tup x xs h), fun x o h => let ⟨o', h'⟩ := a.live x o h; b.live x o' h'⟩
theorem Kp.mono {M M' : List Addr} {H H' : Hp} (k : Kp M H H') (h : ∀ a, a ∈ M → a ∈ M') : Kp M' H H' :=
  ⟨fun b o e n => k.keep b o e fun z => n (h b z), k.tup, k.live⟩
/-- addresses that were not there may be left out -/
theorem Kp.drop {M M' : List Addr} {H H' : Hp} (k : Kp M H H') (h : ∀ a, a ∈ M → a ∈ M' ∨ H a = none) : Kp M' H H' :=
  ⟨fun b o e n => k.keep b o e fun z => (h b z).elim n fun q => (by rw [q] at e; cases e), k.tup, k.live⟩
theorem Kp.free {M : List Addr} {H H' : Hp} (k : Kp M H H') {b : Addr} (h : H' b = none) : H b = none := by
  cases e : H b with
  | none => rfl
  | some o => obtain ⟨o', h'⟩ := k.live b o e; rw [h] at h'; cases h'
theorem Kp.new {M : List Addr} {H : Hp} {p : Addr} {o : HO} (h : H p = none) : Kp M H (upd H p o) :=
  ⟨fun b u e _ => by rw [upd_ne (ne_of_none e h)]; exact e, fun b u e => by rw [upd_ne (ne_of_none e h)]; exact e, fun b u e => ⟨u, by rw [upd_ne (ne_of_none e h)]; exact e⟩⟩
/-- what may be written over: not a tuple -/
def NT : HO → Prop
  | .tup _ => False
  | _ => True
theorem Kp.old {M : List Addr} {H : Hp} {p : Addr} {o u : HO} (h : H p = some u) (nt : NT u) (m : p ∈ M) : Kp M H (upd H p o) := by
  refine ⟨fun b v e n => ?_, fun b v e => ?_, fun b v e => ?_⟩
  · rw [upd_ne (fun z : b = p => n (by rw [z]; exact m))]; exact e
  · rw [upd_ne (fun z => by rw [z, h] at e; cases e; exact nt)]; exact e
  · by_cases z : b = p
    · rw [z]; exact ⟨o, upd_same⟩
    · exact ⟨v, by rw [upd_ne z]; exact e⟩
/-- an object that was not there is written -/
theorem Kp.own {M : List Addr} {H H1 : Hp} {p : Addr} {o : HO} (k : Kp M H H1) (h : H p = none) : Kp M H (upd H1 p o) :=
  ⟨fun b u e n => by rw [upd_ne (ne_of_none e h)]; exact k.keep b u e n, fun b u e => by rw [upd_ne (ne_of_none e h)]; exact k.tup b u e, fun b u e => by rw [upd_ne (ne_of_none e h)]; exact k.live b u e⟩
theorem Kp.wr {M : List Addr} {H H1 : Hp} {p : Addr} {o u : HO} (k : Kp M H H1) (h : H1 p = some u) (nt : NT u) (m : p ∈ M) : Kp M H (upd H1 p o) := k.trans (Kp.old h nt m)
theorem Kp.nw {M : List Addr} {H H1 : Hp} {p : Addr} {o : HO} (k : Kp M H H1) (h : H1 p = none) : Kp M H (upd H1 p o) := k.own (k.free h)
theorem Kp.at {M : List Addr} {H H' : Hp} {b : Addr} {o : HO} (k : Kp M H H') (h : H b = some o) (n : b ∉ M) : H' b = some o := k.keep b o h n
theorem Kp.seq {M : List Addr} {K : PySem.W.Frag} {H H' : Hp} {a : Addr} {xs : List V} (k : Kp M H H') (h : SqL K H a xs) (n : a ∉ M) : SqL K H' a xs := by
  rcases h with (h | ⟨o, h⟩) | h
  · exact .inl (.inl (k.keep _ _ h n))
  · exact .inl (.inr ⟨o, k.keep _ _ h n⟩)
  · exact .inr h
theorem Kp.sqt {M : List Addr} {K : PySem.W.Frag} {H H' : Hp} {a : Addr} {xs : List V} (k : Kp M H H') (h : H a = some (.tup xs)) : SqT K H' a xs := .inl (.inl (k.tup _ _ h))
theorem nmem_nil {a : Addr} : a ∉ ([] : List Addr) := fun h => nomatch h
theorem nmem_one {a b : Addr} (h : a ≠ b) : a ∉ [b] := fun z => h (by simpa using z)
theorem nmem_two {a b c : Addr} (h : a ≠ b) (h2 : a ≠ c) : a ∉ [b, c] := fun z => by
  rcases List.mem_cons.mp z with e | e
  · exact h e
  · exact nmem_one h2 e
theorem nmem_cons {a b : Addr} {M : List Addr} (h : a ≠ b) (h2 : a ∉ M) : a ∉ b :: M := fun z => (List.mem_cons.mp z).elim h h2

/-! ### defs, methods, classes of the text; what may be called -/
structure DefAt (K : PySem.W.Frag) (mg : Str → Option Value) (x : Str) (st : Stmt) (ps : List Str) : Prop where
  ex : ∃ (f : Addr) (fd : FuncData), mg x = some (.ref f) ∧ L2.Fun K x x st f fd ∧ Binds K fd ps []
structure MethAt (K : PySem.W.Frag) (C : Addr) (m qual : Str) (st : Stmt) (ps : List Str) : Prop where
  ex : ∃ (f : Addr) (fd : FuncData), Meth K C m f ∧ L2.Fun K m qual st f fd ∧ Binds K fd ps []
structure MakeAt (K : PySem.W.Frag) (mg : Str → Option Value) (C : Addr) (x qual : Str) (st : Stmt) (ps : List Str) : Prop where
  ex : ∃ (f : Addr) (fd : FuncData), Mk K C f ∧ mg x = some (.ref C) ∧ L2.Fun K "__init__" qual st f fd ∧ Binds K fd ps []
structure Cal (P : Program) (w : World) (K : PySem.W.Frag) (mg : Str → Option Value) (base : Heap) (k : Nat) (x : Str) (sp : Sp) : Prop where
  ex : ∃ (f : Addr) (fd : FuncData) (ps : List Str), FnOk P w K mg base L2.CX0 k f fd ps sp ∧ mg x = some (.ref f) ∧ PySem.W.keepIn K (.ref f) = true ∧ Binds K fd ps []
structure Met (P : Program) (w : World) (K : PySem.W.Frag) (mg : Str → Option Value) (base : Heap) (k : Nat) (C : Addr) (m : Str) (sp : Sp) : Prop where
  ex : ∃ (f : Addr) (fd : FuncData) (ps : List Str), Cls K C ∧ Meth K C m f ∧ FnOk P w K mg base L2.CX0 k f fd ps sp ∧ Binds K fd ps []
structure Mak (P : Program) (w : World) (K : PySem.W.Frag) (mg : Str → Option Value) (base : Heap) (k : Nat) (x : Str) (C : Addr) (sp : Sp) : Prop where
  ex : ∃ (f : Addr) (fd : FuncData) (ps : List Str), Mk K C f ∧ FnOk P w K mg base L2.CX0 k f fd ps sp ∧ mg x = some (.ref C) ∧ Binds K fd ps []
section
variable {P : Program} {w : World} {K : PySem.W.Frag} {mg : Str → Option Value} {base : Heap}
theorem cal_of {x : Str} {st : Stmt} {N ps : List Str} {k : Nat} {sp : Sp} (D : DefAt K mg x st ps) (S : FnScope N ps (defScope st)) (len : ∀ vs H Q E, sp vs H Q E → vs.length = ps.length)
    (hbody : ∀ (f : Addr) (cdv : Value) (A : Around) (outer : List Env) (s : Shared) (H : Hp) (vs : List V) (Q : VK) (E : XK), Room k (A.deeper (envOfC x (defScope st) s.heap.objs.size f cdv)) → sp vs H Q E →
      ∃ t, PSs (cxOf L2.CX0 P w K mg base N x (defScope st) f cdv A outer s H E).nox (defBody st) t ∧ t { nx := fun _ H' => Q .non H', rt := Q } (start N vs) H) : Cal P w K mg base (k + 1) x sp := by
  obtain ⟨f, fd, hm, F, b⟩ := D.ex
  exact ⟨f, fd, ps, F.ok S len (hbody f), hm, F.kp, b⟩
theorem met_of {C : Addr} {m qual : Str} {st : Stmt} {N ps : List Str} {k : Nat} {sp : Sp} (c : Cls K C) (D : MethAt K C m qual st ps) (S : FnScope N ps (defScope st)) (len : ∀ vs H Q E, sp vs H Q E → vs.length = ps.length)
    (hbody : ∀ (f : Addr) (cdv : Value) (A : Around) (outer : List Env) (s : Shared) (H : Hp) (vs : List V) (Q : VK) (E : XK), Room k (A.deeper (envOfC qual (defScope st) s.heap.objs.size f cdv)) → sp vs H Q E →
      ∃ t, PSs (cxOf L2.CX0 P w K mg base N qual (defScope st) f cdv A outer s H E).nox (defBody st) t ∧ t { nx := fun _ H' => Q .non H', rt := Q } (start N vs) H) : Met P w K mg base (k + 1) C m sp := by
  obtain ⟨f, fd, hm, F, b⟩ := D.ex
  exact ⟨f, fd, ps, c, hm, F.ok S len (hbody f), b⟩
theorem mak_of {C : Addr} {x qual : Str} {st : Stmt} {N ps : List Str} {k : Nat} {sp : Sp} (D : MakeAt K mg C x qual st ps) (S : FnScope N ps (defScope st)) (len : ∀ vs H Q E, sp vs H Q E → vs.length = ps.length)
    (hbody : ∀ (f : Addr) (cdv : Value) (A : Around) (outer : List Env) (s : Shared) (H : Hp) (vs : List V) (Q : VK) (E : XK), Room k (A.deeper (envOfC qual (defScope st) s.heap.objs.size f cdv)) → sp vs H Q E →
      ∃ t, PSs (cxOf L2.CX0 P w K mg base N qual (defScope st) f cdv A outer s H E).nox (defBody st) t ∧ t { nx := fun _ H' => Q .non H', rt := Q } (start N vs) H) : Mak P w K mg base (k + 1) x C sp := by
  obtain ⟨f, fd, hm, mgx, F, b⟩ := D.ex
  exact ⟨f, fd, ps, hm, F.ok S len (hbody f), mgx, b⟩
theorem Cal.imp {x : Str} {k : Nat} {sp sp' : Sp} (c : Cal P w K mg base k x sp) (h : ∀ vs H Q E, sp' vs H Q E → sp vs H Q E) : Cal P w K mg base k x sp' := by
  obtain ⟨f, fd, ps, F, a, b, d⟩ := c.ex
  exact ⟨f, fd, ps, F.imp h, a, b, d⟩
theorem Cal.mono {x : Str} {k j : Nat} {sp : Sp} (c : Cal P w K mg base k x sp) (h : k ≤ j) : Cal P w K mg base j x sp := by
  obtain ⟨f, fd, ps, F, a, b, d⟩ := c.ex
  exact ⟨f, fd, ps, F.mono h, a, b, d⟩
end
section
variable {X : Cx} {k j : Nat} {C : Addr} {x m : Str} {sp : Sp} {p pos apos : Pos} {e o : Expr} {es : List Expr} {ta : TE} {t : TA} {E : XK}
/-- nothing is wanted of an exception: none comes -/
theorem passE : Passes L2.CX0 X E := fun _ _ _ _ _ _ _ h => h.elim
theorem pe_c (c : Cal X.prog X.w X.K X.mg X.base k x sp) (hr : Room k X.A) (hg : Gl X x) (ha : PA X (e :: es) t)
    (hdb : (x == ("__debug__" : Str)) = false := by decide) (he : starEach (e :: es) X.env = (false, eval e X.env) :: starEach es X.env := by rfl) (hpl : (backTo pos (starEach es X.env)).any (·.1) = false := by rfl) :
    PE X (.Call (.Name x p) (e :: es) [] pos) (tCall sp [] L2.E0 t) := by
  obtain ⟨f, fd, ps, F, hm, kp, b⟩ := c.ex
  exact pe_call F hr hg hm kp b .nil pass0 ha hdb he hpl
theorem pe_mt {pl : Sem Bool} (c : Met X.prog X.w X.K X.mg X.base k C m sp) (hr : Room k X.A) (he : PE X o ta) (ha : PA X (e :: es) t)
    (hst : starEach (e :: es) X.env = (false, eval e X.env) :: starEach es X.env := by rfl) (hpl : (backTo pos (starEach es X.env)).any (·.1) = false := by rfl)
    (ht : eval (.Call (.Attribute o m apos) (e :: es) [] pos) X.env = (do
      let ov ← eval o X.env
      standAt apos.atName
      let (f, first) ← holding [ov] (getMethod ov m pl)
      callWith pos f first (backTo pos (starEach (e :: es) X.env)) (backToKw pos (keywordEach [] X.env))) := by rfl) :
    PE X (.Call (.Attribute o m apos) (e :: es) [] pos) (tMeth C m sp [] L2.E0 ta t) := by
  obtain ⟨f, fd, ps, hc, hm, F, b⟩ := c.ex
  exact pe_meth (pl := pl) he hc hm F hr b .nil pass0 ha hst hpl ht
theorem pe_mt0 {pl : Sem Bool} (c : Met X.prog X.w X.K X.mg X.base k C m sp) (hr : Room k X.A) (he : PE X o ta)
    (ht : eval (.Call (.Attribute o m apos) [] [] pos) X.env = (do
      let ov ← eval o X.env
      standAt apos.atName
      let (f, first) ← holding [ov] (getMethod ov m pl)
      callWith pos f first (backTo pos (starEach [] X.env)) (backToKw pos (keywordEach [] X.env))) := by rfl) :
    PE X (.Call (.Attribute o m apos) [] [] pos) (tMeth C m sp [] L2.E0 ta tNil) := by
  obtain ⟨f, fd, ps, hc, hm, F, b⟩ := c.ex
  exact pe_meth0 (pl := pl) he hc hm F hr b .nil pass0 ht
theorem pe_mk (c : Mak X.prog X.w X.K X.mg X.base k x C sp) (hr : Room (k + 1) X.A) (hg : Gl X x) (ha : PA X (e :: es) t)
    (hdb : (x == ("__debug__" : Str)) = false := by decide) (he : starEach (e :: es) X.env = (false, eval e X.env) :: starEach es X.env := by rfl) (hpl : (backTo pos (starEach es X.env)).any (·.1) = false := by rfl) :
    PE X (.Call (.Name x p) (e :: es) [] pos) (tMake C sp [] L2.E0 t) := by
  obtain ⟨f, fd, ps, M, F, hm, b⟩ := c.ex
  exact pe_make M F hr hg hm b .nil pass0 ha hdb he hpl
theorem pe_mk0 (c : Mak X.prog X.w X.K X.mg X.base k x C sp) (hr : Room (k + 1) X.A) (hg : Gl X x)
    (hdb : (x == ("__debug__" : Str)) = false := by decide) :
    PE X (.Call (.Name x p) [] [] pos) (tMake C sp [] L2.E0 tNil) := by
  obtain ⟨f, fd, ps, M, F, hm, b⟩ := c.ex
  exact pe_make0 M F hr hg hm b .nil pass0 hdb
end
/-! ### data: scalars, and lists and tuples of data -/
inductive D where
  | v (x : V)
  | sq (l : Bool) (xs : List D)
/-- a list (l) or a tuple of these values is read at a -/
def SqB (K : PySem.W.Frag) (H : Hp) (l : Bool) (a : Addr) (xs : List V) : Prop := if l = true then SqL K H a xs else SqT K H a xs
def scl : V → Prop
  | .non => True
  | .bl _ => True
  | .int _ => True
  | .str _ => True
  | _ => False
mutual
def Rep (K : PySem.W.Frag) (H : Hp) : D → V → Prop
  | .v y, x => x = y ∧ scl y
  | .sq l ds, x => ∃ a vs, x = .ref a ∧ SqB K H l a vs ∧ Reps K H ds vs
def Reps (K : PySem.W.Frag) (H : Hp) : List D → List V → Prop
  | [], vs => vs = []
  | d :: ds, vs => ∃ v r, vs = v :: r ∧ Rep K H d v ∧ Reps K H ds r
end
mutual
def D.depth : D → Nat
  | .v _ => 0
  | .sq _ ds => Ds.depth ds + 1
def Ds.depth : List D → Nat
  | [] => 0
  | d :: ds => max d.depth (Ds.depth ds)
end
theorem Reps.len {K : PySem.W.Frag} {H : Hp} : ∀ {ds : List D} {vs : List V}, Reps K H ds vs → vs.length = ds.length
  | [], vs, h => by unfold Reps at h; subst h; rfl
  | d :: ds, vs, h => by
    unfold Reps at h
    obtain ⟨v, r, rfl, _, h2⟩ := h
    simp [Reps.len h2]
theorem Reps.get {K : PySem.W.Frag} {H : Hp} : ∀ {ds : List D} {vs : List V} {i : Nat} {d : D}, Reps K H ds vs → ds[i]? = some d → ∃ v, vs[i]? = some v ∧ Rep K H d v
  | [], _, i, _, _, e => by simp at e
  | d :: ds, vs, 0, d', h, e => by
    unfold Reps at h
    obtain ⟨v, r, rfl, h1, _⟩ := h
    simp at e; subst e
    exact ⟨v, rfl, h1⟩
  | d :: ds, vs, i + 1, d', h, e => by
    unfold Reps at h
    obtain ⟨v, r, rfl, _, h2⟩ := h
    obtain ⟨u, e1, e2⟩ := Reps.get h2 (by simpa using e)
    exact ⟨u, by simpa using e1, e2⟩
theorem Ds.depth_mem : ∀ {ds : List D} {i : Nat} {d : D}, ds[i]? = some d → d.depth ≤ Ds.depth ds
  | [], i, _, e => by simp at e
  | d :: ds, 0, d', e => by simp at e; subst e; unfold Ds.depth; omega
  | d :: ds, i + 1, d', e => by
    have := Ds.depth_mem (ds := ds) (i := i) (d := d') (by simpa using e)
    unfold Ds.depth; omega
theorem Rep.int {K : PySem.W.Frag} {H : Hp} {i : Int} : Rep K H (.v (.int i)) (.int i) := by unfold Rep; exact ⟨rfl, trivial⟩
theorem Rep.bl {K : PySem.W.Frag} {H : Hp} {i : Bool} : Rep K H (.v (.bl i)) (.bl i) := by unfold Rep; exact ⟨rfl, trivial⟩
theorem Rep.str {K : PySem.W.Frag} {H : Hp} {i : Str} : Rep K H (.v (.str i)) (.str i) := by unfold Rep; exact ⟨rfl, trivial⟩
theorem Rep.non {K : PySem.W.Frag} {H : Hp} : Rep K H (.v .non) .non := by unfold Rep; exact ⟨rfl, trivial⟩
theorem Reps.nil {K : PySem.W.Frag} {H : Hp} : Reps K H [] [] := by unfold Reps; rfl
theorem Reps.cons {K : PySem.W.Frag} {H : Hp} {d : D} {ds : List D} {v : V} {vs : List V} (h : Rep K H d v) (r : Reps K H ds vs) : Reps K H (d :: ds) (v :: vs) := by unfold Reps; exact ⟨v, vs, rfl, h, r⟩
theorem Rep.lst {K : PySem.W.Frag} {H : Hp} {a : Addr} {vs : List V} {ds : List D} (h : SqL K H a vs) (r : Reps K H ds vs) : Rep K H (.sq true ds) (.ref a) := by unfold Rep; exact ⟨a, vs, rfl, by unfold SqB; rw [if_pos rfl]; exact h, r⟩
theorem Rep.tup {K : PySem.W.Frag} {H : Hp} {a : Addr} {vs : List V} {ds : List D} (h : SqT K H a vs) (r : Reps K H ds vs) : Rep K H (.sq false ds) (.ref a) := by unfold Rep; exact ⟨a, vs, rfl, by unfold SqB; rw [if_neg Bool.false_ne_true]; exact h, r⟩
mutual
/-- data of tuples alone -/
def D.imm : D → Prop
  | .v _ => True
  | .sq l ds => l = false ∧ Ds.imm ds
def Ds.imm : List D → Prop
  | [] => True
  | d :: ds => d.imm ∧ Ds.imm ds
end
mutual
/-- .. that this law has made: tracked tuples -/
def RepT (H : Hp) : D → V → Prop
  | .v y, x => x = y ∧ scl y
  | .sq l ds, x => l = false ∧ ∃ a vs, x = .ref a ∧ H a = some (.tup vs) ∧ RepTs H ds vs
def RepTs (H : Hp) : List D → List V → Prop
  | [], vs => vs = []
  | d :: ds, vs => ∃ v r, vs = v :: r ∧ RepT H d v ∧ RepTs H ds r
end
mutual
theorem RepT.kp {M : List Addr} {H H' : Hp} (k : Kp M H H') : ∀ {d : D} {x : V}, RepT H d x → RepT H' d x
  | .v y, x, h => by unfold RepT at h ⊢; exact h
  | .sq l ds, x, h => by
    unfold RepT at h ⊢
    obtain ⟨e, a, vs, e1, e2, r⟩ := h
    exact ⟨e, a, vs, e1, k.tup _ _ e2, RepTs.kp k r⟩
theorem RepTs.kp {M : List Addr} {H H' : Hp} (k : Kp M H H') : ∀ {ds : List D} {vs : List V}, RepTs H ds vs → RepTs H' ds vs
  | [], vs, h => by unfold RepTs at h ⊢; exact h
  | d :: ds, vs, h => by
    unfold RepTs at h ⊢
    obtain ⟨v, r, e, h1, h2⟩ := h
    exact ⟨v, r, e, RepT.kp k h1, RepTs.kp k h2⟩
end
mutual
theorem RepT.rep {K : PySem.W.Frag} {H : Hp} : ∀ {d : D} {x : V}, RepT H d x → Rep K H d x
  | .v y, x, h => by unfold RepT at h; unfold Rep; exact h
  | .sq l ds, x, h => by
    unfold RepT at h
    obtain ⟨rfl, a, vs, rfl, e2, r⟩ := h
    exact Rep.tup (SqT.of e2) (RepTs.reps r)
theorem RepTs.reps {K : PySem.W.Frag} {H : Hp} : ∀ {ds : List D} {vs : List V}, RepTs H ds vs → Reps K H ds vs
  | [], vs, h => by unfold RepTs at h; unfold Reps; exact h
  | d :: ds, vs, h => by
    unfold RepTs at h
    obtain ⟨v, r, rfl, h1, h2⟩ := h
    exact Reps.cons (RepT.rep h1) (RepTs.reps h2)
end
theorem RepTs.len {H : Hp} : ∀ {ds : List D} {vs : List V}, RepTs H ds vs → vs.length = ds.length
  | [], vs, h => by unfold RepTs at h; subst h; rfl
  | d :: ds, vs, h => by
    unfold RepTs at h
    obtain ⟨v, r, rfl, _, h2⟩ := h
    simp [RepTs.len h2]
theorem RepT.int {H : Hp} {i : Int} : RepT H (.v (.int i)) (.int i) := by unfold RepT; exact ⟨rfl, trivial⟩
theorem RepT.bl {H : Hp} {i : Bool} : RepT H (.v (.bl i)) (.bl i) := by unfold RepT; exact ⟨rfl, trivial⟩
theorem RepT.str {H : Hp} {i : Str} : RepT H (.v (.str i)) (.str i) := by unfold RepT; exact ⟨rfl, trivial⟩
theorem RepT.non {H : Hp} : RepT H (.v .non) .non := by unfold RepT; exact ⟨rfl, trivial⟩
theorem RepTs.nil {H : Hp} : RepTs H [] [] := by unfold RepTs; rfl
theorem RepTs.cons {H : Hp} {d : D} {ds : List D} {v : V} {vs : List V} (h : RepT H d v) (r : RepTs H ds vs) : RepTs H (d :: ds) (v :: vs) := by unfold RepTs; exact ⟨v, vs, rfl, h, r⟩
theorem RepT.tup {H : Hp} {a : Addr} {vs : List V} {ds : List D} (h : H a = some (.tup vs)) (r : RepTs H ds vs) : RepT H (.sq false ds) (.ref a) := by unfold RepT; exact ⟨rfl, a, vs, rfl, h, r⟩
theorem RepTs.snoc {H : Hp} {d : D} {v : V} (h : RepT H d v) : ∀ {ds : List D} {vs : List V}, RepTs H ds vs → RepTs H (ds ++ [d]) (vs ++ [v])
  | [], vs, q => by unfold RepTs at q; subst q; exact RepTs.cons h RepTs.nil
  | e :: ds, vs, q => by
    unfold RepTs at q
    obtain ⟨u, r, rfl, h1, h2⟩ := q
    exact RepTs.cons h1 (RepTs.snoc h h2)
theorem RepTs.get {H : Hp} : ∀ {ds : List D} {vs : List V} {i : Nat} {v : V}, RepTs H ds vs → vs[i]? = some v → ∃ d, ds[i]? = some d ∧ RepT H d v
  | [], _, i, _, h, e => by unfold RepTs at h; subst h; simp at e
  | d :: ds, vs, 0, v', h, e => by
    unfold RepTs at h
    obtain ⟨v, r, rfl, h1, _⟩ := h
    simp at e; subst e
    exact ⟨d, rfl, h1⟩
  | d :: ds, vs, i + 1, v', h, e => by
    unfold RepTs at h
    obtain ⟨v, r, rfl, _, h2⟩ := h
    obtain ⟨u, e1, e2⟩ := RepTs.get h2 (by simpa using e)
    exact ⟨u, by simpa using e1, e2⟩
/-! ### lists of ints -/
theorem int_item {ns : List Int} {i : Nat} {y : V} (h : (ns.map V.int)[i]? = some y) : ∃ z, y = V.int z ∧ ns[i]? = some z := by
  rw [List.getElem?_map] at h
  cases e : ns[i]? with
  | none => rw [e] at h; cases h
  | some z => rw [e] at h; exact ⟨z, (Option.some.inj h).symm, rfl⟩
theorem int_snoc (ms : List Int) (v : Int) : ms.map V.int ++ [V.int v] = (ms ++ [v]).map V.int := by rw [List.map_append]; rfl
theorem at_of {α : Type} {xs : List α} {i : Int} {v : α} (h0 : 0 ≤ i) (h : xs[i.toNat]? = some v) : atI xs i = some v := by
  have q := atI_nat h
  rw [Int.toNat_of_nonneg h0] at q
  exact q
theorem int_at {ns : List Int} {i : Int} {z : Int} (h0 : 0 ≤ i) (h : ns[i.toNat]? = some z) : atI (ns.map V.int) i = some (V.int z) :=
  at_of h0 (by rw [List.getElem?_map, h]; rfl)
def Rg (ns : List Int) : Prop := ∀ x ∈ ns, 0 ≤ x ∧ x < 1000000
theorem Rg.nil : Rg [] := fun _ h => nomatch h
theorem Rg.snoc {ns : List Int} {v : Int} (h : Rg ns) (h0 : 0 ≤ v) (h1 : v < 1000000) : Rg (ns ++ [v]) := fun x hx => by
  rcases List.mem_append.mp hx with z | z
  · exact h x z
  · rw [List.mem_singleton.mp z]; exact ⟨h0, h1⟩
theorem sz {n m : Nat} (h : n ≤ m) (hm : m < 100000 := by omega) : n < sizeLine := Nat.lt_of_le_of_lt h (Nat.lt_of_lt_of_le hm (by decide))
theorem szl {n m : Nat} (h : n ≤ m) (hm : m < 100000 := by omega) : n ≤ sizeLine := Nat.le_of_lt (sz h hm)
/-! ### deep equality: what the data may be -/
def D.ok : Nat → D → Prop
  | _, .v _ => True
  | 0, .sq _ _ => False
  | n + 1, .sq _ ds => ds.length ≤ 100000 ∧ ∀ d ∈ ds, D.ok n d
theorem ty_sq {K : PySem.W.Frag} {H : Hp} {l : Bool} {a : Addr} {vs : List V} (h : SqB K H l a vs) : TyX K H (.ref a) (.type (if l = true then "list" else "tuple")) := by
  cases l with
  | true =>
    have h : SqL K H a vs := h
    rcases h with (h | ⟨o, h⟩) | ⟨o, its, n, hk, hc, _⟩
    · exact .base (.lst h)
    · exact .base (.frz h)
    · exact .kList hk hc
  | false =>
    have h : SqT K H a vs := h
    rcases h with (h | ⟨o, h⟩) | ⟨o, its, n, hk, hc, _⟩
    · exact .base (.tup h)
    · exact .fTuple h
    · exact .kTuple hk hc
theorem SqB.any {K : PySem.W.Frag} {H : Hp} {l : Bool} {a : Addr} {vs : List V} (h : SqB K H l a vs) : SqL K H a vs ∨ SqT K H a vs := by
  cases l with
  | true => exact .inl h
  | false => exact .inr h
theorem SqB.ix {K : PySem.W.Frag} {H : Hp} {l : Bool} {a : Addr} {vs : List V} {i : Int} {v : V} {Q : VK} (h : SqB K H l a vs) (e : atI vs i = some v) (q : Q v H) : rIx K (.ref a) (.int i) H Q := by
  cases l with
  | true => exact .inl ⟨a, vs, i, v, rfl, rfl, h, e, q⟩
  | false => exact .inr (.inl ⟨a, vs, i, v, rfl, rfl, h, e, q⟩)
/-- the type of a scalar, by name -/
def tyS : V → String
  | .non => "NoneType"
  | .bl _ => "bool"
  | .int _ => "int"
  | .str _ => "str"
  | _ => ""
theorem ty_scl {K : PySem.W.Frag} {H : Hp} {v : V} (h : scl v) : TyX K H v (.type (tyS v)) := by
  cases v with
  | non => exact .base .non
  | bl b => exact .base (.bl b)
  | int i => exact .base (.int i)
  | str x => exact .base (.str x)
  | _ => cases h
theorem r_isi {K : PySem.W.Frag} {H : Hp} {x : V} {t c : String} {b : Bool} {Q : VK} (ty : TyX K H x (.type t)) (k : kitB t c = some b) (q : Q (.bl b) H) : rIsi K [x, .ty c] H Q :=
  ⟨x, .ty c, _, _, b, rfl, .ty c, ty, kit_ty k, q⟩
/-! ### rules with the written part by name (within comprehensions the context is another one) -/
section
variable {X : Cx} {K : PySem.W.Frag}
def rLenK (K : PySem.W.Frag) : List V → Hp → VK → Prop := fun xs H Q => ∃ p ys, xs = [.ref p] ∧ (SqL K H p ys ∨ SqT K H p ys) ∧ Q (.int ys.length) H
def rListK (K : PySem.W.Frag) : List V → Hp → VK → Prop := fun xs H Q => ∃ p ys, xs = [.ref p] ∧ (SqL K H p ys ∨ SqT K H p ys) ∧ ∀ l, H l = none → Q (.ref l) (upd H l (.lst ys))
def rTupleK (K : PySem.W.Frag) : List V → Hp → VK → Prop := fun xs H Q => ∃ p ys, xs = [.ref p] ∧ ((SqL K H p ys ∧ ∀ l, H l = none → Q (.ref l) (upd H l (.tup ys))) ∨ (SqT K H p ys ∧ Q (.ref p) H))
theorem ixL (h : X.K = K := by rfl) : IxR X (rIxL K) := by subst h; exact ix_list
theorem ixT (h : X.K = K := by rfl) : IxR X (rIxT K) := by subst h; exact ix_tup
theorem ixS (h : X.K = K := by rfl) : IxR X (rIx K) := by subst h; exact ix_seq
theorem slL (h : X.K = K := by rfl) : SlR X (rSlL K) := by subst h; exact sl_list
theorem slT (h : X.K = K := by rfl) : SlR X (rSlT K) := by subst h; exact sl_tup
theorem lenK (h : X.K = K := by rfl) : CallR X (.builtin "len") (rLenK K) := by subst h; exact call_len_seq
theorem listK (h : X.K = K := by rfl) : CallR X (.type "list") (rListK K) := by subst h; exact call_list_of
theorem tupleK (h : X.K = K := by rfl) : CallR X (.type "tuple") (rTupleK K) := by subst h; exact call_tuple_of
theorem isiK (h : X.K = K := by rfl) : CallR X (.builtin "isinstance") (rIsi K) := by subst h; exact call_isi
theorem inK (h : X.K = K := by rfl) : OpR X (compareOp .In) (rIn K false) := by subst h; exact op_in_seq
theorem niK (h : X.K = K := by rfl) : OpR X (compareOp .NotIn) (rIn K true) := by subst h; exact op_notIn_seq
theorem fldK {e : Expr} {f : Str} {pos : Pos} {ta : TE} (he : PE X e ta) (hb : attributeBase e f X.env (eval e X.env) = eval e X.env) (h : X.K = K := by rfl) : PE X (.Attribute e f pos) (tFld K ta f) := by subst h; exact pe_fld he hb
end
theorem Kp.wrI {M : List Addr} {H H1 : Hp} {p C dx : Addr} {fs : List (Str × V)} {o : HO} (k : Kp M H H1) (h : H1 p = some (.ins C dx fs)) (m : p ∈ M) : Kp M H (upd H1 p o) := k.wr h trivial m
theorem Kp.wrL {M : List Addr} {H H1 : Hp} {p : Addr} {xs : List V} {o : HO} (k : Kp M H H1) (h : H1 p = some (.lst xs)) (m : p ∈ M) : Kp M H (upd H1 p o) := k.wr h trivial m
theorem Kp.wrT {M : List Addr} {H H1 : Hp} {p : Addr} {kvs : List (List Key × V)} {o : HO} (k : Kp M H H1) (h : H1 p = some (.dT kvs)) (m : p ∈ M) : Kp M H (upd H1 p o) := k.wr h trivial m
end MD

namespace MD
open PySem PySem.Spec PyProof.Rows L2
/-! ### rules whose readings tell the heap behind a change by what is kept (Kp), not as a term -/
def mE (t : TE) : TE := fun σ H Q => ∃ R : VK, t σ H R ∧ ∀ x H1, R x H1 → Q x H1
def mA (t : TA) : TA := fun σ H Q => ∃ R : List V → Hp → Prop, t σ H R ∧ ∀ x H1, R x H1 → Q x H1
section
variable {X : Cx} {e : Expr} {es : List Expr} {st : Stmt} {pos : Pos}
theorem peM {t : TE} (h : PE X e t) : PE X e (mE t) := ⟨fun pins s σ H Q I ⟨R, h1, h2⟩ => thn (h.run pins s σ H R I h1) fun _ _ ⟨v, H', J, r, q⟩ => ⟨v, H', J, r, h2 _ _ q⟩⟩
theorem paM {t : TA} (h : PA X es t) : PA X es (mA t) := ⟨fun pos pins s σ H Q I ⟨R, h1, h2⟩ => thn (h.run pos pins s σ H R I h1) fun _ _ ⟨v, H', J, r, q⟩ => ⟨v, H', J, r, h2 _ _ q⟩⟩
theorem peI {t t' : TE} (h : PE X e t) (i : ∀ σ H Q, t' σ H Q → t σ H Q) : PE X e t' := ⟨fun pins s σ H Q I q => h.run pins s σ H Q I (i _ _ _ q)⟩
theorem ptI {t t' : TT} (h : PT X e t) (i : ∀ σ H Q, t' σ H Q → t σ H Q) : PT X e t' := ⟨fun pins s σ H Q I q => h.run pins s σ H Q I (i _ _ _ q)⟩
theorem psI {t t' : TS} (h : PS X st t) (i : ∀ D σ H, t' D σ H → t D σ H) : PS X st t' := ⟨fun pins s σ H D I q => h.run pins s σ H D I (i _ _ _ q)⟩
theorem callI {f : Value} {r r' : List V → Hp → VK → Prop} (h : CallR X f r) (i : ∀ xs H Q, r' xs H Q → r xs H Q) : CallR X f r' := fun pins s σ H xs us Q I v q => h pins s σ H xs us Q I v (i _ _ _ q)
theorem mtI {f : String} {r r' : V → List V → Hp → VK → Prop} (h : MtR X f r) (i : ∀ x xs H Q, r' x xs H Q → r x xs H Q) : MtR X f r' := fun pins s σ H x xs v us Q I a b q => h pins s σ H x xs v us Q I a b (i _ _ _ _ q)
theorem oprI {f : Value → Value → Sem Value} {r r' : R2} (h : OpR X f r) (i : ∀ x y H Q, r' x y H Q → r x y H Q) : OpR X f r' := fun pins s σ H x y v u Q I a b q => h pins s σ H x y v u Q I a b (i _ _ _ _ q)
theorem slrI {r r' : V → Option Int → Option Int → Hp → VK → Prop} (h : SlR X r) (i : ∀ x lo hi H Q, r' x lo hi H Q → r x lo hi H Q) : SlR X r' := fun pins s σ H x v vl vu lo hi sl Q I a b c d q => h pins s σ H x v vl vu lo hi sl Q I a b c d (i _ _ _ _ _ q)
theorem psetI {t t' : TSet} (h : PSet X t) (i : ∀ o i v H Q, t' o i v H Q → t o i v H Q) : PSet X t' := fun pins s σ H o j v ov iv u Q I a b c q => h pins s σ H o j v ov iv u Q I a b c (i _ _ _ _ _ q)

/-- a new object u, told by what is kept -/
def New (H : Hp) (u : HO) (Q : VK) : Prop := ∀ p H2, H p = none → Kp [] H H2 → H2 p = some u → Q (.ref p) H2
theorem New.old {H : Hp} {u : HO} {Q : VK} (h : New H u Q) : ∀ p, H p = none → Q (.ref p) (upd H p u) := fun p hp => h p _ hp (Kp.new hp) upd_same
/-- the object at p is now u -/
def Wr (H : Hp) (p : Addr) (u : HO) (Q : Hp → Prop) : Prop := ∀ H2, Kp [p] H H2 → H2 p = some u → Q H2
theorem Wr.old {H : Hp} {p : Addr} {u o : HO} {Q : Hp → Prop} (h : Wr H p u Q) (e : H p = some o) (nt : NT o) : Q (upd H p u) := h _ (Kp.old e nt List.mem_cons_self) upd_same

def kTup (t : TA) : TE := fun σ H Q => t σ H fun xs H1 => xs.length ≤ sizeLine ∧ New H1 (.tup xs) Q
def kLst (t : TA) : TE := fun σ H Q => t σ H fun xs H1 => xs.length ≤ sizeLine ∧ New H1 (.lst xs) Q
theorem ke_tup {x1} {t : TA} (h : PA X es t) : PE X (.Tuple es x1 pos) (kTup t) := peI (pe_tup (paM h)) fun σ H Q q => ⟨_, q, fun xs H1 r => ⟨r.1, r.2.old⟩⟩
theorem ke_lst {t : TA} (h : PA X es t) : PE X (.List es pos) (kLst t) := peI (pe_lst (paM h)) fun σ H Q q => ⟨_, q, fun xs H1 r => ⟨r.1, r.2.old⟩⟩
def kList (K : PySem.W.Frag) : List V → Hp → VK → Prop := fun xs H Q => ∃ p ys, xs = [.ref p] ∧ (SqL K H p ys ∨ SqT K H p ys) ∧ New H (.lst ys) Q
theorem klistK {K : PySem.W.Frag} (h : X.K = K := by rfl) : CallR X (.type "list") (kList K) := callI (listK h) fun xs H Q ⟨p, ys, a, b, c⟩ => ⟨p, ys, a, b, c.old⟩
def kTuple (K : PySem.W.Frag) : List V → Hp → VK → Prop := fun xs H Q => ∃ p ys, xs = [.ref p] ∧ ((SqL K H p ys ∧ New H (.tup ys) Q) ∨ (SqT K H p ys ∧ Q (.ref p) H))
theorem ktupleK {K : PySem.W.Frag} (h : X.K = K := by rfl) : CallR X (.type "tuple") (kTuple K) := callI (tupleK h) fun xs H Q ⟨p, ys, a, b⟩ => ⟨p, ys, a, b.elim (fun z => .inl ⟨z.1, z.2.old⟩) .inr⟩
def kSlL (K : PySem.W.Frag) : V → Option Int → Option Int → Hp → VK → Prop := fun x lo hi H Q => ∃ a xs, x = .ref a ∧ SqL K H a xs ∧ New H (.lst (cutV xs lo hi)) Q
theorem kslL {K : PySem.W.Frag} (h : X.K = K := by rfl) : SlR X (kSlL K) := slrI (slL h) fun x lo hi H Q ⟨a, xs, e, b, c⟩ => ⟨a, xs, e, b, c.old⟩
def kSlT (K : PySem.W.Frag) : V → Option Int → Option Int → Hp → VK → Prop := fun x lo hi H Q => ∃ a xs, x = .ref a ∧ SqT K H a xs ∧
  ¬ (HT.sIx xs.length 0 lo = 0 ∧ HT.sIx xs.length xs.length hi = xs.length) ∧ New H (.tup (cutV xs lo hi)) Q
theorem kslT {K : PySem.W.Frag} (h : X.K = K := by rfl) : SlR X (kSlT K) := slrI (slT h) fun x lo hi H Q ⟨a, xs, e, b, n, c⟩ => ⟨a, xs, e, b, n, c.old⟩
def kCat : R2 := fun x y H Q => ∃ l b xs zs, x = .ref l ∧ y = .ref b ∧ H l = some (.lst xs) ∧ H b = some (.lst zs) ∧ xs.length + zs.length ≤ sizeLine ∧ New H (.lst (xs ++ zs)) Q
theorem kcat : OpR X (binaryOp .Add) kCat := oprI op_cat fun x y H Q ⟨l, b, xs, zs, h1, h2, h3, h4, h5, q⟩ => ⟨l, b, xs, zs, h1, h2, h3, h4, h5, q.old⟩
def kRep : R2 := fun x y H Q => ∃ l k xs, x = .ref l ∧ y = .int k ∧ H l = some (.lst xs) ∧ -(2 ^ 63) ≤ k ∧ k < 2 ^ 63 ∧ xs.length * k.toNat ≤ sizeLine ∧ New H (.lst (List.replicate k.toNat xs).flatten) Q
theorem krep : OpR X (binaryOp .Mult) kRep := oprI op_rep fun x y H Q ⟨l, k, xs, h1, h2, h3, h4, h5, h6, q⟩ => ⟨l, k, xs, h1, h2, h3, h4, h5, h6, q.old⟩
def kCatT (K : PySem.W.Frag) : R2 := fun x y H Q => ∃ a b xs ys, x = .ref a ∧ y = .ref b ∧ SqT K H a xs ∧ SqT K H b ys ∧ xs ≠ [] ∧ xs.length + ys.length ≤ sizeLine ∧
  (ys = [] → Q (.ref a) H) ∧ (ys ≠ [] → New H (.tup (xs ++ ys)) Q)
theorem kcatT {K : PySem.W.Frag} (h : X.K = K := by rfl) : OpR X (binaryOp .Add) (kCatT K) := by
  subst h
  exact oprI op_catT fun x y H Q ⟨a, b, xs, ys, h1, h2, h3, h4, h5, h6, h7, q⟩ => ⟨a, b, xs, ys, h1, h2, h3, h4, h5, h6, h7, fun z => (q z).old⟩
def kAppend : V → List V → Hp → VK → Prop := fun x vs H Q => ∃ l xs y, x = .ref l ∧ vs = [y] ∧ H l = some (.lst xs) ∧ xs.length < sizeLine ∧ Wr H l (.lst (xs ++ [y])) (Q .non)
theorem mk_append : MtR X "list.append" kAppend := mtI mt_append fun x xs H Q ⟨l, ys, y, h1, h2, h3, h4, q⟩ => ⟨l, ys, y, h1, h2, h3, h4, q.old h3 trivial⟩
def kExtend : V → List V → Hp → VK → Prop := fun x vs H Q => ∃ l b xs zs, x = .ref l ∧ vs = [.ref b] ∧ H l = some (.lst xs) ∧ H b = some (.lst zs) ∧ xs.length + zs.length ≤ sizeLine ∧ Wr H l (.lst (xs ++ zs)) (Q .non)
theorem mk_extend : MtR X "list.extend" kExtend := mtI mt_extend fun x xs H Q ⟨l, b, ys, y, h1, h2, h3, h4, h5, q⟩ => ⟨l, b, ys, y, h1, h2, h3, h4, h5, q.old h3 trivial⟩
def kPop : V → List V → Hp → VK → Prop := fun x vs H Q => ∃ l xs y, x = .ref l ∧ vs = [] ∧ H l = some (.lst xs) ∧ xs[xs.length - 1]? = some y ∧ Wr H l (.lst xs.dropLast) (Q y)
theorem mk_pop : MtR X "list.pop" kPop := mtI mt_pop fun x xs H Q ⟨l, ys, y, h1, h2, h3, h4, q⟩ => ⟨l, ys, y, h1, h2, h3, h4, q.old h3 trivial⟩
def kPopAt : V → List V → Hp → VK → Prop := fun x vs H Q => ∃ l xs i k y, x = .ref l ∧ vs = [.int i] ∧ H l = some (.lst xs) ∧ -(2 ^ 63) ≤ i ∧ i < 2 ^ 63 ∧ seqIndex? i xs.length = some k ∧ xs[k]? = some y ∧ Wr H l (.lst (xs.eraseIdx k)) (Q y)
theorem mk_popAt : MtR X "list.pop" kPopAt := mtI mt_popAt fun x xs H Q ⟨l, ys, i, k, y, h1, h2, h3, h4, h5, h6, h7, q⟩ => ⟨l, ys, i, k, y, h1, h2, h3, h4, h5, h6, h7, q.old h3 trivial⟩
def kClear : V → List V → Hp → VK → Prop := fun x vs H Q => ∃ l xs, x = .ref l ∧ vs = [] ∧ H l = some (.lst xs) ∧ Wr H l (.lst []) (Q .non)
theorem mk_clear : MtR X "list.clear" kClear := mtI mt_clear fun x xs H Q ⟨l, ys, h1, h2, h3, q⟩ => ⟨l, ys, h1, h2, h3, q.old h3 trivial⟩
def kSetL : V → V → V → Hp → (Hp → Prop) → Prop := fun o i v H Q => ∃ p xs k j, o = .ref p ∧ i = .int k ∧ H p = some (.lst xs) ∧ ixN xs.length k = some j ∧ Wr H p (.lst (xs.set j v)) Q
theorem kset_list : PSet X kSetL := psetI set_list fun o i v H Q ⟨p, xs, k, j, h1, h2, h3, h4, q⟩ => ⟨p, xs, k, j, h1, h2, h3, h4, q.old h3 trivial⟩
def kFld (K : PySem.W.Frag) (ta tv : TE) (f : Str) : TS := fun D σ H => tv σ H fun y H1 => ta σ H1 fun x H2 => ∃ a C dx fs, x = .ref a ∧ H2 a = some (.ins C dx fs) ∧ Cls K C ∧ NoAttr K C f ∧ fs.length < 1000 ∧
  Wr H2 a (.ins C dx (putF f y fs)) (D.nx σ)
theorem ks_fld {K : PySem.W.Frag} {o value : Expr} {f : Str} {pos' : Pos} {ta tv : TE} (ha : PE X o ta) (hv : PE X value tv) (hs : swapsWith value (some (.Attribute o f pos')) pos.line X.env = pure false) (h : X.K = K := by rfl) : PS X (.Assign [.Attribute o f pos'] value pos) (kFld K ta tv f) := by
  subst h
  refine psI (ps_fld (peM ha) (peM hv) hs) fun D σ H q => ⟨_, q, fun y H1 r => ⟨_, r, fun x H2 ⟨a, C, dx, fs, h1, h2, h3, h4, h5, q⟩ => ⟨a, C, dx, fs, h1, h2, h3, h4, h5, q.old h2 trivial⟩⟩⟩
def kFldAug (K : PySem.W.Frag) (ta tv : TE) (rd : V → V → Hp → VK → Prop) (f : Str) : TS := fun D σ H => ta σ H fun x H1 => ∃ a C dx fs v, x = .ref a ∧ H1 a = some (.ins C dx fs) ∧ Cls K C ∧ NoAttr K C f ∧ fs.lookup f = some v ∧
  tv σ H1 fun y H2 => rd v y H2 fun z H3 => ∃ dx' fs', H3 a = some (.ins C dx' fs') ∧ fs'.length < 1000 ∧ Wr H3 a (.ins C dx' (putF f z fs')) (D.nx σ)
def mR (r : V → V → Hp → VK → Prop) : V → V → Hp → VK → Prop := fun x y H Q => ∃ R : VK, r x y H R ∧ ∀ z H1, R z H1 → Q z H1
theorem inM {op : Operator} {rd : V → V → Hp → VK → Prop} (h : InOp X op rd) : InOp X op (mR rd) := fun pins s σ H x y u v Q I a b ⟨R, h1, h2⟩ => thn (h pins s σ H x y u v R I a b h1) fun _ _ ⟨v, H', J, r, q⟩ => ⟨v, H', J, r, h2 _ _ q⟩
theorem ks_fldaug {K : PySem.W.Frag} {o value : Expr} {f : Str} {tpos : Pos} {ta tv : TE} {op : Operator} {rd : V → V → Hp → VK → Prop} (ha : PE X o ta) (hv : PE X value tv) (hop : InOp X op rd) (h : X.K = K := by rfl) : PS X (.AugAssign (.Attribute o f tpos) op value pos) (kFldAug K ta tv rd f) := by
  subst h
  refine psI (ps_fldaug (peM ha) (peM hv) (inM hop)) fun D σ H q => ⟨_, q, fun x H1 ⟨a, C, dx, fs, v, h1, h2, h3, h4, h5, q⟩ => ⟨a, C, dx, fs, v, h1, h2, h3, h4, h5, _, q, fun y H2 q => ⟨_, q, fun z H3 ⟨dx', fs', h1, h2, q⟩ => ⟨dx', fs', h1, h2, q.old h1 trivial⟩⟩⟩⟩
def kMake (C : Addr) (sp : Sp) (t : TA) : TE := fun σ H Q => t σ H fun vs H1 => ∀ x dx H2, H1 x = none → Kp [] H1 H2 → H2 x = some (.ins C dx []) → sp (.ref x :: vs) H2 (fun v H3 => v = .non ∧ Q (.ref x) H3) L2.E0
theorem kMake.old {C : Addr} {sp : Sp} {vs : List V} {H1 : Hp} {Q : VK} (h : ∀ x dx H2, H1 x = none → Kp [] H1 H2 → H2 x = some (.ins C dx []) → sp (.ref x :: vs) H2 (fun v H3 => v = .non ∧ Q (.ref x) H3) L2.E0) :
    ∀ x dx, H1 x = none → H1 dx = none → dx ≠ x → sp (.ref x :: (vs ++ [])) (upd (upd H1 dx (.own x)) x (.ins C dx [])) (fun v H2 => v = .non ∧ Q (.ref x) H2) L2.E0 := fun x dx hx hdx hne => by
  rw [List.append_nil]
  exact h x dx _ hx ((Kp.new hdx).own hx) upd_same
theorem ke_mk {k : Nat} {x : Str} {C : Addr} {sp : Sp} {p : Pos} {t : TA} (c : Mak X.prog X.w X.K X.mg X.base k x C sp) (hr : Room (k + 1) X.A) (hg : Gl X x) (ha : PA X (e :: es) t)
    (hdb : (x == ("__debug__" : Str)) = false := by decide) (he : starEach (e :: es) X.env = (false, eval e X.env) :: starEach es X.env := by rfl) (hpl : (backTo pos (starEach es X.env)).any (·.1) = false := by rfl) :
    PE X (.Call (.Name x p) (e :: es) [] pos) (kMake C sp t) := peI (pe_mk c hr hg (paM ha) hdb he hpl) fun σ H Q q => ⟨_, q, fun vs H1 r => kMake.old r⟩
theorem ke_mk0 {k : Nat} {x : Str} {C : Addr} {sp : Sp} {p : Pos} (c : Mak X.prog X.w X.K X.mg X.base k x C sp) (hr : Room (k + 1) X.A) (hg : Gl X x)
    (hdb : (x == ("__debug__" : Str)) = false := by decide) : PE X (.Call (.Name x p) [] [] pos) (kMake C sp tNil) := peI (pe_mk0 c hr hg hdb) fun σ H Q q => kMake.old q
end
/-! ### comprehensions: what the made list holds (acc) apart from the rest -/
def mI (t : TI) : TI := fun σ H Q => ∃ R : It → Hp → Prop, t σ H R ∧ ∀ x H1, R x H1 → Q x H1
def mG (t : TG) : TG := fun v σ H Q => ∃ R : L2.St → Hp → Prop, t v σ H R ∧ ∀ x H1, R x H1 → Q x H1
def mT (t : TT) : TT := fun σ H Q => ∃ R : Bool → Hp → Prop, t σ H R ∧ ∀ x H1, R x H1 → Q x H1
section
variable {X : Cx}
theorem piM {tg iter : Expr} {t : TI} (h : PI X tg iter t) : PI X tg iter (mI t) := ⟨fun pins s σ H Q I ⟨R, h1, h2⟩ => thn (h.run pins s σ H R I h1) fun _ _ q => thn q fun _ _ ⟨it, fp, tn, J, H', a, b, c, d, e, r⟩ => ⟨it, fp, tn, J, H', a, b, c, d, e, h2 _ _ r⟩⟩
theorem pgM {tg : Expr} {t : TG} (h : PG X tg t) : PG X tg (mG t) := ⟨fun pins s σ H v u Q I r ⟨R, h1, h2⟩ => thn (h.run pins s σ H v u R I r h1) fun _ _ ⟨σ', H', J, q⟩ => ⟨σ', H', J, h2 _ _ q⟩⟩
theorem ptsM {ifs : List Expr} {t : TT} (h : PTs X ifs t) : PTs X ifs (mT t) := ⟨fun pins s σ H Q I ⟨R, h1, h2⟩ => thn (h.run pins s σ H R I h1) fun _ _ ⟨H', J, q⟩ => ⟨H', J, h2 _ _ q⟩⟩
end
/-- behind an element: y goes to the list at D -/
def Put (D : Addr) (acc : List V) (Nx : List V → Hp → Prop) (y : V) (H4 : Hp) : Prop := H4 D = some (.lst acc) ∧ acc.length < sizeLine ∧ ∀ H5, Kp [D] H4 H5 → H5 D = some (.lst (acc ++ [y])) → Nx (acc ++ [y]) H5
/-- one turn of a comprehension -/
def Turn1 (g : TG) (tt : TT) (te : TE) (vs : List Nat) (σ : L2.St) (D : Addr) (acc : List V) (Nx : List V → Hp → Prop) (x : V) (H' : Hp) : Prop :=
  g x (wipe σ vs) H' fun σ2 H2 => wipe σ2 vs = wipe σ vs ∧ tt σ2 H2 fun b H3 => if b = true then te σ2 H3 (Put D acc Nx) else H3 D = some (.lst acc) ∧ Nx acc H3
def kLcW (g : TG) (tt : TT) (te : TE) (vs : List Nat) (σ : L2.St) (J : It) (D : Addr) (H1' : Hp) (Qd : Hp → Prop) : Prop := ∃ W : Nat → Nat → List V → Hp → Prop, (∃ m, W 0 m [] H1') ∧ ∀ i m acc H, H D = some (.lst acc) → W i m acc H →
  (J.stop i H ∧ Qd H) ∨ (J.go i H ∧ ∃ Nx : List V → Hp → Prop, (∀ acc H', Nx acc H' → ∃ m', m' < m ∧ W (i + 1) m' acc H') ∧ ∀ x H', J.yld i H x H' → Turn1 g tt te vs σ D acc Nx x H')
def kLc (wi : TI) (g : TG) (tt : TT) (te : TE) (vs : List Nat) : TE := fun σ H Q => wi σ H fun J H1 => ∀ D H1', H1 D = none → Kp [] H1 H1' → H1' D = some (.lst []) → kLcW g tt te vs σ J D H1' (Q (.ref D))
theorem kLc.old {wi : TI} {g : TG} {tt : TT} {te : TE} {vs : List Nat} {σ : L2.St} {H : Hp} {Q : VK} (h : kLc wi g tt te vs σ H Q) : tLc (mI wi) (mG g) (mT tt) (mE te) vs σ H Q := by
  refine ⟨_, h, fun J H1 r D hD => ?_⟩
  obtain ⟨W, ⟨m, w0⟩, turn⟩ := r D _ hD (Kp.new hD) upd_same
  refine ⟨fun i m H => ∃ acc, H D = some (.lst acc) ∧ W i m acc H, ⟨m, [], upd_same, w0⟩, ?_⟩
  rintro i m H ⟨acc, hD, w⟩
  rcases turn i m acc H hD w with ⟨a, b⟩ | ⟨go, Nx, hN, step⟩
  · exact .inl ⟨a, b⟩
  · refine .inr ⟨go, fun H' => ∃ acc, H' D = some (.lst acc) ∧ Nx acc H', fun H' ⟨acc', h1, h2⟩ => let ⟨m', a, b⟩ := hN acc' H' h2; ⟨m', a, acc', h1, b⟩, fun x H' y => ?_⟩
    refine ⟨_, step x H' y, fun σ2 H2 ⟨e, t⟩ => ⟨e, _, t, fun b H3 q => ?_⟩⟩
    cases b with
    | true =>
      refine iteT ?_
      refine ⟨_, (show te σ2 H3 (Put D acc Nx) from q), fun y H4 ⟨h1, h2, h3⟩ => ⟨acc, h1, h2, _, upd_same, h3 _ (Kp.old h1 trivial List.mem_cons_self) upd_same⟩⟩
    | false => exact iteF ⟨acc, q⟩
section
variable {X : Cx}
theorem ke_lc {elt tg iter : Expr} {ifs : List Expr} {scope : Scope} {own : List (Str × Nat)} {pos : Pos} {wi : TI} {g : TG} {tt : TT} {te : TE} (hc : X.calm = true) (hN : X.N.Nodup) (hi : PI X tg iter wi) (ok : BlkOk X.N X.env.scope scope own)
    (hg : ∀ (s : Shared) (H : Hp) (C : Addr) (cl : List (Str × Addr)) (fp : List Addr), PG (X.blk s H scope (compEnvC scope cl C X.env) fp) tg g) (ht : ∀ (s : Shared) (H : Hp) (C : Addr) (cl : List (Str × Addr)) (fp : List Addr), PTs (X.blk s H scope (compEnvC scope cl C X.env) fp) ifs tt)
    (he : ∀ (s : Shared) (H : Hp) (C : Addr) (cl : List (Str × Addr)) (fp : List Addr), PE (X.blk s H scope (compEnvC scope cl C X.env) fp) elt te) (hs : ∀ x, foldedSetIterable iter X.env x = pure x := by intro _; rfl) :
    PE X (.ListComp elt [⟨tg, iter, ifs, 0⟩] scope pos) (kLc wi g tt te (own.map (·.2))) :=
  peI (pe_lc hc hN (piM hi) ok (fun a b c d e => pgM (hg a b c d e)) (fun a b c d e => ptsM (ht a b c d e)) (fun a b c d e => peM (he a b c d e)) hs) fun σ H Q q => kLc.old q
theorem ks_setLc {i : Nat} {y : Str} {py : Pos} {elt tg iter : Expr} {ifs : List Expr} {scope : Scope} {own : List (Str × Nat)} {pos spos : Pos} {wi : TI} {g : TG} {tt : TT} {te : TE} (hc : X.calm = true) (hN : X.N.Nodup) (hy : X.N[i]? = some y) (hyl : X.env.scope.names.lookup y = some .local)
    (hsw : swapsWith (.ListComp elt [⟨tg, iter, ifs, 0⟩] scope pos) (some (.Name y py)) spos.line X.env = pure true) (hi : PI X tg iter wi) (ok : BlkOk X.N X.env.scope scope own)
    (hg : ∀ (s : Shared) (H : Hp) (C : Addr) (cl : List (Str × Addr)) (fp : List Addr), PG (X.blk s H scope (compEnvC scope cl C X.env) fp) tg g) (ht : ∀ (s : Shared) (H : Hp) (C : Addr) (cl : List (Str × Addr)) (fp : List Addr), PTs (X.blk s H scope (compEnvC scope cl C X.env) fp) ifs tt)
    (he : ∀ (s : Shared) (H : Hp) (C : Addr) (cl : List (Str × Addr)) (fp : List Addr), PE (X.blk s H scope (compEnvC scope cl C X.env) fp) elt te) (hs : ∀ x, foldedSetIterable iter X.env x = pure x := by intro _; rfl) :
    PS X (.Assign [.Name y py] (.ListComp elt [⟨tg, iter, ifs, 0⟩] scope pos) spos) (tAsg (kLc wi g tt te (own.map (·.2))) (gName i)) :=
  psI (ps_setLc hc hN hy hyl hsw (piM hi) ok (fun a b c d e => pgM (hg a b c d e)) (fun a b c d e => ptsM (ht a b c d e)) (fun a b c d e => peM (he a b c d e)) hs) fun D σ H q => kLc.old q
end
section
variable {K : PySem.W.Frag} {a : Addr} {xs : List V} {g : TG} {tt : TT} {te : TE} {vs : List Nat} {σ : L2.St} {H1 : Hp} {D : Addr} {Qd : Hp → Prop}
theorem kl_list (Pv : Nat → List V → Hp → Prop) (h0 : Pv 0 [] H1) (hl : ∀ i acc H, Pv i acc H → SqL K H a xs)
    (hs : ∀ i x acc H, xs[i]? = some x → H D = some (.lst acc) → Pv i acc H → Turn1 g tt te vs σ D acc (Pv (i + 1)) x H) (hd : ∀ acc H, H D = some (.lst acc) → Pv xs.length acc H → Qd H) : kLcW g tt te vs σ (Itl K a) D H1 Qd := by
  refine ⟨fun i m acc H => m = xs.length - i ∧ i ≤ xs.length ∧ Pv i acc H, ⟨xs.length, by simp, Nat.zero_le _, h0⟩, ?_⟩
  rintro i m acc H hD ⟨rfl, hi, p⟩
  have q := hl i acc H p
  by_cases hlt : i < xs.length
  · refine .inr ⟨⟨xs, xs[i], q, by simp [hlt]⟩, Pv (i + 1), fun acc H' p' => ⟨xs.length - (i + 1), by omega, rfl, hlt, p'⟩, fun x H' y => ?_⟩
    obtain ⟨e, y⟩ := y
    subst e
    exact hs i x acc _ (y xs q) hD p
  · have e : i = xs.length := by omega
    subst e
    exact .inl ⟨⟨xs, q, Nat.le_refl _⟩, hd acc H hD p⟩
theorem kl_tup (Pv : Nat → List V → Hp → Prop) (h0 : Pv 0 [] H1) (hl : ∀ i acc H, Pv i acc H → SqT K H a xs)
    (hs : ∀ i x acc H, xs[i]? = some x → H D = some (.lst acc) → Pv i acc H → Turn1 g tt te vs σ D acc (Pv (i + 1)) x H) (hd : ∀ acc H, H D = some (.lst acc) → Pv xs.length acc H → Qd H) : kLcW g tt te vs σ (Itt K a) D H1 Qd := by
  refine ⟨fun i m acc H => m = xs.length - i ∧ i ≤ xs.length ∧ Pv i acc H, ⟨xs.length, by simp, Nat.zero_le _, h0⟩, ?_⟩
  rintro i m acc H hD ⟨rfl, hi, p⟩
  have q := hl i acc H p
  by_cases hlt : i < xs.length
  · refine .inr ⟨⟨xs, xs[i], q, by simp [hlt]⟩, Pv (i + 1), fun acc H' p' => ⟨xs.length - (i + 1), by omega, rfl, hlt, p'⟩, fun x H' y => ?_⟩
    obtain ⟨e, y⟩ := y
    subst e
    exact hs i x acc _ (y xs q) hD p
  · have e : i = xs.length := by omega
    subst e
    exact .inl ⟨⟨xs, q, Nat.le_refl _⟩, hd acc H hD p⟩
theorem kl_range {lo : Int} {n : Nat} (Pv : Nat → List V → Hp → Prop) (h0 : Pv 0 [] H1)
    (hs : ∀ i acc H, i < n → H D = some (.lst acc) → Pv i acc H → Turn1 g tt te vs σ D acc (Pv (i + 1)) (.int (lo + i)) H) (hd : ∀ acc H, H D = some (.lst acc) → Pv n acc H → Qd H) : kLcW g tt te vs σ (Itr lo n) D H1 Qd := by
  refine ⟨fun i m acc H => m = n - i ∧ i ≤ n ∧ Pv i acc H, ⟨n, by simp, Nat.zero_le _, h0⟩, ?_⟩
  rintro i m acc H hD ⟨rfl, hi, p⟩
  by_cases hlt : i < n
  · refine .inr ⟨hlt, Pv (i + 1), fun acc H' p' => ⟨n - (i + 1), by omega, rfl, hlt, p'⟩, fun x H' y => ?_⟩
    obtain ⟨e, y⟩ := y
    subst e y
    exact hs i acc _ hlt hD p
  · have e : i = n := by omega
    subst e
    exact .inl ⟨Nat.le_refl _, hd acc H hD p⟩
end
end MD

namespace MD
open PySem PySem.Spec PyProof.Rows L2
/-! ### the text by places -/
def top (i : Nat) : Stmt := PySem.Challenge.pw_manydoors_k07_wires.main.body.getD i (.Pass ⟨0, 0, 0, 0⟩)
abbrev s_Wire___init__ : Stmt := inClass (top 1) 0
abbrev s_Wire_send : Stmt := inClass (top 1) 1
abbrev s_Wire_take : Stmt := inClass (top 1) 2
abbrev s_Wire_acknowledged : Stmt := inClass (top 1) 3
abbrev s_law_mixed : Stmt := top 3
abbrev s_law_numbers : Stmt := top 4
abbrev s_law_draw : Stmt := top 5
abbrev s_law_equal : Stmt := top 6
abbrev s_law_all_equal : Stmt := top 7
abbrev s_law : Stmt := top 8
/-! ### the names of each def -/
theorem sc_Wire___init__ : FnScope ["self"] ["self"] (defScope s_Wire___init__) := ⟨rfl, rfl, rfl, by decide +kernel, rfl, by decide +kernel, by decide +kernel⟩
theorem sc_Wire_send : FnScope ["self", "body", "number"] ["self", "body"] (defScope s_Wire_send) := ⟨rfl, rfl, rfl, by decide +kernel, rfl, by decide +kernel, by decide +kernel⟩
theorem sc_Wire_take : FnScope ["self", "number"] ["self", "number"] (defScope s_Wire_take) := ⟨rfl, rfl, rfl, by decide +kernel, rfl, by decide +kernel, by decide +kernel⟩
theorem sc_Wire_acknowledged : FnScope ["self", "number", "pair"] ["self", "number"] (defScope s_Wire_acknowledged) := ⟨rfl, rfl, rfl, by decide +kernel, rfl, by decide +kernel, by decide +kernel⟩
theorem sc_law_mixed : FnScope ["number", "k", "step"] ["number", "k"] (defScope s_law_mixed) := ⟨rfl, rfl, rfl, by decide +kernel, rfl, by decide +kernel, by decide +kernel⟩
theorem sc_law_numbers : FnScope ["script", "numbers", "cell", "rest", "k"] ["script"] (defScope s_law_numbers) := ⟨rfl, rfl, rfl, by decide +kernel, rfl, by decide +kernel, by decide +kernel⟩
theorem sc_law_draw : FnScope ["draws", "at", "first"] ["draws"] (defScope s_law_draw) := ⟨rfl, rfl, rfl, by decide +kernel, rfl, by decide +kernel, by decide +kernel⟩
theorem sc_law_equal : FnScope ["actual", "due"] ["actual", "due"] (defScope s_law_equal) := ⟨rfl, rfl, rfl, by decide +kernel, rfl, by decide +kernel, by decide +kernel⟩
theorem sc_law_all_equal : FnScope ["actual", "due", "k"] ["actual", "due"] (defScope s_law_all_equal) := ⟨rfl, rfl, rfl, by decide +kernel, rfl, by decide +kernel, by decide +kernel⟩
theorem sc_law : FnScope ["script", "draws", "wire", "outbox", "sent", "expected", "k", "pick", "body", "number", "due", "pair"] ["script"] (defScope s_law) := ⟨rfl, rfl, rfl, by decide +kernel, rfl, by decide +kernel, by decide +kernel⟩
/-! ### what the top has written -/
structure Txt (K : PySem.W.Frag) (mg : Str → Option Value) where
  C_Wire : Addr
  cl_Wire : Cls K C_Wire
  mc_Wire : mg "Wire" = some (.ref C_Wire)
  na_Wire_sent : NoAttr K C_Wire "sent"
  na_Wire_outbox : NoAttr K C_Wire "outbox"
  na_Wire_expected : NoAttr K C_Wire "expected"
  mk_Wire : MakeAt K mg C_Wire "Wire" "Wire.__init__" s_Wire___init__ ["self"]
  me_Wire_send : MethAt K C_Wire "send" "Wire.send" s_Wire_send ["self", "body"]
  me_Wire_take : MethAt K C_Wire "take" "Wire.take" s_Wire_take ["self", "number"]
  me_Wire_acknowledged : MethAt K C_Wire "acknowledged" "Wire.acknowledged" s_Wire_acknowledged ["self", "number"]
  d_law_mixed : DefAt K mg "_law_mixed" s_law_mixed ["number", "k"]
  d_law_numbers : DefAt K mg "_law_numbers" s_law_numbers ["script"]
  d_law_draw : DefAt K mg "_law_draw" s_law_draw ["draws"]
  d_law_equal : DefAt K mg "_law_equal" s_law_equal ["actual", "due"]
  d_law_all_equal : DefAt K mg "_law_all_equal" s_law_all_equal ["actual", "due"]
  z_bool : mg "bool" = none
  z_int : mg "int" = none
  z_isinstance : mg "isinstance" = none
  z_len : mg "len" = none
  z_list : mg "list" = none
  z_max : mg "max" = none
  z_range : mg "range" = none
  z_str : mg "str" = none
  z_tuple : mg "tuple" = none
end MD
namespace MD
open PySem PySem.Spec PyProof.Rows L2
local macro_rules | `(tactic| walk_at "ne") => `(tactic| first | assumption | (apply Ne.symm; assumption) | exact ne_of_none (by assumption) (by assumption) | exact (ne_of_none (by assumption) (by assumption)).symm)
local macro_rules | `(tactic| walk_at "hp") => `(tactic| first | assumption | exact upd_same | (refine (upd_ne ?_).trans ?_; (focus walk_at "ne"); walk_at "hp"))
local macro_rules | `(tactic| walk_at "nm") => `(tactic| first | exact nmem_nil | exact nmem_one (by walk_at "ne") | exact nmem_cons (by walk_at "ne") (by walk_at "nm"))
/-! ### the draws -/
section
variable {P : Program} {w : World} {K : PySem.W.Frag} {mg : Str → Option Value} {base : Heap}
def spMixed : Sp := fun vs H Q _ => ∃ a k : Int, vs = [.int a, .int k] ∧ ∀ r : Int, 0 ≤ r → r < 2147483647 → Q (.int r) H
theorem c_law_mixed (T : Txt K mg) : Cal P w K mg base 1 "_law_mixed" spMixed := by
  refine cal_of T.d_law_mixed sc_law_mixed (fun vs H Q E h => ?_) (fun f cdv A outer s H vs Q E hr h => ?_)
  · obtain ⟨a, k, rfl, _⟩ := h; rfl
  · obtain ⟨a, k, rfl, q⟩ := h
    refine ⟨_, (pss_cons (ps_set (i := 2) sc_law_mixed.nd rfl (Or.inl rfl) (pe_op op_mod (pe_op op_add (pe_op op_add (pe_op op_mul (pv 0) pe_int) (pe_op op_mul (pv 1) pe_int)) pe_int) pe_int))
  (pss_one (ps_ret (pe_op op_mod (pe_op op_add (pe_op op_mul (pv 2) (pe_op op_add (pe_op op_fdiv (pv 2) pe_int) pe_int)) (pv 1)) pe_int)))), ?_⟩
    refine ⟨_, rfl, _, _, rfl, rfl, .inr ⟨by decide, by decide⟩, _, rfl, _, _, rfl, rfl, .inr ⟨by decide, by decide⟩, _, _, rfl, rfl, _, _, rfl, rfl, _, _, rfl, rfl, (by show (0 : Int) < 2147483647; decide), ?_⟩
    have h0 : 0 ≤ (a * 48271 + k * 69621 + 12345) % 2147483647 := Int.emod_nonneg _ (by decide)
    have h1 : (a * 48271 + k * 69621 + 12345) % 2147483647 < 2147483647 := Int.emod_lt_of_pos _ (by decide)
    generalize (a * 48271 + k * 69621 + 12345) % 2147483647 = st at h0 h1
    refine ⟨_, rfl, _, rfl, _, _, rfl, rfl, ⟨by decide, by decide⟩, _, _, rfl, rfl, _, _, rfl, rfl, .inl ⟨by omega, by omega⟩, _, rfl, _, _, rfl, rfl, _, _, rfl, rfl, (by show (0 : Int) < 2147483647; decide), ?_⟩
    exact q _ (Int.emod_nonneg _ (by decide)) (Int.emod_lt_of_pos _ (by decide))
def spNumbers (K : PySem.W.Frag) : Sp := fun vs H Q _ => ∃ (a : Addr) (ns : List Int), vs = [.ref a] ∧ SqL K H a (ns.map V.int) ∧ ns.length ≤ 63 ∧
  ∀ (p : Addr) (H' : Hp) (ms : List Int), H p = none → Kp [] H H' → H' p = some (.lst (ms.map V.int)) → Rg ms → ms.length ≤ 3780 → Q (.ref p) H'
theorem mod6 (z : Int) : 0 ≤ z % 1000000 ∧ z % 1000000 < 1000000 := ⟨Int.emod_nonneg _ (by decide), Int.emod_lt_of_pos _ (by decide)⟩
theorem c_law_numbers (T : Txt K mg) : Cal P w K mg base 2 "_law_numbers" (spNumbers K) := by
  have c_law_mixed := c_law_mixed (P := P) (w := w) (base := base) T
  refine cal_of T.d_law_numbers sc_law_numbers (fun vs H Q E h => ?_) (fun f cdv A outer s H vs Q E hr h => ?_)
  · obtain ⟨a, k, rfl, _⟩ := h; rfl
  · obtain ⟨a, ns, rfl, hS, hlen, q⟩ := h
    refine ⟨_, (pss_cons (ps_set (i := 1) sc_law_numbers.nd rfl (Or.inl rfl) (pe_lst pa_nil))
  (pss_cons (ps_for PassesOwn.never rfl (pi_list (pv 0)) (pg_name (i := 2) sc_law_numbers.nd rfl (Or.inl rfl))
  (pss_one (ps_if (pt_cmpR op_ge (pv 2) (pe_op op_pow pe_int pe_int) (nomark _))
  (pss_cons (ps_set (i := 3) sc_law_numbers.nd rfl (Or.inl rfl) (pv 2))
  (pss_one (ps_for PassesOwn.never rfl (pi_range1 (by rfl) T.z_range (pa_cons pe_int pa_nil)) (pg_name (i := 4) sc_law_numbers.nd rfl (Or.inl rfl))
  (pss_one (ps_if (pt_cmpR op_gt (pv 3) pe_int (nomark _))
  (pss_cons (ps_expr (pe_bm PySem.F.plainAttrs_list PySem.F.slot_list_append PySem.F.type_list_append mt_append (pv 1) (pa_cons (pe_op op_mod (pv 3) pe_int) pa_nil)))
  (pss_one (ps_set (i := 3) sc_law_numbers.nd rfl (Or.inl rfl) (pe_op op_fdiv (pv 3) pe_int))))
  pss_nil)))))
  (pss_cons (ps_expr (pe_bm PySem.F.plainAttrs_list PySem.F.slot_list_append PySem.F.type_list_append mt_append (pv 1) (pa_cons (pe_op op_mod (pv 2) pe_int) pa_nil)))
  (pss_one (ps_for PassesOwn.never rfl (pi_range1 (by rfl) T.z_range (pa_cons pe_int pa_nil)) (pg_name (i := 4) sc_law_numbers.nd rfl (Or.inl rfl))
  (pss_one (ps_expr (pe_bm PySem.F.plainAttrs_list PySem.F.slot_list_append PySem.F.type_list_append mt_append (pv 1) (pa_cons (pe_op op_mod (pe_c c_law_mixed (hr.mono (by first | decide | omega)) rfl (pa_cons (pe_c c_law_mixed (hr.mono (by first | decide | omega)) rfl (pa_cons (pe_op op_mod (pv 2) pe_int) (pa_cons (pv 4) pa_nil))) (pa_cons (pe_op op_add (pv 4) pe_int) pa_nil))) pe_int) pa_nil))))))))))
  (pss_one (ps_ret (pv 1))))), ?_⟩
    refine ⟨Nat.zero_le _, fun p hp => ?_⟩
    have k0 : Kp [] H (upd H p (.lst [])) := Kp.new hp
    refine ⟨_, rfl, a, rfl, ⟨_, k0.seq hS nmem_nil⟩, for_list (K := K) (a := a) (xs := ns.map V.int) (fun i σ H2 => ∃ (ms : List Int) (c r kk : Option V), σ = [some (.ref a), some (.ref p), c, r, kk] ∧ Kp [] H H2 ∧ H2 p = some (.lst (ms.map V.int)) ∧ Rg ms ∧ ms.length ≤ 60 * i)
      ⟨[], none, none, none, rfl, k0, upd_same, Rg.nil, Nat.le_refl _⟩ (fun i σ H2 _ ⟨_, _, _, _, _, k2, _⟩ => k2.seq hS nmem_nil) ?_ ?_⟩
    · rintro i y σ H2 hi ⟨ms, c, r, kk, rfl, k2, hp2, rg, hl⟩
      obtain ⟨z, rfl, hz⟩ := int_item hi
      have hi63 : i < 63 := Nat.lt_of_lt_of_le (List.getElem?_eq_some_iff.mp hz).1 hlen
      refine ⟨_, rfl, _, _, rfl, rfl, ⟨by decide, by decide, by decide⟩, _, _, rfl, rfl, _, rfl, ?_⟩
      refine ite2 (fun hc => ?_) (fun hc => ?_)
      · refine ⟨_, rfl, _, rfl, (by decide), (by decide), for_range (n := 60) (fun j σ H3 => ∃ (ms : List Int) (r : Int) (kk : Option V), σ = [some (.ref a), some (.ref p), some (.int z), some (.int r), kk] ∧ Kp [] H H3 ∧ H3 p = some (.lst (ms.map V.int)) ∧ Rg ms ∧ ms.length ≤ 60 * i + j)
          ⟨ms, z, _, rfl, k2, hp2, rg, hl⟩ ?_ ?_⟩
        · rintro j σ H3 hj ⟨ms, r, kk, rfl, k3, hp3, rg3, hl3⟩
          refine ⟨_, rfl, _, _, rfl, rfl, _, rfl, ?_⟩
          refine ite2 (fun hc => ?_) (fun hc => ?_)
          · refine ⟨_, rfl, .inl ⟨rfl, _, SqL.of hp3⟩, _, rfl, _, _, rfl, rfl, (by show (0 : Int) < 1000000; decide), p, _, _, rfl, rfl, hp3, (by rw [List.length_map]; exact sz hl3), ?_⟩
            refine ⟨_, rfl, _, _, rfl, rfl, ⟨by decide, by decide⟩, ?_⟩
            exact ⟨ms ++ [r % 1000000], r / 1000000, _, rfl, k3.own hp, by rw [← int_snoc]; exact upd_same, rg3.snoc (mod6 r).1 (mod6 r).2, by rw [List.length_append, List.length_singleton]; omega⟩
          · exact ⟨ms, r, _, rfl, k3, hp3, rg3, by omega⟩
        · rintro σ H3 ⟨ms, r, kk, rfl, k3, hp3, rg3, hl3⟩
          exact ⟨ms, _, _, _, rfl, k3, hp3, rg3, by omega⟩
      · refine ⟨_, rfl, .inl ⟨rfl, _, SqL.of hp2⟩, _, rfl, _, _, rfl, rfl, (by show (0 : Int) < 1000000; decide), p, _, _, rfl, rfl, hp2, (by rw [List.length_map]; exact sz hl), ?_⟩
        refine ⟨_, rfl, (by decide), (by decide), for_range (n := 5) (fun j σ H3 => ∃ (ms : List Int) (r kk : Option V), σ = [some (.ref a), some (.ref p), some (.int z), r, kk] ∧ Kp [] H H3 ∧ H3 p = some (.lst (ms.map V.int)) ∧ Rg ms ∧ ms.length ≤ 60 * i + 1 + j)
          ⟨ms ++ [z % 1000000], _, _, rfl, k2.own hp, by rw [← int_snoc]; exact upd_same, rg.snoc (mod6 z).1 (mod6 z).2, by rw [List.length_append, List.length_singleton]; omega⟩ ?_ ?_⟩
        · rintro j σ H3 hj ⟨ms, r, kk, rfl, k3, hp3, rg3, hl3⟩
          refine ⟨_, rfl, .inl ⟨rfl, _, SqL.of hp3⟩, ?_⟩
          refine ⟨_, rfl, _, _, rfl, rfl, (by show (0 : Int) < 2147483647; decide), _, rfl, _, _, rfl, fun r1 h0 h1 => ?_⟩
          refine ⟨_, rfl, _, _, rfl, rfl, _, _, rfl, fun r2 h2 h3 => ?_⟩
          refine ⟨_, _, rfl, rfl, (by show (0 : Int) < 1000000; decide), p, _, _, rfl, rfl, hp3, (by rw [List.length_map]; exact sz hl3), ?_⟩
          exact ⟨ms ++ [r2 % 1000000], _, _, rfl, k3.own hp, by rw [← int_snoc]; exact upd_same, rg3.snoc (mod6 r2).1 (mod6 r2).2, by rw [List.length_append, List.length_singleton]; omega⟩
        · rintro σ H3 ⟨ms, r, kk, rfl, k3, hp3, rg3, hl3⟩
          exact ⟨ms, _, _, _, rfl, k3, hp3, rg3, by omega⟩
    · rintro σ H2 ⟨ms, c, r, kk, rfl, k2, hp2, rg, hl⟩
      refine ⟨_, rfl, ?_⟩
      rw [List.length_map] at hl
      exact q p H2 ms hp k2 hp2 rg (by omega)
/-- at d the pair of the drawn numbers, at n, and of how many are used -/
structure DrawsAt (H : Hp) (d n : Addr) (ns : List Int) (k : Int) : Prop where
  hd : H d = some (.lst [.ref n, .int k])
  hn : H n = some (.lst (ns.map V.int))
  rg : Rg ns
  k0 : 0 ≤ k
theorem DrawsAt.ne {H : Hp} {d n : Addr} {ns : List Int} {k : Int} (h : DrawsAt H d n ns k) : d ≠ n := by
  refine ne_of h.hd h.hn fun e => ?_
  cases ns with
  | nil => cases e
  | cons a r => injection e with e; injection e with e _; cases e
theorem DrawsAt.kp {M : List Addr} {H H' : Hp} {d n : Addr} {ns : List Int} {k : Int} (h : DrawsAt H d n ns k) (q : Kp M H H') (h1 : d ∉ M) (h2 : n ∉ M) : DrawsAt H' d n ns k := ⟨q.at h.hd h1, q.at h.hn h2, h.rg, h.k0⟩
def spDraw : Sp := fun vs H Q _ => ∃ (d n : Addr) (ns : List Int) (k : Int), vs = [.ref d] ∧ DrawsAt H d n ns k ∧
  ∀ (r : Int) (H' : Hp), 0 ≤ r → r < 1000000 → Kp [d] H H' → DrawsAt H' d n ns (k + 1) → Q (.int r) H'
theorem c_law_draw (T : Txt K mg) : Cal P w K mg base 2 "_law_draw" spDraw := by
  have c_law_mixed := c_law_mixed (P := P) (w := w) (base := base) T
  refine cal_of T.d_law_draw sc_law_draw (fun vs H Q E h => ?_) (fun f cdv A outer s H vs Q E hr h => ?_)
  · obtain ⟨d, n, ns, k, rfl, _⟩ := h; rfl
  · obtain ⟨d, n, ns, k, rfl, D, q⟩ := h
    have k0 := D.k0
    refine ⟨_, (pss_cons (ps_set (i := 1) sc_law_draw.nd rfl (Or.inl rfl) (pe_ix (ixL (K := K)) (pv 0) pe_int (fun _ _ => rfl)))
  (pss_cons (ps_asg (pe_op op_add (pv 1) pe_int) (pg_sub (pv 0) pe_int set_list))
  (pss_cons (ps_if (pt_cmpR op_lt (pv 1) (pe_callB (lenK (K := K)) (by rfl) T.z_len (by decide +kernel) (pa_cons (pe_ix (ixL (K := K)) (pv 0) pe_int (fun _ _ => rfl)) pa_nil)) (nomark _))
  (pss_one (ps_ret (pe_ix (ixL (K := K)) (pe_ix (ixL (K := K)) (pv 0) pe_int (fun _ _ => rfl)) (pv 1) (fun _ _ => rfl))))
  pss_nil)
  (pss_cons (ps_set (i := 2) sc_law_draw.nd rfl (Or.inl rfl) (pe_op op_add pe_int (pv 1)))
  (pss_cons (ps_if (pt_cmpR op_gt (pe_callB (lenK (K := K)) (by rfl) T.z_len (by decide +kernel) (pa_cons (pe_ix (ixL (K := K)) (pv 0) pe_int (fun _ _ => rfl)) pa_nil)) pe_int (nomark _))
  (pss_one (ps_set (i := 2) sc_law_draw.nd rfl (Or.inl rfl) (pe_op op_add (pv 2) (pe_op op_mul pe_int (pe_ix (ixL (K := K)) (pe_ix (ixL (K := K)) (pv 0) pe_int (fun _ _ => rfl)) pe_int (fun _ _ => rfl))))))
  pss_nil)
  (pss_one (ps_ret (pe_op op_mod (pe_c c_law_mixed (hr.mono (by first | decide | omega)) rfl (pa_cons (pe_c c_law_mixed (hr.mono (by first | decide | omega)) rfl (pa_cons (pv 2) (pa_cons (pv 1) pa_nil))) (pa_cons pe_int pa_nil))) pe_int)))))))), ?_⟩
    refine ⟨_, rfl, d, _, _, _, rfl, rfl, SqL.of D.hd, rfl, ?_⟩
    refine ⟨_, rfl, _, _, rfl, rfl, _, rfl, d, _, _, 1, rfl, rfl, D.hd, rfl, ?_⟩
    have hk : Kp [d] H (upd H d (.lst [.ref n, .int (k + 1)])) := Kp.old D.hd trivial List.mem_cons_self
    have D' : DrawsAt (upd H d (.lst [.ref n, .int (k + 1)])) d n ns (k + 1) := ⟨upd_same, (upd_ne D.ne.symm).trans D.hn, D.rg, by omega⟩
    obtain ⟨H1, eH⟩ : ∃ H1, H1 = upd H d (.lst [.ref n, .int (k + 1)]) := ⟨_, rfl⟩
    rw [← eH] at hk D'
    refine Eq.mp (congrArg _ eH) ?_
    refine ⟨_, rfl, _, rfl, d, _, _, _, rfl, rfl, SqL.of D'.hd, rfl, n, _, rfl, .inl (SqL.of D'.hn), _, _, rfl, rfl, _, rfl, ?_⟩
    refine ite2 (fun hc => ?_) (fun hc => ?_)
    · have hc := of_decide_eq_true hc
      rw [List.length_map] at hc
      have hlt : k.toNat < ns.length := by omega
      have hz : ns[k.toNat]? = some ns[k.toNat] := by simp [hlt]
      have hr := D.rg _ (List.getElem_mem hlt)
      refine ⟨_, rfl, d, _, _, _, rfl, rfl, SqL.of D'.hd, rfl, _, rfl, n, _, _, _, rfl, rfl, SqL.of D'.hn, int_at k0 hz, ?_⟩
      exact q _ _ hr.1 hr.2 hk D'
    · refine ⟨_, rfl, _, _, rfl, rfl, ?_⟩
      refine ⟨_, rfl, d, _, _, _, rfl, rfl, SqL.of D'.hd, rfl, n, _, rfl, .inl (SqL.of D'.hn), _, _, rfl, rfl, _, rfl, ?_⟩
      have fin : ∀ f : Int, ∃ v, ([some (V.ref d), some (V.int k), some (V.int f)] : L2.St)[2]? = some (some v) ∧ ∃ u, ([some (V.ref d), some (V.int k), some (V.int f)] : L2.St)[1]? = some (some u) ∧ spMixed [v, u] H1 (fun x H2 => spMixed [x, .int 5] H2 (fun y H3 => ∃ i j, y = .int i ∧ V.int 1000000 = .int j ∧ 0 < j ∧ Q (.int (i % j)) H3) E0) E0 := fun f =>
        ⟨_, rfl, _, rfl, _, _, rfl, fun r1 h0 h1 => ⟨_, _, rfl, fun r2 h2 h3 => ⟨_, _, rfl, rfl, by decide, q _ _ (mod6 r2).1 (mod6 r2).2 hk D'⟩⟩⟩
      refine ite2 (fun hc => ?_) (fun hc => ?_)
      · have hc := of_decide_eq_true hc
        rw [List.length_map] at hc
        have hlt : 0 < ns.length := by omega
        have hz : ns[(0 : Int).toNat]? = some ns[0] := by simp [hlt]
        refine ⟨_, rfl, _, rfl, d, _, _, _, rfl, rfl, SqL.of D'.hd, rfl, n, _, _, _, rfl, rfl, SqL.of D'.hn, int_at (by decide) hz, _, _, rfl, rfl, .inl ⟨by decide, by decide⟩, _, _, rfl, rfl, ?_⟩
        exact fin _
      · exact fin _
end

end MD
namespace MD
open PySem PySem.Spec PyProof.Rows L2
local macro_rules | `(tactic| walk_at "ne") => `(tactic| first | assumption | (apply Ne.symm; assumption) | exact ne_of_none (by assumption) (by assumption) | exact (ne_of_none (by assumption) (by assumption)).symm)
local macro_rules | `(tactic| walk_at "hp") => `(tactic| first | assumption | exact upd_same | (refine (upd_ne ?_).trans ?_; (focus walk_at "ne"); walk_at "hp"))
local macro_rules | `(tactic| walk_at "nm") => `(tactic| first | exact nmem_nil | exact nmem_one (by walk_at "ne") | exact nmem_cons (by walk_at "ne") (by walk_at "nm"))
/-! ### deep equality -/
section
variable {P : Program} {w : World} {K : PySem.W.Frag} {mg : Str → Option Value} {base : Heap}
def spEq (K : PySem.W.Frag) (n : Nat) : Sp := fun vs H Q _ => ∃ (d : D) (x y : V), vs = [x, y] ∧ Rep K H d x ∧ Rep K H d y ∧ d.ok n ∧ Q (.bl true) H
def spEqs (K : PySem.W.Frag) (n : Nat) : Sp := fun vs H Q _ => ∃ (l : Bool) (ds : List D) (a b : Addr) (xs ys : List V), vs = [.ref a, .ref b] ∧ SqB K H l a xs ∧ SqB K H l b ys ∧ Reps K H ds xs ∧ Reps K H ds ys ∧
  ds.length ≤ 100000 ∧ (∀ d ∈ ds, D.ok n d) ∧ Q (.bl true) H
theorem ok_eqs (T : Txt K mg) (n k : Nat) (c_law_equal : Cal P w K mg base k "_law_equal" (spEq K n)) : Cal P w K mg base (k + 1) "_law_all_equal" (spEqs K n) := by
  refine cal_of T.d_law_all_equal sc_law_all_equal (fun vs H Q E h => ?_) (fun f cdv A outer s H vs Q E hr h => ?_)
  · obtain ⟨l, ds, a, b, xs, ys, rfl, _⟩ := h; rfl
  · obtain ⟨l, ds, a, b, xs, ys, rfl, ha, hb, rx, ry, hz, hk, q⟩ := h
    refine ⟨_, (pss_cons (ps_for PassesOwn.never rfl (pi_range1 (by rfl) T.z_range (pa_cons (pe_callB (lenK (K := K)) (by rfl) T.z_len (by decide +kernel) (pa_cons (pv 1) pa_nil)) pa_nil)) (pg_name (i := 2) sc_law_all_equal.nd rfl (Or.inl rfl))
  (pss_one (ps_if (pt_not (pt_val (pe_c c_law_equal (hr.mono (by first | decide | omega)) rfl (pa_cons (pe_ix (ixS (K := K)) (pv 0) (pv 2) (fun _ _ => rfl)) (pa_cons (pe_ix (ixS (K := K)) (pv 1) (pv 2) (fun _ _ => rfl)) pa_nil)))))
  (pss_one (ps_ret pe_bl))
  pss_nil)))
  (pss_one (ps_ret pe_bl))), ?_⟩
    have ly := ry.len
    refine ⟨_, rfl, b, ys, rfl, hb.any, _, rfl, (by omega), (by omega), for_range (n := ys.length) (fun i σ H2 => H2 = H ∧ ∃ kk : Option V, σ = [some (.ref a), some (.ref b), kk]) ⟨rfl, none, rfl⟩ ?_ ?_⟩
    · rintro i σ H2 hi ⟨rfl, kk, rfl⟩
      obtain ⟨d, hd⟩ : ∃ d, ds[i]? = some d := ⟨ds[i]'(by omega), by simp [show i < ds.length by omega]⟩
      obtain ⟨x, ex, rdx⟩ := rx.get hd
      obtain ⟨y, ey, rdy⟩ := ry.get hd
      have e0 : (0 : Int) + (i : Int) = (i : Int) := by omega
      have ax : atI xs ((0 : Int) + (i : Int)) = some x := by rw [e0]; exact atI_nat ex
      have ay : atI ys ((0 : Int) + (i : Int)) = some y := by rw [e0]; exact atI_nat ey
      cases l with
      | true =>
        refine ⟨_, rfl, _, rfl, .inl ⟨a, xs, _, x, rfl, rfl, ha, ax, _, rfl, _, rfl, .inl ⟨b, ys, _, y, rfl, rfl, hb, ay, d, x, y, rfl, rdx, rdy, hk d (List.mem_of_getElem? hd), _, rfl, ?_⟩⟩⟩
        exact ⟨rfl, _, rfl⟩
      | false =>
        refine ⟨_, rfl, _, rfl, .inr (.inl ⟨a, xs, _, x, rfl, rfl, ha, ax, _, rfl, _, rfl, .inr (.inl ⟨b, ys, _, y, rfl, rfl, hb, ay, d, x, y, rfl, rdx, rdy, hk d (List.mem_of_getElem? hd), _, rfl, ?_⟩)⟩)⟩
        exact ⟨rfl, _, rfl⟩
    · rintro σ H2 ⟨rfl, kk, rfl⟩
      exact q
theorem ok_eq (T : Txt K mg) : ∀ n : Nat, Cal P w K mg base (2 * n + 1) "_law_equal" (spEq K n)
  | 0 => by
    have c_law_all_equal : Cal P w K mg base 0 "_law_all_equal" (fun _ _ _ _ => False) := by
      obtain ⟨f, fd, hm, F, b⟩ := T.d_law_all_equal.ex
      exact ⟨f, fd, _, ⟨fun _ _ _ _ h => h.elim, fun _ _ _ _ _ _ _ _ _ _ _ _ _ h => h.elim⟩, hm, F.kp, b⟩
    exact go T 0 0 _ c_law_all_equal (fun _ _ _ ⟨m, hm, _⟩ => absurd hm (by omega))
  | n + 1 => by
    have c_law_all_equal := ok_eqs T n (2 * n + 1) (ok_eq T n)
    exact go T (n + 1) (2 * n + 2) _ c_law_all_equal (fun vs H Q h => by
      obtain ⟨m, hm, h⟩ := h
      cases hm
      exact h)
where
  go (T : Txt K mg) (n k : Nat) (sp : Sp) (c_law_all_equal : Cal P w K mg base k "_law_all_equal" sp) (hsp : ∀ vs H Q, (∃ m, n = m + 1 ∧ spEqs K m vs H Q E0) → sp vs H Q E0) : Cal P w K mg base (k + 1) "_law_equal" (spEq K n) := by
    refine cal_of T.d_law_equal sc_law_equal (fun vs H Q E h => ?_) (fun f cdv A outer s H vs Q E hr h => ?_)
    · obtain ⟨d, x, y, rfl, _⟩ := h; rfl
    · obtain ⟨d, x, y, rfl, rx, ry, ok, q⟩ := h
      refine ⟨_, (pss_cons (ps_if (pt_val (pe_callB (isiK (K := K)) (by rfl) T.z_isinstance (by decide +kernel) (pa_cons (pv 1) (pa_cons (pe_bltn (v := .ty "list") (by rfl) T.z_list (by decide +kernel) rfl) pa_nil))))
  (pss_cons (ps_if (PW.pt (pw_or (pt_not (pt_val (pe_callB (isiK (K := K)) (by rfl) T.z_isinstance (by decide +kernel) (pa_cons (pv 0) (pa_cons (pe_bltn (v := .ty "list") (by rfl) T.z_list (by decide +kernel) rfl) pa_nil))))) (pw_or1 (pt_cmpR op_ne (pe_callB (lenK (K := K)) (by rfl) T.z_len (by decide +kernel) (pa_cons (pv 0) pa_nil)) (pe_callB (lenK (K := K)) (by rfl) T.z_len (by decide +kernel) (pa_cons (pv 1) pa_nil)) (nomark _)))))
  (pss_one (ps_ret pe_bl))
  pss_nil)
  (pss_one (ps_ret (pe_c c_law_all_equal (hr.mono (by first | decide | omega)) rfl (pa_cons (pv 0) (pa_cons (pv 1) pa_nil))))))
  pss_nil)
  (pss_cons (ps_if (pt_val (pe_callB (isiK (K := K)) (by rfl) T.z_isinstance (by decide +kernel) (pa_cons (pv 1) (pa_cons (pe_bltn (v := .ty "tuple") (by rfl) T.z_tuple (by decide +kernel) rfl) pa_nil))))
  (pss_cons (ps_if (PW.pt (pw_or (pt_not (pt_val (pe_callB (isiK (K := K)) (by rfl) T.z_isinstance (by decide +kernel) (pa_cons (pv 0) (pa_cons (pe_bltn (v := .ty "tuple") (by rfl) T.z_tuple (by decide +kernel) rfl) pa_nil))))) (pw_or1 (pt_cmpR op_ne (pe_callB (lenK (K := K)) (by rfl) T.z_len (by decide +kernel) (pa_cons (pv 0) pa_nil)) (pe_callB (lenK (K := K)) (by rfl) T.z_len (by decide +kernel) (pa_cons (pv 1) pa_nil)) (nomark _)))))
  (pss_one (ps_ret pe_bl))
  pss_nil)
  (pss_one (ps_ret (pe_c c_law_all_equal (hr.mono (by first | decide | omega)) rfl (pa_cons (pv 0) (pa_cons (pv 1) pa_nil))))))
  pss_nil)
  (pss_cons (ps_if (pt_val (pe_callB (isiK (K := K)) (by rfl) T.z_isinstance (by decide +kernel) (pa_cons (pv 1) (pa_cons (pe_bltn (v := .ty "bool") (by rfl) T.z_bool (by decide +kernel) rfl) pa_nil))))
  (pss_one (ps_ret (pe_and (pe_callB (isiK (K := K)) (by rfl) T.z_isinstance (by decide +kernel) (pa_cons (pv 0) (pa_cons (pe_bltn (v := .ty "bool") (by rfl) T.z_bool (by decide +kernel) rfl) pa_nil))) (pe_one (pe_cmpR op_eq (pv 0) (pv 1) (nomark _))))))
  pss_nil)
  (pss_cons (ps_if (pt_val (pe_callB (isiK (K := K)) (by rfl) T.z_isinstance (by decide +kernel) (pa_cons (pv 1) (pa_cons (pe_bltn (v := .ty "int") (by rfl) T.z_int (by decide +kernel) rfl) pa_nil))))
  (pss_one (ps_ret (pe_and (pe_callB (isiK (K := K)) (by rfl) T.z_isinstance (by decide +kernel) (pa_cons (pv 0) (pa_cons (pe_bltn (v := .ty "int") (by rfl) T.z_int (by decide +kernel) rfl) pa_nil))) (pe_and (pe_not (pe_callB (isiK (K := K)) (by rfl) T.z_isinstance (by decide +kernel) (pa_cons (pv 0) (pa_cons (pe_bltn (v := .ty "bool") (by rfl) T.z_bool (by decide +kernel) rfl) pa_nil)))) (pe_one (pe_cmpR op_eq (pv 0) (pv 1) (nomark _)))))))
  pss_nil)
  (pss_cons (ps_if (pt_val (pe_callB (isiK (K := K)) (by rfl) T.z_isinstance (by decide +kernel) (pa_cons (pv 1) (pa_cons (pe_bltn (v := .ty "str") (by rfl) T.z_str (by decide +kernel) rfl) pa_nil))))
  (pss_one (ps_ret (pe_and (pe_callB (isiK (K := K)) (by rfl) T.z_isinstance (by decide +kernel) (pa_cons (pv 0) (pa_cons (pe_bltn (v := .ty "str") (by rfl) T.z_str (by decide +kernel) rfl) pa_nil))) (pe_one (pe_cmpR op_eq (pv 0) (pv 1) (nomark _))))))
  pss_nil)
  (pss_one (ps_ret (pe_cmpR op_isN (pv 0) pe_non (nomark _))))))))), ?_⟩
      cases d with
      | v u =>
        unfold Rep at rx ry
        obtain ⟨e1, su⟩ := rx
        obtain ⟨e2, _⟩ := ry
        subst x
        subst y
        cases u with
        | non =>
          refine ⟨_, rfl, _, _, _, _, false, rfl, .ty _, (.base .non), kit_ty (by decide +kernel), _, rfl, iteF ?_⟩
          refine ⟨_, rfl, _, _, _, _, false, rfl, .ty _, (.base .non), kit_ty (by decide +kernel), _, rfl, iteF ?_⟩
          refine ⟨_, rfl, _, _, _, _, false, rfl, .ty _, (.base .non), kit_ty (by decide +kernel), _, rfl, iteF ?_⟩
          refine ⟨_, rfl, _, _, _, _, false, rfl, .ty _, (.base .non), kit_ty (by decide +kernel), _, rfl, iteF ?_⟩
          refine ⟨_, rfl, _, _, _, _, false, rfl, .ty _, (.base .non), kit_ty (by decide +kernel), _, rfl, iteF ?_⟩
          exact ⟨_, rfl, rfl, q⟩
        | bl b =>
          refine ⟨_, rfl, _, _, _, _, false, rfl, .ty _, (.base (.bl b)), kit_ty (by decide +kernel), _, rfl, iteF ?_⟩
          refine ⟨_, rfl, _, _, _, _, false, rfl, .ty _, (.base (.bl b)), kit_ty (by decide +kernel), _, rfl, iteF ?_⟩
          refine ⟨_, rfl, _, _, _, _, true, rfl, .ty _, (.base (.bl b)), kit_ty (by decide +kernel), _, rfl, iteT ?_⟩
          refine ⟨_, rfl, _, _, _, _, true, rfl, .ty _, (.base (.bl b)), kit_ty (by decide +kernel), _, rfl, iteT ?_⟩
          refine ⟨_, rfl, _, rfl, rfl, ?_⟩
          rw [decide_eq_true rfl]; exact q
        | int i =>
          refine ⟨_, rfl, _, _, _, _, false, rfl, .ty _, (.base (.int i)), kit_ty (by decide +kernel), _, rfl, iteF ?_⟩
          refine ⟨_, rfl, _, _, _, _, false, rfl, .ty _, (.base (.int i)), kit_ty (by decide +kernel), _, rfl, iteF ?_⟩
          refine ⟨_, rfl, _, _, _, _, false, rfl, .ty _, (.base (.int i)), kit_ty (by decide +kernel), _, rfl, iteF ?_⟩
          refine ⟨_, rfl, _, _, _, _, true, rfl, .ty _, (.base (.int i)), kit_ty (by decide +kernel), _, rfl, iteT ?_⟩
          refine ⟨_, rfl, _, _, _, _, true, rfl, .ty _, (.base (.int i)), kit_ty (by decide +kernel), _, rfl, iteT ?_⟩
          refine ⟨_, rfl, _, _, _, _, false, rfl, .ty _, (.base (.int i)), kit_ty (by decide +kernel), _, rfl, _, rfl, iteT ?_⟩
          refine ⟨_, rfl, _, rfl, rfl, ?_⟩
          rw [decide_eq_true rfl]; exact q
        | str z =>
          refine ⟨_, rfl, _, _, _, _, false, rfl, .ty _, (.base (.str z)), kit_ty (by decide +kernel), _, rfl, iteF ?_⟩
          refine ⟨_, rfl, _, _, _, _, false, rfl, .ty _, (.base (.str z)), kit_ty (by decide +kernel), _, rfl, iteF ?_⟩
          refine ⟨_, rfl, _, _, _, _, false, rfl, .ty _, (.base (.str z)), kit_ty (by decide +kernel), _, rfl, iteF ?_⟩
          refine ⟨_, rfl, _, _, _, _, false, rfl, .ty _, (.base (.str z)), kit_ty (by decide +kernel), _, rfl, iteF ?_⟩
          refine ⟨_, rfl, _, _, _, _, true, rfl, .ty _, (.base (.str z)), kit_ty (by decide +kernel), _, rfl, iteT ?_⟩
          refine ⟨_, rfl, _, _, _, _, true, rfl, .ty _, (.base (.str z)), kit_ty (by decide +kernel), _, rfl, iteT ?_⟩
          refine ⟨_, rfl, _, rfl, rfl, ?_⟩
          rw [decide_eq_true rfl]; exact q
        | _ => cases su
      | sq l ds =>
        unfold Rep at rx ry
        obtain ⟨a, xs, rfl, ha, rxs⟩ := rx
        obtain ⟨b, ys, rfl, hb, rys⟩ := ry
        have ll : (xs.length : Int) = ys.length := by rw [rxs.len, rys.len]
        cases n with
        | zero => unfold D.ok at ok; exact ok.elim
        | succ m =>
          unfold D.ok at ok
          have fin : sp [.ref a, .ref b] H Q E0 := hsp _ _ _ ⟨m, rfl, l, ds, a, b, xs, ys, rfl, ha, hb, rxs, rys, ok.1, ok.2, q⟩
          cases l with
          | true =>
            refine ⟨_, rfl, _, _, _, _, true, rfl, .ty _, ty_sq hb, kit_ty (by decide +kernel), _, rfl, iteT ?_⟩
            refine ⟨_, rfl, _, _, _, _, true, rfl, .ty _, ty_sq ha, kit_ty (by decide +kernel), _, rfl, iteF ?_⟩
            refine ⟨_, rfl, a, xs, rfl, ha.any, _, rfl, b, ys, rfl, hb.any, rfl, _, rfl, iteNS (by rw [ll]) ?_⟩
            exact ⟨_, rfl, _, rfl, fin⟩
          | false =>
            refine ⟨_, rfl, _, _, _, _, false, rfl, .ty _, ty_sq hb, kit_ty (by decide +kernel), _, rfl, iteF ?_⟩
            refine ⟨_, rfl, _, _, _, _, true, rfl, .ty _, ty_sq hb, kit_ty (by decide +kernel), _, rfl, iteT ?_⟩
            refine ⟨_, rfl, _, _, _, _, true, rfl, .ty _, ty_sq ha, kit_ty (by decide +kernel), _, rfl, iteF ?_⟩
            refine ⟨_, rfl, a, xs, rfl, ha.any, _, rfl, b, ys, rfl, hb.any, rfl, _, rfl, iteNS (by rw [ll]) ?_⟩
            exact ⟨_, rfl, _, rfl, fin⟩
end

end MD
namespace MD
open PySem PySem.Spec PyProof.Rows L2
local macro_rules | `(tactic| walk_at "ne") => `(tactic| first | assumption | (apply Ne.symm; assumption) | exact ne_of_none (by assumption) (by assumption) | exact (ne_of_none (by assumption) (by assumption)).symm)
local macro_rules | `(tactic| walk_at "hp") => `(tactic| first | assumption | exact upd_same | (refine (upd_ne ?_).trans ?_; (focus walk_at "ne"); walk_at "hp"))
local macro_rules | `(tactic| walk_at "nm") => `(tactic| first | exact nmem_nil | exact nmem_one (by walk_at "ne") | exact nmem_cons (by walk_at "ne") (by walk_at "nm"))
/-! ### one wire -/
section
variable {P : Program} {w : World} {K : PySem.W.Frag} {mg : Str → Option Value} {base : Heap}
def fW (a b c : V) : List (Str × V) := [("sent", a), ("outbox", b), ("expected", c)]
def obD (ob : List (Int × D)) : List D := ob.map fun q => D.sq false [.v (.int q.1), q.2]
/-- a wire stands at p, its outbox at l: sent s, expected e, the pairs ob -/
structure WireAt (C : Addr) (H : Hp) (p l : Addr) (s e : Int) (ob : List (Int × D)) : Prop where
  hp : ∃ dx, H p = some (.ins C dx (fW (.int s) (.ref l) (.int e)))
  hl : ∃ vs, H l = some (.lst vs) ∧ RepTs H (obD ob) vs
theorem WireAt.kp {M : List Addr} {C : Addr} {H H' : Hp} {p l : Addr} {s e : Int} {ob : List (Int × D)} (h : WireAt C H p l s e ob) (k : Kp M H H') (h1 : p ∉ M) (h2 : l ∉ M) : WireAt C H' p l s e ob := by
  obtain ⟨⟨dx, a⟩, vs, b, c⟩ := h
  exact ⟨⟨dx, k.at a h1⟩, vs, k.at b h2, c.kp k⟩
theorem WireAt.ne {C : Addr} {H : Hp} {p l : Addr} {s e : Int} {ob : List (Int × D)} (h : WireAt C H p l s e ob) : p ≠ l := by
  obtain ⟨⟨dx, a⟩, vs, b, c⟩ := h
  exact ne_of a b (by intro z; cases z)
def spWInit (C : Addr) : Sp := fun vs H Q _ => ∃ (p dx : Addr), vs = [.ref p] ∧ H p = some (.ins C dx []) ∧ ∀ (l : Addr) (H' : Hp), H l = none → Kp [p] H H' → WireAt C H' p l 0 0 [] → Q .non H'
theorem k_Wire (T : Txt K mg) : Mak P w K mg base 1 "Wire" T.C_Wire (spWInit T.C_Wire) := by
  refine mak_of T.mk_Wire sc_Wire___init__ (fun vs H Q E h => ?_) (fun f cdv A outer s H vs Q E hr h => ?_)
  · obtain ⟨p, dx, rfl, _⟩ := h; rfl
  · obtain ⟨p, dx, rfl, hp, q⟩ := h
    refine ⟨_, (pss_cons (ps_fld (pv 0) pe_int rfl)
  (pss_cons (ps_fld (pv 0) (pe_lst pa_nil) rfl)
  (pss_one (ps_fld (pv 0) pe_int rfl)))), ?_⟩
    refine ⟨_, rfl, p, _, dx, _, rfl, hp, T.cl_Wire, T.na_Wire_sent, (by show 0 < 1000; decide), ?_⟩
    refine ⟨Nat.zero_le _, fun l hl => ?_⟩
    have npl : p ≠ l := ne_of_none upd_same hl
    have hl0 : H l = none := by rw [upd_ne npl.symm] at hl; exact hl
    refine ⟨_, rfl, p, _, dx, _, rfl, (by walk_at "hp"), T.cl_Wire, T.na_Wire_outbox, (by show 1 < 1000; decide), ?_⟩
    refine ⟨_, rfl, p, _, dx, _, rfl, (by walk_at "hp"), T.cl_Wire, T.na_Wire_expected, (by show 2 < 1000; decide), ?_⟩
    refine q l _ hl0 ((((Kp.old hp trivial List.mem_cons_self).nw hl).wrI (upd_ne npl |>.trans upd_same) List.mem_cons_self).wrI upd_same List.mem_cons_self) ⟨⟨dx, upd_same⟩, [], by walk_at "hp", RepTs.nil⟩
def spSend (C : Addr) : Sp := fun vs H Q _ => ∃ (p l : Addr) (s e : Int) (ob : List (Int × D)) (d : D) (b : V), vs = [.ref p, b] ∧ WireAt C H p l s e ob ∧ RepT H d b ∧ ob.length < 100000 ∧
  ∀ H' : Hp, Kp [p, l] H H' → WireAt C H' p l (s + 1) e (ob ++ [(s, d)]) → Q (.int s) H'
theorem m_send (T : Txt K mg) : Met P w K mg base 1 T.C_Wire "send" (spSend T.C_Wire) := by
  refine met_of T.cl_Wire T.me_Wire_send sc_Wire_send (fun vs H Q E h => ?_) (fun f cdv A outer s H vs Q E hr h => ?_)
  · obtain ⟨p, l, s, e, ob, d, b, rfl, _⟩ := h; rfl
  · obtain ⟨p, l, s, e, ob, d, b, rfl, W, rd, hlen, q⟩ := h
    have npl := W.ne
    obtain ⟨⟨dx, hp⟩, vs, hl, ro⟩ := W
    refine ⟨_, (pss_cons (ps_set (i := 2) sc_Wire_send.nd rfl (Or.inl rfl) (fldK (K := K) (pv 0) rfl))
  (pss_cons (ps_expr (pe_bm PySem.F.plainAttrs_list PySem.F.slot_list_append PySem.F.type_list_append mt_append (fldK (K := K) (pv 0) rfl) (pa_cons (pe_tup (pa_cons (pv 2) (pa_cons (pv 1) pa_nil))) pa_nil)))
  (pss_cons (ps_fldaug (pv 0) pe_int in_add)
  (pss_one (ps_ret (pv 2)))))), ?_⟩
    refine ⟨_, rfl, p, _, dx, _, _, rfl, hp, T.cl_Wire, T.na_Wire_sent, rfl, ?_⟩
    refine ⟨_, rfl, p, _, dx, _, _, rfl, hp, T.cl_Wire, T.na_Wire_outbox, rfl, .inl ⟨rfl, _, SqL.of hl⟩, _, rfl, _, rfl, (by show 2 ≤ sizeLine; decide), fun t ht => ?_⟩
    have hlv : vs.length = ob.length := by rw [ro.len]; unfold obD; rw [List.length_map]
    refine ⟨l, vs, _, rfl, rfl, (by walk_at "hp"), (by rw [hlv]; exact sz (Nat.le_refl _) hlen), ?_⟩
    refine ⟨_, rfl, p, _, dx, _, _, rfl, (by walk_at "hp"), T.cl_Wire, T.na_Wire_sent, rfl, _, _, rfl, rfl, _, _, (by walk_at "hp"), (by show 3 < 1000; decide), ?_⟩
    refine ⟨_, rfl, ?_⟩
    have k1 : Kp [p, l] H (upd H t (.tup [.int s, b])) := Kp.new ht
    have k2 := k1.wr (o := .lst (vs ++ [.ref t])) (p := l) (upd_ne (ne_of_none hl ht) |>.trans hl) trivial (by simp)
    have k3 := k2.wr (o := .ins T.C_Wire dx (fW (.int (s + 1)) (.ref l) (.int e))) (p := p) (u := .ins T.C_Wire dx (fW (.int s) (.ref l) (.int e))) (by walk_at "hp") trivial (by simp)
    refine q _ k3 ⟨⟨dx, upd_same⟩, vs ++ [.ref t], by walk_at "hp", ?_⟩
    unfold obD
    rw [List.map_append]
    exact RepTs.snoc (RepT.tup (by walk_at "hp") (RepTs.cons RepT.int (RepTs.cons (rd.kp k3) RepTs.nil))) (ro.kp k3)
def spTake (C : Addr) : Sp := fun vs H Q _ => ∃ (p l : Addr) (s e : Int) (ob : List (Int × D)) (n : Int), vs = [.ref p, .int n] ∧ WireAt C H p l s e ob ∧
  ∀ H' : Hp, Kp [p] H H' → WireAt C H' p l s (if n = e then e + 1 else e) ob → Q (.bl (decide (n = e))) H'
theorem m_take (T : Txt K mg) : Met P w K mg base 1 T.C_Wire "take" (spTake T.C_Wire) := by
  refine met_of T.cl_Wire T.me_Wire_take sc_Wire_take (fun vs H Q E h => ?_) (fun f cdv A outer s H vs Q E hr h => ?_)
  · obtain ⟨p, l, s, e, ob, n, rfl, _⟩ := h; rfl
  · obtain ⟨p, l, s, e, ob, n, rfl, W, q⟩ := h
    have npl := W.ne
    obtain ⟨⟨dx, hp⟩, vs, hl, ro⟩ := id W
    refine ⟨_, (pss_cons (ps_if (pt_cmpR op_ne (pv 1) (fldK (K := K) (pv 0) rfl) (nomark _))
  (pss_one (ps_ret pe_bl))
  pss_nil)
  (pss_cons (ps_fldaug (pv 0) pe_int in_add)
  (pss_one (ps_ret pe_bl)))), ?_⟩
    refine ⟨_, rfl, _, rfl, p, _, dx, _, _, rfl, hp, T.cl_Wire, T.na_Wire_expected, rfl, rfl, _, rfl, ?_⟩
    by_cases hc : n = e
    · subst hc
      refine iteNS rfl ?_
      refine ⟨_, rfl, p, _, dx, _, _, rfl, hp, T.cl_Wire, T.na_Wire_expected, rfl, _, _, rfl, rfl, _, _, hp, (by show 3 < 1000; decide), ?_⟩
      have k3 : Kp [p] H (upd H p (.ins T.C_Wire dx (fW (.int s) (.ref l) (.int (n + 1))))) := Kp.old hp trivial (by simp)
      have := q _ k3 ⟨⟨dx, by rw [if_pos rfl]; exact upd_same⟩, vs, by walk_at "hp", ro.kp k3⟩
      rw [decide_eq_true rfl] at this
      exact this
    · have e1 : (!decide (V.int n = V.int e)) = true := by
        rw [decide_eq_false (fun z => hc (V.int.inj z))]; rfl
      rw [e1]
      refine iteT ?_
      have := q H Kp.refl (by rw [if_neg hc]; exact W)
      rw [decide_eq_false hc] at this
      exact this
def spAck (C : Addr) : Sp := fun vs H Q _ => ∃ (p l : Addr) (s e : Int) (ob : List (Int × D)) (n : Int), vs = [.ref p, .int n] ∧ WireAt C H p l s e ob ∧ ob.length < 100000 ∧
  ∀ (l' : Addr) (H' : Hp), H l' = none → Kp [p] H H' → WireAt C H' p l' s e (ob.filter fun q => decide (n < q.1)) → Q .non H'
/-- one turn of [pair for pair in xs if pair[0] > n]: what the list holds behind i items -/
theorem ob_turn {H : Hp} {ob : List (Int × D)} {vs : List V} (r : RepTs H (obD ob) vs) {i : Nat} {x : V} (hx : vs[i]? = some x) :
    ∃ q t c, ob[i]? = some q ∧ x = .ref t ∧ H t = some (.tup [.int q.1, c]) ∧ RepT H q.2 c := by
  obtain ⟨d, hd, rd⟩ := r.get hx
  unfold obD at hd
  rw [List.getElem?_map] at hd
  cases e : ob[i]? with
  | none => rw [e] at hd; cases hd
  | some q =>
    rw [e] at hd
    cases hd
    unfold RepT at rd
    obtain ⟨_, t, ws, rfl, ht, rs⟩ := rd
    unfold RepTs at rs
    obtain ⟨v1, r1, rfl, h1, h2⟩ := rs
    unfold RepTs at h2
    obtain ⟨v2, r2, rfl, h3, h4⟩ := h2
    unfold RepTs at h4
    subst h4
    unfold RepT at h1
    obtain ⟨rfl, _⟩ := h1
    exact ⟨q, t, v2, rfl, rfl, ht, h3⟩
theorem take_more {α : Type} {l : List α} {i : Nat} {x : α} (h : l[i]? = some x) : l.take (i + 1) = l.take i ++ [x] := by
  rw [List.take_add_one, h]; rfl
theorem obD_snoc (ob : List (Int × D)) (q : Int × D) : obD (ob ++ [q]) = obD ob ++ [D.sq false [.v (.int q.1), q.2]] := by unfold obD; rw [List.map_append]; rfl
theorem filt_more {n : Int} {ob : List (Int × D)} {i : Nat} {q : Int × D} (h : ob[i]? = some q) :
    (ob.take (i + 1)).filter (fun q => decide (n < q.1)) = if n < q.1 then (ob.take i).filter (fun q => decide (n < q.1)) ++ [q] else (ob.take i).filter (fun q => decide (n < q.1)) := by
  rw [take_more h, List.filter_append]
  by_cases hc : n < q.1
  · rw [if_pos hc, List.filter_cons, if_pos (by simpa using hc)]; rfl
  · rw [if_neg hc, List.filter_cons, if_neg (by simpa using hc)]; simp
theorem m_ack (T : Txt K mg) : Met P w K mg base 1 T.C_Wire "acknowledged" (spAck T.C_Wire) := by
  refine met_of T.cl_Wire T.me_Wire_acknowledged sc_Wire_acknowledged (fun vs H Q E h => ?_) (fun f cdv A outer s H vs Q E hr h => ?_)
  · obtain ⟨p, l, s, e, ob, n, rfl, _⟩ := h; rfl
  · obtain ⟨p, l, s, e, ob, n, rfl, W, hlen, q⟩ := h
    have npl := W.ne
    obtain ⟨⟨dx, hp⟩, vs, hl, ro⟩ := id W
    have hlv : vs.length = ob.length := by rw [ro.len]; unfold obD; rw [List.length_map]
    refine ⟨_, (pss_one (ps_fld (pv 0) (pe_lc rfl sc_Wire_acknowledged.nd (pi_list (fldK (K := K) (pv 0) rfl)) (blkOk_by (own := [("pair", 2)]) (N := ["self", "number", "pair"]) (sc := defScope s_Wire_acknowledged) (by decide +kernel)) (fun _ _ _ _ _ => (pg_name (i := 2) sc_Wire_acknowledged.nd rfl (Or.inl rfl))) (fun _ _ _ _ _ => (pts_one (pt_cmpR op_gt (pe_ix (ixT (K := K)) (pv 2) pe_int (fun _ _ => rfl)) (pv 1) (nomark _)))) (fun _ _ _ _ _ => (pv 2))) rfl)), ?_⟩
    refine ⟨_, rfl, p, _, dx, _, _, rfl, hp, T.cl_Wire, T.na_Wire_outbox, rfl, l, rfl, ⟨_, SqL.of hl⟩, fun D0 hD => ?_⟩
    refine lc_list (K := K) (a := l) (xs := vs) (fun i H2 => ∃ ys, Kp [] H H2 ∧ H2 D0 = some (.lst ys) ∧ RepTs H2 (obD ((ob.take i).filter fun q => decide (n < q.1))) ys ∧ ys.length ≤ i)
      ⟨[], Kp.new hD, upd_same, RepTs.nil, Nat.le_refl _⟩ (fun i H2 _ ⟨_, k, _⟩ => k.seq (SqL.of hl) nmem_nil) ?_ ?_
    · rintro i x H2 hx ⟨ys, k2, hD2, ry, hly⟩
      obtain ⟨o, t, c, ho, rfl, ht, rc⟩ := ob_turn ro hx
      have hi : i < 100000 := by have := (List.getElem?_eq_some_iff.mp ho).1; omega
      refine ⟨rfl, _, rfl, t, _, _, _, rfl, rfl, k2.sqt ht, rfl, _, rfl, _, _, rfl, rfl, _, rfl, ?_⟩
      refine ite2 (fun hc => ?_) (fun hc => ?_)
      · have hc := of_decide_eq_true hc
        refine ⟨_, rfl, ys, hD2, sz hly hi, ys ++ [.ref t], k2.own hD, upd_same, ?_, by rw [List.length_append, List.length_singleton]; omega⟩
        rw [filt_more ho, if_pos hc, obD_snoc]
        have k3 : Kp [D0] H2 (upd H2 D0 (.lst (ys ++ [.ref t]))) := Kp.old hD2 trivial (by simp)
        exact RepTs.snoc (RepT.tup (k3.tup _ _ (k2.tup _ _ ht)) (RepTs.cons RepT.int (RepTs.cons ((rc.kp k2).kp k3) RepTs.nil))) (ry.kp k3)
      · have hc : ¬ n < o.1 := fun z => hc (decide_eq_true z)
        exact ⟨ys, k2, hD2, by rw [filt_more ho, if_neg hc]; exact ry, by omega⟩
    · rintro H2 ⟨ys, k2, hD2, ry, hly⟩
      have npD : p ≠ D0 := ne_of_none hp hD
      refine ⟨_, rfl, p, _, dx, _, rfl, k2.at hp nmem_nil, T.cl_Wire, T.na_Wire_outbox, (by show 3 < 1000; decide), ?_⟩
      have k3 := (k2.mono (M' := [p]) (fun _ z => nomatch z)).wr (o := .ins T.C_Wire dx (fW (.int s) (.ref D0) (.int e))) (p := p) (k2.at hp nmem_nil) trivial (by simp)
      have k4 : Kp [p] H2 (upd H2 p (.ins T.C_Wire dx (fW (.int s) (.ref D0) (.int e)))) := Kp.old (k2.at hp nmem_nil) trivial (by simp)
      refine q D0 _ hD k3 ⟨⟨dx, upd_same⟩, ys, by walk_at "hp", ?_⟩
      rw [hlv, List.take_length] at ry
      exact ry.kp k4
end

end MD
namespace MD
open PySem PySem.Spec PyProof.Rows L2
local macro_rules | `(tactic| walk_at "ne") => `(tactic| first | assumption | (apply Ne.symm; assumption) | exact ne_of_none (by assumption) (by assumption) | exact (ne_of_none (by assumption) (by assumption)).symm)
local macro_rules | `(tactic| walk_at "hp") => `(tactic| first | assumption | exact upd_same | (refine (upd_ne ?_).trans ?_; (focus walk_at "ne"); walk_at "hp"))
local macro_rules | `(tactic| walk_at "nm") => `(tactic| first | exact nmem_nil | exact nmem_one (by walk_at "ne") | exact nmem_cons (by walk_at "ne") (by walk_at "nm"))
/-! ### the law -/
section
variable {P : Program} {w : World} {K : PySem.W.Frag} {mg : Str → Option Value} {base : Heap}
def spLaw (K : PySem.W.Frag) : Sp := fun vs H Q _ => ∃ (a : Addr) (ns : List Int), vs = [.ref a] ∧ SqL K H a (ns.map V.int) ∧ ns.length ≤ 63 ∧ ∀ H', Q (.bl true) H'
structure LawI (C d n p l o : Addr) (ms : List Int) (H : Hp) (s e : Int) (ob : List (Int × D)) (m : Nat) : Prop where
  dr : ∃ k, DrawsAt H d n ms k
  wr : WireAt C H p l s e ob
  oh : ∃ vs, H o = some (.lst vs) ∧ RepTs H (obD ob) vs
  dp : d ≠ p
  dl : d ≠ l
  dO : d ≠ o
  np : n ≠ p
  nl : n ≠ l
  nO : n ≠ o
  pO : p ≠ o
  lo : l ≠ o
  len : ob.length ≤ m
  ok : ∀ q ∈ ob, q.2.ok 1
theorem dec_int {x e : Int} : decide (V.int x = V.int e) = decide (x = e) := by
  by_cases h : x = e
  · subst h; simp
  · rw [decide_eq_false h, decide_eq_false (fun z => h (V.int.inj z))]
theorem LawI.one {C d n p l o : Addr} {ms : List Int} {H : Hp} {s e : Int} {ob : List (Int × D)} {m : Nat} (I : LawI C d n p l o ms H s e ob m) (H' : Hp) (k' : Int) (k : Kp [d] H H') (D' : DrawsAt H' d n ms k') : LawI C d n p l o ms H' s e ob m := by
  obtain ⟨vs, ho, ro⟩ := I.oh
  have := I.dp; have := I.dl; have := I.dO
  exact ⟨⟨k', D'⟩, I.wr.kp k (by walk_at "nm") (by walk_at "nm"), ⟨vs, k.at ho (by walk_at "nm"), ro.kp k⟩, I.dp, I.dl, I.dO, I.np, I.nl, I.nO, I.pO, I.lo, I.len, I.ok⟩
theorem LawI.mono {C d n p l o : Addr} {ms : List Int} {H : Hp} {s e : Int} {ob : List (Int × D)} {m m' : Nat} (I : LawI C d n p l o ms H s e ob m) (h : m ≤ m') : LawI C d n p l o ms H s e ob m' :=
  ⟨I.dr, I.wr, I.oh, I.dp, I.dl, I.dO, I.np, I.nl, I.nO, I.pO, I.lo, Nat.le_trans I.len h, I.ok⟩
def bodyD (x k : Int) : D := .sq false [.v (.str "give"), .v (.int x), .v (.int k)]
theorem bodyD_ok (x k : Int) : (bodyD x k).ok 1 := ⟨by simp, fun d hd => by
  rcases List.mem_cons.mp hd with rfl | hd
  · trivial
  rcases List.mem_cons.mp hd with rfl | hd
  · trivial
  rcases List.mem_cons.mp hd with rfl | hd
  · trivial
  · cases hd⟩
theorem ob_ok {ob : List (Int × D)} (h : ∀ q ∈ ob, q.2.ok 1) (hl : ob.length ≤ 100000) (s e : Int) : (D.sq true [.sq true (obD ob), .v (.int s), .v (.int e)]).ok 4 := by
  refine ⟨by simp, fun d hd => ?_⟩
  rcases List.mem_cons.mp hd with rfl | hd
  · refine ⟨by unfold obD; rw [List.length_map]; exact hl, fun d hd => ?_⟩
    unfold obD at hd
    obtain ⟨q, hq, rfl⟩ := List.mem_map.mp hd
    refine ⟨by simp, fun d hd => ?_⟩
    rcases List.mem_cons.mp hd with rfl | hd
    · trivial
    rcases List.mem_cons.mp hd with rfl | hd
    · exact h q hq
    · cases hd
  rcases List.mem_cons.mp hd with rfl | hd
  · trivial
  rcases List.mem_cons.mp hd with rfl | hd
  · trivial
  · cases hd
theorem ok_law {f : Addr} {fd : FuncData} (F : L2.Fun K "law" "law" s_law f fd) (T : Txt K mg) : FnOk P w K mg base CX0 20 f fd ["script"] (spLaw K) := by
  have c_law_numbers := c_law_numbers (P := P) (w := w) (base := base) T
  have c_law_draw := c_law_draw (P := P) (w := w) (base := base) T
  have k_Wire := k_Wire (P := P) (w := w) (base := base) T
  have m_send := m_send (P := P) (w := w) (base := base) T
  have m_take := m_take (P := P) (w := w) (base := base) T
  have m_acknowledged := m_ack (P := P) (w := w) (base := base) T
  have c_law_equal := ok_eq (P := P) (w := w) (base := base) T 4
  refine F.ok sc_law (fun vs H Q E h => ?_) (fun cdv A outer s H vs Q E hr h => ?_)
  · obtain ⟨a, ns, rfl, _⟩ := h; rfl
  · obtain ⟨a, ns, rfl, hS, hlen, q⟩ := h
    refine ⟨_, (pss_cons (ps_set (i := 1) sc_law.nd rfl (Or.inl rfl) (ke_lst (pa_cons (pe_c c_law_numbers (hr.mono (by first | decide | omega)) rfl (pa_cons (pv 0) pa_nil)) (pa_cons pe_int pa_nil))))
  (pss_cons (ps_set (i := 2) sc_law.nd rfl (Or.inl rfl) (ke_mk0 k_Wire (hr.mono (by first | decide | omega)) rfl ))
  (pss_cons (ps_set (i := 3) sc_law.nd rfl (Or.inl rfl) (ke_lst pa_nil))
  (pss_cons (ps_set (i := 4) sc_law.nd rfl (Or.inl rfl) pe_int)
  (pss_cons (ps_set (i := 5) sc_law.nd rfl (Or.inl rfl) pe_int)
  (C8.pss_cut (ps_if (pt_cmpR op_eq (pe_op op_mod (pe_c c_law_draw (hr.mono (by first | decide | omega)) rfl (pa_cons (pv 1) pa_nil)) pe_int) pe_int (nomark _))
  (pss_cons (ps_for PassesOwn.never rfl (pi_range1 (by rfl) T.z_range (pa_cons pe_int pa_nil)) (pg_name (i := 6) sc_law.nd rfl (Or.inl rfl))
  (pss_cons (ps_expr (pe_mt m_send (hr.mono (by first | decide | omega)) (pv 2) (pa_cons (ke_tup (pa_cons pe_str (pa_cons pe_int (pa_cons pe_int pa_nil)))) pa_nil)))
  (pss_one (ps_if (pt_not (pt_val (pe_mt m_take (hr.mono (by first | decide | omega)) (pv 2) (pa_cons (pv 6) pa_nil))))
  (pss_one (ps_ret pe_bl))
  pss_nil))))
  (pss_cons (ps_expr (pe_mt m_acknowledged (hr.mono (by first | decide | omega)) (pv 2) (pa_cons pe_int pa_nil)))
  (pss_cons (ps_set (i := 4) sc_law.nd rfl (Or.inl rfl) pe_int)
  (pss_one (ps_set (i := 5) sc_law.nd rfl (Or.inl rfl) pe_int)))))
  pss_nil)
  (pss_cons (ps_for PassesOwn.never rfl (pi_range1 (by rfl) T.z_range (pa_cons (pe_op op_mod (pe_c c_law_draw (hr.mono (by first | decide | omega)) rfl (pa_cons (pv 1) pa_nil)) pe_int) pa_nil)) (pg_name (i := 6) sc_law.nd rfl (Or.inl rfl))
  (pss_cons (ps_set (i := 7) sc_law.nd rfl (Or.inl rfl) (pe_op op_mod (pe_c c_law_draw (hr.mono (by first | decide | omega)) rfl (pa_cons (pv 1) pa_nil)) pe_int))
  (C8.pss_cut (ps_if (pt_cmpR op_lt (pv 7) pe_int (nomark _))
  (pss_cons (ps_set (i := 8) sc_law.nd rfl (Or.inl rfl) (ke_tup (pa_cons pe_str (pa_cons (pe_op op_mod (pe_c c_law_draw (hr.mono (by first | decide | omega)) rfl (pa_cons (pv 1) pa_nil)) pe_int) (pa_cons (pv 6) pa_nil)))))
  (pss_cons (ps_expr (pe_bm PySem.F.plainAttrs_list PySem.F.slot_list_append PySem.F.type_list_append mk_append (pv 3) (pa_cons (ke_tup (pa_cons (pv 4) (pa_cons (pv 8) pa_nil))) pa_nil)))
  (pss_cons (ps_if (pt_not (pt_val (pe_c c_law_equal (hr.mono (by first | decide | omega)) rfl (pa_cons (pe_mt m_send (hr.mono (by first | decide | omega)) (pv 2) (pa_cons (pv 8) pa_nil)) (pa_cons (pv 4) pa_nil)))))
  (pss_one (ps_ret pe_bl))
  pss_nil)
  (pss_one (ps_set (i := 4) sc_law.nd rfl (Or.inl rfl) (pe_op op_add (pv 4) pe_int))))))
  (pss_one (ps_if (pt_cmpR op_eq (pv 7) pe_int (nomark _))
  (pss_cons (ps_set (i := 9) sc_law.nd rfl (Or.inr rfl) (pe_callB (call_max2 rfl) (by rfl) T.z_max (by decide +kernel) (pa_cons pe_int (pa_cons (pe_op op_sub (pe_op op_add (pv 5) (pe_op op_mod (pe_c c_law_draw (hr.mono (by first | decide | omega)) rfl (pa_cons (pv 1) pa_nil)) pe_int)) pe_int) pa_nil))))
  (pss_cons (ps_set (i := 10) sc_law.nd rfl (Or.inl rfl) (pe_cmpR op_eq (pv 9) (pv 5) (nomark _)))
  (pss_cons (ps_if (pt_not (pt_val (pe_c c_law_equal (hr.mono (by first | decide | omega)) rfl (pa_cons (pe_mt m_take (hr.mono (by first | decide | omega)) (pv 2) (pa_cons (pv 9) pa_nil)) (pa_cons (pv 10) pa_nil)))))
  (pss_one (ps_ret pe_bl))
  pss_nil)
  (pss_one (ps_if (pt_val (pv 10))
  (pss_one (ps_set (i := 5) sc_law.nd rfl (Or.inl rfl) (pe_op op_add (pv 5) pe_int)))
  pss_nil)))))
  (pss_one (ps_if (pt_cmpR op_gt (pv 4) pe_int (nomark _))
  (pss_cons (ps_set (i := 9) sc_law.nd rfl (Or.inr rfl) (pe_op op_mod (pe_c c_law_draw (hr.mono (by first | decide | omega)) rfl (pa_cons (pv 1) pa_nil)) (pv 4)))
  (pss_cons (ps_expr (pe_mt m_acknowledged (hr.mono (by first | decide | omega)) (pv 2) (pa_cons (pv 9) pa_nil)))
  (pss_one (ks_setLc (i := 3) rfl sc_law.nd rfl rfl (sw_true rfl rfl rfl (by decide +kernel)) (pi_list (pv 3)) (blkOk_by (own := [("pair", 11)]) (N := ["script", "draws", "wire", "outbox", "sent", "expected", "k", "pick", "body", "number", "due", "pair"]) (sc := defScope s_law) (by decide +kernel)) (fun _ _ _ _ _ => (pg_name (i := 11) sc_law.nd rfl (Or.inl rfl))) (fun _ _ _ _ _ => (pts_one (pt_cmpR op_gt (pe_ix (ixT (K := K)) (pv 11) pe_int (fun _ _ => rfl)) (pv 9) (nomark _)))) (fun _ _ _ _ _ => (pv 11))))))
  pss_nil)))))
  (pss_one (ps_if (pt_not (pt_val (pe_c c_law_equal (hr.mono (by first | decide | omega)) rfl (pa_cons (ke_lst (pa_cons (pe_callTy (klistK (K := K)) (by rfl) T.z_list (by decide +kernel) (pa_cons (fldK (K := K) (pv 2) rfl) pa_nil)) (pa_cons (fldK (K := K) (pv 2) rfl) (pa_cons (fldK (K := K) (pv 2) rfl) pa_nil)))) (pa_cons (ke_lst (pa_cons (pv 3) (pa_cons (pv 4) (pa_cons (pv 5) pa_nil)))) pa_nil)))))
  (pss_one (ps_ret pe_bl))
  pss_nil)))))
  (pss_one (ps_ret pe_bl))))))))), ?_⟩
    refine ⟨_, rfl, a, ns, rfl, hS, hlen, fun n H1 ms hn k1 hn1 rg hl => ⟨(by show 2 ≤ sizeLine; decide), fun d H2 hd k2 hd2 => ?_⟩⟩
    have D2 : DrawsAt H2 d n ms 0 := ⟨hd2, k2.at hn1 nmem_nil, rg, Int.le_refl _⟩
    intro p dx Hp np kp hp
    refine ⟨p, dx, rfl, hp, fun l H3 hl0 k3 W3 => ⟨rfl, ?_⟩⟩
    have k3' : Kp [] H2 H3 := ((kp.mono fun _ z => nomatch z).trans k3).drop fun b hb => .inr (by rw [List.mem_singleton.mp hb]; exact np)
    have l2 : H2 l = none := kp.free hl0
    have D3 := D2.kp k3' nmem_nil nmem_nil
    have dp : d ≠ p := ne_of_none D2.hd np
    have dl : d ≠ l := ne_of_none D2.hd l2
    have np : n ≠ p := ne_of_none D2.hn np
    have nl : n ≠ l := ne_of_none D2.hn l2
    refine ⟨Nat.zero_le _, fun o H4 ho k4 ho4 => ?_⟩
    have I4 : LawI T.C_Wire d n p l o ms H4 0 0 [] 0 := by
      obtain ⟨⟨dz, hpz⟩, vz, hlz, _⟩ := id W3
      exact ⟨⟨0, D3.kp k4 nmem_nil nmem_nil⟩, W3.kp k4 nmem_nil nmem_nil, ⟨[], ho4, RepTs.nil⟩, dp, dl, ne_of_none D3.hd ho, np, nl, ne_of_none D3.hn ho, ne_of_none hpz ho, ne_of_none hlz ho, Nat.le_refl _, fun _ h => nomatch h⟩
    refine ⟨fun σ H' => ∃ (s e : Int) (kk : Option V), σ = [some (.ref a), some (.ref d), some (.ref p), some (.ref o), some (.int s), some (.int e), kk, none, none, none, none, none] ∧ ∃ l, LawI T.C_Wire d n p l o ms H' s e [] 0, ?_, ?_⟩
    · obtain ⟨k0, D4⟩ := I4.dr
      refine ⟨_, rfl, d, n, ms, k0, rfl, D4, fun r H5 r0 r1 k5 D5 => ?_⟩
      have I5 := I4.one H5 _ k5 D5
      refine ⟨_, _, rfl, rfl, (by show (0 : Int) < 8; decide), rfl, _, rfl, ?_⟩
      refine ite2 (fun _ => ?_) (fun _ => ?_)
      · refine ⟨_, rfl, (by decide), (by decide), for_range (n := 300) (fun i σ H6 => ∃ (kk : Option V), σ = [some (.ref a), some (.ref d), some (.ref p), some (.ref o), some (.int 0), some (.int 0), kk, none, none, none, none, none] ∧ Kp [p, l] H5 H6 ∧ ∃ ob, WireAt T.C_Wire H6 p l i i ob ∧ ob.length = i ∧ ∀ q ∈ ob, q.1 < i)
          ⟨none, rfl, Kp.refl, [], I5.wr, rfl, fun _ h => nomatch h⟩ ?_ ?_⟩
        · rintro i σ H6 hi ⟨kk, rfl, k6, ob, W6, hob, hlt⟩
          obtain ⟨⟨dz, hpz⟩, _⟩ := id W6
          refine ⟨_, rfl, p, dz, _, rfl, hpz, rfl, (by show 3 ≤ sizeLine; decide), fun t H6' ht kt ht6 => ?_⟩
          refine ⟨p, l, i, i, ob, bodyD 0 0, _, rfl, W6.kp kt nmem_nil nmem_nil, RepT.tup ht6 (RepTs.cons RepT.str (RepTs.cons RepT.int (RepTs.cons RepT.int RepTs.nil))), by omega, fun H7 k7 W7 => ?_⟩
          obtain ⟨⟨dy, hpy⟩, _⟩ := id W7
          refine ⟨_, rfl, p, dy, _, rfl, hpy, rfl, _, rfl, p, l, _, _, _, _, rfl, W7, fun H8 k8 W8 => ?_⟩
          have ei : (0 : Int) + (i : Int) = i := by omega
          rw [ei, decide_eq_true rfl]
          refine ⟨_, rfl, iteF ?_⟩
          rw [ei, if_pos rfl] at W8
          refine ⟨_, rfl, ((k6.trans ((kt.mono fun _ z => nomatch z).trans k7)).trans (k8.mono fun b hb => by simp at hb; simp [hb])), _, W8, by rw [List.length_append, hob]; rfl, fun q hq => ?_⟩
          rcases List.mem_append.mp hq with z | z
          · have := hlt q z; omega
          · rw [List.mem_singleton.mp z]; show (i : Int) < ((i + 1 : Nat) : Int); omega
        · rintro σ H6 ⟨kk, rfl, k6, ob, W6, hob, hlt⟩
          obtain ⟨⟨dz, hpz⟩, _⟩ := id W6
          refine ⟨_, rfl, p, dz, _, rfl, hpz, rfl, p, l, _, _, ob, _, rfl, W6, by omega, fun l7 H7 hl7 k7 W7 => ?_⟩
          have e0 : ob.filter (fun q => decide ((299 : Int) < q.1)) = [] := List.filter_eq_nil_iff.mpr fun q hq => by have := hlt q hq; simp; omega
          rw [e0] at W7
          obtain ⟨k5', D5'⟩ := I5.dr
          obtain ⟨vs, ho5, ro5⟩ := I5.oh
          have k67 := k6.trans (k7.mono fun b hb => by simp at hb; simp [hb])
          have := I5.dp; have := I5.dl; have := I5.np; have := I5.nl; have h1 := I5.pO; have h2 := I5.lo
          have ho6 := k6.at ho5 (by walk_at "nm")
          have D6 := D5'.kp k6 (by walk_at "nm") (by walk_at "nm")
          exact ⟨300, 300, _, rfl, l7, ⟨⟨_, D5'.kp k67 (by walk_at "nm") (by walk_at "nm")⟩, W7, ⟨vs, k67.at ho5 (by walk_at "nm"), ro5.kp k67⟩, I5.dp, ne_of_none D6.hd hl7, I5.dO, I5.np, ne_of_none D6.hn hl7, I5.nO, I5.pO, (ne_of_none ho6 hl7).symm, Nat.le_refl _, fun _ h => nomatch h⟩⟩
      · exact ⟨0, 0, none, rfl, l, I5⟩
    · rintro σ H5 ⟨s, e, kk, rfl, l, I5⟩
      obtain ⟨k0, D5⟩ := I5.dr
      refine ⟨_, rfl, d, n, ms, k0, rfl, D5, fun r H6 r0 r1 k6 D6 => ?_⟩
      have I6 := I5.one H6 _ k6 D6
      have hm : 0 ≤ r % 41 ∧ r % 41 < 41 := ⟨Int.emod_nonneg _ (by decide), Int.emod_lt_of_pos _ (by decide)⟩
      refine ⟨_, _, rfl, rfl, (by show (0 : Int) < 41; decide), _, rfl, (by omega), (by omega), for_range (n := (r % 41).toNat) (fun i σ H' => ∃ (s e : Int) (o : Addr) (k1 k2 k3 k4 k5 : Option V), σ = [some (.ref a), some (.ref d), some (.ref p), some (.ref o), some (.int s), some (.int e), k1, k2, k3, k4, k5, none] ∧ ∃ l ob, LawI T.C_Wire d n p l o ms H' s e ob i)
        ⟨s, e, o, _, _, _, _, _, rfl, l, [], I6⟩ ?_ ?_⟩
      · rintro i σ H7 hi ⟨s, e, o, k1, k2, k3, k4, k5, rfl, l, ob, I7⟩
        have hi41 : i < 41 := by omega
        obtain ⟨k0, D7⟩ := I7.dr
        refine ⟨_, rfl, d, n, ms, k0, rfl, D7, fun r1 H8 r10 r11 k8 D8 => ?_⟩
        have I8 := I7.one H8 _ k8 D8
        refine ⟨_, _, rfl, rfl, (by show (0 : Int) < 4; decide), ?_⟩
        refine ⟨fun σ H' => ∃ (s e : Int) (o : Addr) (k1 k2 k3 k4 k5 : Option V), σ = [some (.ref a), some (.ref d), some (.ref p), some (.ref o), some (.int s), some (.int e), k1, k2, k3, k4, k5, none] ∧ ∃ l ob, LawI T.C_Wire d n p l o ms H' s e ob (i + 1), ?_, ?_⟩
        · refine ⟨_, rfl, _, _, rfl, rfl, _, rfl, ?_⟩
          refine ite2 (fun _ => ?_) (fun _ => ?_)
          · -- body = ("give", _law_draw(draws) % 3, k)
            refine ⟨_, rfl, d, n, ms, _, rfl, D8, fun r2 H9 r20 r21 k9 D9 => ?_⟩
            have I9 := I8.one H9 _ k9 D9
            refine ⟨_, _, rfl, rfl, (by show (0 : Int) < 3; decide), _, rfl, (by show 3 ≤ sizeLine; decide), fun t H10 ht kt ht10 => ?_⟩
            obtain ⟨vs, ho, ro⟩ := I9.oh
            have hot := kt.at ho nmem_nil
            have rt : RepT H10 (bodyD (r2 % 3) (0 + i)) (.ref t) := RepT.tup ht10 (RepTs.cons RepT.str (RepTs.cons RepT.int (RepTs.cons RepT.int RepTs.nil)))
            have I10 : LawI T.C_Wire d n p l o ms H10 s e ob i := ⟨⟨_, D9.kp kt nmem_nil nmem_nil⟩, I9.wr.kp kt nmem_nil nmem_nil, ⟨vs, hot, ro.kp kt⟩, I9.dp, I9.dl, I9.dO, I9.np, I9.nl, I9.nO, I9.pO, I9.lo, I9.len, I9.ok⟩
            have ro10 : RepTs H10 (obD ob) vs := ro.kp kt
            have hlv : vs.length = ob.length := by rw [ro.len]; unfold obD; rw [List.length_map]
            have hlo := I9.len
            refine ⟨_, rfl, .inl ⟨rfl, _, SqL.of hot⟩, _, rfl, _, rfl, (by show 2 ≤ sizeLine; decide), fun t2 H10' ht2 kt2 ht2' => ⟨o, vs, _, rfl, rfl, kt2.at hot nmem_nil, sz (by rw [hlv]; exact hlo), fun H11 ku' ho11 => ?_⟩⟩
            have ku : Kp [o] H10 H11 := (kt2.mono fun _ z => nomatch z).trans ku'
            have ht11 := ku'.tup _ _ ht2'
            have h1 := I10.dO; have h2 := I10.nO; have h3 := I10.pO; have h4 := I10.lo; have h5 := I10.dp; have h6 := I10.dl; have h7 := I10.np; have h8 := I10.nl
            have W11 := I10.wr.kp ku (by walk_at "nm") (by walk_at "nm")
            obtain ⟨⟨dz, hpz⟩, _⟩ := id W11
            refine ⟨_, rfl, p, dz, _, rfl, hpz, rfl, _, rfl, p, l, s, e, ob, bodyD (r2 % 3) (0 + i), _, rfl, W11, rt.kp ku, by omega, fun H12 k12 W12 => ?_⟩
            refine ⟨_, rfl, .v (.int s), _, _, rfl, Rep.int, Rep.int, trivial, _, rfl, iteF ?_⟩
            refine ⟨_, rfl, _, _, rfl, rfl, ?_⟩
            obtain ⟨kz, D10⟩ := I10.dr
            refine ⟨s + 1, e, o, _, _, _, _, _, rfl, l, ob ++ [(s, bodyD (r2 % 3) (0 + i))], ⟨⟨kz, (D10.kp ku (by walk_at "nm") (by walk_at "nm")).kp k12 (by walk_at "nm") (by walk_at "nm")⟩, W12, ⟨vs ++ [.ref t2], k12.at ho11 (by walk_at "nm"), ?_⟩, h5, h6, h1, h7, h8, h2, h3, h4, by rw [List.length_append, List.length_singleton]; omega, fun q hq => ?_⟩⟩
            · rw [obD_snoc]
              exact RepTs.snoc (RepT.tup (k12.tup _ _ ht11) (RepTs.cons RepT.int (RepTs.cons ((rt.kp ku).kp k12) RepTs.nil))) ((ro10.kp ku).kp k12)
            · rcases List.mem_append.mp hq with z | z
              · exact I10.ok q z
              · rw [List.mem_singleton.mp z]; exact bodyD_ok _ _
          · refine ⟨_, rfl, rfl, _, rfl, ?_⟩
            refine ite2 (fun _ => ?_) (fun _ => ?_)
            · -- number = max(0, expected + _law_draw(draws) % 5 - 2)
              refine ⟨_, rfl, _, rfl, d, n, ms, _, rfl, D8, fun r2 H9 r20 r21 k9 D9 => ?_⟩
              have I9 := I8.one H9 _ k9 D9
              refine ⟨_, _, rfl, rfl, (by show (0 : Int) < 5; decide), _, _, rfl, rfl, _, _, rfl, rfl, _, _, rfl, ?_⟩
              generalize (if e + r2 % 5 - 2 > 0 then e + r2 % 5 - 2 else 0) = x
              refine ⟨_, rfl, _, rfl, rfl, ?_⟩
              rw [dec_int]
              obtain ⟨⟨dz, hpz⟩, _⟩ := id I9.wr
              refine ⟨_, rfl, p, dz, _, rfl, hpz, rfl, _, rfl, p, l, s, e, ob, x, rfl, I9.wr, fun H10 k10 W10 => ?_⟩
              refine ⟨_, rfl, .v (.bl (decide (x = e))), _, _, rfl, Rep.bl, Rep.bl, trivial, _, rfl, iteF ?_⟩
              have h1 := I9.dO; have h2 := I9.nO; have h3 := I9.pO; have h4 := I9.lo; have h5 := I9.dp; have h6 := I9.dl; have h7 := I9.np; have h8 := I9.nl
              obtain ⟨vs, ho, ro⟩ := I9.oh
              have I10 : LawI T.C_Wire d n p l o ms H10 s (if x = e then e + 1 else e) ob (i + 1) := ⟨⟨_, D9.kp k10 (by walk_at "nm") (by walk_at "nm")⟩, W10, ⟨vs, k10.at ho (by walk_at "nm"), ro.kp k10⟩, h5, h6, h1, h7, h8, h2, h3, h4, by have := I9.len; omega, I9.ok⟩
              refine ⟨_, rfl, _, rfl, ?_⟩
              by_cases hc : x = e
              · rw [decide_eq_true hc]
                refine iteT ?_
                refine ⟨_, rfl, _, _, rfl, rfl, ?_⟩
                rw [if_pos hc] at I10
                exact ⟨s, e + 1, o, _, _, _, _, _, rfl, l, ob, I10⟩
              · rw [decide_eq_false hc]
                refine iteF ?_
                rw [if_neg hc] at I10
                exact ⟨s, e, o, _, _, _, _, _, rfl, l, ob, I10⟩
            · refine ⟨_, rfl, _, _, rfl, rfl, _, rfl, ?_⟩
              refine ite2 (fun hc => ?_) (fun _ => ?_)
              · have hs := of_decide_eq_true hc
                refine ⟨_, rfl, d, n, ms, _, rfl, D8, fun r2 H9 r20 r21 k9 D9 => ?_⟩
                have I9 := I8.one H9 _ k9 D9
                refine ⟨_, rfl, _, _, rfl, rfl, hs, ?_⟩
                have h1 := I9.dO; have h2 := I9.nO; have h3 := I9.pO; have h4 := I9.lo; have h5 := I9.dp; have h6 := I9.dl; have h7 := I9.np; have h8 := I9.nl
                have hlo := I9.len
                obtain ⟨⟨dz, hpz⟩, _⟩ := id I9.wr
                refine ⟨_, rfl, p, dz, _, rfl, hpz, rfl, _, rfl, p, l, s, e, ob, r2 % s, rfl, I9.wr, by omega, fun l' H10 hl' k10 W10 => ?_⟩
                obtain ⟨vs, ho, ro⟩ := I9.oh
                have hlv : vs.length = ob.length := by rw [ro.len]; unfold obD; rw [List.length_map]
                have ho10 := k10.at ho (by walk_at "nm")
                have ro10 := ro.kp k10
                have D10 := D9.kp k10 (by walk_at "nm") (by walk_at "nm")
                refine ⟨_, rfl, o, rfl, ⟨_, SqL.of ho10⟩, fun D0 H10' hD kD hD' => ?_⟩
                refine kl_list (K := K) (a := o) (xs := vs) (fun i ys H2 => Kp [] H10 H2 ∧ RepTs H2 (obD ((ob.take i).filter fun q => decide (r2 % s < q.1))) ys ∧ ys.length ≤ i)
                  ⟨kD, RepTs.nil, Nat.le_refl _⟩ (fun i ys H2 ⟨k, _⟩ => k.seq (SqL.of ho10) nmem_nil) ?_ ?_
                · rintro i x1 ys H2 hx hD2 ⟨k2, ry, hly⟩
                  obtain ⟨o1, t, c, ho1, rfl, ht, rc⟩ := ob_turn ro10 hx
                  have hi : i < 100000 := by have := (List.getElem?_eq_some_iff.mp ho1).1; omega
                  refine ⟨rfl, _, rfl, t, _, _, _, rfl, rfl, k2.sqt ht, rfl, _, rfl, _, _, rfl, rfl, _, rfl, ?_⟩
                  refine ite2 (fun hc => ?_) (fun hc => ?_)
                  · have hc := of_decide_eq_true hc
                    refine ⟨_, rfl, hD2, sz hly hi, fun H3 k3 hD3 => ⟨((k2.mono fun _ z => nomatch z).trans k3).drop fun b hb => .inr (by rw [List.mem_singleton.mp hb]; exact hD), ?_, by rw [List.length_append, List.length_singleton]; omega⟩⟩
                    rw [filt_more ho1, if_pos hc, obD_snoc]
                    exact RepTs.snoc (RepT.tup (k3.tup _ _ (k2.tup _ _ ht)) (RepTs.cons RepT.int (RepTs.cons ((rc.kp k2).kp k3) RepTs.nil))) (ry.kp k3)
                  · have hc : ¬ r2 % s < o1.1 := fun z => hc (decide_eq_true z)
                    exact ⟨hD2, k2, by rw [filt_more ho1, if_neg hc]; exact ry, by omega⟩
                · rintro ys H2 hD2 ⟨k2, ry, hly⟩
                  rw [hlv, List.take_length] at ry
                  have hl10 : H9 l' = none := hl'
                  obtain ⟨⟨dy, hpy⟩, vy, hly', _⟩ := id W10
                  refine ⟨s, e, D0, _, _, _, _, _, rfl, l', _, ⟨⟨_, D10.kp k2 nmem_nil nmem_nil⟩, W10.kp k2 nmem_nil nmem_nil, ⟨ys, hD2, ry⟩, h5, ne_of_none D9.hd hl', ne_of_none D10.hd hD, h7, ne_of_none D9.hn hl', ne_of_none D10.hn hD, ne_of_none hpy hD, ne_of_none hly' hD, ?_, fun q hq => I9.ok q ((List.mem_filter.mp hq).1)⟩⟩
                  have := List.length_filter_le (fun q : Int × D => decide (r2 % s < q.1)) ob
                  omega
              · exact ⟨s, e, o, _, _, _, _, _, rfl, l, ob, I8.mono (Nat.le_succ _)⟩
        · rintro σ H9 ⟨s, e, o, k1, k2, k3, k4, k5, rfl, l, ob, I9⟩
          obtain ⟨⟨dz, hpz⟩, vl, hl9, rl⟩ := id I9.wr
          obtain ⟨vs, ho, ro⟩ := I9.oh
          refine ⟨_, rfl, p, _, dz, _, _, rfl, hpz, T.cl_Wire, T.na_Wire_outbox, rfl, l, vl, rfl, .inl (SqL.of hl9), fun g Hg hg kg hg1 => ?_⟩
          have hpg := kg.at hpz nmem_nil
          refine ⟨_, rfl, p, _, dz, _, _, rfl, hpg, T.cl_Wire, T.na_Wire_sent, rfl, ?_⟩
          refine ⟨_, rfl, p, _, dz, _, _, rfl, hpg, T.cl_Wire, T.na_Wire_expected, rfl, (by show 3 ≤ sizeLine; decide), fun l1 Hh hl1 kh' hh1 => ?_⟩
          refine ⟨_, rfl, _, rfl, _, rfl, (by show 3 ≤ sizeLine; decide), fun l2 Hi hl2 ki' hi2 => ?_⟩
          have ki := (kg.trans kh').trans ki'
          refine ⟨.sq true [.sq true (obD ob), .v (.int s), .v (.int e)], _, _, rfl, Rep.lst (SqL.of (ki'.at hh1 nmem_nil)) (Reps.cons (Rep.lst (SqL.of ((kh'.trans ki').at hg1 nmem_nil)) (RepTs.reps (rl.kp ki))) (Reps.cons Rep.int (Reps.cons Rep.int Reps.nil))),
            Rep.lst (SqL.of hi2) (Reps.cons (Rep.lst (SqL.of (ki.at ho nmem_nil)) (RepTs.reps (ro.kp ki))) (Reps.cons Rep.int (Reps.cons Rep.int Reps.nil))), ob_ok I9.ok (by have := I9.len; omega) s e, _, rfl, iteF ?_⟩
          exact ⟨s, e, o, _, _, _, _, _, rfl, l, ob, ⟨I9.dr.elim fun k D => ⟨k, D.kp ki nmem_nil nmem_nil⟩, I9.wr.kp ki nmem_nil nmem_nil, ⟨vs, ki.at ho nmem_nil, ro.kp ki⟩, I9.dp, I9.dl, I9.dO, I9.np, I9.nl, I9.nO, I9.pO, I9.lo, I9.len, I9.ok⟩⟩
      · rintro σ H7 ⟨s, e, o, k1, k2, k3, k4, k5, rfl, l, ob, I7⟩
        exact q H7
end

end MD
namespace MD
open PySem PySem.Spec PyProof.Rows L2
theorem all_mk {l : PySem.W.OpenLaw} {w : World} {K : PySem.W.Frag} {h : Heap} {mg : Str → Option Value} {fa f0 f1 f2 f3 f4 f5 f6 f7 f8 f9 C_Wire : Addr} (X : K.In h) (G : h.Ns mainGlobals mg) (hfa : mg "law" = some (.ref fa))
    {od0 an0 od1 an1 od2 an2 od3 an3 od4 an4 od5 an5 od6 an6 od7 an7 od8 an8 od9 an9 : Option Addr} {sl0 sl1 sl2 sl3 sl4 sl5 sl6 sl7 sl8 sl9 : Array (Option Value)} {oc0 kV0 dc0 pm0 cd0 ct0 oc1 kV1 dc1 pm1 cd1 ct1 oc2 kV2 dc2 pm2 cd2 ct2 oc3 kV3 dc3 pm3 cd3 ct3 oc4 kV4 dc4 pm4 cd4 ct4 oc5 kV5 dc5 pm5 cd5 ct5 oc6 kV6 dc6 pm6 cd6 ct6 oc7 kV7 dc7 pm7 cd7 ct7 oc8 kV8 dc8 pm8 cd8 ct8 oc9 kV9 dc9 pm9 cd9 ct9 : Value}
    (aC_Wire : PySem.W.nsIn K mainGlobals "Wire" = some (some (.ref C_Wire)))
    (a0 : PySem.W.findIn K (.ref C_Wire) "__init__" = some (some (.ref f0)))
    (i0 : PySem.W.isFn K (.ref f0) = true)
    (l0 : K.lookup f0 = some ⟨oc0, od0, .func (PySem.W.fnOf "__init__" "Wire.__init__" (defArgs s_Wire___init__) (defBody s_Wire___init__) (defScope s_Wire___init__) .none kV0 dc0 pm0 an0 cd0 ct0), sl0⟩)
    (c0 : PySem.W.codeIn K cd0 "Wire.__init__" = true)
    (k0 : PySem.W.keepIn K (.ref f0) = true)
    (a1 : PySem.W.findIn K (.ref C_Wire) "send" = some (some (.ref f1)))
    (i1 : PySem.W.isFn K (.ref f1) = true)
    (l1 : K.lookup f1 = some ⟨oc1, od1, .func (PySem.W.fnOf "send" "Wire.send" (defArgs s_Wire_send) (defBody s_Wire_send) (defScope s_Wire_send) .none kV1 dc1 pm1 an1 cd1 ct1), sl1⟩)
    (c1 : PySem.W.codeIn K cd1 "Wire.send" = true)
    (k1 : PySem.W.keepIn K (.ref f1) = true)
    (a2 : PySem.W.findIn K (.ref C_Wire) "take" = some (some (.ref f2)))
    (i2 : PySem.W.isFn K (.ref f2) = true)
    (l2 : K.lookup f2 = some ⟨oc2, od2, .func (PySem.W.fnOf "take" "Wire.take" (defArgs s_Wire_take) (defBody s_Wire_take) (defScope s_Wire_take) .none kV2 dc2 pm2 an2 cd2 ct2), sl2⟩)
    (c2 : PySem.W.codeIn K cd2 "Wire.take" = true)
    (k2 : PySem.W.keepIn K (.ref f2) = true)
    (a3 : PySem.W.findIn K (.ref C_Wire) "acknowledged" = some (some (.ref f3)))
    (i3 : PySem.W.isFn K (.ref f3) = true)
    (l3 : K.lookup f3 = some ⟨oc3, od3, .func (PySem.W.fnOf "acknowledged" "Wire.acknowledged" (defArgs s_Wire_acknowledged) (defBody s_Wire_acknowledged) (defScope s_Wire_acknowledged) .none kV3 dc3 pm3 an3 cd3 ct3), sl3⟩)
    (c3 : PySem.W.codeIn K cd3 "Wire.acknowledged" = true)
    (k3 : PySem.W.keepIn K (.ref f3) = true)
    (a4 : PySem.W.nsIn K mainGlobals "_law_mixed" = some (some (.ref f4)))
    (l4 : K.lookup f4 = some ⟨oc4, od4, .func (PySem.W.fnOf "_law_mixed" "_law_mixed" (defArgs s_law_mixed) (defBody s_law_mixed) (defScope s_law_mixed) .none kV4 dc4 pm4 an4 cd4 ct4), sl4⟩)
    (c4 : PySem.W.codeIn K cd4 "_law_mixed" = true)
    (k4 : PySem.W.keepIn K (.ref f4) = true)
    (a5 : PySem.W.nsIn K mainGlobals "_law_numbers" = some (some (.ref f5)))
    (l5 : K.lookup f5 = some ⟨oc5, od5, .func (PySem.W.fnOf "_law_numbers" "_law_numbers" (defArgs s_law_numbers) (defBody s_law_numbers) (defScope s_law_numbers) .none kV5 dc5 pm5 an5 cd5 ct5), sl5⟩)
    (c5 : PySem.W.codeIn K cd5 "_law_numbers" = true)
    (k5 : PySem.W.keepIn K (.ref f5) = true)
    (a6 : PySem.W.nsIn K mainGlobals "_law_draw" = some (some (.ref f6)))
    (l6 : K.lookup f6 = some ⟨oc6, od6, .func (PySem.W.fnOf "_law_draw" "_law_draw" (defArgs s_law_draw) (defBody s_law_draw) (defScope s_law_draw) .none kV6 dc6 pm6 an6 cd6 ct6), sl6⟩)
    (c6 : PySem.W.codeIn K cd6 "_law_draw" = true)
    (k6 : PySem.W.keepIn K (.ref f6) = true)
    (a7 : PySem.W.nsIn K mainGlobals "_law_equal" = some (some (.ref f7)))
    (l7 : K.lookup f7 = some ⟨oc7, od7, .func (PySem.W.fnOf "_law_equal" "_law_equal" (defArgs s_law_equal) (defBody s_law_equal) (defScope s_law_equal) .none kV7 dc7 pm7 an7 cd7 ct7), sl7⟩)
    (c7 : PySem.W.codeIn K cd7 "_law_equal" = true)
    (k7 : PySem.W.keepIn K (.ref f7) = true)
    (a8 : PySem.W.nsIn K mainGlobals "_law_all_equal" = some (some (.ref f8)))
    (l8 : K.lookup f8 = some ⟨oc8, od8, .func (PySem.W.fnOf "_law_all_equal" "_law_all_equal" (defArgs s_law_all_equal) (defBody s_law_all_equal) (defScope s_law_all_equal) .none kV8 dc8 pm8 an8 cd8 ct8), sl8⟩)
    (c8 : PySem.W.codeIn K cd8 "_law_all_equal" = true)
    (k8 : PySem.W.keepIn K (.ref f8) = true)
    (a9 : PySem.W.nsIn K mainGlobals "law" = some (some (.ref f9)))
    (l9 : K.lookup f9 = some ⟨oc9, od9, .func (PySem.W.fnOf "law" "law" (defArgs s_law) (defBody s_law) (defScope s_law) .none kV9 dc9 pm9 an9 cd9 ct9), sl9⟩)
    (c9 : PySem.W.codeIn K cd9 "law" = true)
    (k9 : PySem.W.keepIn K (.ref f9) = true)
    (pg_Wire : PySem.W.plainGet K C_Wire Str.empty = true)
    (hd_Wire : PySem.W.hasDictIn K C_Wire = true)
    (po_Wire : PySem.W.plainOver K C_Wire = true)
    (sa_Wire : PySem.W.findIn K (.ref C_Wire) "__setattr__" = some (some (.builtin "object.__setattr__")))
    (mk_Wire : PySem.W.makesIn K C_Wire = true)
    (kc_Wire : PySem.W.keepIn K (.ref C_Wire) = true)
    (na_Wire_sent : PySem.W.findIn K (.ref C_Wire) "sent" = some none)
    (na_Wire_outbox : PySem.W.findIn K (.ref C_Wire) "outbox" = some none)
    (na_Wire_expected : PySem.W.findIn K (.ref C_Wire) "expected" = some none)
    (z_bool : PySem.W.nsIn K mainGlobals "bool" = some none)
    (z_int : PySem.W.nsIn K mainGlobals "int" = some none)
    (z_isinstance : PySem.W.nsIn K mainGlobals "isinstance" = some none)
    (z_len : PySem.W.nsIn K mainGlobals "len" = some none)
    (z_list : PySem.W.nsIn K mainGlobals "list" = some none)
    (z_max : PySem.W.nsIn K mainGlobals "max" = some none)
    (z_range : PySem.W.nsIn K mainGlobals "range" = some none)
    (z_str : PySem.W.nsIn K mainGlobals "str" = some none)
    (z_tuple : PySem.W.nsIn K mainGlobals "tuple" = some none)
    : ∃ fd : FuncData, (∀ (s : Shared) (v : Value), BindsTo s fd ⟨[v], []⟩ [("script", v)]) ∧ ∀ base : Heap, K.In base → base.Ns mainGlobals mg → FnOk l.prog w K mg base CX0 20 fa fd ["script"] (spLaw K) := by
  have e := hfa.symm.trans (PySem.W.mg_of X G a9)
  cases e
  have F0 := fun_mk (st := s_Wire___init__) l0 c0 k0
  have b0 := F0.binds (ps := ["self"]) fun _ _ _ _ _ _ us hl => match us, hl with | [_], _ => rfl
  have F1 := fun_mk (st := s_Wire_send) l1 c1 k1
  have b1 := F1.binds (ps := ["self", "body"]) fun _ _ _ _ _ _ us hl => match us, hl with | [_, _], _ => rfl
  have F2 := fun_mk (st := s_Wire_take) l2 c2 k2
  have b2 := F2.binds (ps := ["self", "number"]) fun _ _ _ _ _ _ us hl => match us, hl with | [_, _], _ => rfl
  have F3 := fun_mk (st := s_Wire_acknowledged) l3 c3 k3
  have b3 := F3.binds (ps := ["self", "number"]) fun _ _ _ _ _ _ us hl => match us, hl with | [_, _], _ => rfl
  have F4 := fun_mk (st := s_law_mixed) l4 c4 k4
  have b4 := F4.binds (ps := ["number", "k"]) fun _ _ _ _ _ _ us hl => match us, hl with | [_, _], _ => rfl
  have F5 := fun_mk (st := s_law_numbers) l5 c5 k5
  have b5 := F5.binds (ps := ["script"]) fun _ _ _ _ _ _ us hl => match us, hl with | [_], _ => rfl
  have F6 := fun_mk (st := s_law_draw) l6 c6 k6
  have b6 := F6.binds (ps := ["draws"]) fun _ _ _ _ _ _ us hl => match us, hl with | [_], _ => rfl
  have F7 := fun_mk (st := s_law_equal) l7 c7 k7
  have b7 := F7.binds (ps := ["actual", "due"]) fun _ _ _ _ _ _ us hl => match us, hl with | [_, _], _ => rfl
  have F8 := fun_mk (st := s_law_all_equal) l8 c8 k8
  have b8 := F8.binds (ps := ["actual", "due"]) fun _ _ _ _ _ _ us hl => match us, hl with | [_, _], _ => rfl
  have F9 := fun_mk (st := s_law) l9 c9 k9
  let T : Txt K mg := {
    C_Wire := C_Wire
    cl_Wire := ⟨pg_Wire, hd_Wire, po_Wire, sa_Wire⟩
    mc_Wire := PySem.W.mg_of X G aC_Wire
    na_Wire_sent := na_Wire_sent
    na_Wire_outbox := na_Wire_outbox
    na_Wire_expected := na_Wire_expected
    mk_Wire := ⟨_, _, ⟨mk_Wire, a0, i0, kc_Wire⟩, PySem.W.mg_of X G aC_Wire, F0, b0⟩
    me_Wire_send := ⟨_, _, ⟨a1, i1, k1⟩, F1, b1⟩
    me_Wire_take := ⟨_, _, ⟨a2, i2, k2⟩, F2, b2⟩
    me_Wire_acknowledged := ⟨_, _, ⟨a3, i3, k3⟩, F3, b3⟩
    d_law_mixed := ⟨_, _, PySem.W.mg_of X G a4, F4, b4⟩
    d_law_numbers := ⟨_, _, PySem.W.mg_of X G a5, F5, b5⟩
    d_law_draw := ⟨_, _, PySem.W.mg_of X G a6, F6, b6⟩
    d_law_equal := ⟨_, _, PySem.W.mg_of X G a7, F7, b7⟩
    d_law_all_equal := ⟨_, _, PySem.W.mg_of X G a8, F8, b8⟩
    z_bool := PySem.W.mg_none_of X G z_bool
    z_int := PySem.W.mg_none_of X G z_int
    z_isinstance := PySem.W.mg_none_of X G z_isinstance
    z_len := PySem.W.mg_none_of X G z_len
    z_list := PySem.W.mg_none_of X G z_list
    z_max := PySem.W.mg_none_of X G z_max
    z_range := PySem.W.mg_none_of X G z_range
    z_str := PySem.W.mg_none_of X G z_str
    z_tuple := PySem.W.mg_none_of X G z_tuple }
  exact ⟨PySem.W.fnOf "law" "law" (defArgs s_law) (defBody s_law) (defScope s_law) .none kV9 dc9 pm9 an9 cd9 ct9, fun s v => .of_eq rfl, fun base _ _ => ok_law F9 T⟩
theorem walk {l : PySem.W.OpenLaw} {q : Program} {loose : List Str} {XP : (Str → Option Value) → Heap → Prop} {YP : World → Heap → Prop} {d : DefRec} {K : Params → PySem.W.Frag} (hn : l.most = some 63) (hdf : d.params.defaults = [])
    (hY : ∀ (w : World) (h : Heap), YP w h → (K w.params).In h)
    (F : ∀ (w : World) (mg : Str → Option Value) (fa : Addr) (h : Heap), (K w.params).In h → h.Ns mainGlobals mg → mg d.name = some (.ref fa) →
      ∃ fd : FuncData, (∀ (s : Shared) (u : Value), BindsTo s fd ⟨[u], []⟩ [("script", u)]) ∧ ∀ base : Heap, (K w.params).In base → base.Ns mainGlobals mg → FnOk l.prog w (K w.params) mg base CX0 20 fa fd ["script"] (spLaw (K w.params))) :
    PySem.W.WalkO q loose XP YP l.row.toRowW d [] (fun f vs => PySem.call f vs) :=
  L2.walk_of (n := 63) (k := 20) (x := "script") (CX := fun _ => CX0) (sp := fun w => spLaw (K w.params)) hn (by decide) hdf ⟨rfl, by decide, by decide⟩ hY F (fun _ _ a ns hl _ hS => ⟨a, ns, rfl, hS, hl, fun _ => rfl⟩) fun _ _ _ _ _ z => z
end MD
open PySem PySem.W PyProof.Rows
set_option maxRecDepth 100000 in
set_option maxHeartbeats 0 in
theorem PySem.Challenge.cw_manydoors_k07_wires_holds : PySem.Challenge.rw_manydoors_k07_wires.Holds := by
  w_on; o_law; k_head; (case hw => w_witness2)
  k_fill
  refine MD.walk (l := PySem.Challenge.rw_manydoors_k07_wires) rfl rfl (fun w h Y => PySem.W.kIn_of Y) ?F
  case F =>
    intro w mg fa h KX G hmg
    refine' MD.all_mk KX G hmg ?aC_Wire ?a0 ?i0 ?l0 ?c0 ?k0 ?a1 ?i1 ?l1 ?c1 ?k1 ?a2 ?i2 ?l2 ?c2 ?k2 ?a3 ?i3 ?l3 ?c3 ?k3 ?a4 ?l4 ?c4 ?k4 ?a5 ?l5 ?c5 ?k5 ?a6 ?l6 ?c6 ?k6 ?a7 ?l7 ?c7 ?k7 ?a8 ?l8 ?c8 ?k8 ?a9 ?l9 ?c9 ?k9 ?pg_Wire ?hd_Wire ?po_Wire ?sa_Wire ?mk_Wire ?kc_Wire ?na_Wire_sent ?na_Wire_outbox ?na_Wire_expected ?z_bool ?z_int ?z_isinstance ?z_len ?z_list ?z_max ?z_range ?z_str ?z_tuple
    (case aC_Wire => k_is)
    (case a0 => k_is)
    (case i0 => k_is)
    (case l0 => k_is)
    (case c0 => k_is)
    (case k0 => k_is)
    (case a1 => k_is)
    (case i1 => k_is)
    (case l1 => k_is)
    (case c1 => k_is)
    (case k1 => k_is)
    (case a2 => k_is)
    (case i2 => k_is)
    (case l2 => k_is)
    (case c2 => k_is)
    (case k2 => k_is)
    (case a3 => k_is)
    (case i3 => k_is)
    (case l3 => k_is)
    (case c3 => k_is)
    (case k3 => k_is)
    (case a4 => k_is)
    (case l4 => k_is)
    (case c4 => k_is)
    (case k4 => k_is)
    (case a5 => k_is)
    (case l5 => k_is)
    (case c5 => k_is)
    (case k5 => k_is)
    (case a6 => k_is)
    (case l6 => k_is)
    (case c6 => k_is)
    (case k6 => k_is)
    (case a7 => k_is)
    (case l7 => k_is)
    (case c7 => k_is)
    (case k7 => k_is)
    (case a8 => k_is)
    (case l8 => k_is)
    (case c8 => k_is)
    (case k8 => k_is)
    (case a9 => k_is)
    (case l9 => k_is)
    (case c9 => k_is)
    (case k9 => k_is)
    (case pg_Wire => k_is)
    (case hd_Wire => k_is)
    (case po_Wire => k_is)
    (case sa_Wire => k_is)
    (case mk_Wire => k_is)
    (case kc_Wire => k_is)
    (case na_Wire_sent => k_is)
    (case na_Wire_outbox => k_is)
    (case na_Wire_expected => k_is)
    (case z_bool => k_is)
    (case z_int => k_is)
    (case z_isinstance => k_is)
    (case z_len => k_is)
    (case z_list => k_is)
    (case z_max => k_is)
    (case z_range => k_is)
    (case z_str => k_is)
    (case z_tuple => k_is)
