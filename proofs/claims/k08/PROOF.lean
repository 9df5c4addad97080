import PyProof.Rows.All
import Wide.All
import OpenK.AllK
import Wide.FinOn
import HandS.ForMost
import HandS.IsInst
import HandS.Codes
import HandS.TupSets
import HandS.SortRule
import PySem.Challenge.RW_manydoors_k08_whole_wires_lose_nothing
set_option Elab.async false
set_option linter.all false
set_option maxRecDepth 100000
set_option maxHeartbeats 4000000
namespace MD
open PySem PySem.Spec PyProof.Rows L2
/-! ### what changes: only what stands at M; tuples never; what is tracked stays tracked -/
structure Kp (M : List Addr) (H H' : Hp) : Prop where
  keep : ∀ b o, H b = some o → b ∉ M → H' b = some o
  tup : ∀ b xs, H b = some (.tup xs) → H' b = some (.tup xs)
  live : ∀ b o, H b = some o → ∃ o', H' b = some o'
theorem Kp.refl {M : List Addr} {H : Hp} : Kp M H H := ⟨fun _ _ h _ => h, fun _ _ h => h, fun _ o h => ⟨o, h⟩⟩
theorem Kp.trans {M : List Addr} {H H1 H2 : Hp} (a : Kp M H H1) (b : Kp M H1 H2) : Kp M H H2 :=
  ⟨fun x o h n => b.keep x o (a.keep x o h n) n, fun x xs h => b.tup x xs (a.tup x xs h), fun x o h => let ⟨o', h'⟩ := a.live x o h; b.live x o' h'⟩
theorem Kp.mono {M M' : List Addr} {H H' : Hp} (k : Kp M H H') (h : ∀ a, a ∈ M → a ∈ M') : Kp M' H H' :=
  ⟨fun b o e n => k.keep b o e fun z => n (h b z), k.tup, k.live⟩
/-- addresses that were not there may be left out -/
theorem Kp.drop {M M' : List Addr} {H H' : Hp} (k : Kp M H H') (h : ∀ a, a ∈ M → a ∈ M' ∨ H a = none) : Kp M' H H' :=
  ⟨fun b o e n => k.keep b o e fun z => (h b z).elim n fun q => (by rw [q] at e; cases e), k.tup, k.live⟩
theorem Kp.free {M : List Addr} {H H' : Hp} (k : Kp M H H') {b : Addr} (h : H' b = none) : H b = none := by
  cases e : H b with
  | none => rfl
  | some o => obtain ⟨o', h'⟩ := k.live b o e; rw [h] at h'; cases h'
theorem Kp.new {M : List Addr} {H : Hp} {p : Addr} {o : HO} (h : H p = none) : Kp M H (upd H p o) :=
  ⟨fun b u e _ => by rw [upd_ne (ne_of_none e h)]; exact e, fun b u e => by rw [upd_ne (ne_of_none e h)]; exact e, fun b u e => ⟨u, by rw [upd_ne (ne_of_none e h)]; exact e⟩⟩
/-- what may be written over: not a tuple -/
def NT : HO → Prop
  | .tup _ => False
  | _ => True
theorem Kp.old {M : List Addr} {H : Hp} {p : Addr} {o u : HO} (h : H p = some u) (nt : NT u) (m : p ∈ M) : Kp M H (upd H p o) := by
  refine ⟨fun b v e n => ?_, fun b v e => ?_, fun b v e => ?_⟩
  · rw [upd_ne (fun z : b = p => n (by rw [z]; exact m))]; exact e
  · rw [upd_ne (fun z => by rw [z, h] at e; cases e; exact nt)]; exact e
  · by_cases z : b = p
    · rw [z]; exact ⟨o, upd_same⟩
    · exact ⟨v, by rw [upd_ne z]; exact e⟩
/-- an object that was not there is written -/
theorem Kp.own {M : List Addr} {H H1 : Hp} {p : Addr} {o : HO} (k : Kp M H H1) (h : H p = none) : Kp M H (upd H1 p o) :=
  ⟨fun b u e n => by rw [upd_ne (ne_of_none e h)]; exact k.keep b u e n, fun b u e => by rw [upd_ne (ne_of_none e h)]; exact k.tup b u e, fun b u e => by rw [upd_ne (ne_of_none e h)]; exact k.live b u e⟩
theorem Kp.wr {M : List Addr} {H H1 : Hp} {p : Addr} {o u : HO} (k : Kp M H H1) (h : H1 p = some u) (nt : NT u) (m : p ∈ M) : Kp M H (upd H1 p o) := k.trans (Kp.old h nt m)
theorem Kp.nw {M : List Addr} {H H1 : Hp} {p : Addr} {o : HO} (k : Kp M H H1) (h : H1 p = none) : Kp M H (upd H1 p o) := k.own (k.free h)
theorem Kp.at {M : List Addr} {H H' : Hp} {b : Addr} {o : HO} (k : Kp M H H') (h : H b = some o) (n : b ∉ M) : H' b = some o := k.keep b o h n
theorem Kp.seq {M : List Addr} {K : PySem.W.Frag} {H H' : Hp} {a : Addr} {xs : List V} (k : Kp M H H') (h : SqL K H a xs) (n : a ∉ M) : SqL K H' a xs := by
  rcases h with (h | ⟨o, h⟩) | h
  · exact .inl (.inl (k.keep _ _ h n))
  · exact .inl (.inr ⟨o, k.keep _ _ h n⟩)
  · exact .inr h
theorem Kp.sqt {M : List Addr} {K : PySem.W.Frag} {H H' : Hp} {a : Addr} {xs : List V} (k : Kp M H H') (h : H a = some (.tup xs)) : SqT K H' a xs := .inl (.inl (k.tup _ _ h))
theorem nmem_nil {a : Addr} : a ∉ ([] : List Addr) := fun h => nomatch h
theorem nmem_one {a b : Addr} (h : a ≠ b) : a ∉ [b] := fun z => h (by simpa using z)
theorem nmem_two {a b c : Addr} (h : a ≠ b) (h2 : a ≠ c) : a ∉ [b, c] := fun z => by
  rcases List.mem_cons.mp z with e | e
  · exact h e
  · exact nmem_one h2 e
theorem nmem_cons {a b : Addr} {M : List Addr} (h : a ≠ b) (h2 : a ∉ M) : a ∉ b :: M := fun z => (List.mem_cons.mp z).elim h h2

/-! ### defs, methods, classes of the text; what may be called -/
structure DefAt (K : PySem.W.Frag) (mg : Str → Option Value) (x : Str) (st : Stmt) (ps : List Str) : Prop where
  ex : ∃ (f : Addr) (fd : FuncData), mg x = some (.ref f) ∧ L2.Fun K x x st f fd ∧ Binds K fd ps []
structure MethAt (K : PySem.W.Frag) (C : Addr) (m qual : Str) (st : Stmt) (ps : List Str) : Prop where
  ex : ∃ (f : Addr) (fd : FuncData), Meth K C m f ∧ L2.Fun K m qual st f fd ∧ Binds K fd ps []
structure MakeAt (K : PySem.W.Frag) (mg : Str → Option Value) (C : Addr) (x qual : Str) (st : Stmt) (ps : List Str) : Prop where
  ex : ∃ (f : Addr) (fd : FuncData), Mk K C f ∧ mg x = some (.ref C) ∧ L2.Fun K "__init__" qual st f fd ∧ Binds K fd ps []
structure Cal (P : Program) (w : World) (K : PySem.W.Frag) (mg : Str → Option Value) (base : Heap) (k : Nat) (x : Str) (sp : Sp) : Prop where
  ex : ∃ (f : Addr) (fd : FuncData) (ps : List Str), FnOk P w K mg base L2.CX0 k f fd ps sp ∧ mg x = some (.ref f) ∧ PySem.W.keepIn K (.ref f) = true ∧ Binds K fd ps []
structure Met (P : Program) (w : World) (K : PySem.W.Frag) (mg : Str → Option Value) (base : Heap) (k : Nat) (C : Addr) (m : Str) (sp : Sp) : Prop where
  ex : ∃ (f : Addr) (fd : FuncData) (ps : List Str), Cls K C ∧ Meth K C m f ∧ FnOk P w K mg base L2.CX0 k f fd ps sp ∧ Binds K fd ps []
structure Mak (P : Program) (w : World) (K : PySem.W.Frag) (mg : Str → Option Value) (base : Heap) (k : Nat) (x : Str) (C : Addr) (sp : Sp) : Prop where
  ex : ∃ (f : Addr) (fd : FuncData) (ps : List Str), Mk K C f ∧ FnOk P w K mg base L2.CX0 k f fd ps sp ∧ mg x = some (.ref C) ∧ Binds K fd ps []
section
variable {P : Program} {w : World} {K : PySem.W.Frag} {mg : Str → Option Value} {base : Heap}
theorem cal_of {x : Str} {st : Stmt} {N ps : List Str} {k : Nat} {sp : Sp} (D : DefAt K mg x st ps) (S : FnScope N ps (defScope st)) (len : ∀ vs H Q E, sp vs H Q E → vs.length = ps.length)
    (hbody : ∀ (f : Addr) (cdv : Value) (A : Around) (outer : List Env) (s : Shared) (H : Hp) (vs : List V) (Q : VK) (E : XK), Room k (A.deeper (envOfC x (defScope st) s.heap.objs.size f cdv)) → sp vs H Q E →
      ∃ t, PSs (cxOf L2.CX0 P w K mg base N x (defScope st) f cdv A outer s H E).nox (defBody st) t ∧ t { nx := fun _ H' => Q .non H', rt := Q } (start N vs) H) : Cal P w K mg base (k + 1) x sp := by
  obtain ⟨f, fd, hm, F, b⟩ := D.ex
  exact ⟨f, fd, ps, F.ok S len (hbody f), hm, F.kp, b⟩
theorem met_of {C : Addr} {m qual : Str} {st : Stmt} {N ps : List Str} {k : Nat} {sp : Sp} (c : Cls K C) (D : MethAt K C m qual st ps) (S : FnScope N ps (defScope st)) (len : ∀ vs H Q E, sp vs H Q E → vs.length = ps.length)
    (hbody : ∀ (f : Addr) (cdv : Value) (A : Around) (outer : List Env) (s : Shared) (H : Hp) (vs : List V) (Q : VK) (E : XK), Room k (A.deeper (envOfC qual (defScope st) s.heap.objs.size f cdv)) → sp vs H Q E →
      ∃ t, PSs (cxOf L2.CX0 P w K mg base N qual (defScope st) f cdv A outer s H E).nox (defBody st) t ∧ t { nx := fun _ H' => Q .non H', rt := Q } (start N vs) H) : Met P w K mg base (k + 1) C m sp := by
  obtain ⟨f, fd, hm, F, b⟩ := D.ex
  exact ⟨f, fd, ps, c, hm, F.ok S len (hbody f), b⟩
theorem mak_of {C : Addr} {x qual : Str} {st : Stmt} {N ps : List Str} {k : Nat} {sp : Sp} (D : MakeAt K mg C x qual st ps) (S : FnScope N ps (defScope st)) (len : ∀ vs H Q E, sp vs H Q E → vs.length = ps.length)
    (hbody : ∀ (f : Addr) (cdv : Value) (A : Around) (outer : List Env) (s : Shared) (H : Hp) (vs : List V) (Q : VK) (E : XK), Room k (A.deeper (envOfC qual (defScope st) s.heap.objs.size f cdv)) → sp vs H Q E →
      ∃ t, PSs (cxOf L2.CX0 P w K mg base N qual (defScope st) f cdv A outer s H E).nox (defBody st) t ∧ t { nx := fun _ H' => Q .non H', rt := Q } (start N vs) H) : Mak P w K mg base (k + 1) x C sp := by
  obtain ⟨f, fd, hm, mgx, F, b⟩ := D.ex
  exact ⟨f, fd, ps, hm, F.ok S len (hbody f), mgx, b⟩
theorem Cal.imp {x : Str} {k : Nat} {sp sp' : Sp} (c : Cal P w K mg base k x sp) (h : ∀ vs H Q E, sp' vs H Q E → sp vs H Q E) : Cal P w K mg base k x sp' := by
  obtain ⟨f, fd, ps, F, a, b, d⟩ := c.ex
  exact ⟨f, fd, ps, F.imp h, a, b, d⟩
theorem Cal.mono {x : Str} {k j : Nat} {sp : Sp} (c : Cal P w K mg base k x sp) (h : k ≤ j) : Cal P w K mg base j x sp := by
  obtain ⟨f, fd, ps, F, a, b, d⟩ := c.ex
  exact ⟨f, fd, ps, F.mono h, a, b, d⟩
end
section
variable {X : Cx} {k j : Nat} {C : Addr} {x m : Str} {sp : Sp} {p pos apos : Pos} {e o : Expr} {es : List Expr} {ta : TE} {t : TA} {E : XK}
/-- nothing is wanted of an exception: none comes -/
theorem passE : Passes L2.CX0 X E := fun _ _ _ _ _ _ _ h => h.elim
theorem pe_c (c : Cal X.prog X.w X.K X.mg X.base k x sp) (hr : Room k X.A) (hg : Gl X x) (ha : PA X (e :: es) t)
    (hdb : (x == ("__debug__" : Str)) = false := by decide) (he : starEach (e :: es) X.env = (false, eval e X.env) :: starEach es X.env := by rfl) (hpl : (backTo pos (starEach es X.env)).any (·.1) = false := by rfl) :
    PE X (.Call (.Name x p) (e :: es) [] pos) (tCall sp [] L2.E0 t) := by
  obtain ⟨f, fd, ps, F, hm, kp, b⟩ := c.ex
  exact pe_call F hr hg hm kp b .nil pass0 ha hdb he hpl
theorem pe_mt {pl : Sem Bool} (c : Met X.prog X.w X.K X.mg X.base k C m sp) (hr : Room k X.A) (he : PE X o ta) (ha : PA X (e :: es) t)
    (hst : starEach (e :: es) X.env = (false, eval e X.env) :: starEach es X.env := by rfl) (hpl : (backTo pos (starEach es X.env)).any (·.1) = false := by rfl)
    (ht : eval (.Call (.Attribute o m apos) (e :: es) [] pos) X.env = (do
      let ov ← eval o X.env
      standAt apos.atName
      let (f, first) ← holding [ov] (getMethod ov m pl)
      callWith pos f first (backTo pos (starEach (e :: es) X.env)) (backToKw pos (keywordEach [] X.env))) := by rfl) :
    PE X (.Call (.Attribute o m apos) (e :: es) [] pos) (tMeth C m sp [] L2.E0 ta t) := by
  obtain ⟨f, fd, ps, hc, hm, F, b⟩ := c.ex
  exact pe_meth (pl := pl) he hc hm F hr b .nil pass0 ha hst hpl ht
theorem pe_mt0 {pl : Sem Bool} (c : Met X.prog X.w X.K X.mg X.base k C m sp) (hr : Room k X.A) (he : PE X o ta)
    (ht : eval (.Call (.Attribute o m apos) [] [] pos) X.env = (do
      let ov ← eval o X.env
      standAt apos.atName
      let (f, first) ← holding [ov] (getMethod ov m pl)
      callWith pos f first (backTo pos (starEach [] X.env)) (backToKw pos (keywordEach [] X.env))) := by rfl) :
    PE X (.Call (.Attribute o m apos) [] [] pos) (tMeth C m sp [] L2.E0 ta tNil) := by
  obtain ⟨f, fd, ps, hc, hm, F, b⟩ := c.ex
  exact pe_meth0 (pl := pl) he hc hm F hr b .nil pass0 ht
theorem pe_mk (c : Mak X.prog X.w X.K X.mg X.base k x C sp) (hr : Room (k + 1) X.A) (hg : Gl X x) (ha : PA X (e :: es) t)
    (hdb : (x == ("__debug__" : Str)) = false := by decide) (he : starEach (e :: es) X.env = (false, eval e X.env) :: starEach es X.env := by rfl) (hpl : (backTo pos (starEach es X.env)).any (·.1) = false := by rfl) :
    PE X (.Call (.Name x p) (e :: es) [] pos) (tMake C sp [] L2.E0 t) := by
  obtain ⟨f, fd, ps, M, F, hm, b⟩ := c.ex
  exact pe_make M F hr hg hm b .nil pass0 ha hdb he hpl
theorem pe_mk0 (c : Mak X.prog X.w X.K X.mg X.base k x C sp) (hr : Room (k + 1) X.A) (hg : Gl X x)
    (hdb : (x == ("__debug__" : Str)) = false := by decide) :
    PE X (.Call (.Name x p) [] [] pos) (tMake C sp [] L2.E0 tNil) := by
  obtain ⟨f, fd, ps, M, F, hm, b⟩ := c.ex
  exact pe_make0 M F hr hg hm b .nil pass0 hdb
end
/-! ### data: scalars, and lists and tuples of data -/
inductive D where
  | v (x : V)
  | sq (l : Bool) (xs : List D)
/-- a list (l) or a tuple of these values is read at a -/
def SqB (K : PySem.W.Frag) (H : Hp) (l : Bool) (a : Addr) (xs : List V) : Prop := if l = true then SqL K H a xs else SqT K H a xs
def scl : V → Prop
  | .non => True
  | .bl _ => True
  | .int _ => True
  | .str _ => True
  | _ => False
mutual
def Rep (K : PySem.W.Frag) (H : Hp) : D → V → Prop
  | .v y, x => x = y ∧ scl y
  | .sq l ds, x => ∃ a vs, x = .ref a ∧ SqB K H l a vs ∧ Reps K H ds vs
def Reps (K : PySem.W.Frag) (H : Hp) : List D → List V → Prop
  | [], vs => vs = []
  | d :: ds, vs => ∃ v r, vs = v :: r ∧ Rep K H d v ∧ Reps K H ds r
end
mutual
def D.depth : D → Nat
  | .v _ => 0
  | .sq _ ds => Ds.depth ds + 1
def Ds.depth : List D → Nat
  | [] => 0
  | d :: ds => max d.depth (Ds.depth ds)
end
theorem Reps.len {K : PySem.W.Frag} {H : Hp} : ∀ {ds : List D} {vs : List V}, Reps K H ds vs → vs.length = ds.length
  | [], vs, h => by unfold Reps at h; subst h; rfl
  | d :: ds, vs, h => by
    unfold Reps at h
    obtain ⟨v, r, rfl, _, h2⟩ := h
    simp [Reps.len h2]
theorem Reps.get {K : PySem.W.Frag} {H : Hp} : ∀ {ds : List D} {vs : List V} {i : Nat} {d : D}, Reps K H ds vs → ds[i]? = some d → ∃ v, vs[i]? = some v ∧ Rep K H d v
  | [], _, i, _, _, e => by simp at e
  | d :: ds, vs, 0, d', h, e => by
    unfold Reps at h
    obtain ⟨v, r, rfl, h1, _⟩ := h
    simp at e; subst e
    exact ⟨v, rfl, h1⟩
  | d :: ds, vs, i + 1, d', h, e => by
    unfold Reps at h
    obtain ⟨v, r, rfl, _, h2⟩ := h
    obtain ⟨u, e1, e2⟩ := Reps.get h2 (by simpa using e)
    exact ⟨u, by simpa using e1, e2⟩
theorem Ds.depth_mem : ∀ {ds : List D} {i : Nat} {d : D}, ds[i]? = some d → d.depth ≤ Ds.depth ds
  | [], i, _, e => by simp at e
  | d :: ds, 0, d', e => by simp at e; subst e; unfold Ds.depth; omega
  | d :: ds, i + 1, d', e => by
    have := Ds.depth_mem (ds := ds) (i := i) (d := d') (by simpa using e)
    unfold Ds.depth; omega
theorem Rep.int {K : PySem.W.Frag} {H : Hp} {i : Int} : Rep K H (.v (.int i)) (.int i) := by unfold Rep; exact ⟨rfl, trivial⟩
theorem Rep.bl {K : PySem.W.Frag} {H : Hp} {i : Bool} : Rep K H (.v (.bl i)) (.bl i) := by unfold Rep; exact ⟨rfl, trivial⟩
theorem Rep.str {K : PySem.W.Frag} {H : Hp} {i : Str} : Rep K H (.v (.str i)) (.str i) := by unfold Rep; exact ⟨rfl, trivial⟩
theorem Rep.non {K : PySem.W.Frag} {H : Hp} : Rep K H (.v .non) .non := by unfold Rep; exact ⟨rfl, trivial⟩
theorem Reps.nil {K : PySem.W.Frag} {H : Hp} : Reps K H [] [] := by unfold Reps; rfl
theorem Reps.cons {K : PySem.W.Frag} {H : Hp} {d : D} {ds : List D} {v : V} {vs : List V} (h : Rep K H d v) (r : Reps K H ds vs) : Reps K H (d :: ds) (v :: vs) := by unfold Reps; exact ⟨v, vs, rfl, h, r⟩
theorem Rep.lst {K : PySem.W.Frag} {H : Hp} {a : Addr} {vs : List V} {ds : List D} (h : SqL K H a vs) (r : Reps K H ds vs) : Rep K H (.sq true ds) (.ref a) := by unfold Rep; exact ⟨a, vs, rfl, by unfold SqB; rw [if_pos rfl]; exact h, r⟩
theorem Rep.tup {K : PySem.W.Frag} {H : Hp} {a : Addr} {vs : List V} {ds : List D} (h : SqT K H a vs) (r : Reps K H ds vs) : Rep K H (.sq false ds) (.ref a) := by unfold Rep; exact ⟨a, vs, rfl, by unfold SqB; rw [if_neg Bool.false_ne_true]; exact h, r⟩
mutual
/-- data of tuples alone -/
def D.imm : D → Prop
  | .v _ => True
  | .sq l ds => l = false ∧ Ds.imm ds
def Ds.imm : List D → Prop
  | [] => True
  | d :: ds => d.imm ∧ Ds.imm ds
end
mutual
/-- .. that this law has made: tracked tuples -/
def RepT (H : Hp) : D → V → Prop
  | .v y, x => x = y ∧ scl y
  | .sq l ds, x => l = false ∧ ∃ a vs, x = .ref a ∧ H a = some (.tup vs) ∧ RepTs H ds vs
def RepTs (H : Hp) : List D → List V → Prop
  | [], vs => vs = []
  | d :: ds, vs => ∃ v r, vs = v :: r ∧ RepT H d v ∧ RepTs H ds r
end
mutual
theorem RepT.kp {M : List Addr} {H H' : Hp} (k : Kp M H H') : ∀ {d : D} {x : V}, RepT H d x → RepT H' d x
  | .v y, x, h => by unfold RepT at h ⊢; exact h
  | .sq l ds, x, h => by
    unfold RepT at h ⊢
    obtain ⟨e, a, vs, e1, e2, r⟩ := h
    exact ⟨e, a, vs, e1, k.tup _ _ e2, RepTs.kp k r⟩
theorem RepTs.kp {M : List Addr} {H H' : Hp} (k : Kp M H H') : ∀ {ds : List D} {vs : List V}, RepTs H ds vs → RepTs H' ds vs
  | [], vs, h => by unfold RepTs at h ⊢; exact h
  | d :: ds, vs, h => by
    unfold RepTs at h ⊢
    obtain ⟨v, r, e, h1, h2⟩ := h
    exact ⟨v, r, e, RepT.kp k h1, RepTs.kp k h2⟩
end
mutual
theorem RepT.rep {K : PySem.W.Frag} {H : Hp} : ∀ {d : D} {x : V}, RepT H d x → Rep K H d x
  | .v y, x, h => by unfold RepT at h; unfold Rep; exact h
  | .sq l ds, x, h => by
    unfold RepT at h
    obtain ⟨rfl, a, vs, rfl, e2, r⟩ := h
    exact Rep.tup (SqT.of e2) (RepTs.reps r)
theorem RepTs.reps {K : PySem.W.Frag} {H : Hp} : ∀ {ds : List D} {vs : List V}, RepTs H ds vs → Reps K H ds vs
  | [], vs, h => by unfold RepTs at h; unfold Reps; exact h
  | d :: ds, vs, h => by
    unfold RepTs at h
    obtain ⟨v, r, rfl, h1, h2⟩ := h
    exact Reps.cons (RepT.rep h1) (RepTs.reps h2)
end
theorem RepTs.len {H : Hp} : ∀ {ds : List D} {vs : List V}, RepTs H ds vs → vs.length = ds.length
  | [], vs, h => by unfold RepTs at h; subst h; rfl
  | d :: ds, vs, h => by
    unfold RepTs at h
    obtain ⟨v, r, rfl, _, h2⟩ := h
    simp [RepTs.len h2]
theorem RepT.int {H : Hp} {i : Int} : RepT H (.v (.int i)) (.int i) := by unfold RepT; exact ⟨rfl, trivial⟩
theorem RepT.bl {H : Hp} {i : Bool} : RepT H (.v (.bl i)) (.bl i) := by unfold RepT; exact ⟨rfl, trivial⟩
theorem RepT.str {H : Hp} {i : Str} : RepT H (.v (.str i)) (.str i) := by unfold RepT; exact ⟨rfl, trivial⟩
theorem RepT.non {H : Hp} : RepT H (.v .non) .non := by unfold RepT; exact ⟨rfl, trivial⟩
theorem RepTs.nil {H : Hp} : RepTs H [] [] := by unfold RepTs; rfl
theorem RepTs.cons {H : Hp} {d : D} {ds : List D} {v : V} {vs : List V} (h : RepT H d v) (r : RepTs H ds vs) : RepTs H (d :: ds) (v :: vs) := by unfold RepTs; exact ⟨v, vs, rfl, h, r⟩
theorem RepT.tup {H : Hp} {a : Addr} {vs : List V} {ds : List D} (h : H a = some (.tup vs)) (r : RepTs H ds vs) : RepT H (.sq false ds) (.ref a) := by unfold RepT; exact ⟨rfl, a, vs, rfl, h, r⟩
theorem RepTs.snoc {H : Hp} {d : D} {v : V} (h : RepT H d v) : ∀ {ds : List D} {vs : List V}, RepTs H ds vs → RepTs H (ds ++ [d]) (vs ++ [v])
  | [], vs, q => by unfold RepTs at q; subst q; exact RepTs.cons h RepTs.nil
  | e :: ds, vs, q => by
    unfold RepTs at q
    obtain ⟨u, r, rfl, h1, h2⟩ := q
    exact RepTs.cons h1 (RepTs.snoc h h2)
theorem RepTs.get {H : Hp} : ∀ {ds : List D} {vs : List V} {i : Nat} {v : V}, RepTs H ds vs → vs[i]? = some v → ∃ d, ds[i]? = some d ∧ RepT H d v
  | [], _, i, _, h, e => by unfold RepTs at h; subst h; simp at e
  | d :: ds, vs, 0, v', h, e => by
    unfold RepTs at h
    obtain ⟨v, r, rfl, h1, _⟩ := h
    simp at e; subst e
    exact ⟨d, rfl, h1⟩
  | d :: ds, vs, i + 1, v', h, e => by
    unfold RepTs at h
    obtain ⟨v, r, rfl, _, h2⟩ := h
    obtain ⟨u, e1, e2⟩ := RepTs.get h2 (by simpa using e)
    exact ⟨u, by simpa using e1, e2⟩
/-! ### lists of ints -/
theorem int_item {ns : List Int} {i : Nat} {y : V} (h : (ns.map V.int)[i]? = some y) : ∃ z, y = V.int z ∧ ns[i]? = some z := by
  rw [List.getElem?_map] at h
  cases e : ns[i]? with
  | none => rw [e] at h; cases h
  | some z => rw [e] at h; exact ⟨z, (Option.some.inj h).symm, rfl⟩
theorem int_snoc (ms : List Int) (v : Int) : ms.map V.int ++ [V.int v] = (ms ++ [v]).map V.int := by rw [List.map_append]; rfl
theorem at_of {α : Type} {xs : List α} {i : Int} {v : α} (h0 : 0 ≤ i) (h : xs[i.toNat]? = some v) : atI xs i = some v := by
  have q := atI_nat h
  rw [Int.toNat_of_nonneg h0] at q
  exact q
theorem int_at {ns : List Int} {i : Int} {z : Int} (h0 : 0 ≤ i) (h : ns[i.toNat]? = some z) : atI (ns.map V.int) i = some (V.int z) :=
  at_of h0 (by rw [List.getElem?_map, h]; rfl)
def Rg (ns : List Int) : Prop := ∀ x ∈ ns, 0 ≤ x ∧ x < 1000000
theorem Rg.nil : Rg [] := fun _ h => nomatch h
theorem Rg.snoc {ns : List Int} {v : Int} (h : Rg ns) (h0 : 0 ≤ v) (h1 : v < 1000000) : Rg (ns ++ [v]) := fun x hx => by
  rcases List.mem_append.mp hx with z | z
  · exact h x z
  · rw [List.mem_singleton.mp z]; exact ⟨h0, h1⟩
theorem sz {n m : Nat} (h : n ≤ m) (hm : m < 100000 := by omega) : n < sizeLine := Nat.lt_of_le_of_lt h (Nat.lt_of_lt_of_le hm (by decide))
theorem szl {n m : Nat} (h : n ≤ m) (hm : m < 100000 := by omega) : n ≤ sizeLine := Nat.le_of_lt (sz h hm)
/-! ### deep equality: what the data may be -/
def D.ok : Nat → D → Prop
  | _, .v _ => True
  | 0, .sq _ _ => False
  | n + 1, .sq _ ds => ds.length ≤ 100000 ∧ ∀ d ∈ ds, D.ok n d
theorem ty_sq {K : PySem.W.Frag} {H : Hp} {l : Bool} {a : Addr} {vs : List V} (h : SqB K H l a vs) : TyX K H (.ref a) (.type (if l = true then "list" else "tuple")) := by
  cases l with
  | true =>
    have h : SqL K H a vs := h
    rcases h with (h | ⟨o, h⟩) | ⟨o, its, n, hk, hc, _⟩
    · exact .base (.lst h)
    · exact .base (.frz h)
    · exact .kList hk hc
  | false =>
    have h : SqT K H a vs := h
    rcases h with (h | ⟨o, h⟩) | ⟨o, its, n, hk, hc, _⟩
    · exact .base (.tup h)
    · exact .fTuple h
    · exact .kTuple hk hc
theorem SqB.any {K : PySem.W.Frag} {H : Hp} {l : Bool} {a : Addr} {vs : List V} (h : SqB K H l a vs) : SqL K H a vs ∨ SqT K H a vs := by
  cases l with
  | true => exact .inl h
  | false => exact .inr h
theorem SqB.ix {K : PySem.W.Frag} {H : Hp} {l : Bool} {a : Addr} {vs : List V} {i : Int} {v : V} {Q : VK} (h : SqB K H l a vs) (e : atI vs i = some v) (q : Q v H) : rIx K (.ref a) (.int i) H Q := by
  cases l with
  | true => exact .inl ⟨a, vs, i, v, rfl, rfl, h, e, q⟩
  | false => exact .inr (.inl ⟨a, vs, i, v, rfl, rfl, h, e, q⟩)
/-- the type of a scalar, by name -/
def tyS : V → String
  | .non => "NoneType"
  | .bl _ => "bool"
  | .int _ => "int"
  | .str _ => "str"
  | _ => ""
theorem ty_scl {K : PySem.W.Frag} {H : Hp} {v : V} (h : scl v) : TyX K H v (.type (tyS v)) := by
  cases v with
  | non => exact .base .non
  | bl b => exact .base (.bl b)
  | int i => exact .base (.int i)
  | str x => exact .base (.str x)
  | _ => cases h
theorem r_isi {K : PySem.W.Frag} {H : Hp} {x : V} {t c : String} {b : Bool} {Q : VK} (ty : TyX K H x (.type t)) (k : kitB t c = some b) (q : Q (.bl b) H) : rIsi K [x, .ty c] H Q :=
  ⟨x, .ty c, _, _, b, rfl, .ty c, ty, kit_ty k, q⟩
/-! ### rules with the written part by name (within comprehensions the context is another one) -/
section
variable {X : Cx} {K : PySem.W.Frag}
def rLenK (K : PySem.W.Frag) : List V → Hp → VK → Prop := fun xs H Q => ∃ p ys, xs = [.ref p] ∧ (SqL K H p ys ∨ SqT K H p ys) ∧ Q (.int ys.length) H
def rListK (K : PySem.W.Frag) : List V → Hp → VK → Prop := fun xs H Q => ∃ p ys, xs = [.ref p] ∧ (SqL K H p ys ∨ SqT K H p ys) ∧ ∀ l, H l = none → Q (.ref l) (upd H l (.lst ys))
def rTupleK (K : PySem.W.Frag) : List V → Hp → VK → Prop := fun xs H Q => ∃ p ys, xs = [.ref p] ∧ ((SqL K H p ys ∧ ∀ l, H l = none → Q (.ref l) (upd H l (.tup ys))) ∨ (SqT K H p ys ∧ Q (.ref p) H))
theorem ixL (h : X.K = K := by rfl) : IxR X (rIxL K) := by subst h; exact ix_list
theorem ixT (h : X.K = K := by rfl) : IxR X (rIxT K) := by subst h; exact ix_tup
theorem ixS (h : X.K = K := by rfl) : IxR X (rIx K) := by subst h; exact ix_seq
theorem slL (h : X.K = K := by rfl) : SlR X (rSlL K) := by subst h; exact sl_list
theorem slT (h : X.K = K := by rfl) : SlR X (rSlT K) := by subst h; exact sl_tup
theorem lenK (h : X.K = K := by rfl) : CallR X (.builtin "len") (rLenK K) := by subst h; exact call_len_seq
theorem listK (h : X.K = K := by rfl) : CallR X (.type "list") (rListK K) := by subst h; exact call_list_of
theorem tupleK (h : X.K = K := by rfl) : CallR X (.type "tuple") (rTupleK K) := by subst h; exact call_tuple_of
theorem isiK (h : X.K = K := by rfl) : CallR X (.builtin "isinstance") (rIsi K) := by subst h; exact call_isi
theorem inK (h : X.K = K := by rfl) : OpR X (compareOp .In) (rIn K false) := by subst h; exact op_in_seq
theorem niK (h : X.K = K := by rfl) : OpR X (compareOp .NotIn) (rIn K true) := by subst h; exact op_notIn_seq
theorem fldK {e : Expr} {f : Str} {pos : Pos} {ta : TE} (he : PE X e ta) (hb : attributeBase e f X.env (eval e X.env) = eval e X.env) (h : X.K = K := by rfl) : PE X (.Attribute e f pos) (tFld K ta f) := by subst h; exact pe_fld he hb
end
theorem Kp.wrI {M : List Addr} {H H1 : Hp} {p C dx : Addr} {fs : List (Str × V)} {o : HO} (k : Kp M H H1) (h : H1 p = some (.ins C dx fs)) (m : p ∈ M) : Kp M H (upd H1 p o) := k.wr h trivial m
theorem Kp.wrL {M : List Addr} {H H1 : Hp} {p : Addr} {xs : List V} {o : HO} (k : Kp M H H1) (h : H1 p = some (.lst xs)) (m : p ∈ M) : Kp M H (upd H1 p o) := k.wr h trivial m
theorem Kp.wrT {M : List Addr} {H H1 : Hp} {p : Addr} {kvs : List (List Key × V)} {o : HO} (k : Kp M H H1) (h : H1 p = some (.dT kvs)) (m : p ∈ M) : Kp M H (upd H1 p o) := k.wr h trivial m
end MD

namespace MD
open PySem PySem.Spec PyProof.Rows L2
/-! ### rules whose readings tell the heap behind a change by what is kept (Kp), not as a term -/
def mE (t : TE) : TE := fun σ H Q => ∃ R : VK, t σ H R ∧ ∀ x H1, R x H1 → Q x H1
def mA (t : TA) : TA := fun σ H Q => ∃ R : List V → Hp → Prop, t σ H R ∧ ∀ x H1, R x H1 → Q x H1
section
variable {X : Cx} {e : Expr} {es : List Expr} {st : Stmt} {pos : Pos}
theorem peM {t : TE} (h : PE X e t) : PE X e (mE t) := ⟨fun pins s σ H Q I ⟨R, h1, h2⟩ => thn (h.run pins s σ H R I h1) fun _ _ ⟨v, H', J, r, q⟩ => ⟨v, H', J, r, h2 _ _ q⟩⟩
theorem paM {t : TA} (h : PA X es t) : PA X es (mA t) := ⟨fun pos pins s σ H Q I ⟨R, h1, h2⟩ => thn (h.run pos pins s σ H R I h1) fun _ _ ⟨v, H', J, r, q⟩ => ⟨v, H', J, r, h2 _ _ q⟩⟩
theorem peI {t t' : TE} (h : PE X e t) (i : ∀ σ H Q, t' σ H Q → t σ H Q) : PE X e t' := ⟨fun pins s σ H Q I q => h.run pins s σ H Q I (i _ _ _ q)⟩
theorem ptI {t t' : TT} (h : PT X e t) (i : ∀ σ H Q, t' σ H Q → t σ H Q) : PT X e t' := ⟨fun pins s σ H Q I q => h.run pins s σ H Q I (i _ _ _ q)⟩
theorem psI {t t' : TS} (h : PS X st t) (i : ∀ D σ H, t' D σ H → t D σ H) : PS X st t' := ⟨fun pins s σ H D I q => h.run pins s σ H D I (i _ _ _ q)⟩
theorem callI {f : Value} {r r' : List V → Hp → VK → Prop} (h : CallR X f r) (i : ∀ xs H Q, r' xs H Q → r xs H Q) : CallR X f r' := fun pins s σ H xs us Q I v q => h pins s σ H xs us Q I v (i _ _ _ q)
theorem mtI {f : String} {r r' : V → List V → Hp → VK → Prop} (h : MtR X f r) (i : ∀ x xs H Q, r' x xs H Q → r x xs H Q) : MtR X f r' := fun pins s σ H x xs v us Q I a b q => h pins s σ H x xs v us Q I a b (i _ _ _ _ q)
theorem oprI {f : Value → Value → Sem Value} {r r' : R2} (h : OpR X f r) (i : ∀ x y H Q, r' x y H Q → r x y H Q) : OpR X f r' := fun pins s σ H x y v u Q I a b q => h pins s σ H x y v u Q I a b (i _ _ _ _ q)
theorem slrI {r r' : V → Option Int → Option Int → Hp → VK → Prop} (h : SlR X r) (i : ∀ x lo hi H Q, r' x lo hi H Q → r x lo hi H Q) : SlR X r' := fun pins s σ H x v vl vu lo hi sl Q I a b c d q => h pins s σ H x v vl vu lo hi sl Q I a b c d (i _ _ _ _ _ q)
theorem psetI {t t' : TSet} (h : PSet X t) (i : ∀ o i v H Q, t' o i v H Q → t o i v H Q) : PSet X t' := fun pins s σ H o j v ov iv u Q I a b c q => h pins s σ H o j v ov iv u Q I a b c (i _ _ _ _ _ q)

/-- a new object u, told by what is kept -/
def New (H : Hp) (u : HO) (Q : VK) : Prop := ∀ p H2, H p = none → Kp [] H H2 → H2 p = some u → Q (.ref p) H2
theorem New.old {H : Hp} {u : HO} {Q : VK} (h : New H u Q) : ∀ p, H p = none → Q (.ref p) (upd H p u) := fun p hp => h p _ hp (Kp.new hp) upd_same
/-- the object at p is now u -/
def Wr (H : Hp) (p : Addr) (u : HO) (Q : Hp → Prop) : Prop := ∀ H2, Kp [p] H H2 → H2 p = some u → Q H2
theorem Wr.old {H : Hp} {p : Addr} {u o : HO} {Q : Hp → Prop} (h : Wr H p u Q) (e : H p = some o) (nt : NT o) : Q (upd H p u) := h _ (Kp.old e nt List.mem_cons_self) upd_same

def kTup (t : TA) : TE := fun σ H Q => t σ H fun xs H1 => xs.length ≤ sizeLine ∧ New H1 (.tup xs) Q
def kLst (t : TA) : TE := fun σ H Q => t σ H fun xs H1 => xs.length ≤ sizeLine ∧ New H1 (.lst xs) Q
theorem ke_tup {x1} {t : TA} (h : PA X es t) : PE X (.Tuple es x1 pos) (kTup t) := peI (pe_tup (paM h)) fun σ H Q q => ⟨_, q, fun xs H1 r => ⟨r.1, r.2.old⟩⟩
theorem ke_lst {t : TA} (h : PA X es t) : PE X (.List es pos) (kLst t) := peI (pe_lst (paM h)) fun σ H Q q => ⟨_, q, fun xs H1 r => ⟨r.1, r.2.old⟩⟩
def kList (K : PySem.W.Frag) : List V → Hp → VK → Prop := fun xs H Q => ∃ p ys, xs = [.ref p] ∧ (SqL K H p ys ∨ SqT K H p ys) ∧ New H (.lst ys) Q
theorem klistK {K : PySem.W.Frag} (h : X.K = K := by rfl) : CallR X (.type "list") (kList K) := callI (listK h) fun xs H Q ⟨p, ys, a, b, c⟩ => ⟨p, ys, a, b, c.old⟩
def kTuple (K : PySem.W.Frag) : List V → Hp → VK → Prop := fun xs H Q => ∃ p ys, xs = [.ref p] ∧ ((SqL K H p ys ∧ New H (.tup ys) Q) ∨ (SqT K H p ys ∧ Q (.ref p) H))
theorem ktupleK {K : PySem.W.Frag} (h : X.K = K := by rfl) : CallR X (.type "tuple") (kTuple K) := callI (tupleK h) fun xs H Q ⟨p, ys, a, b⟩ => ⟨p, ys, a, b.elim (fun z => .inl ⟨z.1, z.2.old⟩) .inr⟩
def kSlL (K : PySem.W.Frag) : V → Option Int → Option Int → Hp → VK → Prop := fun x lo hi H Q => ∃ a xs, x = .ref a ∧ SqL K H a xs ∧ New H (.lst (cutV xs lo hi)) Q
theorem kslL {K : PySem.W.Frag} (h : X.K = K := by rfl) : SlR X (kSlL K) := slrI (slL h) fun x lo hi H Q ⟨a, xs, e, b, c⟩ => ⟨a, xs, e, b, c.old⟩
def kSlT (K : PySem.W.Frag) : V → Option Int → Option Int → Hp → VK → Prop := fun x lo hi H Q => ∃ a xs, x = .ref a ∧ SqT K H a xs ∧
  ¬ (HT.sIx xs.length 0 lo = 0 ∧ HT.sIx xs.length xs.length hi = xs.length) ∧ New H (.tup (cutV xs lo hi)) Q
theorem kslT {K : PySem.W.Frag} (h : X.K = K := by rfl) : SlR X (kSlT K) := slrI (slT h) fun x lo hi H Q ⟨a, xs, e, b, n, c⟩ => ⟨a, xs, e, b, n, c.old⟩
def kCat : R2 := fun x y H Q => ∃ l b xs zs, x = .ref l ∧ y = .ref b ∧ H l = some (.lst xs) ∧ H b = some (.lst zs) ∧ xs.length + zs.length ≤ sizeLine ∧ New H (.lst (xs ++ zs)) Q
theorem kcat : OpR X (binaryOp .Add) kCat := oprI op_cat fun x y H Q ⟨l, b, xs, zs, h1, h2, h3, h4, h5, q⟩ => ⟨l, b, xs, zs, h1, h2, h3, h4, h5, q.old⟩
def kRep : R2 := fun x y H Q => ∃ l k xs, x = .ref l ∧ y = .int k ∧ H l = some (.lst xs) ∧ -(2 ^ 63) ≤ k ∧ k < 2 ^ 63 ∧ xs.length * k.toNat ≤ sizeLine ∧ New H (.lst (List.replicate k.toNat xs).flatten) Q
theorem krep : OpR X (binaryOp .Mult) kRep := oprI op_rep fun x y H Q ⟨l, k, xs, h1, h2, h3, h4, h5, h6, q⟩ => ⟨l, k, xs, h1, h2, h3, h4, h5, h6, q.old⟩
def kCatT (K : PySem.W.Frag) : R2 := fun x y H Q => ∃ a b xs ys, x = .ref a ∧ y = .ref b ∧ SqT K H a xs ∧ SqT K H b ys ∧ xs ≠ [] ∧ xs.length + ys.length ≤ sizeLine ∧
  (ys = [] → Q (.ref a) H) ∧ (ys ≠ [] → New H (.tup (xs ++ ys)) Q)
theorem kcatT {K : PySem.W.Frag} (h : X.K = K := by rfl) : OpR X (binaryOp .Add) (kCatT K) := by
  subst h
  exact oprI op_catT fun x y H Q ⟨a, b, xs, ys, h1, h2, h3, h4, h5, h6, h7, q⟩ => ⟨a, b, xs, ys, h1, h2, h3, h4, h5, h6, h7, fun z => (q z).old⟩
def kAppend : V → List V → Hp → VK → Prop := fun x vs H Q => ∃ l xs y, x = .ref l ∧ vs = [y] ∧ H l = some (.lst xs) ∧ xs.length < sizeLine ∧ Wr H l (.lst (xs ++ [y])) (Q .non)
theorem mk_append : MtR X "list.append" kAppend := mtI mt_append fun x xs H Q ⟨l, ys, y, h1, h2, h3, h4, q⟩ => ⟨l, ys, y, h1, h2, h3, h4, q.old h3 trivial⟩
def kExtend : V → List V → Hp → VK → Prop := fun x vs H Q => ∃ l b xs zs, x = .ref l ∧ vs = [.ref b] ∧ H l = some (.lst xs) ∧ H b = some (.lst zs) ∧ xs.length + zs.length ≤ sizeLine ∧ Wr H l (.lst (xs ++ zs)) (Q .non)
theorem mk_extend : MtR X "list.extend" kExtend := mtI mt_extend fun x xs H Q ⟨l, b, ys, y, h1, h2, h3, h4, h5, q⟩ => ⟨l, b, ys, y, h1, h2, h3, h4, h5, q.old h3 trivial⟩
def kPop : V → List V → Hp → VK → Prop := fun x vs H Q => ∃ l xs y, x = .ref l ∧ vs = [] ∧ H l = some (.lst xs) ∧ xs[xs.length - 1]? = some y ∧ Wr H l (.lst xs.dropLast) (Q y)
theorem mk_pop : MtR X "list.pop" kPop := mtI mt_pop fun x xs H Q ⟨l, ys, y, h1, h2, h3, h4, q⟩ => ⟨l, ys, y, h1, h2, h3, h4, q.old h3 trivial⟩
def kPopAt : V → List V → Hp → VK → Prop := fun x vs H Q => ∃ l xs i k y, x = .ref l ∧ vs = [.int i] ∧ H l = some (.lst xs) ∧ -(2 ^ 63) ≤ i ∧ i < 2 ^ 63 ∧ seqIndex? i xs.length = some k ∧ xs[k]? = some y ∧ Wr H l (.lst (xs.eraseIdx k)) (Q y)
theorem mk_popAt : MtR X "list.pop" kPopAt := mtI mt_popAt fun x xs H Q ⟨l, ys, i, k, y, h1, h2, h3, h4, h5, h6, h7, q⟩ => ⟨l, ys, i, k, y, h1, h2, h3, h4, h5, h6, h7, q.old h3 trivial⟩
def kClear : V → List V → Hp → VK → Prop := fun x vs H Q => ∃ l xs, x = .ref l ∧ vs = [] ∧ H l = some (.lst xs) ∧ Wr H l (.lst []) (Q .non)
theorem mk_clear : MtR X "list.clear" kClear := mtI mt_clear fun x xs H Q ⟨l, ys, h1, h2, h3, q⟩ => ⟨l, ys, h1, h2, h3, q.old h3 trivial⟩
def kSetL : V → V → V → Hp → (Hp → Prop) → Prop := fun o i v H Q => ∃ p xs k j, o = .ref p ∧ i = .int k ∧ H p = some (.lst xs) ∧ ixN xs.length k = some j ∧ Wr H p (.lst (xs.set j v)) Q
theorem kset_list : PSet X kSetL := psetI set_list fun o i v H Q ⟨p, xs, k, j, h1, h2, h3, h4, q⟩ => ⟨p, xs, k, j, h1, h2, h3, h4, q.old h3 trivial⟩
def kFld (K : PySem.W.Frag) (ta tv : TE) (f : Str) : TS := fun D σ H => tv σ H fun y H1 => ta σ H1 fun x H2 => ∃ a C dx fs, x = .ref a ∧ H2 a = some (.ins C dx fs) ∧ Cls K C ∧ NoAttr K C f ∧ fs.length < 1000 ∧
  Wr H2 a (.ins C dx (putF f y fs)) (D.nx σ)
theorem ks_fld {K : PySem.W.Frag} {o value : Expr} {f : Str} {pos' : Pos} {ta tv : TE} (ha : PE X o ta) (hv : PE X value tv) (hs : swapsWith value (some (.Attribute o f pos')) pos.line X.env = pure false) (h : X.K = K := by rfl) : PS X (.Assign [.Attribute o f pos'] value pos) (kFld K ta tv f) := by
  subst h
  refine psI (ps_fld (peM ha) (peM hv) hs) fun D σ H q => ⟨_, q, fun y H1 r => ⟨_, r, fun x H2 ⟨a, C, dx, fs, h1, h2, h3, h4, h5, q⟩ => ⟨a, C, dx, fs, h1, h2, h3, h4, h5, q.old h2 trivial⟩⟩⟩
def kFldAug (K : PySem.W.Frag) (ta tv : TE) (rd : V → V → Hp → VK → Prop) (f : Str) : TS := fun D σ H => ta σ H fun x H1 => ∃ a C dx fs v, x = .ref a ∧ H1 a = some (.ins C dx fs) ∧ Cls K C ∧ NoAttr K C f ∧ fs.lookup f = some v ∧
  tv σ H1 fun y H2 => rd v y H2 fun z H3 => ∃ dx' fs', H3 a = some (.ins C dx' fs') ∧ fs'.length < 1000 ∧ Wr H3 a (.ins C dx' (putF f z fs')) (D.nx σ)
def mR (r : V → V → Hp → VK → Prop) : V → V → Hp → VK → Prop := fun x y H Q => ∃ R : VK, r x y H R ∧ ∀ z H1, R z H1 → Q z H1
theorem inM {op : Operator} {rd : V → V → Hp → VK → Prop} (h : InOp X op rd) : InOp X op (mR rd) := fun pins s σ H x y u v Q I a b ⟨R, h1, h2⟩ => thn (h pins s σ H x y u v R I a b h1) fun _ _ ⟨v, H', J, r, q⟩ => ⟨v, H', J, r, h2 _ _ q⟩
theorem ks_fldaug {K : PySem.W.Frag} {o value : Expr} {f : Str} {tpos : Pos} {ta tv : TE} {op : Operator} {rd : V → V → Hp → VK → Prop} (ha : PE X o ta) (hv : PE X value tv) (hop : InOp X op rd) (h : X.K = K := by rfl) : PS X (.AugAssign (.Attribute o f tpos) op value pos) (kFldAug K ta tv rd f) := by
  subst h
  refine psI (ps_fldaug (peM ha) (peM hv) (inM hop)) fun D σ H q => ⟨_, q, fun x H1 ⟨a, C, dx, fs, v, h1, h2, h3, h4, h5, q⟩ => ⟨a, C, dx, fs, v, h1, h2, h3, h4, h5, _, q, fun y H2 q => ⟨_, q, fun z H3 ⟨dx', fs', h1, h2, q⟩ => ⟨dx', fs', h1, h2, q.old h1 trivial⟩⟩⟩⟩
def kMake (C : Addr) (sp : Sp) (t : TA) : TE := fun σ H Q => t σ H fun vs H1 => ∀ x dx H2, H1 x = none → Kp [] H1 H2 → H2 x = some (.ins C dx []) → sp (.ref x :: vs) H2 (fun v H3 => v = .non ∧ Q (.ref x) H3) L2.E0
theorem kMake.old {C : Addr} {sp : Sp} {vs : List V} {H1 : Hp} {Q : VK} (h : ∀ x dx H2, H1 x = none → Kp [] H1 H2 → H2 x = some (.ins C dx []) → sp (.ref x :: vs) H2 (fun v H3 => v = .non ∧ Q (.ref x) H3) L2.E0) :
    ∀ x dx, H1 x = none → H1 dx = none → dx ≠ x → sp (.ref x :: (vs ++ [])) (upd (upd H1 dx (.own x)) x (.ins C dx [])) (fun v H2 => v = .non ∧ Q (.ref x) H2) L2.E0 := fun x dx hx hdx hne => by
  rw [List.append_nil]
  exact h x dx _ hx ((Kp.new hdx).own hx) upd_same
theorem ke_mk {k : Nat} {x : Str} {C : Addr} {sp : Sp} {p : Pos} {t : TA} (c : Mak X.prog X.w X.K X.mg X.base k x C sp) (hr : Room (k + 1) X.A) (hg : Gl X x) (ha : PA X (e :: es) t)
    (hdb : (x == ("__debug__" : Str)) = false := by decide) (he : starEach (e :: es) X.env = (false, eval e X.env) :: starEach es X.env := by rfl) (hpl : (backTo pos (starEach es X.env)).any (·.1) = false := by rfl) :
    PE X (.Call (.Name x p) (e :: es) [] pos) (kMake C sp t) := peI (pe_mk c hr hg (paM ha) hdb he hpl) fun σ H Q q => ⟨_, q, fun vs H1 r => kMake.old r⟩
theorem ke_mk0 {k : Nat} {x : Str} {C : Addr} {sp : Sp} {p : Pos} (c : Mak X.prog X.w X.K X.mg X.base k x C sp) (hr : Room (k + 1) X.A) (hg : Gl X x)
    (hdb : (x == ("__debug__" : Str)) = false := by decide) : PE X (.Call (.Name x p) [] [] pos) (kMake C sp tNil) := peI (pe_mk0 c hr hg hdb) fun σ H Q q => kMake.old q
end
/-! ### comprehensions: what the made list holds (acc) apart from the rest -/
def mI (t : TI) : TI := fun σ H Q => ∃ R : It → Hp → Prop, t σ H R ∧ ∀ x H1, R x H1 → Q x H1
def mG (t : TG) : TG := fun v σ H Q => ∃ R : L2.St → Hp → Prop, t v σ H R ∧ ∀ x H1, R x H1 → Q x H1
def mT (t : TT) : TT := fun σ H Q => ∃ R : Bool → Hp → Prop, t σ H R ∧ ∀ x H1, R x H1 → Q x H1
section
variable {X : Cx}
theorem piM {tg iter : Expr} {t : TI} (h : PI X tg iter t) : PI X tg iter (mI t) := ⟨fun pins s σ H Q I ⟨R, h1, h2⟩ => thn (h.run pins s σ H R I h1) fun _ _ q => thn q fun _ _ ⟨it, fp, tn, J, H', a, b, c, d, e, r⟩ => ⟨it, fp, tn, J, H', a, b, c, d, e, h2 _ _ r⟩⟩
theorem pgM {tg : Expr} {t : TG} (h : PG X tg t) : PG X tg (mG t) := ⟨fun pins s σ H v u Q I r ⟨R, h1, h2⟩ => thn (h.run pins s σ H v u R I r h1) fun _ _ ⟨σ', H', J, q⟩ => ⟨σ', H', J, h2 _ _ q⟩⟩
theorem ptsM {ifs : List Expr} {t : TT} (h : PTs X ifs t) : PTs X ifs (mT t) := ⟨fun pins s σ H Q I ⟨R, h1, h2⟩ => thn (h.run pins s σ H R I h1) fun _ _ ⟨H', J, q⟩ => ⟨H', J, h2 _ _ q⟩⟩
end
/-- behind an element: y goes to the list at D -/
def Put (D : Addr) (acc : List V) (Nx : List V → Hp → Prop) (y : V) (H4 : Hp) : Prop := H4 D = some (.lst acc) ∧ acc.length < sizeLine ∧ ∀ H5, Kp [D] H4 H5 → H5 D = some (.lst (acc ++ [y])) → Nx (acc ++ [y]) H5
/-- one turn of a comprehension -/
def Turn1 (g : TG) (tt : TT) (te : TE) (vs : List Nat) (σ : L2.St) (D : Addr) (acc : List V) (Nx : List V → Hp → Prop) (x : V) (H' : Hp) : Prop :=
  g x (wipe σ vs) H' fun σ2 H2 => wipe σ2 vs = wipe σ vs ∧ tt σ2 H2 fun b H3 => if b = true then te σ2 H3 (Put D acc Nx) else H3 D = some (.lst acc) ∧ Nx acc H3
def kLcW (g : TG) (tt : TT) (te : TE) (vs : List Nat) (σ : L2.St) (J : It) (D : Addr) (H1' : Hp) (Qd : Hp → Prop) : Prop := ∃ W : Nat → Nat → List V → Hp → Prop, (∃ m, W 0 m [] H1') ∧ ∀ i m acc H, H D = some (.lst acc) → W i m acc H →
  (J.stop i H ∧ Qd H) ∨ (J.go i H ∧ ∃ Nx : List V → Hp → Prop, (∀ acc H', Nx acc H' → ∃ m', m' < m ∧ W (i + 1) m' acc H') ∧ ∀ x H', J.yld i H x H' → Turn1 g tt te vs σ D acc Nx x H')
def kLc (wi : TI) (g : TG) (tt : TT) (te : TE) (vs : List Nat) : TE := fun σ H Q => wi σ H fun J H1 => ∀ D H1', H1 D = none → Kp [] H1 H1' → H1' D = some (.lst []) → kLcW g tt te vs σ J D H1' (Q (.ref D))
theorem kLc.old {wi : TI} {g : TG} {tt : TT} {te : TE} {vs : List Nat} {σ : L2.St} {H : Hp} {Q : VK} (h : kLc wi g tt te vs σ H Q) : tLc (mI wi) (mG g) (mT tt) (mE te) vs σ H Q := by
  refine ⟨_, h, fun J H1 r D hD => ?_⟩
  obtain ⟨W, ⟨m, w0⟩, turn⟩ := r D _ hD (Kp.new hD) upd_same
  refine ⟨fun i m H => ∃ acc, H D = some (.lst acc) ∧ W i m acc H, ⟨m, [], upd_same, w0⟩, ?_⟩
  rintro i m H ⟨acc, hD, w⟩
  rcases turn i m acc H hD w with ⟨a, b⟩ | ⟨go, Nx, hN, step⟩
  · exact .inl ⟨a, b⟩
  · refine .inr ⟨go, fun H' => ∃ acc, H' D = some (.lst acc) ∧ Nx acc H', fun H' ⟨acc', h1, h2⟩ => let ⟨m', a, b⟩ := hN acc' H' h2; ⟨m', a, acc', h1, b⟩, fun x H' y => ?_⟩
    refine ⟨_, step x H' y, fun σ2 H2 ⟨e, t⟩ => ⟨e, _, t, fun b H3 q => ?_⟩⟩
    cases b with
    | true =>
      refine iteT ?_
      refine ⟨_, (show te σ2 H3 (Put D acc Nx) from q), fun y H4 ⟨h1, h2, h3⟩ => ⟨acc, h1, h2, _, upd_same, h3 _ (Kp.old h1 trivial List.mem_cons_self) upd_same⟩⟩
    | false => exact iteF ⟨acc, q⟩
section
variable {X : Cx}
theorem ke_lc {elt tg iter : Expr} {ifs : List Expr} {scope : Scope} {own : List (Str × Nat)} {pos : Pos} {wi : TI} {g : TG} {tt : TT} {te : TE} (hc : X.calm = true) (hN : X.N.Nodup) (hi : PI X tg iter wi) (ok : BlkOk X.N X.env.scope scope own)
    (hg : ∀ (s : Shared) (H : Hp) (C : Addr) (cl : List (Str × Addr)) (fp : List Addr), PG (X.blk s H scope (compEnvC scope cl C X.env) fp) tg g) (ht : ∀ (s : Shared) (H : Hp) (C : Addr) (cl : List (Str × Addr)) (fp : List Addr), PTs (X.blk s H scope (compEnvC scope cl C X.env) fp) ifs tt)
    (he : ∀ (s : Shared) (H : Hp) (C : Addr) (cl : List (Str × Addr)) (fp : List Addr), PE (X.blk s H scope (compEnvC scope cl C X.env) fp) elt te) (hs : ∀ x, foldedSetIterable iter X.env x = pure x := by intro _; rfl) :
    PE X (.ListComp elt [⟨tg, iter, ifs, 0⟩] scope pos) (kLc wi g tt te (own.map (·.2))) :=
  peI (pe_lc hc hN (piM hi) ok (fun a b c d e => pgM (hg a b c d e)) (fun a b c d e => ptsM (ht a b c d e)) (fun a b c d e => peM (he a b c d e)) hs) fun σ H Q q => kLc.old q
theorem ks_setLc {i : Nat} {y : Str} {py : Pos} {elt tg iter : Expr} {ifs : List Expr} {scope : Scope} {own : List (Str × Nat)} {pos spos : Pos} {wi : TI} {g : TG} {tt : TT} {te : TE} (hc : X.calm = true) (hN : X.N.Nodup) (hy : X.N[i]? = some y) (hyl : X.env.scope.names.lookup y = some .local)
    (hsw : swapsWith (.ListComp elt [⟨tg, iter, ifs, 0⟩] scope pos) (some (.Name y py)) spos.line X.env = pure true) (hi : PI X tg iter wi) (ok : BlkOk X.N X.env.scope scope own)
    (hg : ∀ (s : Shared) (H : Hp) (C : Addr) (cl : List (Str × Addr)) (fp : List Addr), PG (X.blk s H scope (compEnvC scope cl C X.env) fp) tg g) (ht : ∀ (s : Shared) (H : Hp) (C : Addr) (cl : List (Str × Addr)) (fp : List Addr), PTs (X.blk s H scope (compEnvC scope cl C X.env) fp) ifs tt)
    (he : ∀ (s : Shared) (H : Hp) (C : Addr) (cl : List (Str × Addr)) (fp : List Addr), PE (X.blk s H scope (compEnvC scope cl C X.env) fp) elt te) (hs : ∀ x, foldedSetIterable iter X.env x = pure x := by intro _; rfl) :
    PS X (.Assign [.Name y py] (.ListComp elt [⟨tg, iter, ifs, 0⟩] scope pos) spos) (tAsg (kLc wi g tt te (own.map (·.2))) (gName i)) :=
  psI (ps_setLc hc hN hy hyl hsw (piM hi) ok (fun a b c d e => pgM (hg a b c d e)) (fun a b c d e => ptsM (ht a b c d e)) (fun a b c d e => peM (he a b c d e)) hs) fun D σ H q => kLc.old q
end
section
variable {K : PySem.W.Frag} {a : Addr} {xs : List V} {g : TG} {tt : TT} {te : TE} {vs : List Nat} {σ : L2.St} {H1 : Hp} {D : Addr} {Qd : Hp → Prop}
theorem kl_list (Pv : Nat → List V → Hp → Prop) (h0 : Pv 0 [] H1) (hl : ∀ i acc H, Pv i acc H → SqL K H a xs)
    (hs : ∀ i x acc H, xs[i]? = some x → H D = some (.lst acc) → Pv i acc H → Turn1 g tt te vs σ D acc (Pv (i + 1)) x H) (hd : ∀ acc H, H D = some (.lst acc) → Pv xs.length acc H → Qd H) : kLcW g tt te vs σ (Itl K a) D H1 Qd := by
  refine ⟨fun i m acc H => m = xs.length - i ∧ i ≤ xs.length ∧ Pv i acc H, ⟨xs.length, by simp, Nat.zero_le _, h0⟩, ?_⟩
  rintro i m acc H hD ⟨rfl, hi, p⟩
  have q := hl i acc H p
  by_cases hlt : i < xs.length
  · refine .inr ⟨⟨xs, xs[i], q, by simp [hlt]⟩, Pv (i + 1), fun acc H' p' => ⟨xs.length - (i + 1), by omega, rfl, hlt, p'⟩, fun x H' y => ?_⟩
    obtain ⟨e, y⟩ := y
    subst e
    exact hs i x acc _ (y xs q) hD p
  · have e : i = xs.length := by omega
    subst e
    exact .inl ⟨⟨xs, q, Nat.le_refl _⟩, hd acc H hD p⟩
theorem kl_tup (Pv : Nat → List V → Hp → Prop) (h0 : Pv 0 [] H1) (hl : ∀ i acc H, Pv i acc H → SqT K H a xs)
    (hs : ∀ i x acc H, xs[i]? = some x → H D = some (.lst acc) → Pv i acc H → Turn1 g tt te vs σ D acc (Pv (i + 1)) x H) (hd : ∀ acc H, H D = some (.lst acc) → Pv xs.length acc H → Qd H) : kLcW g tt te vs σ (Itt K a) D H1 Qd := by
  refine ⟨fun i m acc H => m = xs.length - i ∧ i ≤ xs.length ∧ Pv i acc H, ⟨xs.length, by simp, Nat.zero_le _, h0⟩, ?_⟩
  rintro i m acc H hD ⟨rfl, hi, p⟩
  have q := hl i acc H p
  by_cases hlt : i < xs.length
  · refine .inr ⟨⟨xs, xs[i], q, by simp [hlt]⟩, Pv (i + 1), fun acc H' p' => ⟨xs.length - (i + 1), by omega, rfl, hlt, p'⟩, fun x H' y => ?_⟩
    obtain ⟨e, y⟩ := y
    subst e
    exact hs i x acc _ (y xs q) hD p
  · have e : i = xs.length := by omega
    subst e
    exact .inl ⟨⟨xs, q, Nat.le_refl _⟩, hd acc H hD p⟩
theorem kl_range {lo : Int} {n : Nat} (Pv : Nat → List V → Hp → Prop) (h0 : Pv 0 [] H1)
    (hs : ∀ i acc H, i < n → H D = some (.lst acc) → Pv i acc H → Turn1 g tt te vs σ D acc (Pv (i + 1)) (.int (lo + i)) H) (hd : ∀ acc H, H D = some (.lst acc) → Pv n acc H → Qd H) : kLcW g tt te vs σ (Itr lo n) D H1 Qd := by
  refine ⟨fun i m acc H => m = n - i ∧ i ≤ n ∧ Pv i acc H, ⟨n, by simp, Nat.zero_le _, h0⟩, ?_⟩
  rintro i m acc H hD ⟨rfl, hi, p⟩
  by_cases hlt : i < n
  · refine .inr ⟨hlt, Pv (i + 1), fun acc H' p' => ⟨n - (i + 1), by omega, rfl, hlt, p'⟩, fun x H' y => ?_⟩
    obtain ⟨e, y⟩ := y
    subst e y
    exact hs i acc _ hlt hD p
  · have e : i = n := by omega
    subst e
    exact .inl ⟨Nat.le_refl _, hd acc H hD p⟩
end
end MD

namespace MD
open PySem PySem.Spec PyProof.Rows L2
/-! ### more of what is kept; tuples of numbers -/
theorem Kp.then' {M M' : List Addr} {H0 H H5 : Hp} (k : Kp M H0 H) (k' : Kp M' H H5) (h : ∀ a, a ∈ M' → a ∈ M ∨ H0 a = none) : Kp M H0 H5 := by
  refine ⟨fun b o e n => k'.keep b o (k.keep b o e n) fun z => ?_, fun b xs e => k'.tup b xs (k.tup b xs e), fun b o e => let ⟨o', e'⟩ := k.live b o e; k'.live b o' e'⟩
  rcases h b z with q | q
  · exact n q
  · rw [q] at e; cases e
theorem Kp.th0 {M : List Addr} {H0 H H5 : Hp} (k : Kp M H0 H) (k' : Kp [] H H5) : Kp M H0 H5 := k.then' k' fun _ z => nomatch z
theorem Kp.put {M : List Addr} {H0 H H5 : Hp} {p : Addr} (k : Kp M H0 H) (k' : Kp [p] H H5) (h : H0 p = none) : Kp M H0 H5 := k.then' k' fun a z => .inr (by rw [List.mem_singleton.mp z]; exact h)
theorem Kp.putM {M : List Addr} {H0 H H5 : Hp} {p : Addr} (k : Kp M H0 H) (k' : Kp [p] H H5) (h : p ∈ M) : Kp M H0 H5 := k.then' k' fun a z => .inl (by rw [List.mem_singleton.mp z]; exact h)
theorem Kp.nil {M : List Addr} {H H' : Hp} (k : Kp [] H H') : Kp M H H' := k.mono fun _ z => nomatch z
def intD (rs : List Int) : List D := rs.map fun r => D.v (.int r)
theorem ints_rep {H : Hp} : ∀ rs : List Int, RepTs H (intD rs) (rs.map V.int)
  | [] => RepTs.nil
  | _ :: r => RepTs.cons RepT.int (ints_rep r)
theorem ints_of {H : Hp} : ∀ {rs : List Int} {vs : List V}, RepTs H (intD rs) vs → vs = rs.map V.int
  | [], vs, h => by unfold intD RepTs at h; exact h
  | a :: r, vs, h => by
    unfold intD at h
    rw [List.map_cons] at h
    unfold RepTs at h
    obtain ⟨v, w, rfl, h1, h2⟩ := h
    unfold RepT at h1
    obtain ⟨rfl, _⟩ := h1
    rw [ints_of (rs := r) h2]; rfl
/-- a tuple of data, opened -/
theorem RepT.tupE {H : Hp} {l : Bool} {ds : List D} {x : V} (h : RepT H (.sq l ds) x) : ∃ a vs, x = .ref a ∧ H a = some (.tup vs) ∧ RepTs H ds vs := by
  unfold RepT at h
  obtain ⟨_, h⟩ := h
  exact h
theorem RepT.tupI {H : Hp} {rs : List Int} {x : V} (h : RepT H (.sq false (intD rs)) x) : ∃ a, x = .ref a ∧ H a = some (.tup (rs.map V.int)) := by
  obtain ⟨a, vs, e, h1, h2⟩ := h.tupE
  rw [ints_of h2] at h1
  exact ⟨a, e, h1⟩
theorem RepT.tupI' {H : Hp} {rs : List Int} {a : Addr} (h : H a = some (.tup (rs.map V.int))) : RepT H (.sq false (intD rs)) (.ref a) := RepT.tup h (ints_rep rs)
theorem RepTs.consE {H : Hp} {d : D} {ds : List D} {vs : List V} (h : RepTs H (d :: ds) vs) : ∃ v r, vs = v :: r ∧ RepT H d v ∧ RepTs H ds r := by unfold RepTs at h; exact h
theorem RepTs.nilE {H : Hp} {vs : List V} (h : RepTs H [] vs) : vs = [] := by unfold RepTs at h; exact h
theorem RepT.intE {H : Hp} {i : Int} {x : V} (h : RepT H (.v (.int i)) x) : x = .int i := by unfold RepT at h; exact h.1
theorem RepT.vE {H : Hp} {y : V} {x : V} (h : RepT H (.v y) x) : x = y := by unfold RepT at h; exact h.1
theorem at_mem (zs : List Int) {i : Int} (h0 : 0 ≤ i) (h1 : i < zs.length) : ∃ z, atI (zs.map V.int) i = some (.int z) ∧ z ∈ zs := by
  have hl : i.toNat < zs.length := by omega
  exact ⟨zs[i.toNat], int_at h0 (by simp [hl]), List.getElem_mem hl⟩
theorem md (z : Int) (n : Int) (h : 0 < n) : 0 ≤ z % n ∧ z % n < n := ⟨Int.emod_nonneg _ (by omega), Int.emod_lt_of_pos _ h⟩
/-- an inn: rooms, nights, sellers, prices, share -/
structure Su where
  rooms : List Int
  nights : Int
  sellers : Int
  prices : List (List Int)
  share : Int
structure Su.ok (s : Su) : Prop where
  r1 : 1 ≤ s.rooms.length
  r3 : s.rooms.length ≤ 3
  rr : ∀ r ∈ s.rooms, 0 ≤ r ∧ r ≤ 4
  n1 : 1 ≤ s.nights
  n12 : s.nights ≤ 12
  s1 : 1 ≤ s.sellers
  s4 : s.sellers ≤ 4
  pl : s.prices.length = s.rooms.length
  pr : ∀ r ∈ s.prices, (r.length : Int) = s.nights ∧ ∀ p ∈ r, 0 ≤ p ∧ p ≤ 1000000
  h0 : 0 ≤ s.share
  h100 : s.share ≤ 100
def suD (s : Su) : D := .sq false [.sq false (intD s.rooms), .v (.int s.nights), .v (.int s.sellers), .sq false (s.prices.map fun r => .sq false (intD r)), .v (.int s.share)]
/-- the tuple of an inn's setup, opened -/
structure SuAt (H : Hp) (a r p : Addr) (s : Su) : Prop where
  ha : H a = some (.tup [.ref r, .int s.nights, .int s.sellers, .ref p, .int s.share])
  hr : H r = some (.tup (s.rooms.map V.int))
  hp : ∃ ps, H p = some (.tup ps) ∧ RepTs H (s.prices.map fun r => D.sq false (intD r)) ps
theorem SuAt.kp {M : List Addr} {H H' : Hp} {a r p : Addr} {s : Su} (h : SuAt H a r p s) (k : Kp M H H') : SuAt H' a r p s :=
  ⟨k.tup _ _ h.ha, k.tup _ _ h.hr, h.hp.elim fun ps q => ⟨ps, k.tup _ _ q.1, q.2.kp k⟩⟩
theorem SuAt.rep {H : Hp} {a r p : Addr} {s : Su} (h : SuAt H a r p s) : RepT H (suD s) (.ref a) := by
  obtain ⟨ps, h1, h2⟩ := h.hp
  exact RepT.tup h.ha (RepTs.cons (RepT.tupI' h.hr) (RepTs.cons RepT.int (RepTs.cons RepT.int (RepTs.cons (RepT.tup h1 h2) (RepTs.cons RepT.int RepTs.nil)))))
/-- prices[k]: a row -/
theorem SuAt.row {H : Hp} {a r p : Addr} {s : Su} (h : SuAt H a r p s) {k : Nat} {row : List Int} (e : s.prices[k]? = some row) : ∃ ps q, H p = some (.tup ps) ∧ ps[k]? = some (.ref q) ∧ H q = some (.tup (row.map V.int)) := by
  obtain ⟨ps, h1, h2⟩ := h.hp
  have hl : ps.length = s.prices.length := by rw [h2.len, List.length_map]
  obtain ⟨hk, _⟩ := List.getElem?_eq_some_iff.mp e
  have e1 : ps[k]? = some (ps[k]'(by omega)) := by simp [show k < ps.length by omega]
  obtain ⟨d, hd, rd⟩ := h2.get e1
  rw [List.getElem?_map, e] at hd
  cases hd
  obtain ⟨q, eq, hq⟩ := rd.tupI
  exact ⟨ps, q, h1, by rw [e1, eq], hq⟩
theorem turn1 {te : TE} {vs : List Nat} {σ : L2.St} {D : Addr} {acc : List V} {Nx : List V → Hp → Prop} {x : V} {H : Hp} {i : Nat} (hw : wipe ((wipe σ vs).set i (some x)) vs = wipe σ vs) (h : te ((wipe σ vs).set i (some x)) H (Put D acc Nx)) :
    Turn1 (gName i) tYes te vs σ D acc Nx x H := by
  refine ⟨hw, ?_⟩
  show (if true = true then te ((wipe σ vs).set i (some x)) H (Put D acc Nx) else H D = some (.lst acc) ∧ Nx acc H)
  exact iteT h
end MD

namespace MD
open PySem PySem.Spec PyProof.Rows L2
/-! ### stays and parties -/
abbrev Sy := Int × Int × Int
def syI (s : Sy) : List Int := [s.1, s.2.1, s.2.2]
def syD (s : Sy) : D := .sq false (intD (syI s))
def ptD (p : List Sy) : D := .sq false (p.map syD)
structure Sy.ok (su : Su) (s : Sy) : Prop where
  k0 : 0 ≤ s.1
  k1 : s.1 < su.rooms.length
  f0 : 0 ≤ s.2.1
  fe : s.2.1 < s.2.2
  e1 : s.2.2 ≤ su.nights
/-- not later, by kind, first night, end -/
def Sy.le (a b : Sy) : Prop := a.1 < b.1 ∨ (a.1 = b.1 ∧ (a.2.1 < b.2.1 ∨ (a.2.1 = b.2.1 ∧ a.2.2 ≤ b.2.2)))
structure Pty (su : Su) (p : List Sy) : Prop where
  l1 : 1 ≤ p.length
  l4 : p.length ≤ 4
  ok : ∀ s ∈ p, Sy.ok su s
  srt : p.Pairwise Sy.le
theorem RepTs.perm {α : Type} {H : Hp} {f : α → D} {ys xs : List V} (p : ys.Perm xs) : ∀ {ss : List α}, RepTs H (ss.map f) xs → ∃ ss' : List α, ss'.Perm ss ∧ RepTs H (ss'.map f) ys := by
  induction p with
  | nil =>
    intro ss h
    cases ss with
    | nil => exact ⟨[], .refl _, h⟩
    | cons a r => obtain ⟨v, w, e, _⟩ := h.consE; cases e
  | cons x p ih =>
    intro ss h
    cases ss with
    | nil => have := h.nilE; cases this
    | cons a r =>
      obtain ⟨v, w, e, h1, h2⟩ := h.consE
      injection e with e1 e2
      subst e1 e2
      obtain ⟨ss', p', h'⟩ := ih h2
      exact ⟨a :: ss', p'.cons a, RepTs.cons h1 h'⟩
  | swap x y l =>
    intro ss h
    cases ss with
    | nil => have := h.nilE; cases this
    | cons a r =>
      obtain ⟨v, w, e, h1, h2⟩ := h.consE
      injection e with e1 e2
      subst e1 e2
      cases r with
      | nil => have := h2.nilE; cases this
      | cons b r =>
        obtain ⟨v2, w2, e, h3, h4⟩ := h2.consE
        injection e with e1 e2
        subst e1 e2
        exact ⟨b :: a :: r, .swap _ _ _, RepTs.cons h3 (RepTs.cons h1 h4)⟩
  | trans p1 p2 ih1 ih2 =>
    intro ss h
    obtain ⟨s2, q2, h2⟩ := ih2 h
    obtain ⟨s1, q1, h1⟩ := ih1 h2
    exact ⟨s1, q1.trans q2, h1⟩
theorem RepTs.at {α : Type} {H : Hp} {f : α → D} {ss : List α} {vs : List V} {i : Nat} {v : V} (h : RepTs H (ss.map f) vs) (e : vs[i]? = some v) : ∃ s, ss[i]? = some s ∧ RepT H (f s) v := by
  obtain ⟨d, hd, r⟩ := h.get e
  rw [List.getElem?_map] at hd
  cases q : ss[i]? with
  | none => rw [q] at hd; cases hd
  | some s => rw [q] at hd; cases hd; exact ⟨s, rfl, r⟩
theorem RepTs.lenM {α : Type} {H : Hp} {f : α → D} {ss : List α} {vs : List V} (h : RepTs H (ss.map f) vs) : vs.length = ss.length := by rw [h.len, List.length_map]
theorem RepTs.set {H : Hp} : ∀ {ds : List D} {vs : List V} {i : Nat} {d : D} {v : V}, RepTs H ds vs → RepT H d v → RepTs H (ds.set i d) (vs.set i v)
  | [], vs, _, _, _, h, _ => by have := h.nilE; subst this; exact RepTs.nil
  | e :: ds, vs, 0, d, v, h, r => by
    obtain ⟨u, w, rfl, h1, h2⟩ := h.consE
    exact RepTs.cons r h2
  | e :: ds, vs, i + 1, d, v, h, r => by
    obtain ⟨u, w, rfl, h1, h2⟩ := h.consE
    exact RepTs.cons h1 (RepTs.set h2 r)
theorem syD_at {H : Hp} {s : Sy} {x : V} (h : RepT H (syD s) x) : ∃ a, x = .ref a ∧ H a = some (.tup [.int s.1, .int s.2.1, .int s.2.2]) := h.tupI
theorem syD_of {H : Hp} {a : Addr} {k f e : Int} (h : H a = some (.tup [.int k, .int f, .int e])) : RepT H (syD (k, f, e)) (.ref a) := RepT.tupI' h
theorem code3 (a b c : Int) : TS.code 16 [a, b, c] = a * 256 + b * 16 + c := by
  simp only [TS.code, List.length_cons, List.length_nil]
  omega
theorem sy_le {su : Su} {a b : Sy} (ha : Sy.ok su a) (hb : Sy.ok su b) (hn : su.nights ≤ 12) (h : TS.code 16 (syI a) ≤ TS.code 16 (syI b)) : Sy.le a b := by
  unfold syI at h
  rw [code3, code3] at h
  have := ha.f0; have := ha.fe; have := ha.e1; have := hb.f0; have := hb.fe; have := hb.e1
  unfold Sy.le
  omega
/-- sorted(..) of a list of tuples of d ints below B, fewer than 64 -/
def kSortU (K : PySem.W.Frag) (d : Nat) (B : Int) : List V → Hp → VK → Prop := fun vs H Q => ∃ (a : Addr) (xs : List V), vs = [V.ref a] ∧ SqL K H a xs ∧ xs.length < 64 ∧ (∀ x ∈ xs, ∃ ns, TupI K H x ns ∧ ns.length = d ∧ TS.Bd B ns) ∧
  ∀ ys : List V, ys.Perm xs → ys.Pairwise (fun x y => ∀ n m, TupI K H x n → TupI K H y m → TS.code B n ≤ TS.code B m) → New H (.lst ys) Q
theorem ksortU {X : Cx} {K : PySem.W.Frag} {d : Nat} {B : Int} (hd : 1 ≤ d) (h : X.K = K := by rfl) : CallR X (.builtin "sorted") (kSortU K d B) := by
  subst h
  exact callI (cr_sortT hd) fun xs H Q ⟨a, ys, h1, h2, h3, h4, h5⟩ => ⟨a, ys, h1, h2, h3, h4, fun zs p h6 h7 h8 => (h5 zs h6 h7).old p h8⟩
theorem tupI_of {K : PySem.W.Frag} {H : Hp} {a : Addr} {ns : List Int} (h : H a = some (.tup (ns.map V.int))) : TupI K H (.ref a) ns := ⟨a, rfl, SqT.of h⟩
end MD

/-! pairs ((i, j), x), sorted by their distinct (i, j) -/
namespace MD
open PySem PySem.Spec PyProof.Rows L2 SrtO Srt
section
variable {prog : Program} {w : World} {A : Around} {E : Value → Shared → Prop} {s : Shared}
theorem eqBool_self {v : Value} {Q : Bool → Shared → Prop} (hv : (v == v) = true) (h : Q true s) : wpAny (model prog w) A (eqBool v v) Q E s := by
  unfold eqBool
  try with_reducible refine wpAny_holding ?_
  show wpAny _ _ (if (v == v) = true then _ else _) Q E s
  rw [if_pos hv]
  exact wpAny_bind (wpAny_rule (wpAny_pure h))
/-- v is a tuple of a tuple of the ints i, j, and of something -/
def IsNP (h : Heap) (v : Value) (i j : Int) : Prop := ∃ a q x t u o n o2 n2, v = .ref a ∧ h.get? a = some o ∧ o.cls = .type "tuple" ∧ o.data = .seq #[.ref q, x] n ∧ h.get? q = some o2 ∧ o2.cls = .type "tuple" ∧ o2.data = .seq #[.int i t, .int j u] n2 ∧ (x == x) = true
theorem IsNP.keeps {h h' : Heap} {v : Value} {i j : Int} (p : IsNP h v i j) (k : ∀ b o, h.get? b = some o → o.cls = .type "tuple" → h'.get? b = some o) : IsNP h' v i j := by
  obtain ⟨a, q, x, t, u, o, n, o2, n2, e, h1, h2, h3, h4, h5, h6, h7⟩ := p
  exact ⟨a, q, x, t, u, o, n, o2, n2, e, k _ _ h1 h2, h2, h3, k _ _ h4 h5, h5, h6, h7⟩
theorem np_cmp {vs : List Value} {k : Value → Int × Int} (hu : A.units < cLine) (hp : ∀ v ∈ vs, IsNP s.heap v (k v).1 (k v).2) (hd : ∀ v ∈ vs, ∀ u ∈ vs, k v = k u → v = u) : Cmp prog w A s (tuples' false) (fun p => p.1 ∈ vs) (lt2 fun v u => lexB (k v) (k u)) := by
  intro p q hm hm'
  have h1 := hp _ hm
  have h2 := hp _ hm'
  have hdd := hd _ hm _ hm'
  show wpAny (model prog w) A (keyLt' (tuples' false) p.1 q.1) (fun r s' => s' = s ∧ r = lexB (k p.1) (k q.1)) (fun _ _ => False) s
  unfold lexB
  generalize k p.1 = kp at h1 hdd ⊢
  generalize k q.1 = kq at h2 hdd ⊢
  obtain ⟨x, y⟩ := kp
  obtain ⟨x', y'⟩ := kq
  obtain ⟨a, c, z, t, u, o, n, o2, n2, e, ho, hc, hdt, ho2, hc2, hd2, hz⟩ := h1
  obtain ⟨a', c', z', t', u', o', n', o2', n2', e', ho', hc', hdt', ho2', hc2', hd2', hz'⟩ := h2
  have k1 : IsTupleKey (L2.mixKind prog w) s.heap [Sum.inl x, Sum.inl y] c := ⟨o2, _, n2, ho2, hc2, hd2, .cons (L2.mixKind_int prog w x t) (.cons (L2.mixKind_int prog w y u) .nil)⟩
  have k2 : IsTupleKey (L2.mixKind prog w) s.heap [Sum.inl x', Sum.inl y'] c' := ⟨o2', _, n2', ho2', hc2', hd2', .cons (L2.mixKind_int prog w x' t') (.cons (L2.mixKind_int prog w y' u') .nil)⟩
  by_cases ek : (x, y) = (x', y')
  · have ee := hdd ek
    have hb : lexB (x, y) (x', y') = false := by rw [ek]; exact lexB_no.mpr (by omega)
    have hb' : (if (x, y).1 = (x', y').1 then decide ((x, y).2 < (x', y').2) else decide ((x, y).1 < (x', y').1)) = false := hb
    rw [hb']
    have ea : a = a' := by rw [e, e'] at ee; injection ee
    subst ea
    rw [ho] at ho'; cases ho'
    rw [hdt] at hdt'
    injection hdt' with hd5 hd6
    subst hd6
    have l1 := congrArg Array.toList hd5
    injection l1 with l2 l3
    injection l3 with l4 l5
    subst l4
    rw [e, e']
    refine PySem.W.kat_lt ho hdt ho hdt ?_
    show PySem.W.KatLex prog w A false (decide (2 < 2)) _ [(.ref c, .ref c), (z, z)] 0 s
    refine PySem.W.kat_cons (eqBool_self (by simp) ?_)
    refine PySem.W.kat_yes (PySem.W.kat_cons (eqBool_self hz ?_))
    exact PySem.W.kat_yes (PySem.W.kat_nil ⟨rfl, rfl⟩)
  · rw [e, e']
    refine PySem.W.kat_lt ho hdt ho' hdt' ?_
    show PySem.W.KatLex prog w A false (decide (2 < 2)) _ [(.ref c, .ref c'), (z, z')] 0 s
    refine PySem.W.kat_cons (wpAny_eqBool_tuple hu k1 k2 ?_)
    refine PySem.W.kat_go (fun e0 => ?_) (fun _ => ?_)
    · exfalso
      have z0 := of_decide_eq_true e0
      injection z0 with z1 z2
      injection z2 with z3 _
      exact ek (by rw [Sum.inl.inj z1, Sum.inl.inj z3])
    · refine PySem.W.kat_no ?_
      show wpAny _ _ (oneLt' false _ _) _ _ _
      refine PySem.W.kat_one _ _ (HT.lt_tupInts (ns := [x, y]) (ms := [x', y']) ⟨o2, ho2, hc2, n2, hd2⟩ ⟨o2', ho2', hc2', n2', hd2'⟩ ?_ ?_ hu ?_)
      · exact intsAre_of (ns := [x, y]) (.cons ⟨t, rfl⟩ (.cons ⟨u, rfl⟩ .nil))
      · exact intsAre_of (ns := [x', y']) (.cons ⟨t', rfl⟩ (.cons ⟨u', rfl⟩ .nil))
      · refine ⟨rfl, ?_⟩
        show HT.lexLt [x, y] [x', y'] = (if x = x' then decide (y < y') else decide (x < x'))
        rw [HT.lexLt_cons]
        by_cases h : x = x'
        · rw [if_pos h, if_pos h, HT.lexLt_cons]
          by_cases h2 : y = y'
          · exact absurd (by rw [h, h2]) ek
          · rw [if_neg h2]
        · rw [if_neg h, if_neg h]
theorem np_firsts {h : Heap} : ∀ {vs : List Value}, (∀ v ∈ vs, ∃ i j, IsNP h v i j) → ∃ fs : List Value, PySem.W.KatTups h vs fs ∧ fs.length = vs.length ∧ ∀ f ∈ fs, ∃ (q : Addr) (o : Obj), f = Value.ref q ∧ h.get? q = some o ∧ o.cls = .type "tuple"
  | [], _ => ⟨[], PySem.W.KatTups.nil, rfl, fun f hf => by simp at hf⟩
  | v :: vs, x => by
    obtain ⟨fs, k, hl, hi⟩ := np_firsts (vs := vs) fun u hu => x u (List.mem_cons_of_mem _ hu)
    obtain ⟨i, j, a, q, z, t, u, o, n, o2, n2, rfl, ho, hc, hd, ho2, hc2, _⟩ := x v List.mem_cons_self
    refine ⟨.ref q :: fs, PySem.W.KatTups.cons ho hc hd rfl k, by rw [List.length_cons, List.length_cons, hl], fun f hf => ?_⟩
    rcases List.mem_cons.mp hf with rfl | hf
    · exact ⟨q, o2, rfl, ho2, hc2⟩
    · exact hi f hf
theorem np_sortable {a : Addr} {vs : List Value} {k : Value → Int × Int} (hu : A.units < cLine) (h0 : 0 < vs.length) (hp : ∀ v ∈ vs, IsNP s.heap v (k v).1 (k v).2) (hdd : ∀ v ∈ vs, ∀ u ∈ vs, k v = k u → v = u) (ha : ∀ o, s.heap.get? a = some o → o.cls ≠ .type "tuple") :
    SortableO prog w A s a vs fun v u => lexB (k v) (k u) := by
  intro h' keep
  have hp' : ∀ v ∈ vs, IsNP h' v (k v).1 (k v).2 := fun v hm => (hp v hm).keeps fun b o e c => keep b o (fun z => by subst z; exact ha o e c) e
  obtain ⟨fs, h1, h2, h3⟩ := np_firsts fun v hm => ⟨_, _, hp' v hm⟩
  refine ⟨tuples' false, fun Q E hq => ?_, np_cmp hu hp' hdd⟩
  refine PySem.W.kat_kind (T := .type "tuple") h1 (by omega) (fun f hm => ?_) (by rfl) ?_
  · obtain ⟨q, o, rfl, ho, hc⟩ := h3 f hm
    have z : PySem.W.Looks (model prog w) h' (typeOf (.ref q)) o.cls := (PySem.W.Looks.ld ho).andThen .now
    rw [hc] at z
    exact z
  · have e : (Value.type "tuple" != Value.type "tuple") = false := by first | rfl | decide | simp
    rw [e]
    exact hq
theorem sorted_np {l : Addr} {vs : List Value} {k : Value → Int × Int} {Q : Value → Shared → Prop} (hu : A.in1.in1.units < cLine) (hl : s.heap.IsList l vs.toArray) (hz : vs.length ≤ sizeLine) (hp : ∀ v ∈ vs, IsNP s.heap v (k v).1 (k v).2) (hdd : ∀ v ∈ vs, ∀ u ∈ vs, k v = k u → v = u)
    (h : ∀ (h' : Heap) (d : Addr) (out : List Value), Srtd (fun v u => lexB (k v) (k u)) out → Stb (fun v u => lexB (k v) (k u)) out vs → (∀ b o, s.heap.get? b = some o → h'.get? b = some o) → s.heap.objs.size ≤ d → (∃ n, h'.get? d = some (seqObj "list" out.toArray n)) → Q (.ref d) { s with heap := h' }) :
    wpAny (model prog w) A (call (.builtin "sorted") [.ref l]) Q E s := by
  refine sorted_ord (swo_lex k) hl hz (fun h2 h₁ a ha kk => ?_) fun out hs hb => ?_
  · refine np_sortable (s := { s with heap := h₁ }) hu (by omega) (fun v hm => (hp v hm).keeps fun b o e _ => (kk b o e).2) hdd fun o e => ?_
    have e' : some o = some (seqObj "list" vs.toArray 0) := e.symm.trans ha
    cases e'
    intro c
    exact absurd (Value.type.inj c) (by decide)
  · exact h _ _ out hs hb (fun b o e => sortedAll_old e) (Nat.le_succ _) (sortedAll_at s.heap vs out.toArray)
end
/-- sorted(xs), xs a list of pairs ((i, j), x) with distinct (i, j) (k says which) -/
def kSortN (K : PySem.W.Frag) : List V → Hp → VK → Prop := fun vs H Q => ∃ (a : Addr) (xs : List V) (k : V → Int × Int), vs = [V.ref a] ∧ SqL K H a xs ∧ (∀ x ∈ xs, ∃ t q z, x = V.ref t ∧ H t = some (.tup [.ref q, z]) ∧ H q = some (.tup [.int (k x).1, .int (k x).2])) ∧
  (∀ x ∈ xs, ∀ y ∈ xs, k x = k y → x = y) ∧ ∀ ys, Srtd (ltP k) ys → Stb (ltP k) ys xs → New H (.lst ys) Q
theorem relV_beq {v : V} {u : Value} (h : RelV v u) (n : ∀ b, v ≠ .flt b) : (u == u) = true := by
  first | exact beq_self_eq_true u | simp
theorem ksortN {X : Cx} {K : PySem.W.Frag} (hu : X.A.in1.in1.units < cLine) (h : X.K = K := by rfl) : CallR X (.builtin "sorted") (kSortN K) := by
  subst h
  intro pins s σ H vs us Q I r h
  obtain ⟨a, xs, k, rfl, hs, hx, hdd, q⟩ := h
  obtain ⟨its, rv, hl, hz⟩ := I.list hs
  obtain ⟨u, rfl, ru⟩ := vals1 r
  obtain rfl : u = Value.ref a := ru
  obtain ⟨e1, e2⟩ := refs_back rv fun x m => by
    obtain ⟨t, _, _, e, _⟩ := hx x m
    exact ⟨t, e⟩
  refine sorted_np (k := fun u => k (backV u)) hu hl.isList (by rw [← rv.length]; exact hz) (fun v hv => ?_) (fun v hv u hu2 ek => ?_) fun h' d out h1 h2 kp hd hn => ?_
  · obtain ⟨t, rfl⟩ := e2 v hv
    have hm : V.ref t ∈ xs := by rw [e1]; exact List.mem_map.mpr ⟨_, hv, rfl⟩
    obtain ⟨t', q', z, e, ht, hq⟩ := hx _ hm
    cases e
    obtain ⟨_, its2, r2, o, ho, hc, n, hd⟩ := I.hok _ _ ht
    obtain ⟨u1, u2, rfl, ri, rj⟩ := vals2 r2
    obtain rfl : u1 = Value.ref q' := ri
    obtain ⟨_, its3, r3, o3, ho3, hc3, n3, hd3⟩ := I.hok _ _ hq
    obtain ⟨w1, w2, rfl, rk, rl⟩ := vals2 r3
    obtain ⟨t1, rfl⟩ := rk
    obtain ⟨t2, rfl⟩ := rl
    exact ⟨t, q', u2, t1, t2, o, n, o3, n3, rfl, ho, hc, hd, ho3, hc3, hd3, by simp⟩
  · obtain ⟨t, rfl⟩ := e2 v hv
    obtain ⟨t', rfl⟩ := e2 u hu2
    have := hdd (.ref t) (by rw [e1]; exact List.mem_map.mpr ⟨_, hv, rfl⟩) (.ref t') (by rw [e1]; exact List.mem_map.mpr ⟨_, hu2, rfl⟩) ek
    cases this
    rfl
  · have h3 : ∀ u ∈ out, ∃ a, u = Value.ref a := fun u hu => e2 u (h2.perm.mem_iff.mp hu)
    obtain ⟨n, hn⟩ := hn
    have hb : Stb (ltP k) (out.map backV) xs := by
      rw [e1]
      exact Stb.map (ltP_swo k) backV h2
    refine ⟨.ref d, upd H d (.lst (out.map backV)), I.laid (t' := s.toks) kp hd ⟨?_, out, n, vals_back h3, hn⟩, rfl, (q _ (srtd_map h1) hb).old d (I.hok.fresh hd)⟩
    rw [hb.len]
    exact hz
end MD

namespace MD
open PySem PySem.Spec PyProof.Rows L2
/-! ### dicts with tuple keys; locks; comprehensions of two clauses; sums -/
theorem Kp.same {M : List Addr} {H H2 : Hp} {d : Addr} {u : HO} (k : Kp (d :: M) H H2) (h : H d = some u) (h2 : H2 d = some u) : Kp M H H2 := by
  refine ⟨fun b o e n => ?_, k.tup, k.live⟩
  by_cases z : b = d
  · rw [z] at e ⊢
    rw [h] at e; cases e; exact h2
  · exact k.keep b o e fun q => (List.mem_cons.mp q).elim z n
section
variable {X : Cx} {pos : Pos}
def kNewT : TE := fun _ H Q => New H (.dT []) Q
theorem ke_dnewT : PE X (.Dict [] [] pos) kNewT := peI pe_dnewT fun σ H Q q => New.old q
def kNewK : TE := fun _ H Q => New H (.dK []) Q
theorem ke_dnewK : PE X (.Dict [] [] pos) kNewK := peI pe_dnewK fun σ H Q q => New.old q
def kDPutT (td ty tv : TE) : TS := fun D σ H => tv σ H fun v H1 => td σ H1 fun x H2 => ty σ H2 fun y H3 => ∃ a kvs k b, x = .ref a ∧ y = .ref b ∧ H3 a = some (.dT kvs) ∧ H3 b = some (.tup (k.map kV)) ∧ kvs.length < sizeLine ∧ Wr H3 a (.dT (putK kvs k v)) (D.nx σ)
theorem ks_dputT {o i value : Expr} {pos' : Pos} {td ty tv : TE} (hu : X.A.units + 1 < cLine) (ho : PE X o td) (hi : PE X i ty) (hv : PE X value tv) (hs : swapsWith value (some (.Subscript o i pos')) pos.line X.env = pure false) :
    PS X (.Assign [.Subscript o i pos'] value pos) (kDPutT td ty tv) :=
  psI (ps_dput hu (peM ho) (peM hi) (peM hv) hs) fun D σ H q => ⟨_, q, fun v H1 q => ⟨_, q, fun x H2 q => ⟨_, q, fun y H3 ⟨a, kvs, k, b, h1, h2, h3, h4, h5, q⟩ => ⟨a, _, h1, .inr ⟨kvs, k, b, h3, h2, h4, h5, rfl⟩, q.old h3 trivial⟩⟩⟩⟩
def kLockE (t : TE) : TE := fun σ H Q => ∃ d u, H d = some u ∧ Mut (some u) ∧ NT u ∧ ∀ od H1, Kp [d] H H1 → H1 d = some (.frz od u) → t σ H1 fun v H' => H' d = some (.frz od u) ∧ Wr H' d u (Q v)
theorem ke_lock {e : Expr} {t : TE} (h : PE X e t) : PE X e (kLockE t) :=
  peI (pe_lock (peM h)) fun σ H Q ⟨d, u, h1, h2, nt, q⟩ => ⟨d, u, h1, h2, fun od => ⟨_, q od _ (Kp.old h1 nt List.mem_cons_self) upd_same, fun v H' ⟨h3, w⟩ => ⟨h3, w.old h3 trivial⟩⟩⟩
end
/-! the keys of a locked dict, one by one -/
section
variable {d : Addr} {od : Obj} {kvs : List (List Key × V)} {g : TG} {tt : TT} {te : TE} {vs : List Nat} {σ : L2.St} {H1 : Hp} {D : Addr} {Qd : Hp → Prop}
theorem kl_keysT (Pv : Nat → List V → Hp → Prop) (h0 : Pv 0 [] H1) (hl : ∀ i acc H, Pv i acc H → H d = some (.frz od (.dT kvs)))
    (hs : ∀ i k v q acc H, kvs[i]? = some (k, v) → H q = some (.tup (k.map kV)) → H D = some (.lst acc) → Pv i acc H → Turn1 g tt te vs σ D acc (Pv (i + 1)) (.ref q) H) (hd : ∀ acc H, H D = some (.lst acc) → Pv kvs.length acc H → Qd H) : kLcW g tt te vs σ (Itkt d od kvs) D H1 Qd := by
  refine ⟨fun i m acc H => m = kvs.length - i ∧ i ≤ kvs.length ∧ Pv i acc H, ⟨kvs.length, by simp, Nat.zero_le _, h0⟩, ?_⟩
  rintro i m acc H hD ⟨rfl, hi, p⟩
  have q := hl i acc H p
  by_cases hlt : i < kvs.length
  · refine .inr ⟨⟨q, hlt⟩, Pv (i + 1), fun acc H' p' => ⟨kvs.length - (i + 1), by omega, rfl, hlt, p'⟩, fun x H' y => ?_⟩
    obtain ⟨e, k, v, b, e1, e2, e3⟩ := y
    subst e e2
    exact hs i k v b acc _ e1 e3 hD p
  · have e : i = kvs.length := by omega
    subst e
    exact .inl ⟨⟨q, Nat.le_refl _⟩, hd acc H hD p⟩
end
/-! two clauses: the inner loop goes on with what the list holds -/
def kGo (g : TG) (tt : TT) (te : TE) (vs : List Nat) (σ : L2.St) (J : It) (D : Addr) (acc0 : List V) (H0 : Hp) (Nx : List V → Hp → Prop) : Prop := ∃ W : Nat → Nat → List V → Hp → Prop, (∃ m, W 0 m acc0 H0) ∧ ∀ i m acc H, H D = some (.lst acc) → W i m acc H →
  (J.stop i H ∧ Nx acc H) ∨ (J.go i H ∧ ∃ Nx1 : List V → Hp → Prop, (∀ acc H', Nx1 acc H' → ∃ m', m' < m ∧ W (i + 1) m' acc H') ∧ ∀ x H', J.yld i H x H' → Turn1 g tt te vs σ D acc Nx1 x H')
def Turn2 (g : TG) (tt : TT) (wi1 : TI) (g1 : TG) (tt1 : TT) (te : TE) (vs vs1 : List Nat) (σ : L2.St) (D : Addr) (acc : List V) (Nx : List V → Hp → Prop) (x : V) (H' : Hp) : Prop :=
  g x (wipe σ vs) H' fun σ2 H2 => wipe σ2 vs = wipe σ vs ∧ tt σ2 H2 fun b H3 => if b = true then wi1 σ2 H3 (fun J1 H4 => H4 D = some (.lst acc) ∧ kGo g1 tt1 te vs1 σ2 J1 D acc H4 Nx) else H3 D = some (.lst acc) ∧ Nx acc H3
def kLc2W (g : TG) (tt : TT) (wi1 : TI) (g1 : TG) (tt1 : TT) (te : TE) (vs vs1 : List Nat) (σ : L2.St) (J : It) (D : Addr) (H1' : Hp) (Qd : Hp → Prop) : Prop := ∃ W : Nat → Nat → List V → Hp → Prop, (∃ m, W 0 m [] H1') ∧ ∀ i m acc H, H D = some (.lst acc) → W i m acc H →
  (J.stop i H ∧ Qd H) ∨ (J.go i H ∧ ∃ Nx : List V → Hp → Prop, (∀ acc H', Nx acc H' → ∃ m', m' < m ∧ W (i + 1) m' acc H') ∧ ∀ x H', J.yld i H x H' → Turn2 g tt wi1 g1 tt1 te vs vs1 σ D acc Nx x H')
def kLc2 (wi : TI) (g : TG) (tt : TT) (wi1 : TI) (g1 : TG) (tt1 : TT) (te : TE) (vs vs1 : List Nat) : TE := fun σ H Q => wi σ H fun J H1 => ∀ D H1', H1 D = none → Kp [] H1 H1' → H1' D = some (.lst []) → kLc2W g tt wi1 g1 tt1 te vs vs1 σ J D H1' (Q (.ref D))
theorem kLc2.old {wi wi1 : TI} {g g1 : TG} {tt tt1 : TT} {te : TE} {vs vs1 : List Nat} {σ : L2.St} {H : Hp} {Q : VK} (h : kLc2 wi g tt wi1 g1 tt1 te vs vs1 σ H Q) : tLc2 (mI wi) (mG g) (mT tt) (mI wi1) (mG g1) (mT tt1) (mE te) vs vs1 σ H Q := by
  refine ⟨_, h, fun J H1 r D hD => ?_⟩
  obtain ⟨W, ⟨m, w0⟩, turn⟩ := r D _ hD (Kp.new hD) upd_same
  refine ⟨fun i m H => ∃ acc, H D = some (.lst acc) ∧ W i m acc H, ⟨m, [], upd_same, w0⟩, ?_⟩
  rintro i m H ⟨acc, hD, w⟩
  rcases turn i m acc H hD w with ⟨a, b⟩ | ⟨go, Nx, hN, step⟩
  · exact .inl ⟨a, b⟩
  · refine .inr ⟨go, fun H' => ∃ acc, H' D = some (.lst acc) ∧ Nx acc H', fun H' ⟨acc', h1, h2⟩ => let ⟨m', a, b⟩ := hN acc' H' h2; ⟨m', a, acc', h1, b⟩, fun x H' y => ?_⟩
    refine ⟨_, step x H' y, fun σ2 H2 ⟨e, t⟩ => ⟨e, _, t, fun b H3 q => ?_⟩⟩
    cases b with
    | false => exact iteF ⟨acc, q⟩
    | true =>
      refine iteT ⟨_, (show wi1 σ2 H3 (fun J1 H4 => H4 D = some (.lst acc) ∧ kGo g1 tt1 te vs1 σ2 J1 D acc H4 Nx) from q), fun J1 H4 ⟨hD4, W1, ⟨m1, w1⟩, turn1⟩ => ?_⟩
      refine ⟨fun i m H => ∃ acc, H D = some (.lst acc) ∧ W1 i m acc H, ⟨m1, acc, hD4, w1⟩, ?_⟩
      rintro j k H ⟨acc1, hD1, w⟩
      rcases turn1 j k acc1 H hD1 w with ⟨a, b⟩ | ⟨go1, Nx1, hN1, step1⟩
      · exact .inl ⟨a, acc1, hD1, b⟩
      · refine .inr ⟨go1, fun H' => ∃ acc, H' D = some (.lst acc) ∧ Nx1 acc H', fun H' ⟨acc', h1, h2⟩ => let ⟨m', a, b⟩ := hN1 acc' H' h2; ⟨m', a, acc', h1, b⟩, fun x H' y => ?_⟩
        refine ⟨_, step1 x H' y, fun σ3 H5 ⟨e, t⟩ => ⟨e, _, t, fun b H6 q => ?_⟩⟩
        cases b with
        | true =>
          refine iteT ?_
          refine ⟨_, (show te σ3 H6 (Put D acc1 Nx1) from q), fun y H4 ⟨h1, h2, h3⟩ => ⟨acc1, h1, h2, _, upd_same, h3 _ (Kp.old h1 trivial List.mem_cons_self) upd_same⟩⟩
        | false => exact iteF ⟨acc1, q⟩
section
variable {X : Cx}
theorem ke_lc2 {elt tg iter tg1 iter1 : Expr} {ifs ifs1 : List Expr} {scope : Scope} {own : List (Str × Nat)} {vs1 : List Nat} {pos : Pos} {wi wi1 : TI} {g g1 : TG} {tt tt1 : TT} {te : TE} (hc : X.calm = true) (hN : X.N.Nodup) (hi : PI X tg iter wi) (ok : BlkOk X.N X.env.scope scope own) (hv : ∀ i ∈ vs1, i ∈ own.map (·.2))
    (hg : ∀ (s : Shared) (H : Hp) (C : Addr) (cl : List (Str × Addr)) (fp : List Addr), PG (X.blk s H scope (compEnvC scope cl C X.env) fp) tg g) (ht : ∀ (s : Shared) (H : Hp) (C : Addr) (cl : List (Str × Addr)) (fp : List Addr), PTs (X.blk s H scope (compEnvC scope cl C X.env) fp) ifs tt)
    (hi1 : ∀ (s : Shared) (H : Hp) (C : Addr) (cl : List (Str × Addr)) (fp : List Addr), PI (X.blk s H scope (compEnvC scope cl C X.env) fp) tg1 iter1 wi1)
    (hg1 : ∀ (s : Shared) (H : Hp) (C : Addr) (cl : List (Str × Addr)) (fp : List Addr), PG (X.blk s H scope (compEnvC scope cl C X.env) fp) tg1 g1) (ht1 : ∀ (s : Shared) (H : Hp) (C : Addr) (cl : List (Str × Addr)) (fp : List Addr), PTs (X.blk s H scope (compEnvC scope cl C X.env) fp) ifs1 tt1)
    (he : ∀ (s : Shared) (H : Hp) (C : Addr) (cl : List (Str × Addr)) (fp : List Addr), PE (X.blk s H scope (compEnvC scope cl C X.env) fp) elt te) (hs : ∀ x, foldedSetIterable iter X.env x = pure x := by intro _; rfl) (hs1 : ∀ env x, foldedSetIterable iter1 env x = pure x := by intro _ _; rfl) :
    PE X (.ListComp elt [⟨tg, iter, ifs, 0⟩, ⟨tg1, iter1, ifs1, 0⟩] scope pos) (kLc2 wi g tt wi1 g1 tt1 te (own.map (·.2)) vs1) :=
  peI (pe_lc2 hc hN (piM hi) ok hv (fun a b c d e => pgM (hg a b c d e)) (fun a b c d e => ptsM (ht a b c d e)) (fun a b c d e => piM (hi1 a b c d e)) (fun a b c d e => pgM (hg1 a b c d e)) (fun a b c d e => ptsM (ht1 a b c d e)) (fun a b c d e => peM (he a b c d e)) hs hs1) fun σ H Q q => kLc2.old q
theorem sumK {K : PySem.W.Frag} (hc : X.calm = true) (h : X.K = K := by rfl) : CallR X (.builtin "sum") (rSum K) := by subst h; exact cr_sum hc
theorem pgtK {K : PySem.W.Frag} {es : List Expr} {k : Nat} {t : TGs} {n : Nat} {pos : Pos} (hc : X.calm = true) (h : PGs X es t)
    (hn : (assignEach es X.env).length = n := by rfl) (hst : (assignEach es X.env).findIdx? (·.1) = none := by rfl) (hK : X.K = K := by rfl) : PG X (.Tuple es k pos) (gTup K n t) := by subst hK; exact pg_tup hc h hn hst
theorem pitK {K : PySem.W.Frag} {tg l : Expr} {tl : TE} (hl : PE X l tl) (hK : X.K = K := by rfl) : PI X tg l (iTup K tl) := by subst hK; exact pi_tup hl
theorem pilK {K : PySem.W.Frag} {tg l : Expr} {tl : TE} (hl : PE X l tl) (hK : X.K = K := by rfl) : PI X tg l (iList K tl) := by subst hK; exact pi_list hl
end
section
variable {K : PySem.W.Frag} {a : Addr} {xs : List V} {g : TG} {tt : TT} {te : TE} {vs : List Nat} {σ : L2.St} {H1 : Hp} {D : Addr}
theorem kg_range {lo : Int} {n : Nat} {acc0 : List V} {Nx : List V → Hp → Prop} (Pv : Nat → List V → Hp → Prop) (h0 : Pv 0 acc0 H1)
    (hs : ∀ i acc H, i < n → H D = some (.lst acc) → Pv i acc H → Turn1 g tt te vs σ D acc (Pv (i + 1)) (.int (lo + i)) H) (hd : ∀ acc H, H D = some (.lst acc) → Pv n acc H → Nx acc H) : kGo g tt te vs σ (Itr lo n) D acc0 H1 Nx := by
  refine ⟨fun i m acc H => m = n - i ∧ i ≤ n ∧ Pv i acc H, ⟨n, by simp, Nat.zero_le _, h0⟩, ?_⟩
  rintro i m acc H hD ⟨rfl, hi, p⟩
  by_cases hlt : i < n
  · refine .inr ⟨hlt, Pv (i + 1), fun acc H' p' => ⟨n - (i + 1), by omega, rfl, hlt, p'⟩, fun x H' y => ?_⟩
    obtain ⟨e, y⟩ := y
    subst e y
    exact hs i acc _ hlt hD p
  · have e : i = n := by omega
    subst e
    exact .inl ⟨Nat.le_refl _, hd acc H hD p⟩
theorem k2_tup {wi1 : TI} {g1 : TG} {tt1 : TT} {vs1 : List Nat} {Qd : Hp → Prop} (Pv : Nat → List V → Hp → Prop) (h0 : Pv 0 [] H1) (hl : ∀ i acc H, Pv i acc H → SqT K H a xs)
    (hs : ∀ i x acc H, xs[i]? = some x → H D = some (.lst acc) → Pv i acc H → Turn2 g tt wi1 g1 tt1 te vs vs1 σ D acc (Pv (i + 1)) x H) (hd : ∀ acc H, H D = some (.lst acc) → Pv xs.length acc H → Qd H) : kLc2W g tt wi1 g1 tt1 te vs vs1 σ (Itt K a) D H1 Qd := by
  refine ⟨fun i m acc H => m = xs.length - i ∧ i ≤ xs.length ∧ Pv i acc H, ⟨xs.length, by simp, Nat.zero_le _, h0⟩, ?_⟩
  rintro i m acc H hD ⟨rfl, hi, p⟩
  have q := hl i acc H p
  by_cases hlt : i < xs.length
  · refine .inr ⟨⟨xs, xs[i], q, by simp [hlt]⟩, Pv (i + 1), fun acc H' p' => ⟨xs.length - (i + 1), by omega, rfl, hlt, p'⟩, fun x H' y => ?_⟩
    obtain ⟨e, y⟩ := y
    subst e
    exact hs i x acc _ (y xs q) hD p
  · have e : i = xs.length := by omega
    subst e
    exact .inl ⟨⟨xs, q, Nat.le_refl _⟩, hd acc H hD p⟩
end
theorem if_true {A B : Prop} (h : A) : if true = true then A else B := iteT h
/-! ### what a party needs -/
abbrev Kvs := List (List Key × V)
def cellK (k t : Int) : List Key := [.inl k, .inl t]
def cntV (kvs : Kvs) (c : List Key) : Int := match valV kvs c with
  | some (.int n) => n
  | _ => 0
def bump (kvs : Kvs) (c : List Key) : Kvs := putK kvs c (.int (cntV kvs c + 1))
def bumps (kvs : Kvs) (k f : Int) : Nat → Kvs
  | 0 => kvs
  | n + 1 => bump (bumps kvs k f n) (cellK k (f + n))
def needs1 (kvs : Kvs) (s : Sy) : Kvs := bumps kvs s.1 s.2.1 (s.2.2 - s.2.1).toNat
def needsL (p : List Sy) : Kvs := p.foldl needs1 []
def AllI (kvs : Kvs) : Prop := ∀ c v, valV kvs c = some v → ∃ n, v = .int n
theorem AllI.nil : AllI [] := fun c v h => by rw [valV_nil] at h; cases h
theorem AllI.bump {kvs : Kvs} (h : AllI kvs) (c : List Key) : AllI (bump kvs c) := fun d v e => by
  unfold MD.bump at e
  rw [valV_put] at e
  split at e
  · exact ⟨_, (Option.some.inj e).symm⟩
  · exact h d v e
theorem AllI.bumps {kvs : Kvs} (h : AllI kvs) (k f : Int) : ∀ n, AllI (bumps kvs k f n)
  | 0 => h
  | n + 1 => (AllI.bumps h k f n).bump _
theorem cnt_get {kvs : Kvs} (h : AllI kvs) (c : List Key) : (valV kvs c).getD (.int 0) = .int (cntV kvs c) := by
  unfold cntV
  cases e : valV kvs c with
  | none => rfl
  | some v => obtain ⟨n, rfl⟩ := h c v e; rfl
theorem putK_le {κ : Type} [DecidableEq κ] (kvs : List (κ × V)) (k : κ) (v : V) : (putK kvs k v).length ≤ kvs.length + 1 := by
  unfold putK
  split
  · rw [List.length_map]; omega
  · rw [List.length_append]; simp
theorem bumps_le (kvs : Kvs) (k f : Int) : ∀ n, (bumps kvs k f n).length ≤ kvs.length + n
  | 0 => Nat.le_refl _
  | n + 1 => by
    have := bumps_le kvs k f n
    have h2 := putK_le (bumps kvs k f n) (cellK k (f + n)) (.int (cntV (bumps kvs k f n) (cellK k (f + n)) + 1))
    show (bump _ _).length ≤ _
    unfold bump
    omega
/-- stays within twelve nights -/
def Sb (s : Sy) : Prop := 0 ≤ s.2.1 ∧ s.2.1 ≤ s.2.2 ∧ s.2.2 ≤ 12
theorem Sy.ok.sb {su : Su} {s : Sy} (h : Sy.ok su s) (hs : su.ok) : Sb s := by
  have := h.f0; have := h.fe; have := h.e1; have := hs.n12
  exact ⟨by omega, by omega, by omega⟩
theorem needs_snoc {p : List Sy} {i : Nat} {s : Sy} (h : p[i]? = some s) : needsL (p.take (i + 1)) = needs1 (needsL (p.take i)) s := by
  unfold needsL
  rw [List.take_add_one, h, List.foldl_append]; rfl
theorem needs_le : ∀ (p : List Sy) (kvs : Kvs), (∀ s ∈ p, Sb s) → (p.foldl needs1 kvs).length ≤ kvs.length + 12 * p.length
  | [], kvs, _ => Nat.le_refl _
  | s :: r, kvs, h => by
    have h1 := needs_le r (needs1 kvs s) fun x hx => h x (List.mem_cons_of_mem _ hx)
    have h2 := bumps_le kvs s.1 s.2.1 (s.2.2 - s.2.1).toNat
    have h3 := h s List.mem_cons_self
    unfold Sb at h3
    rw [List.foldl_cons, List.length_cons]
    unfold needs1 at h1 ⊢
    omega
theorem needs_int : ∀ (p : List Sy) (kvs : Kvs), AllI kvs → AllI (p.foldl needs1 kvs)
  | [], _, h => h
  | s :: r, kvs, h => needs_int r _ (h.bumps _ _ _)
theorem cell_tup {H : Hp} {a : Addr} {k t : Int} (h : H a = some (.tup [.int k, .int t])) : H a = some (.tup ((cellK k t).map kV)) := h
end MD

namespace MD
open PySem PySem.Spec PyProof.Rows L2
/-! ### two wires, a net between them -/
def dfl : D := .v .non
/-- m pairs from the number k on -/
def obM (S : List D) (k m : Nat) : List (Int × D) := (List.range m).map fun j => (((k + j : Nat) : Int), S.getD (k + j) dfl)
def obS (S : List D) (k : Nat) : List (Int × D) := obM S k (S.length - k)
theorem obM_succ (S : List D) (k m : Nat) : obM S k (m + 1) = obM S k m ++ [(((k + m : Nat) : Int), S.getD (k + m) dfl)] := by
  unfold obM; rw [List.range_succ, List.map_append]; rfl
theorem obM_len (S : List D) (k m : Nat) : (obM S k m).length = m := by unfold obM; rw [List.length_map, List.length_range]
theorem obM_ext {S S' : List D} {k m : Nat} (h : ∀ j, j < m → S.getD (k + j) dfl = S'.getD (k + j) dfl) : obM S k m = obM S' k m := by
  unfold obM
  refine List.map_congr_left fun j hj => ?_
  rw [h j (List.mem_range.mp hj)]
theorem getD_app {S : List D} {x : D} {i : Nat} (h : i < S.length) : (S ++ [x]).getD i dfl = S.getD i dfl := by
  rw [List.getD_eq_getElem?_getD, List.getD_eq_getElem?_getD, List.getElem?_append_left h]
theorem getD_last (S : List D) (x : D) : (S ++ [x]).getD S.length dfl = x := by
  rw [List.getD_eq_getElem?_getD]; simp
theorem obS_app {S : List D} {x : D} {k : Nat} (h : k ≤ S.length) : obS (S ++ [x]) k = obS S k ++ [((S.length : Int), x)] := by
  unfold obS
  have e : (S ++ [x]).length - k = (S.length - k) + 1 := by rw [List.length_append, List.length_singleton]; omega
  rw [e, obM_succ]
  have e2 : k + (S.length - k) = S.length := by omega
  rw [e2, getD_last]
  congr 1
  exact obM_ext fun j hj => getD_app (by omega)
theorem obM_filter (S : List D) (k n : Nat) : ∀ m, (obM S k m).filter (fun q => decide ((n : Int) < q.1)) = obM S (max k (n + 1)) (m - (max k (n + 1) - k))
  | 0 => by rw [Nat.zero_sub]; rfl
  | m + 1 => by
    rw [obM_succ, List.filter_append, obM_filter S k n m]
    by_cases h : n < k + m
    · have e : m + 1 - (max k (n + 1) - k) = (m - (max k (n + 1) - k)) + 1 := by omega
      rw [e, obM_succ, List.filter_cons, if_pos (by simp; omega)]
      have e2 : max k (n + 1) + (m - (max k (n + 1) - k)) = k + m := by omega
      rw [e2]; rfl
    · rw [List.filter_cons, if_neg (by simp; omega)]
      have e : m + 1 - (max k (n + 1) - k) = 0 := by omega
      have e2 : m - (max k (n + 1) - k) = 0 := by omega
      rw [e, e2]; rfl
theorem obS_filter {S : List D} {k n : Nat} (h : n < S.length) (hk : k ≤ S.length) : (obS S k).filter (fun q => decide ((n : Int) < q.1)) = obS S (max k (n + 1)) := by
  unfold obS
  rw [obM_filter]
  congr 1
  omega
theorem obS_at {S : List D} {k j : Nat} (h : j < S.length - k) : (obS S k)[j]? = some (((k + j : Nat) : Int), S.getD (k + j) dfl) := by
  unfold obS obM
  rw [List.getElem?_map, List.getElem?_range h]; rfl
theorem obS_nil : obS [] 0 = [] := rfl
def be (b : Bool) : Nat := cond b 1 0
theorem be_lt (b : Bool) : be b < 2 := by cases b <;> decide
def sd (b : Bool) : Int := be b
inductive Lt where
  | data (to : Bool) (n : Nat)
  | ack (to : Bool) (n : Nat)
def ltD (S : Bool → List D) : Lt → D
  | .data to n => .sq false [.v (.int (sd to)), .v (.str "data"), .v (.int n), (S (!to)).getD n dfl]
  | .ack to n => .sq false [.v (.int (sd to)), .v (.str "ack"), .v (.int n), .v .non]
def Lt.ok (S : Bool → List D) (e : Bool → Nat) : Lt → Prop
  | .data to n => n < (S (!to)).length
  | .ack to n => n < e (!to)
def up {α : Type} (f : Bool → α) (b : Bool) (v : α) : Bool → α := fun x => if x = b then v else f x
theorem up_same {α : Type} {f : Bool → α} {b : Bool} {v : α} : up f b v b = v := if_pos rfl
theorem up_ne {α : Type} {f : Bool → α} {b c : Bool} {v : α} (h : c ≠ b) : up f b v c = f c := if_neg h
theorem up_not {α : Type} {f : Bool → α} {b : Bool} {v : α} : up f b v (!b) = f (!b) := up_ne (by cases b <;> simp)
def ticks (S : Bool → List D) (kn : Bool → Nat) (b : Bool) : List Lt := (List.range ((S b).length - kn b)).map fun j => .data (!b) (kn b + j)
theorem ticks_len (S : Bool → List D) (kn : Bool → Nat) (b : Bool) : (ticks S kn b).length = (S b).length - kn b := by unfold ticks; rw [List.length_map, List.length_range]
theorem ticks_at {S : Bool → List D} {kn : Bool → Nat} {b : Bool} {j : Nat} (h : j < (S b).length - kn b) : (ticks S kn b)[j]? = some (.data (!b) (kn b + j)) := by
  unfold ticks
  rw [List.getElem?_map, List.getElem?_range h]; rfl
/-- what a delivery makes of expected, known and the net -/
def dE (e : Bool → Nat) : Lt → Bool → Nat
  | .ack _ _ => e
  | .data to n => if n = e to then up e to (e to + 1) else e
def dK (kn : Bool → Nat) : Lt → Bool → Nat
  | .ack to n => up kn to (max (kn to) (n + 1))
  | .data _ _ => kn
def dN (e : Bool → Nat) (net : List Lt) : Lt → List Lt
  | .ack _ _ => net
  | .data to n => if n ≤ e to then net ++ [.ack (!to) (dE e (.data to n) to - 1)] else net
theorem dE_data {e : Bool → Nat} {to : Bool} {n : Nat} : dE e (.data to n) = if n = e to then up e to (e to + 1) else e := rfl
theorem dN_data {e : Bool → Nat} {net : List Lt} {to : Bool} {n : Nat} : dN e net (.data to n) = if n ≤ e to then net ++ [.ack (!to) (dE e (.data to n) to - 1)] else net := rfl
theorem dE_mono (e : Bool → Nat) (l : Lt) (b : Bool) : e b ≤ dE e l b := by
  cases l with
  | ack => exact Nat.le_refl _
  | data to n =>
    rw [dE_data]
    split
    · by_cases h : b = to
      · subst h; rw [up_same]; omega
      · rw [up_ne h]; omega
    · exact Nat.le_refl _
theorem dK_mono (kn : Bool → Nat) (l : Lt) (b : Bool) : kn b ≤ dK kn l b := by
  cases l with
  | data => exact Nat.le_refl _
  | ack to n =>
    show kn b ≤ up kn to (max (kn to) (n + 1)) b
    by_cases h : b = to
    · subst h; rw [up_same]; omega
    · rw [up_ne h]; omega
/-- the state between the law's steps, in numbers -/
structure Nm (S : Bool → List D) (e kn : Bool → Nat) (net : List Lt) : Prop where
  eb : ∀ b, e b ≤ (S (!b)).length
  ke : ∀ b, kn b ≤ e (!b)
  lt : ∀ l ∈ net, Lt.ok S e l
theorem Lt.ok_e {S : Bool → List D} {e e' : Bool → Nat} {l : Lt} (h : l.ok S e) (m : ∀ b, e b ≤ e' b) : l.ok S e' := by
  cases l with
  | data to n => exact h
  | ack to n => exact Nat.lt_of_lt_of_le h (m _)
theorem Nm.dlv {S : Bool → List D} {e kn : Bool → Nat} {net : List Lt} {l : Lt} (h : Nm S e kn net) (hl : l.ok S e) : Nm S (dE e l) (dK kn l) (dN e net l) := by
  have hm := dE_mono e l
  refine ⟨fun b => ?_, fun b => ?_, fun x hx => ?_⟩
  · cases l with
    | ack => exact h.eb b
    | data to n =>
      rw [dE_data]
      split
      · rename_i hn
        by_cases q : b = to
        · subst q
          rw [up_same]
          have hl : n < (S (!b)).length := hl
          omega
        · rw [up_ne q]; exact h.eb b
      · exact h.eb b
  · cases l with
    | data to n => exact Nat.le_trans (h.ke b) (hm _)
    | ack to n =>
      show up kn to (max (kn to) (n + 1)) b ≤ e (!b)
      by_cases q : b = to
      · subst q
        rw [up_same]
        have := h.ke b
        have hl : n < e (!b) := hl
        omega
      · rw [up_ne q]; exact h.ke b
  · cases l with
    | ack to n => exact h.lt x hx
    | data to n =>
      rw [dN_data] at hx
      split at hx
      · rename_i hn
        rcases List.mem_append.mp hx with z | z
        · exact Lt.ok_e (h.lt x z) hm
        · rw [List.mem_singleton.mp z]
          show dE e (.data to n) to - 1 < dE e (.data to n) (!!to)
          rw [Bool.not_not]
          have h1 : 1 ≤ dE e (.data to n) to := by
            rw [dE_data]
            by_cases q : n = e to
            · rw [if_pos q, up_same]; omega
            · rw [if_neg q]; omega
          omega
      · exact Lt.ok_e (h.lt x hx) hm
theorem Nm.tick {S : Bool → List D} {e kn : Bool → Nat} {net : List Lt} (h : Nm S e kn net) (b : Bool) : Nm S e kn (net ++ ticks S kn b) := by
  refine ⟨h.eb, h.ke, fun x hx => ?_⟩
  rcases List.mem_append.mp hx with z | z
  · exact h.lt x z
  · unfold ticks at z
    obtain ⟨j, hj, rfl⟩ := List.mem_map.mp z
    have := List.mem_range.mp hj
    show kn b + j < (S (!!b)).length
    rw [Bool.not_not]
    omega
theorem Nm.sub {S : Bool → List D} {e kn : Bool → Nat} {net net' : List Lt} (h : Nm S e kn net) (hs : ∀ l ∈ net', l ∈ net) : Nm S e kn net' := ⟨h.eb, h.ke, fun l hl => h.lt l (hs l hl)⟩
theorem Nm.send {S : Bool → List D} {e kn : Bool → Nat} {net : List Lt} (h : Nm S e kn net) (b : Bool) (x : D) : Nm (up S b (S b ++ [x])) e kn (net ++ [.data (!b) (S b).length]) := by
  have hl : ∀ c, (S c).length ≤ (up S b (S b ++ [x]) c).length := fun c => by
    by_cases q : c = b
    · subst q; rw [up_same, List.length_append]; omega
    · rw [up_ne q]; omega
  refine ⟨fun c => Nat.le_trans (h.eb c) (hl _), h.ke, fun l hx => ?_⟩
  rcases List.mem_append.mp hx with z | z
  · have := h.lt l z
    cases l with
    | ack => exact this
    | data to n => exact Nat.lt_of_lt_of_le this (hl _)
  · rw [List.mem_singleton.mp z]
    show (S b).length < (up S b (S b ++ [x]) (!!b)).length
    rw [Bool.not_not, up_same, List.length_append, List.length_singleton]
    omega
theorem ltD_send {S : Bool → List D} {e : Bool → Nat} {l : Lt} (h : l.ok S e) (b : Bool) (x : D) : ltD (up S b (S b ++ [x])) l = ltD S l := by
  cases l with
  | ack => rfl
  | data to n =>
    have h : n < (S (!to)).length := h
    show D.sq false [.v (.int (sd to)), .v (.str "data"), .v (.int n), (up S b (S b ++ [x]) (!to)).getD n dfl] = D.sq false [.v (.int (sd to)), .v (.str "data"), .v (.int n), (S (!to)).getD n dfl]
    by_cases q : (!to) = b
    · subst q
      rw [up_same, getD_app h]
    · rw [up_ne q]
end MD

namespace MD
open PySem PySem.Spec PyProof.Rows L2
/-! ### letters handed over one after another -/
abbrev Q3 := (Bool → Nat) × (Bool → Nat) × List Lt
def dl (q : Q3) (l : Lt) : Q3 := (dE q.1 l, dK q.2.1 l, dN q.1 q.2.2 l)
def run (q : Q3) (ls : List Lt) : Q3 := ls.foldl dl q
theorem run_app (q : Q3) (a b : List Lt) : run q (a ++ b) = run (run q a) b := by unfold run; rw [List.foldl_append]
theorem run_e (q : Q3) : ∀ (ls : List Lt) (b : Bool), q.1 b ≤ (run q ls).1 b
  | [], _ => Nat.le_refl _
  | l :: ls, b => Nat.le_trans (dE_mono q.1 l b) (run_e (dl q l) ls b)
theorem run_k (q : Q3) : ∀ (ls : List Lt) (b : Bool), q.2.1 b ≤ (run q ls).2.1 b
  | [], _ => Nat.le_refl _
  | l :: ls, b => Nat.le_trans (dK_mono q.2.1 l b) (run_k (dl q l) ls b)
theorem dN_sub (e : Bool → Nat) (net : List Lt) (l x : Lt) (h : x ∈ net) : x ∈ dN e net l := by
  cases l with
  | ack => exact h
  | data to n =>
    rw [dN_data]
    split
    · exact List.mem_append_left _ h
    · exact h
theorem dN_len (e : Bool → Nat) (net : List Lt) (l : Lt) : (dN e net l).length ≤ net.length + 1 := by
  cases l with
  | ack => exact Nat.le_succ _
  | data to n =>
    rw [dN_data]
    split
    · rw [List.length_append, List.length_singleton]
      exact Nat.le_refl _
    · exact Nat.le_succ _
theorem run_net (q : Q3) : ∀ (ls : List Lt) (x : Lt), x ∈ q.2.2 → x ∈ (run q ls).2.2
  | [], _, h => h
  | l :: ls, x, h => run_net (dl q l) ls x (dN_sub q.1 q.2.2 l x h)
theorem run_len (q : Q3) : ∀ ls : List Lt, (run q ls).2.2.length ≤ q.2.2.length + ls.length
  | [] => Nat.le_refl _
  | l :: ls => by
    have h := run_len (dl q l) ls
    have h2 := dN_len q.1 q.2.2 l
    show (run (dl q l) ls).2.2.length ≤ q.2.2.length + (ls.length + 1)
    have h3 : (dl q l).2.2.length = (dN q.1 q.2.2 l).length := rfl
    omega
theorem run_ack (q : Q3) : ∀ (ls : List Lt) (b : Bool) (n : Nat), Lt.ack b n ∈ ls → n + 1 ≤ (run q ls).2.1 b
  | [], _, _, h => nomatch h
  | l :: ls, b, n, h => by
    rcases List.mem_cons.mp h with e | e
    · have h1 := run_k (dl q l) ls b
      have h2 : (dl q l).2.1 b = max (q.2.1 b) (n + 1) := by rw [← e]; exact up_same
      show n + 1 ≤ (run (dl q l) ls).2.1 b
      omega
    · exact run_ack (dl q l) ls b n e
def tks (b : Bool) (k m : Nat) : List Lt := (List.range m).map fun j => Lt.data b (k + j)
theorem tks_succ (b : Bool) (k m : Nat) : tks b k (m + 1) = tks b k m ++ [Lt.data b (k + m)] := by
  unfold tks; rw [List.range_succ, List.map_append]; rfl
theorem ticks_tks (S : Bool → List D) (kn : Bool → Nat) (b : Bool) : ticks S kn b = tks (!b) (kn b) ((S b).length - kn b) := rfl
theorem run_tks (q : Q3) (b : Bool) (k : Nat) (h : k ≤ q.1 b) : ∀ m, k + m ≤ (run q (tks b k m)).1 b ∧ (0 < m → ∃ n, Lt.ack (!b) n ∈ (run q (tks b k m)).2.2 ∧ k + m ≤ n + 1)
  | 0 => ⟨by show k + 0 ≤ q.1 b; omega, fun z => absurd z (by omega)⟩
  | m + 1 => by
    obtain ⟨h1, _⟩ := run_tks q b k h m
    rw [tks_succ, run_app]
    generalize run q (tks b k m) = r at h1
    have e1 : (run r [Lt.data b (k + m)]).1 = dE r.1 (.data b (k + m)) := rfl
    have e2 : (run r [Lt.data b (k + m)]).2.2 = dN r.1 r.2.2 (.data b (k + m)) := rfl
    have h3 : k + m + 1 ≤ dE r.1 (.data b (k + m)) b := by
      rw [dE_data]
      by_cases z : k + m = r.1 b
      · rw [if_pos z, up_same]; omega
      · rw [if_neg z]; omega
    rw [e1, e2]
    refine ⟨h3, fun _ => ⟨dE r.1 (.data b (k + m)) b - 1, ?_, by omega⟩⟩
    rw [dN_data, if_pos h1]
    exact List.mem_append_right _ List.mem_cons_self
/-- one round of the law's end -/
def ltrs (S : Bool → List D) (kn : Bool → Nat) (net : List Lt) : List Lt := net ++ ticks S kn false ++ ticks S kn true
theorem rd1 {S : Bool → List D} {e kn : Bool → Nat} {net : List Lt} (h : Nm S e kn net) (b : Bool) :
    (S (!b)).length ≤ (run (e, kn, []) (ltrs S kn net)).1 b ∧ ((S (!b)).length ≤ (run (e, kn, []) (ltrs S kn net)).2.1 (!b) ∨ ∃ n, Lt.ack (!b) n ∈ (run (e, kn, []) (ltrs S kn net)).2.2 ∧ (S (!b)).length ≤ n + 1) := by
  have split : ∃ X Y, ltrs S kn net = X ++ ticks S kn (!b) ++ Y := by
    cases b with
    | false => exact ⟨net ++ ticks S kn false, [], by rw [List.append_nil]; rfl⟩
    | true => exact ⟨net, ticks S kn true, rfl⟩
  obtain ⟨X, Y, e0⟩ := split
  have hk := h.ke (!b)
  rw [Bool.not_not] at hk
  have h1 := run_e (e, kn, []) X b
  have h1 : e b ≤ (run (e, kn, []) X).1 b := h1
  have hkk : kn (!b) ≤ (run (e, kn, []) (ltrs S kn net)).2.1 (!b) := run_k (e, kn, []) _ (!b)
  rw [e0, run_app, run_app, ticks_tks, Bool.not_not] at *
  have h2 := run_tks (run (e, kn, []) X) b (kn (!b)) (by omega) ((S (!b)).length - kn (!b))
  generalize run (run (e, kn, []) X) (tks b (kn (!b)) ((S (!b)).length - kn (!b))) = r at *
  have h3 := run_e r Y b
  refine ⟨by omega, ?_⟩
  by_cases z : 0 < (S (!b)).length - kn (!b)
  · obtain ⟨n, hn, hl⟩ := h2.2 z
    exact .inr ⟨n, run_net r Y _ hn, by omega⟩
  · exact .inl (by omega)
theorem rd2 {S : Bool → List D} {e kn : Bool → Nat} {net : List Lt} {b : Bool} (h : (S (!b)).length ≤ kn (!b) ∨ ∃ n, Lt.ack (!b) n ∈ net ∧ (S (!b)).length ≤ n + 1) :
    (S (!b)).length ≤ (run (e, kn, []) (ltrs S kn net)).2.1 (!b) := by
  rcases h with h | ⟨n, hn, hl⟩
  · exact Nat.le_trans h (run_k (e, kn, []) _ (!b))
  · have hm : Lt.ack (!b) n ∈ ltrs S kn net := by
      unfold ltrs
      exact List.mem_append_left _ (List.mem_append_left _ hn)
    have := run_ack (e, kn, []) (ltrs S kn net) (!b) n hm
    omega
/-- what stands behind i rounds -/
def Rd (S : Bool → List D) (e kn : Bool → Nat) (net : List Lt) (i : Nat) : Prop :=
  (1 ≤ i → ∀ b, (S (!b)).length ≤ e b ∧ ((S (!b)).length ≤ kn (!b) ∨ ∃ n, Lt.ack (!b) n ∈ net ∧ (S (!b)).length ≤ n + 1)) ∧ (2 ≤ i → ∀ b, (S (!b)).length ≤ kn (!b))
theorem Rd.z {S : Bool → List D} {e kn : Bool → Nat} {net : List Lt} : Rd S e kn net 0 := ⟨fun h => absurd h (by omega), fun h => absurd h (by omega)⟩
theorem Rd.s {S : Bool → List D} {e kn : Bool → Nat} {net : List Lt} {i : Nat} (h : Nm S e kn net) (r : Rd S e kn net i) :
    Rd S (run (e, kn, []) (ltrs S kn net)).1 (run (e, kn, []) (ltrs S kn net)).2.1 (run (e, kn, []) (ltrs S kn net)).2.2 (i + 1) :=
  ⟨fun _ b => rd1 h b, fun hi b => rd2 (r.1 (by omega) b).2⟩
theorem ltrs_ok {S : Bool → List D} {e kn : Bool → Nat} {net : List Lt} (h : Nm S e kn net) : ∀ l ∈ ltrs S kn net, l.ok S e := ((h.tick false).tick true).lt
theorem ltrs_len (S : Bool → List D) (kn : Bool → Nat) (net : List Lt) (h : ∀ b, (S b).length ≤ 61) : (ltrs S kn net).length ≤ net.length + 122 := by
  unfold ltrs
  rw [List.length_append, List.length_append, ticks_len, ticks_len]
  have h1 := h false
  have h2 := h true
  omega
end MD

namespace MD
open PySem PySem.Spec PyProof.Rows L2
/-! ### the text by places -/
def top (i : Nat) : Stmt := PySem.Challenge.pw_manydoors_k08_whole_wires_lose_nothing.main.body.getD i (.Pass ⟨0, 0, 0, 0⟩)
abbrev s_Wire___init__ : Stmt := inClass (top 1) 0
abbrev s_Wire_send : Stmt := inClass (top 1) 1
abbrev s_Wire_take : Stmt := inClass (top 1) 2
abbrev s_Wire_acknowledged : Stmt := inClass (top 1) 3
abbrev s_law_mixed : Stmt := top 3
abbrev s_law_numbers : Stmt := top 4
abbrev s_law_draw : Stmt := top 5
abbrev s_law_equal : Stmt := top 6
abbrev s_law_all_equal : Stmt := top 7
abbrev s_law_ticked : Stmt := top 8
abbrev s_law_delivered : Stmt := top 9
abbrev s_law : Stmt := top 10
/-! ### the names of each def -/
theorem sc_Wire___init__ : FnScope ["self"] ["self"] (defScope s_Wire___init__) := ⟨rfl, rfl, rfl, by decide +kernel, rfl, by decide +kernel, by decide +kernel⟩
theorem sc_Wire_send : FnScope ["self", "body", "number"] ["self", "body"] (defScope s_Wire_send) := ⟨rfl, rfl, rfl, by decide +kernel, rfl, by decide +kernel, by decide +kernel⟩
theorem sc_Wire_take : FnScope ["self", "number"] ["self", "number"] (defScope s_Wire_take) := ⟨rfl, rfl, rfl, by decide +kernel, rfl, by decide +kernel, by decide +kernel⟩
theorem sc_Wire_acknowledged : FnScope ["self", "number", "pair"] ["self", "number"] (defScope s_Wire_acknowledged) := ⟨rfl, rfl, rfl, by decide +kernel, rfl, by decide +kernel, by decide +kernel⟩
theorem sc_law_mixed : FnScope ["number", "k", "step"] ["number", "k"] (defScope s_law_mixed) := ⟨rfl, rfl, rfl, by decide +kernel, rfl, by decide +kernel, by decide +kernel⟩
theorem sc_law_numbers : FnScope ["script", "numbers", "cell", "rest", "k"] ["script"] (defScope s_law_numbers) := ⟨rfl, rfl, rfl, by decide +kernel, rfl, by decide +kernel, by decide +kernel⟩
theorem sc_law_draw : FnScope ["draws", "at", "first"] ["draws"] (defScope s_law_draw) := ⟨rfl, rfl, rfl, by decide +kernel, rfl, by decide +kernel, by decide +kernel⟩
theorem sc_law_equal : FnScope ["actual", "due"] ["actual", "due"] (defScope s_law_equal) := ⟨rfl, rfl, rfl, by decide +kernel, rfl, by decide +kernel, by decide +kernel⟩
theorem sc_law_all_equal : FnScope ["actual", "due", "k"] ["actual", "due"] (defScope s_law_all_equal) := ⟨rfl, rfl, rfl, by decide +kernel, rfl, by decide +kernel, by decide +kernel⟩
theorem sc_law_ticked : FnScope ["net", "wires", "end", "pair"] ["net", "wires", "end"] (defScope s_law_ticked) := ⟨rfl, rfl, rfl, by decide +kernel, rfl, by decide +kernel, by decide +kernel⟩
theorem sc_law_delivered : FnScope ["net", "wires", "handled", "letter", "known", "end", "wire", "before"] ["net", "wires", "handled", "letter", "known"] (defScope s_law_delivered) := ⟨rfl, rfl, rfl, by decide +kernel, rfl, by decide +kernel, by decide +kernel⟩
theorem sc_law : FnScope ["script", "draws", "wires", "net", "sent", "handled", "known", "k", "end", "pick", "body", "number", "at", "side", "left", "turn", "letters", "letter", "n"] ["script"] (defScope s_law) := ⟨rfl, rfl, rfl, by decide +kernel, rfl, by decide +kernel, by decide +kernel⟩
/-! ### what the top has written -/
structure Txt (K : PySem.W.Frag) (mg : Str → Option Value) where
  C_Wire : Addr
  cl_Wire : Cls K C_Wire
  mc_Wire : mg "Wire" = some (.ref C_Wire)
  na_Wire_sent : NoAttr K C_Wire "sent"
  na_Wire_outbox : NoAttr K C_Wire "outbox"
  na_Wire_expected : NoAttr K C_Wire "expected"
  mk_Wire : MakeAt K mg C_Wire "Wire" "Wire.__init__" s_Wire___init__ ["self"]
  me_Wire_send : MethAt K C_Wire "send" "Wire.send" s_Wire_send ["self", "body"]
  me_Wire_take : MethAt K C_Wire "take" "Wire.take" s_Wire_take ["self", "number"]
  me_Wire_acknowledged : MethAt K C_Wire "acknowledged" "Wire.acknowledged" s_Wire_acknowledged ["self", "number"]
  d_law_mixed : DefAt K mg "_law_mixed" s_law_mixed ["number", "k"]
  d_law_numbers : DefAt K mg "_law_numbers" s_law_numbers ["script"]
  d_law_draw : DefAt K mg "_law_draw" s_law_draw ["draws"]
  d_law_equal : DefAt K mg "_law_equal" s_law_equal ["actual", "due"]
  d_law_all_equal : DefAt K mg "_law_all_equal" s_law_all_equal ["actual", "due"]
  d_law_ticked : DefAt K mg "_law_ticked" s_law_ticked ["net", "wires", "end"]
  d_law_delivered : DefAt K mg "_law_delivered" s_law_delivered ["net", "wires", "handled", "letter", "known"]
  z_bool : mg "bool" = none
  z_int : mg "int" = none
  z_isinstance : mg "isinstance" = none
  z_len : mg "len" = none
  z_list : mg "list" = none
  z_max : mg "max" = none
  z_range : mg "range" = none
  z_str : mg "str" = none
  z_tuple : mg "tuple" = none
end MD
namespace MD
open PySem PySem.Spec PyProof.Rows L2
local macro_rules | `(tactic| walk_at "ne") => `(tactic| first | assumption | (apply Ne.symm; assumption) | exact ne_of_none (by assumption) (by assumption) | exact (ne_of_none (by assumption) (by assumption)).symm)
local macro_rules | `(tactic| walk_at "hp") => `(tactic| first | assumption | exact upd_same | (refine (upd_ne ?_).trans ?_; (focus walk_at "ne"); walk_at "hp"))
local macro_rules | `(tactic| walk_at "nm") => `(tactic| first | exact nmem_nil | exact nmem_one (by walk_at "ne") | exact nmem_cons (by walk_at "ne") (by walk_at "nm"))
/-! ### the draws -/
section
variable {P : Program} {w : World} {K : PySem.W.Frag} {mg : Str → Option Value} {base : Heap}
def spMixed : Sp := fun vs H Q _ => ∃ a k : Int, vs = [.int a, .int k] ∧ ∀ r : Int, 0 ≤ r → r < 2147483647 → Q (.int r) H
theorem c_law_mixed (T : Txt K mg) : Cal P w K mg base 1 "_law_mixed" spMixed := by
  refine cal_of T.d_law_mixed sc_law_mixed (fun vs H Q E h => ?_) (fun f cdv A outer s H vs Q E hr h => ?_)
  · obtain ⟨a, k, rfl, _⟩ := h; rfl
  · obtain ⟨a, k, rfl, q⟩ := h
    refine ⟨_, (pss_cons (ps_set (i := 2) sc_law_mixed.nd rfl (Or.inl rfl) (pe_op op_mod (pe_op op_add (pe_op op_add (pe_op op_mul (pv 0) pe_int) (pe_op op_mul (pv 1) pe_int)) pe_int) pe_int))
  (pss_one (ps_ret (pe_op op_mod (pe_op op_add (pe_op op_mul (pv 2) (pe_op op_add (pe_op op_fdiv (pv 2) pe_int) pe_int)) (pv 1)) pe_int)))), ?_⟩
    refine ⟨_, rfl, _, _, rfl, rfl, .inr ⟨by decide, by decide⟩, _, rfl, _, _, rfl, rfl, .inr ⟨by decide, by decide⟩, _, _, rfl, rfl, _, _, rfl, rfl, _, _, rfl, rfl, (by show (0 : Int) < 2147483647; decide), ?_⟩
    have h0 : 0 ≤ (a * 48271 + k * 69621 + 12345) % 2147483647 := Int.emod_nonneg _ (by decide)
    have h1 : (a * 48271 + k * 69621 + 12345) % 2147483647 < 2147483647 := Int.emod_lt_of_pos _ (by decide)
    generalize (a * 48271 + k * 69621 + 12345) % 2147483647 = st at h0 h1
    refine ⟨_, rfl, _, rfl, _, _, rfl, rfl, ⟨by decide, by decide⟩, _, _, rfl, rfl, _, _, rfl, rfl, .inl ⟨by omega, by omega⟩, _, rfl, _, _, rfl, rfl, _, _, rfl, rfl, (by show (0 : Int) < 2147483647; decide), ?_⟩
    exact q _ (Int.emod_nonneg _ (by decide)) (Int.emod_lt_of_pos _ (by decide))
def spNumbers (K : PySem.W.Frag) : Sp := fun vs H Q _ => ∃ (a : Addr) (ns : List Int), vs = [.ref a] ∧ SqL K H a (ns.map V.int) ∧ ns.length ≤ 63 ∧
  ∀ (p : Addr) (H' : Hp) (ms : List Int), H p = none → Kp [] H H' → H' p = some (.lst (ms.map V.int)) → Rg ms → ms.length ≤ 3780 → Q (.ref p) H'
theorem mod6 (z : Int) : 0 ≤ z % 1000000 ∧ z % 1000000 < 1000000 := ⟨Int.emod_nonneg _ (by decide), Int.emod_lt_of_pos _ (by decide)⟩
theorem c_law_numbers (T : Txt K mg) : Cal P w K mg base 2 "_law_numbers" (spNumbers K) := by
  have c_law_mixed := c_law_mixed (P := P) (w := w) (base := base) T
  refine cal_of T.d_law_numbers sc_law_numbers (fun vs H Q E h => ?_) (fun f cdv A outer s H vs Q E hr h => ?_)
  · obtain ⟨a, k, rfl, _⟩ := h; rfl
  · obtain ⟨a, ns, rfl, hS, hlen, q⟩ := h
    refine ⟨_, (pss_cons (ps_set (i := 1) sc_law_numbers.nd rfl (Or.inl rfl) (pe_lst pa_nil))
  (pss_cons (ps_for PassesOwn.never rfl (pi_list (pv 0)) (pg_name (i := 2) sc_law_numbers.nd rfl (Or.inl rfl))
  (pss_one (ps_if (pt_cmpR op_ge (pv 2) (pe_op op_pow pe_int pe_int) (nomark _))
  (pss_cons (ps_set (i := 3) sc_law_numbers.nd rfl (Or.inl rfl) (pv 2))
  (pss_one (ps_for PassesOwn.never rfl (pi_range1 (by rfl) T.z_range (pa_cons pe_int pa_nil)) (pg_name (i := 4) sc_law_numbers.nd rfl (Or.inl rfl))
  (pss_one (ps_if (pt_cmpR op_gt (pv 3) pe_int (nomark _))
  (pss_cons (ps_expr (pe_bm PySem.F.plainAttrs_list PySem.F.slot_list_append PySem.F.type_list_append mt_append (pv 1) (pa_cons (pe_op op_mod (pv 3) pe_int) pa_nil)))
  (pss_one (ps_set (i := 3) sc_law_numbers.nd rfl (Or.inl rfl) (pe_op op_fdiv (pv 3) pe_int))))
  pss_nil)))))
  (pss_cons (ps_expr (pe_bm PySem.F.plainAttrs_list PySem.F.slot_list_append PySem.F.type_list_append mt_append (pv 1) (pa_cons (pe_op op_mod (pv 2) pe_int) pa_nil)))
  (pss_one (ps_for PassesOwn.never rfl (pi_range1 (by rfl) T.z_range (pa_cons pe_int pa_nil)) (pg_name (i := 4) sc_law_numbers.nd rfl (Or.inl rfl))
  (pss_one (ps_expr (pe_bm PySem.F.plainAttrs_list PySem.F.slot_list_append PySem.F.type_list_append mt_append (pv 1) (pa_cons (pe_op op_mod (pe_c c_law_mixed (hr.mono (by first | decide | omega)) rfl (pa_cons (pe_c c_law_mixed (hr.mono (by first | decide | omega)) rfl (pa_cons (pe_op op_mod (pv 2) pe_int) (pa_cons (pv 4) pa_nil))) (pa_cons (pe_op op_add (pv 4) pe_int) pa_nil))) pe_int) pa_nil))))))))))
  (pss_one (ps_ret (pv 1))))), ?_⟩
    refine ⟨Nat.zero_le _, fun p hp => ?_⟩
    have k0 : Kp [] H (upd H p (.lst [])) := Kp.new hp
    refine ⟨_, rfl, a, rfl, ⟨_, k0.seq hS nmem_nil⟩, for_list (K := K) (a := a) (xs := ns.map V.int) (fun i σ H2 => ∃ (ms : List Int) (c r kk : Option V), σ = [some (.ref a), some (.ref p), c, r, kk] ∧ Kp [] H H2 ∧ H2 p = some (.lst (ms.map V.int)) ∧ Rg ms ∧ ms.length ≤ 60 * i)
      ⟨[], none, none, none, rfl, k0, upd_same, Rg.nil, Nat.le_refl _⟩ (fun i σ H2 _ ⟨_, _, _, _, _, k2, _⟩ => k2.seq hS nmem_nil) ?_ ?_⟩
    · rintro i y σ H2 hi ⟨ms, c, r, kk, rfl, k2, hp2, rg, hl⟩
      obtain ⟨z, rfl, hz⟩ := int_item hi
      have hi63 : i < 63 := Nat.lt_of_lt_of_le (List.getElem?_eq_some_iff.mp hz).1 hlen
      refine ⟨_, rfl, _, _, rfl, rfl, ⟨by decide, by decide, by decide⟩, _, _, rfl, rfl, _, rfl, ?_⟩
      refine ite2 (fun hc => ?_) (fun hc => ?_)
      · refine ⟨_, rfl, _, rfl, (by decide), (by decide), for_range (n := 60) (fun j σ H3 => ∃ (ms : List Int) (r : Int) (kk : Option V), σ = [some (.ref a), some (.ref p), some (.int z), some (.int r), kk] ∧ Kp [] H H3 ∧ H3 p = some (.lst (ms.map V.int)) ∧ Rg ms ∧ ms.length ≤ 60 * i + j)
          ⟨ms, z, _, rfl, k2, hp2, rg, hl⟩ ?_ ?_⟩
        · rintro j σ H3 hj ⟨ms, r, kk, rfl, k3, hp3, rg3, hl3⟩
          refine ⟨_, rfl, _, _, rfl, rfl, _, rfl, ?_⟩
          refine ite2 (fun hc => ?_) (fun hc => ?_)
          · refine ⟨_, rfl, .inl ⟨rfl, _, SqL.of hp3⟩, _, rfl, _, _, rfl, rfl, (by show (0 : Int) < 1000000; decide), p, _, _, rfl, rfl, hp3, (by rw [List.length_map]; exact sz hl3), ?_⟩
            refine ⟨_, rfl, _, _, rfl, rfl, ⟨by decide, by decide⟩, ?_⟩
            exact ⟨ms ++ [r % 1000000], r / 1000000, _, rfl, k3.own hp, by rw [← int_snoc]; exact upd_same, rg3.snoc (mod6 r).1 (mod6 r).2, by rw [List.length_append, List.length_singleton]; omega⟩
          · exact ⟨ms, r, _, rfl, k3, hp3, rg3, by omega⟩
        · rintro σ H3 ⟨ms, r, kk, rfl, k3, hp3, rg3, hl3⟩
          exact ⟨ms, _, _, _, rfl, k3, hp3, rg3, by omega⟩
      · refine ⟨_, rfl, .inl ⟨rfl, _, SqL.of hp2⟩, _, rfl, _, _, rfl, rfl, (by show (0 : Int) < 1000000; decide), p, _, _, rfl, rfl, hp2, (by rw [List.length_map]; exact sz hl), ?_⟩
        refine ⟨_, rfl, (by decide), (by decide), for_range (n := 5) (fun j σ H3 => ∃ (ms : List Int) (r kk : Option V), σ = [some (.ref a), some (.ref p), some (.int z), r, kk] ∧ Kp [] H H3 ∧ H3 p = some (.lst (ms.map V.int)) ∧ Rg ms ∧ ms.length ≤ 60 * i + 1 + j)
          ⟨ms ++ [z % 1000000], _, _, rfl, k2.own hp, by rw [← int_snoc]; exact upd_same, rg.snoc (mod6 z).1 (mod6 z).2, by rw [List.length_append, List.length_singleton]; omega⟩ ?_ ?_⟩
        · rintro j σ H3 hj ⟨ms, r, kk, rfl, k3, hp3, rg3, hl3⟩
          refine ⟨_, rfl, .inl ⟨rfl, _, SqL.of hp3⟩, ?_⟩
          refine ⟨_, rfl, _, _, rfl, rfl, (by show (0 : Int) < 2147483647; decide), _, rfl, _, _, rfl, fun r1 h0 h1 => ?_⟩
          refine ⟨_, rfl, _, _, rfl, rfl, _, _, rfl, fun r2 h2 h3 => ?_⟩
          refine ⟨_, _, rfl, rfl, (by show (0 : Int) < 1000000; decide), p, _, _, rfl, rfl, hp3, (by rw [List.length_map]; exact sz hl3), ?_⟩
          exact ⟨ms ++ [r2 % 1000000], _, _, rfl, k3.own hp, by rw [← int_snoc]; exact upd_same, rg3.snoc (mod6 r2).1 (mod6 r2).2, by rw [List.length_append, List.length_singleton]; omega⟩
        · rintro σ H3 ⟨ms, r, kk, rfl, k3, hp3, rg3, hl3⟩
          exact ⟨ms, _, _, _, rfl, k3, hp3, rg3, by omega⟩
    · rintro σ H2 ⟨ms, c, r, kk, rfl, k2, hp2, rg, hl⟩
      refine ⟨_, rfl, ?_⟩
      rw [List.length_map] at hl
      exact q p H2 ms hp k2 hp2 rg (by omega)
/-- at d the pair of the drawn numbers, at n, and of how many are used -/
structure DrawsAt (H : Hp) (d n : Addr) (ns : List Int) (k : Int) : Prop where
  hd : H d = some (.lst [.ref n, .int k])
  hn : H n = some (.lst (ns.map V.int))
  rg : Rg ns
  k0 : 0 ≤ k
theorem DrawsAt.ne {H : Hp} {d n : Addr} {ns : List Int} {k : Int} (h : DrawsAt H d n ns k) : d ≠ n := by
  refine ne_of h.hd h.hn fun e => ?_
  cases ns with
  | nil => cases e
  | cons a r => injection e with e; injection e with e _; cases e
theorem DrawsAt.kp {M : List Addr} {H H' : Hp} {d n : Addr} {ns : List Int} {k : Int} (h : DrawsAt H d n ns k) (q : Kp M H H') (h1 : d ∉ M) (h2 : n ∉ M) : DrawsAt H' d n ns k := ⟨q.at h.hd h1, q.at h.hn h2, h.rg, h.k0⟩
def spDraw : Sp := fun vs H Q _ => ∃ (d n : Addr) (ns : List Int) (k : Int), vs = [.ref d] ∧ DrawsAt H d n ns k ∧
  ∀ (r : Int) (H' : Hp), 0 ≤ r → r < 1000000 → Kp [d] H H' → DrawsAt H' d n ns (k + 1) → Q (.int r) H'
theorem c_law_draw (T : Txt K mg) : Cal P w K mg base 2 "_law_draw" spDraw := by
  have c_law_mixed := c_law_mixed (P := P) (w := w) (base := base) T
  refine cal_of T.d_law_draw sc_law_draw (fun vs H Q E h => ?_) (fun f cdv A outer s H vs Q E hr h => ?_)
  · obtain ⟨d, n, ns, k, rfl, _⟩ := h; rfl
  · obtain ⟨d, n, ns, k, rfl, D, q⟩ := h
    have k0 := D.k0
    refine ⟨_, (pss_cons (ps_set (i := 1) sc_law_draw.nd rfl (Or.inl rfl) (pe_ix (ixL (K := K)) (pv 0) pe_int (fun _ _ => rfl)))
  (pss_cons (ps_asg (pe_op op_add (pv 1) pe_int) (pg_sub (pv 0) pe_int set_list))
  (pss_cons (ps_if (pt_cmpR op_lt (pv 1) (pe_callB (lenK (K := K)) (by rfl) T.z_len (by decide +kernel) (pa_cons (pe_ix (ixL (K := K)) (pv 0) pe_int (fun _ _ => rfl)) pa_nil)) (nomark _))
  (pss_one (ps_ret (pe_ix (ixL (K := K)) (pe_ix (ixL (K := K)) (pv 0) pe_int (fun _ _ => rfl)) (pv 1) (fun _ _ => rfl))))
  pss_nil)
  (pss_cons (ps_set (i := 2) sc_law_draw.nd rfl (Or.inl rfl) (pe_op op_add pe_int (pv 1)))
  (pss_cons (ps_if (pt_cmpR op_gt (pe_callB (lenK (K := K)) (by rfl) T.z_len (by decide +kernel) (pa_cons (pe_ix (ixL (K := K)) (pv 0) pe_int (fun _ _ => rfl)) pa_nil)) pe_int (nomark _))
  (pss_one (ps_set (i := 2) sc_law_draw.nd rfl (Or.inl rfl) (pe_op op_add (pv 2) (pe_op op_mul pe_int (pe_ix (ixL (K := K)) (pe_ix (ixL (K := K)) (pv 0) pe_int (fun _ _ => rfl)) pe_int (fun _ _ => rfl))))))
  pss_nil)
  (pss_one (ps_ret (pe_op op_mod (pe_c c_law_mixed (hr.mono (by first | decide | omega)) rfl (pa_cons (pe_c c_law_mixed (hr.mono (by first | decide | omega)) rfl (pa_cons (pv 2) (pa_cons (pv 1) pa_nil))) (pa_cons pe_int pa_nil))) pe_int)))))))), ?_⟩
    refine ⟨_, rfl, d, _, _, _, rfl, rfl, SqL.of D.hd, rfl, ?_⟩
    refine ⟨_, rfl, _, _, rfl, rfl, _, rfl, d, _, _, 1, rfl, rfl, D.hd, rfl, ?_⟩
    have hk : Kp [d] H (upd H d (.lst [.ref n, .int (k + 1)])) := Kp.old D.hd trivial List.mem_cons_self
    have D' : DrawsAt (upd H d (.lst [.ref n, .int (k + 1)])) d n ns (k + 1) := ⟨upd_same, (upd_ne D.ne.symm).trans D.hn, D.rg, by omega⟩
    obtain ⟨H1, eH⟩ : ∃ H1, H1 = upd H d (.lst [.ref n, .int (k + 1)]) := ⟨_, rfl⟩
    rw [← eH] at hk D'
    refine Eq.mp (congrArg _ eH) ?_
    refine ⟨_, rfl, _, rfl, d, _, _, _, rfl, rfl, SqL.of D'.hd, rfl, n, _, rfl, .inl (SqL.of D'.hn), _, _, rfl, rfl, _, rfl, ?_⟩
    refine ite2 (fun hc => ?_) (fun hc => ?_)
    · have hc := of_decide_eq_true hc
      rw [List.length_map] at hc
      have hlt : k.toNat < ns.length := by omega
      have hz : ns[k.toNat]? = some ns[k.toNat] := by simp [hlt]
      have hr := D.rg _ (List.getElem_mem hlt)
      refine ⟨_, rfl, d, _, _, _, rfl, rfl, SqL.of D'.hd, rfl, _, rfl, n, _, _, _, rfl, rfl, SqL.of D'.hn, int_at k0 hz, ?_⟩
      exact q _ _ hr.1 hr.2 hk D'
    · refine ⟨_, rfl, _, _, rfl, rfl, ?_⟩
      refine ⟨_, rfl, d, _, _, _, rfl, rfl, SqL.of D'.hd, rfl, n, _, rfl, .inl (SqL.of D'.hn), _, _, rfl, rfl, _, rfl, ?_⟩
      have fin : ∀ f : Int, ∃ v, ([some (V.ref d), some (V.int k), some (V.int f)] : L2.St)[2]? = some (some v) ∧ ∃ u, ([some (V.ref d), some (V.int k), some (V.int f)] : L2.St)[1]? = some (some u) ∧ spMixed [v, u] H1 (fun x H2 => spMixed [x, .int 5] H2 (fun y H3 => ∃ i j, y = .int i ∧ V.int 1000000 = .int j ∧ 0 < j ∧ Q (.int (i % j)) H3) E0) E0 := fun f =>
        ⟨_, rfl, _, rfl, _, _, rfl, fun r1 h0 h1 => ⟨_, _, rfl, fun r2 h2 h3 => ⟨_, _, rfl, rfl, by decide, q _ _ (mod6 r2).1 (mod6 r2).2 hk D'⟩⟩⟩
      refine ite2 (fun hc => ?_) (fun hc => ?_)
      · have hc := of_decide_eq_true hc
        rw [List.length_map] at hc
        have hlt : 0 < ns.length := by omega
        have hz : ns[(0 : Int).toNat]? = some ns[0] := by simp [hlt]
        refine ⟨_, rfl, _, rfl, d, _, _, _, rfl, rfl, SqL.of D'.hd, rfl, n, _, _, _, rfl, rfl, SqL.of D'.hn, int_at (by decide) hz, _, _, rfl, rfl, .inl ⟨by decide, by decide⟩, _, _, rfl, rfl, ?_⟩
        exact fin _
      · exact fin _
end

end MD
namespace MD
open PySem PySem.Spec PyProof.Rows L2
local macro_rules | `(tactic| walk_at "ne") => `(tactic| first | assumption | (apply Ne.symm; assumption) | exact ne_of_none (by assumption) (by assumption) | exact (ne_of_none (by assumption) (by assumption)).symm)
local macro_rules | `(tactic| walk_at "hp") => `(tactic| first | assumption | exact upd_same | (refine (upd_ne ?_).trans ?_; (focus walk_at "ne"); walk_at "hp"))
local macro_rules | `(tactic| walk_at "nm") => `(tactic| first | exact nmem_nil | exact nmem_one (by walk_at "ne") | exact nmem_cons (by walk_at "ne") (by walk_at "nm"))
/-! ### deep equality -/
section
variable {P : Program} {w : World} {K : PySem.W.Frag} {mg : Str → Option Value} {base : Heap}
def spEq (K : PySem.W.Frag) (n : Nat) : Sp := fun vs H Q _ => ∃ (d : D) (x y : V), vs = [x, y] ∧ Rep K H d x ∧ Rep K H d y ∧ d.ok n ∧ Q (.bl true) H
def spEqs (K : PySem.W.Frag) (n : Nat) : Sp := fun vs H Q _ => ∃ (l : Bool) (ds : List D) (a b : Addr) (xs ys : List V), vs = [.ref a, .ref b] ∧ SqB K H l a xs ∧ SqB K H l b ys ∧ Reps K H ds xs ∧ Reps K H ds ys ∧
  ds.length ≤ 100000 ∧ (∀ d ∈ ds, D.ok n d) ∧ Q (.bl true) H
theorem ok_eqs (T : Txt K mg) (n k : Nat) (c_law_equal : Cal P w K mg base k "_law_equal" (spEq K n)) : Cal P w K mg base (k + 1) "_law_all_equal" (spEqs K n) := by
  refine cal_of T.d_law_all_equal sc_law_all_equal (fun vs H Q E h => ?_) (fun f cdv A outer s H vs Q E hr h => ?_)
  · obtain ⟨l, ds, a, b, xs, ys, rfl, _⟩ := h; rfl
  · obtain ⟨l, ds, a, b, xs, ys, rfl, ha, hb, rx, ry, hz, hk, q⟩ := h
    refine ⟨_, (pss_cons (ps_for PassesOwn.never rfl (pi_range1 (by rfl) T.z_range (pa_cons (pe_callB (lenK (K := K)) (by rfl) T.z_len (by decide +kernel) (pa_cons (pv 1) pa_nil)) pa_nil)) (pg_name (i := 2) sc_law_all_equal.nd rfl (Or.inl rfl))
  (pss_one (ps_if (pt_not (pt_val (pe_c c_law_equal (hr.mono (by first | decide | omega)) rfl (pa_cons (pe_ix (ixS (K := K)) (pv 0) (pv 2) (fun _ _ => rfl)) (pa_cons (pe_ix (ixS (K := K)) (pv 1) (pv 2) (fun _ _ => rfl)) pa_nil)))))
  (pss_one (ps_ret pe_bl))
  pss_nil)))
  (pss_one (ps_ret pe_bl))), ?_⟩
    have ly := ry.len
    refine ⟨_, rfl, b, ys, rfl, hb.any, _, rfl, (by omega), (by omega), for_range (n := ys.length) (fun i σ H2 => H2 = H ∧ ∃ kk : Option V, σ = [some (.ref a), some (.ref b), kk]) ⟨rfl, none, rfl⟩ ?_ ?_⟩
    · rintro i σ H2 hi ⟨rfl, kk, rfl⟩
      obtain ⟨d, hd⟩ : ∃ d, ds[i]? = some d := ⟨ds[i]'(by omega), by simp [show i < ds.length by omega]⟩
      obtain ⟨x, ex, rdx⟩ := rx.get hd
      obtain ⟨y, ey, rdy⟩ := ry.get hd
      have e0 : (0 : Int) + (i : Int) = (i : Int) := by omega
      have ax : atI xs ((0 : Int) + (i : Int)) = some x := by rw [e0]; exact atI_nat ex
      have ay : atI ys ((0 : Int) + (i : Int)) = some y := by rw [e0]; exact atI_nat ey
      cases l with
      | true =>
        refine ⟨_, rfl, _, rfl, .inl ⟨a, xs, _, x, rfl, rfl, ha, ax, _, rfl, _, rfl, .inl ⟨b, ys, _, y, rfl, rfl, hb, ay, d, x, y, rfl, rdx, rdy, hk d (List.mem_of_getElem? hd), _, rfl, ?_⟩⟩⟩
        exact ⟨rfl, _, rfl⟩
      | false =>
        refine ⟨_, rfl, _, rfl, .inr (.inl ⟨a, xs, _, x, rfl, rfl, ha, ax, _, rfl, _, rfl, .inr (.inl ⟨b, ys, _, y, rfl, rfl, hb, ay, d, x, y, rfl, rdx, rdy, hk d (List.mem_of_getElem? hd), _, rfl, ?_⟩)⟩)⟩
        exact ⟨rfl, _, rfl⟩
    · rintro σ H2 ⟨rfl, kk, rfl⟩
      exact q
theorem ok_eq (T : Txt K mg) : ∀ n : Nat, Cal P w K mg base (2 * n + 1) "_law_equal" (spEq K n)
  | 0 => by
    have c_law_all_equal : Cal P w K mg base 0 "_law_all_equal" (fun _ _ _ _ => False) := by
      obtain ⟨f, fd, hm, F, b⟩ := T.d_law_all_equal.ex
      exact ⟨f, fd, _, ⟨fun _ _ _ _ h => h.elim, fun _ _ _ _ _ _ _ _ _ _ _ _ _ h => h.elim⟩, hm, F.kp, b⟩
    exact go T 0 0 _ c_law_all_equal (fun _ _ _ ⟨m, hm, _⟩ => absurd hm (by omega))
  | n + 1 => by
    have c_law_all_equal := ok_eqs T n (2 * n + 1) (ok_eq T n)
    exact go T (n + 1) (2 * n + 2) _ c_law_all_equal (fun vs H Q h => by
      obtain ⟨m, hm, h⟩ := h
      cases hm
      exact h)
where
  go (T : Txt K mg) (n k : Nat) (sp : Sp) (c_law_all_equal : Cal P w K mg base k "_law_all_equal" sp) (hsp : ∀ vs H Q, (∃ m, n = m + 1 ∧ spEqs K m vs H Q E0) → sp vs H Q E0) : Cal P w K mg base (k + 1) "_law_equal" (spEq K n) := by
    refine cal_of T.d_law_equal sc_law_equal (fun vs H Q E h => ?_) (fun f cdv A outer s H vs Q E hr h => ?_)
    · obtain ⟨d, x, y, rfl, _⟩ := h; rfl
    · obtain ⟨d, x, y, rfl, rx, ry, ok, q⟩ := h
      refine ⟨_, (pss_cons (ps_if (pt_val (pe_callB (isiK (K := K)) (by rfl) T.z_isinstance (by decide +kernel) (pa_cons (pv 1) (pa_cons (pe_bltn (v := .ty "list") (by rfl) T.z_list (by decide +kernel) rfl) pa_nil))))
  (pss_cons (ps_if (PW.pt (pw_or (pt_not (pt_val (pe_callB (isiK (K := K)) (by rfl) T.z_isinstance (by decide +kernel) (pa_cons (pv 0) (pa_cons (pe_bltn (v := .ty "list") (by rfl) T.z_list (by decide +kernel) rfl) pa_nil))))) (pw_or1 (pt_cmpR op_ne (pe_callB (lenK (K := K)) (by rfl) T.z_len (by decide +kernel) (pa_cons (pv 0) pa_nil)) (pe_callB (lenK (K := K)) (by rfl) T.z_len (by decide +kernel) (pa_cons (pv 1) pa_nil)) (nomark _)))))
  (pss_one (ps_ret pe_bl))
  pss_nil)
  (pss_one (ps_ret (pe_c c_law_all_equal (hr.mono (by first | decide | omega)) rfl (pa_cons (pv 0) (pa_cons (pv 1) pa_nil))))))
  pss_nil)
  (pss_cons (ps_if (pt_val (pe_callB (isiK (K := K)) (by rfl) T.z_isinstance (by decide +kernel) (pa_cons (pv 1) (pa_cons (pe_bltn (v := .ty "tuple") (by rfl) T.z_tuple (by decide +kernel) rfl) pa_nil))))
  (pss_cons (ps_if (PW.pt (pw_or (pt_not (pt_val (pe_callB (isiK (K := K)) (by rfl) T.z_isinstance (by decide +kernel) (pa_cons (pv 0) (pa_cons (pe_bltn (v := .ty "tuple") (by rfl) T.z_tuple (by decide +kernel) rfl) pa_nil))))) (pw_or1 (pt_cmpR op_ne (pe_callB (lenK (K := K)) (by rfl) T.z_len (by decide +kernel) (pa_cons (pv 0) pa_nil)) (pe_callB (lenK (K := K)) (by rfl) T.z_len (by decide +kernel) (pa_cons (pv 1) pa_nil)) (nomark _)))))
  (pss_one (ps_ret pe_bl))
  pss_nil)
  (pss_one (ps_ret (pe_c c_law_all_equal (hr.mono (by first | decide | omega)) rfl (pa_cons (pv 0) (pa_cons (pv 1) pa_nil))))))
  pss_nil)
  (pss_cons (ps_if (pt_val (pe_callB (isiK (K := K)) (by rfl) T.z_isinstance (by decide +kernel) (pa_cons (pv 1) (pa_cons (pe_bltn (v := .ty "bool") (by rfl) T.z_bool (by decide +kernel) rfl) pa_nil))))
  (pss_one (ps_ret (pe_and (pe_callB (isiK (K := K)) (by rfl) T.z_isinstance (by decide +kernel) (pa_cons (pv 0) (pa_cons (pe_bltn (v := .ty "bool") (by rfl) T.z_bool (by decide +kernel) rfl) pa_nil))) (pe_one (pe_cmpR op_eq (pv 0) (pv 1) (nomark _))))))
  pss_nil)
  (pss_cons (ps_if (pt_val (pe_callB (isiK (K := K)) (by rfl) T.z_isinstance (by decide +kernel) (pa_cons (pv 1) (pa_cons (pe_bltn (v := .ty "int") (by rfl) T.z_int (by decide +kernel) rfl) pa_nil))))
  (pss_one (ps_ret (pe_and (pe_callB (isiK (K := K)) (by rfl) T.z_isinstance (by decide +kernel) (pa_cons (pv 0) (pa_cons (pe_bltn (v := .ty "int") (by rfl) T.z_int (by decide +kernel) rfl) pa_nil))) (pe_and (pe_not (pe_callB (isiK (K := K)) (by rfl) T.z_isinstance (by decide +kernel) (pa_cons (pv 0) (pa_cons (pe_bltn (v := .ty "bool") (by rfl) T.z_bool (by decide +kernel) rfl) pa_nil)))) (pe_one (pe_cmpR op_eq (pv 0) (pv 1) (nomark _)))))))
  pss_nil)
  (pss_cons (ps_if (pt_val (pe_callB (isiK (K := K)) (by rfl) T.z_isinstance (by decide +kernel) (pa_cons (pv 1) (pa_cons (pe_bltn (v := .ty "str") (by rfl) T.z_str (by decide +kernel) rfl) pa_nil))))
  (pss_one (ps_ret (pe_and (pe_callB (isiK (K := K)) (by rfl) T.z_isinstance (by decide +kernel) (pa_cons (pv 0) (pa_cons (pe_bltn (v := .ty "str") (by rfl) T.z_str (by decide +kernel) rfl) pa_nil))) (pe_one (pe_cmpR op_eq (pv 0) (pv 1) (nomark _))))))
  pss_nil)
  (pss_one (ps_ret (pe_cmpR op_isN (pv 0) pe_non (nomark _))))))))), ?_⟩
      cases d with
      | v u =>
        unfold Rep at rx ry
        obtain ⟨e1, su⟩ := rx
        obtain ⟨e2, _⟩ := ry
        subst x
        subst y
        cases u with
        | non =>
          refine ⟨_, rfl, _, _, _, _, false, rfl, .ty _, (.base .non), kit_ty (by decide +kernel), _, rfl, iteF ?_⟩
          refine ⟨_, rfl, _, _, _, _, false, rfl, .ty _, (.base .non), kit_ty (by decide +kernel), _, rfl, iteF ?_⟩
          refine ⟨_, rfl, _, _, _, _, false, rfl, .ty _, (.base .non), kit_ty (by decide +kernel), _, rfl, iteF ?_⟩
          refine ⟨_, rfl, _, _, _, _, false, rfl, .ty _, (.base .non), kit_ty (by decide +kernel), _, rfl, iteF ?_⟩
          refine ⟨_, rfl, _, _, _, _, false, rfl, .ty _, (.base .non), kit_ty (by decide +kernel), _, rfl, iteF ?_⟩
          exact ⟨_, rfl, rfl, q⟩
        | bl b =>
          refine ⟨_, rfl, _, _, _, _, false, rfl, .ty _, (.base (.bl b)), kit_ty (by decide +kernel), _, rfl, iteF ?_⟩
          refine ⟨_, rfl, _, _, _, _, false, rfl, .ty _, (.base (.bl b)), kit_ty (by decide +kernel), _, rfl, iteF ?_⟩
          refine ⟨_, rfl, _, _, _, _, true, rfl, .ty _, (.base (.bl b)), kit_ty (by decide +kernel), _, rfl, iteT ?_⟩
          refine ⟨_, rfl, _, _, _, _, true, rfl, .ty _, (.base (.bl b)), kit_ty (by decide +kernel), _, rfl, iteT ?_⟩
          refine ⟨_, rfl, _, rfl, rfl, ?_⟩
          rw [decide_eq_true rfl]; exact q
        | int i =>
          refine ⟨_, rfl, _, _, _, _, false, rfl, .ty _, (.base (.int i)), kit_ty (by decide +kernel), _, rfl, iteF ?_⟩
          refine ⟨_, rfl, _, _, _, _, false, rfl, .ty _, (.base (.int i)), kit_ty (by decide +kernel), _, rfl, iteF ?_⟩
          refine ⟨_, rfl, _, _, _, _, false, rfl, .ty _, (.base (.int i)), kit_ty (by decide +kernel), _, rfl, iteF ?_⟩
          refine ⟨_, rfl, _, _, _, _, true, rfl, .ty _, (.base (.int i)), kit_ty (by decide +kernel), _, rfl, iteT ?_⟩
          refine ⟨_, rfl, _, _, _, _, true, rfl, .ty _, (.base (.int i)), kit_ty (by decide +kernel), _, rfl, iteT ?_⟩
          refine ⟨_, rfl, _, _, _, _, false, rfl, .ty _, (.base (.int i)), kit_ty (by decide +kernel), _, rfl, _, rfl, iteT ?_⟩
          refine ⟨_, rfl, _, rfl, rfl, ?_⟩
          rw [decide_eq_true rfl]; exact q
        | str z =>
          refine ⟨_, rfl, _, _, _, _, false, rfl, .ty _, (.base (.str z)), kit_ty (by decide +kernel), _, rfl, iteF ?_⟩
          refine ⟨_, rfl, _, _, _, _, false, rfl, .ty _, (.base (.str z)), kit_ty (by decide +kernel), _, rfl, iteF ?_⟩
          refine ⟨_, rfl, _, _, _, _, false, rfl, .ty _, (.base (.str z)), kit_ty (by decide +kernel), _, rfl, iteF ?_⟩
          refine ⟨_, rfl, _, _, _, _, false, rfl, .ty _, (.base (.str z)), kit_ty (by decide +kernel), _, rfl, iteF ?_⟩
          refine ⟨_, rfl, _, _, _, _, true, rfl, .ty _, (.base (.str z)), kit_ty (by decide +kernel), _, rfl, iteT ?_⟩
          refine ⟨_, rfl, _, _, _, _, true, rfl, .ty _, (.base (.str z)), kit_ty (by decide +kernel), _, rfl, iteT ?_⟩
          refine ⟨_, rfl, _, rfl, rfl, ?_⟩
          rw [decide_eq_true rfl]; exact q
        | _ => cases su
      | sq l ds =>
        unfold Rep at rx ry
        obtain ⟨a, xs, rfl, ha, rxs⟩ := rx
        obtain ⟨b, ys, rfl, hb, rys⟩ := ry
        have ll : (xs.length : Int) = ys.length := by rw [rxs.len, rys.len]
        cases n with
        | zero => unfold D.ok at ok; exact ok.elim
        | succ m =>
          unfold D.ok at ok
          have fin : sp [.ref a, .ref b] H Q E0 := hsp _ _ _ ⟨m, rfl, l, ds, a, b, xs, ys, rfl, ha, hb, rxs, rys, ok.1, ok.2, q⟩
          cases l with
          | true =>
            refine ⟨_, rfl, _, _, _, _, true, rfl, .ty _, ty_sq hb, kit_ty (by decide +kernel), _, rfl, iteT ?_⟩
            refine ⟨_, rfl, _, _, _, _, true, rfl, .ty _, ty_sq ha, kit_ty (by decide +kernel), _, rfl, iteF ?_⟩
            refine ⟨_, rfl, a, xs, rfl, ha.any, _, rfl, b, ys, rfl, hb.any, rfl, _, rfl, iteNS (by rw [ll]) ?_⟩
            exact ⟨_, rfl, _, rfl, fin⟩
          | false =>
            refine ⟨_, rfl, _, _, _, _, false, rfl, .ty _, ty_sq hb, kit_ty (by decide +kernel), _, rfl, iteF ?_⟩
            refine ⟨_, rfl, _, _, _, _, true, rfl, .ty _, ty_sq hb, kit_ty (by decide +kernel), _, rfl, iteT ?_⟩
            refine ⟨_, rfl, _, _, _, _, true, rfl, .ty _, ty_sq ha, kit_ty (by decide +kernel), _, rfl, iteF ?_⟩
            refine ⟨_, rfl, a, xs, rfl, ha.any, _, rfl, b, ys, rfl, hb.any, rfl, _, rfl, iteNS (by rw [ll]) ?_⟩
            exact ⟨_, rfl, _, rfl, fin⟩
end

end MD
namespace MD
open PySem PySem.Spec PyProof.Rows L2
local macro_rules | `(tactic| walk_at "ne") => `(tactic| first | assumption | (apply Ne.symm; assumption) | exact ne_of_none (by assumption) (by assumption) | exact (ne_of_none (by assumption) (by assumption)).symm)
local macro_rules | `(tactic| walk_at "hp") => `(tactic| first | assumption | exact upd_same | (refine (upd_ne ?_).trans ?_; (focus walk_at "ne"); walk_at "hp"))
local macro_rules | `(tactic| walk_at "nm") => `(tactic| first | exact nmem_nil | exact nmem_one (by walk_at "ne") | exact nmem_cons (by walk_at "ne") (by walk_at "nm"))
/-! ### one wire -/
section
variable {P : Program} {w : World} {K : PySem.W.Frag} {mg : Str → Option Value} {base : Heap}
def fW (a b c : V) : List (Str × V) := [("sent", a), ("outbox", b), ("expected", c)]
def obD (ob : List (Int × D)) : List D := ob.map fun q => D.sq false [.v (.int q.1), q.2]
/-- a wire stands at p, its outbox at l: sent s, expected e, the pairs ob -/
structure WireAt (C : Addr) (H : Hp) (p l : Addr) (s e : Int) (ob : List (Int × D)) : Prop where
  hp : ∃ dx, H p = some (.ins C dx (fW (.int s) (.ref l) (.int e)))
  hl : ∃ vs, H l = some (.lst vs) ∧ RepTs H (obD ob) vs
theorem WireAt.kp {M : List Addr} {C : Addr} {H H' : Hp} {p l : Addr} {s e : Int} {ob : List (Int × D)} (h : WireAt C H p l s e ob) (k : Kp M H H') (h1 : p ∉ M) (h2 : l ∉ M) : WireAt C H' p l s e ob := by
  obtain ⟨⟨dx, a⟩, vs, b, c⟩ := h
  exact ⟨⟨dx, k.at a h1⟩, vs, k.at b h2, c.kp k⟩
theorem WireAt.ne {C : Addr} {H : Hp} {p l : Addr} {s e : Int} {ob : List (Int × D)} (h : WireAt C H p l s e ob) : p ≠ l := by
  obtain ⟨⟨dx, a⟩, vs, b, c⟩ := h
  exact ne_of a b (by intro z; cases z)
def spWInit (C : Addr) : Sp := fun vs H Q _ => ∃ (p dx : Addr), vs = [.ref p] ∧ H p = some (.ins C dx []) ∧ ∀ (l : Addr) (H' : Hp), H l = none → Kp [p] H H' → WireAt C H' p l 0 0 [] → Q .non H'
theorem k_Wire (T : Txt K mg) : Mak P w K mg base 1 "Wire" T.C_Wire (spWInit T.C_Wire) := by
  refine mak_of T.mk_Wire sc_Wire___init__ (fun vs H Q E h => ?_) (fun f cdv A outer s H vs Q E hr h => ?_)
  · obtain ⟨p, dx, rfl, _⟩ := h; rfl
  · obtain ⟨p, dx, rfl, hp, q⟩ := h
    refine ⟨_, (pss_cons (ps_fld (pv 0) pe_int rfl)
  (pss_cons (ps_fld (pv 0) (pe_lst pa_nil) rfl)
  (pss_one (ps_fld (pv 0) pe_int rfl)))), ?_⟩
    refine ⟨_, rfl, p, _, dx, _, rfl, hp, T.cl_Wire, T.na_Wire_sent, (by show 0 < 1000; decide), ?_⟩
    refine ⟨Nat.zero_le _, fun l hl => ?_⟩
    have npl : p ≠ l := ne_of_none upd_same hl
    have hl0 : H l = none := by rw [upd_ne npl.symm] at hl; exact hl
    refine ⟨_, rfl, p, _, dx, _, rfl, (by walk_at "hp"), T.cl_Wire, T.na_Wire_outbox, (by show 1 < 1000; decide), ?_⟩
    refine ⟨_, rfl, p, _, dx, _, rfl, (by walk_at "hp"), T.cl_Wire, T.na_Wire_expected, (by show 2 < 1000; decide), ?_⟩
    refine q l _ hl0 ((((Kp.old hp trivial List.mem_cons_self).nw hl).wrI (upd_ne npl |>.trans upd_same) List.mem_cons_self).wrI upd_same List.mem_cons_self) ⟨⟨dx, upd_same⟩, [], by walk_at "hp", RepTs.nil⟩
def spSend (C : Addr) : Sp := fun vs H Q _ => ∃ (p l : Addr) (s e : Int) (ob : List (Int × D)) (d : D) (b : V), vs = [.ref p, b] ∧ WireAt C H p l s e ob ∧ RepT H d b ∧ ob.length < 100000 ∧
  ∀ H' : Hp, Kp [p, l] H H' → WireAt C H' p l (s + 1) e (ob ++ [(s, d)]) → Q (.int s) H'
theorem m_send (T : Txt K mg) : Met P w K mg base 1 T.C_Wire "send" (spSend T.C_Wire) := by
  refine met_of T.cl_Wire T.me_Wire_send sc_Wire_send (fun vs H Q E h => ?_) (fun f cdv A outer s H vs Q E hr h => ?_)
  · obtain ⟨p, l, s, e, ob, d, b, rfl, _⟩ := h; rfl
  · obtain ⟨p, l, s, e, ob, d, b, rfl, W, rd, hlen, q⟩ := h
    have npl := W.ne
    obtain ⟨⟨dx, hp⟩, vs, hl, ro⟩ := W
    refine ⟨_, (pss_cons (ps_set (i := 2) sc_Wire_send.nd rfl (Or.inl rfl) (fldK (K := K) (pv 0) rfl))
  (pss_cons (ps_expr (pe_bm PySem.F.plainAttrs_list PySem.F.slot_list_append PySem.F.type_list_append mt_append (fldK (K := K) (pv 0) rfl) (pa_cons (pe_tup (pa_cons (pv 2) (pa_cons (pv 1) pa_nil))) pa_nil)))
  (pss_cons (ps_fldaug (pv 0) pe_int in_add)
  (pss_one (ps_ret (pv 2)))))), ?_⟩
    refine ⟨_, rfl, p, _, dx, _, _, rfl, hp, T.cl_Wire, T.na_Wire_sent, rfl, ?_⟩
    refine ⟨_, rfl, p, _, dx, _, _, rfl, hp, T.cl_Wire, T.na_Wire_outbox, rfl, .inl ⟨rfl, _, SqL.of hl⟩, _, rfl, _, rfl, (by show 2 ≤ sizeLine; decide), fun t ht => ?_⟩
    have hlv : vs.length = ob.length := by rw [ro.len]; unfold obD; rw [List.length_map]
    refine ⟨l, vs, _, rfl, rfl, (by walk_at "hp"), (by rw [hlv]; exact sz (Nat.le_refl _) hlen), ?_⟩
    refine ⟨_, rfl, p, _, dx, _, _, rfl, (by walk_at "hp"), T.cl_Wire, T.na_Wire_sent, rfl, _, _, rfl, rfl, _, _, (by walk_at "hp"), (by show 3 < 1000; decide), ?_⟩
    refine ⟨_, rfl, ?_⟩
    have k1 : Kp [p, l] H (upd H t (.tup [.int s, b])) := Kp.new ht
    have k2 := k1.wr (o := .lst (vs ++ [.ref t])) (p := l) (upd_ne (ne_of_none hl ht) |>.trans hl) trivial (by simp)
    have k3 := k2.wr (o := .ins T.C_Wire dx (fW (.int (s + 1)) (.ref l) (.int e))) (p := p) (u := .ins T.C_Wire dx (fW (.int s) (.ref l) (.int e))) (by walk_at "hp") trivial (by simp)
    refine q _ k3 ⟨⟨dx, upd_same⟩, vs ++ [.ref t], by walk_at "hp", ?_⟩
    unfold obD
    rw [List.map_append]
    exact RepTs.snoc (RepT.tup (by walk_at "hp") (RepTs.cons RepT.int (RepTs.cons (rd.kp k3) RepTs.nil))) (ro.kp k3)
def spTake (C : Addr) : Sp := fun vs H Q _ => ∃ (p l : Addr) (s e : Int) (ob : List (Int × D)) (n : Int), vs = [.ref p, .int n] ∧ WireAt C H p l s e ob ∧
  ∀ H' : Hp, Kp [p] H H' → WireAt C H' p l s (if n = e then e + 1 else e) ob → Q (.bl (decide (n = e))) H'
theorem m_take (T : Txt K mg) : Met P w K mg base 1 T.C_Wire "take" (spTake T.C_Wire) := by
  refine met_of T.cl_Wire T.me_Wire_take sc_Wire_take (fun vs H Q E h => ?_) (fun f cdv A outer s H vs Q E hr h => ?_)
  · obtain ⟨p, l, s, e, ob, n, rfl, _⟩ := h; rfl
  · obtain ⟨p, l, s, e, ob, n, rfl, W, q⟩ := h
    have npl := W.ne
    obtain ⟨⟨dx, hp⟩, vs, hl, ro⟩ := id W
    refine ⟨_, (pss_cons (ps_if (pt_cmpR op_ne (pv 1) (fldK (K := K) (pv 0) rfl) (nomark _))
  (pss_one (ps_ret pe_bl))
  pss_nil)
  (pss_cons (ps_fldaug (pv 0) pe_int in_add)
  (pss_one (ps_ret pe_bl)))), ?_⟩
    refine ⟨_, rfl, _, rfl, p, _, dx, _, _, rfl, hp, T.cl_Wire, T.na_Wire_expected, rfl, rfl, _, rfl, ?_⟩
    by_cases hc : n = e
    · subst hc
      refine iteNS rfl ?_
      refine ⟨_, rfl, p, _, dx, _, _, rfl, hp, T.cl_Wire, T.na_Wire_expected, rfl, _, _, rfl, rfl, _, _, hp, (by show 3 < 1000; decide), ?_⟩
      have k3 : Kp [p] H (upd H p (.ins T.C_Wire dx (fW (.int s) (.ref l) (.int (n + 1))))) := Kp.old hp trivial (by simp)
      have := q _ k3 ⟨⟨dx, by rw [if_pos rfl]; exact upd_same⟩, vs, by walk_at "hp", ro.kp k3⟩
      rw [decide_eq_true rfl] at this
      exact this
    · have e1 : (!decide (V.int n = V.int e)) = true := by
        rw [decide_eq_false (fun z => hc (V.int.inj z))]; rfl
      rw [e1]
      refine iteT ?_
      have := q H Kp.refl (by rw [if_neg hc]; exact W)
      rw [decide_eq_false hc] at this
      exact this
def spAck (C : Addr) : Sp := fun vs H Q _ => ∃ (p l : Addr) (s e : Int) (ob : List (Int × D)) (n : Int), vs = [.ref p, .int n] ∧ WireAt C H p l s e ob ∧ ob.length < 100000 ∧
  ∀ (l' : Addr) (H' : Hp), H l' = none → Kp [p] H H' → WireAt C H' p l' s e (ob.filter fun q => decide (n < q.1)) → Q .non H'
/-- one turn of [pair for pair in xs if pair[0] > n]: what the list holds behind i items -/
theorem ob_turn {H : Hp} {ob : List (Int × D)} {vs : List V} (r : RepTs H (obD ob) vs) {i : Nat} {x : V} (hx : vs[i]? = some x) :
    ∃ q t c, ob[i]? = some q ∧ x = .ref t ∧ H t = some (.tup [.int q.1, c]) ∧ RepT H q.2 c := by
  obtain ⟨d, hd, rd⟩ := r.get hx
  unfold obD at hd
  rw [List.getElem?_map] at hd
  cases e : ob[i]? with
  | none => rw [e] at hd; cases hd
  | some q =>
    rw [e] at hd
    cases hd
    unfold RepT at rd
    obtain ⟨_, t, ws, rfl, ht, rs⟩ := rd
    unfold RepTs at rs
    obtain ⟨v1, r1, rfl, h1, h2⟩ := rs
    unfold RepTs at h2
    obtain ⟨v2, r2, rfl, h3, h4⟩ := h2
    unfold RepTs at h4
    subst h4
    unfold RepT at h1
    obtain ⟨rfl, _⟩ := h1
    exact ⟨q, t, v2, rfl, rfl, ht, h3⟩
theorem take_more {α : Type} {l : List α} {i : Nat} {x : α} (h : l[i]? = some x) : l.take (i + 1) = l.take i ++ [x] := by
  rw [List.take_add_one, h]; rfl
theorem obD_snoc (ob : List (Int × D)) (q : Int × D) : obD (ob ++ [q]) = obD ob ++ [D.sq false [.v (.int q.1), q.2]] := by unfold obD; rw [List.map_append]; rfl
theorem filt_more {n : Int} {ob : List (Int × D)} {i : Nat} {q : Int × D} (h : ob[i]? = some q) :
    (ob.take (i + 1)).filter (fun q => decide (n < q.1)) = if n < q.1 then (ob.take i).filter (fun q => decide (n < q.1)) ++ [q] else (ob.take i).filter (fun q => decide (n < q.1)) := by
  rw [take_more h, List.filter_append]
  by_cases hc : n < q.1
  · rw [if_pos hc, List.filter_cons, if_pos (by simpa using hc)]; rfl
  · rw [if_neg hc, List.filter_cons, if_neg (by simpa using hc)]; simp
theorem m_ack (T : Txt K mg) : Met P w K mg base 1 T.C_Wire "acknowledged" (spAck T.C_Wire) := by
  refine met_of T.cl_Wire T.me_Wire_acknowledged sc_Wire_acknowledged (fun vs H Q E h => ?_) (fun f cdv A outer s H vs Q E hr h => ?_)
  · obtain ⟨p, l, s, e, ob, n, rfl, _⟩ := h; rfl
  · obtain ⟨p, l, s, e, ob, n, rfl, W, hlen, q⟩ := h
    have npl := W.ne
    obtain ⟨⟨dx, hp⟩, vs, hl, ro⟩ := id W
    have hlv : vs.length = ob.length := by rw [ro.len]; unfold obD; rw [List.length_map]
    refine ⟨_, (pss_one (ps_fld (pv 0) (pe_lc rfl sc_Wire_acknowledged.nd (pi_list (fldK (K := K) (pv 0) rfl)) (blkOk_by (own := [("pair", 2)]) (N := ["self", "number", "pair"]) (sc := defScope s_Wire_acknowledged) (by decide +kernel)) (fun _ _ _ _ _ => (pg_name (i := 2) sc_Wire_acknowledged.nd rfl (Or.inl rfl))) (fun _ _ _ _ _ => (pts_one (pt_cmpR op_gt (pe_ix (ixT (K := K)) (pv 2) pe_int (fun _ _ => rfl)) (pv 1) (nomark _)))) (fun _ _ _ _ _ => (pv 2))) rfl)), ?_⟩
    refine ⟨_, rfl, p, _, dx, _, _, rfl, hp, T.cl_Wire, T.na_Wire_outbox, rfl, l, rfl, ⟨_, SqL.of hl⟩, fun D0 hD => ?_⟩
    refine lc_list (K := K) (a := l) (xs := vs) (fun i H2 => ∃ ys, Kp [] H H2 ∧ H2 D0 = some (.lst ys) ∧ RepTs H2 (obD ((ob.take i).filter fun q => decide (n < q.1))) ys ∧ ys.length ≤ i)
      ⟨[], Kp.new hD, upd_same, RepTs.nil, Nat.le_refl _⟩ (fun i H2 _ ⟨_, k, _⟩ => k.seq (SqL.of hl) nmem_nil) ?_ ?_
    · rintro i x H2 hx ⟨ys, k2, hD2, ry, hly⟩
      obtain ⟨o, t, c, ho, rfl, ht, rc⟩ := ob_turn ro hx
      have hi : i < 100000 := by have := (List.getElem?_eq_some_iff.mp ho).1; omega
      refine ⟨rfl, _, rfl, t, _, _, _, rfl, rfl, k2.sqt ht, rfl, _, rfl, _, _, rfl, rfl, _, rfl, ?_⟩
      refine ite2 (fun hc => ?_) (fun hc => ?_)
      · have hc := of_decide_eq_true hc
        refine ⟨_, rfl, ys, hD2, sz hly hi, ys ++ [.ref t], k2.own hD, upd_same, ?_, by rw [List.length_append, List.length_singleton]; omega⟩
        rw [filt_more ho, if_pos hc, obD_snoc]
        have k3 : Kp [D0] H2 (upd H2 D0 (.lst (ys ++ [.ref t]))) := Kp.old hD2 trivial (by simp)
        exact RepTs.snoc (RepT.tup (k3.tup _ _ (k2.tup _ _ ht)) (RepTs.cons RepT.int (RepTs.cons ((rc.kp k2).kp k3) RepTs.nil))) (ry.kp k3)
      · have hc : ¬ n < o.1 := fun z => hc (decide_eq_true z)
        exact ⟨ys, k2, hD2, by rw [filt_more ho, if_neg hc]; exact ry, by omega⟩
    · rintro H2 ⟨ys, k2, hD2, ry, hly⟩
      have npD : p ≠ D0 := ne_of_none hp hD
      refine ⟨_, rfl, p, _, dx, _, rfl, k2.at hp nmem_nil, T.cl_Wire, T.na_Wire_outbox, (by show 3 < 1000; decide), ?_⟩
      have k3 := (k2.mono (M' := [p]) (fun _ z => nomatch z)).wr (o := .ins T.C_Wire dx (fW (.int s) (.ref D0) (.int e))) (p := p) (k2.at hp nmem_nil) trivial (by simp)
      have k4 : Kp [p] H2 (upd H2 p (.ins T.C_Wire dx (fW (.int s) (.ref D0) (.int e)))) := Kp.old (k2.at hp nmem_nil) trivial (by simp)
      refine q D0 _ hD k3 ⟨⟨dx, upd_same⟩, ys, by walk_at "hp", ?_⟩
      rw [hlv, List.take_length] at ry
      exact ry.kp k4
end

end MD
namespace MD
open PySem PySem.Spec PyProof.Rows L2
local macro_rules | `(tactic| walk_at "ne") => `(tactic| first | assumption | (apply Ne.symm; assumption) | exact ne_of_none (by assumption) (by assumption) | exact (ne_of_none (by assumption) (by assumption)).symm)
local macro_rules | `(tactic| walk_at "hp") => `(tactic| first | assumption | exact upd_same | (refine (upd_ne ?_).trans ?_; (focus walk_at "ne"); walk_at "hp"))
local macro_rules | `(tactic| walk_at "nm") => `(tactic| first | exact nmem_nil | exact nmem_one (by walk_at "ne") | exact nmem_cons (by walk_at "ne") (by walk_at "nm"))
/-! ### two wires and a net: the law's own steps -/
section
variable {P : Program} {w : World} {K : PySem.W.Frag} {mg : Str → Option Value} {base : Heap}
structure St8 (C : Addr) (A : Nat → Addr) (ms : List Int) (H : Hp) (S : Bool → List D) (e kn : Bool → Nat) (net : List Lt) : Prop where
  inj : ∀ i j, i < 15 → j < 15 → A i = A j → i = j
  dr : ∃ k, DrawsAt H (A 0) (A 1) ms k
  wl : H (A 2) = some (.lst [.ref (A 3), .ref (A 4)])
  wr : ∀ b, WireAt C H (A (3 + be b)) (A (5 + be b)) (S b).length (e b) (obS (S b) (kn b))
  nt : ∃ vs, H (A 7) = some (.lst vs) ∧ RepTs H (net.map (ltD S)) vs
  sl : H (A 8) = some (.lst [.ref (A 9), .ref (A 10)])
  sn : ∀ b, ∃ vs, H (A (9 + be b)) = some (.lst vs) ∧ RepTs H (S b) vs
  hl : H (A 11) = some (.lst [.ref (A 12), .ref (A 13)])
  hn : ∀ b, ∃ vs, H (A (12 + be b)) = some (.lst vs) ∧ RepTs H ((S (!b)).take (e b)) vs
  kl : H (A 14) = some (.lst [.int (kn false), .int (kn true)])
  nm : Nm S e kn net
  sz : ∀ b, (S b).length ≤ 61
  ok : ∀ b, ∀ x ∈ S b, x.ok 1
theorem nmA {A : Nat → Addr} (inj : ∀ i j, i < 15 → j < 15 → A i = A j → i = j) {i : Nat} (hi : i < 15) {js : List Nat} (h : ∀ j ∈ js, j < 15 ∧ j ≠ i) : A i ∉ js.map A := fun z => by
  obtain ⟨j, hj, e⟩ := List.mem_map.mp z
  exact (h j hj).2 (inj j i (h j hj).1 hi e)
theorem at3 {A : Nat → Addr} (b : Bool) (k : Nat) : atI [V.ref (A k), V.ref (A (k + 1))] (sd b) = some (.ref (A (k + be b))) := by cases b <;> rfl
theorem sd_not (b : Bool) : 1 - sd b = sd (!b) := by cases b <;> rfl
/-- all but the net stays -/
theorem St8.net {C : Addr} {A : Nat → Addr} {ms : List Int} {H H' : Hp} {S : Bool → List D} {e kn : Bool → Nat} {net net' : List Lt} {M : List Addr} (h : St8 C A ms H S e kn net) (k : Kp M H H') (hM : ∀ i, i < 15 → i ≠ 7 → A i ∉ M)
    (nt : ∃ vs, H' (A 7) = some (.lst vs) ∧ RepTs H' (net'.map (ltD S)) vs) (nm : Nm S e kn net') : St8 C A ms H' S e kn net' := by
  refine ⟨h.inj, h.dr.elim fun q hq => ⟨q, hq.kp k (hM _ (by omega) (by omega)) (hM _ (by omega) (by omega))⟩, k.at h.wl (hM _ (by omega) (by omega)), fun b => ?_, nt, k.at h.sl (hM _ (by omega) (by omega)), fun b => ?_, k.at h.hl (hM _ (by omega) (by omega)), fun b => ?_, k.at h.kl (hM _ (by omega) (by omega)), nm, h.sz, h.ok⟩
  · have := be_lt b
    exact (h.wr b).kp k (hM _ (by omega) (by omega)) (hM _ (by omega) (by omega))
  · have := be_lt b
    obtain ⟨vs, h1, h2⟩ := h.sn b
    exact ⟨vs, k.at h1 (hM _ (by omega) (by omega)), h2.kp k⟩
  · have := be_lt b
    obtain ⟨vs, h1, h2⟩ := h.hn b
    exact ⟨vs, k.at h1 (hM _ (by omega) (by omega)), h2.kp k⟩
theorem St8.kp0 {C : Addr} {A : Nat → Addr} {ms : List Int} {H H' : Hp} {S : Bool → List D} {e kn : Bool → Nat} {net : List Lt} (h : St8 C A ms H S e kn net) (k : Kp [] H H') : St8 C A ms H' S e kn net :=
  h.net k (fun _ _ _ => nmem_nil) (h.nt.elim fun vs q => ⟨vs, k.at q.1 nmem_nil, q.2.kp k⟩) h.nm
theorem St8.draw {C : Addr} {A : Nat → Addr} {ms : List Int} {H H' : Hp} {S : Bool → List D} {e kn : Bool → Nat} {net : List Lt} (h : St8 C A ms H S e kn net) (k : Kp [A 0] H H') {k' : Int} (q : DrawsAt H' (A 0) (A 1) ms k') : St8 C A ms H' S e kn net := by
  have hM : ∀ i, i < 15 → i ≠ 0 → A i ∉ [A 0] := fun i hi hn => nmA h.inj hi (js := [0]) fun j hj => by
    have := List.mem_singleton.mp hj
    omega
  refine ⟨h.inj, ⟨k', q⟩, k.at h.wl (hM _ (by omega) (by omega)), fun b => ?_, h.nt.elim fun vs q => ⟨vs, k.at q.1 (hM _ (by omega) (by omega)), q.2.kp k⟩, k.at h.sl (hM _ (by omega) (by omega)), fun b => ?_, k.at h.hl (hM _ (by omega) (by omega)), fun b => ?_, k.at h.kl (hM _ (by omega) (by omega)), h.nm, h.sz, h.ok⟩
  · have := be_lt b
    exact (h.wr b).kp k (hM _ (by omega) (by omega)) (hM _ (by omega) (by omega))
  · have := be_lt b
    obtain ⟨vs, h1, h2⟩ := h.sn b
    exact ⟨vs, k.at h1 (hM _ (by omega) (by omega)), h2.kp k⟩
  · have := be_lt b
    obtain ⟨vs, h1, h2⟩ := h.hn b
    exact ⟨vs, k.at h1 (hM _ (by omega) (by omega)), h2.kp k⟩
def spTicked (C : Addr) : Sp := fun vs H Q _ => ∃ (A : Nat → Addr) (ms : List Int) (S : Bool → List D) (e kn : Bool → Nat) (net : List Lt) (b : Bool), vs = [.ref (A 7), .ref (A 2), .int (sd b)] ∧ St8 C A ms H S e kn net ∧ net.length ≤ 20000 ∧
  ∀ H' : Hp, Kp [A 7] H H' → St8 C A ms H' S e kn (net ++ ticks S kn b) → Q .non H'
theorem c_law_ticked (T : Txt K mg) : Cal P w K mg base 1 "_law_ticked" (spTicked T.C_Wire) := by
  refine cal_of T.d_law_ticked sc_law_ticked (fun vs H Q E h => ?_) (fun f cdv Ar outer s H vs Q E hr h => ?_)
  · obtain ⟨A, ms, S, e, kn, net, b, rfl, _⟩ := h; rfl
  · obtain ⟨A, ms, S, e, kn, net, b, rfl, I, hln, q⟩ := h
    have hb := be_lt b
    refine ⟨_, (pss_one (ps_for PassesOwn.never rfl (pilK (K := K) (fldK (K := K) (pe_ix (ixL (K := K)) (pv 1) (pv 2) (fun _ _ => rfl)) rfl)) (pg_name (i := 3) sc_law_ticked.nd rfl (Or.inl rfl))
  (pss_one (ps_expr (pe_bm PySem.F.plainAttrs_list PySem.F.slot_list_append PySem.F.type_list_append mk_append (pv 0) (pa_cons (ke_tup (pa_cons (pe_op op_sub pe_int (pv 2)) (pa_cons pe_str (pa_cons (pe_ix (ixT (K := K)) (pv 3) pe_int (fun _ _ => rfl)) (pa_cons (pe_ix (ixT (K := K)) (pv 3) pe_int (fun _ _ => rfl)) pa_nil))))) pa_nil)))))), ?_⟩
    obtain ⟨⟨dx, hp⟩, vs, hl, ro⟩ := I.wr b
    obtain ⟨nv, hnt, rn⟩ := I.nt
    have hM : ∀ i, i < 15 → i ≠ 7 → A i ∉ [A 7] := fun i hi hn => nmA I.inj hi (js := [7]) fun j hj => by
      have := List.mem_singleton.mp hj
      omega
    have hsz := I.sz b
    have hvl : vs.length = (S b).length - kn b := by
      rw [ro.len]; unfold obD obS; rw [List.length_map, obM_len]
    refine ⟨_, rfl, _, rfl, A 2, _, _, _, rfl, rfl, SqL.of I.wl, at3 b 3, _, _, dx, _, _, rfl, hp, T.cl_Wire, T.na_Wire_outbox, rfl, _, rfl, ⟨vs, SqL.of hl⟩, for_list (K := K) (a := A (5 + be b)) (xs := vs) (fun i σ H' => ∃ (pr : Option V) (nv : List V), σ = [some (.ref (A 7)), some (.ref (A 2)), some (.int (sd b)), pr] ∧ Kp [A 7] H H' ∧ H' (A 7) = some (.lst nv) ∧ RepTs H' ((net ++ (ticks S kn b).take i).map (ltD S)) nv)
      ⟨none, nv, rfl, Kp.refl, hnt, by rw [List.take_zero, List.append_nil]; exact rn⟩ (fun i σ H' _ ⟨_, _, _, k, _⟩ => k.seq (SqL.of hl) (hM _ (by omega) (by omega))) ?_ ?_⟩
    · rintro i x σ H2 hx ⟨pr, nv, rfl, k2, hn2, rn2⟩
      obtain ⟨o, t, c, ho, rfl, ht, rc⟩ := ob_turn ro hx
      have hil : i < (S b).length - kn b := by rw [← hvl]; exact (List.getElem?_eq_some_iff.mp hx).1
      have hti := ticks_at (S := S) (kn := kn) (b := b) hil
      rw [obS_at hil] at ho
      cases ho
      have ht2 := k2.tup _ _ ht
      refine ⟨_, rfl, .inl ⟨rfl, _, SqL.of hn2⟩, _, rfl, _, _, rfl, rfl, _, rfl, t, _, _, _, rfl, rfl, SqT.of ht2, rfl, _, rfl, t, _, _, _, rfl, rfl, SqT.of ht2, rfl, (by show 4 ≤ sizeLine; decide), fun y H3 hy k3 hy3 => ?_⟩
      refine ⟨A 7, nv, _, rfl, rfl, k3.at hn2 nmem_nil, ?_, fun H4 k4 h4 => ?_⟩
      · rw [rn2.lenM, List.length_append, List.length_take]
        exact sz (show net.length + min i (ticks S kn b).length ≤ 20100 by rw [ticks_len]; omega)
      · refine ⟨_, nv ++ [.ref y], rfl, (k2.th0 k3).trans k4, h4, ?_⟩
        rw [List.take_add_one, hti, ← List.append_assoc, List.map_append]
        refine RepTs.snoc ?_ ((rn2.kp k3).kp k4)
        show RepT H4 (.sq false [.v (.int (sd (!b))), .v (.str "data"), .v (.int ((kn b + i : Nat) : Int)), (S (!!b)).getD (kn b + i) dfl]) (.ref y)
        rw [← sd_not, Bool.not_not]
        exact RepT.tup (k4.tup _ _ hy3) (RepTs.cons RepT.int (RepTs.cons RepT.str (RepTs.cons RepT.int (RepTs.cons (((rc.kp k2).kp k3).kp k4) RepTs.nil))))
    · rintro σ H2 ⟨pr, nv, rfl, k2, hn2, rn2⟩
      rw [hvl, ← ticks_len, List.take_length] at rn2
      exact q H2 k2 (I.net k2 hM ⟨nv, hn2, rn2⟩ (I.nm.tick b))
/-- what a delivery may change -/
def mod8 (A : Nat → Addr) : List Addr := [3, 4, 5, 6, 7, 12, 13, 14].map A
def spDelivered (C : Addr) : Sp := fun vs H Q _ => ∃ (A : Nat → Addr) (ms : List Int) (S : Bool → List D) (e kn : Bool → Nat) (net : List Lt) (l : Lt) (x : V), vs = [.ref (A 7), .ref (A 2), .ref (A 11), x, .ref (A 14)] ∧ St8 C A ms H S e kn net ∧ net.length ≤ 20000 ∧
  l.ok S e ∧ RepT H (ltD S l) x ∧ ∀ (A' : Nat → Addr) (H' : Hp), Kp (mod8 A) H H' → (∀ i, i ≠ 5 → i ≠ 6 → A' i = A i) → (∀ i, A' i = A i ∨ H (A' i) = none) → St8 C A' ms H' S (dE e l) (dK kn l) (dN e net l) → Q .non H'
theorem set2 {x y z : V} (b : Bool) : [x, y].set (be b) z = [if b = false then z else x, if b = true then z else y] := by cases b <;> rfl
theorem c_law_delivered (T : Txt K mg) : Cal P w K mg base 2 "_law_delivered" (spDelivered T.C_Wire) := by
  have m_take := m_take (P := P) (w := w) (base := base) T
  have m_acknowledged := m_ack (P := P) (w := w) (base := base) T
  refine cal_of T.d_law_delivered sc_law_delivered (fun vs H Q E h => ?_) (fun f cdv Ar outer s H vs Q E hr h => ?_)
  · obtain ⟨A, ms, S, e, kn, net, l, x, rfl, _⟩ := h; rfl
  · obtain ⟨A, ms, S, e, kn, net, l, x, rfl, I, hln, lok, rl, q⟩ := h
    refine ⟨_, (pss_cons (ps_set (i := 5) sc_law_delivered.nd rfl (Or.inl rfl) (pe_ix (ixT (K := K)) (pv 3) pe_int (fun _ _ => rfl)))
  (pss_cons (ps_if (pt_cmpR op_eq (pe_ix (ixT (K := K)) (pv 3) pe_int (fun _ _ => rfl)) pe_str (nomark _))
  (pss_cons (ps_expr (pe_mt m_acknowledged (hr.mono (by first | decide | omega)) (pe_ix (ixL (K := K)) (pv 1) (pv 5) (fun _ _ => rfl)) (pa_cons (pe_ix (ixT (K := K)) (pv 3) pe_int (fun _ _ => rfl)) pa_nil)))
  (pss_cons (ps_asg (pe_callB (call_max2 rfl) (by rfl) T.z_max (by decide +kernel) (pa_cons (pe_ix (ixL (K := K)) (pv 4) (pv 5) (fun _ _ => rfl)) (pa_cons (pe_op op_add (pe_ix (ixT (K := K)) (pv 3) pe_int (fun _ _ => rfl)) pe_int) pa_nil))) (pg_sub (pv 4) (pv 5) kset_list))
  (pss_one ps_retN)))
  pss_nil)
  (pss_cons (ps_set (i := 6) sc_law_delivered.nd rfl (Or.inl rfl) (pe_ix (ixL (K := K)) (pv 1) (pv 5) (fun _ _ => rfl)))
  (pss_cons (ps_set (i := 7) sc_law_delivered.nd rfl (Or.inl rfl) (fldK (K := K) (pv 6) rfl))
  (C8.pss_cut (ps_if (pt_val (pe_mt m_take (hr.mono (by first | decide | omega)) (pv 6) (pa_cons (pe_ix (ixT (K := K)) (pv 3) pe_int (fun _ _ => rfl)) pa_nil)))
  (pss_one (ps_expr (pe_bm PySem.F.plainAttrs_list PySem.F.slot_list_append PySem.F.type_list_append mk_append (pe_ix (ixL (K := K)) (pv 2) (pv 5) (fun _ _ => rfl)) (pa_cons (pe_ix (ixT (K := K)) (pv 3) pe_int (fun _ _ => rfl)) pa_nil))))
  pss_nil)
  (pss_one (ps_if (pt_cmpR op_le (pe_ix (ixT (K := K)) (pv 3) pe_int (fun _ _ => rfl)) (pv 7) (nomark _))
  (pss_one (ps_expr (pe_bm PySem.F.plainAttrs_list PySem.F.slot_list_append PySem.F.type_list_append mk_append (pv 0) (pa_cons (ke_tup (pa_cons (pe_op op_sub pe_int (pv 5)) (pa_cons pe_str (pa_cons (pe_op op_sub (fldK (K := K) (pv 6) rfl) pe_int) (pa_cons pe_non pa_nil))))) pa_nil))))
  pss_nil))))))), ?_⟩
    cases l with
    | ack b n =>
      have hb := be_lt b
      have hsz := I.sz b
      obtain ⟨t, ws, rfl, ht, rw⟩ := RepT.tupE (show RepT H (.sq false [.v (.int (sd b)), .v (.str "ack"), .v (.int n), .v .non]) x from rl)
      obtain ⟨v1, r1, rfl, g1, rw⟩ := rw.consE
      obtain ⟨v2, r2, rfl, g2, rw⟩ := rw.consE
      obtain ⟨v3, r3, rfl, g3, rw⟩ := rw.consE
      obtain ⟨v4, r4, rfl, g4, rw⟩ := rw.consE
      have := rw.nilE; subst this
      have := g1.vE; subst this
      have := g2.vE; subst this
      have := g3.vE; subst this
      have := g4.vE; subst this
      refine ⟨_, rfl, t, _, _, _, rfl, rfl, SqT.of ht, rfl, ?_⟩
      refine ⟨_, rfl, t, _, _, _, rfl, rfl, SqT.of ht, rfl, rfl, _, rfl, ?_⟩
      rw [decide_eq_true rfl]
      refine iteT ?_
      have Wb := I.wr b
      obtain ⟨⟨dx, hp⟩, _⟩ := id Wb
      have hob : (obS (S b) (kn b)).length < 100000 := by unfold obS; rw [obM_len]; omega
      refine ⟨_, rfl, _, rfl, A 2, _, _, _, rfl, rfl, SqL.of I.wl, at3 b 3, _, dx, _, rfl, hp, rfl, _, rfl, t, _, _, _, rfl, rfl, SqT.of ht, rfl, _, _, _, _, _, n, rfl, Wb, hob, fun l' H1 hl' k1 W1 => ?_⟩
      have hn1 : (n : Int) = ((n : Nat) : Int) := rfl
      have lok' : n < e (!b) := lok
      have heb := I.nm.eb (!b)
      rw [Bool.not_not] at heb
      have hke := I.nm.ke b
      rw [obS_filter (by omega) (by omega)] at W1
      have hM1 : ∀ i, i < 15 → i ≠ 3 + be b → A i ∉ [A (3 + be b)] := fun i hi hn => nmA I.inj hi (js := [3 + be b]) fun j hj => by
        have := List.mem_singleton.mp hj
        omega
      have hk1 := k1.at I.kl (hM1 _ (by omega) (by omega))
      have ht1 := k1.tup _ _ ht
      have hmx : (if ((n : Int) + 1) > ((kn b : Nat) : Int) then ((n : Int) + 1) else ((kn b : Nat) : Int)) = ((max (kn b) (n + 1) : Nat) : Int) := by split <;> omega
      have hat : atI [V.int (kn false), V.int (kn true)] (sd b) = some (.int (kn b)) := by cases b <;> rfl
      have hix : ixN ([V.int (kn false), V.int (kn true)]).length (sd b) = some (be b) := by cases b <;> rfl
      refine ⟨_, rfl, _, rfl, A 14, _, _, _, rfl, rfl, SqL.of hk1, hat, _, rfl, t, _, _, _, rfl, rfl, SqT.of ht1, rfl, _, _, rfl, rfl, _, _, rfl, _, rfl, _, rfl, A 14, _, _, be b, rfl, rfl, hk1, hix, fun H2 k2 h2 => ?_⟩
      have hM2 : ∀ i, i < 15 → i ≠ 14 → A i ∉ [A 14] := fun i hi hn => nmA I.inj hi (js := [14]) fun j hj => by
        have := List.mem_singleton.mp hj
        omega
      have l14 : ∀ i, i < 15 → l' ≠ A i := fun i hi z => by
        have : ∃ o, H (A i) = some o := by
          have hd := I.dr
          obtain ⟨kd, D0⟩ := hd
          have w0 := I.wr false; have w1 := I.wr true
          obtain ⟨⟨_, a3⟩, _, a5, _⟩ := w0
          obtain ⟨⟨_, a4⟩, _, a6, _⟩ := w1
          obtain ⟨_, a7, _⟩ := I.nt
          obtain ⟨_, a9, _⟩ := I.sn false
          obtain ⟨_, a10, _⟩ := I.sn true
          obtain ⟨_, a12, _⟩ := I.hn false
          obtain ⟨_, a13, _⟩ := I.hn true
          match i, hi with
          | 0, _ => exact ⟨_, D0.hd⟩
          | 1, _ => exact ⟨_, D0.hn⟩
          | 2, _ => exact ⟨_, I.wl⟩
          | 3, _ => exact ⟨_, a3⟩
          | 4, _ => exact ⟨_, a4⟩
          | 5, _ => exact ⟨_, a5⟩
          | 6, _ => exact ⟨_, a6⟩
          | 7, _ => exact ⟨_, a7⟩
          | 8, _ => exact ⟨_, I.sl⟩
          | 9, _ => exact ⟨_, a9⟩
          | 10, _ => exact ⟨_, a10⟩
          | 11, _ => exact ⟨_, I.hl⟩
          | 12, _ => exact ⟨_, a12⟩
          | 13, _ => exact ⟨_, a13⟩
          | 14, _ => exact ⟨_, I.kl⟩
          | i + 15, h => omega
        obtain ⟨o, ho⟩ := this
        rw [z, ho] at hl'; cases hl'
      refine q (fun i => if i = 5 + be b then l' else A i) H2 ?_ ?_ ?_ ?_
      · refine (k1.mono fun a ha => ?_).then' k2 fun a ha => .inl ?_
        · rw [List.mem_singleton.mp ha]
          exact List.mem_map.mpr ⟨3 + be b, by cases b <;> simp [be], rfl⟩
        · rw [List.mem_singleton.mp ha]
          exact List.mem_map.mpr ⟨14, by simp, rfl⟩
      · intro i h5 h6
        show (if i = 5 + be b then l' else A i) = A i
        rw [if_neg (by omega)]
      · intro i
        show (if i = 5 + be b then l' else A i) = A i ∨ H (if i = 5 + be b then l' else A i) = none
        by_cases z : i = 5 + be b
        · rw [if_pos z]; exact .inr hl'
        · rw [if_neg z]; exact .inl rfl
      · have k12 : Kp [A (3 + be b), A 14] H H2 := (k1.mono (fun a ha => by rw [List.mem_singleton.mp ha]; simp)).then' k2 fun a ha => .inl (by rw [List.mem_singleton.mp ha]; simp)
        have hM : ∀ i, i < 15 → i ≠ 3 + be b → i ≠ 14 → A i ∉ [A (3 + be b), A 14] := fun i hi hn hn2 => nmA I.inj hi (js := [3 + be b, 14]) fun j hj => by
          simp only [List.mem_cons, List.not_mem_nil, or_false] at hj
          omega
        have nd : ∀ i, i < 15 → i ≠ 5 + be b → (if i = 5 + be b then l' else A i) = A i := fun i _ hn => if_neg hn
        have ndk : ∀ c : Bool, (if 3 + be c = 5 + be b then l' else A (3 + be c)) = A (3 + be c) := fun c => if_neg (by have := be_lt c; omega)
        refine ⟨fun i j hi hj hij => ?_, I.dr.elim fun kd D0 => ⟨kd, ?_⟩, ?_, fun c => ?_, ?_, ?_, fun c => ?_, ?_, fun c => ?_, ?_, I.nm.dlv lok, I.sz, I.ok⟩
        · have hij : (if i = 5 + be b then l' else A i) = (if j = 5 + be b then l' else A j) := hij
          by_cases z1 : i = 5 + be b
          · by_cases z2 : j = 5 + be b
            · omega
            · rw [if_pos z1, if_neg z2] at hij
              exact absurd hij (l14 j hj)
          · by_cases z2 : j = 5 + be b
            · rw [if_neg z1, if_pos z2] at hij
              exact absurd hij.symm (l14 i hi)
            · rw [if_neg z1, if_neg z2] at hij
              exact I.inj i j hi hj hij
        · rw [nd 0 (by omega) (by omega), nd 1 (by omega) (by omega)]
          exact D0.kp k12 (hM _ (by omega) (by omega) (by omega)) (hM _ (by omega) (by omega) (by omega))
        · rw [nd 2 (by omega) (by omega), nd 3 (by omega) (by omega), nd 4 (by omega) (by omega)]
          exact k12.at I.wl (hM _ (by omega) (by omega) (by omega))
        · have hc := be_lt c
          rw [ndk c]
          by_cases z : c = b
          · subst z
            have e5 : (if 5 + be c = 5 + be c then l' else A (5 + be c)) = l' := if_pos rfl
            rw [e5]
            have ek : dK kn (.ack c n) c = max (kn c) (n + 1) := up_same
            rw [ek]
            exact W1.kp k2 (hM2 _ (by omega) (by omega)) (nmem_one (l14 14 (by omega)))
          · have nbe : be c ≠ be b := by cases c <;> cases b <;> simp_all [be]
            have e5 : (if 5 + be c = 5 + be b then l' else A (5 + be c)) = A (5 + be c) := if_neg (by omega)
            rw [e5]
            have ek : dK kn (.ack b n) c = kn c := up_ne z
            rw [ek]
            exact (I.wr c).kp k12 (hM _ (by omega) (by omega) (by omega)) (hM _ (by omega) (by omega) (by omega))
        · obtain ⟨vs, h1, h2⟩ := I.nt
          rw [nd 7 (by omega) (by omega)]
          exact ⟨vs, k12.at h1 (hM _ (by omega) (by omega) (by omega)), h2.kp k12⟩
        · rw [nd 8 (by omega) (by omega), nd 9 (by omega) (by omega), nd 10 (by omega) (by omega)]
          exact k12.at I.sl (hM _ (by omega) (by omega) (by omega))
        · have hc := be_lt c
          obtain ⟨vs, h1, h2⟩ := I.sn c
          rw [nd (9 + be c) (by omega) (by omega)]
          exact ⟨vs, k12.at h1 (hM _ (by omega) (by omega) (by omega)), h2.kp k12⟩
        · rw [nd 11 (by omega) (by omega), nd 12 (by omega) (by omega), nd 13 (by omega) (by omega)]
          exact k12.at I.hl (hM _ (by omega) (by omega) (by omega))
        · have hc := be_lt c
          obtain ⟨vs, h1, h2⟩ := I.hn c
          rw [nd (12 + be c) (by omega) (by omega)]
          exact ⟨vs, k12.at h1 (hM _ (by omega) (by omega) (by omega)), h2.kp k12⟩
        · rw [nd 14 (by omega) (by omega), h2, hmx, set2]
          cases b <;> rfl
    | data b n =>
      have hb := be_lt b
      have hsz := I.sz b
      obtain ⟨t, ws, rfl, ht, rw⟩ := RepT.tupE (show RepT H (.sq false [.v (.int (sd b)), .v (.str "data"), .v (.int n), (S (!b)).getD n dfl]) x from rl)
      obtain ⟨v1, r1, rfl, g1, rw⟩ := rw.consE
      obtain ⟨v2, r2, rfl, g2, rw⟩ := rw.consE
      obtain ⟨v3, r3, rfl, g3, rw⟩ := rw.consE
      obtain ⟨v4, r4, rfl, g4, rw⟩ := rw.consE
      have := rw.nilE; subst this
      have := g1.vE; subst this
      have := g2.vE; subst this
      have := g3.vE; subst this
      refine ⟨_, rfl, t, _, _, _, rfl, rfl, SqT.of ht, rfl, ?_⟩
      refine ⟨_, rfl, t, _, _, _, rfl, rfl, SqT.of ht, rfl, rfl, _, rfl, ?_⟩
      have ed : decide (V.str "data" = V.str "ack") = false := by decide +kernel
      rw [ed]
      refine iteF ?_
      have Wb := I.wr b
      obtain ⟨⟨dx, hp⟩, _⟩ := id Wb
      refine ⟨_, rfl, _, rfl, A 2, _, _, _, rfl, rfl, SqL.of I.wl, at3 b 3, ?_⟩
      refine ⟨_, rfl, _, _, dx, _, _, rfl, hp, T.cl_Wire, T.na_Wire_expected, rfl, ?_⟩
      have lok' : n < (S (!b)).length := lok
      have hsn := I.sz (!b)
      refine ⟨fun σ H' => σ = [some (.ref (A 7)), some (.ref (A 2)), some (.ref (A 11)), some (.ref t), some (.ref (A 14)), some (.int (sd b)), some (.ref (A (3 + be b))), some (.int (e b))] ∧ Kp [A (3 + be b), A (12 + be b)] H H' ∧ St8 T.C_Wire A ms H' S (dE e (.data b n)) kn net, ?_, ?_⟩
      · refine ⟨_, rfl, _, dx, _, rfl, hp, rfl, _, rfl, t, _, _, _, rfl, rfl, SqT.of ht, rfl, _, _, _, _, _, n, rfl, Wb, fun H1 k1 W1 => ⟨_, rfl, ?_⟩⟩
        have nmE : Nm S (dE e (.data b n)) kn net := ⟨(I.nm.dlv lok).eb, (I.nm.dlv lok).ke, fun l hl => Lt.ok_e (I.nm.lt l hl) (dE_mono e _)⟩
        have ie : ((n : Int) = (e b : Int)) ↔ n = e b := by omega
        have hM1 : ∀ i, i < 15 → i ≠ 3 + be b → A i ∉ [A (3 + be b)] := fun i hi hn => nmA I.inj hi (js := [3 + be b]) fun j hj => by
          have := List.mem_singleton.mp hj
          omega
        by_cases hc : n = e b
        · rw [decide_eq_true (ie.mpr hc)]
          refine iteT ?_
          rw [if_pos (ie.mpr hc)] at W1
          obtain ⟨ys, hy, ry⟩ := I.hn b
          have hy1 := k1.at hy (hM1 _ (by omega) (by omega))
          have hl1 := k1.at I.hl (hM1 _ (by omega) (by omega))
          refine ⟨_, rfl, _, rfl, A 11, _, _, _, rfl, rfl, SqL.of hl1, at3 b 12, .inl ⟨rfl, _, SqL.of hy1⟩, _, rfl, t, _, _, _, rfl, rfl, SqT.of (k1.tup _ _ ht), rfl, _, ys, _, rfl, rfl, hy1, ?_, fun H2 k2 h2 => ?_⟩
          · rw [ry.len, List.length_take]
            exact sz (show min (e b) (S (!b)).length ≤ 61 by omega)
          · have k12 : Kp [A (3 + be b), A (12 + be b)] H H2 := (k1.mono (fun a ha => by rw [List.mem_singleton.mp ha]; simp)).then' k2 fun a ha => .inl (by rw [List.mem_singleton.mp ha]; simp)
            have hM : ∀ i, i < 15 → i ≠ 3 + be b → i ≠ 12 + be b → A i ∉ [A (3 + be b), A (12 + be b)] := fun i hi hn hn2 => nmA I.inj hi (js := [3 + be b, 12 + be b]) fun j hj => by
              simp only [List.mem_cons, List.not_mem_nil, or_false] at hj
              omega
            have hM2 : ∀ i, i < 15 → i ≠ 12 + be b → A i ∉ [A (12 + be b)] := fun i hi hn => nmA I.inj hi (js := [12 + be b]) fun j hj => by
              have := List.mem_singleton.mp hj
              omega
            have eE : dE e (.data b n) = up e b (e b + 1) := if_pos hc
            refine ⟨rfl, k12, ⟨I.inj, I.dr.elim fun kd D0 => ⟨kd, D0.kp k12 (hM _ (by omega) (by omega) (by omega)) (hM _ (by omega) (by omega) (by omega))⟩, k12.at I.wl (hM _ (by omega) (by omega) (by omega)), fun c => ?_, I.nt.elim fun vs z => ⟨vs, k12.at z.1 (hM _ (by omega) (by omega) (by omega)), z.2.kp k12⟩, k12.at I.sl (hM _ (by omega) (by omega) (by omega)), fun c => ?_, k12.at I.hl (hM _ (by omega) (by omega) (by omega)), fun c => ?_, k12.at I.kl (hM _ (by omega) (by omega) (by omega)), nmE, I.sz, I.ok⟩⟩
            · have hcb := be_lt c
              rw [eE]
              by_cases z : c = b
              · subst z
                rw [up_same]
                exact W1.kp k2 (hM2 _ (by omega) (by omega)) (hM2 _ (by omega) (by omega))
              · have nbe : be c ≠ be b := by cases c <;> cases b <;> simp_all [be]
                rw [up_ne z]
                exact (I.wr c).kp k12 (hM _ (by omega) (by omega) (by omega)) (hM _ (by omega) (by omega) (by omega))
            · have hcb := be_lt c
              obtain ⟨vs, h1, h2⟩ := I.sn c
              exact ⟨vs, k12.at h1 (hM _ (by omega) (by omega) (by omega)), h2.kp k12⟩
            · have hcb := be_lt c
              rw [eE]
              by_cases z : c = b
              · subst z
                rw [up_same]
                refine ⟨_, h2, ?_⟩
                have e1 : (S (!c))[e c]? = some ((S (!c)).getD n dfl) := by
                  rw [← hc, List.getD_eq_getElem?_getD]
                  simp [lok']
                rw [List.take_add_one, e1]
                exact RepTs.snoc ((g4.kp k1).kp k2) ((ry.kp k1).kp k2)
              · have nbe : be c ≠ be b := by cases c <;> cases b <;> simp_all [be]
                rw [up_ne z]
                obtain ⟨vs, h1, h2⟩ := I.hn c
                exact ⟨vs, k12.at h1 (hM _ (by omega) (by omega) (by omega)), h2.kp k12⟩
        · rw [decide_eq_false (fun z => hc (ie.mp z))]
          refine iteF ?_
          rw [if_neg (fun z => hc (ie.mp z))] at W1
          have eE : dE e (.data b n) = e := if_neg hc
          refine ⟨rfl, k1.mono (fun a ha => by rw [List.mem_singleton.mp ha]; simp), ?_⟩
          rw [eE] at nmE ⊢
          refine ⟨I.inj, I.dr.elim fun kd D0 => ⟨kd, D0.kp k1 (hM1 _ (by omega) (by omega)) (hM1 _ (by omega) (by omega))⟩, k1.at I.wl (hM1 _ (by omega) (by omega)), fun c => ?_, I.nt.elim fun vs z => ⟨vs, k1.at z.1 (hM1 _ (by omega) (by omega)), z.2.kp k1⟩, k1.at I.sl (hM1 _ (by omega) (by omega)), fun c => ?_, k1.at I.hl (hM1 _ (by omega) (by omega)), fun c => ?_, k1.at I.kl (hM1 _ (by omega) (by omega)), nmE, I.sz, I.ok⟩
          · have hcb := be_lt c
            by_cases z : c = b
            · subst z
              exact W1
            · have nbe : be c ≠ be b := by cases c <;> cases b <;> simp_all [be]
              exact (I.wr c).kp k1 (hM1 _ (by omega) (by omega)) (hM1 _ (by omega) (by omega))
          · have hcb := be_lt c
            obtain ⟨vs, h1, h2⟩ := I.sn c
            exact ⟨vs, k1.at h1 (hM1 _ (by omega) (by omega)), h2.kp k1⟩
          · have hcb := be_lt c
            obtain ⟨vs, h1, h2⟩ := I.hn c
            exact ⟨vs, k1.at h1 (hM1 _ (by omega) (by omega)), h2.kp k1⟩
      · rintro σ H2 ⟨rfl, k2, I2⟩
        have ht2 := k2.tup _ _ ht
        have kM : Kp (mod8 A) H H2 := k2.mono fun a ha => by
          simp only [List.mem_cons, List.not_mem_nil, or_false] at ha
          rcases ha with rfl | rfl
          · exact List.mem_map.mpr ⟨3 + be b, by cases b <;> simp [be], rfl⟩
          · exact List.mem_map.mpr ⟨12 + be b, by cases b <;> simp [be], rfl⟩
        refine ⟨_, rfl, t, _, _, _, rfl, rfl, SqT.of ht2, rfl, _, rfl, _, _, rfl, rfl, _, rfl, ?_⟩
        refine ite2 (fun hc => ?_) (fun hc => ?_)
        · have hc := of_decide_eq_true hc
          have hc' : n ≤ e b := by omega
          have e1 : 1 ≤ dE e (.data b n) b := by
            rw [dE_data]
            by_cases z : n = e b
            · rw [if_pos z, up_same]; omega
            · rw [if_neg z]; omega
          obtain ⟨nv, hnt, rn⟩ := I2.nt
          obtain ⟨⟨dy, hpy⟩, _⟩ := I2.wr b
          refine ⟨_, rfl, .inl ⟨rfl, _, SqL.of hnt⟩, _, rfl, _, _, rfl, rfl, _, rfl, _, _, dy, _, _, rfl, hpy, T.cl_Wire, T.na_Wire_expected, rfl, _, _, rfl, rfl, (by show 4 ≤ sizeLine; decide), fun y H3 hy k3 hy3 => ?_⟩
          refine ⟨A 7, nv, _, rfl, rfl, k3.at hnt nmem_nil, ?_, fun H4 k4 h4 => ?_⟩
          · rw [rn.lenM]
            exact sz hln
          · have hM7 : ∀ i, i < 15 → i ≠ 7 → A i ∉ [A 7] := fun i hi hn => nmA I.inj hi (js := [7]) fun j hj => by
              have := List.mem_singleton.mp hj
              omega
            have eN : dN e net (.data b n) = net ++ [.ack (!b) (dE e (.data b n) b - 1)] := if_pos hc'
            have nmF := I.nm.dlv lok
            rw [eN] at nmF
            refine q A H4 ((kM.th0 k3).then' k4 fun a ha => .inl ?_) (fun _ _ _ => rfl) (fun _ => .inl rfl) ?_
            · rw [List.mem_singleton.mp ha]
              exact List.mem_map.mpr ⟨7, by simp, rfl⟩
            · rw [eN]
              refine (I2.kp0 k3).net k4 hM7 ⟨_, h4, ?_⟩ nmF
              rw [List.map_append]
              refine RepTs.snoc ?_ ((rn.kp k3).kp k4)
              show RepT H4 (.sq false [.v (.int (sd (!b))), .v (.str "ack"), .v (.int ((dE e (.data b n) b - 1 : Nat) : Int)), .v .non]) (.ref y)
              have e2 : ((dE e (.data b n) b - 1 : Nat) : Int) = ((dE e (.data b n) b : Nat) : Int) - 1 := by omega
              rw [e2, ← sd_not]
              exact RepT.tup (k4.tup _ _ hy3) (RepTs.cons RepT.int (RepTs.cons RepT.str (RepTs.cons RepT.int (RepTs.cons RepT.non RepTs.nil))))
        · have hc' : ¬ n ≤ e b := fun z => hc (decide_eq_true (by omega))
          have eN : dN e net (.data b n) = net := if_neg hc'
          refine q A H2 kM (fun _ _ _ => rfl) (fun _ => .inl rfl) ?_
          rw [eN]
          exact I2
end

end MD
namespace MD
open PySem PySem.Spec PyProof.Rows L2
local macro_rules | `(tactic| walk_at "ne") => `(tactic| first | assumption | (apply Ne.symm; assumption) | exact ne_of_none (by assumption) (by assumption) | exact (ne_of_none (by assumption) (by assumption)).symm)
local macro_rules | `(tactic| walk_at "hp") => `(tactic| first | assumption | exact upd_same | (refine (upd_ne ?_).trans ?_; (focus walk_at "ne"); walk_at "hp"))
local macro_rules | `(tactic| walk_at "nm") => `(tactic| first | exact nmem_nil | exact nmem_one (by walk_at "ne") | exact nmem_cons (by walk_at "ne") (by walk_at "nm"))
/-! ### the law -/
section
variable {P : Program} {w : World} {K : PySem.W.Frag} {mg : Str → Option Value} {base : Heap}
structure Aliv (H : Hp) (L : List Addr) : Prop where
  nd : L.Nodup
  al : ∀ x ∈ L, ∃ o, H x = some o
theorem Aliv.kp {M : List Addr} {H H' : Hp} {L : List Addr} (h : Aliv H L) (k : Kp M H H') : Aliv H' L := ⟨h.nd, fun x hx => (h.al x hx).elim fun o e => k.live x o e⟩
theorem Aliv.new {M : List Addr} {H H' : Hp} {L : List Addr} {c : Addr} {u : HO} (h : Aliv H L) (hc : H c = none) (k : Kp M H H') (hu : H' c = some u) : Aliv H' (c :: L) := by
  refine ⟨List.nodup_cons.mpr ⟨fun z => ?_, h.nd⟩, fun x hx => ?_⟩
  · obtain ⟨o, e⟩ := h.al c z
    rw [hc] at e; cases e
  · rcases List.mem_cons.mp hx with rfl | hx
    · exact ⟨u, hu⟩
    · exact (h.kp k).al x hx
theorem nodup_at : ∀ {L : List Addr} {i j : Nat}, L.Nodup → i < L.length → j < L.length → L.getD i 0 = L.getD j 0 → i = j
  | a :: L, 0, 0, _, _, _, _ => rfl
  | a :: L, 0, j + 1, h, _, hj, e => by
    have hj : j < L.length := Nat.lt_of_succ_lt_succ hj
    have e : a = L.getD j 0 := e
    have : a ∈ L := by rw [e, List.getD_eq_getElem?_getD]; simp [hj]
    exact absurd this (List.nodup_cons.mp h).1
  | a :: L, i + 1, 0, h, hi, _, e => by
    have hi : i < L.length := Nat.lt_of_succ_lt_succ hi
    have e : L.getD i 0 = a := e
    have : a ∈ L := by rw [← e, List.getD_eq_getElem?_getD]; simp [hi]
    exact absurd this (List.nodup_cons.mp h).1
  | a :: L, i + 1, j + 1, h, hi, hj, e => congrArg (· + 1) (nodup_at (List.nodup_cons.mp h).2 (Nat.lt_of_succ_lt_succ hi) (Nat.lt_of_succ_lt_succ hj) e)
def tau (i : Nat) : Nat := [13, 14, 8, 12, 10, 11, 9, 7, 4, 6, 5, 1, 3, 2, 0].getD i 15
theorem tau_inj' : ∀ i, i < 15 → ∀ j, j < 15 → tau i = tau j → i = j := by decide +kernel
theorem tau_inj (i j : Nat) (hi : i < 15) (hj : j < 15) (e : tau i = tau j) : i = j := tau_inj' i hi j hj e
theorem tau_lt : ∀ i, i < 15 → tau i < 15 := by decide +kernel
def spLaw (K : PySem.W.Frag) : Sp := fun vs H Q _ => ∃ (a : Addr) (ns : List Int), vs = [.ref a] ∧ SqL K H a (ns.map V.int) ∧ ns.length ≤ 63 ∧ ∀ H', Q (.bl true) H'
abbrev sg (a : Addr) (A : Nat → Addr) (k7 k8 k9 k10 k11 k12 k13 k14 k15 k16 k17 k18 : Option V) : L2.St :=
  [some (.ref a), some (.ref (A 0)), some (.ref (A 2)), some (.ref (A 7)), some (.ref (A 8)), some (.ref (A 11)), some (.ref (A 14)), k7, k8, k9, k10, k11, k12, k13, k14, k15, k16, k17, k18]
def bodyD (x k : Int) : D := .sq false [.v (.str "give"), .v (.int x), .v (.int k)]
theorem bodyD_ok (x k : Int) : (bodyD x k).ok 1 := ⟨by simp, fun d hd => by
  rcases List.mem_cons.mp hd with rfl | hd
  · trivial
  rcases List.mem_cons.mp hd with rfl | hd
  · trivial
  rcases List.mem_cons.mp hd with rfl | hd
  · trivial
  · cases hd⟩
theorem sd_of {r : Int} (h0 : 0 ≤ r) (h1 : r < 2) : ∃ b, r = sd b := by
  by_cases h : r = 0
  · exact ⟨false, h⟩
  · exact ⟨true, show r = 1 by omega⟩
theorem sg_eq {a : Addr} {A A' : Nat → Addr} {k7 k8 k9 k10 k11 k12 k13 k14 k15 k16 k17 k18 : Option V} (h : ∀ i, i ≠ 5 → i ≠ 6 → A' i = A i) :
    sg a A k7 k8 k9 k10 k11 k12 k13 k14 k15 k16 k17 k18 = sg a A' k7 k8 k9 k10 k11 k12 k13 k14 k15 k16 k17 k18 := by
  unfold sg
  rw [h 0 (by omega) (by omega), h 2 (by omega) (by omega), h 7 (by omega) (by omega), h 8 (by omega) (by omega), h 11 (by omega) (by omega), h 14 (by omega) (by omega)]
theorem at3n {A : Nat → Addr} (b : Bool) (k : Nat) : atI [V.ref (A k), V.ref (A (k + 1))] (1 - sd b) = some (.ref (A (k + be (!b)))) := by cases b <;> rfl
theorem D.ok_le : ∀ {n m : Nat} {d : D}, d.ok n → n ≤ m → d.ok m
  | n, m, .v _, _, _ => by cases m <;> trivial
  | 0, m, .sq _ _, h, _ => h.elim
  | n + 1, 0, .sq _ ds, h, l => absurd l (by omega)
  | n + 1, m + 1, .sq _ ds, h, l => ⟨h.1, fun d hd => D.ok_le (h.2 d hd) (by omega)⟩
theorem RepTs.take {H : Hp} : ∀ {ds : List D} {vs : List V} {i : Nat}, RepTs H ds vs → RepTs H (ds.take i) (vs.take i)
  | [], vs, i, h => by
    have := h.nilE; subst this
    rw [List.take_nil, List.take_nil]
    exact RepTs.nil
  | d :: ds, vs, i, h => by
    obtain ⟨v, r, rfl, h1, h2⟩ := h.consE
    cases i with
    | zero => exact RepTs.nil
    | succ i => exact RepTs.cons h1 (RepTs.take h2)
theorem ob8_ok {S : List D} (h : ∀ x ∈ S, x.ok 1) (hl : S.length ≤ 61) {k : Nat} {s : Int} : (D.sq true [.sq true (obD (obS S k)), .v (.int s)]).ok 4 := by
  refine ⟨by simp, fun d hd => ?_⟩
  rcases List.mem_cons.mp hd with rfl | hd
  · refine ⟨by unfold obD obS; rw [List.length_map, obM_len]; omega, fun d hd => ?_⟩
    unfold obD at hd
    obtain ⟨q, hq, rfl⟩ := List.mem_map.mp hd
    unfold obS obM at hq
    obtain ⟨j, hj, rfl⟩ := List.mem_map.mp hq
    have hj := List.mem_range.mp hj
    refine ⟨by simp, fun d hd => ?_⟩
    rcases List.mem_cons.mp hd with rfl | hd
    · trivial
    rcases List.mem_cons.mp hd with rfl | hd
    · refine h _ ?_
      rw [List.getD_eq_getElem?_getD]
      have : k + j < S.length := by omega
      simp [this]
    · cases hd
  rcases List.mem_cons.mp hd with rfl | hd
  · trivial
  · cases hd
theorem St8.al {C : Addr} {A : Nat → Addr} {ms : List Int} {H : Hp} {S : Bool → List D} {e kn : Bool → Nat} {net : List Lt} (I : St8 C A ms H S e kn net) : ∀ i, i < 15 → ∃ o, H (A i) = some o := fun i hi => by
  obtain ⟨kd, D0⟩ := I.dr
  have w0 := I.wr false; have w1 := I.wr true
  obtain ⟨⟨_, a3⟩, _, a5, _⟩ := w0
  obtain ⟨⟨_, a4⟩, _, a6, _⟩ := w1
  obtain ⟨_, a7, _⟩ := I.nt
  obtain ⟨_, a9, _⟩ := I.sn false
  obtain ⟨_, a10, _⟩ := I.sn true
  obtain ⟨_, a12, _⟩ := I.hn false
  obtain ⟨_, a13, _⟩ := I.hn true
  match i, hi with
  | 0, _ => exact ⟨_, D0.hd⟩
  | 1, _ => exact ⟨_, D0.hn⟩
  | 2, _ => exact ⟨_, I.wl⟩
  | 3, _ => exact ⟨_, a3⟩
  | 4, _ => exact ⟨_, a4⟩
  | 5, _ => exact ⟨_, a5⟩
  | 6, _ => exact ⟨_, a6⟩
  | 7, _ => exact ⟨_, a7⟩
  | 8, _ => exact ⟨_, I.sl⟩
  | 9, _ => exact ⟨_, a9⟩
  | 10, _ => exact ⟨_, a10⟩
  | 11, _ => exact ⟨_, I.hl⟩
  | 12, _ => exact ⟨_, a12⟩
  | 13, _ => exact ⟨_, a13⟩
  | 14, _ => exact ⟨_, I.kl⟩
  | i + 15, h => omega
theorem seqIx_nat {m n : Nat} (h : m < n) : seqIndex? (m : Int) n = some m := by
  have e1 : ¬ ((m : Int) < 0) := by omega
  simp [seqIndex?, e1, h]
theorem RepTs.erase {H : Hp} : ∀ {ds : List D} {vs : List V} (i : Nat), RepTs H ds vs → RepTs H (ds.eraseIdx i) (vs.eraseIdx i)
  | [], vs, i, h => by
    have := h.nilE; subst this
    exact RepTs.nil
  | d :: ds, vs, i, h => by
    obtain ⟨v, r, rfl, h1, h2⟩ := h.consE
    cases i with
    | zero => exact h2
    | succ i => exact RepTs.cons h1 (RepTs.erase i h2)
theorem erase_map {α β : Type} (f : α → β) : ∀ (l : List α) (i : Nat), (l.map f).eraseIdx i = (l.eraseIdx i).map f
  | [], i => rfl
  | a :: l, 0 => rfl
  | a :: l, i + 1 => congrArg (f a :: ·) (erase_map f l i)
theorem mem_erase {α : Type} : ∀ (l : List α) (i : Nat) (x : α), x ∈ l.eraseIdx i → x ∈ l
  | [], i, x, h => h
  | a :: l, 0, x, h => List.mem_cons_of_mem _ h
  | a :: l, i + 1, x, h => by
    rcases List.mem_cons.mp h with rfl | h
    · exact List.mem_cons_self
    · exact List.mem_cons_of_mem _ (mem_erase l i x h)
theorem len_erase {α : Type} : ∀ (l : List α) (i : Nat), (l.eraseIdx i).length ≤ l.length
  | [], i => Nat.le_refl _
  | a :: l, 0 => Nat.le_succ _
  | a :: l, i + 1 => Nat.succ_le_succ (len_erase l i)
/-- a send -/
theorem St8.send {C : Addr} {A : Nat → Addr} {ms : List Int} {H H' : Hp} {S : Bool → List D} {e kn : Bool → Nat} {net : List Lt} (I : St8 C A ms H S e kn net) {b : Bool} {x : D} (hx : x.ok 1) (hlen : (S b).length + 1 ≤ 61)
    (k : Kp [A (3 + be b), A (5 + be b), A (9 + be b), A 7] H H') (W : WireAt C H' (A (3 + be b)) (A (5 + be b)) (((S b).length : Int) + 1) (e b) (obS (S b) (kn b) ++ [(((S b).length : Int), x)]))
    (hs : ∃ vs, H' (A (9 + be b)) = some (.lst vs) ∧ RepTs H' (S b ++ [x]) vs)
    (hn : ∃ vs, H' (A 7) = some (.lst vs) ∧ RepTs H' (net.map (ltD S) ++ [D.sq false [.v (.int (sd (!b))), .v (.str "data"), .v (.int (S b).length), x]]) vs) :
    St8 C A ms H' (up S b (S b ++ [x])) e kn (net ++ [.data (!b) (S b).length]) := by
  have hb := be_lt b
  have hM : ∀ i, i < 15 → i ≠ 3 + be b → i ≠ 5 + be b → i ≠ 9 + be b → i ≠ 7 → A i ∉ [A (3 + be b), A (5 + be b), A (9 + be b), A 7] := fun i hi h1 h2 h3 h4 => nmA I.inj hi (js := [3 + be b, 5 + be b, 9 + be b, 7]) fun j hj => by
    simp only [List.mem_cons, List.not_mem_nil, or_false] at hj
    omega
  have hke := I.nm.ke b
  have heb := I.nm.eb (!b)
  rw [Bool.not_not] at heb
  have hkS : kn b ≤ (S b).length := by omega
  have nbe : ∀ c, c ≠ b → be c ≠ be b := fun c h => by cases c <;> cases b <;> simp_all [be]
  refine ⟨I.inj, I.dr.elim fun kd D0 => ⟨kd, D0.kp k (hM _ (by omega) (by omega) (by omega) (by omega) (by omega)) (hM _ (by omega) (by omega) (by omega) (by omega) (by omega))⟩, k.at I.wl (hM _ (by omega) (by omega) (by omega) (by omega) (by omega)), fun c => ?_, ?_, k.at I.sl (hM _ (by omega) (by omega) (by omega) (by omega) (by omega)), fun c => ?_, k.at I.hl (hM _ (by omega) (by omega) (by omega) (by omega) (by omega)), fun c => ?_, k.at I.kl (hM _ (by omega) (by omega) (by omega) (by omega) (by omega)), I.nm.send b x, fun c => ?_, fun c => ?_⟩
  · have hc := be_lt c
    by_cases z : c = b
    · subst z
      rw [up_same, obS_app hkS, List.length_append, List.length_singleton]
      exact W
    · have := nbe c z
      rw [up_ne z]
      exact (I.wr c).kp k (hM _ (by omega) (by omega) (by omega) (by omega) (by omega)) (hM _ (by omega) (by omega) (by omega) (by omega) (by omega))
  · obtain ⟨vs, h1, h2⟩ := hn
    refine ⟨vs, h1, ?_⟩
    rw [List.map_append]
    have e1 : net.map (ltD (up S b (S b ++ [x]))) = net.map (ltD S) := List.map_congr_left fun l hl => ltD_send (I.nm.lt l hl) b x
    have e2 : ltD (up S b (S b ++ [x])) (.data (!b) (S b).length) = D.sq false [.v (.int (sd (!b))), .v (.str "data"), .v (.int (S b).length), x] := by
      show D.sq false [.v (.int (sd (!b))), .v (.str "data"), .v (.int (S b).length), (up S b (S b ++ [x]) (!!b)).getD (S b).length dfl] = _
      rw [Bool.not_not, up_same, getD_last]
    rw [e1]
    show RepTs H' (net.map (ltD S) ++ [ltD (up S b (S b ++ [x])) (.data (!b) (S b).length)]) vs
    rw [e2]
    exact h2
  · have hc := be_lt c
    by_cases z : c = b
    · subst z
      rw [up_same]
      exact hs
    · have := nbe c z
      rw [up_ne z]
      obtain ⟨vs, h1, h2⟩ := I.sn c
      exact ⟨vs, k.at h1 (hM _ (by omega) (by omega) (by omega) (by omega) (by omega)), h2.kp k⟩
  · have hc := be_lt c
    obtain ⟨vs, h1, h2⟩ := I.hn c
    refine ⟨vs, k.at h1 (hM _ (by omega) (by omega) (by omega) (by omega) (by omega)), ?_⟩
    have he := I.nm.eb c
    by_cases z : (!c) = b
    · subst z
      rw [up_same, List.take_append_of_le_length he]
      exact h2.kp k
    · rw [up_ne z]
      exact h2.kp k
  · by_cases z : c = b
    · subst z
      rw [up_same, List.length_append, List.length_singleton]; exact hlen
    · rw [up_ne z]; exact I.sz c
  · by_cases z : c = b
    · subst z
      rw [up_same]
      intro y hy
      rcases List.mem_append.mp hy with w | w
      · exact I.ok c y w
      · rw [List.mem_singleton.mp w]; exact hx
    · rw [up_ne z]; exact I.ok c
/-- the law's state at the end of turn i -/
def Inv8 (C a : Addr) (i : Nat) : L2.St → Hp → Prop := fun σ H => ∃ (A : Nat → Addr) (ms : List Int) (S : Bool → List D) (e kn : Bool → Nat) (net : List Lt) (k7 k8 k9 k10 k11 k12 k13 k14 k18 : Option V),
  σ = sg a A k7 k8 k9 k10 k11 k12 k13 k14 none none none k18 ∧ St8 C A ms H S e kn net ∧ (∀ b, (S b).length ≤ i) ∧ net.length ≤ 61 * i
theorem ok_law {f : Addr} {fd : FuncData} (F : L2.Fun K "law" "law" s_law f fd) (T : Txt K mg) : FnOk P w K mg base CX0 20 f fd ["script"] (spLaw K) := by
  have c_law_numbers := c_law_numbers (P := P) (w := w) (base := base) T
  have c_law_draw := c_law_draw (P := P) (w := w) (base := base) T
  have k_Wire := k_Wire (P := P) (w := w) (base := base) T
  have m_send := m_send (P := P) (w := w) (base := base) T
  have c_law_ticked := c_law_ticked (P := P) (w := w) (base := base) T
  have c_law_delivered := c_law_delivered (P := P) (w := w) (base := base) T
  have c_law_equal := ok_eq (P := P) (w := w) (base := base) T 4
  refine F.ok sc_law (fun vs H Q E h => ?_) (fun cdv Ar outer s H vs Q E hr h => ?_)
  · obtain ⟨a, ns, rfl, _⟩ := h; rfl
  · obtain ⟨a, ns, rfl, hS, hlen, q⟩ := h
    refine ⟨_, (pss_cons (ps_set (i := 1) sc_law.nd rfl (Or.inl rfl) (ke_lst (pa_cons (pe_c c_law_numbers (hr.mono (by first | decide | omega)) rfl (pa_cons (pv 0) pa_nil)) (pa_cons pe_int pa_nil))))
  (pss_cons (ps_set (i := 2) sc_law.nd rfl (Or.inl rfl) (ke_lst (pa_cons (ke_mk0 k_Wire (hr.mono (by first | decide | omega)) rfl ) (pa_cons (ke_mk0 k_Wire (hr.mono (by first | decide | omega)) rfl ) pa_nil))))
  (pss_cons (ps_set (i := 3) sc_law.nd rfl (Or.inl rfl) (ke_lst pa_nil))
  (pss_cons (ps_set (i := 4) sc_law.nd rfl (Or.inr rfl) (ke_lst (pa_cons (ke_lst pa_nil) (pa_cons (ke_lst pa_nil) pa_nil))))
  (pss_cons (ps_set (i := 5) sc_law.nd rfl (Or.inl rfl) (ke_lst (pa_cons (ke_lst pa_nil) (pa_cons (ke_lst pa_nil) pa_nil))))
  (pss_cons (ps_set (i := 6) sc_law.nd rfl (Or.inl rfl) (ke_lst (pa_cons pe_int (pa_cons pe_int pa_nil))))
  (pss_cons (ps_for PassesOwn.never rfl (pi_range1 (by rfl) T.z_range (pa_cons (pe_op op_mod (pe_c c_law_draw (hr.mono (by first | decide | omega)) rfl (pa_cons (pv 1) pa_nil)) pe_int) pa_nil)) (pg_name (i := 7) sc_law.nd rfl (Or.inl rfl))
  (pss_cons (ps_set (i := 8) sc_law.nd rfl (Or.inl rfl) (pe_op op_mod (pe_c c_law_draw (hr.mono (by first | decide | omega)) rfl (pa_cons (pv 1) pa_nil)) pe_int))
  (pss_cons (ps_set (i := 9) sc_law.nd rfl (Or.inl rfl) (pe_op op_mod (pe_c c_law_draw (hr.mono (by first | decide | omega)) rfl (pa_cons (pv 1) pa_nil)) pe_int))
  (C8.pss_cut (ps_if (pt_cmpR op_lt (pv 9) pe_int (nomark _))
  (pss_cons (ps_set (i := 10) sc_law.nd rfl (Or.inl rfl) (ke_tup (pa_cons pe_str (pa_cons (pv 8) (pa_cons (pv 7) pa_nil)))))
  (pss_cons (ps_set (i := 11) sc_law.nd rfl (Or.inl rfl) (pe_mt m_send (hr.mono (by first | decide | omega)) (pe_ix (ixL (K := K)) (pv 2) (pv 8) (fun _ _ => rfl)) (pa_cons (pv 10) pa_nil)))
  (pss_cons (ps_if (pt_not (pt_val (pe_c c_law_equal (hr.mono (by first | decide | omega)) rfl (pa_cons (pv 11) (pa_cons (pe_callB (lenK (K := K)) (by rfl) T.z_len (by decide +kernel) (pa_cons (pe_ix (ixL (K := K)) (pv 4) (pv 8) (fun _ _ => rfl)) pa_nil)) pa_nil)))))
  (pss_one (ps_ret pe_bl))
  pss_nil)
  (pss_cons (ps_expr (pe_bm PySem.F.plainAttrs_list PySem.F.slot_list_append PySem.F.type_list_append mk_append (pe_ix (ixL (K := K)) (pv 4) (pv 8) (fun _ _ => rfl)) (pa_cons (pv 10) pa_nil)))
  (pss_one (ps_expr (pe_bm PySem.F.plainAttrs_list PySem.F.slot_list_append PySem.F.type_list_append mk_append (pv 3) (pa_cons (ke_tup (pa_cons (pe_op op_sub pe_int (pv 8)) (pa_cons pe_str (pa_cons (pv 11) (pa_cons (pv 10) pa_nil))))) pa_nil))))))))
  (pss_one (ps_if (pt_cmpR op_eq (pv 9) pe_int (nomark _))
  (pss_one (ps_expr (pe_c c_law_ticked (hr.mono (by first | decide | omega)) rfl (pa_cons (pv 3) (pa_cons (pv 2) (pa_cons (pv 8) pa_nil))))))
  (pss_one (ps_if (pt_cmpR op_gt (pe_callB (lenK (K := K)) (by rfl) T.z_len (by decide +kernel) (pa_cons (pv 3) pa_nil)) pe_int (nomark _))
  (pss_cons (ps_set (i := 12) sc_law.nd rfl (Or.inl rfl) (pe_op op_mod (pe_c c_law_draw (hr.mono (by first | decide | omega)) rfl (pa_cons (pv 1) pa_nil)) (pe_callB (lenK (K := K)) (by rfl) T.z_len (by decide +kernel) (pa_cons (pv 3) pa_nil))))
  (pss_one (ps_if (pt_cmpR op_eq (pv 9) pe_int (nomark _))
  (pss_one (ps_expr (pe_bm PySem.F.plainAttrs_list PySem.F.slot_list_pop PySem.F.type_list_pop mk_popAt (pv 3) (pa_cons (pv 12) pa_nil))))
  (pss_one (ps_if (pt_cmpR op_eq (pv 9) pe_int (nomark _))
  (pss_one (ps_expr (pe_bm PySem.F.plainAttrs_list PySem.F.slot_list_append PySem.F.type_list_append mk_append (pv 3) (pa_cons (pe_ix (ixL (K := K)) (pv 3) (pv 12) (fun _ _ => rfl)) pa_nil))))
  (pss_one (ps_expr (pe_c c_law_delivered (hr.mono (by first | decide | omega)) rfl (pa_cons (pv 3) (pa_cons (pv 2) (pa_cons (pv 5) (pa_cons (pe_bm PySem.F.plainAttrs_list PySem.F.slot_list_pop PySem.F.type_list_pop mk_popAt (pv 3) (pa_cons (pv 12) pa_nil)) (pa_cons (pv 6) pa_nil)))))))))))))
  pss_nil)))))
  (pss_one (ps_for PassesOwn.never rfl (pilK (K := K) (ke_lst (pa_cons pe_int (pa_cons pe_int pa_nil)))) (pg_name (i := 13) sc_law.nd rfl (Or.inr rfl))
  (pss_cons (ps_if (PW.pt (pw_or (pt_not (pt_val (pe_c c_law_equal (hr.mono (by first | decide | omega)) rfl (pa_cons (pe_ix (ixL (K := K)) (pv 5) (pv 13) (fun _ _ => rfl)) (pa_cons (pe_slice (kslL (K := K)) (pe_ix (ixL (K := K)) (pv 4) (pe_op op_sub pe_int (pv 13)) (fun _ _ => rfl)) po_none (po_some (pe_callB (lenK (K := K)) (by rfl) T.z_len (by decide +kernel) (pa_cons (pe_ix (ixL (K := K)) (pv 5) (pv 13) (fun _ _ => rfl)) pa_nil)))) pa_nil))))) (pw_or1 (pt_cmpR op_ne (fldK (K := K) (pe_ix (ixL (K := K)) (pv 2) (pv 13) (fun _ _ => rfl)) rfl) (pe_callB (lenK (K := K)) (by rfl) T.z_len (by decide +kernel) (pa_cons (pe_ix (ixL (K := K)) (pv 5) (pv 13) (fun _ _ => rfl)) pa_nil)) (nomark _)))))
  (pss_one (ps_ret pe_bl))
  pss_nil)
  (pss_cons (ks_setLc (i := 14) rfl sc_law.nd rfl rfl (sw_true rfl rfl rfl (by decide +kernel)) (pi_range2 (by rfl) T.z_range (pa_cons (pe_ix (ixL (K := K)) (pv 6) (pv 13) (fun _ _ => rfl)) (pa_cons (pe_callB (lenK (K := K)) (by rfl) T.z_len (by decide +kernel) (pa_cons (pe_ix (ixL (K := K)) (pv 4) (pv 13) (fun _ _ => rfl)) pa_nil)) pa_nil))) (blkOk_by (own := [("n", 18)]) (N := ["script", "draws", "wires", "net", "sent", "handled", "known", "k", "end", "pick", "body", "number", "at", "side", "left", "turn", "letters", "letter", "n"]) (sc := defScope s_law) (by decide +kernel)) (fun _ _ _ _ _ => (pg_name (i := 18) sc_law.nd rfl (Or.inl rfl))) (fun _ _ _ _ _ => pts_nil) (fun _ _ _ _ _ => (ke_tup (pa_cons (pv 18) (pa_cons (pe_ix (ixL (K := K)) (pe_ix (ixL (K := K)) (pv 4) (pv 13) (fun _ _ => rfl)) (pv 18) (fun _ _ => rfl)) pa_nil)))))
  (pss_one (ps_if (pt_not (pt_val (pe_c c_law_equal (hr.mono (by first | decide | omega)) rfl (pa_cons (ke_lst (pa_cons (pe_callTy (klistK (K := K)) (by rfl) T.z_list (by decide +kernel) (pa_cons (fldK (K := K) (pe_ix (ixL (K := K)) (pv 2) (pv 13) (fun _ _ => rfl)) rfl) pa_nil)) (pa_cons (fldK (K := K) (pe_ix (ixL (K := K)) (pv 2) (pv 13) (fun _ _ => rfl)) rfl) pa_nil))) (pa_cons (ke_lst (pa_cons (pv 14) (pa_cons (pe_callB (lenK (K := K)) (by rfl) T.z_len (by decide +kernel) (pa_cons (pe_ix (ixL (K := K)) (pv 4) (pv 13) (fun _ _ => rfl)) pa_nil)) pa_nil))) pa_nil)))))
  (pss_one (ps_ret pe_bl))
  pss_nil))))))))))
  (pss_cons (ps_for PassesOwn.never rfl (pi_range1 (by rfl) T.z_range (pa_cons pe_int pa_nil)) (pg_name (i := 15) sc_law.nd rfl (Or.inl rfl))
  (pss_cons (ps_expr (pe_c c_law_ticked (hr.mono (by first | decide | omega)) rfl (pa_cons (pv 3) (pa_cons (pv 2) (pa_cons pe_int pa_nil)))))
  (pss_cons (ps_expr (pe_c c_law_ticked (hr.mono (by first | decide | omega)) rfl (pa_cons (pv 3) (pa_cons (pv 2) (pa_cons pe_int pa_nil)))))
  (pss_cons (ps_set (i := 16) sc_law.nd rfl (Or.inl rfl) (pe_callTy (klistK (K := K)) (by rfl) T.z_list (by decide +kernel) (pa_cons (pv 3) pa_nil)))
  (pss_cons (ps_expr (pe_bm0 PySem.F.plainAttrs_list PySem.F.slot_list_clear PySem.F.type_list_clear mk_clear (pv 3)))
  (pss_one (ps_for PassesOwn.never rfl (pilK (K := K) (pv 16)) (pg_name (i := 17) sc_law.nd rfl (Or.inl rfl))
  (pss_one (ps_expr (pe_c c_law_delivered (hr.mono (by first | decide | omega)) rfl (pa_cons (pv 3) (pa_cons (pv 2) (pa_cons (pv 5) (pa_cons (pv 17) (pa_cons (pv 6) pa_nil)))))))))))))))
  (pss_one (ps_ret (pe_c c_law_equal (hr.mono (by first | decide | omega)) rfl (pa_cons (ke_lst (pa_cons (pe_ix (ixL (K := K)) (pv 5) pe_int (fun _ _ => rfl)) (pa_cons (pe_ix (ixL (K := K)) (pv 5) pe_int (fun _ _ => rfl)) (pa_cons (pe_callTy (klistK (K := K)) (by rfl) T.z_list (by decide +kernel) (pa_cons (fldK (K := K) (pe_ix (ixL (K := K)) (pv 2) pe_int (fun _ _ => rfl)) rfl) pa_nil)) (pa_cons (pe_callTy (klistK (K := K)) (by rfl) T.z_list (by decide +kernel) (pa_cons (fldK (K := K) (pe_ix (ixL (K := K)) (pv 2) pe_int (fun _ _ => rfl)) rfl) pa_nil)) pa_nil))))) (pa_cons (ke_lst (pa_cons (pe_ix (ixL (K := K)) (pv 4) pe_int (fun _ _ => rfl)) (pa_cons (pe_ix (ixL (K := K)) (pv 4) pe_int (fun _ _ => rfl)) (pa_cons (ke_lst pa_nil) (pa_cons (ke_lst pa_nil) pa_nil))))) pa_nil))))))))))))), ?_⟩
    refine ⟨_, rfl, a, ns, rfl, hS, hlen, fun n H1 ms hn k1 hn1 rg hl => ⟨(by show 2 ≤ sizeLine; decide), fun d H2 hd k2 hd2 => ?_⟩⟩
    have D2 : DrawsAt H2 d n ms 0 := ⟨hd2, k2.at hn1 nmem_nil, rg, Int.le_refl _⟩
    have L0 : Aliv H [] := ⟨List.nodup_nil, fun _ z => nomatch z⟩
    have L2 := (L0.new hn k1 hn1).new hd k2 hd2
    intro p dx Hp np kp hp
    refine ⟨p, dx, rfl, hp, fun l H3 hl0 k3 W3 => ⟨rfl, ?_⟩⟩
    have k3' : Kp [] H2 H3 := kp.put k3 np
    intro p2 dx2 Hp2 np2 kp2 hp2
    refine ⟨p2, dx2, rfl, hp2, fun l2 H4 hl4 k4 W4 => ⟨rfl, (by show 2 ≤ sizeLine; decide), fun ws H5 hws k5 hws5 => ?_⟩⟩
    have k4' : Kp [] H3 H4 := kp2.put k4 np2
    have hl3 : ∃ u, H3 l = some u := by obtain ⟨_, vz, h, _⟩ := id W3; exact ⟨_, h⟩
    have hl4' : ∃ u, H4 l2 = some u := by obtain ⟨_, vz, h, _⟩ := id W4; exact ⟨_, h⟩
    have L3 := hl3.elim fun u hu => (L2.new np kp hp).new hl0 k3 hu
    have L5 := hl4'.elim fun u hu => (((L3.new np2 kp2 hp2).new hl4 k4 hu).new hws k5 hws5)
    refine ⟨Nat.zero_le _, fun nt H6 hnt k6 hnt6 => ?_⟩
    refine ⟨Nat.zero_le _, fun s0 H7 hs0 k7 hs07 => ⟨Nat.zero_le _, fun s1 H8 hs1 k8 hs18 => ⟨(by show 2 ≤ sizeLine; decide), fun sl H9 hsl k9 hsl9 => ?_⟩⟩⟩
    refine ⟨Nat.zero_le _, fun h0 H10 hh0 k10 hh010 => ⟨Nat.zero_le _, fun h1 H11 hh1 k11 hh111 => ⟨(by show 2 ≤ sizeLine; decide), fun hl H12 hhl k12 hhl12 => ?_⟩⟩⟩
    refine ⟨(by show 2 ≤ sizeLine; decide), fun kl H13 hkl k13 hkl13 => ?_⟩
    have L13 := (((((((((L5.new hnt k6 hnt6).new hs0 k7 hs07).new hs1 k8 hs18).new hsl k9 hsl9).new hh0 k10 hh010).new hh1 k11 hh111).new hhl k12 hhl12).new hkl k13 hkl13))
    have I13 : St8 T.C_Wire (fun i => [kl, hl, h1, h0, sl, s1, s0, nt, ws, l2, p2, l, p, d, n].getD (tau i) 0) ms H13 (fun _ => []) (fun _ => 0) (fun _ => 0) [] := by
      have c12 := k12.trans k13
      have c11 := k11.trans c12
      have c10 := k10.trans c11
      have c9 := k9.trans c10
      have c8 := k8.trans c9
      have c7 := k7.trans c8
      have c6 := k6.trans c7
      have c5 := k5.trans c6
      have c4 := k4'.trans c5
      have c3 := k3'.trans c4
      refine ⟨fun i j hi hj e => tau_inj i j hi hj (nodup_at L13.nd (tau_lt i hi) (tau_lt j hj) e), ⟨0, D2.kp c3 nmem_nil nmem_nil⟩, c6.at hws5 nmem_nil, fun b => ?_, ⟨[], c7.at hnt6 nmem_nil, RepTs.nil⟩, c10.at hsl9 nmem_nil, fun b => ?_, k13.at hhl12 nmem_nil, fun b => ?_, hkl13, ⟨fun _ => Nat.le_refl _, fun _ => Nat.le_refl _, fun _ z => nomatch z⟩, fun _ => Nat.zero_le _, fun _ _ z => nomatch z⟩
      · cases b
        · exact W3.kp c4 nmem_nil nmem_nil
        · exact W4.kp c5 nmem_nil nmem_nil
      · cases b
        · exact ⟨[], c8.at hs07 nmem_nil, RepTs.nil⟩
        · exact ⟨[], c9.at hs18 nmem_nil, RepTs.nil⟩
      · cases b
        · exact ⟨[], c11.at hh010 nmem_nil, RepTs.nil⟩
        · exact ⟨[], c12.at hh111 nmem_nil, RepTs.nil⟩
    obtain ⟨A, hA⟩ : ∃ A : Nat → Addr, A = (fun i => [kl, hl, h1, h0, sl, s1, s0, nt, ws, l2, p2, l, p, d, n].getD (tau i) 0) := ⟨_, rfl⟩
    rw [← hA] at I13
    obtain ⟨k0, D13⟩ := I13.dr
    refine ⟨_, rfl, A 0, A 1, ms, k0, by rw [hA]; rfl, D13, fun r H14 r0 r1 k14 D14 => ?_⟩
    have I14 := I13.draw k14 D14
    have hm : 0 ≤ r % 61 ∧ r % 61 < 61 := ⟨Int.emod_nonneg _ (by decide), Int.emod_lt_of_pos _ (by decide)⟩
    refine ⟨_, _, rfl, rfl, (by show (0 : Int) < 61; decide), _, rfl, (by omega), (by omega), for_range (n := (r % 61).toNat) (Inv8 T.C_Wire a)
      ⟨A, ms, _, _, _, _, _, _, _, _, _, _, _, _, _, by rw [hA]; rfl, I14, fun _ => Nat.zero_le _, Nat.zero_le _⟩ ?_ ?_⟩
    · rintro i σ H15 hi ⟨A, ms, S, e, kn, net, k7, k8, k9, k10, k11, k12, k13, k14, k18, rfl, I15, hSi, hni⟩
      obtain ⟨k0, D15⟩ := I15.dr
      have hi61 : i < 61 := by omega
      refine ⟨_, rfl, A 0, A 1, ms, k0, rfl, D15, fun r1 H16 r10 r11 k16 D16 => ?_⟩
      have I16 := I15.draw k16 D16
      refine ⟨_, _, rfl, rfl, (by show (0 : Int) < 2; decide), ?_⟩
      obtain ⟨b, hb⟩ := sd_of (r := r1 % 2) (Int.emod_nonneg _ (by decide)) (Int.emod_lt_of_pos _ (by decide))
      show gName 8 (V.int (r1 % 2)) _ _ _
      rw [hb]
      have hbl := be_lt b
      refine ⟨_, rfl, A 0, A 1, ms, _, rfl, D16, fun r2 H17 r20 r21 k17 D17 => ?_⟩
      have I17 := I16.draw k17 D17
      refine ⟨_, _, rfl, rfl, (by show (0 : Int) < 7; decide), ?_⟩
      refine ⟨Inv8 T.C_Wire a (i + 1), ?_, ?_⟩
      · refine ⟨_, rfl, _, _, rfl, rfl, _, rfl, ?_⟩
        refine ite2 (fun _ => ?_) (fun _ => ?_)
        · -- a send
          refine ⟨_, rfl, _, rfl, (by show 3 ≤ sizeLine; decide), fun t H18 ht k18 ht18 => ?_⟩
          have I18 := I17.kp0 k18
          have rt : RepT H18 (bodyD (sd b) (0 + i)) (.ref t) := RepT.tup ht18 (RepTs.cons RepT.str (RepTs.cons RepT.int (RepTs.cons RepT.int RepTs.nil)))
          have W18 := I18.wr b
          obtain ⟨⟨dx, hp⟩, _⟩ := id W18
          have hsz := I18.sz b
          have hob : (obS (S b) (kn b)).length < 100000 := by unfold obS; rw [obM_len]; omega
          refine ⟨_, rfl, _, rfl, A 2, _, _, _, rfl, rfl, SqL.of I18.wl, at3 b 3, _, dx, _, rfl, hp, rfl, _, rfl, A (3 + be b), A (5 + be b), _, _, obS (S b) (kn b), bodyD (sd b) (0 + i), _, rfl, W18, rt, hob, fun H19 k19 W19 => ?_⟩
          have h18 : ∀ i, i < 15 → i ≠ 3 + be b → i ≠ 5 + be b → A i ∉ [A (3 + be b), A (5 + be b)] := fun i hi h1 h2 => nmA I15.inj hi (js := [3 + be b, 5 + be b]) fun j hj => by
            simp only [List.mem_cons, List.not_mem_nil, or_false] at hj
            omega
          obtain ⟨vs, hs18, rs18⟩ := I18.sn b
          have hvs : vs.length = (S b).length := rs18.len
          have sl19 := k19.at I18.sl (h18 _ (by omega) (by omega) (by omega))
          have hs19 := k19.at hs18 (h18 _ (by omega) (by omega) (by omega))
          refine ⟨_, rfl, _, rfl, _, rfl, A 8, _, _, _, rfl, rfl, SqL.of sl19, at3 b 9, A (9 + be b), vs, rfl, .inl (SqL.of hs19), .v (.int (S b).length), _, _, rfl, Rep.int, (by rw [hvs]; exact Rep.int), trivial, _, rfl, iteF ?_⟩
          refine ⟨_, rfl, _, rfl, A 8, _, _, _, rfl, rfl, SqL.of sl19, at3 b 9, .inl ⟨rfl, _, SqL.of hs19⟩, _, rfl, A (9 + be b), vs, _, rfl, rfl, hs19, ?_, fun H20 k20 hs20 => ?_⟩
          · rw [hvs]
            exact sz hsz
          obtain ⟨nv, hn18, rn18⟩ := I18.nt
          have h19 : ∀ i, i < 15 → i ≠ 9 + be b → A i ∉ [A (9 + be b)] := fun i hi h1 => nmA I15.inj hi (js := [9 + be b]) fun j hj => by
            have := List.mem_singleton.mp hj
            omega
          have hn20 := k20.at (k19.at hn18 (h18 _ (by omega) (by omega) (by omega))) (h19 _ (by omega) (by omega))
          refine ⟨_, rfl, .inl ⟨rfl, _, SqL.of hn20⟩, _, rfl, _, _, rfl, rfl, _, rfl, _, rfl, (by show 4 ≤ sizeLine; decide), fun y H21 hy k21 hy21 => ⟨A 7, nv, _, rfl, rfl, k21.at hn20 nmem_nil, ?_, fun H22 k22 hn22 => ?_⟩⟩
          · rw [rn18.lenM]
            exact sz (show net.length ≤ 61 * 61 by omega)
          have h21 : ∀ i, i < 15 → i ≠ 7 → A i ∉ [A 7] := fun i hi h1 => nmA I15.inj hi (js := [7]) fun j hj => by
            have := List.mem_singleton.mp hj
            omega
          have k1920 : Kp [A (3 + be b), A (5 + be b), A (9 + be b), A 7] H18 H20 := (k19.mono fun x hx => by
            simp only [List.mem_cons, List.not_mem_nil, or_false] at hx
            rcases hx with rfl | rfl <;> simp).putM k20 (by simp)
          have k1822 := (k1920.th0 k21).putM k22 (by simp)
          have hSb := hSi b
          refine ⟨A, ms, _, e, kn, _, _, _, _, _, _, _, _, _, _, rfl, I18.send (b := b) (x := bodyD (sd b) (0 + i)) (bodyD_ok _ _) (by omega) k1822 ?_ ⟨_, (k21.nil.trans k22).at hs20 (h21 _ (by omega) (by omega)), ?_⟩ ⟨_, hn22, ?_⟩, ?_, ?_⟩
          · exact (W19.kp k20 (h19 _ (by omega) (by omega)) (h19 _ (by omega) (by omega))).kp (k21.nil.trans k22) (h21 _ (by omega) (by omega)) (h21 _ (by omega) (by omega))
          · exact RepTs.snoc ((((rt.kp k19).kp k20).kp k21).kp k22) ((((rs18.kp k19).kp k20).kp k21).kp k22)
          · refine RepTs.snoc (RepT.tup (k22.tup _ _ hy21) (RepTs.cons ?_ (RepTs.cons RepT.str (RepTs.cons RepT.int (RepTs.cons ((((rt.kp k19).kp k20).kp k21).kp k22) RepTs.nil))))) ((((rn18.kp k19).kp k20).kp k21).kp k22)
            rw [← sd_not]
            exact RepT.int
          · intro c
            by_cases z : c = b
            · subst z
              rw [up_same, List.length_append, List.length_singleton]
              omega
            · rw [up_ne z]
              exact Nat.le_succ_of_le (hSi c)
          · rw [List.length_append, List.length_singleton]
            omega
        · refine ⟨_, rfl, rfl, _, rfl, ?_⟩
          refine ite2 (fun _ => ?_) (fun _ => ?_)
          · refine ⟨_, rfl, _, rfl, _, rfl, A, ms, S, e, kn, net, b, rfl, I17, by omega, fun H18 k18 I18 => ?_⟩
            refine ⟨A, ms, S, e, kn, _, _, _, _, _, _, _, _, _, _, rfl, I18, fun c => Nat.le_succ_of_le (hSi c), ?_⟩
            have hsz := I18.sz b
            rw [List.length_append, ticks_len]
            omega
          · -- a letter of the net
            obtain ⟨nv, hn17, rn17⟩ := I17.nt
            refine ⟨_, rfl, A 7, nv, rfl, .inl (SqL.of hn17), _, _, rfl, rfl, _, rfl, ?_⟩
            refine ite2 (fun hc => ?_) (fun _ => ?_)
            · have hpos := of_decide_eq_true hc
              refine ⟨_, rfl, A 0, A 1, ms, _, rfl, D17, fun r3 H18 r30 r31 k18 D18 => ?_⟩
              have I18 := I17.draw k18 D18
              have hM0 : A 7 ∉ [A 0] := nmA I15.inj (by omega) (js := [0]) fun j hj => by
                have := List.mem_singleton.mp hj
                omega
              have hn18 := k18.at hn17 hM0
              have rn18 := rn17.kp k18
              refine ⟨_, rfl, A 7, nv, rfl, .inl (SqL.of hn18), _, _, rfl, rfl, hpos, ?_⟩
              obtain ⟨m, hm, hml⟩ : ∃ m : Nat, r3 % (nv.length : Int) = (m : Int) ∧ m < nv.length := by
                have h1 := Int.emod_nonneg r3 (show (nv.length : Int) ≠ 0 by omega)
                have h2 := Int.emod_lt_of_pos r3 hpos
                exact ⟨(r3 % (nv.length : Int)).toNat, by omega, by omega⟩
              show gName 12 (V.int (r3 % (nv.length : Int))) _ _ _
              rw [hm]
              obtain ⟨y, hy⟩ : ∃ y, nv[m]? = some y := ⟨nv[m], by simp [hml]⟩
              obtain ⟨l, hl, rl⟩ := rn18.at hy
              have lok := I18.nm.lt l (List.mem_of_getElem? hl)
              have hnl : net.length ≤ 61 * 61 := by omega
              have hnv : nv.length = net.length := rn18.lenM
              have hM7 : ∀ i, i < 15 → i ≠ 7 → A i ∉ [A 7] := fun i hi hn => nmA I15.inj hi (js := [7]) fun j hj => by
                have := List.mem_singleton.mp hj
                omega
              have hlo : -(2 ^ 63) ≤ (m : Int) := by omega
              have hhi : (m : Int) < 2 ^ 63 := by omega
              have hsx : seqIndex? (m : Int) nv.length = some m := seqIx_nat hml
              have hat : atI nv (m : Int) = some y := atI_nat hy
              have hen := len_erase net m
              have nmE : Nm S e kn (net.eraseIdx m) := I18.nm.sub fun x hx => mem_erase net m x hx
              refine ⟨_, rfl, rfl, _, rfl, ?_⟩
              refine ite2 (fun _ => ?_) (fun _ => ?_)
              · refine ⟨_, rfl, .inl ⟨rfl, _, SqL.of hn18⟩, _, rfl, A 7, nv, _, m, y, rfl, rfl, hn18, hlo, hhi, hsx, hy, fun H19 k19 hn19 => ?_⟩
                refine ⟨A, ms, S, e, kn, _, _, _, _, _, _, _, _, _, _, rfl, I18.net k19 hM7 ⟨_, hn19, ?_⟩ nmE, fun c => Nat.le_succ_of_le (hSi c), by omega⟩
                rw [← erase_map]
                exact (rn18.kp k19).erase m
              · refine ⟨_, rfl, rfl, _, rfl, ?_⟩
                refine ite2 (fun _ => ?_) (fun _ => ?_)
                · refine ⟨_, rfl, .inl ⟨rfl, _, SqL.of hn18⟩, _, rfl, _, rfl, A 7, _, _, y, rfl, rfl, SqL.of hn18, hat, A 7, nv, _, rfl, rfl, hn18, sz (show nv.length ≤ 61 * 61 by omega), fun H19 k19 hn19 => ?_⟩
                  refine ⟨A, ms, S, e, kn, net ++ [l], _, _, _, _, _, _, _, _, _, rfl, I18.net k19 hM7 ⟨_, hn19, ?_⟩ (I18.nm.sub fun x hx => ?_), fun c => Nat.le_succ_of_le (hSi c), by rw [List.length_append, List.length_singleton]; omega⟩
                  · rw [List.map_append]
                    exact RepTs.snoc (rl.kp k19) (rn18.kp k19)
                  · rcases List.mem_append.mp hx with z | z
                    · exact z
                    · rw [List.mem_singleton.mp z]
                      exact List.mem_of_getElem? hl
                · refine ⟨_, rfl, _, rfl, _, rfl, _, rfl, .inl ⟨rfl, _, SqL.of hn18⟩, _, rfl, A 7, nv, _, m, y, rfl, rfl, hn18, hlo, hhi, hsx, hy, fun H19 k19 hn19 => ?_⟩
                  have I19 : St8 T.C_Wire A ms H19 S e kn (net.eraseIdx m) := I18.net k19 hM7 ⟨_, hn19, by rw [← erase_map]; exact (rn18.kp k19).erase m⟩ nmE
                  refine ⟨_, rfl, A, ms, S, e, kn, net.eraseIdx m, l, y, rfl, I19, by omega, lok, rl.kp k19, fun A' H20 kk eA nA I20 => ?_⟩
                  have := dN_len e (net.eraseIdx m) l
                  exact ⟨A', ms, S, _, _, _, _, _, _, _, _, _, _, _, _, sg_eq eA, I20, fun c => Nat.le_succ_of_le (hSi c), by omega⟩
            · exact ⟨A, ms, S, e, kn, net, _, _, _, _, _, _, _, _, _, rfl, I17, fun c => Nat.le_succ_of_le (hSi c), by omega⟩
      · -- the two sides
        rintro σ H19 ⟨A, ms, S, e, kn, net, k7, k8, k9, k10, k11, k12, k13, k14, k18, rfl, I19, hSi, hni⟩
        refine ⟨(by show 2 ≤ sizeLine; decide), fun sdl H20 hsd k20 hsd20 => ?_⟩
        have I20 := I19.kp0 k20
        refine ⟨sdl, rfl, ⟨_, SqL.of hsd20⟩, for_list (K := K) (a := sdl) (xs := [.int 0, .int 1]) (fun j σ H' => ∃ (k13 k14 k18 : Option V), σ = sg a A k7 k8 k9 k10 k11 k12 k13 k14 none none none k18 ∧ Kp [] H20 H')
          ⟨_, _, _, rfl, Kp.refl⟩ (fun j σ H' _ ⟨_, _, _, _, k⟩ => k.seq (SqL.of hsd20) nmem_nil) ?_ ?_⟩
        · rintro j x σ H21 hx ⟨k13, k14, k18, rfl, k21⟩
          obtain ⟨c, rfl⟩ : ∃ c, x = .int (sd c) := by
            match j, hx with
            | 0, hx => cases hx; exact ⟨false, rfl⟩
            | 1, hx => cases hx; exact ⟨true, rfl⟩
            | j + 2, hx => cases hx
          have I21 := I20.kp0 k21
          obtain ⟨hv, hh21, rh21⟩ := I21.hn c
          obtain ⟨sv, hs21, rs21⟩ := I21.sn (!c)
          refine ⟨_, rfl, _, rfl, A 11, _, _, _, rfl, rfl, SqL.of I21.hl, at3 c 12, ?_⟩
          refine ⟨_, rfl, _, rfl, _, _, rfl, rfl, A 8, _, _, _, rfl, rfl, SqL.of I21.sl, at3n c 9, ?_⟩
          refine ⟨_, rfl, _, rfl, A 11, _, _, _, rfl, rfl, SqL.of I21.hl, at3 c 12, A (12 + be c), hv, rfl, .inl (SqL.of hh21), _, rfl, A (9 + be (!c)), sv, rfl, SqL.of hs21, fun D0 H22 hD k22 hD22 => ?_⟩
          have hhl : hv.length = e c := by
            have := I21.nm.eb c
            rw [rh21.len, List.length_take]; omega
          have hsl : sv.length = (S (!c)).length := rs21.len
          have hcut : cutV sv none (some (hv.length : Int)) = sv.take (e c) := by
            have := I21.nm.eb c
            unfold cutV
            rw [HT.sIx_nat, HT.sIx_none, List.drop_zero, Nat.sub_zero, hhl, hsl]
            congr 1
            omega
          rw [hcut] at hD22
          have hsz := I21.sz (!c)
          have hok : (D.sq true ((S (!c)).take (e c))).ok 4 := ⟨by rw [List.length_take]; omega, fun x hx => D.ok_le (n := 1) (m := 3) (I21.ok (!c) x (List.mem_of_mem_take hx)) (by decide)⟩
          refine ⟨.sq true ((S (!c)).take (e c)), _, _, rfl, Rep.lst (SqL.of (k22.at hh21 nmem_nil)) (RepTs.reps (rh21.kp k22)), Rep.lst (SqL.of hD22) (RepTs.reps (RepTs.take (rs21.kp k22))), hok, _, rfl, ?_⟩
          refine iteF ?_
          have I22 := I21.kp0 k22
          obtain ⟨⟨dx, hp⟩, lv, hl22, rl22⟩ := id (I22.wr c)
          refine ⟨_, rfl, _, rfl, A 2, _, _, _, rfl, rfl, SqL.of I22.wl, at3 c 3, _, _, dx, _, _, rfl, hp, T.cl_Wire, T.na_Wire_expected, rfl, ?_⟩
          refine ⟨_, rfl, _, rfl, A 11, _, _, _, rfl, rfl, SqL.of I22.hl, at3 c 12, A (12 + be c), hv, rfl, .inl (SqL.of (k22.at hh21 nmem_nil)), rfl, _, rfl, ?_⟩
          have e1 : (!decide (V.int (e c : Int) = V.int (hv.length : Int))) = false := by rw [hhl, decide_eq_true rfl]; rfl
          rw [e1]
          refine iteF ?_
          obtain ⟨cv, hc22, rc22⟩ := I22.sn c
          have hcl : cv.length = (S c).length := rc22.len
          have hsc := I22.sz c
          have hke := I22.nm.ke c
          have heb := I22.nm.eb (!c)
          rw [Bool.not_not] at heb
          have hat : atI [V.int (kn false : Int), V.int (kn true : Int)] (sd c) = some (.int (kn c : Int)) := by cases c <;> rfl
          refine ⟨_, rfl, _, rfl, A 14, _, _, _, rfl, rfl, SqL.of I22.kl, hat, _, rfl, _, rfl, A 8, _, _, _, rfl, rfl, SqL.of I22.sl, at3 c 9, A (9 + be c), cv, rfl, .inl (SqL.of hc22), _, _, rfl, ⟨by omega, by omega, by omega, by omega⟩, fun D2 H23 hD2 kD2 hD2' => ?_⟩
          refine kl_range (n := ((cv.length : Int) - (kn c : Int)).toNat) (fun j acc H' => Kp [] H22 H' ∧ RepTs H' (obD (obM (S c) (kn c) j)) acc ∧ acc.length ≤ j) ⟨kD2, RepTs.nil, Nat.le_refl _⟩ ?_ ?_
          · rintro j acc H24 hj hacc ⟨k24, ra, hal⟩
            have hjl : kn c + j < cv.length := by omega
            obtain ⟨xv, hxv⟩ : ∃ xv, cv[kn c + j]? = some xv := ⟨cv[kn c + j], by simp [hjl]⟩
            obtain ⟨xd, hxd, rxd⟩ := rc22.get hxv
            have exd : (S c).getD (kn c + j) dfl = xd := by rw [List.getD_eq_getElem?_getD, hxd]; rfl
            have ecast : (kn c : Int) + (j : Int) = ((kn c + j : Nat) : Int) := by omega
            rw [ecast]
            refine turn1 rfl ?_
            refine ⟨_, rfl, _, rfl, _, rfl, A 8, _, _, _, rfl, rfl, SqL.of (k24.at I22.sl nmem_nil), at3 c 9, _, rfl, A (9 + be c), _, _, xv, rfl, rfl, SqL.of (k24.at hc22 nmem_nil), atI_nat hxv, (by show 2 ≤ sizeLine; decide), fun t H25 ht k25 ht25 => ⟨k25.at hacc nmem_nil, sz (show acc.length ≤ 61 by omega), fun H26 k26 h26 => ⟨(k24.trans k25).put k26 hD2, ?_, by rw [List.length_append, List.length_singleton]; omega⟩⟩⟩
            rw [obM_succ, obD_snoc, exd]
            exact RepTs.snoc (RepT.tup (k26.tup _ _ ht25) (RepTs.cons RepT.int (RepTs.cons (((rxd.kp k24).kp k25).kp k26) RepTs.nil))) ((ra.kp k25).kp k26)
          · rintro acc H24 hacc ⟨k24, ra, hal⟩
            have en : ((cv.length : Int) - (kn c : Int)).toNat = (S c).length - kn c := by omega
            rw [en] at ra
            have I24 := I22.kp0 k24
            have hp24 := k24.at hp nmem_nil
            have hl24 := k24.at hl22 nmem_nil
            refine ⟨_, rfl, _, rfl, A 2, _, _, _, rfl, rfl, SqL.of I24.wl, at3 c 3, _, _, dx, _, _, rfl, hp24, T.cl_Wire, T.na_Wire_outbox, rfl, A (5 + be c), lv, rfl, .inl (SqL.of hl24), fun g H25 hg k25 hg25 => ?_⟩
            refine ⟨_, rfl, _, rfl, A 2, _, _, _, rfl, rfl, SqL.of (k25.at I24.wl nmem_nil), at3 c 3, _, _, dx, _, _, rfl, k25.at hp24 nmem_nil, T.cl_Wire, T.na_Wire_sent, rfl, (by show 2 ≤ sizeLine; decide), fun l1 H26 hl1 k26 hl126 => ?_⟩
            have k246 := k25.trans k26
            refine ⟨_, rfl, _, rfl, _, rfl, A 8, _, _, _, rfl, rfl, SqL.of (k246.at I24.sl nmem_nil), at3 c 9, A (9 + be c), cv, rfl, .inl (SqL.of (k246.at (k24.at hc22 nmem_nil) nmem_nil)), (by show 2 ≤ sizeLine; decide), fun l2 H27 hl2 k27 hl227 => ?_⟩
            have k247 := k246.trans k27
            refine ⟨.sq true [.sq true (obD (obS (S c) (kn c))), .v (.int (S c).length)], _, _, rfl, Rep.lst (SqL.of (k27.at hl126 nmem_nil)) (Reps.cons (Rep.lst (SqL.of ((k26.trans k27).at hg25 nmem_nil)) (RepTs.reps ((rl22.kp k24).kp k247))) (Reps.cons Rep.int Reps.nil)),
              Rep.lst (SqL.of hl227) (Reps.cons (Rep.lst (SqL.of (k247.at hacc nmem_nil)) (RepTs.reps (ra.kp k247))) (Reps.cons (by rw [hcl]; exact Rep.int) Reps.nil)), ob8_ok (I22.ok c) hsc, _, rfl, iteF ?_⟩
            exact ⟨_, _, _, rfl, ((k21.trans k22).trans k24).trans k247⟩
        · rintro σ H21 ⟨k13, k14, k18, rfl, k21⟩
          exact ⟨A, ms, S, e, kn, net, _, _, _, _, _, _, _, _, _, rfl, I20.kp0 k21, hSi, hni⟩
    · rintro σ H15 ⟨A, ms, S, e, kn, net, k7, k8, k9, k10, k11, k12, k13, k14, k18, rfl, I15, hSi, hni⟩
      refine ⟨_, rfl, (by decide), (by decide), for_range (n := 3) (fun i σ H => ∃ (A : Nat → Addr) (e kn : Bool → Nat) (net : List Lt) (k15 k16 k17 : Option V), σ = sg a A k7 k8 k9 k10 k11 k12 k13 k14 k15 k16 k17 k18 ∧ St8 T.C_Wire A ms H S e kn net ∧ net.length ≤ 3660 + 122 * i ∧ Rd S e kn net i)
        ⟨A, e, kn, net, _, _, _, rfl, I15, by omega, Rd.z⟩ ?_ ?_⟩
      · rintro i σ H1 hi ⟨A, e, kn, net, k15, k16, k17, rfl, I1, hn1, rd⟩
        refine ⟨_, rfl, _, rfl, A, ms, S, e, kn, net, false, rfl, I1, by omega, fun H2 k2 I2 => ?_⟩
        have t0 := ticks_len S kn false
        have z0 := I1.sz false
        refine ⟨_, rfl, _, rfl, A, ms, S, e, kn, _, true, rfl, I2, by rw [List.length_append]; omega, fun H3 k3 I3 => ?_⟩
        have I3 : St8 T.C_Wire A ms H3 S e kn (ltrs S kn net) := I3
        have hll := ltrs_len S kn net I1.sz
        obtain ⟨nv, hn3, rn3⟩ := I3.nt
        refine ⟨_, rfl, A 7, nv, rfl, .inl (SqL.of hn3), fun lt H4 hlt k4 hlt4 => ?_⟩
        have I4 := I3.kp0 k4
        have lne : ∀ i, i < 15 → lt ≠ A i := fun i hi z => by
          obtain ⟨o, ho⟩ := I3.al i hi
          rw [← z, hlt] at ho; cases ho
        have hM7 : ∀ i, i < 15 → i ≠ 7 → A i ∉ [A 7] := fun i hi hn => nmA I1.inj hi (js := [7]) fun j hj => by
          have := List.mem_singleton.mp hj
          omega
        have hn4 := k4.at hn3 nmem_nil
        refine ⟨_, rfl, .inl ⟨rfl, _, SqL.of hn4⟩, A 7, nv, rfl, rfl, hn4, fun H5 k5 hn5 => ?_⟩
        have I5 : St8 T.C_Wire A ms H5 S e kn [] := I4.net k5 hM7 ⟨[], hn5, RepTs.nil⟩ (I4.nm.sub fun _ z => nomatch z)
        have hlt5 := k5.at hlt4 (nmem_one (lne 7 (by omega)))
        have rn5 := (rn3.kp k4).kp k5
        have hnv : nv.length = (ltrs S kn net).length := rn3.lenM
        have lM : lt ∉ mod8 A := fun z => by
          obtain ⟨j, hj, ej⟩ := List.mem_map.mp z
          refine lne j ?_ ej.symm
          simp only [List.mem_cons, List.not_mem_nil, or_false] at hj
          omega
        refine ⟨_, rfl, lt, rfl, ⟨_, SqL.of hlt5⟩, for_list (K := K) (a := lt) (xs := nv) (fun j σ H' => ∃ (A' : Nat → Addr) (k17 : Option V), σ = sg a A k7 k8 k9 k10 k11 k12 k13 k14 (some (.int (0 + i))) (some (.ref lt)) k17 k18 ∧ Kp (mod8 A) H5 H' ∧ (∀ i, i ≠ 5 → i ≠ 6 → A' i = A i) ∧ (∀ i, A' i = A i ∨ H5 (A' i) = none) ∧
            St8 T.C_Wire A' ms H' S (run (e, kn, []) ((ltrs S kn net).take j)).1 (run (e, kn, []) ((ltrs S kn net).take j)).2.1 (run (e, kn, []) ((ltrs S kn net).take j)).2.2)
          ⟨A, _, rfl, Kp.refl, fun _ _ _ => rfl, fun _ => .inl rfl, I5⟩ (fun j σ H' _ ⟨_, _, _, k, _⟩ => k.seq (SqL.of hlt5) lM) ?_ ?_⟩
        · rintro j x σ H6 hx ⟨A', k17, rfl, k6, eA, nA, I6⟩
          obtain ⟨l, hl, rl⟩ := rn5.at hx
          have hjl : j < (ltrs S kn net).length := by rw [← hnv]; exact (List.getElem?_eq_some_iff.mp hx).1
          have lok : l.ok S (run (e, kn, []) ((ltrs S kn net).take j)).1 := Lt.ok_e (ltrs_ok I1.nm l (List.mem_of_getElem? hl)) (fun b => run_e (e, kn, []) _ b)
          have hrl : (run (e, kn, []) ((ltrs S kn net).take j)).2.2.length ≤ ((ltrs S kn net).take j).length := Nat.le_trans (run_len (e, kn, []) _) (Nat.le_of_eq (Nat.zero_add _))
          have htl : ((ltrs S kn net).take j).length ≤ (ltrs S kn net).length := List.length_take_le' _ _
          refine ⟨_, rfl, _, rfl, _, rfl, _, rfl, _, rfl, A', ms, S, _, _, _, l, x, (by rw [eA 7 (by omega) (by omega), eA 2 (by omega) (by omega), eA 11 (by omega) (by omega), eA 14 (by omega) (by omega)]; rfl), I6, by omega, lok, rl.kp k6, fun A'' H7 k7 eA' nA' I7 => ?_⟩
          refine ⟨A'', _, rfl, k6.then' k7 fun y hy => ?_, fun i h5 h6 => (eA' i h5 h6).trans (eA i h5 h6), fun i => ?_, ?_⟩
          · obtain ⟨i, hi, rfl⟩ := List.mem_map.mp hy
            rcases nA i with z | z
            · rw [z]; exact .inl (List.mem_map.mpr ⟨i, hi, rfl⟩)
            · exact .inr z
          · rcases nA' i with z | z
            · rw [z]; exact nA i
            · exact .inr (k6.free z)
          · rw [List.take_add_one, hl, run_app]
            exact I7
        · rintro σ H6 ⟨A', k17, rfl, k6, eA, nA, I6⟩
          rw [hnv, List.take_length] at I6
          have hrl : (run (e, kn, []) (ltrs S kn net)).2.2.length ≤ (ltrs S kn net).length := Nat.le_trans (run_len (e, kn, []) _) (Nat.le_of_eq (Nat.zero_add _))
          exact ⟨A', _, _, _, _, _, _, sg_eq eA, I6, by omega, rd.s I1.nm⟩
      · rintro σ H1 ⟨A, e, kn, net, k15, k16, k17, rfl, I1, hn1, rd⟩
        have f1 := rd.1 (by omega)
        have f2 := rd.2 (by omega)
        have fh : ∀ b, (S (!b)).take (e b) = S (!b) := fun b => List.take_of_length_le (f1 b).1
        have fo : ∀ b, obS (S b) (kn b) = [] := fun b => by
          have := f2 (!b)
          rw [Bool.not_not] at this
          unfold obS obM
          rw [Nat.sub_eq_zero_of_le this]; rfl
        obtain ⟨v0, hh0, rh0⟩ := I1.hn false
        obtain ⟨v1, hh1, rh1⟩ := I1.hn true
        rw [fh false] at rh0
        rw [fh true] at rh1
        obtain ⟨⟨dx, hp0⟩, l0, hl0, rl0⟩ := id (I1.wr false)
        obtain ⟨⟨dy, hp1⟩, l1, hl1, rl1⟩ := id (I1.wr true)
        rw [fo false] at rl0
        rw [fo true] at rl1
        have el0 : l0 = [] := rl0.nilE
        have el1 : l1 = [] := rl1.nilE
        subst el0 el1
        obtain ⟨w0, hs0, rs0⟩ := I1.sn false
        obtain ⟨w1, hs1, rs1⟩ := I1.sn true
        have hz0 := I1.sz false
        have hz1 := I1.sz true
        refine ⟨_, rfl, A 11, _, _, _, rfl, rfl, SqL.of I1.hl, rfl, _, rfl, A 11, _, _, _, rfl, rfl, SqL.of I1.hl, rfl, ?_⟩
        refine ⟨_, rfl, A 2, _, _, _, rfl, rfl, SqL.of I1.wl, rfl, _, _, dx, _, _, rfl, hp0, T.cl_Wire, T.na_Wire_outbox, rfl, A 5, [], rfl, .inl (SqL.of hl0), fun g0 H2 hg0 k2 hg02 => ?_⟩
        refine ⟨_, rfl, A 2, _, _, _, rfl, rfl, SqL.of (k2.at I1.wl nmem_nil), rfl, _, _, dy, _, _, rfl, k2.at hp1 nmem_nil, T.cl_Wire, T.na_Wire_outbox, rfl, A 6, [], rfl, .inl (SqL.of (k2.at hl1 nmem_nil)), fun g1 H3 hg1 k3 hg13 => ⟨(by show 4 ≤ sizeLine; decide), fun m1 H4 hm1 k4 hm14 => ?_⟩⟩
        have k24 := (k2.trans k3).trans k4
        refine ⟨_, rfl, A 8, _, _, _, rfl, rfl, SqL.of (k24.at I1.sl nmem_nil), rfl, _, rfl, A 8, _, _, _, rfl, rfl, SqL.of (k24.at I1.sl nmem_nil), rfl, ?_⟩
        refine ⟨Nat.zero_le _, fun e0 H5 he0 k5 he05 => ⟨Nat.zero_le _, fun e1 H6 he1 k6 he16 => ⟨(by show 4 ≤ sizeLine; decide), fun m2 H7 hm2 k7 hm27 => ?_⟩⟩⟩
        have k57 := (k5.trans k6).trans k7
        have k27 := k24.trans k57
        have k37 := k3.trans (k4.trans k57)
        refine ⟨.sq true [.sq true (S true), .sq true (S false), .sq true [], .sq true []], _, _, rfl,
          Rep.lst (SqL.of (k57.at hm14 nmem_nil)) (Reps.cons (Rep.lst (SqL.of (k27.at hh0 nmem_nil)) (RepTs.reps (rh0.kp k27))) (Reps.cons (Rep.lst (SqL.of (k27.at hh1 nmem_nil)) (RepTs.reps (rh1.kp k27))) (Reps.cons (Rep.lst (SqL.of (k37.at hg02 nmem_nil)) Reps.nil) (Reps.cons (Rep.lst (SqL.of ((k4.trans k57).at hg13 nmem_nil)) Reps.nil) Reps.nil)))),
          Rep.lst (SqL.of hm27) (Reps.cons (Rep.lst (SqL.of (k27.at hs1 nmem_nil)) (RepTs.reps (rs1.kp k27))) (Reps.cons (Rep.lst (SqL.of (k27.at hs0 nmem_nil)) (RepTs.reps (rs0.kp k27))) (Reps.cons (Rep.lst (SqL.of ((k6.trans k7).at he05 nmem_nil)) Reps.nil) (Reps.cons (Rep.lst (SqL.of (k7.at he16 nmem_nil)) Reps.nil) Reps.nil)))), ?_, q _⟩
        refine ⟨by simp, fun d hd => ?_⟩
        rcases List.mem_cons.mp hd with rfl | hd
        · exact ⟨by omega, fun x hx => D.ok_le (n := 1) (m := 2) (I1.ok true x hx) (by decide)⟩
        rcases List.mem_cons.mp hd with rfl | hd
        · exact ⟨by omega, fun x hx => D.ok_le (n := 1) (m := 2) (I1.ok false x hx) (by decide)⟩
        rcases List.mem_cons.mp hd with rfl | hd
        · exact ⟨by simp, fun _ z => nomatch z⟩
        rcases List.mem_cons.mp hd with rfl | hd
        · exact ⟨by simp, fun _ z => nomatch z⟩
        · cases hd
end

end MD
namespace MD
open PySem PySem.Spec PyProof.Rows L2
theorem all_mk {l : PySem.W.OpenLaw} {w : World} {K : PySem.W.Frag} {h : Heap} {mg : Str → Option Value} {fa f0 f1 f2 f3 f4 f5 f6 f7 f8 f9 f10 f11 C_Wire : Addr} (X : K.In h) (G : h.Ns mainGlobals mg) (hfa : mg "law" = some (.ref fa))
    {od0 an0 od1 an1 od2 an2 od3 an3 od4 an4 od5 an5 od6 an6 od7 an7 od8 an8 od9 an9 od10 an10 od11 an11 : Option Addr} {sl0 sl1 sl2 sl3 sl4 sl5 sl6 sl7 sl8 sl9 sl10 sl11 : Array (Option Value)} {oc0 kV0 dc0 pm0 cd0 ct0 oc1 kV1 dc1 pm1 cd1 ct1 oc2 kV2 dc2 pm2 cd2 ct2 oc3 kV3 dc3 pm3 cd3 ct3 oc4 kV4 dc4 pm4 cd4 ct4 oc5 kV5 dc5 pm5 cd5 ct5 oc6 kV6 dc6 pm6 cd6 ct6 oc7 kV7 dc7 pm7 cd7 ct7 oc8 kV8 dc8 pm8 cd8 ct8 oc9 kV9 dc9 pm9 cd9 ct9 oc10 kV10 dc10 pm10 cd10 ct10 oc11 kV11 dc11 pm11 cd11 ct11 : Value}
    (aC_Wire : PySem.W.nsIn K mainGlobals "Wire" = some (some (.ref C_Wire)))
    (a0 : PySem.W.findIn K (.ref C_Wire) "__init__" = some (some (.ref f0)))
    (i0 : PySem.W.isFn K (.ref f0) = true)
    (l0 : K.lookup f0 = some ⟨oc0, od0, .func (PySem.W.fnOf "__init__" "Wire.__init__" (defArgs s_Wire___init__) (defBody s_Wire___init__) (defScope s_Wire___init__) .none kV0 dc0 pm0 an0 cd0 ct0), sl0⟩)
    (c0 : PySem.W.codeIn K cd0 "Wire.__init__" = true)
    (k0 : PySem.W.keepIn K (.ref f0) = true)
    (a1 : PySem.W.findIn K (.ref C_Wire) "send" = some (some (.ref f1)))
    (i1 : PySem.W.isFn K (.ref f1) = true)
    (l1 : K.lookup f1 = some ⟨oc1, od1, .func (PySem.W.fnOf "send" "Wire.send" (defArgs s_Wire_send) (defBody s_Wire_send) (defScope s_Wire_send) .none kV1 dc1 pm1 an1 cd1 ct1), sl1⟩)
    (c1 : PySem.W.codeIn K cd1 "Wire.send" = true)
    (k1 : PySem.W.keepIn K (.ref f1) = true)
    (a2 : PySem.W.findIn K (.ref C_Wire) "take" = some (some (.ref f2)))
    (i2 : PySem.W.isFn K (.ref f2) = true)
    (l2 : K.lookup f2 = some ⟨oc2, od2, .func (PySem.W.fnOf "take" "Wire.take" (defArgs s_Wire_take) (defBody s_Wire_take) (defScope s_Wire_take) .none kV2 dc2 pm2 an2 cd2 ct2), sl2⟩)
    (c2 : PySem.W.codeIn K cd2 "Wire.take" = true)
    (k2 : PySem.W.keepIn K (.ref f2) = true)
    (a3 : PySem.W.findIn K (.ref C_Wire) "acknowledged" = some (some (.ref f3)))
    (i3 : PySem.W.isFn K (.ref f3) = true)
    (l3 : K.lookup f3 = some ⟨oc3, od3, .func (PySem.W.fnOf "acknowledged" "Wire.acknowledged" (defArgs s_Wire_acknowledged) (defBody s_Wire_acknowledged) (defScope s_Wire_acknowledged) .none kV3 dc3 pm3 an3 cd3 ct3), sl3⟩)
    (c3 : PySem.W.codeIn K cd3 "Wire.acknowledged" = true)
    (k3 : PySem.W.keepIn K (.ref f3) = true)
    (a4 : PySem.W.nsIn K mainGlobals "_law_mixed" = some (some (.ref f4)))
    (l4 : K.lookup f4 = some ⟨oc4, od4, .func (PySem.W.fnOf "_law_mixed" "_law_mixed" (defArgs s_law_mixed) (defBody s_law_mixed) (defScope s_law_mixed) .none kV4 dc4 pm4 an4 cd4 ct4), sl4⟩)
    (c4 : PySem.W.codeIn K cd4 "_law_mixed" = true)
    (k4 : PySem.W.keepIn K (.ref f4) = true)
    (a5 : PySem.W.nsIn K mainGlobals "_law_numbers" = some (some (.ref f5)))
    (l5 : K.lookup f5 = some ⟨oc5, od5, .func (PySem.W.fnOf "_law_numbers" "_law_numbers" (defArgs s_law_numbers) (defBody s_law_numbers) (defScope s_law_numbers) .none kV5 dc5 pm5 an5 cd5 ct5), sl5⟩)
    (c5 : PySem.W.codeIn K cd5 "_law_numbers" = true)
    (k5 : PySem.W.keepIn K (.ref f5) = true)
    (a6 : PySem.W.nsIn K mainGlobals "_law_draw" = some (some (.ref f6)))
    (l6 : K.lookup f6 = some ⟨oc6, od6, .func (PySem.W.fnOf "_law_draw" "_law_draw" (defArgs s_law_draw) (defBody s_law_draw) (defScope s_law_draw) .none kV6 dc6 pm6 an6 cd6 ct6), sl6⟩)
    (c6 : PySem.W.codeIn K cd6 "_law_draw" = true)
    (k6 : PySem.W.keepIn K (.ref f6) = true)
    (a7 : PySem.W.nsIn K mainGlobals "_law_equal" = some (some (.ref f7)))
    (l7 : K.lookup f7 = some ⟨oc7, od7, .func (PySem.W.fnOf "_law_equal" "_law_equal" (defArgs s_law_equal) (defBody s_law_equal) (defScope s_law_equal) .none kV7 dc7 pm7 an7 cd7 ct7), sl7⟩)
    (c7 : PySem.W.codeIn K cd7 "_law_equal" = true)
    (k7 : PySem.W.keepIn K (.ref f7) = true)
    (a8 : PySem.W.nsIn K mainGlobals "_law_all_equal" = some (some (.ref f8)))
    (l8 : K.lookup f8 = some ⟨oc8, od8, .func (PySem.W.fnOf "_law_all_equal" "_law_all_equal" (defArgs s_law_all_equal) (defBody s_law_all_equal) (defScope s_law_all_equal) .none kV8 dc8 pm8 an8 cd8 ct8), sl8⟩)
    (c8 : PySem.W.codeIn K cd8 "_law_all_equal" = true)
    (k8 : PySem.W.keepIn K (.ref f8) = true)
    (a9 : PySem.W.nsIn K mainGlobals "_law_ticked" = some (some (.ref f9)))
    (l9 : K.lookup f9 = some ⟨oc9, od9, .func (PySem.W.fnOf "_law_ticked" "_law_ticked" (defArgs s_law_ticked) (defBody s_law_ticked) (defScope s_law_ticked) .none kV9 dc9 pm9 an9 cd9 ct9), sl9⟩)
    (c9 : PySem.W.codeIn K cd9 "_law_ticked" = true)
    (k9 : PySem.W.keepIn K (.ref f9) = true)
    (a10 : PySem.W.nsIn K mainGlobals "_law_delivered" = some (some (.ref f10)))
    (l10 : K.lookup f10 = some ⟨oc10, od10, .func (PySem.W.fnOf "_law_delivered" "_law_delivered" (defArgs s_law_delivered) (defBody s_law_delivered) (defScope s_law_delivered) .none kV10 dc10 pm10 an10 cd10 ct10), sl10⟩)
    (c10 : PySem.W.codeIn K cd10 "_law_delivered" = true)
    (k10 : PySem.W.keepIn K (.ref f10) = true)
    (a11 : PySem.W.nsIn K mainGlobals "law" = some (some (.ref f11)))
    (l11 : K.lookup f11 = some ⟨oc11, od11, .func (PySem.W.fnOf "law" "law" (defArgs s_law) (defBody s_law) (defScope s_law) .none kV11 dc11 pm11 an11 cd11 ct11), sl11⟩)
    (c11 : PySem.W.codeIn K cd11 "law" = true)
    (k11 : PySem.W.keepIn K (.ref f11) = true)
    (pg_Wire : PySem.W.plainGet K C_Wire Str.empty = true)
    (hd_Wire : PySem.W.hasDictIn K C_Wire = true)
    (po_Wire : PySem.W.plainOver K C_Wire = true)
    (sa_Wire : PySem.W.findIn K (.ref C_Wire) "__setattr__" = some (some (.builtin "object.__setattr__")))
    (mk_Wire : PySem.W.makesIn K C_Wire = true)
    (kc_Wire : PySem.W.keepIn K (.ref C_Wire) = true)
    (na_Wire_sent : PySem.W.findIn K (.ref C_Wire) "sent" = some none)
    (na_Wire_outbox : PySem.W.findIn K (.ref C_Wire) "outbox" = some none)
    (na_Wire_expected : PySem.W.findIn K (.ref C_Wire) "expected" = some none)
    (z_bool : PySem.W.nsIn K mainGlobals "bool" = some none)
    (z_int : PySem.W.nsIn K mainGlobals "int" = some none)
    (z_isinstance : PySem.W.nsIn K mainGlobals "isinstance" = some none)
    (z_len : PySem.W.nsIn K mainGlobals "len" = some none)
    (z_list : PySem.W.nsIn K mainGlobals "list" = some none)
    (z_max : PySem.W.nsIn K mainGlobals "max" = some none)
    (z_range : PySem.W.nsIn K mainGlobals "range" = some none)
    (z_str : PySem.W.nsIn K mainGlobals "str" = some none)
    (z_tuple : PySem.W.nsIn K mainGlobals "tuple" = some none)
    : ∃ fd : FuncData, (∀ (s : Shared) (v : Value), BindsTo s fd ⟨[v], []⟩ [("script", v)]) ∧ ∀ base : Heap, K.In base → base.Ns mainGlobals mg → FnOk l.prog w K mg base CX0 20 fa fd ["script"] (spLaw K) := by
  have e := hfa.symm.trans (PySem.W.mg_of X G a11)
  cases e
  have F0 := fun_mk (st := s_Wire___init__) l0 c0 k0
  have b0 := F0.binds (ps := ["self"]) fun _ _ _ _ _ _ us hl => match us, hl with | [_], _ => rfl
  have F1 := fun_mk (st := s_Wire_send) l1 c1 k1
  have b1 := F1.binds (ps := ["self", "body"]) fun _ _ _ _ _ _ us hl => match us, hl with | [_, _], _ => rfl
  have F2 := fun_mk (st := s_Wire_take) l2 c2 k2
  have b2 := F2.binds (ps := ["self", "number"]) fun _ _ _ _ _ _ us hl => match us, hl with | [_, _], _ => rfl
  have F3 := fun_mk (st := s_Wire_acknowledged) l3 c3 k3
  have b3 := F3.binds (ps := ["self", "number"]) fun _ _ _ _ _ _ us hl => match us, hl with | [_, _], _ => rfl
  have F4 := fun_mk (st := s_law_mixed) l4 c4 k4
  have b4 := F4.binds (ps := ["number", "k"]) fun _ _ _ _ _ _ us hl => match us, hl with | [_, _], _ => rfl
  have F5 := fun_mk (st := s_law_numbers) l5 c5 k5
  have b5 := F5.binds (ps := ["script"]) fun _ _ _ _ _ _ us hl => match us, hl with | [_], _ => rfl
  have F6 := fun_mk (st := s_law_draw) l6 c6 k6
  have b6 := F6.binds (ps := ["draws"]) fun _ _ _ _ _ _ us hl => match us, hl with | [_], _ => rfl
  have F7 := fun_mk (st := s_law_equal) l7 c7 k7
  have b7 := F7.binds (ps := ["actual", "due"]) fun _ _ _ _ _ _ us hl => match us, hl with | [_, _], _ => rfl
  have F8 := fun_mk (st := s_law_all_equal) l8 c8 k8
  have b8 := F8.binds (ps := ["actual", "due"]) fun _ _ _ _ _ _ us hl => match us, hl with | [_, _], _ => rfl
  have F9 := fun_mk (st := s_law_ticked) l9 c9 k9
  have b9 := F9.binds (ps := ["net", "wires", "end"]) fun _ _ _ _ _ _ us hl => match us, hl with | [_, _, _], _ => rfl
  have F10 := fun_mk (st := s_law_delivered) l10 c10 k10
  have b10 := F10.binds (ps := ["net", "wires", "handled", "letter", "known"]) fun _ _ _ _ _ _ us hl => match us, hl with | [_, _, _, _, _], _ => rfl
  have F11 := fun_mk (st := s_law) l11 c11 k11
  let T : Txt K mg := {
    C_Wire := C_Wire
    cl_Wire := ⟨pg_Wire, hd_Wire, po_Wire, sa_Wire⟩
    mc_Wire := PySem.W.mg_of X G aC_Wire
    na_Wire_sent := na_Wire_sent
    na_Wire_outbox := na_Wire_outbox
    na_Wire_expected := na_Wire_expected
    mk_Wire := ⟨_, _, ⟨mk_Wire, a0, i0, kc_Wire⟩, PySem.W.mg_of X G aC_Wire, F0, b0⟩
    me_Wire_send := ⟨_, _, ⟨a1, i1, k1⟩, F1, b1⟩
    me_Wire_take := ⟨_, _, ⟨a2, i2, k2⟩, F2, b2⟩
    me_Wire_acknowledged := ⟨_, _, ⟨a3, i3, k3⟩, F3, b3⟩
    d_law_mixed := ⟨_, _, PySem.W.mg_of X G a4, F4, b4⟩
    d_law_numbers := ⟨_, _, PySem.W.mg_of X G a5, F5, b5⟩
    d_law_draw := ⟨_, _, PySem.W.mg_of X G a6, F6, b6⟩
    d_law_equal := ⟨_, _, PySem.W.mg_of X G a7, F7, b7⟩
    d_law_all_equal := ⟨_, _, PySem.W.mg_of X G a8, F8, b8⟩
    d_law_ticked := ⟨_, _, PySem.W.mg_of X G a9, F9, b9⟩
    d_law_delivered := ⟨_, _, PySem.W.mg_of X G a10, F10, b10⟩
    z_bool := PySem.W.mg_none_of X G z_bool
    z_int := PySem.W.mg_none_of X G z_int
    z_isinstance := PySem.W.mg_none_of X G z_isinstance
    z_len := PySem.W.mg_none_of X G z_len
    z_list := PySem.W.mg_none_of X G z_list
    z_max := PySem.W.mg_none_of X G z_max
    z_range := PySem.W.mg_none_of X G z_range
    z_str := PySem.W.mg_none_of X G z_str
    z_tuple := PySem.W.mg_none_of X G z_tuple }
  exact ⟨PySem.W.fnOf "law" "law" (defArgs s_law) (defBody s_law) (defScope s_law) .none kV11 dc11 pm11 an11 cd11 ct11, fun s v => .of_eq rfl, fun base _ _ => ok_law F11 T⟩
theorem walk {l : PySem.W.OpenLaw} {q : Program} {loose : List Str} {XP : (Str → Option Value) → Heap → Prop} {YP : World → Heap → Prop} {d : DefRec} {K : Params → PySem.W.Frag} (hn : l.most = some 63) (hdf : d.params.defaults = [])
    (hY : ∀ (w : World) (h : Heap), YP w h → (K w.params).In h)
    (F : ∀ (w : World) (mg : Str → Option Value) (fa : Addr) (h : Heap), (K w.params).In h → h.Ns mainGlobals mg → mg d.name = some (.ref fa) →
      ∃ fd : FuncData, (∀ (s : Shared) (u : Value), BindsTo s fd ⟨[u], []⟩ [("script", u)]) ∧ ∀ base : Heap, (K w.params).In base → base.Ns mainGlobals mg → FnOk l.prog w (K w.params) mg base CX0 20 fa fd ["script"] (spLaw (K w.params))) :
    PySem.W.WalkO q loose XP YP l.row.toRowW d [] (fun f vs => PySem.call f vs) :=
  L2.walk_of (n := 63) (k := 20) (x := "script") (CX := fun _ => CX0) (sp := fun w => spLaw (K w.params)) hn (by decide) hdf ⟨rfl, by decide, by decide⟩ hY F (fun _ _ a ns hl _ hS => ⟨a, ns, rfl, hS, hl, fun _ => rfl⟩) fun _ _ _ _ _ z => z
end MD
open PySem PySem.W PyProof.Rows
set_option maxRecDepth 100000 in
set_option maxHeartbeats 0 in
theorem PySem.Challenge.cw_manydoors_k08_whole_wires_lose_nothing_holds : PySem.Challenge.rw_manydoors_k08_whole_wires_lose_nothing.Holds := by
  w_on; o_law; k_head; (case hw => w_witness2)
  k_fill
  refine MD.walk (l := PySem.Challenge.rw_manydoors_k08_whole_wires_lose_nothing) rfl rfl (fun w h Y => PySem.W.kIn_of Y) ?F
  case F =>
    intro w mg fa h KX G hmg
    refine' MD.all_mk KX G hmg ?aC_Wire ?a0 ?i0 ?l0 ?c0 ?k0 ?a1 ?i1 ?l1 ?c1 ?k1 ?a2 ?i2 ?l2 ?c2 ?k2 ?a3 ?i3 ?l3 ?c3 ?k3 ?a4 ?l4 ?c4 ?k4 ?a5 ?l5 ?c5 ?k5 ?a6 ?l6 ?c6 ?k6 ?a7 ?l7 ?c7 ?k7 ?a8 ?l8 ?c8 ?k8 ?a9 ?l9 ?c9 ?k9 ?a10 ?l10 ?c10 ?k10 ?a11 ?l11 ?c11 ?k11 ?pg_Wire ?hd_Wire ?po_Wire ?sa_Wire ?mk_Wire ?kc_Wire ?na_Wire_sent ?na_Wire_outbox ?na_Wire_expected ?z_bool ?z_int ?z_isinstance ?z_len ?z_list ?z_max ?z_range ?z_str ?z_tuple
    (case aC_Wire => k_is)
    (case a0 => k_is)
    (case i0 => k_is)
    (case l0 => k_is)
    (case c0 => k_is)
    (case k0 => k_is)
    (case a1 => k_is)
    (case i1 => k_is)
    (case l1 => k_is)
    (case c1 => k_is)
    (case k1 => k_is)
    (case a2 => k_is)
    (case i2 => k_is)
    (case l2 => k_is)
    (case c2 => k_is)
    (case k2 => k_is)
    (case a3 => k_is)
    (case i3 => k_is)
    (case l3 => k_is)
    (case c3 => k_is)
    (case k3 => k_is)
    (case a4 => k_is)
    (case l4 => k_is)
    (case c4 => k_is)
    (case k4 => k_is)
    (case a5 => k_is)
    (case l5 => k_is)
    (case c5 => k_is)
    (case k5 => k_is)
    (case a6 => k_is)
    (case l6 => k_is)
    (case c6 => k_is)
    (case k6 => k_is)
    (case a7 => k_is)
    (case l7 => k_is)
    (case c7 => k_is)
    (case k7 => k_is)
    (case a8 => k_is)
    (case l8 => k_is)
    (case c8 => k_is)
    (case k8 => k_is)
    (case a9 => k_is)
    (case l9 => k_is)
    (case c9 => k_is)
    (case k9 => k_is)
    (case a10 => k_is)
    (case l10 => k_is)
    (case c10 => k_is)
    (case k10 => k_is)
    (case a11 => k_is)
    (case l11 => k_is)
    (case c11 => k_is)
    (case k11 => k_is)
    (case pg_Wire => k_is)
    (case hd_Wire => k_is)
    (case po_Wire => k_is)
    (case sa_Wire => k_is)
    (case mk_Wire => k_is)
    (case kc_Wire => k_is)
    (case na_Wire_sent => k_is)
    (case na_Wire_outbox => k_is)
    (case na_Wire_expected => k_is)
    (case z_bool => k_is)
    (case z_int => k_is)
    (case z_isinstance => k_is)
    (case z_len => k_is)
    (case z_list => k_is)
    (case z_max => k_is)
    (case z_range => k_is)
    (case z_str => k_is)
    (case z_tuple => k_is)
