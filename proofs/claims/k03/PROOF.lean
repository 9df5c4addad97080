import PyProof.Rows.All
import Wide.All
import OpenK.AllK
import Wide.FinOn
import HandS.ForMost
import HandS.IsInst
import HandS.Codes
import HandS.TupSets
import HandS.SortRule
import HandS.DictTup
import KE.KDictCopyH
import PySem.Challenge.RW_manydoors_k03_needs_and_prices
set_option Elab.async false
set_option linter.all false
set_option maxRecDepth 100000
set_option maxHeartbeats 4000000
namespace MD
open PySem PySem.Spec PyProof.Rows L2
/-! ### what changes: only what stands at M; tuples never; what is tracked stays tracked -/
structure Kp (M : List Addr) (H H' : Hp) : Prop where
  keep : ∀ b o, H b = some o → b ∉ M → H' b = some o
  tup : ∀ b xs, H b = some (.tup xs) → H' b = some (.tup xs)
  live : ∀ b o, H b = some o → ∃ o', H' b = some o'
theorem Kp.refl {M : List Addr} {H : Hp} : Kp M H H := ⟨fun _ _ h _ => h, fun _ _ h => h, fun _ o h => ⟨o, h⟩⟩
theorem Kp.trans {M : List Addr} {H H1 H2 : Hp} (a : Kp M H H1) (b : Kp M H1 H2) : Kp M H H2 :=
  ⟨fun x o h n => b.keep x o (a.keep x o h n) n, fun x xs h => b.tup x xs (a.tup x xs h), fun x o h => let ⟨o', h'⟩ := a.live x o h; b.live x o' h'⟩
theorem Kp.mono {M M' : List Addr} {H H' : Hp} (k : Kp M H H') (h : ∀ a, a ∈ M → a ∈ M') : Kp M' H H' :=
  ⟨fun b o e n => k.keep b o e fun z => n (h b z), k.tup, k.live⟩
/-- addresses that were not there may be left out -/
theorem Kp.drop {M M' : List Addr} {H H' : Hp} (k : Kp M H H') (h : ∀ a, a ∈ M → a ∈ M' ∨ H a = none) : Kp M' H H' :=
  ⟨fun b o e n => k.keep b o e fun z => (h b z).elim n fun q => (by rw [q] at e; cases e), k.tup, k.live⟩
theorem Kp.free {M : List Addr} {H H' : Hp} (k : Kp M H H') {b : Addr} (h : H' b = none) : H b = none := by
  cases e : H b with
  | none => rfl
  | some o => obtain ⟨o', h'⟩ := k.live b o e; rw [h] at h'; cases h'
theorem Kp.new {M : List Addr} {H : Hp} {p : Addr} {o : HO} (h : H p = none) : Kp M H (upd H p o) :=
  ⟨fun b u e _ => by rw [upd_ne (ne_of_none e h)]; exact e, fun b u e => by rw [upd_ne (ne_of_none e h)]; exact e, fun b u e => ⟨u, by rw [upd_ne (ne_of_none e h)]; exact e⟩⟩
/-- what may be written over: not a tuple -/
def NT : HO → Prop
  | .tup _ => False
  | _ => True
theorem Kp.old {M : List Addr} {H : Hp} {p : Addr} {o u : HO} (h : H p = some u) (nt : NT u) (m : p ∈ M) : Kp M H (upd H p o) := by
  refine ⟨fun b v e n => ?_, fun b v e => ?_, fun b v e => ?_⟩
  · rw [upd_ne (fun z : b = p => n (by rw [z]; exact m))]; exact e
  · rw [upd_ne (fun z => by rw [z, h] at e; cases e; exact nt)]; exact e
  · by_cases z : b = p
    · rw [z]; exact ⟨o, upd_same⟩
    · exact ⟨v, by rw [upd_ne z]; exact e⟩
/-- an object that was not there is written -/
theorem Kp.own {M : List Addr} {H H1 : Hp} {p : Addr} {o : HO} (k : Kp M H H1) (h : H p = none) : Kp M H (upd H1 p o) :=
  ⟨fun b u e n => by rw [upd_ne (ne_of_none e h)]; exact k.keep b u e n, fun b u e => by rw [upd_ne (ne_of_none e h)]; exact k.tup b u e, fun b u e => by rw [upd_ne (ne_of_none e h)]; exact k.live b u e⟩
theorem Kp.wr {M : List Addr} {H H1 : Hp} {p : Addr} {o u : HO} (k : Kp M H H1) (h : H1 p = some u) (nt : NT u) (m : p ∈ M) : Kp M H (upd H1 p o) := k.trans (Kp.old h nt m)
theorem Kp.nw {M : List Addr} {H H1 : Hp} {p : Addr} {o : HO} (k : Kp M H H1) (h : H1 p = none) : Kp M H (upd H1 p o) := k.own (k.free h)
theorem Kp.at {M : List Addr} {H H' : Hp} {b : Addr} {o : HO} (k : Kp M H H') (h : H b = some o) (n : b ∉ M) : H' b = some o := k.keep b o h n
theorem Kp.seq {M : List Addr} {K : PySem.W.Frag} {H H' : Hp} {a : Addr} {xs : List V} (k : Kp M H H') (h : SqL K H a xs) (n : a ∉ M) : SqL K H' a xs := by
  rcases h with (h | ⟨o, h⟩) | h
  · exact .inl (.inl (k.keep _ _ h n))
  · exact .inl (.inr ⟨o, k.keep _ _ h n⟩)
  · exact .inr h
theorem Kp.sqt {M : List Addr} {K : PySem.W.Frag} {H H' : Hp} {a : Addr} {xs : List V} (k : Kp M H H') (h : H a = some (.tup xs)) : SqT K H' a xs := .inl (.inl (k.tup _ _ h))
theorem nmem_nil {a : Addr} : a ∉ ([] : List Addr) := fun h => nomatch h
theorem nmem_one {a b : Addr} (h : a ≠ b) : a ∉ [b] := fun z => h (by simpa using z)
theorem nmem_two {a b c : Addr} (h : a ≠ b) (h2 : a ≠ c) : a ∉ [b, c] := fun z => by
  rcases List.mem_cons.mp z with e | e
  · exact h e
  · exact nmem_one h2 e
theorem nmem_cons {a b : Addr} {M : List Addr} (h : a ≠ b) (h2 : a ∉ M) : a ∉ b :: M := fun z => (List.mem_cons.mp z).elim h h2

/-! ### defs, methods, classes of the text; what may be called -/
structure DefAt (K : PySem.W.Frag) (mg : Str → Option Value) (x : Str) (st : Stmt) (ps : List Str) : Prop where
  ex : ∃ (f : Addr) (fd : FuncData), mg x = some (.ref f) ∧ L2.Fun K x x st f fd ∧ Binds K fd ps []
structure MethAt (K : PySem.W.Frag) (C : Addr) (m qual : Str) (st : Stmt) (ps : List Str) : Prop where
  ex : ∃ (f : Addr) (fd : FuncData), Meth K C m f ∧ L2.Fun K m qual st f fd ∧ Binds K fd ps []
structure MakeAt (K : PySem.W.Frag) (mg : Str → Option Value) (C : Addr) (x qual : Str) (st : Stmt) (ps : List Str) : Prop where
  ex : ∃ (f : Addr) (fd : FuncData), Mk K C f ∧ mg x = some (.ref C) ∧ L2.Fun K "__init__" qual st f fd ∧ Binds K fd ps []
structure Cal (P : Program) (w : World) (K : PySem.W.Frag) (mg : Str → Option Value) (base : Heap) (k : Nat) (x : Str) (sp : Sp) : Prop where
  ex : ∃ (f : Addr) (fd : FuncData) (ps : List Str), FnOk P w K mg base L2.CX0 k f fd ps sp ∧ mg x = some (.ref f) ∧ PySem.W.keepIn K (.ref f) = true ∧ Binds K fd ps []
structure Met (P : Program) (w : World) (K : PySem.W.Frag) (mg : Str → Option Value) (base : Heap) (k : Nat) (C : Addr) (m : Str) (sp : Sp) : Prop where
  ex : ∃ (f : Addr) (fd : FuncData) (ps : List Str), Cls K C ∧ Meth K C m f ∧ FnOk P w K mg base L2.CX0 k f fd ps sp ∧ Binds K fd ps []
structure Mak (P : Program) (w : World) (K : PySem.W.Frag) (mg : Str → Option Value) (base : Heap) (k : Nat) (x : Str) (C : Addr) (sp : Sp) : Prop where
  ex : ∃ (f : Addr) (fd : FuncData) (ps : List Str), Mk K C f ∧ FnOk P w K mg base L2.CX0 k f fd ps sp ∧ mg x = some (.ref C) ∧ Binds K fd ps []
section
variable {P : Program} {w : World} {K : PySem.W.Frag} {mg : Str → Option Value} {base : Heap}
theorem cal_of {x : Str} {st : Stmt} {N ps : List Str} {k : Nat} {sp : Sp} (D : DefAt K mg x st ps) (S : FnScope N ps (defScope st)) (len : ∀ vs H Q E, sp vs H Q E → vs.length = ps.length)
    (hbody : ∀ (f : Addr) (cdv : Value) (A : Around) (outer : List Env) (s : Shared) (H : Hp) (vs : List V) (Q : VK) (E : XK), Room k (A.deeper (envOfC x (defScope st) s.heap.objs.size f cdv)) → sp vs H Q E →
      ∃ t, PSs (cxOf L2.CX0 P w K mg base N x (defScope st) f cdv A outer s H E).nox (defBody st) t ∧ t { nx := fun _ H' => Q .non H', rt := Q } (start N vs) H) : Cal P w K mg base (k + 1) x sp := by
  obtain ⟨f, fd, hm, F, b⟩ := D.ex
  exact ⟨f, fd, ps, F.ok S len (hbody f), hm, F.kp, b⟩
theorem met_of {C : Addr} {m qual : Str} {st : Stmt} {N ps : List Str} {k : Nat} {sp : Sp} (c : Cls K C) (D : MethAt K C m qual st ps) (S : FnScope N ps (defScope st)) (len : ∀ vs H Q E, sp vs H Q E → vs.length = ps.length)
    (hbody : ∀ (f : Addr) (cdv : Value) (A : Around) (outer : List Env) (s : Shared) (H : Hp) (vs : List V) (Q : VK) (E : XK), Room k (A.deeper (envOfC qual (defScope st) s.heap.objs.size f cdv)) → sp vs H Q E →
      ∃ t, PSs (cxOf L2.CX0 P w K mg base N qual (defScope st) f cdv A outer s H E).nox (defBody st) t ∧ t { nx := fun _ H' => Q .non H', rt := Q } (start N vs) H) : Met P w K mg base (k + 1) C m sp := by
  obtain ⟨f, fd, hm, F, b⟩ := D.ex
  exact ⟨f, fd, ps, c, hm, F.ok S len (hbody f), b⟩
theorem mak_of {C : Addr} {x qual : Str} {st : Stmt} {N ps : List Str} {k : Nat} {sp : Sp} (D : MakeAt K mg C x qual st ps) (S : FnScope N ps (defScope st)) (len : ∀ vs H Q E, sp vs H Q E → vs.length = ps.length)
    (hbody : ∀ (f : Addr) (cdv : Value) (A : Around) (outer : List Env) (s : Shared) (H : Hp) (vs : List V) (Q : VK) (E : XK), Room k (A.deeper (envOfC qual (defScope st) s.heap.objs.size f cdv)) → sp vs H Q E →
      ∃ t, PSs (cxOf L2.CX0 P w K mg base N qual (defScope st) f cdv A outer s H E).nox (defBody st) t ∧ t { nx := fun _ H' => Q .non H', rt := Q } (start N vs) H) : Mak P w K mg base (k + 1) x C sp := by
  obtain ⟨f, fd, hm, mgx, F, b⟩ := D.ex
  exact ⟨f, fd, ps, hm, F.ok S len (hbody f), mgx, b⟩
theorem Cal.imp {x : Str} {k : Nat} {sp sp' : Sp} (c : Cal P w K mg base k x sp) (h : ∀ vs H Q E, sp' vs H Q E → sp vs H Q E) : Cal P w K mg base k x sp' := by
  obtain ⟨f, fd, ps, F, a, b, d⟩ := c.ex
  exact ⟨f, fd, ps, F.imp h, a, b, d⟩
theorem Cal.mono {x : Str} {k j : Nat} {sp : Sp} (c : Cal P w K mg base k x sp) (h : k ≤ j) : Cal P w K mg base j x sp := by
  obtain ⟨f, fd, ps, F, a, b, d⟩ := c.ex
  exact ⟨f, fd, ps, F.mono h, a, b, d⟩
end
section
variable {X : Cx} {k j : Nat} {C : Addr} {x m : Str} {sp : Sp} {p pos apos : Pos} {e o : Expr} {es : List Expr} {ta : TE} {t : TA} {E : XK}
/-- nothing is wanted of an exception: none comes -/
theorem passE : Passes L2.CX0 X E := fun _ _ _ _ _ _ _ h => h.elim
theorem pe_c (c : Cal X.prog X.w X.K X.mg X.base k x sp) (hr : Room k X.A) (hg : Gl X x) (ha : PA X (e :: es) t)
    (hdb : (x == ("__debug__" : Str)) = false := by decide) (he : starEach (e :: es) X.env = (false, eval e X.env) :: starEach es X.env := by rfl) (hpl : (backTo pos (starEach es X.env)).any (·.1) = false := by rfl) :
    PE X (.Call (.Name x p) (e :: es) [] pos) (tCall sp [] L2.E0 t) := by
  obtain ⟨f, fd, ps, F, hm, kp, b⟩ := c.ex
  exact pe_call F hr hg hm kp b .nil pass0 ha hdb he hpl
theorem pe_mt {pl : Sem Bool} (c : Met X.prog X.w X.K X.mg X.base k C m sp) (hr : Room k X.A) (he : PE X o ta) (ha : PA X (e :: es) t)
    (hst : starEach (e :: es) X.env = (false, eval e X.env) :: starEach es X.env := by rfl) (hpl : (backTo pos (starEach es X.env)).any (·.1) = false := by rfl)
    (ht : eval (.Call (.Attribute o m apos) (e :: es) [] pos) X.env = (do
      let ov ← eval o X.env
      standAt apos.atName
      let (f, first) ← holding [ov] (getMethod ov m pl)
      callWith pos f first (backTo pos (starEach (e :: es) X.env)) (backToKw pos (keywordEach [] X.env))) := by rfl) :
    PE X (.Call (.Attribute o m apos) (e :: es) [] pos) (tMeth C m sp [] L2.E0 ta t) := by
  obtain ⟨f, fd, ps, hc, hm, F, b⟩ := c.ex
  exact pe_meth (pl := pl) he hc hm F hr b .nil pass0 ha hst hpl ht
theorem pe_mt0 {pl : Sem Bool} (c : Met X.prog X.w X.K X.mg X.base k C m sp) (hr : Room k X.A) (he : PE X o ta)
    (ht : eval (.Call (.Attribute o m apos) [] [] pos) X.env = (do
      let ov ← eval o X.env
      standAt apos.atName
      let (f, first) ← holding [ov] (getMethod ov m pl)
      callWith pos f first (backTo pos (starEach [] X.env)) (backToKw pos (keywordEach [] X.env))) := by rfl) :
    PE X (.Call (.Attribute o m apos) [] [] pos) (tMeth C m sp [] L2.E0 ta tNil) := by
  obtain ⟨f, fd, ps, hc, hm, F, b⟩ := c.ex
  exact pe_meth0 (pl := pl) he hc hm F hr b .nil pass0 ht
theorem pe_mk (c : Mak X.prog X.w X.K X.mg X.base k x C sp) (hr : Room (k + 1) X.A) (hg : Gl X x) (ha : PA X (e :: es) t)
    (hdb : (x == ("__debug__" : Str)) = false := by decide) (he : starEach (e :: es) X.env = (false, eval e X.env) :: starEach es X.env := by rfl) (hpl : (backTo pos (starEach es X.env)).any (·.1) = false := by rfl) :
    PE X (.Call (.Name x p) (e :: es) [] pos) (tMake C sp [] L2.E0 t) := by
  obtain ⟨f, fd, ps, M, F, hm, b⟩ := c.ex
  exact pe_make M F hr hg hm b .nil pass0 ha hdb he hpl
theorem pe_mk0 (c : Mak X.prog X.w X.K X.mg X.base k x C sp) (hr : Room (k + 1) X.A) (hg : Gl X x)
    (hdb : (x == ("__debug__" : Str)) = false := by decide) :
    PE X (.Call (.Name x p) [] [] pos) (tMake C sp [] L2.E0 tNil) := by
  obtain ⟨f, fd, ps, M, F, hm, b⟩ := c.ex
  exact pe_make0 M F hr hg hm b .nil pass0 hdb
end
/-! ### data: scalars, and lists and tuples of data -/
inductive D where
  | v (x : V)
  | sq (l : Bool) (xs : List D)
/-- a list (l) or a tuple of these values is read at a -/
def SqB (K : PySem.W.Frag) (H : Hp) (l : Bool) (a : Addr) (xs : List V) : Prop := if l = true then SqL K H a xs else SqT K H a xs
def scl : V → Prop
  | .non => True
  | .bl _ => True
  | .int _ => True
  | .str _ => True
  | _ => False
mutual
def Rep (K : PySem.W.Frag) (H : Hp) : D → V → Prop
  | .v y, x => x = y ∧ scl y
  | .sq l ds, x => ∃ a vs, x = .ref a ∧ SqB K H l a vs ∧ Reps K H ds vs
def Reps (K : PySem.W.Frag) (H : Hp) : List D → List V → Prop
  | [], vs => vs = []
  | d :: ds, vs => ∃ v r, vs = v :: r ∧ Rep K H d v ∧ Reps K H ds r
end
mutual
def D.depth : D → Nat
  | .v _ => 0
  | .sq _ ds => Ds.depth ds + 1
def Ds.depth : List D → Nat
  | [] => 0
  | d :: ds => max d.depth (Ds.depth ds)
end
theorem Reps.len {K : PySem.W.Frag} {H : Hp} : ∀ {ds : List D} {vs : List V}, Reps K H ds vs → vs.length = ds.length
  | [], vs, h => by unfold Reps at h; subst h; rfl
  | d :: ds, vs, h => by
    unfold Reps at h
    obtain ⟨v, r, rfl, _, h2⟩ := h
    simp [Reps.len h2]
theorem Reps.get {K : PySem.W.Frag} {H : Hp} : ∀ {ds : List D} {vs : List V} {i : Nat} {d : D}, Reps K H ds vs → ds[i]? = some d → ∃ v, vs[i]? = some v ∧ Rep K H d v
  | [], _, i, _, _, e => by simp at e
  | d :: ds, vs, 0, d', h, e => by
    unfold Reps at h
    obtain ⟨v, r, rfl, h1, _⟩ := h
    simp at e; subst e
    exact ⟨v, rfl, h1⟩
  | d :: ds, vs, i + 1, d', h, e => by
    unfold Reps at h
    obtain ⟨v, r, rfl, _, h2⟩ := h
    obtain ⟨u, e1, e2⟩ := Reps.get h2 (by simpa using e)
    exact ⟨u, by simpa using e1, e2⟩
theorem Ds.depth_mem : ∀ {ds : List D} {i : Nat} {d : D}, ds[i]? = some d → d.depth ≤ Ds.depth ds
  | [], i, _, e => by simp at e
  | d :: ds, 0, d', e => by simp at e; subst e; unfold Ds.depth; omega
  | d :: ds, i + 1, d', e => by
    have := Ds.depth_mem (ds := ds) (i := i) (d := d') (by simpa using e)
    unfold Ds.depth; omega
theorem Rep.int {K : PySem.W.Frag} {H : Hp} {i : Int} : Rep K H (.v (.int i)) (.int i) := by unfold Rep; exact ⟨rfl, trivial⟩
theorem Rep.bl {K : PySem.W.Frag} {H : Hp} {i : Bool} : Rep K H (.v (.bl i)) (.bl i) := by unfold Rep; exact ⟨rfl, trivial⟩
theorem Rep.str {K : PySem.W.Frag} {H : Hp} {i : Str} : Rep K H (.v (.str i)) (.str i) := by unfold Rep; exact ⟨rfl, trivial⟩
theorem Rep.non {K : PySem.W.Frag} {H : Hp} : Rep K H (.v .non) .non := by unfold Rep; exact ⟨rfl, trivial⟩
theorem Reps.nil {K : PySem.W.Frag} {H : Hp} : Reps K H [] [] := by unfold Reps; rfl
theorem Reps.cons {K : PySem.W.Frag} {H : Hp} {d : D} {ds : List D} {v : V} {vs : List V} (h : Rep K H d v) (r : Reps K H ds vs) : Reps K H (d :: ds) (v :: vs) := by unfold Reps; exact ⟨v, vs, rfl, h, r⟩
theorem Rep.lst {K : PySem.W.Frag} {H : Hp} {a : Addr} {vs : List V} {ds : List D} (h : SqL K H a vs) (r : Reps K H ds vs) : Rep K H (.sq true ds) (.ref a) := by unfold Rep; exact ⟨a, vs, rfl, by unfold SqB; rw [if_pos rfl]; exact h, r⟩
theorem Rep.tup {K : PySem.W.Frag} {H : Hp} {a : Addr} {vs : List V} {ds : List D} (h : SqT K H a vs) (r : Reps K H ds vs) : Rep K H (.sq false ds) (.ref a) := by unfold Rep; exact ⟨a, vs, rfl, by unfold SqB; rw [if_neg Bool.false_ne_true]; exact h, r⟩
mutual
/-- data of tuples alone -/
def D.imm : D → Prop
  | .v _ => True
  | .sq l ds => l = false ∧ Ds.imm ds
def Ds.imm : List D → Prop
  | [] => True
  | d :: ds => d.imm ∧ Ds.imm ds
end
mutual
/-- .. that this law has made: tracked tuples -/
def RepT (H : Hp) : D → V → Prop
  | .v y, x => x = y ∧ scl y
  | .sq l ds, x => l = false ∧ ∃ a vs, x = .ref a ∧ H a = some (.tup vs) ∧ RepTs H ds vs
def RepTs (H : Hp) : List D → List V → Prop
  | [], vs => vs = []
  | d :: ds, vs => ∃ v r, vs = v :: r ∧ RepT H d v ∧ RepTs H ds r
end
mutual
theorem RepT.kp {M : List Addr} {H H' : Hp} (k : Kp M H H') : ∀ {d : D} {x : V}, RepT H d x → RepT H' d x
  | .v y, x, h => by unfold RepT at h ⊢; exact h
  | .sq l ds, x, h => by
    unfold RepT at h ⊢
    obtain ⟨e, a, vs, e1, e2, r⟩ := h
    exact ⟨e, a, vs, e1, k.tup _ _ e2, RepTs.kp k r⟩
theorem RepTs.kp {M : List Addr} {H H' : Hp} (k : Kp M H H') : ∀ {ds : List D} {vs : List V}, RepTs H ds vs → RepTs H' ds vs
  | [], vs, h => by unfold RepTs at h ⊢; exact h
  | d :: ds, vs, h => by
    unfold RepTs at h ⊢
    obtain ⟨v, r, e, h1, h2⟩ := h
    exact ⟨v, r, e, RepT.kp k h1, RepTs.kp k h2⟩
end
mutual
theorem RepT.rep {K : PySem.W.Frag} {H : Hp} : ∀ {d : D} {x : V}, RepT H d x → Rep K H d x
  | .v y, x, h => by unfold RepT at h; unfold Rep; exact h
  | .sq l ds, x, h => by
    unfold RepT at h
    obtain ⟨rfl, a, vs, rfl, e2, r⟩ := h
    exact Rep.tup (SqT.of e2) (RepTs.reps r)
theorem RepTs.reps {K : PySem.W.Frag} {H : Hp} : ∀ {ds : List D} {vs : List V}, RepTs H ds vs → Reps K H ds vs
  | [], vs, h => by unfold RepTs at h; unfold Reps; exact h
  | d :: ds, vs, h => by
    unfold RepTs at h
    obtain ⟨v, r, rfl, h1, h2⟩ := h
    exact Reps.cons (RepT.rep h1) (RepTs.reps h2)
end
theorem RepTs.len {H : Hp} : ∀ {ds : List D} {vs : List V}, RepTs H ds vs → vs.length = ds.length
  | [], vs, h => by unfold RepTs at h; subst h; rfl
  | d :: ds, vs, h => by
    unfold RepTs at h
    obtain ⟨v, r, rfl, _, h2⟩ := h
    simp [RepTs.len h2]
theorem RepT.int {H : Hp} {i : Int} : RepT H (.v (.int i)) (.int i) := by unfold RepT; exact ⟨rfl, trivial⟩
theorem RepT.bl {H : Hp} {i : Bool} : RepT H (.v (.bl i)) (.bl i) := by unfold RepT; exact ⟨rfl, trivial⟩
theorem RepT.str {H : Hp} {i : Str} : RepT H (.v (.str i)) (.str i) := by unfold RepT; exact ⟨rfl, trivial⟩
theorem RepT.non {H : Hp} : RepT H (.v .non) .non := by unfold RepT; exact ⟨rfl, trivial⟩
theorem RepTs.nil {H : Hp} : RepTs H [] [] := by unfold RepTs; rfl
theorem RepTs.cons {H : Hp} {d : D} {ds : List D} {v : V} {vs : List V} (h : RepT H d v) (r : RepTs H ds vs) : RepTs H (d :: ds) (v :: vs) := by unfold RepTs; exact ⟨v, vs, rfl, h, r⟩
theorem RepT.tup {H : Hp} {a : Addr} {vs : List V} {ds : List D} (h : H a = some (.tup vs)) (r : RepTs H ds vs) : RepT H (.sq false ds) (.ref a) := by unfold RepT; exact ⟨rfl, a, vs, rfl, h, r⟩
theorem RepTs.snoc {H : Hp} {d : D} {v : V} (h : RepT H d v) : ∀ {ds : List D} {vs : List V}, RepTs H ds vs → RepTs H (ds ++ [d]) (vs ++ [v])
  | [], vs, q => by unfold RepTs at q; subst q; exact RepTs.cons h RepTs.nil
  | e :: ds, vs, q => by
    unfold RepTs at q
    obtain ⟨u, r, rfl, h1, h2⟩ := q
    exact RepTs.cons h1 (RepTs.snoc h h2)
theorem RepTs.get {H : Hp} : ∀ {ds : List D} {vs : List V} {i : Nat} {v : V}, RepTs H ds vs → vs[i]? = some v → ∃ d, ds[i]? = some d ∧ RepT H d v
  | [], _, i, _, h, e => by unfold RepTs at h; subst h; simp at e
  | d :: ds, vs, 0, v', h, e => by
    unfold RepTs at h
    obtain ⟨v, r, rfl, h1, _⟩ := h
    simp at e; subst e
    exact ⟨d, rfl, h1⟩
  | d :: ds, vs, i + 1, v', h, e => by
    unfold RepTs at h
    obtain ⟨v, r, rfl, _, h2⟩ := h
    obtain ⟨u, e1, e2⟩ := RepTs.get h2 (by simpa using e)
    exact ⟨u, by simpa using e1, e2⟩
/-! ### lists of ints -/
theorem int_item {ns : List Int} {i : Nat} {y : V} (h : (ns.map V.int)[i]? = some y) : ∃ z, y = V.int z ∧ ns[i]? = some z := by
  rw [List.getElem?_map] at h
  cases e : ns[i]? with
  | none => rw [e] at h; cases h
  | some z => rw [e] at h; exact ⟨z, (Option.some.inj h).symm, rfl⟩
theorem int_snoc (ms : List Int) (v : Int) : ms.map V.int ++ [V.int v] = (ms ++ [v]).map V.int := by rw [List.map_append]; rfl
theorem at_of {α : Type} {xs : List α} {i : Int} {v : α} (h0 : 0 ≤ i) (h : xs[i.toNat]? = some v) : atI xs i = some v := by
  have q := atI_nat h
  rw [Int.toNat_of_nonneg h0] at q
  exact q
theorem int_at {ns : List Int} {i : Int} {z : Int} (h0 : 0 ≤ i) (h : ns[i.toNat]? = some z) : atI (ns.map V.int) i = some (V.int z) :=
  at_of h0 (by rw [List.getElem?_map, h]; rfl)
def Rg (ns : List Int) : Prop := ∀ x ∈ ns, 0 ≤ x ∧ x < 1000000
theorem Rg.nil : Rg [] := fun _ h => nomatch h
theorem Rg.snoc {ns : List Int} {v : Int} (h : Rg ns) (h0 : 0 ≤ v) (h1 : v < 1000000) : Rg (ns ++ [v]) := fun x hx => by
  rcases List.mem_append.mp hx with z | z
  · exact h x z
  · rw [List.mem_singleton.mp z]; exact ⟨h0, h1⟩
theorem sz {n m : Nat} (h : n ≤ m) (hm : m < 100000 := by omega) : n < sizeLine := Nat.lt_of_le_of_lt h (Nat.lt_of_lt_of_le hm (by decide))
theorem szl {n m : Nat} (h : n ≤ m) (hm : m < 100000 := by omega) : n ≤ sizeLine := Nat.le_of_lt (sz h hm)
/-! ### deep equality: what the data may be -/
def D.ok : Nat → D → Prop
  | _, .v _ => True
  | 0, .sq _ _ => False
  | n + 1, .sq _ ds => ds.length ≤ 100000 ∧ ∀ d ∈ ds, D.ok n d
theorem ty_sq {K : PySem.W.Frag} {H : Hp} {l : Bool} {a : Addr} {vs : List V} (h : SqB K H l a vs) : TyX K H (.ref a) (.type (if l = true then "list" else "tuple")) := by
  cases l with
  | true =>
    have h : SqL K H a vs := h
    rcases h with (h | ⟨o, h⟩) | ⟨o, its, n, hk, hc, _⟩
    · exact .base (.lst h)
    · exact .base (.frz h)
    · exact .kList hk hc
  | false =>
    have h : SqT K H a vs := h
    rcases h with (h | ⟨o, h⟩) | ⟨o, its, n, hk, hc, _⟩
    · exact .base (.tup h)
    · exact .fTuple h
    · exact .kTuple hk hc
theorem SqB.any {K : PySem.W.Frag} {H : Hp} {l : Bool} {a : Addr} {vs : List V} (h : SqB K H l a vs) : SqL K H a vs ∨ SqT K H a vs := by
  cases l with
  | true => exact .inl h
  | false => exact .inr h
theorem SqB.ix {K : PySem.W.Frag} {H : Hp} {l : Bool} {a : Addr} {vs : List V} {i : Int} {v : V} {Q : VK} (h : SqB K H l a vs) (e : atI vs i = some v) (q : Q v H) : rIx K (.ref a) (.int i) H Q := by
  cases l with
  | true => exact .inl ⟨a, vs, i, v, rfl, rfl, h, e, q⟩
  | false => exact .inr (.inl ⟨a, vs, i, v, rfl, rfl, h, e, q⟩)
/-- the type of a scalar, by name -/
def tyS : V → String
  | .non => "NoneType"
  | .bl _ => "bool"
  | .int _ => "int"
  | .str _ => "str"
  | _ => ""
theorem ty_scl {K : PySem.W.Frag} {H : Hp} {v : V} (h : scl v) : TyX K H v (.type (tyS v)) := by
  cases v with
  | non => exact .base .non
  | bl b => exact .base (.bl b)
  | int i => exact .base (.int i)
  | str x => exact .base (.str x)
  | _ => cases h
theorem r_isi {K : PySem.W.Frag} {H : Hp} {x : V} {t c : String} {b : Bool} {Q : VK} (ty : TyX K H x (.type t)) (k : kitB t c = some b) (q : Q (.bl b) H) : rIsi K [x, .ty c] H Q :=
  ⟨x, .ty c, _, _, b, rfl, .ty c, ty, kit_ty k, q⟩
/-! ### rules with the written part by name (within comprehensions the context is another one) -/
section
variable {X : Cx} {K : PySem.W.Frag}
def rLenK (K : PySem.W.Frag) : List V → Hp → VK → Prop := fun xs H Q => ∃ p ys, xs = [.ref p] ∧ (SqL K H p ys ∨ SqT K H p ys) ∧ Q (.int ys.length) H
def rListK (K : PySem.W.Frag) : List V → Hp → VK → Prop := fun xs H Q => ∃ p ys, xs = [.ref p] ∧ (SqL K H p ys ∨ SqT K H p ys) ∧ ∀ l, H l = none → Q (.ref l) (upd H l (.lst ys))
def rTupleK (K : PySem.W.Frag) : List V → Hp → VK → Prop := fun xs H Q => ∃ p ys, xs = [.ref p] ∧ ((SqL K H p ys ∧ ∀ l, H l = none → Q (.ref l) (upd H l (.tup ys))) ∨ (SqT K H p ys ∧ Q (.ref p) H))
theorem ixL (h : X.K = K := by rfl) : IxR X (rIxL K) := by subst h; exact ix_list
theorem ixT (h : X.K = K := by rfl) : IxR X (rIxT K) := by subst h; exact ix_tup
theorem ixS (h : X.K = K := by rfl) : IxR X (rIx K) := by subst h; exact ix_seq
theorem slL (h : X.K = K := by rfl) : SlR X (rSlL K) := by subst h; exact sl_list
theorem slT (h : X.K = K := by rfl) : SlR X (rSlT K) := by subst h; exact sl_tup
theorem lenK (h : X.K = K := by rfl) : CallR X (.builtin "len") (rLenK K) := by subst h; exact call_len_seq
theorem listK (h : X.K = K := by rfl) : CallR X (.type "list") (rListK K) := by subst h; exact call_list_of
theorem tupleK (h : X.K = K := by rfl) : CallR X (.type "tuple") (rTupleK K) := by subst h; exact call_tuple_of
theorem isiK (h : X.K = K := by rfl) : CallR X (.builtin "isinstance") (rIsi K) := by subst h; exact call_isi
theorem inK (h : X.K = K := by rfl) : OpR X (compareOp .In) (rIn K false) := by subst h; exact op_in_seq
theorem niK (h : X.K = K := by rfl) : OpR X (compareOp .NotIn) (rIn K true) := by subst h; exact op_notIn_seq
theorem fldK {e : Expr} {f : Str} {pos : Pos} {ta : TE} (he : PE X e ta) (hb : attributeBase e f X.env (eval e X.env) = eval e X.env) (h : X.K = K := by rfl) : PE X (.Attribute e f pos) (tFld K ta f) := by subst h; exact pe_fld he hb
end
theorem Kp.wrI {M : List Addr} {H H1 : Hp} {p C dx : Addr} {fs : List (Str × V)} {o : HO} (k : Kp M H H1) (h : H1 p = some (.ins C dx fs)) (m : p ∈ M) : Kp M H (upd H1 p o) := k.wr h trivial m
theorem Kp.wrL {M : List Addr} {H H1 : Hp} {p : Addr} {xs : List V} {o : HO} (k : Kp M H H1) (h : H1 p = some (.lst xs)) (m : p ∈ M) : Kp M H (upd H1 p o) := k.wr h trivial m
theorem Kp.wrT {M : List Addr} {H H1 : Hp} {p : Addr} {kvs : List (List Key × V)} {o : HO} (k : Kp M H H1) (h : H1 p = some (.dT kvs)) (m : p ∈ M) : Kp M H (upd H1 p o) := k.wr h trivial m
end MD

namespace MD
open PySem PySem.Spec PyProof.Rows L2
/-! ### rules whose readings tell the heap behind a change by what is kept (Kp), not as a term -/
def mE (t : TE) : TE := fun σ H Q => ∃ R : VK, t σ H R ∧ ∀ x H1, R x H1 → Q x H1
def mA (t : TA) : TA := fun σ H Q => ∃ R : List V → Hp → Prop, t σ H R ∧ ∀ x H1, R x H1 → Q x H1
section
variable {X : Cx} {e : Expr} {es : List Expr} {st : Stmt} {pos : Pos}
theorem peM {t : TE} (h : PE X e t) : PE X e (mE t) := ⟨fun pins s σ H Q I ⟨R, h1, h2⟩ => thn (h.run pins s σ H R I h1) fun _ _ ⟨v, H', J, r, q⟩ => ⟨v, H', J, r, h2 _ _ q⟩⟩
theorem paM {t : TA} (h : PA X es t) : PA X es (mA t) := ⟨fun pos pins s σ H Q I ⟨R, h1, h2⟩ => thn (h.run pos pins s σ H R I h1) fun _ _ ⟨v, H', J, r, q⟩ => ⟨v, H', J, r, h2 _ _ q⟩⟩
theorem peI {t t' : TE} (h : PE X e t) (i : ∀ σ H Q, t' σ H Q → t σ H Q) : PE X e t' := ⟨fun pins s σ H Q I q => h.run pins s σ H Q I (i _ _ _ q)⟩
theorem ptI {t t' : TT} (h : PT X e t) (i : ∀ σ H Q, t' σ H Q → t σ H Q) : PT X e t' := ⟨fun pins s σ H Q I q => h.run pins s σ H Q I (i _ _ _ q)⟩
theorem psI {t t' : TS} (h : PS X st t) (i : ∀ D σ H, t' D σ H → t D σ H) : PS X st t' := ⟨fun pins s σ H D I q => h.run pins s σ H D I (i _ _ _ q)⟩
theorem callI {f : Value} {r r' : List V → Hp → VK → Prop} (h : CallR X f r) (i : ∀ xs H Q, r' xs H Q → r xs H Q) : CallR X f r' := fun pins s σ H xs us Q I v q => h pins s σ H xs us Q I v (i _ _ _ q)
theorem mtI {f : String} {r r' : V → List V → Hp → VK → Prop} (h : MtR X f r) (i : ∀ x xs H Q, r' x xs H Q → r x xs H Q) : MtR X f r' := fun pins s σ H x xs v us Q I a b q => h pins s σ H x xs v us Q I a b (i _ _ _ _ q)
theorem oprI {f : Value → Value → Sem Value} {r r' : R2} (h : OpR X f r) (i : ∀ x y H Q, r' x y H Q → r x y H Q) : OpR X f r' := fun pins s σ H x y v u Q I a b q => h pins s σ H x y v u Q I a b (i _ _ _ _ q)
theorem slrI {r r' : V → Option Int → Option Int → Hp → VK → Prop} (h : SlR X r) (i : ∀ x lo hi H Q, r' x lo hi H Q → r x lo hi H Q) : SlR X r' := fun pins s σ H x v vl vu lo hi sl Q I a b c d q => h pins s σ H x v vl vu lo hi sl Q I a b c d (i _ _ _ _ _ q)
theorem psetI {t t' : TSet} (h : PSet X t) (i : ∀ o i v H Q, t' o i v H Q → t o i v H Q) : PSet X t' := fun pins s σ H o j v ov iv u Q I a b c q => h pins s σ H o j v ov iv u Q I a b c (i _ _ _ _ _ q)

/-- a new object u, told by what is kept -/
def New (H : Hp) (u : HO) (Q : VK) : Prop := ∀ p H2, H p = none → Kp [] H H2 → H2 p = some u → Q (.ref p) H2
theorem New.old {H : Hp} {u : HO} {Q : VK} (h : New H u Q) : ∀ p, H p = none → Q (.ref p) (upd H p u) := fun p hp => h p _ hp (Kp.new hp) upd_same
/-- the object at p is now u -/
def Wr (H : Hp) (p : Addr) (u : HO) (Q : Hp → Prop) : Prop := ∀ H2, Kp [p] H H2 → H2 p = some u → Q H2
theorem Wr.old {H : Hp} {p : Addr} {u o : HO} {Q : Hp → Prop} (h : Wr H p u Q) (e : H p = some o) (nt : NT o) : Q (upd H p u) := h _ (Kp.old e nt List.mem_cons_self) upd_same

def kTup (t : TA) : TE := fun σ H Q => t σ H fun xs H1 => xs.length ≤ sizeLine ∧ New H1 (.tup xs) Q
def kLst (t : TA) : TE := fun σ H Q => t σ H fun xs H1 => xs.length ≤ sizeLine ∧ New H1 (.lst xs) Q
theorem ke_tup {x1} {t : TA} (h : PA X es t) : PE X (.Tuple es x1 pos) (kTup t) := peI (pe_tup (paM h)) fun σ H Q q => ⟨_, q, fun xs H1 r => ⟨r.1, r.2.old⟩⟩
theorem ke_lst {t : TA} (h : PA X es t) : PE X (.List es pos) (kLst t) := peI (pe_lst (paM h)) fun σ H Q q => ⟨_, q, fun xs H1 r => ⟨r.1, r.2.old⟩⟩
def kList (K : PySem.W.Frag) : List V → Hp → VK → Prop := fun xs H Q => ∃ p ys, xs = [.ref p] ∧ (SqL K H p ys ∨ SqT K H p ys) ∧ New H (.lst ys) Q
theorem klistK {K : PySem.W.Frag} (h : X.K = K := by rfl) : CallR X (.type "list") (kList K) := callI (listK h) fun xs H Q ⟨p, ys, a, b, c⟩ => ⟨p, ys, a, b, c.old⟩
def kTuple (K : PySem.W.Frag) : List V → Hp → VK → Prop := fun xs H Q => ∃ p ys, xs = [.ref p] ∧ ((SqL K H p ys ∧ New H (.tup ys) Q) ∨ (SqT K H p ys ∧ Q (.ref p) H))
theorem ktupleK {K : PySem.W.Frag} (h : X.K = K := by rfl) : CallR X (.type "tuple") (kTuple K) := callI (tupleK h) fun xs H Q ⟨p, ys, a, b⟩ => ⟨p, ys, a, b.elim (fun z => .inl ⟨z.1, z.2.old⟩) .inr⟩
def kSlL (K : PySem.W.Frag) : V → Option Int → Option Int → Hp → VK → Prop := fun x lo hi H Q => ∃ a xs, x = .ref a ∧ SqL K H a xs ∧ New H (.lst (cutV xs lo hi)) Q
theorem kslL {K : PySem.W.Frag} (h : X.K = K := by rfl) : SlR X (kSlL K) := slrI (slL h) fun x lo hi H Q ⟨a, xs, e, b, c⟩ => ⟨a, xs, e, b, c.old⟩
def kSlT (K : PySem.W.Frag) : V → Option Int → Option Int → Hp → VK → Prop := fun x lo hi H Q => ∃ a xs, x = .ref a ∧ SqT K H a xs ∧
  ¬ (HT.sIx xs.length 0 lo = 0 ∧ HT.sIx xs.length xs.length hi = xs.length) ∧ New H (.tup (cutV xs lo hi)) Q
theorem kslT {K : PySem.W.Frag} (h : X.K = K := by rfl) : SlR X (kSlT K) := slrI (slT h) fun x lo hi H Q ⟨a, xs, e, b, n, c⟩ => ⟨a, xs, e, b, n, c.old⟩
def kCat : R2 := fun x y H Q => ∃ l b xs zs, x = .ref l ∧ y = .ref b ∧ H l = some (.lst xs) ∧ H b = some (.lst zs) ∧ xs.length + zs.length ≤ sizeLine ∧ New H (.lst (xs ++ zs)) Q
theorem kcat : OpR X (binaryOp .Add) kCat := oprI op_cat fun x y H Q ⟨l, b, xs, zs, h1, h2, h3, h4, h5, q⟩ => ⟨l, b, xs, zs, h1, h2, h3, h4, h5, q.old⟩
def kRep : R2 := fun x y H Q => ∃ l k xs, x = .ref l ∧ y = .int k ∧ H l = some (.lst xs) ∧ -(2 ^ 63) ≤ k ∧ k < 2 ^ 63 ∧ xs.length * k.toNat ≤ sizeLine ∧ New H (.lst (List.replicate k.toNat xs).flatten) Q
theorem krep : OpR X (binaryOp .Mult) kRep := oprI op_rep fun x y H Q ⟨l, k, xs, h1, h2, h3, h4, h5, h6, q⟩ => ⟨l, k, xs, h1, h2, h3, h4, h5, h6, q.old⟩
def kCatT (K : PySem.W.Frag) : R2 := fun x y H Q => ∃ a b xs ys, x = .ref a ∧ y = .ref b ∧ SqT K H a xs ∧ SqT K H b ys ∧ xs ≠ [] ∧ xs.length + ys.length ≤ sizeLine ∧
  (ys = [] → Q (.ref a) H) ∧ (ys ≠ [] → New H (.tup (xs ++ ys)) Q)
theorem kcatT {K : PySem.W.Frag} (h : X.K = K := by rfl) : OpR X (binaryOp .Add) (kCatT K) := by
  subst h
  exact oprI op_catT fun x y H Q ⟨a, b, xs, ys, h1, h2, h3, h4, h5, h6, h7, q⟩ => ⟨a, b, xs, ys, h1, h2, h3, h4, h5, h6, h7, fun z => (q z).old⟩
def kAppend : V → List V → Hp → VK → Prop := fun x vs H Q => ∃ l xs y, x = .ref l ∧ vs = [y] ∧ H l = some (.lst xs) ∧ xs.length < sizeLine ∧ Wr H l (.lst (xs ++ [y])) (Q .non)
theorem mk_append : MtR X "list.append" kAppend := mtI mt_append fun x xs H Q ⟨l, ys, y, h1, h2, h3, h4, q⟩ => ⟨l, ys, y, h1, h2, h3, h4, q.old h3 trivial⟩
def kExtend : V → List V → Hp → VK → Prop := fun x vs H Q => ∃ l b xs zs, x = .ref l ∧ vs = [.ref b] ∧ H l = some (.lst xs) ∧ H b = some (.lst zs) ∧ xs.length + zs.length ≤ sizeLine ∧ Wr H l (.lst (xs ++ zs)) (Q .non)
theorem mk_extend : MtR X "list.extend" kExtend := mtI mt_extend fun x xs H Q ⟨l, b, ys, y, h1, h2, h3, h4, h5, q⟩ => ⟨l, b, ys, y, h1, h2, h3, h4, h5, q.old h3 trivial⟩
def kPop : V → List V → Hp → VK → Prop := fun x vs H Q => ∃ l xs y, x = .ref l ∧ vs = [] ∧ H l = some (.lst xs) ∧ xs[xs.length - 1]? = some y ∧ Wr H l (.lst xs.dropLast) (Q y)
theorem mk_pop : MtR X "list.pop" kPop := mtI mt_pop fun x xs H Q ⟨l, ys, y, h1, h2, h3, h4, q⟩ => ⟨l, ys, y, h1, h2, h3, h4, q.old h3 trivial⟩
def kPopAt : V → List V → Hp → VK → Prop := fun x vs H Q => ∃ l xs i k y, x = .ref l ∧ vs = [.int i] ∧ H l = some (.lst xs) ∧ -(2 ^ 63) ≤ i ∧ i < 2 ^ 63 ∧ seqIndex? i xs.length = some k ∧ xs[k]? = some y ∧ Wr H l (.lst (xs.eraseIdx k)) (Q y)
theorem mk_popAt : MtR X "list.pop" kPopAt := mtI mt_popAt fun x xs H Q ⟨l, ys, i, k, y, h1, h2, h3, h4, h5, h6, h7, q⟩ => ⟨l, ys, i, k, y, h1, h2, h3, h4, h5, h6, h7, q.old h3 trivial⟩
def kClear : V → List V → Hp → VK → Prop := fun x vs H Q => ∃ l xs, x = .ref l ∧ vs = [] ∧ H l = some (.lst xs) ∧ Wr H l (.lst []) (Q .non)
theorem mk_clear : MtR X "list.clear" kClear := mtI mt_clear fun x xs H Q ⟨l, ys, h1, h2, h3, q⟩ => ⟨l, ys, h1, h2, h3, q.old h3 trivial⟩
def kSetL : V → V → V → Hp → (Hp → Prop) → Prop := fun o i v H Q => ∃ p xs k j, o = .ref p ∧ i = .int k ∧ H p = some (.lst xs) ∧ ixN xs.length k = some j ∧ Wr H p (.lst (xs.set j v)) Q
theorem kset_list : PSet X kSetL := psetI set_list fun o i v H Q ⟨p, xs, k, j, h1, h2, h3, h4, q⟩ => ⟨p, xs, k, j, h1, h2, h3, h4, q.old h3 trivial⟩
def kFld (K : PySem.W.Frag) (ta tv : TE) (f : Str) : TS := fun D σ H => tv σ H fun y H1 => ta σ H1 fun x H2 => ∃ a C dx fs, x = .ref a ∧ H2 a = some (.ins C dx fs) ∧ Cls K C ∧ NoAttr K C f ∧ fs.length < 1000 ∧
  Wr H2 a (.ins C dx (putF f y fs)) (D.nx σ)
theorem ks_fld {K : PySem.W.Frag} {o value : Expr} {f : Str} {pos' : Pos} {ta tv : TE} (ha : PE X o ta) (hv : PE X value tv) (hs : swapsWith value (some (.Attribute o f pos')) pos.line X.env = pure false) (h : X.K = K := by rfl) : PS X (.Assign [.Attribute o f pos'] value pos) (kFld K ta tv f) := by
  subst h
  refine psI (ps_fld (peM ha) (peM hv) hs) fun D σ H q => ⟨_, q, fun y H1 r => ⟨_, r, fun x H2 ⟨a, C, dx, fs, h1, h2, h3, h4, h5, q⟩ => ⟨a, C, dx, fs, h1, h2, h3, h4, h5, q.old h2 trivial⟩⟩⟩
def kFldAug (K : PySem.W.Frag) (ta tv : TE) (rd : V → V → Hp → VK → Prop) (f : Str) : TS := fun D σ H => ta σ H fun x H1 => ∃ a C dx fs v, x = .ref a ∧ H1 a = some (.ins C dx fs) ∧ Cls K C ∧ NoAttr K C f ∧ fs.lookup f = some v ∧
  tv σ H1 fun y H2 => rd v y H2 fun z H3 => ∃ dx' fs', H3 a = some (.ins C dx' fs') ∧ fs'.length < 1000 ∧ Wr H3 a (.ins C dx' (putF f z fs')) (D.nx σ)
def mR (r : V → V → Hp → VK → Prop) : V → V → Hp → VK → Prop := fun x y H Q => ∃ R : VK, r x y H R ∧ ∀ z H1, R z H1 → Q z H1
theorem inM {op : Operator} {rd : V → V → Hp → VK → Prop} (h : InOp X op rd) : InOp X op (mR rd) := fun pins s σ H x y u v Q I a b ⟨R, h1, h2⟩ => thn (h pins s σ H x y u v R I a b h1) fun _ _ ⟨v, H', J, r, q⟩ => ⟨v, H', J, r, h2 _ _ q⟩
theorem ks_fldaug {K : PySem.W.Frag} {o value : Expr} {f : Str} {tpos : Pos} {ta tv : TE} {op : Operator} {rd : V → V → Hp → VK → Prop} (ha : PE X o ta) (hv : PE X value tv) (hop : InOp X op rd) (h : X.K = K := by rfl) : PS X (.AugAssign (.Attribute o f tpos) op value pos) (kFldAug K ta tv rd f) := by
  subst h
  refine psI (ps_fldaug (peM ha) (peM hv) (inM hop)) fun D σ H q => ⟨_, q, fun x H1 ⟨a, C, dx, fs, v, h1, h2, h3, h4, h5, q⟩ => ⟨a, C, dx, fs, v, h1, h2, h3, h4, h5, _, q, fun y H2 q => ⟨_, q, fun z H3 ⟨dx', fs', h1, h2, q⟩ => ⟨dx', fs', h1, h2, q.old h1 trivial⟩⟩⟩⟩
def kMake (C : Addr) (sp : Sp) (t : TA) : TE := fun σ H Q => t σ H fun vs H1 => ∀ x dx H2, H1 x = none → Kp [] H1 H2 → H2 x = some (.ins C dx []) → sp (.ref x :: vs) H2 (fun v H3 => v = .non ∧ Q (.ref x) H3) L2.E0
theorem kMake.old {C : Addr} {sp : Sp} {vs : List V} {H1 : Hp} {Q : VK} (h : ∀ x dx H2, H1 x = none → Kp [] H1 H2 → H2 x = some (.ins C dx []) → sp (.ref x :: vs) H2 (fun v H3 => v = .non ∧ Q (.ref x) H3) L2.E0) :
    ∀ x dx, H1 x = none → H1 dx = none → dx ≠ x → sp (.ref x :: (vs ++ [])) (upd (upd H1 dx (.own x)) x (.ins C dx [])) (fun v H2 => v = .non ∧ Q (.ref x) H2) L2.E0 := fun x dx hx hdx hne => by
  rw [List.append_nil]
  exact h x dx _ hx ((Kp.new hdx).own hx) upd_same
theorem ke_mk {k : Nat} {x : Str} {C : Addr} {sp : Sp} {p : Pos} {t : TA} (c : Mak X.prog X.w X.K X.mg X.base k x C sp) (hr : Room (k + 1) X.A) (hg : Gl X x) (ha : PA X (e :: es) t)
    (hdb : (x == ("__debug__" : Str)) = false := by decide) (he : starEach (e :: es) X.env = (false, eval e X.env) :: starEach es X.env := by rfl) (hpl : (backTo pos (starEach es X.env)).any (·.1) = false := by rfl) :
    PE X (.Call (.Name x p) (e :: es) [] pos) (kMake C sp t) := peI (pe_mk c hr hg (paM ha) hdb he hpl) fun σ H Q q => ⟨_, q, fun vs H1 r => kMake.old r⟩
theorem ke_mk0 {k : Nat} {x : Str} {C : Addr} {sp : Sp} {p : Pos} (c : Mak X.prog X.w X.K X.mg X.base k x C sp) (hr : Room (k + 1) X.A) (hg : Gl X x)
    (hdb : (x == ("__debug__" : Str)) = false := by decide) : PE X (.Call (.Name x p) [] [] pos) (kMake C sp tNil) := peI (pe_mk0 c hr hg hdb) fun σ H Q q => kMake.old q
end
/-! ### comprehensions: what the made list holds (acc) apart from the rest -/
def mI (t : TI) : TI := fun σ H Q => ∃ R : It → Hp → Prop, t σ H R ∧ ∀ x H1, R x H1 → Q x H1
def mG (t : TG) : TG := fun v σ H Q => ∃ R : L2.St → Hp → Prop, t v σ H R ∧ ∀ x H1, R x H1 → Q x H1
def mT (t : TT) : TT := fun σ H Q => ∃ R : Bool → Hp → Prop, t σ H R ∧ ∀ x H1, R x H1 → Q x H1
section
variable {X : Cx}
theorem piM {tg iter : Expr} {t : TI} (h : PI X tg iter t) : PI X tg iter (mI t) := ⟨fun pins s σ H Q I ⟨R, h1, h2⟩ => thn (h.run pins s σ H R I h1) fun _ _ q => thn q fun _ _ ⟨it, fp, tn, J, H', a, b, c, d, e, r⟩ => ⟨it, fp, tn, J, H', a, b, c, d, e, h2 _ _ r⟩⟩
theorem pgM {tg : Expr} {t : TG} (h : PG X tg t) : PG X tg (mG t) := ⟨fun pins s σ H v u Q I r ⟨R, h1, h2⟩ => thn (h.run pins s σ H v u R I r h1) fun _ _ ⟨σ', H', J, q⟩ => ⟨σ', H', J, h2 _ _ q⟩⟩
theorem ptsM {ifs : List Expr} {t : TT} (h : PTs X ifs t) : PTs X ifs (mT t) := ⟨fun pins s σ H Q I ⟨R, h1, h2⟩ => thn (h.run pins s σ H R I h1) fun _ _ ⟨H', J, q⟩ => ⟨H', J, h2 _ _ q⟩⟩
end
/-- behind an element: y goes to the list at D -/
def Put (D : Addr) (acc : List V) (Nx : List V → Hp → Prop) (y : V) (H4 : Hp) : Prop := H4 D = some (.lst acc) ∧ acc.length < sizeLine ∧ ∀ H5, Kp [D] H4 H5 → H5 D = some (.lst (acc ++ [y])) → Nx (acc ++ [y]) H5
/-- one turn of a comprehension -/
def Turn1 (g : TG) (tt : TT) (te : TE) (vs : List Nat) (σ : L2.St) (D : Addr) (acc : List V) (Nx : List V → Hp → Prop) (x : V) (H' : Hp) : Prop :=
  g x (wipe σ vs) H' fun σ2 H2 => wipe σ2 vs = wipe σ vs ∧ tt σ2 H2 fun b H3 => if b = true then te σ2 H3 (Put D acc Nx) else H3 D = some (.lst acc) ∧ Nx acc H3
def kLcW (g : TG) (tt : TT) (te : TE) (vs : List Nat) (σ : L2.St) (J : It) (D : Addr) (H1' : Hp) (Qd : Hp → Prop) : Prop := ∃ W : Nat → Nat → List V → Hp → Prop, (∃ m, W 0 m [] H1') ∧ ∀ i m acc H, H D = some (.lst acc) → W i m acc H →
  (J.stop i H ∧ Qd H) ∨ (J.go i H ∧ ∃ Nx : List V → Hp → Prop, (∀ acc H', Nx acc H' → ∃ m', m' < m ∧ W (i + 1) m' acc H') ∧ ∀ x H', J.yld i H x H' → Turn1 g tt te vs σ D acc Nx x H')
def kLc (wi : TI) (g : TG) (tt : TT) (te : TE) (vs : List Nat) : TE := fun σ H Q => wi σ H fun J H1 => ∀ D H1', H1 D = none → Kp [] H1 H1' → H1' D = some (.lst []) → kLcW g tt te vs σ J D H1' (Q (.ref D))
theorem kLc.old {wi : TI} {g : TG} {tt : TT} {te : TE} {vs : List Nat} {σ : L2.St} {H : Hp} {Q : VK} (h : kLc wi g tt te vs σ H Q) : tLc (mI wi) (mG g) (mT tt) (mE te) vs σ H Q := by
  refine ⟨_, h, fun J H1 r D hD => ?_⟩
  obtain ⟨W, ⟨m, w0⟩, turn⟩ := r D _ hD (Kp.new hD) upd_same
  refine ⟨fun i m H => ∃ acc, H D = some (.lst acc) ∧ W i m acc H, ⟨m, [], upd_same, w0⟩, ?_⟩
  rintro i m H ⟨acc, hD, w⟩
  rcases turn i m acc H hD w with ⟨a, b⟩ | ⟨go, Nx, hN, step⟩
  · exact .inl ⟨a, b⟩
  · refine .inr ⟨go, fun H' => ∃ acc, H' D = some (.lst acc) ∧ Nx acc H', fun H' ⟨acc', h1, h2⟩ => let ⟨m', a, b⟩ := hN acc' H' h2; ⟨m', a, acc', h1, b⟩, fun x H' y => ?_⟩
    refine ⟨_, step x H' y, fun σ2 H2 ⟨e, t⟩ => ⟨e, _, t, fun b H3 q => ?_⟩⟩
    cases b with
    | true =>
      refine iteT ?_
      refine ⟨_, (show te σ2 H3 (Put D acc Nx) from q), fun y H4 ⟨h1, h2, h3⟩ => ⟨acc, h1, h2, _, upd_same, h3 _ (Kp.old h1 trivial List.mem_cons_self) upd_same⟩⟩
    | false => exact iteF ⟨acc, q⟩
section
variable {X : Cx}
theorem ke_lc {elt tg iter : Expr} {ifs : List Expr} {scope : Scope} {own : List (Str × Nat)} {pos : Pos} {wi : TI} {g : TG} {tt : TT} {te : TE} (hc : X.calm = true) (hN : X.N.Nodup) (hi : PI X tg iter wi) (ok : BlkOk X.N X.env.scope scope own)
    (hg : ∀ (s : Shared) (H : Hp) (C : Addr) (cl : List (Str × Addr)) (fp : List Addr), PG (X.blk s H scope (compEnvC scope cl C X.env) fp) tg g) (ht : ∀ (s : Shared) (H : Hp) (C : Addr) (cl : List (Str × Addr)) (fp : List Addr), PTs (X.blk s H scope (compEnvC scope cl C X.env) fp) ifs tt)
    (he : ∀ (s : Shared) (H : Hp) (C : Addr) (cl : List (Str × Addr)) (fp : List Addr), PE (X.blk s H scope (compEnvC scope cl C X.env) fp) elt te) (hs : ∀ x, foldedSetIterable iter X.env x = pure x := by intro _; rfl) :
    PE X (.ListComp elt [⟨tg, iter, ifs, 0⟩] scope pos) (kLc wi g tt te (own.map (·.2))) :=
  peI (pe_lc hc hN (piM hi) ok (fun a b c d e => pgM (hg a b c d e)) (fun a b c d e => ptsM (ht a b c d e)) (fun a b c d e => peM (he a b c d e)) hs) fun σ H Q q => kLc.old q
theorem ks_setLc {i : Nat} {y : Str} {py : Pos} {elt tg iter : Expr} {ifs : List Expr} {scope : Scope} {own : List (Str × Nat)} {pos spos : Pos} {wi : TI} {g : TG} {tt : TT} {te : TE} (hc : X.calm = true) (hN : X.N.Nodup) (hy : X.N[i]? = some y) (hyl : X.env.scope.names.lookup y = some .local)
    (hsw : swapsWith (.ListComp elt [⟨tg, iter, ifs, 0⟩] scope pos) (some (.Name y py)) spos.line X.env = pure true) (hi : PI X tg iter wi) (ok : BlkOk X.N X.env.scope scope own)
    (hg : ∀ (s : Shared) (H : Hp) (C : Addr) (cl : List (Str × Addr)) (fp : List Addr), PG (X.blk s H scope (compEnvC scope cl C X.env) fp) tg g) (ht : ∀ (s : Shared) (H : Hp) (C : Addr) (cl : List (Str × Addr)) (fp : List Addr), PTs (X.blk s H scope (compEnvC scope cl C X.env) fp) ifs tt)
    (he : ∀ (s : Shared) (H : Hp) (C : Addr) (cl : List (Str × Addr)) (fp : List Addr), PE (X.blk s H scope (compEnvC scope cl C X.env) fp) elt te) (hs : ∀ x, foldedSetIterable iter X.env x = pure x := by intro _; rfl) :
    PS X (.Assign [.Name y py] (.ListComp elt [⟨tg, iter, ifs, 0⟩] scope pos) spos) (tAsg (kLc wi g tt te (own.map (·.2))) (gName i)) :=
  psI (ps_setLc hc hN hy hyl hsw (piM hi) ok (fun a b c d e => pgM (hg a b c d e)) (fun a b c d e => ptsM (ht a b c d e)) (fun a b c d e => peM (he a b c d e)) hs) fun D σ H q => kLc.old q
end
section
variable {K : PySem.W.Frag} {a : Addr} {xs : List V} {g : TG} {tt : TT} {te : TE} {vs : List Nat} {σ : L2.St} {H1 : Hp} {D : Addr} {Qd : Hp → Prop}
theorem kl_list (Pv : Nat → List V → Hp → Prop) (h0 : Pv 0 [] H1) (hl : ∀ i acc H, Pv i acc H → SqL K H a xs)
    (hs : ∀ i x acc H, xs[i]? = some x → H D = some (.lst acc) → Pv i acc H → Turn1 g tt te vs σ D acc (Pv (i + 1)) x H) (hd : ∀ acc H, H D = some (.lst acc) → Pv xs.length acc H → Qd H) : kLcW g tt te vs σ (Itl K a) D H1 Qd := by
  refine ⟨fun i m acc H => m = xs.length - i ∧ i ≤ xs.length ∧ Pv i acc H, ⟨xs.length, by simp, Nat.zero_le _, h0⟩, ?_⟩
  rintro i m acc H hD ⟨rfl, hi, p⟩
  have q := hl i acc H p
  by_cases hlt : i < xs.length
  · refine .inr ⟨⟨xs, xs[i], q, by simp [hlt]⟩, Pv (i + 1), fun acc H' p' => ⟨xs.length - (i + 1), by omega, rfl, hlt, p'⟩, fun x H' y => ?_⟩
    obtain ⟨e, y⟩ := y
    subst e
    exact hs i x acc _ (y xs q) hD p
  · have e : i = xs.length := by omega
    subst e
    exact .inl ⟨⟨xs, q, Nat.le_refl _⟩, hd acc H hD p⟩
theorem kl_tup (Pv : Nat → List V → Hp → Prop) (h0 : Pv 0 [] H1) (hl : ∀ i acc H, Pv i acc H → SqT K H a xs)
    (hs : ∀ i x acc H, xs[i]? = some x → H D = some (.lst acc) → Pv i acc H → Turn1 g tt te vs σ D acc (Pv (i + 1)) x H) (hd : ∀ acc H, H D = some (.lst acc) → Pv xs.length acc H → Qd H) : kLcW g tt te vs σ (Itt K a) D H1 Qd := by
  refine ⟨fun i m acc H => m = xs.length - i ∧ i ≤ xs.length ∧ Pv i acc H, ⟨xs.length, by simp, Nat.zero_le _, h0⟩, ?_⟩
  rintro i m acc H hD ⟨rfl, hi, p⟩
  have q := hl i acc H p
  by_cases hlt : i < xs.length
  · refine .inr ⟨⟨xs, xs[i], q, by simp [hlt]⟩, Pv (i + 1), fun acc H' p' => ⟨xs.length - (i + 1), by omega, rfl, hlt, p'⟩, fun x H' y => ?_⟩
    obtain ⟨e, y⟩ := y
    subst e
    exact hs i x acc _ (y xs q) hD p
  · have e : i = xs.length := by omega
    subst e
    exact .inl ⟨⟨xs, q, Nat.le_refl _⟩, hd acc H hD p⟩
theorem kl_range {lo : Int} {n : Nat} (Pv : Nat → List V → Hp → Prop) (h0 : Pv 0 [] H1)
    (hs : ∀ i acc H, i < n → H D = some (.lst acc) → Pv i acc H → Turn1 g tt te vs σ D acc (Pv (i + 1)) (.int (lo + i)) H) (hd : ∀ acc H, H D = some (.lst acc) → Pv n acc H → Qd H) : kLcW g tt te vs σ (Itr lo n) D H1 Qd := by
  refine ⟨fun i m acc H => m = n - i ∧ i ≤ n ∧ Pv i acc H, ⟨n, by simp, Nat.zero_le _, h0⟩, ?_⟩
  rintro i m acc H hD ⟨rfl, hi, p⟩
  by_cases hlt : i < n
  · refine .inr ⟨hlt, Pv (i + 1), fun acc H' p' => ⟨n - (i + 1), by omega, rfl, hlt, p'⟩, fun x H' y => ?_⟩
    obtain ⟨e, y⟩ := y
    subst e y
    exact hs i acc _ hlt hD p
  · have e : i = n := by omega
    subst e
    exact .inl ⟨Nat.le_refl _, hd acc H hD p⟩
end
end MD

namespace MD
open PySem PySem.Spec PyProof.Rows L2
/-! ### more of what is kept; tuples of numbers -/
theorem Kp.then' {M M' : List Addr} {H0 H H5 : Hp} (k : Kp M H0 H) (k' : Kp M' H H5) (h : ∀ a, a ∈ M' → a ∈ M ∨ H0 a = none) : Kp M H0 H5 := by
  refine ⟨fun b o e n => k'.keep b o (k.keep b o e n) fun z => ?_, fun b xs e => k'.tup b xs (k.tup b xs e), fun b o e => let ⟨o', e'⟩ := k.live b o e; k'.live b o' e'⟩
  rcases h b z with q | q
  · exact n q
  · rw [q] at e; cases e
theorem Kp.th0 {M : List Addr} {H0 H H5 : Hp} (k : Kp M H0 H) (k' : Kp [] H H5) : Kp M H0 H5 := k.then' k' fun _ z => nomatch z
theorem Kp.put {M : List Addr} {H0 H H5 : Hp} {p : Addr} (k : Kp M H0 H) (k' : Kp [p] H H5) (h : H0 p = none) : Kp M H0 H5 := k.then' k' fun a z => .inr (by rw [List.mem_singleton.mp z]; exact h)
theorem Kp.putM {M : List Addr} {H0 H H5 : Hp} {p : Addr} (k : Kp M H0 H) (k' : Kp [p] H H5) (h : p ∈ M) : Kp M H0 H5 := k.then' k' fun a z => .inl (by rw [List.mem_singleton.mp z]; exact h)
theorem Kp.nil {M : List Addr} {H H' : Hp} (k : Kp [] H H') : Kp M H H' := k.mono fun _ z => nomatch z
def intD (rs : List Int) : List D := rs.map fun r => D.v (.int r)
theorem ints_rep {H : Hp} : ∀ rs : List Int, RepTs H (intD rs) (rs.map V.int)
  | [] => RepTs.nil
  | _ :: r => RepTs.cons RepT.int (ints_rep r)
theorem ints_of {H : Hp} : ∀ {rs : List Int} {vs : List V}, RepTs H (intD rs) vs → vs = rs.map V.int
  | [], vs, h => by unfold intD RepTs at h; exact h
  | a :: r, vs, h => by
    unfold intD at h
    rw [List.map_cons] at h
    unfold RepTs at h
    obtain ⟨v, w, rfl, h1, h2⟩ := h
    unfold RepT at h1
    obtain ⟨rfl, _⟩ := h1
    rw [ints_of (rs := r) h2]; rfl
/-- a tuple of data, opened -/
theorem RepT.tupE {H : Hp} {l : Bool} {ds : List D} {x : V} (h : RepT H (.sq l ds) x) : ∃ a vs, x = .ref a ∧ H a = some (.tup vs) ∧ RepTs H ds vs := by
  unfold RepT at h
  obtain ⟨_, h⟩ := h
  exact h
theorem RepT.tupI {H : Hp} {rs : List Int} {x : V} (h : RepT H (.sq false (intD rs)) x) : ∃ a, x = .ref a ∧ H a = some (.tup (rs.map V.int)) := by
  obtain ⟨a, vs, e, h1, h2⟩ := h.tupE
  rw [ints_of h2] at h1
  exact ⟨a, e, h1⟩
theorem RepT.tupI' {H : Hp} {rs : List Int} {a : Addr} (h : H a = some (.tup (rs.map V.int))) : RepT H (.sq false (intD rs)) (.ref a) := RepT.tup h (ints_rep rs)
theorem RepTs.consE {H : Hp} {d : D} {ds : List D} {vs : List V} (h : RepTs H (d :: ds) vs) : ∃ v r, vs = v :: r ∧ RepT H d v ∧ RepTs H ds r := by unfold RepTs at h; exact h
theorem RepTs.nilE {H : Hp} {vs : List V} (h : RepTs H [] vs) : vs = [] := by unfold RepTs at h; exact h
theorem RepT.intE {H : Hp} {i : Int} {x : V} (h : RepT H (.v (.int i)) x) : x = .int i := by unfold RepT at h; exact h.1
theorem RepT.vE {H : Hp} {y : V} {x : V} (h : RepT H (.v y) x) : x = y := by unfold RepT at h; exact h.1
theorem at_mem (zs : List Int) {i : Int} (h0 : 0 ≤ i) (h1 : i < zs.length) : ∃ z, atI (zs.map V.int) i = some (.int z) ∧ z ∈ zs := by
  have hl : i.toNat < zs.length := by omega
  exact ⟨zs[i.toNat], int_at h0 (by simp [hl]), List.getElem_mem hl⟩
theorem md (z : Int) (n : Int) (h : 0 < n) : 0 ≤ z % n ∧ z % n < n := ⟨Int.emod_nonneg _ (by omega), Int.emod_lt_of_pos _ h⟩
/-- an inn: rooms, nights, sellers, prices, share -/
structure Su where
  rooms : List Int
  nights : Int
  sellers : Int
  prices : List (List Int)
  share : Int
structure Su.ok (s : Su) : Prop where
  r1 : 1 ≤ s.rooms.length
  r3 : s.rooms.length ≤ 3
  rr : ∀ r ∈ s.rooms, 0 ≤ r ∧ r ≤ 4
  n1 : 1 ≤ s.nights
  n12 : s.nights ≤ 12
  s1 : 1 ≤ s.sellers
  s4 : s.sellers ≤ 4
  pl : s.prices.length = s.rooms.length
  pr : ∀ r ∈ s.prices, (r.length : Int) = s.nights ∧ ∀ p ∈ r, 0 ≤ p ∧ p ≤ 1000000
  h0 : 0 ≤ s.share
  h100 : s.share ≤ 100
def suD (s : Su) : D := .sq false [.sq false (intD s.rooms), .v (.int s.nights), .v (.int s.sellers), .sq false (s.prices.map fun r => .sq false (intD r)), .v (.int s.share)]
/-- the tuple of an inn's setup, opened -/
structure SuAt (H : Hp) (a r p : Addr) (s : Su) : Prop where
  ha : H a = some (.tup [.ref r, .int s.nights, .int s.sellers, .ref p, .int s.share])
  hr : H r = some (.tup (s.rooms.map V.int))
  hp : ∃ ps, H p = some (.tup ps) ∧ RepTs H (s.prices.map fun r => D.sq false (intD r)) ps
theorem SuAt.kp {M : List Addr} {H H' : Hp} {a r p : Addr} {s : Su} (h : SuAt H a r p s) (k : Kp M H H') : SuAt H' a r p s :=
  ⟨k.tup _ _ h.ha, k.tup _ _ h.hr, h.hp.elim fun ps q => ⟨ps, k.tup _ _ q.1, q.2.kp k⟩⟩
theorem SuAt.rep {H : Hp} {a r p : Addr} {s : Su} (h : SuAt H a r p s) : RepT H (suD s) (.ref a) := by
  obtain ⟨ps, h1, h2⟩ := h.hp
  exact RepT.tup h.ha (RepTs.cons (RepT.tupI' h.hr) (RepTs.cons RepT.int (RepTs.cons RepT.int (RepTs.cons (RepT.tup h1 h2) (RepTs.cons RepT.int RepTs.nil)))))
/-- prices[k]: a row -/
theorem SuAt.row {H : Hp} {a r p : Addr} {s : Su} (h : SuAt H a r p s) {k : Nat} {row : List Int} (e : s.prices[k]? = some row) : ∃ ps q, H p = some (.tup ps) ∧ ps[k]? = some (.ref q) ∧ H q = some (.tup (row.map V.int)) := by
  obtain ⟨ps, h1, h2⟩ := h.hp
  have hl : ps.length = s.prices.length := by rw [h2.len, List.length_map]
  obtain ⟨hk, _⟩ := List.getElem?_eq_some_iff.mp e
  have e1 : ps[k]? = some (ps[k]'(by omega)) := by simp [show k < ps.length by omega]
  obtain ⟨d, hd, rd⟩ := h2.get e1
  rw [List.getElem?_map, e] at hd
  cases hd
  obtain ⟨q, eq, hq⟩ := rd.tupI
  exact ⟨ps, q, h1, by rw [e1, eq], hq⟩
theorem turn1 {te : TE} {vs : List Nat} {σ : L2.St} {D : Addr} {acc : List V} {Nx : List V → Hp → Prop} {x : V} {H : Hp} {i : Nat} (hw : wipe ((wipe σ vs).set i (some x)) vs = wipe σ vs) (h : te ((wipe σ vs).set i (some x)) H (Put D acc Nx)) :
    Turn1 (gName i) tYes te vs σ D acc Nx x H := by
  refine ⟨hw, ?_⟩
  show (if true = true then te ((wipe σ vs).set i (some x)) H (Put D acc Nx) else H D = some (.lst acc) ∧ Nx acc H)
  exact iteT h
end MD

namespace MD
open PySem PySem.Spec PyProof.Rows L2
/-! ### stays and parties -/
abbrev Sy := Int × Int × Int
def syI (s : Sy) : List Int := [s.1, s.2.1, s.2.2]
def syD (s : Sy) : D := .sq false (intD (syI s))
def ptD (p : List Sy) : D := .sq false (p.map syD)
structure Sy.ok (su : Su) (s : Sy) : Prop where
  k0 : 0 ≤ s.1
  k1 : s.1 < su.rooms.length
  f0 : 0 ≤ s.2.1
  fe : s.2.1 < s.2.2
  e1 : s.2.2 ≤ su.nights
/-- not later, by kind, first night, end -/
def Sy.le (a b : Sy) : Prop := a.1 < b.1 ∨ (a.1 = b.1 ∧ (a.2.1 < b.2.1 ∨ (a.2.1 = b.2.1 ∧ a.2.2 ≤ b.2.2)))
structure Pty (su : Su) (p : List Sy) : Prop where
  l1 : 1 ≤ p.length
  l4 : p.length ≤ 4
  ok : ∀ s ∈ p, Sy.ok su s
  srt : p.Pairwise Sy.le
theorem RepTs.perm {α : Type} {H : Hp} {f : α → D} {ys xs : List V} (p : ys.Perm xs) : ∀ {ss : List α}, RepTs H (ss.map f) xs → ∃ ss' : List α, ss'.Perm ss ∧ RepTs H (ss'.map f) ys := by
  induction p with
  | nil =>
    intro ss h
    cases ss with
    | nil => exact ⟨[], .refl _, h⟩
    | cons a r => obtain ⟨v, w, e, _⟩ := h.consE; cases e
  | cons x p ih =>
    intro ss h
    cases ss with
    | nil => have := h.nilE; cases this
    | cons a r =>
      obtain ⟨v, w, e, h1, h2⟩ := h.consE
      injection e with e1 e2
      subst e1 e2
      obtain ⟨ss', p', h'⟩ := ih h2
      exact ⟨a :: ss', p'.cons a, RepTs.cons h1 h'⟩
  | swap x y l =>
    intro ss h
    cases ss with
    | nil => have := h.nilE; cases this
    | cons a r =>
      obtain ⟨v, w, e, h1, h2⟩ := h.consE
      injection e with e1 e2
      subst e1 e2
      cases r with
      | nil => have := h2.nilE; cases this
      | cons b r =>
        obtain ⟨v2, w2, e, h3, h4⟩ := h2.consE
        injection e with e1 e2
        subst e1 e2
        exact ⟨b :: a :: r, .swap _ _ _, RepTs.cons h3 (RepTs.cons h1 h4)⟩
  | trans p1 p2 ih1 ih2 =>
    intro ss h
    obtain ⟨s2, q2, h2⟩ := ih2 h
    obtain ⟨s1, q1, h1⟩ := ih1 h2
    exact ⟨s1, q1.trans q2, h1⟩
theorem RepTs.at {α : Type} {H : Hp} {f : α → D} {ss : List α} {vs : List V} {i : Nat} {v : V} (h : RepTs H (ss.map f) vs) (e : vs[i]? = some v) : ∃ s, ss[i]? = some s ∧ RepT H (f s) v := by
  obtain ⟨d, hd, r⟩ := h.get e
  rw [List.getElem?_map] at hd
  cases q : ss[i]? with
  | none => rw [q] at hd; cases hd
  | some s => rw [q] at hd; cases hd; exact ⟨s, rfl, r⟩
theorem RepTs.lenM {α : Type} {H : Hp} {f : α → D} {ss : List α} {vs : List V} (h : RepTs H (ss.map f) vs) : vs.length = ss.length := by rw [h.len, List.length_map]
theorem RepTs.set {H : Hp} : ∀ {ds : List D} {vs : List V} {i : Nat} {d : D} {v : V}, RepTs H ds vs → RepT H d v → RepTs H (ds.set i d) (vs.set i v)
  | [], vs, _, _, _, h, _ => by have := h.nilE; subst this; exact RepTs.nil
  | e :: ds, vs, 0, d, v, h, r => by
    obtain ⟨u, w, rfl, h1, h2⟩ := h.consE
    exact RepTs.cons r h2
  | e :: ds, vs, i + 1, d, v, h, r => by
    obtain ⟨u, w, rfl, h1, h2⟩ := h.consE
    exact RepTs.cons h1 (RepTs.set h2 r)
theorem syD_at {H : Hp} {s : Sy} {x : V} (h : RepT H (syD s) x) : ∃ a, x = .ref a ∧ H a = some (.tup [.int s.1, .int s.2.1, .int s.2.2]) := h.tupI
theorem syD_of {H : Hp} {a : Addr} {k f e : Int} (h : H a = some (.tup [.int k, .int f, .int e])) : RepT H (syD (k, f, e)) (.ref a) := RepT.tupI' h
theorem code3 (a b c : Int) : TS.code 16 [a, b, c] = a * 256 + b * 16 + c := by
  simp only [TS.code, List.length_cons, List.length_nil]
  omega
theorem sy_le {su : Su} {a b : Sy} (ha : Sy.ok su a) (hb : Sy.ok su b) (hn : su.nights ≤ 12) (h : TS.code 16 (syI a) ≤ TS.code 16 (syI b)) : Sy.le a b := by
  unfold syI at h
  rw [code3, code3] at h
  have := ha.f0; have := ha.fe; have := ha.e1; have := hb.f0; have := hb.fe; have := hb.e1
  unfold Sy.le
  omega
/-- sorted(..) of a list of tuples of d ints below B, fewer than 64 -/
def kSortU (K : PySem.W.Frag) (d : Nat) (B : Int) : List V → Hp → VK → Prop := fun vs H Q => ∃ (a : Addr) (xs : List V), vs = [V.ref a] ∧ SqL K H a xs ∧ xs.length < 64 ∧ (∀ x ∈ xs, ∃ ns, TupI K H x ns ∧ ns.length = d ∧ TS.Bd B ns) ∧
  ∀ ys : List V, ys.Perm xs → ys.Pairwise (fun x y => ∀ n m, TupI K H x n → TupI K H y m → TS.code B n ≤ TS.code B m) → New H (.lst ys) Q
theorem ksortU {X : Cx} {K : PySem.W.Frag} {d : Nat} {B : Int} (hd : 1 ≤ d) (h : X.K = K := by rfl) : CallR X (.builtin "sorted") (kSortU K d B) := by
  subst h
  exact callI (cr_sortT hd) fun xs H Q ⟨a, ys, h1, h2, h3, h4, h5⟩ => ⟨a, ys, h1, h2, h3, h4, fun zs p h6 h7 h8 => (h5 zs h6 h7).old p h8⟩
theorem tupI_of {K : PySem.W.Frag} {H : Hp} {a : Addr} {ns : List Int} (h : H a = some (.tup (ns.map V.int))) : TupI K H (.ref a) ns := ⟨a, rfl, SqT.of h⟩
end MD

/-! pairs ((i, j), x), sorted by their distinct (i, j) -/
namespace MD
open PySem PySem.Spec PyProof.Rows L2 SrtO Srt
section
variable {prog : Program} {w : World} {A : Around} {E : Value → Shared → Prop} {s : Shared}
theorem eqBool_self {v : Value} {Q : Bool → Shared → Prop} (hv : (v == v) = true) (h : Q true s) : wpAny (model prog w) A (eqBool v v) Q E s := by
  unfold eqBool
  try with_reducible refine wpAny_holding ?_
  show wpAny _ _ (if (v == v) = true then _ else _) Q E s
  rw [if_pos hv]
  exact wpAny_bind (wpAny_rule (wpAny_pure h))
/-- v is a tuple of a tuple of the ints i, j, and of something -/
def IsNP (h : Heap) (v : Value) (i j : Int) : Prop := ∃ a q x t u o n o2 n2, v = .ref a ∧ h.get? a = some o ∧ o.cls = .type "tuple" ∧ o.data = .seq #[.ref q, x] n ∧ h.get? q = some o2 ∧ o2.cls = .type "tuple" ∧ o2.data = .seq #[.int i t, .int j u] n2 ∧ (x == x) = true
theorem IsNP.keeps {h h' : Heap} {v : Value} {i j : Int} (p : IsNP h v i j) (k : ∀ b o, h.get? b = some o → o.cls = .type "tuple" → h'.get? b = some o) : IsNP h' v i j := by
  obtain ⟨a, q, x, t, u, o, n, o2, n2, e, h1, h2, h3, h4, h5, h6, h7⟩ := p
  exact ⟨a, q, x, t, u, o, n, o2, n2, e, k _ _ h1 h2, h2, h3, k _ _ h4 h5, h5, h6, h7⟩
theorem np_cmp {vs : List Value} {k : Value → Int × Int} (hu : A.units < cLine) (hp : ∀ v ∈ vs, IsNP s.heap v (k v).1 (k v).2) (hd : ∀ v ∈ vs, ∀ u ∈ vs, k v = k u → v = u) : Cmp prog w A s (tuples' false) (fun p => p.1 ∈ vs) (lt2 fun v u => lexB (k v) (k u)) := by
  intro p q hm hm'
  have h1 := hp _ hm
  have h2 := hp _ hm'
  have hdd := hd _ hm _ hm'
  show wpAny (model prog w) A (keyLt' (tuples' false) p.1 q.1) (fun r s' => s' = s ∧ r = lexB (k p.1) (k q.1)) (fun _ _ => False) s
  unfold lexB
  generalize k p.1 = kp at h1 hdd ⊢
  generalize k q.1 = kq at h2 hdd ⊢
  obtain ⟨x, y⟩ := kp
  obtain ⟨x', y'⟩ := kq
  obtain ⟨a, c, z, t, u, o, n, o2, n2, e, ho, hc, hdt, ho2, hc2, hd2, hz⟩ := h1
  obtain ⟨a', c', z', t', u', o', n', o2', n2', e', ho', hc', hdt', ho2', hc2', hd2', hz'⟩ := h2
  have k1 : IsTupleKey (L2.mixKind prog w) s.heap [Sum.inl x, Sum.inl y] c := ⟨o2, _, n2, ho2, hc2, hd2, .cons (L2.mixKind_int prog w x t) (.cons (L2.mixKind_int prog w y u) .nil)⟩
  have k2 : IsTupleKey (L2.mixKind prog w) s.heap [Sum.inl x', Sum.inl y'] c' := ⟨o2', _, n2', ho2', hc2', hd2', .cons (L2.mixKind_int prog w x' t') (.cons (L2.mixKind_int prog w y' u') .nil)⟩
  by_cases ek : (x, y) = (x', y')
  · have ee := hdd ek
    have hb : lexB (x, y) (x', y') = false := by rw [ek]; exact lexB_no.mpr (by omega)
    have hb' : (if (x, y).1 = (x', y').1 then decide ((x, y).2 < (x', y').2) else decide ((x, y).1 < (x', y').1)) = false := hb
    rw [hb']
    have ea : a = a' := by rw [e, e'] at ee; injection ee
    subst ea
    rw [ho] at ho'; cases ho'
    rw [hdt] at hdt'
    injection hdt' with hd5 hd6
    subst hd6
    have l1 := congrArg Array.toList hd5
    injection l1 with l2 l3
    injection l3 with l4 l5
    subst l4
    rw [e, e']
    refine PySem.W.kat_lt ho hdt ho hdt ?_
    show PySem.W.KatLex prog w A false (decide (2 < 2)) _ [(.ref c, .ref c), (z, z)] 0 s
    refine PySem.W.kat_cons (eqBool_self (by simp) ?_)
    refine PySem.W.kat_yes (PySem.W.kat_cons (eqBool_self hz ?_))
    exact PySem.W.kat_yes (PySem.W.kat_nil ⟨rfl, rfl⟩)
  · rw [e, e']
    refine PySem.W.kat_lt ho hdt ho' hdt' ?_
    show PySem.W.KatLex prog w A false (decide (2 < 2)) _ [(.ref c, .ref c'), (z, z')] 0 s
    refine PySem.W.kat_cons (wpAny_eqBool_tuple hu k1 k2 ?_)
    refine PySem.W.kat_go (fun e0 => ?_) (fun _ => ?_)
    · exfalso
      have z0 := of_decide_eq_true e0
      injection z0 with z1 z2
      injection z2 with z3 _
      exact ek (by rw [Sum.inl.inj z1, Sum.inl.inj z3])
    · refine PySem.W.kat_no ?_
      show wpAny _ _ (oneLt' false _ _) _ _ _
      refine PySem.W.kat_one _ _ (HT.lt_tupInts (ns := [x, y]) (ms := [x', y']) ⟨o2, ho2, hc2, n2, hd2⟩ ⟨o2', ho2', hc2', n2', hd2'⟩ ?_ ?_ hu ?_)
      · exact intsAre_of (ns := [x, y]) (.cons ⟨t, rfl⟩ (.cons ⟨u, rfl⟩ .nil))
      · exact intsAre_of (ns := [x', y']) (.cons ⟨t', rfl⟩ (.cons ⟨u', rfl⟩ .nil))
      · refine ⟨rfl, ?_⟩
        show HT.lexLt [x, y] [x', y'] = (if x = x' then decide (y < y') else decide (x < x'))
        rw [HT.lexLt_cons]
        by_cases h : x = x'
        · rw [if_pos h, if_pos h, HT.lexLt_cons]
          by_cases h2 : y = y'
          · exact absurd (by rw [h, h2]) ek
          · rw [if_neg h2]
        · rw [if_neg h, if_neg h]
theorem np_firsts {h : Heap} : ∀ {vs : List Value}, (∀ v ∈ vs, ∃ i j, IsNP h v i j) → ∃ fs : List Value, PySem.W.KatTups h vs fs ∧ fs.length = vs.length ∧ ∀ f ∈ fs, ∃ (q : Addr) (o : Obj), f = Value.ref q ∧ h.get? q = some o ∧ o.cls = .type "tuple"
  | [], _ => ⟨[], PySem.W.KatTups.nil, rfl, fun f hf => by simp at hf⟩
  | v :: vs, x => by
    obtain ⟨fs, k, hl, hi⟩ := np_firsts (vs := vs) fun u hu => x u (List.mem_cons_of_mem _ hu)
    obtain ⟨i, j, a, q, z, t, u, o, n, o2, n2, rfl, ho, hc, hd, ho2, hc2, _⟩ := x v List.mem_cons_self
    refine ⟨.ref q :: fs, PySem.W.KatTups.cons ho hc hd rfl k, by rw [List.length_cons, List.length_cons, hl], fun f hf => ?_⟩
    rcases List.mem_cons.mp hf with rfl | hf
    · exact ⟨q, o2, rfl, ho2, hc2⟩
    · exact hi f hf
theorem np_sortable {a : Addr} {vs : List Value} {k : Value → Int × Int} (hu : A.units < cLine) (h0 : 0 < vs.length) (hp : ∀ v ∈ vs, IsNP s.heap v (k v).1 (k v).2) (hdd : ∀ v ∈ vs, ∀ u ∈ vs, k v = k u → v = u) (ha : ∀ o, s.heap.get? a = some o → o.cls ≠ .type "tuple") :
    SortableO prog w A s a vs fun v u => lexB (k v) (k u) := by
  intro h' keep
  have hp' : ∀ v ∈ vs, IsNP h' v (k v).1 (k v).2 := fun v hm => (hp v hm).keeps fun b o e c => keep b o (fun z => by subst z; exact ha o e c) e
  obtain ⟨fs, h1, h2, h3⟩ := np_firsts fun v hm => ⟨_, _, hp' v hm⟩
  refine ⟨tuples' false, fun Q E hq => ?_, np_cmp hu hp' hdd⟩
  refine PySem.W.kat_kind (T := .type "tuple") h1 (by omega) (fun f hm => ?_) (by rfl) ?_
  · obtain ⟨q, o, rfl, ho, hc⟩ := h3 f hm
    have z : PySem.W.Looks (model prog w) h' (typeOf (.ref q)) o.cls := (PySem.W.Looks.ld ho).andThen .now
    rw [hc] at z
    exact z
  · have e : (Value.type "tuple" != Value.type "tuple") = false := by first | rfl | decide | simp
    rw [e]
    exact hq
theorem sorted_np {l : Addr} {vs : List Value} {k : Value → Int × Int} {Q : Value → Shared → Prop} (hu : A.in1.in1.units < cLine) (hl : s.heap.IsList l vs.toArray) (hz : vs.length ≤ sizeLine) (hp : ∀ v ∈ vs, IsNP s.heap v (k v).1 (k v).2) (hdd : ∀ v ∈ vs, ∀ u ∈ vs, k v = k u → v = u)
    (h : ∀ (h' : Heap) (d : Addr) (out : List Value), Srtd (fun v u => lexB (k v) (k u)) out → Stb (fun v u => lexB (k v) (k u)) out vs → (∀ b o, s.heap.get? b = some o → h'.get? b = some o) → s.heap.objs.size ≤ d → (∃ n, h'.get? d = some (seqObj "list" out.toArray n)) → Q (.ref d) { s with heap := h' }) :
    wpAny (model prog w) A (call (.builtin "sorted") [.ref l]) Q E s := by
  refine sorted_ord (swo_lex k) hl hz (fun h2 h₁ a ha kk => ?_) fun out hs hb => ?_
  · refine np_sortable (s := { s with heap := h₁ }) hu (by omega) (fun v hm => (hp v hm).keeps fun b o e _ => (kk b o e).2) hdd fun o e => ?_
    have e' : some o = some (seqObj "list" vs.toArray 0) := e.symm.trans ha
    cases e'
    intro c
    exact absurd (Value.type.inj c) (by decide)
  · exact h _ _ out hs hb (fun b o e => sortedAll_old e) (Nat.le_succ _) (sortedAll_at s.heap vs out.toArray)
end
/-- sorted(xs), xs a list of pairs ((i, j), x) with distinct (i, j) (k says which) -/
def kSortN (K : PySem.W.Frag) : List V → Hp → VK → Prop := fun vs H Q => ∃ (a : Addr) (xs : List V) (k : V → Int × Int), vs = [V.ref a] ∧ SqL K H a xs ∧ (∀ x ∈ xs, ∃ t q z, x = V.ref t ∧ H t = some (.tup [.ref q, z]) ∧ H q = some (.tup [.int (k x).1, .int (k x).2])) ∧
  (∀ x ∈ xs, ∀ y ∈ xs, k x = k y → x = y) ∧ ∀ ys, Srtd (ltP k) ys → Stb (ltP k) ys xs → New H (.lst ys) Q
theorem relV_beq {v : V} {u : Value} (h : RelV v u) (n : ∀ b, v ≠ .flt b) : (u == u) = true := by
  first | exact beq_self_eq_true u | simp
theorem ksortN {X : Cx} {K : PySem.W.Frag} (hu : X.A.in1.in1.units < cLine) (h : X.K = K := by rfl) : CallR X (.builtin "sorted") (kSortN K) := by
  subst h
  intro pins s σ H vs us Q I r h
  obtain ⟨a, xs, k, rfl, hs, hx, hdd, q⟩ := h
  obtain ⟨its, rv, hl, hz⟩ := I.list hs
  obtain ⟨u, rfl, ru⟩ := vals1 r
  obtain rfl : u = Value.ref a := ru
  obtain ⟨e1, e2⟩ := refs_back rv fun x m => by
    obtain ⟨t, _, _, e, _⟩ := hx x m
    exact ⟨t, e⟩
  refine sorted_np (k := fun u => k (backV u)) hu hl.isList (by rw [← rv.length]; exact hz) (fun v hv => ?_) (fun v hv u hu2 ek => ?_) fun h' d out h1 h2 kp hd hn => ?_
  · obtain ⟨t, rfl⟩ := e2 v hv
    have hm : V.ref t ∈ xs := by rw [e1]; exact List.mem_map.mpr ⟨_, hv, rfl⟩
    obtain ⟨t', q', z, e, ht, hq⟩ := hx _ hm
    cases e
    obtain ⟨_, its2, r2, o, ho, hc, n, hd⟩ := I.hok _ _ ht
    obtain ⟨u1, u2, rfl, ri, rj⟩ := vals2 r2
    obtain rfl : u1 = Value.ref q' := ri
    obtain ⟨_, its3, r3, o3, ho3, hc3, n3, hd3⟩ := I.hok _ _ hq
    obtain ⟨w1, w2, rfl, rk, rl⟩ := vals2 r3
    obtain ⟨t1, rfl⟩ := rk
    obtain ⟨t2, rfl⟩ := rl
    exact ⟨t, q', u2, t1, t2, o, n, o3, n3, rfl, ho, hc, hd, ho3, hc3, hd3, by simp⟩
  · obtain ⟨t, rfl⟩ := e2 v hv
    obtain ⟨t', rfl⟩ := e2 u hu2
    have := hdd (.ref t) (by rw [e1]; exact List.mem_map.mpr ⟨_, hv, rfl⟩) (.ref t') (by rw [e1]; exact List.mem_map.mpr ⟨_, hu2, rfl⟩) ek
    cases this
    rfl
  · have h3 : ∀ u ∈ out, ∃ a, u = Value.ref a := fun u hu => e2 u (h2.perm.mem_iff.mp hu)
    obtain ⟨n, hn⟩ := hn
    have hb : Stb (ltP k) (out.map backV) xs := by
      rw [e1]
      exact Stb.map (ltP_swo k) backV h2
    refine ⟨.ref d, upd H d (.lst (out.map backV)), I.laid (t' := s.toks) kp hd ⟨?_, out, n, vals_back h3, hn⟩, rfl, (q _ (srtd_map h1) hb).old d (I.hok.fresh hd)⟩
    rw [hb.len]
    exact hz
end MD

namespace MD
open PySem PySem.Spec PyProof.Rows L2
/-! ### dicts with tuple keys; locks; comprehensions of two clauses; sums -/
theorem Kp.same {M : List Addr} {H H2 : Hp} {d : Addr} {u : HO} (k : Kp (d :: M) H H2) (h : H d = some u) (h2 : H2 d = some u) : Kp M H H2 := by
  refine ⟨fun b o e n => ?_, k.tup, k.live⟩
  by_cases z : b = d
  · rw [z] at e ⊢
    rw [h] at e; cases e; exact h2
  · exact k.keep b o e fun q => (List.mem_cons.mp q).elim z n
section
variable {X : Cx} {pos : Pos}
def kNewT : TE := fun _ H Q => New H (.dT []) Q
theorem ke_dnewT : PE X (.Dict [] [] pos) kNewT := peI pe_dnewT fun σ H Q q => New.old q
def kNewK : TE := fun _ H Q => New H (.dK []) Q
theorem ke_dnewK : PE X (.Dict [] [] pos) kNewK := peI pe_dnewK fun σ H Q q => New.old q
def kDPutT (td ty tv : TE) : TS := fun D σ H => tv σ H fun v H1 => td σ H1 fun x H2 => ty σ H2 fun y H3 => ∃ a kvs k b, x = .ref a ∧ y = .ref b ∧ H3 a = some (.dT kvs) ∧ H3 b = some (.tup (k.map kV)) ∧ kvs.length < sizeLine ∧ Wr H3 a (.dT (putK kvs k v)) (D.nx σ)
theorem ks_dputT {o i value : Expr} {pos' : Pos} {td ty tv : TE} (hu : X.A.units + 1 < cLine) (ho : PE X o td) (hi : PE X i ty) (hv : PE X value tv) (hs : swapsWith value (some (.Subscript o i pos')) pos.line X.env = pure false) :
    PS X (.Assign [.Subscript o i pos'] value pos) (kDPutT td ty tv) :=
  psI (ps_dput hu (peM ho) (peM hi) (peM hv) hs) fun D σ H q => ⟨_, q, fun v H1 q => ⟨_, q, fun x H2 q => ⟨_, q, fun y H3 ⟨a, kvs, k, b, h1, h2, h3, h4, h5, q⟩ => ⟨a, _, h1, .inr ⟨kvs, k, b, h3, h2, h4, h5, rfl⟩, q.old h3 trivial⟩⟩⟩⟩
def kLockE (t : TE) : TE := fun σ H Q => ∃ d u, H d = some u ∧ Mut (some u) ∧ NT u ∧ ∀ od H1, Kp [d] H H1 → H1 d = some (.frz od u) → t σ H1 fun v H' => H' d = some (.frz od u) ∧ Wr H' d u (Q v)
theorem ke_lock {e : Expr} {t : TE} (h : PE X e t) : PE X e (kLockE t) :=
  peI (pe_lock (peM h)) fun σ H Q ⟨d, u, h1, h2, nt, q⟩ => ⟨d, u, h1, h2, fun od => ⟨_, q od _ (Kp.old h1 nt List.mem_cons_self) upd_same, fun v H' ⟨h3, w⟩ => ⟨h3, w.old h3 trivial⟩⟩⟩
end
/-! the keys of a locked dict, one by one -/
section
variable {d : Addr} {od : Obj} {kvs : List (List Key × V)} {g : TG} {tt : TT} {te : TE} {vs : List Nat} {σ : L2.St} {H1 : Hp} {D : Addr} {Qd : Hp → Prop}
theorem kl_keysT (Pv : Nat → List V → Hp → Prop) (h0 : Pv 0 [] H1) (hl : ∀ i acc H, Pv i acc H → H d = some (.frz od (.dT kvs)))
    (hs : ∀ i k v q acc H, kvs[i]? = some (k, v) → H q = some (.tup (k.map kV)) → H D = some (.lst acc) → Pv i acc H → Turn1 g tt te vs σ D acc (Pv (i + 1)) (.ref q) H) (hd : ∀ acc H, H D = some (.lst acc) → Pv kvs.length acc H → Qd H) : kLcW g tt te vs σ (Itkt d od kvs) D H1 Qd := by
  refine ⟨fun i m acc H => m = kvs.length - i ∧ i ≤ kvs.length ∧ Pv i acc H, ⟨kvs.length, by simp, Nat.zero_le _, h0⟩, ?_⟩
  rintro i m acc H hD ⟨rfl, hi, p⟩
  have q := hl i acc H p
  by_cases hlt : i < kvs.length
  · refine .inr ⟨⟨q, hlt⟩, Pv (i + 1), fun acc H' p' => ⟨kvs.length - (i + 1), by omega, rfl, hlt, p'⟩, fun x H' y => ?_⟩
    obtain ⟨e, k, v, b, e1, e2, e3⟩ := y
    subst e e2
    exact hs i k v b acc _ e1 e3 hD p
  · have e : i = kvs.length := by omega
    subst e
    exact .inl ⟨⟨q, Nat.le_refl _⟩, hd acc H hD p⟩
end
/-! two clauses: the inner loop goes on with what the list holds -/
def kGo (g : TG) (tt : TT) (te : TE) (vs : List Nat) (σ : L2.St) (J : It) (D : Addr) (acc0 : List V) (H0 : Hp) (Nx : List V → Hp → Prop) : Prop := ∃ W : Nat → Nat → List V → Hp → Prop, (∃ m, W 0 m acc0 H0) ∧ ∀ i m acc H, H D = some (.lst acc) → W i m acc H →
  (J.stop i H ∧ Nx acc H) ∨ (J.go i H ∧ ∃ Nx1 : List V → Hp → Prop, (∀ acc H', Nx1 acc H' → ∃ m', m' < m ∧ W (i + 1) m' acc H') ∧ ∀ x H', J.yld i H x H' → Turn1 g tt te vs σ D acc Nx1 x H')
def Turn2 (g : TG) (tt : TT) (wi1 : TI) (g1 : TG) (tt1 : TT) (te : TE) (vs vs1 : List Nat) (σ : L2.St) (D : Addr) (acc : List V) (Nx : List V → Hp → Prop) (x : V) (H' : Hp) : Prop :=
  g x (wipe σ vs) H' fun σ2 H2 => wipe σ2 vs = wipe σ vs ∧ tt σ2 H2 fun b H3 => if b = true then wi1 σ2 H3 (fun J1 H4 => H4 D = some (.lst acc) ∧ kGo g1 tt1 te vs1 σ2 J1 D acc H4 Nx) else H3 D = some (.lst acc) ∧ Nx acc H3
def kLc2W (g : TG) (tt : TT) (wi1 : TI) (g1 : TG) (tt1 : TT) (te : TE) (vs vs1 : List Nat) (σ : L2.St) (J : It) (D : Addr) (H1' : Hp) (Qd : Hp → Prop) : Prop := ∃ W : Nat → Nat → List V → Hp → Prop, (∃ m, W 0 m [] H1') ∧ ∀ i m acc H, H D = some (.lst acc) → W i m acc H →
  (J.stop i H ∧ Qd H) ∨ (J.go i H ∧ ∃ Nx : List V → Hp → Prop, (∀ acc H', Nx acc H' → ∃ m', m' < m ∧ W (i + 1) m' acc H') ∧ ∀ x H', J.yld i H x H' → Turn2 g tt wi1 g1 tt1 te vs vs1 σ D acc Nx x H')
def kLc2 (wi : TI) (g : TG) (tt : TT) (wi1 : TI) (g1 : TG) (tt1 : TT) (te : TE) (vs vs1 : List Nat) : TE := fun σ H Q => wi σ H fun J H1 => ∀ D H1', H1 D = none → Kp [] H1 H1' → H1' D = some (.lst []) → kLc2W g tt wi1 g1 tt1 te vs vs1 σ J D H1' (Q (.ref D))
theorem kLc2.old {wi wi1 : TI} {g g1 : TG} {tt tt1 : TT} {te : TE} {vs vs1 : List Nat} {σ : L2.St} {H : Hp} {Q : VK} (h : kLc2 wi g tt wi1 g1 tt1 te vs vs1 σ H Q) : tLc2 (mI wi) (mG g) (mT tt) (mI wi1) (mG g1) (mT tt1) (mE te) vs vs1 σ H Q := by
  refine ⟨_, h, fun J H1 r D hD => ?_⟩
  obtain ⟨W, ⟨m, w0⟩, turn⟩ := r D _ hD (Kp.new hD) upd_same
  refine ⟨fun i m H => ∃ acc, H D = some (.lst acc) ∧ W i m acc H, ⟨m, [], upd_same, w0⟩, ?_⟩
  rintro i m H ⟨acc, hD, w⟩
  rcases turn i m acc H hD w with ⟨a, b⟩ | ⟨go, Nx, hN, step⟩
  · exact .inl ⟨a, b⟩
  · refine .inr ⟨go, fun H' => ∃ acc, H' D = some (.lst acc) ∧ Nx acc H', fun H' ⟨acc', h1, h2⟩ => let ⟨m', a, b⟩ := hN acc' H' h2; ⟨m', a, acc', h1, b⟩, fun x H' y => ?_⟩
    refine ⟨_, step x H' y, fun σ2 H2 ⟨e, t⟩ => ⟨e, _, t, fun b H3 q => ?_⟩⟩
    cases b with
    | false => exact iteF ⟨acc, q⟩
    | true =>
      refine iteT ⟨_, (show wi1 σ2 H3 (fun J1 H4 => H4 D = some (.lst acc) ∧ kGo g1 tt1 te vs1 σ2 J1 D acc H4 Nx) from q), fun J1 H4 ⟨hD4, W1, ⟨m1, w1⟩, turn1⟩ => ?_⟩
      refine ⟨fun i m H => ∃ acc, H D = some (.lst acc) ∧ W1 i m acc H, ⟨m1, acc, hD4, w1⟩, ?_⟩
      rintro j k H ⟨acc1, hD1, w⟩
      rcases turn1 j k acc1 H hD1 w with ⟨a, b⟩ | ⟨go1, Nx1, hN1, step1⟩
      · exact .inl ⟨a, acc1, hD1, b⟩
      · refine .inr ⟨go1, fun H' => ∃ acc, H' D = some (.lst acc) ∧ Nx1 acc H', fun H' ⟨acc', h1, h2⟩ => let ⟨m', a, b⟩ := hN1 acc' H' h2; ⟨m', a, acc', h1, b⟩, fun x H' y => ?_⟩
        refine ⟨_, step1 x H' y, fun σ3 H5 ⟨e, t⟩ => ⟨e, _, t, fun b H6 q => ?_⟩⟩
        cases b with
        | true =>
          refine iteT ?_
          refine ⟨_, (show te σ3 H6 (Put D acc1 Nx1) from q), fun y H4 ⟨h1, h2, h3⟩ => ⟨acc1, h1, h2, _, upd_same, h3 _ (Kp.old h1 trivial List.mem_cons_self) upd_same⟩⟩
        | false => exact iteF ⟨acc1, q⟩
section
variable {X : Cx}
theorem ke_lc2 {elt tg iter tg1 iter1 : Expr} {ifs ifs1 : List Expr} {scope : Scope} {own : List (Str × Nat)} {vs1 : List Nat} {pos : Pos} {wi wi1 : TI} {g g1 : TG} {tt tt1 : TT} {te : TE} (hc : X.calm = true) (hN : X.N.Nodup) (hi : PI X tg iter wi) (ok : BlkOk X.N X.env.scope scope own) (hv : ∀ i ∈ vs1, i ∈ own.map (·.2))
    (hg : ∀ (s : Shared) (H : Hp) (C : Addr) (cl : List (Str × Addr)) (fp : List Addr), PG (X.blk s H scope (compEnvC scope cl C X.env) fp) tg g) (ht : ∀ (s : Shared) (H : Hp) (C : Addr) (cl : List (Str × Addr)) (fp : List Addr), PTs (X.blk s H scope (compEnvC scope cl C X.env) fp) ifs tt)
    (hi1 : ∀ (s : Shared) (H : Hp) (C : Addr) (cl : List (Str × Addr)) (fp : List Addr), PI (X.blk s H scope (compEnvC scope cl C X.env) fp) tg1 iter1 wi1)
    (hg1 : ∀ (s : Shared) (H : Hp) (C : Addr) (cl : List (Str × Addr)) (fp : List Addr), PG (X.blk s H scope (compEnvC scope cl C X.env) fp) tg1 g1) (ht1 : ∀ (s : Shared) (H : Hp) (C : Addr) (cl : List (Str × Addr)) (fp : List Addr), PTs (X.blk s H scope (compEnvC scope cl C X.env) fp) ifs1 tt1)
    (he : ∀ (s : Shared) (H : Hp) (C : Addr) (cl : List (Str × Addr)) (fp : List Addr), PE (X.blk s H scope (compEnvC scope cl C X.env) fp) elt te) (hs : ∀ x, foldedSetIterable iter X.env x = pure x := by intro _; rfl) (hs1 : ∀ env x, foldedSetIterable iter1 env x = pure x := by intro _ _; rfl) :
    PE X (.ListComp elt [⟨tg, iter, ifs, 0⟩, ⟨tg1, iter1, ifs1, 0⟩] scope pos) (kLc2 wi g tt wi1 g1 tt1 te (own.map (·.2)) vs1) :=
  peI (pe_lc2 hc hN (piM hi) ok hv (fun a b c d e => pgM (hg a b c d e)) (fun a b c d e => ptsM (ht a b c d e)) (fun a b c d e => piM (hi1 a b c d e)) (fun a b c d e => pgM (hg1 a b c d e)) (fun a b c d e => ptsM (ht1 a b c d e)) (fun a b c d e => peM (he a b c d e)) hs hs1) fun σ H Q q => kLc2.old q
theorem sumK {K : PySem.W.Frag} (hc : X.calm = true) (h : X.K = K := by rfl) : CallR X (.builtin "sum") (rSum K) := by subst h; exact cr_sum hc
theorem pgtK {K : PySem.W.Frag} {es : List Expr} {k : Nat} {t : TGs} {n : Nat} {pos : Pos} (hc : X.calm = true) (h : PGs X es t)
    (hn : (assignEach es X.env).length = n := by rfl) (hst : (assignEach es X.env).findIdx? (·.1) = none := by rfl) (hK : X.K = K := by rfl) : PG X (.Tuple es k pos) (gTup K n t) := by subst hK; exact pg_tup hc h hn hst
theorem pitK {K : PySem.W.Frag} {tg l : Expr} {tl : TE} (hl : PE X l tl) (hK : X.K = K := by rfl) : PI X tg l (iTup K tl) := by subst hK; exact pi_tup hl
theorem pilK {K : PySem.W.Frag} {tg l : Expr} {tl : TE} (hl : PE X l tl) (hK : X.K = K := by rfl) : PI X tg l (iList K tl) := by subst hK; exact pi_list hl
end
section
variable {K : PySem.W.Frag} {a : Addr} {xs : List V} {g : TG} {tt : TT} {te : TE} {vs : List Nat} {σ : L2.St} {H1 : Hp} {D : Addr}
theorem kg_range {lo : Int} {n : Nat} {acc0 : List V} {Nx : List V → Hp → Prop} (Pv : Nat → List V → Hp → Prop) (h0 : Pv 0 acc0 H1)
    (hs : ∀ i acc H, i < n → H D = some (.lst acc) → Pv i acc H → Turn1 g tt te vs σ D acc (Pv (i + 1)) (.int (lo + i)) H) (hd : ∀ acc H, H D = some (.lst acc) → Pv n acc H → Nx acc H) : kGo g tt te vs σ (Itr lo n) D acc0 H1 Nx := by
  refine ⟨fun i m acc H => m = n - i ∧ i ≤ n ∧ Pv i acc H, ⟨n, by simp, Nat.zero_le _, h0⟩, ?_⟩
  rintro i m acc H hD ⟨rfl, hi, p⟩
  by_cases hlt : i < n
  · refine .inr ⟨hlt, Pv (i + 1), fun acc H' p' => ⟨n - (i + 1), by omega, rfl, hlt, p'⟩, fun x H' y => ?_⟩
    obtain ⟨e, y⟩ := y
    subst e y
    exact hs i acc _ hlt hD p
  · have e : i = n := by omega
    subst e
    exact .inl ⟨Nat.le_refl _, hd acc H hD p⟩
theorem k2_tup {wi1 : TI} {g1 : TG} {tt1 : TT} {vs1 : List Nat} {Qd : Hp → Prop} (Pv : Nat → List V → Hp → Prop) (h0 : Pv 0 [] H1) (hl : ∀ i acc H, Pv i acc H → SqT K H a xs)
    (hs : ∀ i x acc H, xs[i]? = some x → H D = some (.lst acc) → Pv i acc H → Turn2 g tt wi1 g1 tt1 te vs vs1 σ D acc (Pv (i + 1)) x H) (hd : ∀ acc H, H D = some (.lst acc) → Pv xs.length acc H → Qd H) : kLc2W g tt wi1 g1 tt1 te vs vs1 σ (Itt K a) D H1 Qd := by
  refine ⟨fun i m acc H => m = xs.length - i ∧ i ≤ xs.length ∧ Pv i acc H, ⟨xs.length, by simp, Nat.zero_le _, h0⟩, ?_⟩
  rintro i m acc H hD ⟨rfl, hi, p⟩
  have q := hl i acc H p
  by_cases hlt : i < xs.length
  · refine .inr ⟨⟨xs, xs[i], q, by simp [hlt]⟩, Pv (i + 1), fun acc H' p' => ⟨xs.length - (i + 1), by omega, rfl, hlt, p'⟩, fun x H' y => ?_⟩
    obtain ⟨e, y⟩ := y
    subst e
    exact hs i x acc _ (y xs q) hD p
  · have e : i = xs.length := by omega
    subst e
    exact .inl ⟨⟨xs, q, Nat.le_refl _⟩, hd acc H hD p⟩
end
theorem if_true {A B : Prop} (h : A) : if true = true then A else B := iteT h
/-! ### what a party needs -/
abbrev Kvs := List (List Key × V)
def cellK (k t : Int) : List Key := [.inl k, .inl t]
def cntV (kvs : Kvs) (c : List Key) : Int := match valV kvs c with
  | some (.int n) => n
  | _ => 0
def bump (kvs : Kvs) (c : List Key) : Kvs := putK kvs c (.int (cntV kvs c + 1))
def bumps (kvs : Kvs) (k f : Int) : Nat → Kvs
  | 0 => kvs
  | n + 1 => bump (bumps kvs k f n) (cellK k (f + n))
def needs1 (kvs : Kvs) (s : Sy) : Kvs := bumps kvs s.1 s.2.1 (s.2.2 - s.2.1).toNat
def needsL (p : List Sy) : Kvs := p.foldl needs1 []
def AllI (kvs : Kvs) : Prop := ∀ c v, valV kvs c = some v → ∃ n, v = .int n
theorem AllI.nil : AllI [] := fun c v h => by rw [valV_nil] at h; cases h
theorem AllI.bump {kvs : Kvs} (h : AllI kvs) (c : List Key) : AllI (bump kvs c) := fun d v e => by
  unfold MD.bump at e
  rw [valV_put] at e
  split at e
  · exact ⟨_, (Option.some.inj e).symm⟩
  · exact h d v e
theorem AllI.bumps {kvs : Kvs} (h : AllI kvs) (k f : Int) : ∀ n, AllI (bumps kvs k f n)
  | 0 => h
  | n + 1 => (AllI.bumps h k f n).bump _
theorem cnt_get {kvs : Kvs} (h : AllI kvs) (c : List Key) : (valV kvs c).getD (.int 0) = .int (cntV kvs c) := by
  unfold cntV
  cases e : valV kvs c with
  | none => rfl
  | some v => obtain ⟨n, rfl⟩ := h c v e; rfl
theorem putK_le {κ : Type} [DecidableEq κ] (kvs : List (κ × V)) (k : κ) (v : V) : (putK kvs k v).length ≤ kvs.length + 1 := by
  unfold putK
  split
  · rw [List.length_map]; omega
  · rw [List.length_append]; simp
theorem bumps_le (kvs : Kvs) (k f : Int) : ∀ n, (bumps kvs k f n).length ≤ kvs.length + n
  | 0 => Nat.le_refl _
  | n + 1 => by
    have := bumps_le kvs k f n
    have h2 := putK_le (bumps kvs k f n) (cellK k (f + n)) (.int (cntV (bumps kvs k f n) (cellK k (f + n)) + 1))
    show (bump _ _).length ≤ _
    unfold bump
    omega
/-- stays within twelve nights -/
def Sb (s : Sy) : Prop := 0 ≤ s.2.1 ∧ s.2.1 ≤ s.2.2 ∧ s.2.2 ≤ 12
theorem Sy.ok.sb {su : Su} {s : Sy} (h : Sy.ok su s) (hs : su.ok) : Sb s := by
  have := h.f0; have := h.fe; have := h.e1; have := hs.n12
  exact ⟨by omega, by omega, by omega⟩
theorem needs_snoc {p : List Sy} {i : Nat} {s : Sy} (h : p[i]? = some s) : needsL (p.take (i + 1)) = needs1 (needsL (p.take i)) s := by
  unfold needsL
  rw [List.take_add_one, h, List.foldl_append]; rfl
theorem needs_le : ∀ (p : List Sy) (kvs : Kvs), (∀ s ∈ p, Sb s) → (p.foldl needs1 kvs).length ≤ kvs.length + 12 * p.length
  | [], kvs, _ => Nat.le_refl _
  | s :: r, kvs, h => by
    have h1 := needs_le r (needs1 kvs s) fun x hx => h x (List.mem_cons_of_mem _ hx)
    have h2 := bumps_le kvs s.1 s.2.1 (s.2.2 - s.2.1).toNat
    have h3 := h s List.mem_cons_self
    unfold Sb at h3
    rw [List.foldl_cons, List.length_cons]
    unfold needs1 at h1 ⊢
    omega
theorem needs_int : ∀ (p : List Sy) (kvs : Kvs), AllI kvs → AllI (p.foldl needs1 kvs)
  | [], _, h => h
  | s :: r, kvs, h => needs_int r _ (h.bumps _ _ _)
theorem cell_tup {H : Hp} {a : Addr} {k t : Int} (h : H a = some (.tup [.int k, .int t])) : H a = some (.tup ((cellK k t).map kV)) := h
end MD

namespace MD
open PySem PySem.Spec PyProof.Rows L2
/-! ### the prices of nights -/
def priceAt (su : Su) (k t : Int) : Int := (su.prices.getD k.toNat []).getD t.toNat 0
def stayL (su : Su) (s : Sy) : Nat → List Int := fun n => (List.range n).map fun (j : Nat) => priceAt su s.1 (s.2.1 + j)
def nightL (su : Su) (p : List Sy) : List Int := p.flatMap fun s => stayL su s (s.2.2 - s.2.1).toNat
theorem stayL_snoc (su : Su) (s : Sy) (n : Nat) : stayL su s (n + 1) = stayL su s n ++ [priceAt su s.1 (s.2.1 + n)] := by
  unfold stayL
  rw [List.range_succ, List.map_append]; rfl
theorem nightL_snoc {su : Su} {p : List Sy} {i : Nat} {s : Sy} (h : p[i]? = some s) : nightL su (p.take (i + 1)) = nightL su (p.take i) ++ stayL su s (s.2.2 - s.2.1).toNat := by
  unfold nightL
  rw [List.take_add_one, h, List.flatMap_append]
  simp
theorem stayL_len (su : Su) (s : Sy) (n : Nat) : (stayL su s n).length = n := by unfold stayL; rw [List.length_map, List.length_range]
theorem nightL_len {su : Su} : ∀ {p : List Sy}, (∀ s ∈ p, Sb s) → (nightL su p).length ≤ 12 * p.length
  | [], _ => Nat.le_refl _
  | s :: r, h => by
    have h1 := nightL_len (su := su) (p := r) fun x hx => h x (List.mem_cons_of_mem _ hx)
    have h3 := h s List.mem_cons_self
    unfold Sb at h3
    unfold nightL at h1 ⊢
    rw [List.flatMap_cons, List.length_append, List.length_cons, stayL_len]
    omega
theorem sum_map_flat (φ : Int → Int) {α : Type} (f : α → List Int) : ∀ l : List α, ((l.flatMap f).map φ).sum = (l.map fun s => ((f s).map φ).sum).sum
  | [] => rfl
  | a :: r => by
    rw [List.flatMap_cons, List.map_append, List.sum_append, List.map_cons, List.sum_cons, sum_map_flat φ f r]
/-- a price, read off the setup -/
theorem SuAt.price {H : Hp} {a r p : Addr} {su : Su} (h : SuAt H a r p su) (so : su.ok) {k t : Int} (k0 : 0 ≤ k) (k1 : k < su.rooms.length) (t0 : 0 ≤ t) (t1 : t < su.nights) :
    ∃ (ps : List V) (q : Addr) (row : List Int), H p = some (.tup ps) ∧ atI ps k = some (.ref q) ∧ H q = some (.tup (row.map V.int)) ∧ atI (row.map V.int) t = some (.int (priceAt su k t)) ∧ 0 ≤ priceAt su k t ∧ priceAt su k t ≤ 1000000 := by
  have hl := so.pl
  have hk : k.toNat < su.prices.length := by omega
  have e : su.prices[k.toNat]? = some (su.prices[k.toNat]) := by simp [hk]
  obtain ⟨ps, q, h1, h2, h3⟩ := h.row e
  have hr := so.pr _ (List.getElem_mem hk)
  have ht : t.toNat < (su.prices[k.toNat]).length := by omega
  have e2 : (su.prices[k.toNat])[t.toNat]? = some ((su.prices[k.toNat])[t.toNat]) := by simp [ht]
  have e3 : priceAt su k t = (su.prices[k.toNat])[t.toNat] := by
    unfold priceAt
    rw [List.getD_eq_getElem?_getD, List.getD_eq_getElem?_getD, e, Option.getD_some, e2, Option.getD_some]
  have hp := hr.2 _ (List.getElem_mem ht)
  exact ⟨ps, q, _, h1, at_of k0 h2, h3, by rw [e3]; exact int_at t0 e2, by rw [e3]; exact hp.1, by rw [e3]; exact hp.2⟩
theorem yesT {σ : L2.St} {H : Hp} {A B : Hp → Prop} (h : A H) : tYes σ H (fun b H3 => if b = true then A H3 else B H3) := by
  show (if true = true then A H else B H)
  exact iteT h
end MD

namespace MD
open PySem PySem.Spec PyProof.Rows L2
/-! ### dicts from pairs of ints to data, as lists of entries -/
def enD (f : V → D) (e : (Int × Int) × V) : D := .sq false [.sq false [.v (.int e.1.1), .v (.int e.1.2)], f e.2]
def kvsOf (es : List ((Int × Int) × V)) : Kvs := es.map fun e => (cellK e.1.1 e.1.2, e.2)
theorem cellK_inj {a b c d : Int} (h : cellK a b = cellK c d) : (a, b) = (c, d) := by
  unfold cellK at h
  injection h with h1 h2
  injection h2 with h3 _
  rw [Sum.inl.inj h1, Sum.inl.inj h3]
theorem valV_kvs {es : List ((Int × Int) × V)} (nd : (es.map (·.1)).Nodup) {e : (Int × Int) × V} (h : e ∈ es) : valV (kvsOf es) (cellK e.1.1 e.1.2) = some e.2 := by
  induction es with
  | nil => cases h
  | cons a r ih =>
    rw [List.map_cons, List.nodup_cons] at nd
    by_cases q : cellK a.1.1 a.1.2 = cellK e.1.1 e.1.2
    · have ek : a.1 = e.1 := cellK_inj q
      have : a = e := by
        rcases List.mem_cons.mp h with z | z
        · exact z.symm
        · exact absurd (List.mem_map.mpr ⟨e, z, ek.symm⟩) nd.1
      subst this
      exact valV_pos (p := (cellK a.1.1 a.1.2, a.2)) rfl
    · have : e ∈ r := by
        rcases List.mem_cons.mp h with z | z
        · exact absurd (by rw [z]) q
        · exact z
      exact (valV_neg (p := (cellK a.1.1 a.1.2, a.2)) q).trans (ih nd.2 this)
/-- the pair's two ints, read off the heap -/
def kyOf (H : Hp) : V → Int × Int
  | .ref t => match H t with
    | some (.tup (.ref q :: _)) => (match H q with
      | some (.tup [.int i, .int j]) => (i, j)
      | _ => (0, 0))
    | _ => (0, 0)
  | _ => (0, 0)
theorem enD_at {H : Hp} {f : V → D} {e : (Int × Int) × V} {x : V} (h : RepT H (enD f e) x) : ∃ t q z, x = .ref t ∧ H t = some (.tup [.ref q, z]) ∧ H q = some (.tup [.int e.1.1, .int e.1.2]) ∧ RepT H (f e.2) z ∧ kyOf H x = e.1 := by
  obtain ⟨t, vs, rfl, ht, r⟩ := h.tupE
  obtain ⟨v1, r1, rfl, h1, h2⟩ := r.consE
  obtain ⟨v2, r2, rfl, h3, h4⟩ := h2.consE
  have := h4.nilE; subst this
  obtain ⟨q, vs2, rfl, hq, r3⟩ := h1.tupE
  obtain ⟨w1, s1, rfl, g1, g2⟩ := r3.consE
  obtain ⟨w2, s2, rfl, g3, g4⟩ := g2.consE
  have := g4.nilE; subst this
  have := g1.vE; subst this
  have := g3.vE; subst this
  refine ⟨t, q, v2, rfl, ht, hq, h3, ?_⟩
  show (match H t with
    | some (.tup (.ref q :: _)) => (match H q with
      | some (.tup [.int i, .int j]) => (i, j)
      | _ => (0, 0))
    | _ => (0, 0)) = e.1
  rw [ht]
  show (match H q with
      | some (.tup [.int i, .int j]) => (i, j)
      | _ => ((0 : Int), (0 : Int))) = e.1
  rw [hq]
theorem RepTs.mem {α : Type} {H : Hp} {f : α → D} {ss : List α} {vs : List V} {x : V} (h : RepTs H (ss.map f) vs) (hx : x ∈ vs) : ∃ (i : Nat) (s : α), vs[i]? = some x ∧ ss[i]? = some s ∧ RepT H (f s) x := by
  obtain ⟨i, hi⟩ := List.mem_iff_getElem?.mp hx
  obtain ⟨s, hs, r⟩ := h.at hi
  exact ⟨i, s, hi, hs, r⟩
/-- what sorted asks of such a list -/
theorem en_sortable {H : Hp} {f : V → D} {es : List ((Int × Int) × V)} {xs : List V} (nd : (es.map (·.1)).Nodup) (r : RepTs H (es.map (enD f)) xs) :
    (∀ x ∈ xs, ∃ t q z, x = V.ref t ∧ H t = some (.tup [.ref q, z]) ∧ H q = some (.tup [.int (kyOf H x).1, .int (kyOf H x).2])) ∧ (∀ x ∈ xs, ∀ y ∈ xs, kyOf H x = kyOf H y → x = y) := by
  refine ⟨fun x hx => ?_, fun x hx y hy e => ?_⟩
  · obtain ⟨i, s, hi, hs, r1⟩ := r.mem hx
    obtain ⟨t, q, z, e, ht, hq, _, ek⟩ := enD_at r1
    exact ⟨t, q, z, e, ht, by rw [ek]; exact hq⟩
  · obtain ⟨i, s, hi, hs, r1⟩ := r.mem hx
    obtain ⟨j, s', hj, hs', r2⟩ := r.mem hy
    obtain ⟨_, _, _, _, _, _, _, e1⟩ := enD_at r1
    obtain ⟨_, _, _, _, _, _, _, e2⟩ := enD_at r2
    rw [e1, e2] at e
    have a1 : (es.map (·.1))[i]? = some s.1 := by rw [List.getElem?_map, hs]; rfl
    have a2 : (es.map (·.1))[j]? = some s'.1 := by rw [List.getElem?_map, hs']; rfl
    have ij : i = j := by
      obtain ⟨h1, g1⟩ := List.getElem?_eq_some_iff.mp a1
      obtain ⟨h2, g2⟩ := List.getElem?_eq_some_iff.mp a2
      exact (List.getElem_inj nd).mp (by rw [g1, g2, e])
    subst ij
    rw [hi] at hj
    exact Option.some.inj hj
/-- the sorted list's data: a rearrangement of the entries, by ascending keys -/
theorem en_sorted {H : Hp} {f : V → D} {es : List ((Int × Int) × V)} {xs ys : List V} (r : RepTs H (es.map (enD f)) xs) (hs : SrtO.Srtd (ltP (kyOf H)) ys) (hp : ys.Perm xs) :
    ∃ es' : List ((Int × Int) × V), es'.Perm es ∧ RepTs H (es'.map (enD f)) ys ∧ es'.Pairwise fun a b => SrtO.lexB b.1 a.1 = false := by
  obtain ⟨es', p, r'⟩ := RepTs.perm hp r
  refine ⟨es', p, r', ?_⟩
  have hl : ys.length = es'.length := r'.lenM
  rw [List.pairwise_iff_getElem]
  intro i j hi hj hij
  obtain ⟨s1, e1, q1⟩ := r'.at (show ys[i]? = some (ys[i]'(by omega)) by simp [show i < ys.length by omega])
  obtain ⟨s2, e2, q2⟩ := r'.at (show ys[j]? = some (ys[j]'(by omega)) by simp [show j < ys.length by omega])
  obtain ⟨_, _, _, _, _, _, _, k1⟩ := enD_at q1
  obtain ⟨_, _, _, _, _, _, _, k2⟩ := enD_at q2
  have h := (List.pairwise_iff_getElem.mp hs) i j (by omega) (by omega) hij
  have h' : SrtO.lexB (kyOf H (ys[j]'(by omega))) (kyOf H (ys[i]'(by omega))) = false := h
  rw [k1, k2] at h'
  have f1 : es'[i] = s1 := by
    have : es'[i]? = some es'[i] := by simp
    rw [this] at e1; exact Option.some.inj e1
  have f2 : es'[j] = s2 := by
    have : es'[j]? = some es'[j] := by simp
    rw [this] at e2; exact Option.some.inj e2
  rw [f1, f2]
  exact h'
theorem en_uniq {es e1 e2 : List ((Int × Int) × V)} (nd : (es.map (·.1)).Nodup) (p1 : e1.Perm es) (p2 : e2.Perm es) (s1 : e1.Pairwise fun a b => SrtO.lexB b.1 a.1 = false) (s2 : e2.Pairwise fun a b => SrtO.lexB b.1 a.1 = false) : e1 = e2 := by
  refine List.Perm.eq_of_pairwise (le := fun a b => SrtO.lexB b.1 a.1 = false) (fun a b ha hb h1 h2 => ?_) s1 s2 (p1.trans p2.symm)
  have a1 := SrtO.lexB_no.mp h1
  have a2 := SrtO.lexB_no.mp h2
  have ek : a.1 = b.1 := by
    refine Prod.ext ?_ ?_ <;> omega
  have ma := p1.mem_iff.mp ha
  have mb := p2.mem_iff.mp hb
  obtain ⟨i, hi⟩ := List.mem_iff_getElem?.mp ma
  obtain ⟨j, hj⟩ := List.mem_iff_getElem?.mp mb
  have g1 : (es.map (·.1))[i]? = some a.1 := by rw [List.getElem?_map, hi]; rfl
  have g2 : (es.map (·.1))[j]? = some b.1 := by rw [List.getElem?_map, hj]; rfl
  have ij : i = j := by
    obtain ⟨h1, g1⟩ := List.getElem?_eq_some_iff.mp g1
    obtain ⟨h2, g2⟩ := List.getElem?_eq_some_iff.mp g2
    exact (List.getElem_inj nd).mp (by rw [g1, g2, ek])
  subst ij
  rw [hi] at hj
  exact Option.some.inj hj
/-! needs, as entries -/
theorem kvs_map (es : List ((Int × Int) × V)) (k t : Int) (v : V) : (kvsOf es).map (fun kv => if kv.1 = cellK k t then (kv.1, v) else kv) = kvsOf (es.map fun e => if e.1 = (k, t) then (e.1, v) else e) := by
  unfold kvsOf
  rw [List.map_map, List.map_map]
  refine List.map_congr_left fun e _ => ?_
  show (if cellK e.1.1 e.1.2 = cellK k t then (cellK e.1.1 e.1.2, v) else (cellK e.1.1 e.1.2, e.2)) = (fun e : (Int × Int) × V => (cellK e.1.1 e.1.2, e.2)) (if e.1 = (k, t) then (e.1, v) else e)
  by_cases h : e.1 = (k, t)
  · rw [if_pos h, if_pos (by rw [h])]
  · rw [if_neg h, if_neg (fun q => h (cellK_inj q))]
theorem putK_kvs {es : List ((Int × Int) × V)} (nd : (es.map (·.1)).Nodup) (k t : Int) (v : V) : ∃ es' : List ((Int × Int) × V), putK (kvsOf es) (cellK k t) v = kvsOf es' ∧ (es'.map (·.1)).Nodup ∧ ∀ e ∈ es', e ∈ es ∨ e.2 = v := by
  unfold putK
  by_cases h : ((kvsOf es).any fun kv => decide (kv.1 = cellK k t)) = true
  · rw [if_pos h, kvs_map]
    refine ⟨_, rfl, ?_, fun e he => ?_⟩
    · have e1 : (es.map fun e => if e.1 = (k, t) then (e.1, v) else e).map (·.1) = es.map (·.1) := by
        rw [List.map_map]
        refine List.map_congr_left fun e _ => ?_
        show (if e.1 = (k, t) then (e.1, v) else e).1 = e.1
        by_cases q : e.1 = (k, t)
        · rw [if_pos q]
        · rw [if_neg q]
      rw [e1]; exact nd
    · obtain ⟨e0, h0, rfl⟩ := List.mem_map.mp he
      by_cases q : e0.1 = (k, t)
      · rw [if_pos q]; exact .inr rfl
      · rw [if_neg q]; exact .inl h0
  · rw [if_neg h]
    refine ⟨es ++ [((k, t), v)], by unfold kvsOf; rw [List.map_append]; rfl, ?_, fun e he => ?_⟩
    · rw [List.map_append, List.nodup_append]
      refine ⟨nd, by simp, fun x hx y hy => ?_⟩
      intro exy
      subst exy
      simp only [List.map_cons, List.map_nil, List.mem_singleton] at hy
      obtain ⟨e0, h0, rfl⟩ := List.mem_map.mp hx
      refine h (List.any_eq_true.mpr ⟨(cellK e0.1.1 e0.1.2, e0.2), List.mem_map.mpr ⟨e0, h0, rfl⟩, ?_⟩)
      simp only [decide_eq_true_eq]
      rw [hy]
    · rcases List.mem_append.mp he with z | z
      · exact .inl z
      · rw [List.mem_singleton.mp z]; exact .inr rfl
def IntE (es : List ((Int × Int) × V)) : Prop := ∀ e ∈ es, ∃ n, e.2 = .int n
theorem bumps_en (k f : Int) : ∀ (n : Nat) {es : List ((Int × Int) × V)}, (es.map (·.1)).Nodup → IntE es → ∃ es' : List ((Int × Int) × V), bumps (kvsOf es) k f n = kvsOf es' ∧ (es'.map (·.1)).Nodup ∧ IntE es'
  | 0, es, nd, hi => ⟨es, rfl, nd, hi⟩
  | n + 1, es, nd, hi => by
    obtain ⟨e1, h1, h2, h3⟩ := bumps_en k f n nd hi
    obtain ⟨e2, h4, h5, h6⟩ := putK_kvs h2 k (f + n) (.int (cntV (kvsOf e1) (cellK k (f + n)) + 1))
    refine ⟨e2, ?_, h5, fun e he => ?_⟩
    · show bump (bumps (kvsOf es) k f n) (cellK k (f + n)) = _
      rw [h1]; exact h4
    · rcases h6 e he with z | z
      · exact h3 e z
      · exact ⟨_, z⟩
theorem needs_en : ∀ (p : List Sy) {es : List ((Int × Int) × V)}, (es.map (·.1)).Nodup → IntE es → ∃ es' : List ((Int × Int) × V), p.foldl needs1 (kvsOf es) = kvsOf es' ∧ (es'.map (·.1)).Nodup ∧ IntE es'
  | [], es, nd, hi => ⟨es, rfl, nd, hi⟩
  | s :: r, es, nd, hi => by
    obtain ⟨e1, h1, h2, h3⟩ := bumps_en s.1 s.2.1 (s.2.2 - s.2.1).toNat nd hi
    obtain ⟨e2, h4, h5, h6⟩ := needs_en r h2 h3
    refine ⟨e2, ?_, h5, h6⟩
    rw [List.foldl_cons]
    show List.foldl needs1 (bumps (kvsOf es) s.1 s.2.1 (s.2.2 - s.2.1).toNat) r = _
    rw [h1]; exact h4
theorem needsL_en (p : List Sy) : ∃ es : List ((Int × Int) × V), needsL p = kvsOf es ∧ (es.map (·.1)).Nodup ∧ IntE es := needs_en p (es := []) List.nodup_nil fun _ h => nomatch h
theorem in12 {A : Around} {k : Nat} (r : Room k A) : A.in1.in1.units < cLine := by
  have := r.un
  show A.units + 1 + 1 < cLine
  omega
def ensD (f : V → D) (es : List ((Int × Int) × V)) : D := .sq true (es.map (enD f))
theorem enD_ok {f : V → D} {e : (Int × Int) × V} {n : Nat} (h : (f e.2).ok n) (hn : 1 ≤ n) : (enD f e).ok (n + 1) := by
  refine ⟨by simp, fun d hd => ?_⟩
  rcases List.mem_cons.mp hd with rfl | hd
  · obtain ⟨m, rfl⟩ : ∃ m, n = m + 1 := ⟨n - 1, by omega⟩
    refine ⟨by simp, fun d hd => ?_⟩
    rcases List.mem_cons.mp hd with rfl | hd
    · cases m <;> trivial
    rcases List.mem_cons.mp hd with rfl | hd
    · cases m <;> trivial
    · cases hd
  rcases List.mem_cons.mp hd with rfl | hd
  · exact h
  · cases hd
theorem kvs_len (es : List ((Int × Int) × V)) : (kvsOf es).length = es.length := by unfold kvsOf; rw [List.length_map]
theorem kvs_at {es : List ((Int × Int) × V)} {i : Nat} {c : List Key} {v : V} (h : (kvsOf es)[i]? = some (c, v)) : ∃ e, es[i]? = some e ∧ c = cellK e.1.1 e.1.2 ∧ v = e.2 := by
  unfold kvsOf at h
  rw [List.getElem?_map] at h
  cases q : es[i]? with
  | none => rw [q] at h; cases h
  | some e => rw [q] at h; cases h; exact ⟨e, rfl, rfl, rfl⟩
end MD

namespace MD
open PySem PySem.Spec PyProof.Rows L2
/-! ### dicts with tuple keys: clear, del -/
section
variable {X : Cx} {pins : List (Addr × Obj)} {σ : L2.St} {H : Hp} {s : Shared} {a : Addr} {kvs : Kvs} {A : Around} {E : Value → Shared → Prop}
theorem dT_clear {Q : Value → Shared → Prop} (I : Inv X pins σ H s) (e : H a = some (.dT kvs)) (h : ∀ s', Inv X pins σ (upd H a (.dT [])) s' → Q .none s') : wpAny (model X.prog X.w) A (call (.builtin "dict.clear") [.ref a]) Q E s := by
  obtain ⟨z, hd, xs, rel, dd⟩ := dt_of I.hok e
  have hz : xs.length ≤ sizeLine := by rw [← Paired.length rel]; exact z
  obtain ⟨o, es, ep, ho, hc, hdat, he, his, hn⟩ := id dd
  have hes : es.size = xs.length := size_of_entries he
  refine call_meetsIn PySem.F.slot_dict_clear dd.typeIs PySem.F.entry_dict_clear (PySem.F.args_dict_clear_1 _) (meets_dict_clear_raw a) ⟨es, ep, ⟨o, ho, hc, hdat⟩, by omega, fun h' dd' hs => h _ ?_⟩
  obtain ⟨o', ho', hc', hd'⟩ := dd'
  exact d_write (t' := s.toks) I (by rw [e]; exact True.intro) hs ⟨o', ho'⟩ ⟨Nat.zero_le _, hd, [], .nil, o', #[], ep + 1, ho', hc', hd', rfl, List.nodup_nil⟩
end
def kClearT : V → List V → Hp → VK → Prop := fun x vs H Q => ∃ (a : Addr) (kvs : Kvs), x = .ref a ∧ vs = [] ∧ H a = some (.dT kvs) ∧ Wr H a (.dT []) (Q .non)
theorem mk_clearT {X : Cx} : MtR X "dict.clear" kClearT := by
  intro pins s σ H x vs v us Q I rx rv h
  obtain ⟨a, kvs, rfl, rfl, e, q⟩ := h
  obtain rfl : v = Value.ref a := rx
  have hus := rv.zero
  subst hus
  exact dT_clear I e fun s' I' => ⟨.non, _, I', rfl, q.old e trivial⟩
end MD

namespace MD
open PySem PySem.Spec PyProof.Rows L2
/-! ### the text by places -/
def top (i : Nat) : Stmt := PySem.Challenge.pw_manydoors_k03_needs_and_prices.main.body.getD i (.Pass ⟨0, 0, 0, 0⟩)
abbrev s_needs_of : Stmt := top 1
abbrev s_night_prices : Stmt := top 2
abbrev s_price_of : Stmt := top 3
abbrev s_kept_of : Stmt := top 4
abbrev s_law_mixed : Stmt := top 6
abbrev s_law_numbers : Stmt := top 7
abbrev s_law_draw : Stmt := top 8
abbrev s_law_equal : Stmt := top 9
abbrev s_law_all_equal : Stmt := top 10
abbrev s_law_setup : Stmt := top 11
abbrev s_law_stay : Stmt := top 12
abbrev s_law_party : Stmt := top 13
abbrev s_law_needs : Stmt := top 14
abbrev s_law_price : Stmt := top 15
abbrev s_law_kept : Stmt := top 16
abbrev s_law_same : Stmt := top 17
abbrev s_law : Stmt := top 18
/-! ### the names of each def -/
theorem sc_needs_of : FnScope ["party", "needs", "kind", "first", "end", "night"] ["party"] (defScope s_needs_of) := ⟨rfl, rfl, rfl, by decide +kernel, rfl, by decide +kernel, by decide +kernel⟩
theorem sc_night_prices : FnScope ["setup", "party", "prices", "kind", "first", "end", "night"] ["setup", "party"] (defScope s_night_prices) := ⟨rfl, rfl, rfl, by decide +kernel, rfl, by decide +kernel, by decide +kernel⟩
theorem sc_price_of : FnScope ["setup", "party"] ["setup", "party"] (defScope s_price_of) := ⟨rfl, rfl, rfl, by decide +kernel, rfl, by decide +kernel, by decide +kernel⟩
theorem sc_kept_of : FnScope ["setup", "party", "share", "price"] ["setup", "party"] (defScope s_kept_of) := ⟨rfl, rfl, rfl, by decide +kernel, rfl, by decide +kernel, by decide +kernel⟩
theorem sc_law_mixed : FnScope ["number", "k", "step"] ["number", "k"] (defScope s_law_mixed) := ⟨rfl, rfl, rfl, by decide +kernel, rfl, by decide +kernel, by decide +kernel⟩
theorem sc_law_numbers : FnScope ["script", "numbers", "cell", "rest", "k"] ["script"] (defScope s_law_numbers) := ⟨rfl, rfl, rfl, by decide +kernel, rfl, by decide +kernel, by decide +kernel⟩
theorem sc_law_draw : FnScope ["draws", "at", "first"] ["draws"] (defScope s_law_draw) := ⟨rfl, rfl, rfl, by decide +kernel, rfl, by decide +kernel, by decide +kernel⟩
theorem sc_law_equal : FnScope ["actual", "due"] ["actual", "due"] (defScope s_law_equal) := ⟨rfl, rfl, rfl, by decide +kernel, rfl, by decide +kernel, by decide +kernel⟩
theorem sc_law_all_equal : FnScope ["actual", "due", "k"] ["actual", "due"] (defScope s_law_all_equal) := ⟨rfl, rfl, rfl, by decide +kernel, rfl, by decide +kernel, by decide +kernel⟩
theorem sc_law_setup : FnScope ["draws", "k", "rooms", "nights", "prices", "t"] ["draws"] (defScope s_law_setup) := ⟨rfl, rfl, rfl, by decide +kernel, rfl, by decide +kernel, by decide +kernel⟩
theorem sc_law_stay : FnScope ["draws", "setup", "first", "most"] ["draws", "setup"] (defScope s_law_stay) := ⟨rfl, rfl, rfl, by decide +kernel, rfl, by decide +kernel, by decide +kernel⟩
theorem sc_law_party : FnScope ["draws", "setup", "many", "stays", "k"] ["draws", "setup"] (defScope s_law_party) := ⟨rfl, rfl, rfl, by decide +kernel, rfl, by decide +kernel, by decide +kernel⟩
theorem sc_law_needs : FnScope ["party", "needs", "kind", "first", "end", "night"] ["party"] (defScope s_law_needs) := ⟨rfl, rfl, rfl, by decide +kernel, rfl, by decide +kernel, by decide +kernel⟩
theorem sc_law_price : FnScope ["setup", "party", "stay", "t"] ["setup", "party"] (defScope s_law_price) := ⟨rfl, rfl, rfl, by decide +kernel, rfl, by decide +kernel, by decide +kernel⟩
theorem sc_law_kept : FnScope ["setup", "party", "stay", "t"] ["setup", "party"] (defScope s_law_kept) := ⟨rfl, rfl, rfl, by decide +kernel, rfl, by decide +kernel, by decide +kernel⟩
theorem sc_law_same : FnScope ["told", "due", "cell"] ["told", "due"] (defScope s_law_same) := ⟨rfl, rfl, rfl, by decide +kernel, rfl, by decide +kernel, by decide +kernel⟩
theorem sc_law : FnScope ["script", "draws", "setup", "turn", "party", "told", "stay"] ["script"] (defScope s_law) := ⟨rfl, rfl, rfl, by decide +kernel, rfl, by decide +kernel, by decide +kernel⟩
/-! ### what the top has written -/
structure Txt (K : PySem.W.Frag) (mg : Str → Option Value) where
  d_needs_of : DefAt K mg "needs_of" s_needs_of ["party"]
  d_night_prices : DefAt K mg "night_prices" s_night_prices ["setup", "party"]
  d_price_of : DefAt K mg "price_of" s_price_of ["setup", "party"]
  d_kept_of : DefAt K mg "kept_of" s_kept_of ["setup", "party"]
  d_law_mixed : DefAt K mg "_law_mixed" s_law_mixed ["number", "k"]
  d_law_numbers : DefAt K mg "_law_numbers" s_law_numbers ["script"]
  d_law_draw : DefAt K mg "_law_draw" s_law_draw ["draws"]
  d_law_equal : DefAt K mg "_law_equal" s_law_equal ["actual", "due"]
  d_law_all_equal : DefAt K mg "_law_all_equal" s_law_all_equal ["actual", "due"]
  d_law_setup : DefAt K mg "_law_setup" s_law_setup ["draws"]
  d_law_stay : DefAt K mg "_law_stay" s_law_stay ["draws", "setup"]
  d_law_party : DefAt K mg "_law_party" s_law_party ["draws", "setup"]
  d_law_needs : DefAt K mg "_law_needs" s_law_needs ["party"]
  d_law_price : DefAt K mg "_law_price" s_law_price ["setup", "party"]
  d_law_kept : DefAt K mg "_law_kept" s_law_kept ["setup", "party"]
  d_law_same : DefAt K mg "_law_same" s_law_same ["told", "due"]
  z_bool : mg "bool" = none
  z_dict : mg "dict" = none
  z_int : mg "int" = none
  z_isinstance : mg "isinstance" = none
  z_len : mg "len" = none
  z_list : mg "list" = none
  z_min : mg "min" = none
  z_range : mg "range" = none
  z_sorted : mg "sorted" = none
  z_str : mg "str" = none
  z_sum : mg "sum" = none
  z_tuple : mg "tuple" = none
end MD
namespace MD
open PySem PySem.Spec PyProof.Rows L2
local macro_rules | `(tactic| walk_at "ne") => `(tactic| first | assumption | (apply Ne.symm; assumption) | exact ne_of_none (by assumption) (by assumption) | exact (ne_of_none (by assumption) (by assumption)).symm)
local macro_rules | `(tactic| walk_at "hp") => `(tactic| first | assumption | exact upd_same | (refine (upd_ne ?_).trans ?_; (focus walk_at "ne"); walk_at "hp"))
local macro_rules | `(tactic| walk_at "nm") => `(tactic| first | exact nmem_nil | exact nmem_one (by walk_at "ne") | exact nmem_cons (by walk_at "ne") (by walk_at "nm"))
/-! ### the draws -/
section
variable {P : Program} {w : World} {K : PySem.W.Frag} {mg : Str → Option Value} {base : Heap}
def spMixed : Sp := fun vs H Q _ => ∃ a k : Int, vs = [.int a, .int k] ∧ ∀ r : Int, 0 ≤ r → r < 2147483647 → Q (.int r) H
theorem c_law_mixed (T : Txt K mg) : Cal P w K mg base 1 "_law_mixed" spMixed := by
  refine cal_of T.d_law_mixed sc_law_mixed (fun vs H Q E h => ?_) (fun f cdv A outer s H vs Q E hr h => ?_)
  · obtain ⟨a, k, rfl, _⟩ := h; rfl
  · obtain ⟨a, k, rfl, q⟩ := h
    refine ⟨_, (pss_cons (ps_set (i := 2) sc_law_mixed.nd rfl (Or.inl rfl) (pe_op op_mod (pe_op op_add (pe_op op_add (pe_op op_mul (pv 0) pe_int) (pe_op op_mul (pv 1) pe_int)) pe_int) pe_int))
  (pss_one (ps_ret (pe_op op_mod (pe_op op_add (pe_op op_mul (pv 2) (pe_op op_add (pe_op op_fdiv (pv 2) pe_int) pe_int)) (pv 1)) pe_int)))), ?_⟩
    refine ⟨_, rfl, _, _, rfl, rfl, .inr ⟨by decide, by decide⟩, _, rfl, _, _, rfl, rfl, .inr ⟨by decide, by decide⟩, _, _, rfl, rfl, _, _, rfl, rfl, _, _, rfl, rfl, (by show (0 : Int) < 2147483647; decide), ?_⟩
    have h0 : 0 ≤ (a * 48271 + k * 69621 + 12345) % 2147483647 := Int.emod_nonneg _ (by decide)
    have h1 : (a * 48271 + k * 69621 + 12345) % 2147483647 < 2147483647 := Int.emod_lt_of_pos _ (by decide)
    generalize (a * 48271 + k * 69621 + 12345) % 2147483647 = st at h0 h1
    refine ⟨_, rfl, _, rfl, _, _, rfl, rfl, ⟨by decide, by decide⟩, _, _, rfl, rfl, _, _, rfl, rfl, .inl ⟨by omega, by omega⟩, _, rfl, _, _, rfl, rfl, _, _, rfl, rfl, (by show (0 : Int) < 2147483647; decide), ?_⟩
    exact q _ (Int.emod_nonneg _ (by decide)) (Int.emod_lt_of_pos _ (by decide))
def spNumbers (K : PySem.W.Frag) : Sp := fun vs H Q _ => ∃ (a : Addr) (ns : List Int), vs = [.ref a] ∧ SqL K H a (ns.map V.int) ∧ ns.length ≤ 63 ∧
  ∀ (p : Addr) (H' : Hp) (ms : List Int), H p = none → Kp [] H H' → H' p = some (.lst (ms.map V.int)) → Rg ms → ms.length ≤ 3780 → Q (.ref p) H'
theorem mod6 (z : Int) : 0 ≤ z % 1000000 ∧ z % 1000000 < 1000000 := ⟨Int.emod_nonneg _ (by decide), Int.emod_lt_of_pos _ (by decide)⟩
theorem c_law_numbers (T : Txt K mg) : Cal P w K mg base 2 "_law_numbers" (spNumbers K) := by
  have c_law_mixed := c_law_mixed (P := P) (w := w) (base := base) T
  refine cal_of T.d_law_numbers sc_law_numbers (fun vs H Q E h => ?_) (fun f cdv A outer s H vs Q E hr h => ?_)
  · obtain ⟨a, k, rfl, _⟩ := h; rfl
  · obtain ⟨a, ns, rfl, hS, hlen, q⟩ := h
    refine ⟨_, (pss_cons (ps_set (i := 1) sc_law_numbers.nd rfl (Or.inl rfl) (pe_lst pa_nil))
  (pss_cons (ps_for PassesOwn.never rfl (pi_list (pv 0)) (pg_name (i := 2) sc_law_numbers.nd rfl (Or.inl rfl))
  (pss_one (ps_if (pt_cmpR op_ge (pv 2) (pe_op op_pow pe_int pe_int) (nomark _))
  (pss_cons (ps_set (i := 3) sc_law_numbers.nd rfl (Or.inl rfl) (pv 2))
  (pss_one (ps_for PassesOwn.never rfl (pi_range1 (by rfl) T.z_range (pa_cons pe_int pa_nil)) (pg_name (i := 4) sc_law_numbers.nd rfl (Or.inl rfl))
  (pss_one (ps_if (pt_cmpR op_gt (pv 3) pe_int (nomark _))
  (pss_cons (ps_expr (pe_bm PySem.F.plainAttrs_list PySem.F.slot_list_append PySem.F.type_list_append mt_append (pv 1) (pa_cons (pe_op op_mod (pv 3) pe_int) pa_nil)))
  (pss_one (ps_set (i := 3) sc_law_numbers.nd rfl (Or.inl rfl) (pe_op op_fdiv (pv 3) pe_int))))
  pss_nil)))))
  (pss_cons (ps_expr (pe_bm PySem.F.plainAttrs_list PySem.F.slot_list_append PySem.F.type_list_append mt_append (pv 1) (pa_cons (pe_op op_mod (pv 2) pe_int) pa_nil)))
  (pss_one (ps_for PassesOwn.never rfl (pi_range1 (by rfl) T.z_range (pa_cons pe_int pa_nil)) (pg_name (i := 4) sc_law_numbers.nd rfl (Or.inl rfl))
  (pss_one (ps_expr (pe_bm PySem.F.plainAttrs_list PySem.F.slot_list_append PySem.F.type_list_append mt_append (pv 1) (pa_cons (pe_op op_mod (pe_c c_law_mixed (hr.mono (by first | decide | omega)) rfl (pa_cons (pe_c c_law_mixed (hr.mono (by first | decide | omega)) rfl (pa_cons (pe_op op_mod (pv 2) pe_int) (pa_cons (pv 4) pa_nil))) (pa_cons (pe_op op_add (pv 4) pe_int) pa_nil))) pe_int) pa_nil))))))))))
  (pss_one (ps_ret (pv 1))))), ?_⟩
    refine ⟨Nat.zero_le _, fun p hp => ?_⟩
    have k0 : Kp [] H (upd H p (.lst [])) := Kp.new hp
    refine ⟨_, rfl, a, rfl, ⟨_, k0.seq hS nmem_nil⟩, for_list (K := K) (a := a) (xs := ns.map V.int) (fun i σ H2 => ∃ (ms : List Int) (c r kk : Option V), σ = [some (.ref a), some (.ref p), c, r, kk] ∧ Kp [] H H2 ∧ H2 p = some (.lst (ms.map V.int)) ∧ Rg ms ∧ ms.length ≤ 60 * i)
      ⟨[], none, none, none, rfl, k0, upd_same, Rg.nil, Nat.le_refl _⟩ (fun i σ H2 _ ⟨_, _, _, _, _, k2, _⟩ => k2.seq hS nmem_nil) ?_ ?_⟩
    · rintro i y σ H2 hi ⟨ms, c, r, kk, rfl, k2, hp2, rg, hl⟩
      obtain ⟨z, rfl, hz⟩ := int_item hi
      have hi63 : i < 63 := Nat.lt_of_lt_of_le (List.getElem?_eq_some_iff.mp hz).1 hlen
      refine ⟨_, rfl, _, _, rfl, rfl, ⟨by decide, by decide, by decide⟩, _, _, rfl, rfl, _, rfl, ?_⟩
      refine ite2 (fun hc => ?_) (fun hc => ?_)
      · refine ⟨_, rfl, _, rfl, (by decide), (by decide), for_range (n := 60) (fun j σ H3 => ∃ (ms : List Int) (r : Int) (kk : Option V), σ = [some (.ref a), some (.ref p), some (.int z), some (.int r), kk] ∧ Kp [] H H3 ∧ H3 p = some (.lst (ms.map V.int)) ∧ Rg ms ∧ ms.length ≤ 60 * i + j)
          ⟨ms, z, _, rfl, k2, hp2, rg, hl⟩ ?_ ?_⟩
        · rintro j σ H3 hj ⟨ms, r, kk, rfl, k3, hp3, rg3, hl3⟩
          refine ⟨_, rfl, _, _, rfl, rfl, _, rfl, ?_⟩
          refine ite2 (fun hc => ?_) (fun hc => ?_)
          · refine ⟨_, rfl, .inl ⟨rfl, _, SqL.of hp3⟩, _, rfl, _, _, rfl, rfl, (by show (0 : Int) < 1000000; decide), p, _, _, rfl, rfl, hp3, (by rw [List.length_map]; exact sz hl3), ?_⟩
            refine ⟨_, rfl, _, _, rfl, rfl, ⟨by decide, by decide⟩, ?_⟩
            exact ⟨ms ++ [r % 1000000], r / 1000000, _, rfl, k3.own hp, by rw [← int_snoc]; exact upd_same, rg3.snoc (mod6 r).1 (mod6 r).2, by rw [List.length_append, List.length_singleton]; omega⟩
          · exact ⟨ms, r, _, rfl, k3, hp3, rg3, by omega⟩
        · rintro σ H3 ⟨ms, r, kk, rfl, k3, hp3, rg3, hl3⟩
          exact ⟨ms, _, _, _, rfl, k3, hp3, rg3, by omega⟩
      · refine ⟨_, rfl, .inl ⟨rfl, _, SqL.of hp2⟩, _, rfl, _, _, rfl, rfl, (by show (0 : Int) < 1000000; decide), p, _, _, rfl, rfl, hp2, (by rw [List.length_map]; exact sz hl), ?_⟩
        refine ⟨_, rfl, (by decide), (by decide), for_range (n := 5) (fun j σ H3 => ∃ (ms : List Int) (r kk : Option V), σ = [some (.ref a), some (.ref p), some (.int z), r, kk] ∧ Kp [] H H3 ∧ H3 p = some (.lst (ms.map V.int)) ∧ Rg ms ∧ ms.length ≤ 60 * i + 1 + j)
          ⟨ms ++ [z % 1000000], _, _, rfl, k2.own hp, by rw [← int_snoc]; exact upd_same, rg.snoc (mod6 z).1 (mod6 z).2, by rw [List.length_append, List.length_singleton]; omega⟩ ?_ ?_⟩
        · rintro j σ H3 hj ⟨ms, r, kk, rfl, k3, hp3, rg3, hl3⟩
          refine ⟨_, rfl, .inl ⟨rfl, _, SqL.of hp3⟩, ?_⟩
          refine ⟨_, rfl, _, _, rfl, rfl, (by show (0 : Int) < 2147483647; decide), _, rfl, _, _, rfl, fun r1 h0 h1 => ?_⟩
          refine ⟨_, rfl, _, _, rfl, rfl, _, _, rfl, fun r2 h2 h3 => ?_⟩
          refine ⟨_, _, rfl, rfl, (by show (0 : Int) < 1000000; decide), p, _, _, rfl, rfl, hp3, (by rw [List.length_map]; exact sz hl3), ?_⟩
          exact ⟨ms ++ [r2 % 1000000], _, _, rfl, k3.own hp, by rw [← int_snoc]; exact upd_same, rg3.snoc (mod6 r2).1 (mod6 r2).2, by rw [List.length_append, List.length_singleton]; omega⟩
        · rintro σ H3 ⟨ms, r, kk, rfl, k3, hp3, rg3, hl3⟩
          exact ⟨ms, _, _, _, rfl, k3, hp3, rg3, by omega⟩
    · rintro σ H2 ⟨ms, c, r, kk, rfl, k2, hp2, rg, hl⟩
      refine ⟨_, rfl, ?_⟩
      rw [List.length_map] at hl
      exact q p H2 ms hp k2 hp2 rg (by omega)
/-- at d the pair of the drawn numbers, at n, and of how many are used -/
structure DrawsAt (H : Hp) (d n : Addr) (ns : List Int) (k : Int) : Prop where
  hd : H d = some (.lst [.ref n, .int k])
  hn : H n = some (.lst (ns.map V.int))
  rg : Rg ns
  k0 : 0 ≤ k
theorem DrawsAt.ne {H : Hp} {d n : Addr} {ns : List Int} {k : Int} (h : DrawsAt H d n ns k) : d ≠ n := by
  refine ne_of h.hd h.hn fun e => ?_
  cases ns with
  | nil => cases e
  | cons a r => injection e with e; injection e with e _; cases e
theorem DrawsAt.kp {M : List Addr} {H H' : Hp} {d n : Addr} {ns : List Int} {k : Int} (h : DrawsAt H d n ns k) (q : Kp M H H') (h1 : d ∉ M) (h2 : n ∉ M) : DrawsAt H' d n ns k := ⟨q.at h.hd h1, q.at h.hn h2, h.rg, h.k0⟩
def spDraw : Sp := fun vs H Q _ => ∃ (d n : Addr) (ns : List Int) (k : Int), vs = [.ref d] ∧ DrawsAt H d n ns k ∧
  ∀ (r : Int) (H' : Hp), 0 ≤ r → r < 1000000 → Kp [d] H H' → DrawsAt H' d n ns (k + 1) → Q (.int r) H'
theorem c_law_draw (T : Txt K mg) : Cal P w K mg base 2 "_law_draw" spDraw := by
  have c_law_mixed := c_law_mixed (P := P) (w := w) (base := base) T
  refine cal_of T.d_law_draw sc_law_draw (fun vs H Q E h => ?_) (fun f cdv A outer s H vs Q E hr h => ?_)
  · obtain ⟨d, n, ns, k, rfl, _⟩ := h; rfl
  · obtain ⟨d, n, ns, k, rfl, D, q⟩ := h
    have k0 := D.k0
    refine ⟨_, (pss_cons (ps_set (i := 1) sc_law_draw.nd rfl (Or.inl rfl) (pe_ix (ixL (K := K)) (pv 0) pe_int (fun _ _ => rfl)))
  (pss_cons (ps_asg (pe_op op_add (pv 1) pe_int) (pg_sub (pv 0) pe_int set_list))
  (pss_cons (ps_if (pt_cmpR op_lt (pv 1) (pe_callB (lenK (K := K)) (by rfl) T.z_len (by decide +kernel) (pa_cons (pe_ix (ixL (K := K)) (pv 0) pe_int (fun _ _ => rfl)) pa_nil)) (nomark _))
  (pss_one (ps_ret (pe_ix (ixL (K := K)) (pe_ix (ixL (K := K)) (pv 0) pe_int (fun _ _ => rfl)) (pv 1) (fun _ _ => rfl))))
  pss_nil)
  (pss_cons (ps_set (i := 2) sc_law_draw.nd rfl (Or.inl rfl) (pe_op op_add pe_int (pv 1)))
  (pss_cons (ps_if (pt_cmpR op_gt (pe_callB (lenK (K := K)) (by rfl) T.z_len (by decide +kernel) (pa_cons (pe_ix (ixL (K := K)) (pv 0) pe_int (fun _ _ => rfl)) pa_nil)) pe_int (nomark _))
  (pss_one (ps_set (i := 2) sc_law_draw.nd rfl (Or.inl rfl) (pe_op op_add (pv 2) (pe_op op_mul pe_int (pe_ix (ixL (K := K)) (pe_ix (ixL (K := K)) (pv 0) pe_int (fun _ _ => rfl)) pe_int (fun _ _ => rfl))))))
  pss_nil)
  (pss_one (ps_ret (pe_op op_mod (pe_c c_law_mixed (hr.mono (by first | decide | omega)) rfl (pa_cons (pe_c c_law_mixed (hr.mono (by first | decide | omega)) rfl (pa_cons (pv 2) (pa_cons (pv 1) pa_nil))) (pa_cons pe_int pa_nil))) pe_int)))))))), ?_⟩
    refine ⟨_, rfl, d, _, _, _, rfl, rfl, SqL.of D.hd, rfl, ?_⟩
    refine ⟨_, rfl, _, _, rfl, rfl, _, rfl, d, _, _, 1, rfl, rfl, D.hd, rfl, ?_⟩
    have hk : Kp [d] H (upd H d (.lst [.ref n, .int (k + 1)])) := Kp.old D.hd trivial List.mem_cons_self
    have D' : DrawsAt (upd H d (.lst [.ref n, .int (k + 1)])) d n ns (k + 1) := ⟨upd_same, (upd_ne D.ne.symm).trans D.hn, D.rg, by omega⟩
    obtain ⟨H1, eH⟩ : ∃ H1, H1 = upd H d (.lst [.ref n, .int (k + 1)]) := ⟨_, rfl⟩
    rw [← eH] at hk D'
    refine Eq.mp (congrArg _ eH) ?_
    refine ⟨_, rfl, _, rfl, d, _, _, _, rfl, rfl, SqL.of D'.hd, rfl, n, _, rfl, .inl (SqL.of D'.hn), _, _, rfl, rfl, _, rfl, ?_⟩
    refine ite2 (fun hc => ?_) (fun hc => ?_)
    · have hc := of_decide_eq_true hc
      rw [List.length_map] at hc
      have hlt : k.toNat < ns.length := by omega
      have hz : ns[k.toNat]? = some ns[k.toNat] := by simp [hlt]
      have hr := D.rg _ (List.getElem_mem hlt)
      refine ⟨_, rfl, d, _, _, _, rfl, rfl, SqL.of D'.hd, rfl, _, rfl, n, _, _, _, rfl, rfl, SqL.of D'.hn, int_at k0 hz, ?_⟩
      exact q _ _ hr.1 hr.2 hk D'
    · refine ⟨_, rfl, _, _, rfl, rfl, ?_⟩
      refine ⟨_, rfl, d, _, _, _, rfl, rfl, SqL.of D'.hd, rfl, n, _, rfl, .inl (SqL.of D'.hn), _, _, rfl, rfl, _, rfl, ?_⟩
      have fin : ∀ f : Int, ∃ v, ([some (V.ref d), some (V.int k), some (V.int f)] : L2.St)[2]? = some (some v) ∧ ∃ u, ([some (V.ref d), some (V.int k), some (V.int f)] : L2.St)[1]? = some (some u) ∧ spMixed [v, u] H1 (fun x H2 => spMixed [x, .int 5] H2 (fun y H3 => ∃ i j, y = .int i ∧ V.int 1000000 = .int j ∧ 0 < j ∧ Q (.int (i % j)) H3) E0) E0 := fun f =>
        ⟨_, rfl, _, rfl, _, _, rfl, fun r1 h0 h1 => ⟨_, _, rfl, fun r2 h2 h3 => ⟨_, _, rfl, rfl, by decide, q _ _ (mod6 r2).1 (mod6 r2).2 hk D'⟩⟩⟩
      refine ite2 (fun hc => ?_) (fun hc => ?_)
      · have hc := of_decide_eq_true hc
        rw [List.length_map] at hc
        have hlt : 0 < ns.length := by omega
        have hz : ns[(0 : Int).toNat]? = some ns[0] := by simp [hlt]
        refine ⟨_, rfl, _, rfl, d, _, _, _, rfl, rfl, SqL.of D'.hd, rfl, n, _, _, _, rfl, rfl, SqL.of D'.hn, int_at (by decide) hz, _, _, rfl, rfl, .inl ⟨by decide, by decide⟩, _, _, rfl, rfl, ?_⟩
        exact fin _
      · exact fin _
end

end MD
namespace MD
open PySem PySem.Spec PyProof.Rows L2
local macro_rules | `(tactic| walk_at "ne") => `(tactic| first | assumption | (apply Ne.symm; assumption) | exact ne_of_none (by assumption) (by assumption) | exact (ne_of_none (by assumption) (by assumption)).symm)
local macro_rules | `(tactic| walk_at "hp") => `(tactic| first | assumption | exact upd_same | (refine (upd_ne ?_).trans ?_; (focus walk_at "ne"); walk_at "hp"))
local macro_rules | `(tactic| walk_at "nm") => `(tactic| first | exact nmem_nil | exact nmem_one (by walk_at "ne") | exact nmem_cons (by walk_at "ne") (by walk_at "nm"))
/-! ### deep equality -/
section
variable {P : Program} {w : World} {K : PySem.W.Frag} {mg : Str → Option Value} {base : Heap}
def spEq (K : PySem.W.Frag) (n : Nat) : Sp := fun vs H Q _ => ∃ (d : D) (x y : V), vs = [x, y] ∧ Rep K H d x ∧ Rep K H d y ∧ d.ok n ∧ Q (.bl true) H
def spEqs (K : PySem.W.Frag) (n : Nat) : Sp := fun vs H Q _ => ∃ (l : Bool) (ds : List D) (a b : Addr) (xs ys : List V), vs = [.ref a, .ref b] ∧ SqB K H l a xs ∧ SqB K H l b ys ∧ Reps K H ds xs ∧ Reps K H ds ys ∧
  ds.length ≤ 100000 ∧ (∀ d ∈ ds, D.ok n d) ∧ Q (.bl true) H
theorem ok_eqs (T : Txt K mg) (n k : Nat) (c_law_equal : Cal P w K mg base k "_law_equal" (spEq K n)) : Cal P w K mg base (k + 1) "_law_all_equal" (spEqs K n) := by
  refine cal_of T.d_law_all_equal sc_law_all_equal (fun vs H Q E h => ?_) (fun f cdv A outer s H vs Q E hr h => ?_)
  · obtain ⟨l, ds, a, b, xs, ys, rfl, _⟩ := h; rfl
  · obtain ⟨l, ds, a, b, xs, ys, rfl, ha, hb, rx, ry, hz, hk, q⟩ := h
    refine ⟨_, (pss_cons (ps_for PassesOwn.never rfl (pi_range1 (by rfl) T.z_range (pa_cons (pe_callB (lenK (K := K)) (by rfl) T.z_len (by decide +kernel) (pa_cons (pv 1) pa_nil)) pa_nil)) (pg_name (i := 2) sc_law_all_equal.nd rfl (Or.inl rfl))
  (pss_one (ps_if (pt_not (pt_val (pe_c c_law_equal (hr.mono (by first | decide | omega)) rfl (pa_cons (pe_ix (ixS (K := K)) (pv 0) (pv 2) (fun _ _ => rfl)) (pa_cons (pe_ix (ixS (K := K)) (pv 1) (pv 2) (fun _ _ => rfl)) pa_nil)))))
  (pss_one (ps_ret pe_bl))
  pss_nil)))
  (pss_one (ps_ret pe_bl))), ?_⟩
    have ly := ry.len
    refine ⟨_, rfl, b, ys, rfl, hb.any, _, rfl, (by omega), (by omega), for_range (n := ys.length) (fun i σ H2 => H2 = H ∧ ∃ kk : Option V, σ = [some (.ref a), some (.ref b), kk]) ⟨rfl, none, rfl⟩ ?_ ?_⟩
    · rintro i σ H2 hi ⟨rfl, kk, rfl⟩
      obtain ⟨d, hd⟩ : ∃ d, ds[i]? = some d := ⟨ds[i]'(by omega), by simp [show i < ds.length by omega]⟩
      obtain ⟨x, ex, rdx⟩ := rx.get hd
      obtain ⟨y, ey, rdy⟩ := ry.get hd
      have e0 : (0 : Int) + (i : Int) = (i : Int) := by omega
      have ax : atI xs ((0 : Int) + (i : Int)) = some x := by rw [e0]; exact atI_nat ex
      have ay : atI ys ((0 : Int) + (i : Int)) = some y := by rw [e0]; exact atI_nat ey
      cases l with
      | true =>
        refine ⟨_, rfl, _, rfl, .inl ⟨a, xs, _, x, rfl, rfl, ha, ax, _, rfl, _, rfl, .inl ⟨b, ys, _, y, rfl, rfl, hb, ay, d, x, y, rfl, rdx, rdy, hk d (List.mem_of_getElem? hd), _, rfl, ?_⟩⟩⟩
        exact ⟨rfl, _, rfl⟩
      | false =>
        refine ⟨_, rfl, _, rfl, .inr (.inl ⟨a, xs, _, x, rfl, rfl, ha, ax, _, rfl, _, rfl, .inr (.inl ⟨b, ys, _, y, rfl, rfl, hb, ay, d, x, y, rfl, rdx, rdy, hk d (List.mem_of_getElem? hd), _, rfl, ?_⟩)⟩)⟩
        exact ⟨rfl, _, rfl⟩
    · rintro σ H2 ⟨rfl, kk, rfl⟩
      exact q
theorem ok_eq (T : Txt K mg) : ∀ n : Nat, Cal P w K mg base (2 * n + 1) "_law_equal" (spEq K n)
  | 0 => by
    have c_law_all_equal : Cal P w K mg base 0 "_law_all_equal" (fun _ _ _ _ => False) := by
      obtain ⟨f, fd, hm, F, b⟩ := T.d_law_all_equal.ex
      exact ⟨f, fd, _, ⟨fun _ _ _ _ h => h.elim, fun _ _ _ _ _ _ _ _ _ _ _ _ _ h => h.elim⟩, hm, F.kp, b⟩
    exact go T 0 0 _ c_law_all_equal (fun _ _ _ ⟨m, hm, _⟩ => absurd hm (by omega))
  | n + 1 => by
    have c_law_all_equal := ok_eqs T n (2 * n + 1) (ok_eq T n)
    exact go T (n + 1) (2 * n + 2) _ c_law_all_equal (fun vs H Q h => by
      obtain ⟨m, hm, h⟩ := h
      cases hm
      exact h)
where
  go (T : Txt K mg) (n k : Nat) (sp : Sp) (c_law_all_equal : Cal P w K mg base k "_law_all_equal" sp) (hsp : ∀ vs H Q, (∃ m, n = m + 1 ∧ spEqs K m vs H Q E0) → sp vs H Q E0) : Cal P w K mg base (k + 1) "_law_equal" (spEq K n) := by
    refine cal_of T.d_law_equal sc_law_equal (fun vs H Q E h => ?_) (fun f cdv A outer s H vs Q E hr h => ?_)
    · obtain ⟨d, x, y, rfl, _⟩ := h; rfl
    · obtain ⟨d, x, y, rfl, rx, ry, ok, q⟩ := h
      refine ⟨_, (pss_cons (ps_if (pt_val (pe_callB (isiK (K := K)) (by rfl) T.z_isinstance (by decide +kernel) (pa_cons (pv 1) (pa_cons (pe_bltn (v := .ty "list") (by rfl) T.z_list (by decide +kernel) rfl) pa_nil))))
  (pss_cons (ps_if (PW.pt (pw_or (pt_not (pt_val (pe_callB (isiK (K := K)) (by rfl) T.z_isinstance (by decide +kernel) (pa_cons (pv 0) (pa_cons (pe_bltn (v := .ty "list") (by rfl) T.z_list (by decide +kernel) rfl) pa_nil))))) (pw_or1 (pt_cmpR op_ne (pe_callB (lenK (K := K)) (by rfl) T.z_len (by decide +kernel) (pa_cons (pv 0) pa_nil)) (pe_callB (lenK (K := K)) (by rfl) T.z_len (by decide +kernel) (pa_cons (pv 1) pa_nil)) (nomark _)))))
  (pss_one (ps_ret pe_bl))
  pss_nil)
  (pss_one (ps_ret (pe_c c_law_all_equal (hr.mono (by first | decide | omega)) rfl (pa_cons (pv 0) (pa_cons (pv 1) pa_nil))))))
  pss_nil)
  (pss_cons (ps_if (pt_val (pe_callB (isiK (K := K)) (by rfl) T.z_isinstance (by decide +kernel) (pa_cons (pv 1) (pa_cons (pe_bltn (v := .ty "tuple") (by rfl) T.z_tuple (by decide +kernel) rfl) pa_nil))))
  (pss_cons (ps_if (PW.pt (pw_or (pt_not (pt_val (pe_callB (isiK (K := K)) (by rfl) T.z_isinstance (by decide +kernel) (pa_cons (pv 0) (pa_cons (pe_bltn (v := .ty "tuple") (by rfl) T.z_tuple (by decide +kernel) rfl) pa_nil))))) (pw_or1 (pt_cmpR op_ne (pe_callB (lenK (K := K)) (by rfl) T.z_len (by decide +kernel) (pa_cons (pv 0) pa_nil)) (pe_callB (lenK (K := K)) (by rfl) T.z_len (by decide +kernel) (pa_cons (pv 1) pa_nil)) (nomark _)))))
  (pss_one (ps_ret pe_bl))
  pss_nil)
  (pss_one (ps_ret (pe_c c_law_all_equal (hr.mono (by first | decide | omega)) rfl (pa_cons (pv 0) (pa_cons (pv 1) pa_nil))))))
  pss_nil)
  (pss_cons (ps_if (pt_val (pe_callB (isiK (K := K)) (by rfl) T.z_isinstance (by decide +kernel) (pa_cons (pv 1) (pa_cons (pe_bltn (v := .ty "bool") (by rfl) T.z_bool (by decide +kernel) rfl) pa_nil))))
  (pss_one (ps_ret (pe_and (pe_callB (isiK (K := K)) (by rfl) T.z_isinstance (by decide +kernel) (pa_cons (pv 0) (pa_cons (pe_bltn (v := .ty "bool") (by rfl) T.z_bool (by decide +kernel) rfl) pa_nil))) (pe_one (pe_cmpR op_eq (pv 0) (pv 1) (nomark _))))))
  pss_nil)
  (pss_cons (ps_if (pt_val (pe_callB (isiK (K := K)) (by rfl) T.z_isinstance (by decide +kernel) (pa_cons (pv 1) (pa_cons (pe_bltn (v := .ty "int") (by rfl) T.z_int (by decide +kernel) rfl) pa_nil))))
  (pss_one (ps_ret (pe_and (pe_callB (isiK (K := K)) (by rfl) T.z_isinstance (by decide +kernel) (pa_cons (pv 0) (pa_cons (pe_bltn (v := .ty "int") (by rfl) T.z_int (by decide +kernel) rfl) pa_nil))) (pe_and (pe_not (pe_callB (isiK (K := K)) (by rfl) T.z_isinstance (by decide +kernel) (pa_cons (pv 0) (pa_cons (pe_bltn (v := .ty "bool") (by rfl) T.z_bool (by decide +kernel) rfl) pa_nil)))) (pe_one (pe_cmpR op_eq (pv 0) (pv 1) (nomark _)))))))
  pss_nil)
  (pss_cons (ps_if (pt_val (pe_callB (isiK (K := K)) (by rfl) T.z_isinstance (by decide +kernel) (pa_cons (pv 1) (pa_cons (pe_bltn (v := .ty "str") (by rfl) T.z_str (by decide +kernel) rfl) pa_nil))))
  (pss_one (ps_ret (pe_and (pe_callB (isiK (K := K)) (by rfl) T.z_isinstance (by decide +kernel) (pa_cons (pv 0) (pa_cons (pe_bltn (v := .ty "str") (by rfl) T.z_str (by decide +kernel) rfl) pa_nil))) (pe_one (pe_cmpR op_eq (pv 0) (pv 1) (nomark _))))))
  pss_nil)
  (pss_one (ps_ret (pe_cmpR op_isN (pv 0) pe_non (nomark _))))))))), ?_⟩
      cases d with
      | v u =>
        unfold Rep at rx ry
        obtain ⟨e1, su⟩ := rx
        obtain ⟨e2, _⟩ := ry
        subst x
        subst y
        cases u with
        | non =>
          refine ⟨_, rfl, _, _, _, _, false, rfl, .ty _, (.base .non), kit_ty (by decide +kernel), _, rfl, iteF ?_⟩
          refine ⟨_, rfl, _, _, _, _, false, rfl, .ty _, (.base .non), kit_ty (by decide +kernel), _, rfl, iteF ?_⟩
          refine ⟨_, rfl, _, _, _, _, false, rfl, .ty _, (.base .non), kit_ty (by decide +kernel), _, rfl, iteF ?_⟩
          refine ⟨_, rfl, _, _, _, _, false, rfl, .ty _, (.base .non), kit_ty (by decide +kernel), _, rfl, iteF ?_⟩
          refine ⟨_, rfl, _, _, _, _, false, rfl, .ty _, (.base .non), kit_ty (by decide +kernel), _, rfl, iteF ?_⟩
          exact ⟨_, rfl, rfl, q⟩
        | bl b =>
          refine ⟨_, rfl, _, _, _, _, false, rfl, .ty _, (.base (.bl b)), kit_ty (by decide +kernel), _, rfl, iteF ?_⟩
          refine ⟨_, rfl, _, _, _, _, false, rfl, .ty _, (.base (.bl b)), kit_ty (by decide +kernel), _, rfl, iteF ?_⟩
          refine ⟨_, rfl, _, _, _, _, true, rfl, .ty _, (.base (.bl b)), kit_ty (by decide +kernel), _, rfl, iteT ?_⟩
          refine ⟨_, rfl, _, _, _, _, true, rfl, .ty _, (.base (.bl b)), kit_ty (by decide +kernel), _, rfl, iteT ?_⟩
          refine ⟨_, rfl, _, rfl, rfl, ?_⟩
          rw [decide_eq_true rfl]; exact q
        | int i =>
          refine ⟨_, rfl, _, _, _, _, false, rfl, .ty _, (.base (.int i)), kit_ty (by decide +kernel), _, rfl, iteF ?_⟩
          refine ⟨_, rfl, _, _, _, _, false, rfl, .ty _, (.base (.int i)), kit_ty (by decide +kernel), _, rfl, iteF ?_⟩
          refine ⟨_, rfl, _, _, _, _, false, rfl, .ty _, (.base (.int i)), kit_ty (by decide +kernel), _, rfl, iteF ?_⟩
          refine ⟨_, rfl, _, _, _, _, true, rfl, .ty _, (.base (.int i)), kit_ty (by decide +kernel), _, rfl, iteT ?_⟩
          refine ⟨_, rfl, _, _, _, _, true, rfl, .ty _, (.base (.int i)), kit_ty (by decide +kernel), _, rfl, iteT ?_⟩
          refine ⟨_, rfl, _, _, _, _, false, rfl, .ty _, (.base (.int i)), kit_ty (by decide +kernel), _, rfl, _, rfl, iteT ?_⟩
          refine ⟨_, rfl, _, rfl, rfl, ?_⟩
          rw [decide_eq_true rfl]; exact q
        | str z =>
          refine ⟨_, rfl, _, _, _, _, false, rfl, .ty _, (.base (.str z)), kit_ty (by decide +kernel), _, rfl, iteF ?_⟩
          refine ⟨_, rfl, _, _, _, _, false, rfl, .ty _, (.base (.str z)), kit_ty (by decide +kernel), _, rfl, iteF ?_⟩
          refine ⟨_, rfl, _, _, _, _, false, rfl, .ty _, (.base (.str z)), kit_ty (by decide +kernel), _, rfl, iteF ?_⟩
          refine ⟨_, rfl, _, _, _, _, false, rfl, .ty _, (.base (.str z)), kit_ty (by decide +kernel), _, rfl, iteF ?_⟩
          refine ⟨_, rfl, _, _, _, _, true, rfl, .ty _, (.base (.str z)), kit_ty (by decide +kernel), _, rfl, iteT ?_⟩
          refine ⟨_, rfl, _, _, _, _, true, rfl, .ty _, (.base (.str z)), kit_ty (by decide +kernel), _, rfl, iteT ?_⟩
          refine ⟨_, rfl, _, rfl, rfl, ?_⟩
          rw [decide_eq_true rfl]; exact q
        | _ => cases su
      | sq l ds =>
        unfold Rep at rx ry
        obtain ⟨a, xs, rfl, ha, rxs⟩ := rx
        obtain ⟨b, ys, rfl, hb, rys⟩ := ry
        have ll : (xs.length : Int) = ys.length := by rw [rxs.len, rys.len]
        cases n with
        | zero => unfold D.ok at ok; exact ok.elim
        | succ m =>
          unfold D.ok at ok
          have fin : sp [.ref a, .ref b] H Q E0 := hsp _ _ _ ⟨m, rfl, l, ds, a, b, xs, ys, rfl, ha, hb, rxs, rys, ok.1, ok.2, q⟩
          cases l with
          | true =>
            refine ⟨_, rfl, _, _, _, _, true, rfl, .ty _, ty_sq hb, kit_ty (by decide +kernel), _, rfl, iteT ?_⟩
            refine ⟨_, rfl, _, _, _, _, true, rfl, .ty _, ty_sq ha, kit_ty (by decide +kernel), _, rfl, iteF ?_⟩
            refine ⟨_, rfl, a, xs, rfl, ha.any, _, rfl, b, ys, rfl, hb.any, rfl, _, rfl, iteNS (by rw [ll]) ?_⟩
            exact ⟨_, rfl, _, rfl, fin⟩
          | false =>
            refine ⟨_, rfl, _, _, _, _, false, rfl, .ty _, ty_sq hb, kit_ty (by decide +kernel), _, rfl, iteF ?_⟩
            refine ⟨_, rfl, _, _, _, _, true, rfl, .ty _, ty_sq hb, kit_ty (by decide +kernel), _, rfl, iteT ?_⟩
            refine ⟨_, rfl, _, _, _, _, true, rfl, .ty _, ty_sq ha, kit_ty (by decide +kernel), _, rfl, iteF ?_⟩
            refine ⟨_, rfl, a, xs, rfl, ha.any, _, rfl, b, ys, rfl, hb.any, rfl, _, rfl, iteNS (by rw [ll]) ?_⟩
            exact ⟨_, rfl, _, rfl, fin⟩
end

end MD
namespace MD
open PySem PySem.Spec PyProof.Rows L2
local macro_rules | `(tactic| walk_at "ne") => `(tactic| first | assumption | (apply Ne.symm; assumption) | exact ne_of_none (by assumption) (by assumption) | exact (ne_of_none (by assumption) (by assumption)).symm)
local macro_rules | `(tactic| walk_at "hp") => `(tactic| first | assumption | exact upd_same | (refine (upd_ne ?_).trans ?_; (focus walk_at "ne"); walk_at "hp"))
local macro_rules | `(tactic| walk_at "nm") => `(tactic| first | exact nmem_nil | exact nmem_one (by walk_at "ne") | exact nmem_cons (by walk_at "ne") (by walk_at "nm"))
/-! ### a drawn setup -/
section
variable {P : Program} {w : World} {K : PySem.W.Frag} {mg : Str → Option Value} {base : Heap}
theorem DrawsAt.kp0 {H H' : Hp} {d n : Addr} {ns : List Int} {k : Int} (h : DrawsAt H d n ns k) (q : Kp [] H H') : DrawsAt H' d n ns k := h.kp q nmem_nil nmem_nil
theorem DrawsAt.put {H H' : Hp} {d n p : Addr} {ns : List Int} {k : Int} (h : DrawsAt H d n ns k) (q : Kp [p] H H') (h1 : d ≠ p) (h2 : n ≠ p) : DrawsAt H' d n ns k := h.kp q (nmem_one h1) (nmem_one h2)
def spSetup : Sp := fun vs H Q _ => ∃ (d n : Addr) (ns : List Int) (k : Int), vs = [.ref d] ∧ DrawsAt H d n ns k ∧
  ∀ (a r p : Addr) (su : Su) (k' : Int) (H' : Hp), su.ok → Kp [d] H H' → DrawsAt H' d n ns k' → SuAt H' a r p su → Q (.ref a) H'
theorem c_law_setup (T : Txt K mg) : Cal P w K mg base 3 "_law_setup" spSetup := by
  have c_law_draw := c_law_draw (P := P) (w := w) (base := base) T
  refine cal_of T.d_law_setup sc_law_setup (fun vs H Q E h => ?_) (fun f cdv A outer s H vs Q E hr h => ?_)
  · obtain ⟨d, n, ns, k, rfl, _⟩ := h; rfl
  · obtain ⟨d, n, ns, k, rfl, D, q⟩ := h
    refine ⟨_, (pss_cons (ps_set (i := 2) sc_law_setup.nd rfl (Or.inl rfl) (pe_callTy (ktupleK (K := K)) (by rfl) T.z_tuple (by decide +kernel) (pa_cons (ke_lc rfl sc_law_setup.nd (pi_range1 (by rfl) T.z_range (pa_cons (pe_op op_add pe_int (pe_op op_mod (pe_c c_law_draw (hr.mono (by first | decide | omega)) rfl (pa_cons (pv 0) pa_nil)) pe_int)) pa_nil)) (blkOk_by (own := [("k", 1)]) (N := ["draws", "k", "rooms", "nights", "prices", "t"]) (sc := defScope s_law_setup) (by decide +kernel)) (fun _ _ _ _ _ => (pg_name (i := 1) sc_law_setup.nd rfl (Or.inl rfl))) (fun _ _ _ _ _ => pts_nil) (fun _ _ _ _ _ => (pe_op op_mod (pe_c c_law_draw (hr.mono (by first | decide | omega)) rfl (pa_cons (pv 0) pa_nil)) pe_int))) pa_nil)))
  (pss_cons (ps_set (i := 3) sc_law_setup.nd rfl (Or.inl rfl) (pe_op op_add pe_int (pe_op op_mod (pe_c c_law_draw (hr.mono (by first | decide | omega)) rfl (pa_cons (pv 0) pa_nil)) pe_int)))
  (pss_cons (ps_set (i := 4) sc_law_setup.nd rfl (Or.inl rfl) (ke_lst pa_nil))
  (pss_cons (ps_for PassesOwn.never rfl (pi_range1 (by rfl) T.z_range (pa_cons (pe_callB (lenK (K := K)) (by rfl) T.z_len (by decide +kernel) (pa_cons (pv 2) pa_nil)) pa_nil)) (pg_name (i := 1) sc_law_setup.nd rfl (Or.inl rfl))
  (pss_one (ps_expr (pe_bm PySem.F.plainAttrs_list PySem.F.slot_list_append PySem.F.type_list_append mk_append (pv 4) (pa_cons (pe_callTy (ktupleK (K := K)) (by rfl) T.z_tuple (by decide +kernel) (pa_cons (ke_lc rfl sc_law_setup.nd (pi_range1 (by rfl) T.z_range (pa_cons (pv 3) pa_nil)) (blkOk_by (own := [("t", 5)]) (N := ["draws", "k", "rooms", "nights", "prices", "t"]) (sc := defScope s_law_setup) (by decide +kernel)) (fun _ _ _ _ _ => (pg_name (i := 5) sc_law_setup.nd rfl (Or.inl rfl))) (fun _ _ _ _ _ => pts_nil) (fun _ _ _ _ _ => (pe_ix (ixL (K := K)) (ke_lst (pa_cons (pe_op op_mod (pe_c c_law_draw (hr.mono (by first | decide | omega)) rfl (pa_cons (pv 0) pa_nil)) pe_int) (pa_cons pe_int (pa_cons (pe_op op_pow pe_int pe_int) (pa_cons (pe_op op_mod (pe_c c_law_draw (hr.mono (by first | decide | omega)) rfl (pa_cons (pv 0) pa_nil)) pe_int) pa_nil))))) (pe_op op_mod (pe_c c_law_draw (hr.mono (by first | decide | omega)) rfl (pa_cons (pv 0) pa_nil)) pe_int) (fun _ _ => rfl)))) pa_nil)) pa_nil)))))
  (pss_one (ps_ret (ke_tup (pa_cons (pv 2) (pa_cons (pv 3) (pa_cons (pe_op op_add pe_int (pe_op op_mod (pe_c c_law_draw (hr.mono (by first | decide | omega)) rfl (pa_cons (pv 0) pa_nil)) pe_int)) (pa_cons (pe_callTy (ktupleK (K := K)) (by rfl) T.z_tuple (by decide +kernel) (pa_cons (pv 4) pa_nil)) (pa_cons (pe_ix (ixL (K := K)) (ke_lst (pa_cons (pe_op op_mod (pe_c c_law_draw (hr.mono (by first | decide | omega)) rfl (pa_cons (pv 0) pa_nil)) pe_int) (pa_cons pe_int (pa_cons pe_int pa_nil)))) (pe_op op_mod (pe_c c_law_draw (hr.mono (by first | decide | omega)) rfl (pa_cons (pv 0) pa_nil)) pe_int) (fun _ _ => rfl)) pa_nil)))))))))))), ?_⟩
    refine ⟨_, rfl, d, n, ns, k, rfl, D, fun r1 H1 r10 r11 k1 D1 => ?_⟩
    have m1 := md r1 3 (by decide)
    refine ⟨_, _, rfl, rfl, (by show (0 : Int) < 3; decide), _, _, rfl, rfl, _, rfl, (by omega), (by omega), fun R0 H2 hR kR hR2 => ?_⟩
    have R0d : H R0 = none := k1.free hR
    have dR : d ≠ R0 := ne_of_none D.hd R0d
    have nR : n ≠ R0 := ne_of_none D.hn R0d
    refine kl_range (n := (1 + r1 % 3).toNat) (fun i acc H' => ∃ (ms : List Int) (k' : Int), acc = ms.map V.int ∧ ms.length = i ∧ (∀ m ∈ ms, 0 ≤ m ∧ m ≤ 4) ∧ Kp [d] H H' ∧ DrawsAt H' d n ns k')
      ⟨[], _, rfl, rfl, (fun _ h => nomatch h), k1.th0 kR, D1.kp0 kR⟩ ?_ ?_
    · rintro i acc H3 hi hacc ⟨ms, k', rfl, hl, hm, k3, D3⟩
      refine turn1 rfl ?_
      refine ⟨_, rfl, d, n, ns, k', rfl, D3, fun r2 H4 r20 r21 k4 D4 => ?_⟩
      have m2 := md r2 5 (by decide)
      refine ⟨_, _, rfl, rfl, (by show (0 : Int) < 5; decide), k4.at hacc (nmem_one dR.symm), (by rw [List.length_map]; exact sz (show ms.length ≤ 3 by omega)), fun H5 k5 h5 => ?_⟩
      refine ⟨ms ++ [r2 % 5], _, int_snoc _ _, by rw [List.length_append, hl]; rfl, fun m hm' => ?_, (k3.trans k4).put k5 R0d, D4.put k5 dR nR⟩
      rcases List.mem_append.mp hm' with z | z
      · exact hm m z
      · rw [List.mem_singleton.mp z]; omega
    rintro acc H3 hacc ⟨rs, k', rfl, hrl, hrr, k3, D3⟩
    refine ⟨R0, _, rfl, .inl ⟨SqL.of hacc, fun r H4 hr4 kr hr4' => ?_⟩⟩
    have k4 := k3.th0 kr
    have D4 := D3.kp0 kr
    refine ⟨_, rfl, d, n, ns, k', rfl, D4, fun r2 H5 r20 r21 k5 D5 => ?_⟩
    have m2 := md r2 12 (by decide)
    refine ⟨_, _, rfl, rfl, (by show (0 : Int) < 12; decide), _, _, rfl, rfl, ?_⟩
    refine ⟨Nat.zero_le _, fun l H6 hl kl hl6 => ?_⟩
    have lH : H l = none := (k4.trans k5).free hl
    have dl : d ≠ l := ne_of_none D.hd lH
    have nl : n ≠ l := ne_of_none D.hn lH
    have hr6 := (k5.th0 kl).tup _ _ hr4'
    refine ⟨_, rfl, r, _, rfl, .inr (SqT.of hr6), _, rfl, (by rw [List.length_map]; omega), (by rw [List.length_map]; omega), for_range (n := (rs.map V.int).length) (fun i σ H' => ∃ (kk : Option V) (ps : List V) (pss : List (List Int)) (k' : Int), σ = [some (.ref d), kk, some (.ref r), some (.int (1 + r2 % 12)), some (.ref l), none] ∧ Kp [d] H H' ∧ DrawsAt H' d n ns k' ∧ H' r = some (.tup (rs.map V.int)) ∧
        H' l = some (.lst ps) ∧ RepTs H' (pss.map fun r => MD.D.sq false (intD r)) ps ∧ pss.length = i ∧ ∀ r ∈ pss, (r.length : Int) = 1 + r2 % 12 ∧ ∀ p ∈ r, 0 ≤ p ∧ p ≤ 1000000)
      ⟨_, [], [], _, rfl, (k4.trans k5).th0 kl, D5.kp0 kl, hr6, hl6, RepTs.nil, rfl, fun _ h => nomatch h⟩ ?_ ?_⟩
    · rintro i σ H7 hi ⟨kk, ps, pss, k7', rfl, k7, D7, hr7, hl7, rp, hpl, hpr⟩
      rw [List.length_map] at hi
      refine ⟨_, rfl, .inl ⟨rfl, _, SqL.of hl7⟩, ?_⟩
      refine ⟨_, rfl, _, rfl, (by omega), (by omega), fun W0 H8 hW kW hW8 => ?_⟩
      have WH : H W0 = none := k7.free hW
      have dW : d ≠ W0 := ne_of_none D.hd WH
      have nW : n ≠ W0 := ne_of_none D.hn WH
      have lW : l ≠ W0 := ne_of_none hl7 hW
      refine kl_range (n := (1 + r2 % 12).toNat) (fun j acc H' => ∃ (ms : List Int) (k' : Int), acc = ms.map V.int ∧ ms.length = j ∧ (∀ m ∈ ms, 0 ≤ m ∧ m ≤ 1000000) ∧ Kp [d] H7 H' ∧ DrawsAt H' d n ns k')
        ⟨[], _, rfl, rfl, (fun _ h => nomatch h), kW.nil, D7.kp0 kW⟩ ?_ ?_
      · rintro j acc H9 hj hacc ⟨ms, k', rfl, hml, hm, k9, D9⟩
        refine turn1 rfl ?_
        refine ⟨_, rfl, d, n, ns, k', rfl, D9, fun q1 Ha q10 q11 ka Da => ⟨_, _, rfl, rfl, (by show (0 : Int) < 200; decide), ?_⟩⟩
        refine ⟨_, _, rfl, rfl, ⟨by decide, by decide, by decide⟩, ?_⟩
        refine ⟨_, rfl, d, n, ns, _, rfl, Da, fun q2 Hb q20 q21 kb Db => ⟨_, _, rfl, rfl, (by show (0 : Int) < 1000001; decide), (by show 4 ≤ sizeLine; decide), fun L Hc hL kc hLc => ?_⟩⟩
        refine ⟨_, rfl, d, n, ns, _, rfl, Db.kp0 kc, fun q3 Hd q30 q31 kd Dd => ?_⟩
        have dL : d ≠ L := ne_of_none Db.hd hL
        have mq := md q3 4 (by decide)
        have b1 := md q1 200 (by decide)
        have b2 := md q2 1000001 (by decide)
        obtain ⟨z, hz, zm⟩ := at_mem [q1 % 200, 0, 10 ^ 6, q2 % 1000001] (i := q3 % 4) mq.1 (by show q3 % 4 < 4; exact mq.2)
        have hz0 : 0 ≤ z ∧ z ≤ 1000000 := by
          simp at zm
          rcases zm with rfl | rfl | rfl | rfl <;> omega
        have k9d : Kp [d] H9 Hd := ((ka.trans kb).th0 kc).trans kd
        refine ⟨_, _, rfl, rfl, (by show (0 : Int) < 4; decide), L, _, _, _, rfl, rfl, SqL.of (kd.at hLc (nmem_one dL.symm)), hz, k9d.at hacc (nmem_one dW.symm), (by rw [List.length_map]; exact sz (show ms.length ≤ 12 by omega)), fun H5 k5' h5 => ?_⟩
        refine ⟨ms ++ [z], _, int_snoc _ _, by rw [List.length_append, hml]; rfl, fun m hm' => ?_, (k9.trans k9d).put k5' hW, Dd.put k5' dW nW⟩
        rcases List.mem_append.mp hm' with y | y
        · exact hm m y
        · rw [List.mem_singleton.mp y]; exact hz0
      rintro acc H9 hacc ⟨ms, k', rfl, hml, hm, k9, D9⟩
      refine ⟨W0, _, rfl, .inl ⟨SqL.of hacc, fun t Ha ht kt hta => ?_⟩⟩
      have k9a := k9.th0 kt
      have hla := k9a.at hl7 (nmem_one dl.symm)
      have pl : ps.length = i := by rw [rp.len, List.length_map, hpl]
      refine ⟨l, ps, _, rfl, rfl, hla, sz (show ps.length ≤ 3 by omega), fun Hb kb hb => ?_⟩
      have ddb := (D9.kp0 kt).put kb dl nl
      refine ⟨_, ps ++ [.ref t], pss ++ [ms], k', rfl, (k7.trans k9a).put kb lH, ddb, kb.tup _ _ (k9a.tup _ _ hr7), hb, ?_, by rw [List.length_append, hpl]; rfl, fun r hr' => ?_⟩
      · rw [List.map_append]
        exact RepTs.snoc (RepT.tupI' (kb.tup _ _ hta)) ((rp.kp k9a).kp kb)
      · rcases List.mem_append.mp hr' with y | y
        · exact hpr r y
        · rw [List.mem_singleton.mp y]
          exact ⟨by rw [hml]; omega, hm⟩
    · rintro σ H7 ⟨kk, ps, pss, k7', rfl, k7, D7, hr7, hl7, rp, hpl, hpr⟩
      rw [List.length_map] at hpl
      refine ⟨_, rfl, _, rfl, _, rfl, d, n, ns, k7', rfl, D7, fun r3 H8 r30 r31 k8 D8 => ?_⟩
      have m3 := md r3 4 (by decide)
      refine ⟨_, _, rfl, rfl, (by show (0 : Int) < 4; decide), _, _, rfl, rfl, ?_⟩
      have hl8 := k8.at hl7 (nmem_one dl.symm)
      refine ⟨_, rfl, l, ps, rfl, .inl ⟨SqL.of hl8, fun p H9 hp kp hp9 => ?_⟩⟩
      refine ⟨_, rfl, d, n, ns, _, rfl, D8.kp0 kp, fun r4 Ha r40 r41 ka Da => ?_⟩
      have m4 := md r4 101 (by decide)
      refine ⟨_, _, rfl, rfl, (by show (0 : Int) < 101; decide), (by show 3 ≤ sizeLine; decide), fun L Hb hL kb hLb => ?_⟩
      refine ⟨_, rfl, d, n, ns, _, rfl, Da.kp0 kb, fun r5 Hc r50 r51 kc Dc => ?_⟩
      have m5 := md r5 3 (by decide)
      have dL : d ≠ L := ne_of_none Da.hd hL
      obtain ⟨z, hz, zm⟩ := at_mem [r4 % 101, 0, 100] (i := r5 % 3) m5.1 (by show r5 % 3 < 3; exact m5.2)
      have hz0 : 0 ≤ z ∧ z ≤ 100 := by
        simp at zm
        rcases zm with rfl | rfl | rfl <;> omega
      refine ⟨_, _, rfl, rfl, (by show (0 : Int) < 3; decide), L, _, _, _, rfl, rfl, SqL.of (kc.at hLb (nmem_one dL.symm)), hz, (by show 5 ≤ sizeLine; decide), fun a Hd ha kd had => ?_⟩
      have k9c : Kp [d] H9 Hc := (ka.th0 kb).trans kc
      have k7d : Kp [d] H7 Hd := ((k8.th0 kp).trans k9c).th0 kd
      have k9d : Kp [d] H9 Hd := k9c.th0 kd
      refine q a r p ⟨rs, 1 + r2 % 12, 1 + r3 % 4, pss, z⟩ _ Hd ⟨by show 1 ≤ rs.length; omega, by show rs.length ≤ 3; omega, hrr, by show 1 ≤ 1 + r2 % 12; omega, by show 1 + r2 % 12 ≤ 12; omega, by show 1 ≤ 1 + r3 % 4; omega, by show 1 + r3 % 4 ≤ 4; omega, hpl, hpr, hz0.1, hz0.2⟩
        (k7.trans k7d) (Dc.kp0 kd) ⟨had, k7d.tup _ _ hr7, ps, k9d.tup _ _ hp9, rp.kp k7d⟩
end

end MD
namespace MD
open PySem PySem.Spec PyProof.Rows L2
local macro_rules | `(tactic| walk_at "ne") => `(tactic| first | assumption | (apply Ne.symm; assumption) | exact ne_of_none (by assumption) (by assumption) | exact (ne_of_none (by assumption) (by assumption)).symm)
local macro_rules | `(tactic| walk_at "hp") => `(tactic| first | assumption | exact upd_same | (refine (upd_ne ?_).trans ?_; (focus walk_at "ne"); walk_at "hp"))
local macro_rules | `(tactic| walk_at "nm") => `(tactic| first | exact nmem_nil | exact nmem_one (by walk_at "ne") | exact nmem_cons (by walk_at "ne") (by walk_at "nm"))
/-! ### drawn stays and parties -/
section
variable {P : Program} {w : World} {K : PySem.W.Frag} {mg : Str → Option Value} {base : Heap}
def spStay : Sp := fun vs H Q _ => ∃ (d n : Addr) (ns : List Int) (k : Int) (a r p : Addr) (su : Su), vs = [.ref d, .ref a] ∧ DrawsAt H d n ns k ∧ SuAt H a r p su ∧ su.ok ∧
  ∀ (t : Addr) (s : Sy) (k' : Int) (H' : Hp), Sy.ok su s → Kp [d] H H' → DrawsAt H' d n ns k' → H' t = some (.tup [.int s.1, .int s.2.1, .int s.2.2]) → Q (.ref t) H'
theorem c_law_stay (T : Txt K mg) : Cal P w K mg base 3 "_law_stay" spStay := by
  have c_law_draw := c_law_draw (P := P) (w := w) (base := base) T
  refine cal_of T.d_law_stay sc_law_stay (fun vs H Q E h => ?_) (fun f cdv A outer s H vs Q E hr h => ?_)
  · obtain ⟨d, n, ns, k, a, r, p, su, rfl, _⟩ := h; rfl
  · obtain ⟨d, n, ns, k, a, r, p, su, rfl, DA, S, so, q⟩ := h
    have hn1 := so.n1
    have hn12 := so.n12
    refine ⟨_, (pss_cons (ps_set (i := 2) sc_law_stay.nd rfl (Or.inl rfl) (pe_op op_mod (pe_c c_law_draw (hr.mono (by first | decide | omega)) rfl (pa_cons (pv 0) pa_nil)) (pe_ix (ixT (K := K)) (pv 1) pe_int (fun _ _ => rfl))))
  (pss_cons (ps_set (i := 3) sc_law_stay.nd rfl (Or.inl rfl) (pe_op op_sub (pe_ix (ixT (K := K)) (pv 1) pe_int (fun _ _ => rfl)) (pv 2)))
  (pss_one (ps_ret (ke_tup (pa_cons (pe_op op_mod (pe_c c_law_draw (hr.mono (by first | decide | omega)) rfl (pa_cons (pv 0) pa_nil)) (pe_callB (lenK (K := K)) (by rfl) T.z_len (by decide +kernel) (pa_cons (pe_ix (ixT (K := K)) (pv 1) pe_int (fun _ _ => rfl)) pa_nil))) (pa_cons (pv 2) (pa_cons (pe_op op_add (pe_op op_add (pv 2) pe_int) (pe_op op_mod (pe_c c_law_draw (hr.mono (by first | decide | omega)) rfl (pa_cons (pv 0) pa_nil)) (pe_ix (ixL (K := K)) (ke_lst (pa_cons (pv 3) (pa_cons (pe_callB (call_min2 rfl) (by rfl) T.z_min (by decide +kernel) (pa_cons (pv 3) (pa_cons pe_int pa_nil))) pa_nil))) (pe_op op_mod (pe_c c_law_draw (hr.mono (by first | decide | omega)) rfl (pa_cons (pv 0) pa_nil)) pe_int) (fun _ _ => rfl)))) pa_nil)))))))), ?_⟩
    refine ⟨_, rfl, d, n, ns, k, rfl, DA, fun r1 H1 r10 r11 k1 D1 => ?_⟩
    have S1 := S.kp k1
    refine ⟨_, rfl, a, _, _, _, rfl, rfl, SqT.of S1.ha, rfl, _, _, rfl, rfl, (by show (0 : Int) < su.nights; omega), ?_⟩
    have m1 := md r1 su.nights (by omega)
    refine ⟨_, rfl, a, _, _, _, rfl, rfl, SqT.of S1.ha, rfl, _, rfl, _, _, rfl, rfl, ?_⟩
    refine ⟨_, rfl, d, n, ns, _, rfl, D1, fun r2 H2 r20 r21 k2 D2 => ?_⟩
    have S2 := S1.kp k2
    have hl : 0 < su.rooms.length := so.r1
    have m2 := md r2 (su.rooms.length : Int) (by omega)
    have el : ((su.rooms.map V.int).length : Int) = su.rooms.length := by rw [List.length_map]
    refine ⟨_, rfl, a, _, _, _, rfl, rfl, SqT.of S2.ha, rfl, r, _, rfl, .inr (SqT.of S2.hr), _, _, rfl, rfl, (by rw [el]; omega), ?_⟩
    refine ⟨_, rfl, _, rfl, _, _, rfl, rfl, ?_⟩
    refine ⟨_, rfl, d, n, ns, _, rfl, D2, fun r3 H3 r30 r31 k3 D3 => ?_⟩
    refine ⟨_, rfl, _, rfl, _, _, rfl, (by show 2 ≤ sizeLine; decide), fun L H4 hL k4 hL4 => ?_⟩
    refine ⟨_, rfl, d, n, ns, _, rfl, D3.kp0 k4, fun r4 H5 r40 r41 k5 D5 => ?_⟩
    have dL : d ≠ L := ne_of_none D3.hd hL
    have m4 := md r4 2 (by decide)
    obtain ⟨z, hz, zm⟩ := at_mem [su.nights - r1 % su.nights, (if 3 < su.nights - r1 % su.nights then 3 else su.nights - r1 % su.nights)] (i := r4 % 2) m4.1 (by show r4 % 2 < 2; exact m4.2)
    have hz0 : 1 ≤ z ∧ z ≤ su.nights - r1 % su.nights := by
      simp only [List.mem_cons, List.not_mem_nil, or_false] at zm
      rcases zm with rfl | rfl
      · omega
      · split <;> omega
    refine ⟨_, _, rfl, rfl, (by show (0 : Int) < 2; decide), L, _, _, _, rfl, rfl, SqL.of (k5.at hL4 (nmem_one dL.symm)), hz, _, _, rfl, rfl, (by show (0 : Int) < z; omega), ?_⟩
    have m3 := md r3 z (by omega)
    refine ⟨_, _, rfl, rfl, (by show 3 ≤ sizeLine; decide), fun t H6 ht k6 ht6 => ?_⟩
    refine q t (r2 % ((su.rooms.map V.int).length : Int), r1 % su.nights, r1 % su.nights + 1 + r3 % z) _ H6 ⟨by rw [el]; omega, by rw [el]; omega, m1.1, by show r1 % su.nights < r1 % su.nights + 1 + r3 % z; omega, by show r1 % su.nights + 1 + r3 % z ≤ su.nights; omega⟩
      ((((k1.trans k2).trans k3).th0 k4).trans k5 |>.th0 k6) (D5.kp0 k6) ht6
def spParty : Sp := fun vs H Q _ => ∃ (d n : Addr) (ns : List Int) (k : Int) (a r p : Addr) (su : Su), vs = [.ref d, .ref a] ∧ DrawsAt H d n ns k ∧ SuAt H a r p su ∧ su.ok ∧
  ∀ (t : Addr) (vs : List V) (pt : List Sy) (k' : Int) (H' : Hp), Pty su pt → Kp [d] H H' → DrawsAt H' d n ns k' → H' t = some (.tup vs) → RepTs H' (pt.map syD) vs → Q (.ref t) H'
theorem c_law_party (T : Txt K mg) : Cal P w K mg base 4 "_law_party" spParty := by
  have c_law_draw := c_law_draw (P := P) (w := w) (base := base) T
  have c_law_stay := c_law_stay (P := P) (w := w) (base := base) T
  refine cal_of T.d_law_party sc_law_party (fun vs H Q E h => ?_) (fun f cdv A outer s H vs Q E hr h => ?_)
  · obtain ⟨d, n, ns, k, a, r, p, su, rfl, _⟩ := h; rfl
  · obtain ⟨d, n, ns, k, a, r, p, su, rfl, DA, S, so, q⟩ := h
    have hn12 := so.n12
    refine ⟨_, (pss_cons (ps_set (i := 2) sc_law_party.nd rfl (Or.inl rfl) (pe_ix (ixL (K := K)) (ke_lst (pa_cons pe_int (pa_cons pe_int (pa_cons pe_int (pa_cons pe_int (pa_cons pe_int (pa_cons pe_int (pa_cons pe_int pa_nil)))))))) (pe_op op_mod (pe_c c_law_draw (hr.mono (by first | decide | omega)) rfl (pa_cons (pv 0) pa_nil)) pe_int) (fun _ _ => rfl)))
  (pss_cons (ks_setLc (i := 3) rfl sc_law_party.nd rfl rfl (sw_true rfl rfl rfl (by decide +kernel)) (pi_range1 (by rfl) T.z_range (pa_cons (pv 2) pa_nil)) (blkOk_by (own := [("k", 4)]) (N := ["draws", "setup", "many", "stays", "k"]) (sc := defScope s_law_party) (by decide +kernel)) (fun _ _ _ _ _ => (pg_name (i := 4) sc_law_party.nd rfl (Or.inl rfl))) (fun _ _ _ _ _ => pts_nil) (fun _ _ _ _ _ => (pe_c c_law_stay (hr.mono (by first | decide | omega)) rfl (pa_cons (pv 0) (pa_cons (pv 1) pa_nil)))))
  (C8.pss_cut (ps_if (PW.pt (pw_and (pt_cmpR op_gt (pv 2) pe_int (nomark _)) (pw_and1 (pt_cmpR op_eq (pe_op op_mod (pe_c c_law_draw (hr.mono (by first | decide | omega)) rfl (pa_cons (pv 0) pa_nil)) pe_int) pe_int (nomark _)))))
  (pss_one (ps_asg (pe_ix (ixL (K := K)) (pv 3) pe_int (fun _ _ => rfl)) (pg_sub (pv 3) pe_int kset_list)))
  pss_nil)
  (pss_one (ps_ret (pe_callTy (ktupleK (K := K)) (by rfl) T.z_tuple (by decide +kernel) (pa_cons (pe_callB (ksortU (K := K) (d := 3) (B := 16) (by decide)) (by rfl) T.z_sorted (by decide +kernel) (pa_cons (pv 3) pa_nil)) pa_nil))))))), ?_⟩
    refine ⟨(by show 7 ≤ sizeLine; decide), fun L H1 hL k1 hL1 => ?_⟩
    refine ⟨_, rfl, d, n, ns, _, rfl, DA.kp0 k1, fun r1 H2 r10 r11 k2 D2 => ?_⟩
    have dL : d ≠ L := ne_of_none DA.hd hL
    have m1 := md r1 7 (by decide)
    obtain ⟨many, hz, zm⟩ := at_mem [1, 1, 1, 2, 2, 3, 4] (i := r1 % 7) m1.1 (by show r1 % 7 < 7; exact m1.2)
    have hm : 1 ≤ many ∧ many ≤ 4 := by
      simp at zm
      rcases zm with rfl | rfl | rfl | rfl <;> omega
    refine ⟨_, _, rfl, rfl, (by show (0 : Int) < 7; decide), L, _, _, _, rfl, rfl, SqL.of (k2.at hL1 (nmem_one dL.symm)), hz, ?_⟩
    have k02 : Kp [d] H H2 := (Kp.nil k1).trans k2
    refine ⟨_, rfl, _, rfl, (by omega), (by omega), fun l H3 hl kl hl3 => ?_⟩
    have lH : H l = none := k02.free hl
    have dl : d ≠ l := ne_of_none DA.hd lH
    have nl : n ≠ l := ne_of_none DA.hn lH
    refine kl_range (n := many.toNat) (fun i acc H' => ∃ (ss : List Sy) (k' : Int), RepTs H' (ss.map syD) acc ∧ ss.length = i ∧ (∀ s ∈ ss, Sy.ok su s) ∧ Kp [d] H H' ∧ DrawsAt H' d n ns k')
      ⟨[], _, RepTs.nil, rfl, (fun _ h => nomatch h), k02.th0 kl, D2.kp0 kl⟩ ?_ ?_
    · rintro i acc H4 hi hacc ⟨ss, k', rs, hsl, hss, k4, D4⟩
      refine turn1 rfl ?_
      refine ⟨_, rfl, _, rfl, d, n, ns, k', a, r, p, su, rfl, D4, S.kp k4, so, fun t s k'' H5 hs k5 D5 ht5 => ?_⟩
      have hal : acc.length = i := by rw [rs.lenM, hsl]
      refine ⟨k5.at hacc (nmem_one dl.symm), sz (show acc.length ≤ 4 by omega), fun H6 k6 h6 => ?_⟩
      refine ⟨ss ++ [s], k'', ?_, by rw [List.length_append, hsl]; rfl, fun x hx => ?_, (k4.trans k5).put k6 lH, D5.put k6 dl nl⟩
      · rw [List.map_append]
        exact RepTs.snoc (syD_of (k6.tup _ _ ht5)) ((rs.kp k5).kp k6)
      · rcases List.mem_append.mp hx with z | z
        · exact hss x z
        · rw [List.mem_singleton.mp z]; exact hs
    rintro acc H4 hacc ⟨ss, k', rs, hsl, hss, k4, D4⟩
    have hal : acc.length = ss.length := rs.lenM
    refine ⟨fun σ H' => σ = [some (.ref d), some (.ref a), some (.int many), some (.ref l), none] ∧ ∃ (acc : List V) (ss : List Sy) (k' : Int), H' l = some (.lst acc) ∧ RepTs H' (ss.map syD) acc ∧ (ss.length : Int) = many ∧ (∀ s ∈ ss, Sy.ok su s) ∧ Kp [d] H H' ∧ DrawsAt H' d n ns k', ?_, ?_⟩
    · refine ⟨_, rfl, _, _, rfl, rfl, _, rfl, ?_⟩
      refine ite2 (fun hc => ?_) (fun hc => ?_)
      · have hc := of_decide_eq_true hc
        refine ⟨_, rfl, d, n, ns, k', rfl, D4, fun r2 H5 r20 r21 k5 D5 => ?_⟩
        refine ⟨_, _, rfl, rfl, (by show (0 : Int) < 4; decide), rfl, _, rfl, ?_⟩
        have h5 := k5.at hacc (nmem_one dl.symm)
        have rs5 := rs.kp k5
        refine ite2 (fun _ => ?_) (fun _ => ?_)
        · have h0 : 0 < acc.length := by omega
          have e0 : acc[0]? = some (acc[0]'h0) := by simp [h0]
          obtain ⟨s0, hs0, r0⟩ := rs5.at e0
          refine ⟨_, rfl, l, acc, _, acc[0]'h0, rfl, rfl, SqL.of h5, at_of (by decide) e0, _, rfl, l, acc, _, 1, rfl, rfl, h5, ?_, fun H6 k6 h6 => ?_⟩
          · unfold ixN
            rw [if_pos (by decide), if_pos (by omega)]; rfl
          · refine ⟨rfl, acc.set 1 (acc[0]'h0), ss.set 1 s0, _, h6, ?_, by rw [List.length_set]; omega, fun x hx => ?_, (k4.trans k5).put k6 lH, D5.put k6 dl nl⟩
            · rw [List.map_set]
              exact RepTs.set (rs5.kp k6) (r0.kp k6)
            · rcases List.mem_or_eq_of_mem_set hx with z | z
              · exact hss x z
              · rw [z]; exact hss s0 (List.mem_of_getElem? hs0)
        · exact ⟨rfl, acc, ss, _, h5, rs5, by omega, hss, k4.trans k5, D5⟩
      · exact ⟨rfl, acc, ss, _, hacc, rs, by omega, hss, k4, D4⟩
    · rintro σ H5 ⟨rfl, acc, ss, k', hacc, rs, hsl, hss, k5, D5⟩
      have hal : acc.length = ss.length := rs.lenM
      refine ⟨_, rfl, l, acc, rfl, SqL.of hacc, (by omega), fun x hx => ?_, fun ys hp hw => ?_⟩
      · obtain ⟨i, hi, e⟩ := List.getElem_of_mem hx
        obtain ⟨s, hs, r1⟩ := rs.at (show acc[i]? = some x by rw [← e]; simp [hi])
        obtain ⟨t, rfl, ht⟩ := syD_at r1
        have so := hss s (List.mem_of_getElem? hs)
        refine ⟨syI s, tupI_of ht, rfl, fun m hm => ?_⟩
        have := so.k0; have := so.k1; have := so.f0; have := so.fe; have := so.e1; have := ‹su.ok›.r3
        unfold syI at hm
        simp only [List.mem_cons, List.not_mem_nil, or_false] at hm
        rcases hm with rfl | rfl | rfl <;> omega
      · intro l2 H6 hl2 k6 hl6
        obtain ⟨pt, pp, rp⟩ := RepTs.perm hp rs
        refine ⟨l2, ys, rfl, .inl ⟨SqL.of hl6, fun t H7 ht k7 ht7 => ?_⟩⟩
        have hok : ∀ s ∈ pt, Sy.ok su s := fun s hs => hss s (pp.mem_iff.mp hs)
        refine q t ys pt _ H7 ⟨by rw [pp.length_eq]; omega, by rw [pp.length_eq]; omega, hok, ?_⟩ ((k5.th0 k6).th0 k7) ((D5.kp0 k6).kp0 k7) ht7 ((rp.kp k6).kp k7)
        rw [List.pairwise_iff_getElem]
        intro i j hi hj hij
        have hyl : ys.length = pt.length := rp.lenM
        obtain ⟨s1, e1, q1⟩ := rp.at (show ys[i]? = some (ys[i]'(by omega)) by simp [show i < ys.length by omega])
        obtain ⟨s2, e2, q2⟩ := rp.at (show ys[j]? = some (ys[j]'(by omega)) by simp [show j < ys.length by omega])
        obtain ⟨t1, ey1, ht1⟩ := syD_at q1
        obtain ⟨t2, ey2, ht2⟩ := syD_at q2
        have hw' := (List.pairwise_iff_getElem.mp hw) i j (by omega) (by omega) hij (syI s1) (syI s2) (by rw [ey1]; exact tupI_of ht1) (by rw [ey2]; exact tupI_of ht2)
        have f1 : pt[i] = s1 := by
          have : pt[i]? = some pt[i] := by simp
          rw [this] at e1; exact Option.some.inj e1
        have f2 : pt[j] = s2 := by
          have : pt[j]? = some pt[j] := by simp
          rw [this] at e2; exact Option.some.inj e2
        rw [f1, f2]
        exact sy_le (hss s1 (pp.mem_iff.mp (List.mem_of_getElem? e1))) (hss s2 (pp.mem_iff.mp (List.mem_of_getElem? e2))) hn12 hw'
end

end MD
namespace MD
open PySem PySem.Spec PyProof.Rows L2
local macro_rules | `(tactic| walk_at "ne") => `(tactic| first | assumption | (apply Ne.symm; assumption) | exact ne_of_none (by assumption) (by assumption) | exact (ne_of_none (by assumption) (by assumption)).symm)
local macro_rules | `(tactic| walk_at "hp") => `(tactic| first | assumption | exact upd_same | (refine (upd_ne ?_).trans ?_; (focus walk_at "ne"); walk_at "hp"))
local macro_rules | `(tactic| walk_at "nm") => `(tactic| first | exact nmem_nil | exact nmem_one (by walk_at "ne") | exact nmem_cons (by walk_at "ne") (by walk_at "nm"))
/-! ### needs -/
section
variable {P : Program} {w : World} {K : PySem.W.Frag} {mg : Str → Option Value} {base : Heap}
def spNeeds : Sp := fun vs H Q _ => ∃ (t : Addr) (xs : List V) (p : List Sy), vs = [.ref t] ∧ H t = some (.tup xs) ∧ RepTs H (p.map syD) xs ∧ (∀ s ∈ p, Sb s) ∧ p.length ≤ 1000 ∧
  ∀ (dd : Addr) (H' : Hp), H dd = none → Kp [] H H' → H' dd = some (.dT (needsL p)) → Q (.ref dd) H'
theorem c_needs_of (T : Txt K mg) : Cal P w K mg base 1 "needs_of" spNeeds := by
  refine cal_of T.d_needs_of sc_needs_of (fun vs H Q E h => ?_) (fun f cdv A outer s H vs Q E hr h => ?_)
  · obtain ⟨t, xs, p, rfl, _⟩ := h; rfl
  · obtain ⟨t, xs, p, rfl, ht, rp, hsb, hpl, q⟩ := h
    have hu := hu_of hr
    have hxl : xs.length = p.length := rp.lenM
    refine ⟨_, (pss_cons (ps_set (i := 1) sc_needs_of.nd rfl (Or.inl rfl) ke_dnewT)
  (pss_cons (ps_for PassesOwn.never rfl (pitK (K := K) (pv 0)) (pgtK (K := K) (n := 3) rfl (pgs_cons (pg_name (i := 2) sc_needs_of.nd rfl (Or.inl rfl)) (pgs_cons (pg_name (i := 3) sc_needs_of.nd rfl (Or.inl rfl)) (pgs_cons (pg_name (i := 4) sc_needs_of.nd rfl (Or.inl rfl)) pgs_nil))))
  (pss_one (ps_for PassesOwn.never rfl (pi_range2 (by rfl) T.z_range (pa_cons (pv 3) (pa_cons (pv 4) pa_nil))) (pg_name (i := 5) sc_needs_of.nd rfl (Or.inl rfl))
  (pss_one (ks_dputT hu (pv 1) (ke_tup (pa_cons (pv 2) (pa_cons (pv 5) pa_nil))) (pe_op op_add (pe_dget2 hu (pv 1) (ke_tup (pa_cons (pv 2) (pa_cons (pv 5) pa_nil))) pe_int ⟨rfl, rfl, rfl, rfl⟩) pe_int) rfl)))))
  (pss_one (ps_ret (pv 1))))), ?_⟩
    intro dd H1 hd k1 hd1
    refine ⟨_, rfl, t, rfl, ⟨xs, k1.sqt ht⟩, for_tup (K := K) (a := t) (xs := xs) (fun i σ H' => ∃ (a1 a2 a3 a4 : Option V), σ = [some (.ref t), some (.ref dd), a1, a2, a3, a4] ∧ Kp [] H H' ∧ H' dd = some (.dT (needsL (p.take i))))
      ⟨_, _, _, _, rfl, k1, hd1⟩ (fun i σ H' _ ⟨_, _, _, _, _, k, _⟩ => k.sqt ht) ?_ ?_⟩
    · rintro i x σ H2 hx ⟨a1, a2, a3, a4, rfl, k2, hd2⟩
      obtain ⟨s, hs, rs⟩ := rp.at hx
      obtain ⟨y, rfl, hy⟩ := syD_at rs
      have hb := hsb s (List.mem_of_getElem? hs)
      have hip : i < p.length := (List.getElem?_eq_some_iff.mp hs).1
      obtain ⟨b1, b2, b3⟩ := hb
      have hil : (needsL (p.take i)).length ≤ 12 * p.length := by
        have h1 := needs_le (p.take i) [] fun x hx => hsb x (List.mem_of_mem_take hx)
        rw [List.length_take, List.length_nil] at h1
        show (List.foldl needs1 [] (p.take i)).length ≤ _
        have h2 : min i p.length ≤ p.length := Nat.min_le_right _ _
        omega
      have hai : AllI (needsL (p.take i)) := needs_int _ _ AllI.nil
      refine ⟨y, _, rfl, k2.sqt hy, rfl, _, _, rfl, _, _, rfl, _, _, rfl, rfl, ?_⟩
      refine ⟨_, rfl, _, rfl, _, _, rfl, ⟨by omega, by omega, by omega, by omega⟩, for_range (n := (s.2.2 - s.2.1).toNat) (fun j σ H' => ∃ (a4 : Option V), σ = [some (.ref t), some (.ref dd), some (.int s.1), some (.int s.2.1), some (.int s.2.2), a4] ∧ Kp [] H H' ∧ H' dd = some (.dT (bumps (needsL (p.take i)) s.1 s.2.1 j)))
        ⟨_, rfl, k2, hd2⟩ ?_ ?_⟩
      · rintro j σ H3 hj ⟨a4, rfl, k3, hd3⟩
        have hbi := hai.bumps s.1 s.2.1 j
        have hbl := bumps_le (needsL (p.take i)) s.1 s.2.1 j
        refine ⟨_, rfl, dd, rfl, .inr ⟨_, .inl hd3⟩, _, rfl, _, rfl, (by show 2 ≤ sizeLine; decide), fun c1 H4 hc1 k4 hc4 => ?_⟩
        have hd4 := k4.at hd3 nmem_nil
        refine ⟨_, DGet.t hd4 (cell_tup hc4), ?_⟩
        rw [cnt_get hbi]
        refine ⟨_, _, rfl, rfl, _, rfl, _, rfl, _, rfl, (by show 2 ≤ sizeLine; decide), fun c2 H5 hc2 k5 hc5 => ?_⟩
        have hd5 := k5.at hd4 nmem_nil
        refine ⟨dd, _, cellK s.1 (s.2.1 + j), c2, rfl, rfl, hd5, hc5, sz (show (bumps (needsL (p.take i)) s.1 s.2.1 j).length ≤ 12 * 1000 + 12 by omega), fun H6 k6 hd6 => ?_⟩
        exact ⟨_, rfl, ((k3.trans k4).trans k5).put k6 hd, hd6⟩
      · rintro σ H3 ⟨a4, rfl, k3, hd3⟩
        exact ⟨_, _, _, _, rfl, k3, by rw [needs_snoc hs]; exact hd3⟩
    · rintro σ H2 ⟨a1, a2, a3, a4, rfl, k2, hd2⟩
      refine ⟨_, rfl, ?_⟩
      rw [hxl, List.take_length] at hd2
      exact q dd H2 hd k2 hd2
end

end MD
namespace MD
open PySem PySem.Spec PyProof.Rows L2
local macro_rules | `(tactic| walk_at "ne") => `(tactic| first | assumption | (apply Ne.symm; assumption) | exact ne_of_none (by assumption) (by assumption) | exact (ne_of_none (by assumption) (by assumption)).symm)
local macro_rules | `(tactic| walk_at "hp") => `(tactic| first | assumption | exact upd_same | (refine (upd_ne ?_).trans ?_; (focus walk_at "ne"); walk_at "hp"))
local macro_rules | `(tactic| walk_at "nm") => `(tactic| first | exact nmem_nil | exact nmem_one (by walk_at "ne") | exact nmem_cons (by walk_at "ne") (by walk_at "nm"))
/-! ### needs -/
section
variable {P : Program} {w : World} {K : PySem.W.Frag} {mg : Str → Option Value} {base : Heap}
def spNeedsL : Sp := fun vs H Q _ => ∃ (t : Addr) (xs : List V) (p : List Sy), vs = [.ref t] ∧ H t = some (.tup xs) ∧ RepTs H (p.map syD) xs ∧ (∀ s ∈ p, Sb s) ∧ p.length ≤ 1000 ∧
  ∀ (dd : Addr) (H' : Hp), H dd = none → Kp [] H H' → H' dd = some (.dT (needsL p)) → Q (.ref dd) H'
theorem c_law_needs (T : Txt K mg) : Cal P w K mg base 1 "_law_needs" spNeedsL := by
  refine cal_of T.d_law_needs sc_law_needs (fun vs H Q E h => ?_) (fun f cdv A outer s H vs Q E hr h => ?_)
  · obtain ⟨t, xs, p, rfl, _⟩ := h; rfl
  · obtain ⟨t, xs, p, rfl, ht, rp, hsb, hpl, q⟩ := h
    have hu := hu_of hr
    have hxl : xs.length = p.length := rp.lenM
    refine ⟨_, (pss_cons (ps_set (i := 1) sc_law_needs.nd rfl (Or.inl rfl) ke_dnewT)
  (pss_cons (ps_for PassesOwn.never rfl (pitK (K := K) (pv 0)) (pgtK (K := K) (n := 3) rfl (pgs_cons (pg_name (i := 2) sc_law_needs.nd rfl (Or.inl rfl)) (pgs_cons (pg_name (i := 3) sc_law_needs.nd rfl (Or.inl rfl)) (pgs_cons (pg_name (i := 4) sc_law_needs.nd rfl (Or.inl rfl)) pgs_nil))))
  (pss_one (ps_for PassesOwn.never rfl (pi_range2 (by rfl) T.z_range (pa_cons (pv 3) (pa_cons (pv 4) pa_nil))) (pg_name (i := 5) sc_law_needs.nd rfl (Or.inl rfl))
  (pss_one (ks_dputT hu (pv 1) (ke_tup (pa_cons (pv 2) (pa_cons (pv 5) pa_nil))) (pe_op op_add (pe_dget2 hu (pv 1) (ke_tup (pa_cons (pv 2) (pa_cons (pv 5) pa_nil))) pe_int ⟨rfl, rfl, rfl, rfl⟩) pe_int) rfl)))))
  (pss_one (ps_ret (pv 1))))), ?_⟩
    intro dd H1 hd k1 hd1
    refine ⟨_, rfl, t, rfl, ⟨xs, k1.sqt ht⟩, for_tup (K := K) (a := t) (xs := xs) (fun i σ H' => ∃ (a1 a2 a3 a4 : Option V), σ = [some (.ref t), some (.ref dd), a1, a2, a3, a4] ∧ Kp [] H H' ∧ H' dd = some (.dT (needsL (p.take i))))
      ⟨_, _, _, _, rfl, k1, hd1⟩ (fun i σ H' _ ⟨_, _, _, _, _, k, _⟩ => k.sqt ht) ?_ ?_⟩
    · rintro i x σ H2 hx ⟨a1, a2, a3, a4, rfl, k2, hd2⟩
      obtain ⟨s, hs, rs⟩ := rp.at hx
      obtain ⟨y, rfl, hy⟩ := syD_at rs
      have hb := hsb s (List.mem_of_getElem? hs)
      have hip : i < p.length := (List.getElem?_eq_some_iff.mp hs).1
      obtain ⟨b1, b2, b3⟩ := hb
      have hil : (needsL (p.take i)).length ≤ 12 * p.length := by
        have h1 := needs_le (p.take i) [] fun x hx => hsb x (List.mem_of_mem_take hx)
        rw [List.length_take, List.length_nil] at h1
        show (List.foldl needs1 [] (p.take i)).length ≤ _
        have h2 : min i p.length ≤ p.length := Nat.min_le_right _ _
        omega
      have hai : AllI (needsL (p.take i)) := needs_int _ _ AllI.nil
      refine ⟨y, _, rfl, k2.sqt hy, rfl, _, _, rfl, _, _, rfl, _, _, rfl, rfl, ?_⟩
      refine ⟨_, rfl, _, rfl, _, _, rfl, ⟨by omega, by omega, by omega, by omega⟩, for_range (n := (s.2.2 - s.2.1).toNat) (fun j σ H' => ∃ (a4 : Option V), σ = [some (.ref t), some (.ref dd), some (.int s.1), some (.int s.2.1), some (.int s.2.2), a4] ∧ Kp [] H H' ∧ H' dd = some (.dT (bumps (needsL (p.take i)) s.1 s.2.1 j)))
        ⟨_, rfl, k2, hd2⟩ ?_ ?_⟩
      · rintro j σ H3 hj ⟨a4, rfl, k3, hd3⟩
        have hbi := hai.bumps s.1 s.2.1 j
        have hbl := bumps_le (needsL (p.take i)) s.1 s.2.1 j
        refine ⟨_, rfl, dd, rfl, .inr ⟨_, .inl hd3⟩, _, rfl, _, rfl, (by show 2 ≤ sizeLine; decide), fun c1 H4 hc1 k4 hc4 => ?_⟩
        have hd4 := k4.at hd3 nmem_nil
        refine ⟨_, DGet.t hd4 (cell_tup hc4), ?_⟩
        rw [cnt_get hbi]
        refine ⟨_, _, rfl, rfl, _, rfl, _, rfl, _, rfl, (by show 2 ≤ sizeLine; decide), fun c2 H5 hc2 k5 hc5 => ?_⟩
        have hd5 := k5.at hd4 nmem_nil
        refine ⟨dd, _, cellK s.1 (s.2.1 + j), c2, rfl, rfl, hd5, hc5, sz (show (bumps (needsL (p.take i)) s.1 s.2.1 j).length ≤ 12 * 1000 + 12 by omega), fun H6 k6 hd6 => ?_⟩
        exact ⟨_, rfl, ((k3.trans k4).trans k5).put k6 hd, hd6⟩
      · rintro σ H3 ⟨a4, rfl, k3, hd3⟩
        exact ⟨_, _, _, _, rfl, k3, by rw [needs_snoc hs]; exact hd3⟩
    · rintro σ H2 ⟨a1, a2, a3, a4, rfl, k2, hd2⟩
      refine ⟨_, rfl, ?_⟩
      rw [hxl, List.take_length] at hd2
      exact q dd H2 hd k2 hd2
end

end MD
namespace MD
open PySem PySem.Spec PyProof.Rows L2
local macro_rules | `(tactic| walk_at "ne") => `(tactic| first | assumption | (apply Ne.symm; assumption) | exact ne_of_none (by assumption) (by assumption) | exact (ne_of_none (by assumption) (by assumption)).symm)
local macro_rules | `(tactic| walk_at "hp") => `(tactic| first | assumption | exact upd_same | (refine (upd_ne ?_).trans ?_; (focus walk_at "ne"); walk_at "hp"))
local macro_rules | `(tactic| walk_at "nm") => `(tactic| first | exact nmem_nil | exact nmem_one (by walk_at "ne") | exact nmem_cons (by walk_at "ne") (by walk_at "nm"))
/-! ### prices -/
section
variable {P : Program} {w : World} {K : PySem.W.Frag} {mg : Str → Option Value} {base : Heap}
/-- a setup and a party of it -/
structure PrIn (H : Hp) (a r pr t : Addr) (su : Su) (xs : List V) (p : List Sy) : Prop where
  S : SuAt H a r pr su
  so : su.ok
  ht : H t = some (.tup xs)
  rp : RepTs H (p.map syD) xs
  ok : ∀ s ∈ p, Sy.ok su s
  pl : p.length ≤ 4
theorem PrIn.kp {M : List Addr} {H H' : Hp} {a r pr t : Addr} {su : Su} {xs : List V} {p : List Sy} (h : PrIn H a r pr t su xs p) (k : Kp M H H') : PrIn H' a r pr t su xs p := ⟨h.S.kp k, h.so, k.tup _ _ h.ht, h.rp.kp k, h.ok, h.pl⟩
def spNight : Sp := fun vs H Q _ => ∃ (a r pr t : Addr) (su : Su) (xs : List V) (p : List Sy), vs = [.ref a, .ref t] ∧ PrIn H a r pr t su xs p ∧
  ∀ (l : Addr) (H' : Hp), H l = none → Kp [] H H' → H' l = some (.lst ((nightL su p).map V.int)) → Q (.ref l) H'
theorem c_night_prices (T : Txt K mg) : Cal P w K mg base 1 "night_prices" spNight := by
  refine cal_of T.d_night_prices sc_night_prices (fun vs H Q E h => ?_) (fun f cdv A outer s H vs Q E hr h => ?_)
  · obtain ⟨a, r, pr, t, su, xs, p, rfl, _⟩ := h; rfl
  · obtain ⟨a, r, pr, t, su, xs, p, rfl, I, q⟩ := h
    have hxl : xs.length = p.length := I.rp.lenM
    have hsb : ∀ s ∈ p, Sb s := fun s hs => (I.ok s hs).sb I.so
    have hpl := I.pl
    refine ⟨_, (pss_cons (ps_set (i := 2) sc_night_prices.nd rfl (Or.inr rfl) (pe_ix (ixT (K := K)) (pv 0) pe_int (fun _ _ => rfl)))
  (pss_one (ps_ret (ke_lc2 (vs1 := [6]) rfl sc_night_prices.nd (pitK (K := K) (pv 1)) (blkOk_by (own := [("kind", 3), ("first", 4), ("end", 5), ("night", 6)]) (N := ["setup", "party", "prices", "kind", "first", "end", "night"]) (sc := defScope s_night_prices) (by decide +kernel)) (by decide) (fun _ _ _ _ _ => (pgtK (K := K) (n := 3) rfl (pgs_cons (pg_name (i := 3) sc_night_prices.nd rfl (Or.inl rfl)) (pgs_cons (pg_name (i := 4) sc_night_prices.nd rfl (Or.inl rfl)) (pgs_cons (pg_name (i := 5) sc_night_prices.nd rfl (Or.inl rfl)) pgs_nil))))) (fun _ _ _ _ _ => pts_nil) (fun _ _ _ _ _ => (pi_range2 (by rfl) T.z_range (pa_cons (pv 4) (pa_cons (pv 5) pa_nil)))) (fun _ _ _ _ _ => (pg_name (i := 6) sc_night_prices.nd rfl (Or.inl rfl))) (fun _ _ _ _ _ => pts_nil) (fun _ _ _ _ _ => (pe_ix (ixT (K := K)) (pe_ix (ixT (K := K)) (pv 2) (pv 3) (fun _ _ => rfl)) (pv 6) (fun _ _ => rfl))))))), ?_⟩
    refine ⟨_, rfl, a, _, _, _, rfl, rfl, SqT.of I.S.ha, rfl, ?_⟩
    refine ⟨_, rfl, t, rfl, ⟨xs, SqT.of I.ht⟩, fun D H1 hD kD hD' => ?_⟩
    refine k2_tup (K := K) (a := t) (xs := xs) (fun i acc H' => Kp [] H H' ∧ acc = (nightL su (p.take i)).map V.int) ⟨kD, rfl⟩ (fun i acc H' ⟨k, _⟩ => k.sqt I.ht) ?_ ?_
    · rintro i x acc H2 hx hacc ⟨k2, rfl⟩
      obtain ⟨s, hs, rs⟩ := I.rp.at hx
      obtain ⟨y, rfl, hy⟩ := syD_at rs
      have so := I.ok s (List.mem_of_getElem? hs)
      obtain ⟨b1, b2, b3⟩ := hsb s (List.mem_of_getElem? hs)
      have hnl : (nightL su (p.take i)).length ≤ 12 * 4 := by
        have h1 := nightL_len (su := su) (p := p.take i) fun x hx => hsb x (List.mem_of_mem_take hx)
        rw [List.length_take] at h1
        have h2 : min i p.length ≤ p.length := Nat.min_le_right _ _
        omega
      refine ⟨y, _, rfl, k2.sqt hy, rfl, _, _, rfl, _, _, rfl, _, _, rfl, rfl, rfl, ?_⟩
      refine yesT ?_
      refine ⟨_, rfl, _, rfl, _, _, rfl, ⟨by omega, by omega, by omega, by omega⟩, hacc, kg_range (n := (s.2.2 - s.2.1).toNat) (fun j acc H' => Kp [] H H' ∧ acc = (nightL su (p.take i) ++ stayL su s j).map V.int) ⟨k2, ?_⟩ ?_ ?_⟩
      · show _ = (nightL su (p.take i) ++ []).map V.int
        rw [List.append_nil]
      · rintro j acc H3 hj hacc3 ⟨k3, rfl⟩
        have I3 := I.kp k3
        obtain ⟨ps, qa, row, h1, h2, h3, h4, _⟩ := I3.S.price I.so (k := s.1) (t := s.2.1 + j) so.k0 so.k1 (by omega) (by have := so.e1; omega)
        refine turn1 rfl ?_
        refine ⟨_, rfl, _, rfl, pr, _, _, _, rfl, rfl, SqT.of h1, h2, _, rfl, qa, _, _, _, rfl, rfl, SqT.of h3, h4, hacc3, ?_, fun H4 k4 h4' => ?_⟩
        · rw [List.length_map, List.length_append, stayL_len]
          exact sz (show (nightL su (p.take i)).length + j ≤ 100 by omega)
        · refine ⟨k3.put k4 hD, ?_⟩
          rw [stayL_snoc, ← List.append_assoc]; exact int_snoc _ _
      · rintro acc H3 hacc3 ⟨k3, rfl⟩
        exact ⟨k3, by rw [nightL_snoc hs]⟩
    · rintro acc H2 hacc ⟨k2, rfl⟩
      rw [hxl, List.take_length] at hacc
      exact q D H2 hD k2 hacc
def spPrice (φ : Su → Int → Int) : Sp := fun vs H Q _ => ∃ (a r pr t : Addr) (su : Su) (xs : List V) (p : List Sy), vs = [.ref a, .ref t] ∧ PrIn H a r pr t su xs p ∧
  ∀ H' : Hp, Kp [] H H' → Q (.int ((nightL su p).map (φ su)).sum) H'
def phi1 : Su → Int → Int := fun _ x => x
def phiK : Su → Int → Int := fun su x => x * su.share / 100
theorem map_id1 (su : Su) (l : List Int) : l.map (phi1 su) = l := List.map_id' l
theorem c_price_of (T : Txt K mg) : Cal P w K mg base 2 "price_of" (spPrice phi1) := by
  have c_night_prices := c_night_prices (P := P) (w := w) (base := base) T
  refine cal_of T.d_price_of sc_price_of (fun vs H Q E h => ?_) (fun f cdv A outer s H vs Q E hr h => ?_)
  · obtain ⟨a, r, pr, t, su, xs, p, rfl, _⟩ := h; rfl
  · obtain ⟨a, r, pr, t, su, xs, p, rfl, I, q⟩ := h
    refine ⟨_, (pss_one (ps_ret (pe_callB (sumK (K := K) rfl) (by rfl) T.z_sum (by decide +kernel) (pa_cons (pe_c c_night_prices (hr.mono (by first | decide | omega)) rfl (pa_cons (pv 0) (pa_cons (pv 1) pa_nil))) pa_nil)))), ?_⟩
    refine ⟨_, rfl, _, rfl, a, r, pr, t, su, xs, p, rfl, I, fun l H1 hl k1 hl1 => ⟨l, nightL su p, rfl, SqL.of hl1, ?_⟩⟩
    have := q H1 k1
    rw [map_id1] at this
    exact this
theorem c_kept_of (T : Txt K mg) : Cal P w K mg base 2 "kept_of" (spPrice phiK) := by
  have c_night_prices := c_night_prices (P := P) (w := w) (base := base) T
  refine cal_of T.d_kept_of sc_kept_of (fun vs H Q E h => ?_) (fun f cdv A outer s H vs Q E hr h => ?_)
  · obtain ⟨a, r, pr, t, su, xs, p, rfl, _⟩ := h; rfl
  · obtain ⟨a, r, pr, t, su, xs, p, rfl, I, q⟩ := h
    refine ⟨_, (pss_cons (ps_set (i := 2) sc_kept_of.nd rfl (Or.inr rfl) (pe_ix (ixT (K := K)) (pv 0) pe_int (fun _ _ => rfl)))
  (pss_one (ps_ret (pe_callB (sumK (K := K) rfl) (by rfl) T.z_sum (by decide +kernel) (pa_cons (ke_lc rfl sc_kept_of.nd (pilK (K := K) (pe_c c_night_prices (hr.mono (by first | decide | omega)) rfl (pa_cons (pv 0) (pa_cons (pv 1) pa_nil)))) (blkOk_by (own := [("price", 3)]) (N := ["setup", "party", "share", "price"]) (sc := defScope s_kept_of) (by decide +kernel)) (fun _ _ _ _ _ => (pg_name (i := 3) sc_kept_of.nd rfl (Or.inl rfl))) (fun _ _ _ _ _ => pts_nil) (fun _ _ _ _ _ => (pe_op op_fdiv (pe_op op_mul (pv 3) (pv 2)) pe_int))) pa_nil))))), ?_⟩
    refine ⟨_, rfl, a, _, _, _, rfl, rfl, SqT.of I.S.ha, rfl, ?_⟩
    have hsh := I.so.h0
    have hsh2 := I.so.h100
    have hnl : (nightL su p).length ≤ 100 := by
      have h1 := nightL_len (su := su) (p := p) fun s hs => (I.ok s hs).sb I.so
      have := I.pl
      omega
    refine ⟨_, rfl, _, rfl, a, r, pr, t, su, xs, p, rfl, I, fun l H1 hl k1 hl1 => ⟨l, rfl, ⟨_, SqL.of hl1⟩, fun D H2 hD kD hD' => ?_⟩⟩
    have lD : l ≠ D := ne_of_none hl1 hD
    refine kl_list (K := K) (a := l) (xs := (nightL su p).map V.int) (fun i acc H' => Kp [] H1 H' ∧ acc = (((nightL su p).take i).map (phiK su)).map V.int) ⟨kD, rfl⟩ (fun i acc H' ⟨k, _⟩ => k.seq (SqL.of hl1) nmem_nil) ?_ ?_
    · rintro i x acc H3 hx hacc ⟨k3, rfl⟩
      obtain ⟨z, rfl, hz⟩ := int_item hx
      have hi := (List.getElem?_eq_some_iff.mp hz).1
      refine turn1 rfl ?_
      refine ⟨_, rfl, _, rfl, _, _, rfl, rfl, .inr ⟨by omega, by omega⟩, _, _, rfl, rfl, ⟨by decide, by decide⟩, hacc, ?_, fun H4 k4 h4 => ⟨k3.put k4 hD, ?_⟩⟩
      · rw [List.length_map, List.length_map]
        exact sz (List.length_take_le _ _) (by omega)
      · rw [List.take_add_one, hz, List.map_append]
        exact int_snoc _ _
    · rintro acc H3 hacc ⟨k3, rfl⟩
      rw [List.length_map, List.take_length] at hacc
      exact ⟨D, _, rfl, SqL.of hacc, q H3 (k1.trans k3)⟩
theorem price_sum (su : Su) (φ : Int → Int) (p : List Sy) : ((nightL su p).map φ).sum = (p.map fun s => ((stayL su s (s.2.2 - s.2.1).toNat).map φ).sum).sum := sum_map_flat φ _ p
theorem c_law_price (T : Txt K mg) : Cal P w K mg base 1 "_law_price" (spPrice phi1) := by
  refine cal_of T.d_law_price sc_law_price (fun vs H Q E h => ?_) (fun f cdv A outer s H vs Q E hr h => ?_)
  · obtain ⟨a, r, pr, t, su, xs, p, rfl, _⟩ := h; rfl
  · obtain ⟨a, r, pr, t, su, xs, p, rfl, I, q⟩ := h
    have hxl : xs.length = p.length := I.rp.lenM
    have hpl := I.pl
    have hsb : ∀ s ∈ p, Sb s := fun s hs => (I.ok s hs).sb I.so
    refine ⟨_, (pss_one (ps_ret (pe_callB (sumK (K := K) rfl) (by rfl) T.z_sum (by decide +kernel) (pa_cons (ke_lc rfl sc_law_price.nd (pitK (K := K) (pv 1)) (blkOk_by (own := [("stay", 2)]) (N := ["setup", "party", "stay", "t"]) (sc := defScope s_law_price) (by decide +kernel)) (fun _ _ _ _ _ => (pg_name (i := 2) sc_law_price.nd rfl (Or.inr rfl))) (fun _ _ _ _ _ => pts_nil) (fun _ _ _ _ _ => (pe_callB (sumK (K := K) rfl) (by rfl) T.z_sum (by decide +kernel) (pa_cons (ke_lc rfl sc_law_price.nd (pi_range2 (by rfl) T.z_range (pa_cons (pe_ix (ixT (K := K)) (pv 2) pe_int (fun _ _ => rfl)) (pa_cons (pe_ix (ixT (K := K)) (pv 2) pe_int (fun _ _ => rfl)) pa_nil))) (blkOk_by (own := [("t", 3)]) (by first | rfl | kernel_rfl)) (fun _ _ _ _ _ => (pg_name (i := 3) sc_law_price.nd rfl (Or.inl rfl))) (fun _ _ _ _ _ => pts_nil) (fun _ _ _ _ _ => (pe_ix (ixT (K := K)) (pe_ix (ixT (K := K)) (pe_ix (ixT (K := K)) (pv 0) pe_int (fun _ _ => rfl)) (pe_ix (ixT (K := K)) (pv 2) pe_int (fun _ _ => rfl)) (fun _ _ => rfl)) (pv 3) (fun _ _ => rfl)))) pa_nil)))) pa_nil)))), ?_⟩
    refine ⟨_, rfl, t, rfl, ⟨xs, SqT.of I.ht⟩, fun D H1 hD kD hD' => ?_⟩
    refine kl_tup (K := K) (a := t) (xs := xs) (fun i acc H' => Kp [] H H' ∧ acc = ((p.take i).map fun s => ((stayL su s (s.2.2 - s.2.1).toNat).map (phi1 su)).sum).map V.int) ⟨kD, rfl⟩ (fun i acc H' ⟨k, _⟩ => k.sqt I.ht) ?_ ?_
    · rintro i x acc H2 hx hacc ⟨k2, rfl⟩
      obtain ⟨s, hs, rs⟩ := I.rp.at hx
      obtain ⟨y, rfl, hy⟩ := syD_at rs
      have so := I.ok s (List.mem_of_getElem? hs)
      obtain ⟨b1, b2, b3⟩ := hsb s (List.mem_of_getElem? hs)
      have hy2 := k2.tup _ _ hy
      refine turn1 rfl ?_
      refine ⟨_, rfl, y, _, _, _, rfl, rfl, SqT.of hy2, rfl, _, rfl, y, _, _, _, rfl, rfl, SqT.of hy2, rfl, _, _, rfl, ⟨by omega, by omega, by omega, by omega⟩, fun D2 H3 hD2 kD2 hD2' => ?_⟩
      refine kl_range (n := (s.2.2 - s.2.1).toNat) (fun j acc H' => Kp [] H2 H' ∧ acc = (stayL su s j).map V.int) ⟨kD2, rfl⟩ ?_ ?_
      · rintro j acc H4 hj hacc4 ⟨k4, rfl⟩
        have I4 := (I.kp k2).kp k4
        obtain ⟨ps, qa, row, h1, h2, h3, h4, _⟩ := I4.S.price I.so (k := s.1) (t := s.2.1 + j) so.k0 so.k1 (by omega) (by have := so.e1; omega)
        refine turn1 rfl ?_
        refine ⟨_, rfl, a, _, _, _, rfl, rfl, SqT.of I4.S.ha, rfl, _, rfl, y, _, _, _, rfl, rfl, SqT.of (k4.tup _ _ hy2), rfl, pr, _, _, _, rfl, rfl, SqT.of h1, h2, _, rfl, qa, _, _, _, rfl, rfl, SqT.of h3, h4, hacc4, ?_, fun H5 k5 h5 => ⟨k4.put k5 hD2, ?_⟩⟩
        · rw [List.length_map, stayL_len]
          exact sz (show j ≤ 100 by omega)
        · rw [stayL_snoc]
          exact int_snoc _ _
      · rintro acc H4 hacc4 ⟨k4, rfl⟩
        have nD : D ≠ D2 := ne_of_none hacc hD2
        refine ⟨D2, _, rfl, SqL.of hacc4, k4.at hacc nmem_nil, ?_, fun H5 k5 h5 => ⟨(k2.trans k4).put k5 hD, ?_⟩⟩
        · rw [List.length_map, List.length_map, List.length_take]
          exact sz (show min i p.length ≤ 4 by omega)
        · rw [List.take_add_one, hs, List.map_append, List.map_append]
          refine congrArg (_ ++ ·) ?_
          show [V.int (stayL su s (s.2.2 - s.2.1).toNat).sum] = [V.int ((stayL su s (s.2.2 - s.2.1).toNat).map (phi1 su)).sum]
          rw [map_id1]
    · rintro acc H2 hacc ⟨k2, rfl⟩
      rw [hxl, List.take_length] at hacc
      refine ⟨D, _, rfl, SqL.of hacc, ?_⟩
      rw [← price_sum]
      exact q H2 k2
theorem c_law_kept (T : Txt K mg) : Cal P w K mg base 1 "_law_kept" (spPrice phiK) := by
  refine cal_of T.d_law_kept sc_law_kept (fun vs H Q E h => ?_) (fun f cdv A outer s H vs Q E hr h => ?_)
  · obtain ⟨a, r, pr, t, su, xs, p, rfl, _⟩ := h; rfl
  · obtain ⟨a, r, pr, t, su, xs, p, rfl, I, q⟩ := h
    have hxl : xs.length = p.length := I.rp.lenM
    have hpl := I.pl
    have hsh := I.so.h0
    have hsh2 := I.so.h100
    have hsb : ∀ s ∈ p, Sb s := fun s hs => (I.ok s hs).sb I.so
    refine ⟨_, (pss_one (ps_ret (pe_callB (sumK (K := K) rfl) (by rfl) T.z_sum (by decide +kernel) (pa_cons (ke_lc rfl sc_law_kept.nd (pitK (K := K) (pv 1)) (blkOk_by (own := [("stay", 2)]) (N := ["setup", "party", "stay", "t"]) (sc := defScope s_law_kept) (by decide +kernel)) (fun _ _ _ _ _ => (pg_name (i := 2) sc_law_kept.nd rfl (Or.inr rfl))) (fun _ _ _ _ _ => pts_nil) (fun _ _ _ _ _ => (pe_callB (sumK (K := K) rfl) (by rfl) T.z_sum (by decide +kernel) (pa_cons (ke_lc rfl sc_law_kept.nd (pi_range2 (by rfl) T.z_range (pa_cons (pe_ix (ixT (K := K)) (pv 2) pe_int (fun _ _ => rfl)) (pa_cons (pe_ix (ixT (K := K)) (pv 2) pe_int (fun _ _ => rfl)) pa_nil))) (blkOk_by (own := [("t", 3)]) (by first | rfl | kernel_rfl)) (fun _ _ _ _ _ => (pg_name (i := 3) sc_law_kept.nd rfl (Or.inl rfl))) (fun _ _ _ _ _ => pts_nil) (fun _ _ _ _ _ => (pe_op op_fdiv (pe_op op_mul (pe_ix (ixT (K := K)) (pe_ix (ixT (K := K)) (pe_ix (ixT (K := K)) (pv 0) pe_int (fun _ _ => rfl)) (pe_ix (ixT (K := K)) (pv 2) pe_int (fun _ _ => rfl)) (fun _ _ => rfl)) (pv 3) (fun _ _ => rfl)) (pe_ix (ixT (K := K)) (pv 0) pe_int (fun _ _ => rfl))) pe_int))) pa_nil)))) pa_nil)))), ?_⟩
    refine ⟨_, rfl, t, rfl, ⟨xs, SqT.of I.ht⟩, fun D H1 hD kD hD' => ?_⟩
    refine kl_tup (K := K) (a := t) (xs := xs) (fun i acc H' => Kp [] H H' ∧ acc = ((p.take i).map fun s => ((stayL su s (s.2.2 - s.2.1).toNat).map (phiK su)).sum).map V.int) ⟨kD, rfl⟩ (fun i acc H' ⟨k, _⟩ => k.sqt I.ht) ?_ ?_
    · rintro i x acc H2 hx hacc ⟨k2, rfl⟩
      obtain ⟨s, hs, rs⟩ := I.rp.at hx
      obtain ⟨y, rfl, hy⟩ := syD_at rs
      have so := I.ok s (List.mem_of_getElem? hs)
      obtain ⟨b1, b2, b3⟩ := hsb s (List.mem_of_getElem? hs)
      have hy2 := k2.tup _ _ hy
      refine turn1 rfl ?_
      refine ⟨_, rfl, y, _, _, _, rfl, rfl, SqT.of hy2, rfl, _, rfl, y, _, _, _, rfl, rfl, SqT.of hy2, rfl, _, _, rfl, ⟨by omega, by omega, by omega, by omega⟩, fun D2 H3 hD2 kD2 hD2' => ?_⟩
      refine kl_range (n := (s.2.2 - s.2.1).toNat) (fun j acc H' => Kp [] H2 H' ∧ acc = ((stayL su s j).map (phiK su)).map V.int) ⟨kD2, rfl⟩ ?_ ?_
      · rintro j acc H4 hj hacc4 ⟨k4, rfl⟩
        have I4 := (I.kp k2).kp k4
        obtain ⟨ps, qa, row, h1, h2, h3, h4, _⟩ := I4.S.price I.so (k := s.1) (t := s.2.1 + j) so.k0 so.k1 (by omega) (by have := so.e1; omega)
        refine turn1 rfl ?_
        refine ⟨_, rfl, a, _, _, _, rfl, rfl, SqT.of I4.S.ha, rfl, _, rfl, y, _, _, _, rfl, rfl, SqT.of (k4.tup _ _ hy2), rfl, pr, _, _, _, rfl, rfl, SqT.of h1, h2, _, rfl, qa, _, _, _, rfl, rfl, SqT.of h3, h4,
          _, rfl, a, _, _, _, rfl, rfl, SqT.of I4.S.ha, rfl, _, _, rfl, rfl, .inr ⟨by omega, by omega⟩, _, _, rfl, rfl, ⟨by decide, by decide⟩, hacc4, ?_, fun H5 k5 h5 => ⟨k4.put k5 hD2, ?_⟩⟩
        · rw [List.length_map, List.length_map, stayL_len]
          exact sz (show j ≤ 100 by omega)
        · rw [stayL_snoc, List.map_append]
          exact int_snoc _ _
      · rintro acc H4 hacc4 ⟨k4, rfl⟩
        refine ⟨D2, _, rfl, SqL.of hacc4, k4.at hacc nmem_nil, ?_, fun H5 k5 h5 => ⟨(k2.trans k4).put k5 hD, ?_⟩⟩
        · rw [List.length_map, List.length_map, List.length_take]
          exact sz (show min i p.length ≤ 4 by omega)
        · rw [List.take_add_one, hs, List.map_append]
          exact int_snoc _ _
    · rintro acc H2 hacc ⟨k2, rfl⟩
      rw [hxl, List.take_length] at hacc
      refine ⟨D, _, rfl, SqL.of hacc, ?_⟩
      rw [← price_sum]
      exact q H2 k2
end

end MD
namespace MD
open PySem PySem.Spec PyProof.Rows L2
local macro_rules | `(tactic| walk_at "ne") => `(tactic| first | assumption | (apply Ne.symm; assumption) | exact ne_of_none (by assumption) (by assumption) | exact (ne_of_none (by assumption) (by assumption)).symm)
local macro_rules | `(tactic| walk_at "hp") => `(tactic| first | assumption | exact upd_same | (refine (upd_ne ?_).trans ?_; (focus walk_at "ne"); walk_at "hp"))
local macro_rules | `(tactic| walk_at "nm") => `(tactic| first | exact nmem_nil | exact nmem_one (by walk_at "ne") | exact nmem_cons (by walk_at "ne") (by walk_at "nm"))
/-! ### two dicts told alike -/
section
variable {P : Program} {w : World} {K : PySem.W.Frag} {mg : Str → Option Value} {base : Heap}
/-- both dicts hold these entries; the values are data by f -/
def spSame (n : Nat) : Sp := fun vs H Q _ => ∃ (a b : Addr) (es : List ((Int × Int) × V)) (f : V → D), vs = [.ref a, .ref b] ∧ H a = some (.dT (kvsOf es)) ∧ H b = some (.dT (kvsOf es)) ∧ a ≠ b ∧ (es.map (·.1)).Nodup ∧
  (∀ e ∈ es, RepT H (f e.2) e.2 ∧ (f e.2).ok (n + 1)) ∧ es.length ≤ 1000 ∧ ∀ H' : Hp, Kp [] H H' → Q (.bl true) H'
theorem c_law_same (T : Txt K mg) (n : Nat) (hn6 : n ≤ 5) : Cal P w K mg base 30 "_law_same" (spSame n) := by
  have c_law_equal := (ok_eq (P := P) (w := w) (base := base) T (n + 3)).mono (show 2 * (n + 3) + 1 ≤ 29 by omega)
  refine cal_of T.d_law_same sc_law_same (fun vs H Q E h => ?_) (fun fa cdv A outer s H vs Q E hr h => ?_)
  · obtain ⟨a, b, es, f, rfl, _⟩ := h; rfl
  · obtain ⟨a, b, es, f, rfl, ha, hb, nab, nd, hv, hel, q⟩ := h
    have hu := hu_of hr
    refine ⟨_, (pss_cons (ps_if (pt_not (pt_val (pe_callB (isiK (K := K)) (by rfl) T.z_isinstance (by decide +kernel) (pa_cons (pv 0) (pa_cons (pe_bltn (v := .ty "dict") (by rfl) T.z_dict (by decide +kernel) rfl) pa_nil)))))
  (pss_one (ps_ret pe_bl))
  pss_nil)
  (pss_one (ps_ret (pe_c c_law_equal (hr.mono (by first | decide | omega)) rfl (pa_cons (pe_callB (ksortN (K := K) (in12 hr)) (by rfl) T.z_sorted (by decide +kernel) (pa_cons (ke_lock (ke_lc rfl sc_law_same.nd (pi_keys (pv 0)) (blkOk_by (own := [("cell", 2)]) (N := ["told", "due", "cell"]) (sc := defScope s_law_same) (by decide +kernel)) (fun _ _ _ _ _ => (pg_name (i := 2) sc_law_same.nd rfl (Or.inl rfl))) (fun _ _ _ _ _ => pts_nil) (fun _ _ _ _ _ => (ke_tup (pa_cons (pv 2) (pa_cons (pe_dget hu (pv 0) (pv 2) (fun _ _ => rfl)) pa_nil)))))) pa_nil)) (pa_cons (pe_callB (ksortN (K := K) (in12 hr)) (by rfl) T.z_sorted (by decide +kernel) (pa_cons (ke_lock (ke_lc rfl sc_law_same.nd (pi_keys (pv 1)) (blkOk_by (own := [("cell", 2)]) (N := ["told", "due", "cell"]) (sc := defScope s_law_same) (by decide +kernel)) (fun _ _ _ _ _ => (pg_name (i := 2) sc_law_same.nd rfl (Or.inl rfl))) (fun _ _ _ _ _ => pts_nil) (fun _ _ _ _ _ => (ke_tup (pa_cons (pv 2) (pa_cons (pe_dget hu (pv 1) (pv 2) (fun _ _ => rfl)) pa_nil)))))) pa_nil)) pa_nil)))))), ?_⟩
    refine ⟨_, rfl, _, _, _, _, true, rfl, .ty _, .base (.dT ha), kit_ty (by decide +kernel), _, rfl, iteF ?_⟩
    refine ⟨a, _, ha, trivial, trivial, fun od H1 k1 h1 => ?_⟩
    refine ⟨_, rfl, a, od, rfl, .inr ⟨_, h1, fun D H2 hD kD hD' => ?_⟩⟩
    have naD : a ≠ D := ne_of_none h1 hD
    refine kl_keysT (d := a) (od := od) (kvs := kvsOf es) (fun i acc H' => Kp [] H1 H' ∧ RepTs H' ((es.take i).map (enD f)) acc) ⟨kD, RepTs.nil⟩ (fun i acc H' ⟨k, _⟩ => k.at h1 nmem_nil) ?_ ?_
    · rintro i c v qk acc H3 hi hqk hacc ⟨k3, r3⟩
      obtain ⟨e, he, rfl, rfl⟩ := kvs_at hi
      have hem := List.mem_of_getElem? he
      have hil : i < es.length := (List.getElem?_eq_some_iff.mp he).1
      have hal : acc.length ≤ 1000 := by rw [r3.lenM, List.length_take]; omega
      refine turn1 rfl ?_
      refine ⟨_, rfl, _, rfl, _, rfl, a, e.2, rfl, .inr ⟨_, _, qk, .inr ⟨od, k3.at h1 nmem_nil⟩, rfl, hqk, (valV_kvs nd hem).symm⟩, (by show 2 ≤ sizeLine; decide), fun t H4 ht k4 ht4 => ?_⟩
      refine ⟨k4.at hacc nmem_nil, sz hal, fun H5 k5 h5 => ⟨(k3.trans k4).put k5 hD, ?_⟩⟩
      rw [List.take_add_one, he, List.map_append]
      refine RepTs.snoc (RepT.tup (k5.tup _ _ ht4) (RepTs.cons (RepT.tup (k5.tup _ _ (k4.tup _ _ hqk)) (RepTs.cons RepT.int (RepTs.cons RepT.int RepTs.nil))) (RepTs.cons ((((((hv e hem).1).kp k1).kp (k3.trans k4)).kp k5)) RepTs.nil))) ((r3.kp k4).kp k5)
    rintro acc H3 hacc ⟨k3, r3⟩
    rw [kvs_len, List.take_length] at r3
    refine ⟨k3.at h1 nmem_nil, fun H4 k4 h4 => ?_⟩
    have k04 : Kp [] H H4 := ((k1.trans (Kp.nil k3)).trans k4).same ha h4
    have hacc4 := k4.at hacc (nmem_one naD.symm)
    have r4 := r3.kp k4
    obtain ⟨p1, p2⟩ := en_sortable nd r4
    refine ⟨D, acc, kyOf H4, rfl, SqL.of hacc4, p1, p2, fun ys hs hst y1 H5 hy1 k5 hy5 => ?_⟩
    obtain ⟨es1, pm1, r5, so1⟩ := en_sorted r4 hs hst.perm
    have k05 := k04.trans k5
    have hb5 := k05.at hb nmem_nil
    refine ⟨b, _, hb5, trivial, trivial, fun od2 G1 j1 g1 => ?_⟩
    refine ⟨_, rfl, b, od2, rfl, .inr ⟨_, g1, fun D2 G2 gD jD gD' => ?_⟩⟩
    have nbD : b ≠ D2 := ne_of_none g1 gD
    have ny1 : y1 ≠ b := fun z => by rw [z] at hy1; rw [(k04.at hb nmem_nil)] at hy1; cases hy1
    refine kl_keysT (d := b) (od := od2) (kvs := kvsOf es) (fun i acc H' => Kp [] G1 H' ∧ RepTs H' ((es.take i).map (enD f)) acc) ⟨jD, RepTs.nil⟩ (fun i acc H' ⟨k, _⟩ => k.at g1 nmem_nil) ?_ ?_
    · rintro i c v qk acc H3 hi hqk hacc ⟨k3, r3⟩
      obtain ⟨e, he, rfl, rfl⟩ := kvs_at hi
      have hem := List.mem_of_getElem? he
      have hil : i < es.length := (List.getElem?_eq_some_iff.mp he).1
      have hal : acc.length ≤ 1000 := by rw [r3.lenM, List.length_take]; omega
      refine turn1 rfl ?_
      refine ⟨_, rfl, _, rfl, _, rfl, b, e.2, rfl, .inr ⟨_, _, qk, .inr ⟨od2, k3.at g1 nmem_nil⟩, rfl, hqk, (valV_kvs nd hem).symm⟩, (by show 2 ≤ sizeLine; decide), fun t H4 ht k4 ht4 => ?_⟩
      refine ⟨k4.at hacc nmem_nil, sz hal, fun H5 k5 h5 => ⟨(k3.trans k4).put k5 gD, ?_⟩⟩
      rw [List.take_add_one, he, List.map_append]
      refine RepTs.snoc (RepT.tup (k5.tup _ _ ht4) (RepTs.cons (RepT.tup (k5.tup _ _ (k4.tup _ _ hqk)) (RepTs.cons RepT.int (RepTs.cons RepT.int RepTs.nil))) (RepTs.cons (((((((hv e hem).1).kp k05).kp j1).kp (k3.trans k4)).kp k5)) RepTs.nil))) ((r3.kp k4).kp k5)
    rintro acc2 G3 gacc ⟨j3, s3⟩
    rw [kvs_len, List.take_length] at s3
    refine ⟨j3.at g1 nmem_nil, fun G4 j4 g4 => ?_⟩
    have j04 : Kp [] H5 G4 := ((j1.trans (Kp.nil j3)).trans j4).same hb5 g4
    have gacc4 := j4.at gacc (nmem_one nbD.symm)
    have s4 := s3.kp j4
    obtain ⟨p3, p4⟩ := en_sortable nd s4
    refine ⟨D2, acc2, kyOf G4, rfl, SqL.of gacc4, p3, p4, fun zs hzs hzst y2 H6 hy2 k6 hy6 => ?_⟩
    obtain ⟨es2, pm2, r6, so2⟩ := en_sorted s4 hzs hzst.perm
    have ee : es1 = es2 := en_uniq nd pm1 pm2 so1 so2
    subst ee
    have k56 := j04.trans k6
    refine ⟨ensD f es1, _, _, rfl, Rep.lst (SqL.of (k56.at hy5 nmem_nil)) (RepTs.reps ((r5.kp k5).kp k56)), Rep.lst (SqL.of hy6) (RepTs.reps (r6.kp k6)), ?_, q H6 ((k05.trans j04).trans k6)⟩
    refine ⟨by rw [List.length_map, pm1.length_eq]; omega, fun d hd => ?_⟩
    obtain ⟨e, he, rfl⟩ := List.mem_map.mp hd
    exact enD_ok (hv e (pm1.mem_iff.mp he)).2 (by omega)
end

end MD
namespace MD
open PySem PySem.Spec PyProof.Rows L2
local macro_rules | `(tactic| walk_at "ne") => `(tactic| first | assumption | (apply Ne.symm; assumption) | exact ne_of_none (by assumption) (by assumption) | exact (ne_of_none (by assumption) (by assumption)).symm)
local macro_rules | `(tactic| walk_at "hp") => `(tactic| first | assumption | exact upd_same | (refine (upd_ne ?_).trans ?_; (focus walk_at "ne"); walk_at "hp"))
local macro_rules | `(tactic| walk_at "nm") => `(tactic| first | exact nmem_nil | exact nmem_one (by walk_at "ne") | exact nmem_cons (by walk_at "ne") (by walk_at "nm"))
/-! ### the law -/
section
variable {P : Program} {w : World} {K : PySem.W.Frag} {mg : Str → Option Value} {base : Heap}
def spLaw (K : PySem.W.Frag) : Sp := fun vs H Q _ => ∃ (a : Addr) (ns : List Int), vs = [.ref a] ∧ SqL K H a (ns.map V.int) ∧ ns.length ≤ 63 ∧ ∀ H', Q (.bl true) H'
theorem one_by_one (su : Su) (φ : Int → Int) (p : List Sy) : (p.map fun s => ((nightL su [s]).map φ).sum).sum = ((nightL su p).map φ).sum := by
  rw [price_sum]
  congr 1
  refine List.map_congr_left fun s _ => ?_
  unfold nightL
  rw [List.flatMap_cons, List.flatMap_nil, List.append_nil]
theorem two_ok (x y : Int) : (MD.D.sq true [.v (.int x), .v (.int y)]).ok 4 := by
  refine ⟨by simp, fun d hd => ?_⟩
  rcases List.mem_cons.mp hd with rfl | hd
  · trivial
  rcases List.mem_cons.mp hd with rfl | hd
  · trivial
  · cases hd
theorem int_vals {es : List ((Int × Int) × V)} {H : Hp} (h : IntE es) : ∀ e ∈ es, RepT H (MD.D.v e.2) e.2 ∧ (MD.D.v e.2).ok (0 + 1) := fun e he => by
  obtain ⟨n, hn⟩ := h e he
  rw [hn]
  exact ⟨RepT.int, trivial⟩
theorem ok_law {f : Addr} {fd : FuncData} (F : L2.Fun K "law" "law" s_law f fd) (T : Txt K mg) : FnOk P w K mg base CX0 40 f fd ["script"] (spLaw K) := by
  have c_law_numbers := c_law_numbers (P := P) (w := w) (base := base) T
  have c_law_setup := c_law_setup (P := P) (w := w) (base := base) T
  have c_law_party := c_law_party (P := P) (w := w) (base := base) T
  have c_law_equal := ok_eq (P := P) (w := w) (base := base) T 4
  have c_price_of := c_price_of (P := P) (w := w) (base := base) T
  have c_kept_of := c_kept_of (P := P) (w := w) (base := base) T
  have c_law_price := c_law_price (P := P) (w := w) (base := base) T
  have c_law_kept := c_law_kept (P := P) (w := w) (base := base) T
  have c_needs_of := c_needs_of (P := P) (w := w) (base := base) T
  have c_law_needs := c_law_needs (P := P) (w := w) (base := base) T
  have c_law_same := c_law_same (P := P) (w := w) (base := base) T 0 (by decide)
  refine F.ok sc_law (fun vs H Q E h => ?_) (fun cdv A outer s H vs Q E hr h => ?_)
  · obtain ⟨a, ns, rfl, _⟩ := h; rfl
  · obtain ⟨a0, ns, rfl, hS, hlen, q⟩ := h
    refine ⟨_, (pss_cons (ps_set (i := 1) sc_law.nd rfl (Or.inl rfl) (ke_lst (pa_cons (pe_c c_law_numbers (hr.mono (by first | decide | omega)) rfl (pa_cons (pv 0) pa_nil)) (pa_cons pe_int pa_nil))))
  (pss_cons (ps_set (i := 2) sc_law.nd rfl (Or.inr rfl) (pe_c c_law_setup (hr.mono (by first | decide | omega)) rfl (pa_cons (pv 1) pa_nil)))
  (pss_cons (ps_for PassesOwn.never rfl (pi_range1 (by rfl) T.z_range (pa_cons pe_int pa_nil)) (pg_name (i := 3) sc_law.nd rfl (Or.inl rfl))
  (pss_cons (ps_set (i := 4) sc_law.nd rfl (Or.inl rfl) (pe_c c_law_party (hr.mono (by first | decide | omega)) rfl (pa_cons (pv 1) (pa_cons (pv 2) pa_nil))))
  (pss_cons (ps_if (pt_not (pt_val (pe_c c_law_equal (hr.mono (by first | decide | omega)) rfl (pa_cons (ke_lst (pa_cons (pe_c c_price_of (hr.mono (by first | decide | omega)) rfl (pa_cons (pv 2) (pa_cons (pv 4) pa_nil))) (pa_cons (pe_c c_kept_of (hr.mono (by first | decide | omega)) rfl (pa_cons (pv 2) (pa_cons (pv 4) pa_nil))) pa_nil))) (pa_cons (ke_lst (pa_cons (pe_c c_law_price (hr.mono (by first | decide | omega)) rfl (pa_cons (pv 2) (pa_cons (pv 4) pa_nil))) (pa_cons (pe_c c_law_kept (hr.mono (by first | decide | omega)) rfl (pa_cons (pv 2) (pa_cons (pv 4) pa_nil))) pa_nil))) pa_nil)))))
  (pss_one (ps_ret pe_bl))
  pss_nil)
  (pss_cons (ps_if (pt_not (pt_val (pe_c c_law_same (hr.mono (by first | decide | omega)) rfl (pa_cons (pe_c c_needs_of (hr.mono (by first | decide | omega)) rfl (pa_cons (pv 4) pa_nil)) (pa_cons (pe_c c_law_needs (hr.mono (by first | decide | omega)) rfl (pa_cons (pv 4) pa_nil)) pa_nil)))))
  (pss_one (ps_ret pe_bl))
  pss_nil)
  (pss_cons (ps_if (pt_not (pt_val (pe_c c_law_equal (hr.mono (by first | decide | omega)) rfl (pa_cons (pe_c c_price_of (hr.mono (by first | decide | omega)) rfl (pa_cons (pv 2) (pa_cons (pv 4) pa_nil))) (pa_cons (pe_callB (sumK (K := K) rfl) (by rfl) T.z_sum (by decide +kernel) (pa_cons (ke_lc rfl sc_law.nd (pitK (K := K) (pv 4)) (blkOk_by (own := [("stay", 6)]) (N := ["script", "draws", "setup", "turn", "party", "told", "stay"]) (sc := defScope s_law) (by decide +kernel)) (fun _ _ _ _ _ => (pg_name (i := 6) sc_law.nd rfl (Or.inl rfl))) (fun _ _ _ _ _ => pts_nil) (fun _ _ _ _ _ => (pe_c c_price_of (hr.mono (by first | decide | omega)) rfl (pa_cons (pv 2) (pa_cons (ke_tup (pa_cons (pv 6) pa_nil)) pa_nil))))) pa_nil)) pa_nil)))))
  (pss_one (ps_ret pe_bl))
  pss_nil)
  (pss_cons (ps_if (pt_not (pt_val (pe_c c_law_equal (hr.mono (by first | decide | omega)) rfl (pa_cons (pe_c c_kept_of (hr.mono (by first | decide | omega)) rfl (pa_cons (pv 2) (pa_cons (pv 4) pa_nil))) (pa_cons (pe_callB (sumK (K := K) rfl) (by rfl) T.z_sum (by decide +kernel) (pa_cons (ke_lc rfl sc_law.nd (pitK (K := K) (pv 4)) (blkOk_by (own := [("stay", 6)]) (N := ["script", "draws", "setup", "turn", "party", "told", "stay"]) (sc := defScope s_law) (by decide +kernel)) (fun _ _ _ _ _ => (pg_name (i := 6) sc_law.nd rfl (Or.inl rfl))) (fun _ _ _ _ _ => pts_nil) (fun _ _ _ _ _ => (pe_c c_kept_of (hr.mono (by first | decide | omega)) rfl (pa_cons (pv 2) (pa_cons (ke_tup (pa_cons (pv 6) pa_nil)) pa_nil))))) pa_nil)) pa_nil)))))
  (pss_one (ps_ret pe_bl))
  pss_nil)
  (pss_cons (ps_set (i := 5) sc_law.nd rfl (Or.inl rfl) (pe_c c_needs_of (hr.mono (by first | decide | omega)) rfl (pa_cons (pv 4) pa_nil)))
  (pss_cons (ps_expr (pe_c c_needs_of (hr.mono (by first | decide | omega)) rfl (pa_cons (ke_tup (pa_cons (ke_tup (pa_cons pe_int (pa_cons pe_int (pa_cons pe_int pa_nil)))) pa_nil)) pa_nil)))
  (pss_cons (ps_if (pt_not (pt_val (pe_c c_law_same (hr.mono (by first | decide | omega)) rfl (pa_cons (pv 5) (pa_cons (pe_c c_law_needs (hr.mono (by first | decide | omega)) rfl (pa_cons (pv 4) pa_nil)) pa_nil)))))
  (pss_one (ps_ret pe_bl))
  pss_nil)
  (pss_cons (ps_expr (pe_bm0 PySem.F.plainAttrs_dict PySem.F.slot_dict_clear PySem.F.type_dict_clear mk_clearT (pv 5)))
  (pss_one (ps_if (pt_not (pt_val (pe_c c_law_same (hr.mono (by first | decide | omega)) rfl (pa_cons (pe_c c_needs_of (hr.mono (by first | decide | omega)) rfl (pa_cons (pv 4) pa_nil)) (pa_cons (pe_c c_law_needs (hr.mono (by first | decide | omega)) rfl (pa_cons (pv 4) pa_nil)) pa_nil)))))
  (pss_one (ps_ret pe_bl))
  pss_nil))))))))))))
  (pss_one (ps_ret pe_bl))))), ?_⟩
    refine ⟨_, rfl, a0, ns, rfl, hS, hlen, fun n H1 ms hn k1 hn1 rg hl => ⟨(by show 2 ≤ sizeLine; decide), fun d H2 hd k2 hd2 => ?_⟩⟩
    have D2 : DrawsAt H2 d n ms 0 := ⟨hd2, k2.at hn1 nmem_nil, rg, Int.le_refl _⟩
    refine ⟨_, rfl, d, n, ms, 0, rfl, D2, fun a r pr su k' H3 so k3 D3 S3 => ?_⟩
    refine ⟨_, rfl, (by decide), (by decide), for_range (n := 4) (fun i σ H' => ∃ (b1 b2 b3 : Option V) (k' : Int), σ = [some (.ref a0), some (.ref d), some (.ref a), b1, b2, b3, none] ∧ DrawsAt H' d n ms k' ∧ SuAt H' a r pr su)
      ⟨_, _, _, _, rfl, D3, S3⟩ ?_ ?_⟩
    · rintro i σ H4 hi ⟨b1, b2, b3, k4', rfl, D4, S4⟩
      refine ⟨_, rfl, _, rfl, d, n, ms, k4', a, r, pr, su, rfl, D4, S4, so, fun t xs pt k5' H5 Pt k5 D5 ht5 rp5 => ?_⟩
      have I5 : PrIn H5 a r pr t su xs pt := ⟨S4.kp k5, so, ht5, rp5, Pt.ok, Pt.l4⟩
      refine ⟨_, rfl, _, rfl, a, r, pr, t, su, xs, pt, rfl, I5, fun H6 k6 => ?_⟩
      refine ⟨_, rfl, _, rfl, a, r, pr, t, su, xs, pt, rfl, I5.kp k6, fun H7 k7 => ⟨(by show 2 ≤ sizeLine; decide), fun l1 H8 hl1 k8 hl8 => ?_⟩⟩
      have I8 := (((I5.kp k6).kp k7).kp k8)
      refine ⟨_, rfl, _, rfl, a, r, pr, t, su, xs, pt, rfl, I8, fun H9 k9 => ?_⟩
      refine ⟨_, rfl, _, rfl, a, r, pr, t, su, xs, pt, rfl, I8.kp k9, fun Ha ka => ⟨(by show 2 ≤ sizeLine; decide), fun l2 Hb hl2 kb hlb => ?_⟩⟩
      have k8b := (k9.trans ka).trans kb
      refine ⟨.sq true [.v (.int ((nightL su pt).map (phi1 su)).sum), .v (.int ((nightL su pt).map (phiK su)).sum)], _, _, rfl, Rep.lst (SqL.of (k8b.at hl8 nmem_nil)) (Reps.cons Rep.int (Reps.cons Rep.int Reps.nil)), Rep.lst (SqL.of hlb) (Reps.cons Rep.int (Reps.cons Rep.int Reps.nil)), two_ok _ _, _, rfl, iteF ?_⟩
      have Ib := I8.kp k8b
      have Db : DrawsAt Hb d n ms k5' := ((((D5.kp0 k6).kp0 k7).kp0 k8).kp0 k8b)
      have hsb : ∀ s ∈ pt, Sb s := fun s hs => (Pt.ok s hs).sb so
      have hl4 : pt.length ≤ 1000 := by have := Pt.l4; omega
      obtain ⟨es, ees, nd, hie⟩ := needsL_en pt
      have hel : es.length ≤ 1000 := by
        have h1 := needs_le pt [] hsb
        have h2 : (needsL pt).length ≤ 0 + 12 * pt.length := h1
        rw [ees, kvs_len] at h2
        have := Pt.l4
        omega
      refine ⟨_, rfl, t, xs, pt, rfl, Ib.ht, Ib.rp, hsb, hl4, fun d1 Hc hd1 kc hdc => ?_⟩
      have Ic := Ib.kp kc
      refine ⟨_, rfl, t, xs, pt, rfl, Ic.ht, Ic.rp, hsb, hl4, fun d2 Hd hd2 kd hdd => ?_⟩
      rw [ees] at hdc hdd
      refine ⟨d1, d2, es, MD.D.v, rfl, kd.at hdc nmem_nil, hdd, ne_of_none hdc hd2, nd, int_vals hie, hel, fun He ke => ⟨_, rfl, iteF ?_⟩⟩
      have IA := (Ic.kp kd).kp ke
      have DA := ((Db.kp0 kc).kp0 kd).kp0 ke
      refine ⟨_, rfl, _, rfl, a, r, pr, t, su, xs, pt, rfl, IA, fun HB kB => ?_⟩
      have IB := IA.kp kB
      refine ⟨_, rfl, t, rfl, ⟨xs, SqT.of IB.ht⟩, fun D HC hD kD hD' => ?_⟩
      refine kl_tup (K := K) (a := t) (xs := xs) (fun i acc H' => Kp [] HB H' ∧ acc = ((pt.take i).map fun s => ((nightL su [s]).map (phi1 su)).sum).map V.int) ⟨kD, rfl⟩ (fun i acc H' ⟨k, _⟩ => k.sqt IB.ht) ?_ ?_
      · rintro i x acc H3 hx hacc ⟨k3, rfl⟩
        obtain ⟨s, hs, rs⟩ := IB.rp.at hx
        refine turn1 rfl ?_
        refine ⟨_, rfl, _, rfl, (by show 1 ≤ sizeLine; decide), fun y H4 hy k4 hy4 => ?_⟩
        have k34 := k3.trans k4
        refine ⟨a, r, pr, y, su, [x], [s], rfl, ⟨(IB.S.kp k34), so, hy4, RepTs.cons (rs.kp k34) RepTs.nil, fun z hz => by rw [List.mem_singleton.mp hz]; exact Pt.ok s (List.mem_of_getElem? hs), by simp⟩, fun H5 k5 => ?_⟩
        refine ⟨(k4.trans k5).at hacc nmem_nil, ?_, fun H6 k6 h6 => ⟨(k34.trans k5).put k6 hD, ?_⟩⟩
        · rw [List.length_map, List.length_map, List.length_take]
          exact sz (show min i pt.length ≤ 4 by have := Pt.l4; omega)
        · rw [List.take_add_one, hs, List.map_append]
          exact int_snoc _ _
      rintro acc H3 hacc ⟨k3, rfl⟩
      rw [IB.rp.lenM, List.take_length] at hacc
      refine ⟨D, _, rfl, SqL.of hacc, .v (.int ((nightL su pt).map (phi1 su)).sum), _, _, rfl, Rep.int, ?_, trivial, _, rfl, iteF ?_⟩
      · rw [one_by_one]; exact Rep.int
      have DA2 := (DA.kp0 kB).kp0 k3
      have IA2 := IB.kp k3
      refine ⟨_, rfl, _, rfl, a, r, pr, t, su, xs, pt, rfl, IA2, fun HB' kB' => ?_⟩
      have IB' := IA2.kp kB'
      refine ⟨_, rfl, t, rfl, ⟨xs, SqT.of IB'.ht⟩, fun D HC hD kD hD' => ?_⟩
      refine kl_tup (K := K) (a := t) (xs := xs) (fun i acc H' => Kp [] HB' H' ∧ acc = ((pt.take i).map fun s => ((nightL su [s]).map (phiK su)).sum).map V.int) ⟨kD, rfl⟩ (fun i acc H' ⟨k, _⟩ => k.sqt IB'.ht) ?_ ?_
      · rintro i x acc H3 hx hacc ⟨k3', rfl⟩
        obtain ⟨s, hs, rs⟩ := IB'.rp.at hx
        refine turn1 rfl ?_
        refine ⟨_, rfl, _, rfl, (by show 1 ≤ sizeLine; decide), fun y H4 hy k4 hy4 => ?_⟩
        have k34 := k3'.trans k4
        refine ⟨a, r, pr, y, su, [x], [s], rfl, ⟨(IB'.S.kp k34), so, hy4, RepTs.cons (rs.kp k34) RepTs.nil, fun z hz => by rw [List.mem_singleton.mp hz]; exact Pt.ok s (List.mem_of_getElem? hs), by simp⟩, fun H5 k5 => ?_⟩
        refine ⟨(k4.trans k5).at hacc nmem_nil, ?_, fun H6 k6 h6 => ⟨(k34.trans k5).put k6 hD, ?_⟩⟩
        · rw [List.length_map, List.length_map, List.length_take]
          exact sz (show min i pt.length ≤ 4 by have := Pt.l4; omega)
        · rw [List.take_add_one, hs, List.map_append]
          exact int_snoc _ _
      rintro acc H3 hacc ⟨k3', rfl⟩
      rw [IB'.rp.lenM, List.take_length] at hacc
      refine ⟨D, _, rfl, SqL.of hacc, .v (.int ((nightL su pt).map (phiK su)).sum), _, _, rfl, Rep.int, ?_, trivial, _, rfl, iteF ?_⟩
      · rw [one_by_one]; exact Rep.int
      have I6' := IB'.kp k3'
      have D6' := (DA2.kp0 kB').kp0 k3'
      refine ⟨_, rfl, t, xs, pt, rfl, I6'.ht, I6'.rp, hsb, hl4, fun d1' G1 hd1' j1 hg1 => ?_⟩
      refine ⟨(by show 3 ≤ sizeLine; decide), fun q1 G2 hq1 j2 hq2 => ⟨(by show 1 ≤ sizeLine; decide), fun q2 G3 hq3 j3 hq3' => ?_⟩⟩
      refine ⟨q2, [.ref q1], [((0 : Int), (0 : Int), (1 : Int))], rfl, hq3', RepTs.cons (syD_of (j3.tup _ _ hq2)) RepTs.nil, fun s hs => by rw [List.mem_singleton.mp hs]; exact ⟨by decide, by decide, by decide⟩, by simp, fun d3 G4 hd3 j4 hg4 => ?_⟩
      have j14 := (j2.trans j3).trans j4
      rw [ees] at hg1
      have hg1' := j14.at hg1 nmem_nil
      have I7 := (I6'.kp j1).kp j14
      have D7 := (D6'.kp0 j1).kp0 j14
      refine ⟨_, rfl, _, rfl, t, xs, pt, rfl, I7.ht, I7.rp, hsb, hl4, fun d4 G5 hd4 j5 hg5 => ?_⟩
      rw [ees] at hg5
      refine ⟨d1', d4, es, MD.D.v, rfl, j5.at hg1' nmem_nil, hg5, ne_of_none hg1' hd4, nd, int_vals hie, hel, fun G6 j6 => ⟨_, rfl, iteF ?_⟩⟩
      have hg6 := (j5.trans j6).at hg1' nmem_nil
      refine ⟨_, rfl, .inr (.inr (.inl ⟨rfl, .inr ⟨_, hg6⟩⟩)), d1', _, rfl, rfl, hg6, fun G7 j7 hg7 => ?_⟩
      have D8 := ((D7.kp0 j5).kp0 j6).put j7 (ne_of_none D6'.hd hd1') (ne_of_none D6'.hn hd1')
      have I8' := ((I7.kp j5).kp j6).kp j7
      refine ⟨_, rfl, t, xs, pt, rfl, I8'.ht, I8'.rp, hsb, hl4, fun d5 G8 hd5 j8 hg8 => ?_⟩
      have I9' := I8'.kp j8
      refine ⟨_, rfl, t, xs, pt, rfl, I9'.ht, I9'.rp, hsb, hl4, fun d6 G9 hd6 j9 hg9 => ?_⟩
      rw [ees] at hg8 hg9
      refine ⟨d5, d6, es, MD.D.v, rfl, j9.at hg8 nmem_nil, hg9, ne_of_none hg8 hd6, nd, int_vals hie, hel, fun GA jA => ⟨_, rfl, iteF ?_⟩⟩
      exact ⟨_, _, _, k5', rfl, ((D8.kp0 j8).kp0 j9).kp0 jA, ((I9'.kp j9).kp jA).S⟩
    · rintro σ H4 ⟨b1, b2, b3, k4', rfl, D4, S4⟩
      exact q H4
end

end MD
namespace MD
open PySem PySem.Spec PyProof.Rows L2
theorem all_mk {l : PySem.W.OpenLaw} {w : World} {K : PySem.W.Frag} {h : Heap} {mg : Str → Option Value} {fa f0 f1 f2 f3 f4 f5 f6 f7 f8 f9 f10 f11 f12 f13 f14 f15 f16 : Addr} (X : K.In h) (G : h.Ns mainGlobals mg) (hfa : mg "law" = some (.ref fa))
    {od0 an0 od1 an1 od2 an2 od3 an3 od4 an4 od5 an5 od6 an6 od7 an7 od8 an8 od9 an9 od10 an10 od11 an11 od12 an12 od13 an13 od14 an14 od15 an15 od16 an16 : Option Addr} {sl0 sl1 sl2 sl3 sl4 sl5 sl6 sl7 sl8 sl9 sl10 sl11 sl12 sl13 sl14 sl15 sl16 : Array (Option Value)} {oc0 kV0 dc0 pm0 cd0 ct0 oc1 kV1 dc1 pm1 cd1 ct1 oc2 kV2 dc2 pm2 cd2 ct2 oc3 kV3 dc3 pm3 cd3 ct3 oc4 kV4 dc4 pm4 cd4 ct4 oc5 kV5 dc5 pm5 cd5 ct5 oc6 kV6 dc6 pm6 cd6 ct6 oc7 kV7 dc7 pm7 cd7 ct7 oc8 kV8 dc8 pm8 cd8 ct8 oc9 kV9 dc9 pm9 cd9 ct9 oc10 kV10 dc10 pm10 cd10 ct10 oc11 kV11 dc11 pm11 cd11 ct11 oc12 kV12 dc12 pm12 cd12 ct12 oc13 kV13 dc13 pm13 cd13 ct13 oc14 kV14 dc14 pm14 cd14 ct14 oc15 kV15 dc15 pm15 cd15 ct15 oc16 kV16 dc16 pm16 cd16 ct16 : Value}
    (a0 : PySem.W.nsIn K mainGlobals "needs_of" = some (some (.ref f0)))
    (l0 : K.lookup f0 = some ⟨oc0, od0, .func (PySem.W.fnOf "needs_of" "needs_of" (defArgs s_needs_of) (defBody s_needs_of) (defScope s_needs_of) .none kV0 dc0 pm0 an0 cd0 ct0), sl0⟩)
    (c0 : PySem.W.codeIn K cd0 "needs_of" = true)
    (k0 : PySem.W.keepIn K (.ref f0) = true)
    (a1 : PySem.W.nsIn K mainGlobals "night_prices" = some (some (.ref f1)))
    (l1 : K.lookup f1 = some ⟨oc1, od1, .func (PySem.W.fnOf "night_prices" "night_prices" (defArgs s_night_prices) (defBody s_night_prices) (defScope s_night_prices) .none kV1 dc1 pm1 an1 cd1 ct1), sl1⟩)
    (c1 : PySem.W.codeIn K cd1 "night_prices" = true)
    (k1 : PySem.W.keepIn K (.ref f1) = true)
    (a2 : PySem.W.nsIn K mainGlobals "price_of" = some (some (.ref f2)))
    (l2 : K.lookup f2 = some ⟨oc2, od2, .func (PySem.W.fnOf "price_of" "price_of" (defArgs s_price_of) (defBody s_price_of) (defScope s_price_of) .none kV2 dc2 pm2 an2 cd2 ct2), sl2⟩)
    (c2 : PySem.W.codeIn K cd2 "price_of" = true)
    (k2 : PySem.W.keepIn K (.ref f2) = true)
    (a3 : PySem.W.nsIn K mainGlobals "kept_of" = some (some (.ref f3)))
    (l3 : K.lookup f3 = some ⟨oc3, od3, .func (PySem.W.fnOf "kept_of" "kept_of" (defArgs s_kept_of) (defBody s_kept_of) (defScope s_kept_of) .none kV3 dc3 pm3 an3 cd3 ct3), sl3⟩)
    (c3 : PySem.W.codeIn K cd3 "kept_of" = true)
    (k3 : PySem.W.keepIn K (.ref f3) = true)
    (a4 : PySem.W.nsIn K mainGlobals "_law_mixed" = some (some (.ref f4)))
    (l4 : K.lookup f4 = some ⟨oc4, od4, .func (PySem.W.fnOf "_law_mixed" "_law_mixed" (defArgs s_law_mixed) (defBody s_law_mixed) (defScope s_law_mixed) .none kV4 dc4 pm4 an4 cd4 ct4), sl4⟩)
    (c4 : PySem.W.codeIn K cd4 "_law_mixed" = true)
    (k4 : PySem.W.keepIn K (.ref f4) = true)
    (a5 : PySem.W.nsIn K mainGlobals "_law_numbers" = some (some (.ref f5)))
    (l5 : K.lookup f5 = some ⟨oc5, od5, .func (PySem.W.fnOf "_law_numbers" "_law_numbers" (defArgs s_law_numbers) (defBody s_law_numbers) (defScope s_law_numbers) .none kV5 dc5 pm5 an5 cd5 ct5), sl5⟩)
    (c5 : PySem.W.codeIn K cd5 "_law_numbers" = true)
    (k5 : PySem.W.keepIn K (.ref f5) = true)
    (a6 : PySem.W.nsIn K mainGlobals "_law_draw" = some (some (.ref f6)))
    (l6 : K.lookup f6 = some ⟨oc6, od6, .func (PySem.W.fnOf "_law_draw" "_law_draw" (defArgs s_law_draw) (defBody s_law_draw) (defScope s_law_draw) .none kV6 dc6 pm6 an6 cd6 ct6), sl6⟩)
    (c6 : PySem.W.codeIn K cd6 "_law_draw" = true)
    (k6 : PySem.W.keepIn K (.ref f6) = true)
    (a7 : PySem.W.nsIn K mainGlobals "_law_equal" = some (some (.ref f7)))
    (l7 : K.lookup f7 = some ⟨oc7, od7, .func (PySem.W.fnOf "_law_equal" "_law_equal" (defArgs s_law_equal) (defBody s_law_equal) (defScope s_law_equal) .none kV7 dc7 pm7 an7 cd7 ct7), sl7⟩)
    (c7 : PySem.W.codeIn K cd7 "_law_equal" = true)
    (k7 : PySem.W.keepIn K (.ref f7) = true)
    (a8 : PySem.W.nsIn K mainGlobals "_law_all_equal" = some (some (.ref f8)))
    (l8 : K.lookup f8 = some ⟨oc8, od8, .func (PySem.W.fnOf "_law_all_equal" "_law_all_equal" (defArgs s_law_all_equal) (defBody s_law_all_equal) (defScope s_law_all_equal) .none kV8 dc8 pm8 an8 cd8 ct8), sl8⟩)
    (c8 : PySem.W.codeIn K cd8 "_law_all_equal" = true)
    (k8 : PySem.W.keepIn K (.ref f8) = true)
    (a9 : PySem.W.nsIn K mainGlobals "_law_setup" = some (some (.ref f9)))
    (l9 : K.lookup f9 = some ⟨oc9, od9, .func (PySem.W.fnOf "_law_setup" "_law_setup" (defArgs s_law_setup) (defBody s_law_setup) (defScope s_law_setup) .none kV9 dc9 pm9 an9 cd9 ct9), sl9⟩)
    (c9 : PySem.W.codeIn K cd9 "_law_setup" = true)
    (k9 : PySem.W.keepIn K (.ref f9) = true)
    (a10 : PySem.W.nsIn K mainGlobals "_law_stay" = some (some (.ref f10)))
    (l10 : K.lookup f10 = some ⟨oc10, od10, .func (PySem.W.fnOf "_law_stay" "_law_stay" (defArgs s_law_stay) (defBody s_law_stay) (defScope s_law_stay) .none kV10 dc10 pm10 an10 cd10 ct10), sl10⟩)
    (c10 : PySem.W.codeIn K cd10 "_law_stay" = true)
    (k10 : PySem.W.keepIn K (.ref f10) = true)
    (a11 : PySem.W.nsIn K mainGlobals "_law_party" = some (some (.ref f11)))
    (l11 : K.lookup f11 = some ⟨oc11, od11, .func (PySem.W.fnOf "_law_party" "_law_party" (defArgs s_law_party) (defBody s_law_party) (defScope s_law_party) .none kV11 dc11 pm11 an11 cd11 ct11), sl11⟩)
    (c11 : PySem.W.codeIn K cd11 "_law_party" = true)
    (k11 : PySem.W.keepIn K (.ref f11) = true)
    (a12 : PySem.W.nsIn K mainGlobals "_law_needs" = some (some (.ref f12)))
    (l12 : K.lookup f12 = some ⟨oc12, od12, .func (PySem.W.fnOf "_law_needs" "_law_needs" (defArgs s_law_needs) (defBody s_law_needs) (defScope s_law_needs) .none kV12 dc12 pm12 an12 cd12 ct12), sl12⟩)
    (c12 : PySem.W.codeIn K cd12 "_law_needs" = true)
    (k12 : PySem.W.keepIn K (.ref f12) = true)
    (a13 : PySem.W.nsIn K mainGlobals "_law_price" = some (some (.ref f13)))
    (l13 : K.lookup f13 = some ⟨oc13, od13, .func (PySem.W.fnOf "_law_price" "_law_price" (defArgs s_law_price) (defBody s_law_price) (defScope s_law_price) .none kV13 dc13 pm13 an13 cd13 ct13), sl13⟩)
    (c13 : PySem.W.codeIn K cd13 "_law_price" = true)
    (k13 : PySem.W.keepIn K (.ref f13) = true)
    (a14 : PySem.W.nsIn K mainGlobals "_law_kept" = some (some (.ref f14)))
    (l14 : K.lookup f14 = some ⟨oc14, od14, .func (PySem.W.fnOf "_law_kept" "_law_kept" (defArgs s_law_kept) (defBody s_law_kept) (defScope s_law_kept) .none kV14 dc14 pm14 an14 cd14 ct14), sl14⟩)
    (c14 : PySem.W.codeIn K cd14 "_law_kept" = true)
    (k14 : PySem.W.keepIn K (.ref f14) = true)
    (a15 : PySem.W.nsIn K mainGlobals "_law_same" = some (some (.ref f15)))
    (l15 : K.lookup f15 = some ⟨oc15, od15, .func (PySem.W.fnOf "_law_same" "_law_same" (defArgs s_law_same) (defBody s_law_same) (defScope s_law_same) .none kV15 dc15 pm15 an15 cd15 ct15), sl15⟩)
    (c15 : PySem.W.codeIn K cd15 "_law_same" = true)
    (k15 : PySem.W.keepIn K (.ref f15) = true)
    (a16 : PySem.W.nsIn K mainGlobals "law" = some (some (.ref f16)))
    (l16 : K.lookup f16 = some ⟨oc16, od16, .func (PySem.W.fnOf "law" "law" (defArgs s_law) (defBody s_law) (defScope s_law) .none kV16 dc16 pm16 an16 cd16 ct16), sl16⟩)
    (c16 : PySem.W.codeIn K cd16 "law" = true)
    (k16 : PySem.W.keepIn K (.ref f16) = true)
    (z_bool : PySem.W.nsIn K mainGlobals "bool" = some none)
    (z_dict : PySem.W.nsIn K mainGlobals "dict" = some none)
    (z_int : PySem.W.nsIn K mainGlobals "int" = some none)
    (z_isinstance : PySem.W.nsIn K mainGlobals "isinstance" = some none)
    (z_len : PySem.W.nsIn K mainGlobals "len" = some none)
    (z_list : PySem.W.nsIn K mainGlobals "list" = some none)
    (z_min : PySem.W.nsIn K mainGlobals "min" = some none)
    (z_range : PySem.W.nsIn K mainGlobals "range" = some none)
    (z_sorted : PySem.W.nsIn K mainGlobals "sorted" = some none)
    (z_str : PySem.W.nsIn K mainGlobals "str" = some none)
    (z_sum : PySem.W.nsIn K mainGlobals "sum" = some none)
    (z_tuple : PySem.W.nsIn K mainGlobals "tuple" = some none)
    : ∃ fd : FuncData, (∀ (s : Shared) (v : Value), BindsTo s fd ⟨[v], []⟩ [("script", v)]) ∧ ∀ base : Heap, K.In base → base.Ns mainGlobals mg → FnOk l.prog w K mg base CX0 40 fa fd ["script"] (spLaw K) := by
  have e := hfa.symm.trans (PySem.W.mg_of X G a16)
  cases e
  have F0 := fun_mk (st := s_needs_of) l0 c0 k0
  have b0 := F0.binds (ps := ["party"]) fun _ _ _ _ _ _ us hl => match us, hl with | [_], _ => rfl
  have F1 := fun_mk (st := s_night_prices) l1 c1 k1
  have b1 := F1.binds (ps := ["setup", "party"]) fun _ _ _ _ _ _ us hl => match us, hl with | [_, _], _ => rfl
  have F2 := fun_mk (st := s_price_of) l2 c2 k2
  have b2 := F2.binds (ps := ["setup", "party"]) fun _ _ _ _ _ _ us hl => match us, hl with | [_, _], _ => rfl
  have F3 := fun_mk (st := s_kept_of) l3 c3 k3
  have b3 := F3.binds (ps := ["setup", "party"]) fun _ _ _ _ _ _ us hl => match us, hl with | [_, _], _ => rfl
  have F4 := fun_mk (st := s_law_mixed) l4 c4 k4
  have b4 := F4.binds (ps := ["number", "k"]) fun _ _ _ _ _ _ us hl => match us, hl with | [_, _], _ => rfl
  have F5 := fun_mk (st := s_law_numbers) l5 c5 k5
  have b5 := F5.binds (ps := ["script"]) fun _ _ _ _ _ _ us hl => match us, hl with | [_], _ => rfl
  have F6 := fun_mk (st := s_law_draw) l6 c6 k6
  have b6 := F6.binds (ps := ["draws"]) fun _ _ _ _ _ _ us hl => match us, hl with | [_], _ => rfl
  have F7 := fun_mk (st := s_law_equal) l7 c7 k7
  have b7 := F7.binds (ps := ["actual", "due"]) fun _ _ _ _ _ _ us hl => match us, hl with | [_, _], _ => rfl
  have F8 := fun_mk (st := s_law_all_equal) l8 c8 k8
  have b8 := F8.binds (ps := ["actual", "due"]) fun _ _ _ _ _ _ us hl => match us, hl with | [_, _], _ => rfl
  have F9 := fun_mk (st := s_law_setup) l9 c9 k9
  have b9 := F9.binds (ps := ["draws"]) fun _ _ _ _ _ _ us hl => match us, hl with | [_], _ => rfl
  have F10 := fun_mk (st := s_law_stay) l10 c10 k10
  have b10 := F10.binds (ps := ["draws", "setup"]) fun _ _ _ _ _ _ us hl => match us, hl with | [_, _], _ => rfl
  have F11 := fun_mk (st := s_law_party) l11 c11 k11
  have b11 := F11.binds (ps := ["draws", "setup"]) fun _ _ _ _ _ _ us hl => match us, hl with | [_, _], _ => rfl
  have F12 := fun_mk (st := s_law_needs) l12 c12 k12
  have b12 := F12.binds (ps := ["party"]) fun _ _ _ _ _ _ us hl => match us, hl with | [_], _ => rfl
  have F13 := fun_mk (st := s_law_price) l13 c13 k13
  have b13 := F13.binds (ps := ["setup", "party"]) fun _ _ _ _ _ _ us hl => match us, hl with | [_, _], _ => rfl
  have F14 := fun_mk (st := s_law_kept) l14 c14 k14
  have b14 := F14.binds (ps := ["setup", "party"]) fun _ _ _ _ _ _ us hl => match us, hl with | [_, _], _ => rfl
  have F15 := fun_mk (st := s_law_same) l15 c15 k15
  have b15 := F15.binds (ps := ["told", "due"]) fun _ _ _ _ _ _ us hl => match us, hl with | [_, _], _ => rfl
  have F16 := fun_mk (st := s_law) l16 c16 k16
  let T : Txt K mg := {
    d_needs_of := ⟨_, _, PySem.W.mg_of X G a0, F0, b0⟩
    d_night_prices := ⟨_, _, PySem.W.mg_of X G a1, F1, b1⟩
    d_price_of := ⟨_, _, PySem.W.mg_of X G a2, F2, b2⟩
    d_kept_of := ⟨_, _, PySem.W.mg_of X G a3, F3, b3⟩
    d_law_mixed := ⟨_, _, PySem.W.mg_of X G a4, F4, b4⟩
    d_law_numbers := ⟨_, _, PySem.W.mg_of X G a5, F5, b5⟩
    d_law_draw := ⟨_, _, PySem.W.mg_of X G a6, F6, b6⟩
    d_law_equal := ⟨_, _, PySem.W.mg_of X G a7, F7, b7⟩
    d_law_all_equal := ⟨_, _, PySem.W.mg_of X G a8, F8, b8⟩
    d_law_setup := ⟨_, _, PySem.W.mg_of X G a9, F9, b9⟩
    d_law_stay := ⟨_, _, PySem.W.mg_of X G a10, F10, b10⟩
    d_law_party := ⟨_, _, PySem.W.mg_of X G a11, F11, b11⟩
    d_law_needs := ⟨_, _, PySem.W.mg_of X G a12, F12, b12⟩
    d_law_price := ⟨_, _, PySem.W.mg_of X G a13, F13, b13⟩
    d_law_kept := ⟨_, _, PySem.W.mg_of X G a14, F14, b14⟩
    d_law_same := ⟨_, _, PySem.W.mg_of X G a15, F15, b15⟩
    z_bool := PySem.W.mg_none_of X G z_bool
    z_dict := PySem.W.mg_none_of X G z_dict
    z_int := PySem.W.mg_none_of X G z_int
    z_isinstance := PySem.W.mg_none_of X G z_isinstance
    z_len := PySem.W.mg_none_of X G z_len
    z_list := PySem.W.mg_none_of X G z_list
    z_min := PySem.W.mg_none_of X G z_min
    z_range := PySem.W.mg_none_of X G z_range
    z_sorted := PySem.W.mg_none_of X G z_sorted
    z_str := PySem.W.mg_none_of X G z_str
    z_sum := PySem.W.mg_none_of X G z_sum
    z_tuple := PySem.W.mg_none_of X G z_tuple }
  exact ⟨PySem.W.fnOf "law" "law" (defArgs s_law) (defBody s_law) (defScope s_law) .none kV16 dc16 pm16 an16 cd16 ct16, fun s v => .of_eq rfl, fun base _ _ => ok_law F16 T⟩
theorem walk {l : PySem.W.OpenLaw} {q : Program} {loose : List Str} {XP : (Str → Option Value) → Heap → Prop} {YP : World → Heap → Prop} {d : DefRec} {K : Params → PySem.W.Frag} (hn : l.most = some 63) (hdf : d.params.defaults = [])
    (hY : ∀ (w : World) (h : Heap), YP w h → (K w.params).In h)
    (F : ∀ (w : World) (mg : Str → Option Value) (fa : Addr) (h : Heap), (K w.params).In h → h.Ns mainGlobals mg → mg d.name = some (.ref fa) →
      ∃ fd : FuncData, (∀ (s : Shared) (u : Value), BindsTo s fd ⟨[u], []⟩ [("script", u)]) ∧ ∀ base : Heap, (K w.params).In base → base.Ns mainGlobals mg → FnOk l.prog w (K w.params) mg base CX0 40 fa fd ["script"] (spLaw (K w.params))) :
    PySem.W.WalkO q loose XP YP l.row.toRowW d [] (fun f vs => PySem.call f vs) :=
  L2.walk_of (n := 63) (k := 40) (x := "script") (CX := fun _ => CX0) (sp := fun w => spLaw (K w.params)) hn (by decide) hdf ⟨rfl, by decide, by decide⟩ hY F (fun _ _ a ns hl _ hS => ⟨a, ns, rfl, hS, hl, fun _ => rfl⟩) fun _ _ _ _ _ z => z
end MD
open PySem PySem.W PyProof.Rows
set_option maxRecDepth 100000 in
set_option maxHeartbeats 0 in
theorem PySem.Challenge.cw_manydoors_k03_needs_and_prices_holds : PySem.Challenge.rw_manydoors_k03_needs_and_prices.Holds := by
  w_on; o_law; k_head; (case hw => w_witness2)
  k_fill
  refine MD.walk (l := PySem.Challenge.rw_manydoors_k03_needs_and_prices) rfl rfl (fun w h Y => PySem.W.kIn_of Y) ?F
  case F =>
    intro w mg fa h KX G hmg
    refine' MD.all_mk KX G hmg ?a0 ?l0 ?c0 ?k0 ?a1 ?l1 ?c1 ?k1 ?a2 ?l2 ?c2 ?k2 ?a3 ?l3 ?c3 ?k3 ?a4 ?l4 ?c4 ?k4 ?a5 ?l5 ?c5 ?k5 ?a6 ?l6 ?c6 ?k6 ?a7 ?l7 ?c7 ?k7 ?a8 ?l8 ?c8 ?k8 ?a9 ?l9 ?c9 ?k9 ?a10 ?l10 ?c10 ?k10 ?a11 ?l11 ?c11 ?k11 ?a12 ?l12 ?c12 ?k12 ?a13 ?l13 ?c13 ?k13 ?a14 ?l14 ?c14 ?k14 ?a15 ?l15 ?c15 ?k15 ?a16 ?l16 ?c16 ?k16 ?z_bool ?z_dict ?z_int ?z_isinstance ?z_len ?z_list ?z_min ?z_range ?z_sorted ?z_str ?z_sum ?z_tuple
    (case a0 => k_is)
    (case l0 => k_is)
    (case c0 => k_is)
    (case k0 => k_is)
    (case a1 => k_is)
    (case l1 => k_is)
    (case c1 => k_is)
    (case k1 => k_is)
    (case a2 => k_is)
    (case l2 => k_is)
    (case c2 => k_is)
    (case k2 => k_is)
    (case a3 => k_is)
    (case l3 => k_is)
    (case c3 => k_is)
    (case k3 => k_is)
    (case a4 => k_is)
    (case l4 => k_is)
    (case c4 => k_is)
    (case k4 => k_is)
    (case a5 => k_is)
    (case l5 => k_is)
    (case c5 => k_is)
    (case k5 => k_is)
    (case a6 => k_is)
    (case l6 => k_is)
    (case c6 => k_is)
    (case k6 => k_is)
    (case a7 => k_is)
    (case l7 => k_is)
    (case c7 => k_is)
    (case k7 => k_is)
    (case a8 => k_is)
    (case l8 => k_is)
    (case c8 => k_is)
    (case k8 => k_is)
    (case a9 => k_is)
    (case l9 => k_is)
    (case c9 => k_is)
    (case k9 => k_is)
    (case a10 => k_is)
    (case l10 => k_is)
    (case c10 => k_is)
    (case k10 => k_is)
    (case a11 => k_is)
    (case l11 => k_is)
    (case c11 => k_is)
    (case k11 => k_is)
    (case a12 => k_is)
    (case l12 => k_is)
    (case c12 => k_is)
    (case k12 => k_is)
    (case a13 => k_is)
    (case l13 => k_is)
    (case c13 => k_is)
    (case k13 => k_is)
    (case a14 => k_is)
    (case l14 => k_is)
    (case c14 => k_is)
    (case k14 => k_is)
    (case a15 => k_is)
    (case l15 => k_is)
    (case c15 => k_is)
    (case k15 => k_is)
    (case a16 => k_is)
    (case l16 => k_is)
    (case c16 => k_is)
    (case k16 => k_is)
    (case z_bool => k_is)
    (case z_dict => k_is)
    (case z_int => k_is)
    (case z_isinstance => k_is)
    (case z_len => k_is)
    (case z_list => k_is)
    (case z_min => k_is)
    (case z_range => k_is)
    (case z_sorted => k_is)
    (case z_str => k_is)
    (case z_sum => k_is)
    (case z_tuple => k_is)
