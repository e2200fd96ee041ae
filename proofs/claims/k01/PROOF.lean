import PyProof.Rows.All
import Wide.All
import OpenK.AllK
import Wide.FinOn
import HandS.ForMost
import HandS.Wide
import HandS.TupAny
import HandS.TupMul
import HandS.IsInst
import HandS.Style
import PyProof.ReprRoads
import KE.DataEq
import HandS.Walk
import PyProof.StrLawsRepr
import PyProof.FitsInt
import KE.SortData
import HandS.TupLe
import PySem.Challenge.RW_spareskept_k01_names_and_rows
set_option Elab.async false
set_option linter.all false
set_option maxRecDepth 100000
set_option maxHeartbeats 2000000
namespace KX
open PySem PySem.Spec PyProof.Rows L2

/-! ### data: what a value holds, through the tracked heap -/
mutual
inductive Dx (H : Hp) : V → PyData → Prop
  | non : Dx H .non .none
  | bl (b : Bool) : Dx H (.bl b) (.bool b)
  | int (i : Int) : Dx H (.int i) (.int i)
  | str (x : Str) : Dx H (.str x) (.str x)
  | lst {a : Addr} {xs : List V} {ds : List PyData} (e : H a = some (.lst xs)) (n : a ≠ sysModules) (h : Dxs H xs ds) : Dx H (.ref a) (.list ds)
  | tup {a : Addr} {xs : List V} {ds : List PyData} (e : H a = some (.tup xs)) (h : Dxs H xs ds) : Dx H (.ref a) (.tuple ds)
  | dic {a : Addr} (e : H a = some (.dK [])) : Dx H (.ref a) (.dict [])
inductive Dxs (H : Hp) : List V → List PyData → Prop
  | nil : Dxs H [] []
  | cons {v : V} {vs : List V} {d : PyData} {ds : List PyData} (h : Dx H v d) (t : Dxs H vs ds) : Dxs H (v :: vs) (d :: ds)
end

mutual
theorem Dx.mono {H H' : Hp} (s : Same H H') : ∀ (d : PyData) (v : V), Dx H v d → Dx H' v d
  | .none, _, h => by cases h; exact .non
  | .bool b, _, h => by cases h; exact .bl b
  | .int i, _, h => by cases h; exact .int i
  | .str x, _, h => by cases h; exact .str x
  | .list ds, _, h => by
    cases h with
    | lst e n h => exact .lst (s _ _ e) n (Dxs.mono s ds _ h)
  | .tuple ds, _, h => by
    cases h with
    | tup e h => exact .tup (s _ _ e) (Dxs.mono s ds _ h)
  | .dict ks, _, h => by
    cases h with
    | dic e => exact .dic (s _ _ e)
theorem Dxs.mono {H H' : Hp} (s : Same H H') : ∀ (ds : List PyData) (vs : List V), Dxs H vs ds → Dxs H' vs ds
  | [], _, h => by cases h; exact .nil
  | d :: ds, _, h => by
    cases h with
    | cons h t => exact .cons (Dx.mono s d _ h) (Dxs.mono s ds _ t)
end
theorem Dx.up {H H' : Hp} {v : V} {d : PyData} (h : Dx H v d) (s : Same H H') : Dx H' v d := Dx.mono s d v h
theorem Dxs.up {H H' : Hp} {v : List V} {d : List PyData} (h : Dxs H v d) (s : Same H H') : Dxs H' v d := Dxs.mono s d v h
theorem Dxs.len {H : Hp} : ∀ {vs : List V} {ds : List PyData}, Dxs H vs ds → vs.length = ds.length
  | _, _, .nil => rfl
  | _, _, .cons _ t => by simp [Dxs.len t]
theorem Dxs.get {H : Hp} : ∀ {vs : List V} {ds : List PyData} {i : Nat} {d : PyData}, Dxs H vs ds → ds[i]? = some d → ∃ v, vs[i]? = some v ∧ Dx H v d
  | _, _, i, d, .nil, e => by simp at e
  | _, _, 0, d, .cons h _, e => by simp at e; subst e; exact ⟨_, rfl, h⟩
  | _, _, i + 1, d, .cons _ t, e => by
    obtain ⟨v, e1, h⟩ := Dxs.get (i := i) t (by simpa using e)
    exact ⟨v, by simpa using e1, h⟩
theorem Dxs.get' {H : Hp} : ∀ {vs : List V} {ds : List PyData} {i : Nat} {v : V}, Dxs H vs ds → vs[i]? = some v → ∃ d, ds[i]? = some d ∧ Dx H v d
  | _, _, i, d, .nil, e => by simp at e
  | _, _, 0, d, .cons h _, e => by simp at e; subst e; exact ⟨_, rfl, h⟩
  | _, _, i + 1, d, .cons _ t, e => by
    obtain ⟨v, e1, h⟩ := Dxs.get' (i := i) t (by simpa using e)
    exact ⟨v, by simpa using e1, h⟩
theorem Dxs.app {H : Hp} : ∀ {vs : List V} {ds : List PyData} {ws : List V} {es : List PyData}, Dxs H vs ds → Dxs H ws es → Dxs H (vs ++ ws) (ds ++ es)
  | _, _, _, _, .nil, h => h
  | _, _, _, _, .cons h t, k => .cons h (Dxs.app t k)
theorem Dxs.take {H : Hp} : ∀ {vs : List V} {ds : List PyData} (n : Nat), Dxs H vs ds → Dxs H (vs.take n) (ds.take n)
  | _, _, 0, _ => .nil
  | _, _, _ + 1, .nil => .nil
  | _, _, n + 1, .cons h t => .cons h (Dxs.take n t)
theorem Dxs.drop {H : Hp} : ∀ {vs : List V} {ds : List PyData} (n : Nat), Dxs H vs ds → Dxs H (vs.drop n) (ds.drop n)
  | _, _, 0, h => h
  | _, _, _ + 1, .nil => .nil
  | _, _, n + 1, .cons _ t => Dxs.drop n t
theorem Dxs.rev {H : Hp} : ∀ {vs : List V} {ds : List PyData}, Dxs H vs ds → Dxs H vs.reverse ds.reverse
  | _, _, .nil => .nil
  | _, _, .cons h t => by
    rw [List.reverse_cons, List.reverse_cons]
    exact (Dxs.rev t).app (.cons h .nil)

section
variable {X : Cx} {pins : List (Addr × Obj)} {σ : L2.St} {H : Hp} {s : Shared}
mutual
theorem Dx.reads (I : Inv X pins σ H s) : ∀ (d : PyData) (v : V) (u : Value), Dx H v d → RelV v u → ∃ as, Reads s.heap u d as ∧ sysModules ∉ as
  | .none, _, _, h, r => by
    cases h
    cases r
    exact ⟨_, Reads.none, by simp⟩
  | .bool b, _, _, h, r => by
    cases h
    cases r
    exact ⟨_, Reads.bool b, by simp⟩
  | .int i, _, _, h, r => by
    cases h
    obtain ⟨t, rfl⟩ := r
    exact ⟨_, Reads.int i t, by simp⟩
  | .str x, _, _, h, r => by
    cases h
    obtain ⟨t, rfl⟩ := r
    exact ⟨_, Reads.str x t, by simp⟩
  | .list ds, _, _, h, r => by
    cases h with
    | @lst a xs _ e ne h =>
      cases r
      have hs : SqL X.K H a xs := .inl (.inl e)
      obtain ⟨its, rv, ⟨o, n, ho, hc, _, hd⟩, _⟩ := I.list hs
      obtain ⟨as, hr, hn⟩ := Dxs.reads I ds _ its h rv
      refine ⟨_, Reads.list ho hc hd hr, fun z => ?_⟩
      rcases List.mem_cons.mp z with z | z
      · exact ne z.symm
      · exact hn z
  | .tuple ds, _, _, h, r => by
    cases h with
    | @tup a xs _ e h =>
      cases r
      have hs : SqT X.K H a xs := .inl (.inl e)
      obtain ⟨its, rv, ⟨o, ho, hc, n, hd⟩, _⟩ := I.tuple hs
      obtain ⟨as, hr, hn⟩ := Dxs.reads I ds _ its h rv
      exact ⟨_, Reads.tuple ho hc hd hr, hn⟩
  | .dict ks, _, _, h, r => by
    cases h with
    | @dic a e =>
      cases r
      obtain ⟨z, y, vs, r, o, es, ep, e1, ex, ed, hm⟩ := (show ObjOk X.prog X.w H s.heap a (.dK []) from I.hok a _ e)
      cases r
      have hes : es = #[] := by
        obtain ⟨es⟩ := es
        have hl := hm.2.1.length
        cases es with
        | nil => rfl
        | cons x l => simp at hl
      subst hes
      refine ⟨_, Reads.dict (kvs := []) e1 ex.1 ed .nil .nil, fun z => ?_⟩
      have z : sysModules = a := by simpa using z
      rw [z] at y
      simp at y
theorem Dxs.reads (I : Inv X pins σ H s) : ∀ (ds : List PyData) (vs : List V) (us : List Value), Dxs H vs ds → Vals vs us → ∃ as, ReadsAll s.heap us ds as ∧ sysModules ∉ as
  | [], _, _, h, r => by
    cases h
    cases r
    exact ⟨_, ReadsAll.nil, by simp⟩
  | d :: ds, _, _, h, r => by
    cases h with
    | cons h1 h2 =>
      cases r with
      | cons r1 r2 =>
        obtain ⟨as, q1, n1⟩ := Dx.reads I d _ _ h1 r1
        obtain ⟨bs, q2, n2⟩ := Dxs.reads I ds _ _ h2 r2
        exact ⟨_, ReadsAll.cons q1 q2, by simp [n1, n2]⟩
end
/-- a new address is none of the first ones -/
theorem new_big (I : Inv X pins σ H s) {p : Addr} (h : s.heap.objs.size ≤ p) : p ≠ sysModules := by
  intro z
  have h1 : mainGlobals < X.base.objs.size := I.ok.mod.glob.lt
  have h2 := I.ok.bsz
  have h3 := I.sz
  have h4 : sysModules < mainGlobals := by decide
  rw [z] at h
  exact absurd (Nat.lt_of_lt_of_le h4 (Nat.le_trans (Nat.le_of_lt h1) (Nat.le_trans h2 (Nat.le_trans h3 h)))) (Nat.lt_irrefl _)
end

section
variable {X : Cx}
/-- a list that is written, its address none of the first -/
def tLstS (t : TA) : TE := fun σ H Q => t σ H fun xs H1 => xs.length ≤ sizeLine ∧ ∀ p, H1 p = none → p ≠ sysModules → Q (.ref p) (upd H1 p (.lst xs))
theorem pe_lstS {es : List Expr} {t : TA} {pos : Pos} (ha : PA X es t) : PE X (.List es pos) (tLstS t) := by
  constructor
  intro pins s σ H Q I hq
  refine wpAny_List_spliced (thn (ha.run pos pins s σ H _ I hq) fun us s1 hh => ?_)
  obtain ⟨xs, H1, I1, r, z, q⟩ := hh
  have nf : H1 s1.heap.objs.size = none := I1.hok.fresh (Nat.le_refl _)
  refine ⟨by rw [← r.length]; exact z, .ref s1.heap.objs.size, upd H1 s1.heap.objs.size (.lst xs), ?_, rfl, q _ nf (new_big I1 (Nat.le_refl _))⟩
  exact I1.laid (t' := s1.toks) (fun b u e => Heap.get?_push_of_some _ e) (Nat.le_refl _) ⟨z, us, 0, r, Heap.get?_push_size _ rfl⟩
/-- list(t), t a tuple or a list of data -/
theorem call_listS : CallR X (.type "list") (fun xs H Q => ∃ p ys, xs = [.ref p] ∧ (SqL X.K H p ys ∨ SqT X.K H p ys) ∧ ∀ l, H l = none → l ≠ sysModules → Q (.ref l) (upd H l (.lst ys))) := by
  intro pins s σ H xs us Q I r h
  obtain ⟨p, ys, e, hq, q⟩ := h
  subst e
  obtain ⟨u, rfl, rx⟩ := vals1 r
  cases rx
  have nf : H s.heap.objs.size = none := I.hok.fresh (Nat.le_refl _)
  have fin : ∀ (its : List Value), Vals ys its → ys.length ≤ sizeLine → ∀ (g : Heap) (c : Nat), (∀ b o', s.heap.get? b = some o' → g.get? b = some o') →
      g.get? s.heap.objs.size = some { cls := .type "list", dict := none, data := .seq its.toArray c, slots := #[] } → EP X pins σ Q (.ref s.heap.objs.size) { s with heap := g } := by
    intro its rv hz g c kp e
    refine ⟨.ref s.heap.objs.size, _, I.laid (t' := s.toks) kp (Nat.le_refl _) (o := .lst ys) ⟨hz, its, c, rv, e⟩, rfl, q _ nf (new_big I (Nat.le_refl _))⟩
  rcases hq with hq | hq
  · obtain ⟨its, rv, pl, hz⟩ := I.list hq
    have hlen := rv.length
    obtain ⟨o, ho, hc, n, hd⟩ := pl.isList
    exact call_list_seq p (.inl rfl) ho hc hd (fun g c kp e => fin its rv hz g c kp e) (by simp only [List.size_toArray] <;> omega)
  · obtain ⟨its, rv, pl, hz⟩ := I.tuple hq
    have hlen := rv.length
    obtain ⟨o, ho, hc, n, hd⟩ := pl
    exact call_list_seq p (.inr rfl) ho hc hd (fun g c kp e => fin its rv hz g c kp e) (by simp only [List.size_toArray] <;> omega)
/-- repr(x), x data -/
def rReprD : List V → Hp → VK → Prop := fun xs H Q => ∃ x d, xs = [x] ∧ Dx H x d ∧ d.showable = true ∧ d.depth ≤ 100 ∧ d.shown.length ≤ sizeLine ∧ Q (.str d.shown) H
theorem call_reprD {k : Nat} (hr : Room k X.A) (hg : X.A.guards = some []) : CallR X (.builtin "repr") rReprD := by
  intro pins s σ H xs us Q I r h
  obtain ⟨x, d, e, hd, hs, hdp, hz, q⟩ := h
  subst e
  obtain ⟨u, rfl, rx⟩ := vals1 r
  obtain ⟨as, hrd, hn⟩ := Dx.reads I d x u hd rx
  have hu := hr.un
  have fin : ∀ h' u' tk, (∀ b o, s.heap.get? b = some o → h'.get? b = some o) → EP X pins σ Q (.str d.shown u') { s with heap := h', toks := tk } := fun h' u' tk hk =>
    ⟨.str d.shown, H, I.kept (t' := tk) hk, ⟨_, rfl⟩, q⟩
  cases hd with
  | non =>
    cases (show u = Value.none from rx)
    simp only [PyData.shown] at fin
    exact PySem.P.repr_of_none (fin _ _ _ fun _ _ e => e)
  | bl b =>
    cases (show u = Value.bool b from rx)
    simp only [PyData.shown] at fin
    exact PySem.P.repr_of_bool (fin _ _ _ fun _ _ e => e)
  | int i =>
    obtain ⟨t, z⟩ := (show ∃ t, u = Value.int i t from rx)
    cases z
    simp only [PyData.shown] at fin
    exact PySem.P.repr_of_int (by simpa [PyData.showable] using hs) (fin _ _ _ fun _ _ e => e)
  | str y =>
    obtain ⟨t, z⟩ := (show ∃ t, u = Value.str y t from rx)
    cases z
    simp only [PyData.shown] at fin hz
    exact PySem.P.repr_of_str (fin _ _ _ fun _ _ e => e) hz
  | lst e n h =>
    cases (show u = Value.ref _ from rx)
    exact repr_of_reads' hrd hs (fun _ => hn) hg (by omega) (fun _ _ e => e) fin hz
  | tup e h =>
    cases (show u = Value.ref _ from rx)
    exact repr_of_reads' hrd hs (fun _ => hn) hg (by omega) (fun _ _ e => e) fin hz
  | dic e =>
    cases (show u = Value.ref _ from rx)
    exact repr_of_reads' hrd hs (fun _ => hn) hg (by omega) (fun _ _ e => e) fin hz
end
end KX

set_option maxRecDepth 100000
set_option maxHeartbeats 4000000
namespace KX
open PySem PySem.Spec PyProof.Rows L2 HT
section
variable {prog : Program} {w : World} {A : Around} {E : Value → Shared → Prop} {s : Shared}
theorem rev_adjust (n : Nat) : Builtin.Slice.sliceAdjust none none (-1) (n : Int) = ((n : Int) - 1, -1) := by
  unfold Builtin.Slice.sliceAdjust
  simp
theorem rev_places (n : Nat) : Builtin.Slice.slicePlaces ((n : Int) - 1) (-1) (-1) = n := by
  unfold Builtin.Slice.slicePlaces
  rw [if_neg (by decide)]
  by_cases h : (n : Int) - 1 > -1
  · rw [if_pos h]
    have : ((n : Int) - 1 - -1 - 1) / (- -1) + 1 = (n : Int) := by
      rw [show (- -1 : Int) = 1 by decide, Int.ediv_one]
      omega
    rw [this, Int.toNat_natCast]
  · rw [if_neg h]
    have : n = 0 := by omega
    subst this
    rfl
theorem rev_pick (xs : Array Value) : ((List.range xs.size).filterMap fun (k : Nat) => xs[(((xs.size : Nat) : Int) - 1 + (k : Int) * (-1)).toNat]?).toArray = xs.toList.reverse.toArray := by
  have e : (fun (k : Nat) => xs[(((xs.size : Nat) : Int) - 1 + (k : Int) * (-1)).toNat]?) = fun (k : Nat) => xs[xs.size - 1 - k]? := by
    funext k
    have : (((xs.size : Nat) : Int) - 1 + (k : Int) * (-1)).toNat = xs.size - 1 - k := by omega
    rw [this]
  rw [e]
  have e2 : (fun (k : Nat) => xs[xs.size - 1 - k]?) = (fun i => xs[i]?) ∘ fun k => xs.size - 1 - k := rfl
  rw [e2, ← List.filterMap_map, PySem.W.krv_range, List.filterMap_reverse, PySem.W.krv_all]
theorem applied_rev {sl : Addr} {vs : Value} {n : Nat} {Q : Int × Int × Nat → Shared → Prop} (hs : s.heap.IsSliceOf sl .none .none vs) (ps : IsPart vs (some (-1)))
    (h : Q ((n : Int) - 1, -1, n) s) : wpAny (model prog w) A (Builtin.Slice.sliceApplied (.ref sl) (pure (n : Int))) Q E s := by
  obtain ⟨os, hos, hcs, hds⟩ := id hs
  unfold Builtin.Slice.sliceApplied Builtin.Slice.sliceFields
  refine wpAny_bind (wpAny_bind (wpAny_field hos hds (x := .none) rfl (wpAny_bind (wpAny_field hos hds (x := .none) rfl (wpAny_bind (wpAny_field hos hds (x := vs) rfl (wpAny_pure ?_)))))))
  refine wpAny_bind (slicePart_ ps ?_)
  show wpAny _ _ (if ((-1 : Int) == 0) = true then _ else _) _ _ s
  rw [if_neg (by decide)]
  refine wpAny_bind (slicePart_none (wpAny_bind (slicePart_none (wpAny_bind (wpAny_pure ?_)))))
  show wpAny _ _ (match Builtin.Slice.sliceAdjust none none (-1) (n : Int) with | (lo, hi) => pure (lo, (-1 : Int), Builtin.Slice.slicePlaces lo hi (-1))) _ _ s
  rw [rev_adjust n]
  show wpAny _ _ (pure ((n : Int) - 1, (-1 : Int), Builtin.Slice.slicePlaces ((n : Int) - 1) (-1) (-1))) _ _ s
  rw [rev_places]
  exact wpAny_pure h
theorem getItem_tuple_rev {t sl : Addr} {items : Array Value} {vs : Value} {Q : Value → Shared → Prop} (ht : IsTup s.heap t items) (hs : s.heap.IsSliceOf sl .none .none vs) (ps : IsPart vs (some (-1)))
    (h : Q (.ref s.heap.objs.size) { s with heap := s.heap.push { cls := .type "tuple", data := .seq items.toList.reverse.toArray } })
    (hsz : items.size ≤ sizeLine) : wpAny (model prog w) A (getItem (.ref t) (.ref sl)) Q E s := by
  have htk : sizeOk (.seq items.toList.reverse.toArray) := by
    show items.toList.reverse.toArray.size ≤ sizeLine
    rw [List.size_toArray, List.length_reverse, Array.length_toList]
    exact hsz
  obtain ⟨os, hos, hcs, hds⟩ := id hs
  have hTs : s.TypeIs (.ref sl) "slice" := ⟨os, hos, hcs⟩
  unfold getItem
  try with_reducible refine wpAny_holding ?_
  first | refine wpAny_bind (wpAny_pure ?_) | skip
  refine wpAny_bind (wpAny_sequenceKey ht.typeIs (by decide) ?_)
  refine wpAny_bind (wpAny_callSpecial?_slot (name := Str.ofString "__getitem__") ht.typeIs PyProof.Rows.slot_tuple_getitem
    (wpAny_call_entry PyProof.Rows.slot_tuple_getitem ht.typeIs entry_tuple_getitem ?_ (args_tuple_getitem _ _)))
  show wpAny _ _ (Builtin.Tuple.tupleItemsOf (.ref t) >>= _) _ _ s
  refine wpAny_bind (tupleItemsOf_ ht ?_)
  refine wpAny_bind (wpAny_typeOf hTs ?_)
  rw [if_pos (by decide)]
  refine wpAny_bind (applied_rev hs ps ?_)
  have hno : ¬ ((((items.size : Nat) : Int) - 1 == 0 && (-1 : Int) == 1 && items.size == items.size) = true) := by
    intro q
    rw [Bool.and_eq_true, Bool.and_eq_true] at q
    exact absurd q.1.2 (by decide)
  show wpAny _ _ (if (((items.size : Nat) : Int) - 1 == 0 && (-1 : Int) == 1 && items.size == items.size) = true then _ else _) _ _ s
  rw [if_neg hno, rev_pick]
  first
    | exact wpAny_bind (m := Builtin.Tuple.tupleExact _) (wpAny_newObj_type (wpAny_pure ⟨_, rfl, wpAny_pure h⟩) htk)
    | exact wpAny_bind (m := Builtin.Tuple.tupleExact _) (wpAny_newObj_type (wpAny_bind (wpAny_pure (wpAny_pure ⟨_, rfl, wpAny_pure h⟩))) htk)
    | exact wpAny_bind (wpAny_bind (m := Builtin.Tuple.tupleExact _) (wpAny_newObj_type (wpAny_pure (wpAny_pure ⟨_, rfl, wpAny_pure h⟩)) htk))
    | exact wpAny_bind (wpAny_bind (m := Builtin.Tuple.tupleExact _) (wpAny_newObj_type (wpAny_pure ⟨_, rfl, wpAny_pure h⟩) htk))
end
section
variable {X : Cx}
/-- t[::-1], t a tuple: a new tuple -/
def tRevT (K : PySem.W.Frag) (te : TE) : TE := fun σ H Q => te σ H fun x H1 => ∃ a xs, x = .ref a ∧ SqT K H1 a xs ∧ ∀ p, H1 p = none → Q (.ref p) (upd H1 p (.tup xs.reverse))
theorem pe_revT {e : Expr} {te : TE} {k : Nat} {p1 p2 p3 pos : Pos} (he : PE X e te) : PE X (.Subscript e (.Slice none none (some (.UnaryOp .USub (.Constant (.int 1) k p1) p2)) p3) pos) (tRevT X.K te) := by
  constructor
  intro pins s σ H Q I h
  refine Subscript_ (thn (he.run pins s σ H _ I h) fun v s1 hh => ?_)
  obtain ⟨x, H1, I1, r1, a, xs, ex, hx, q⟩ := hh
  subst ex
  cases r1
  have hst : PO X (some (.UnaryOp .USub (.Constant (.int 1) k p1) p2)) (tPart (tUn (rU fun i => .int (-i)) (tC (.int 1)))) := po_some (pe_un un_neg pe_int)
  refine wpAny_Slice (thn (po_none.run pins s1 σ H1 (fun o H2 => o = none ∧ H2 = H1) I1 ⟨rfl, rfl⟩) fun vl s2 hh2 => ?_)
  obtain ⟨l, H2, I2, pl, el, e2⟩ := hh2
  subst el e2
  refine thn (po_none.run pins s2 σ H2 (fun o H3 => o = none ∧ H3 = H2) I2 ⟨rfl, rfl⟩) fun vu s3 hh3 => ?_
  obtain ⟨u, H3, I3, pu, eu, e3⟩ := hh3
  subst eu e3
  refine thn (hst.run pins s3 σ H3 (fun o H4 => o = some (-1) ∧ H4 = H3) I3 ⟨1, rfl, -1, rfl, rfl, rfl⟩) fun vs s4 hh4 => ?_
  obtain ⟨o, H4, I4, ps, eo, e4⟩ := hh4
  subst eo e4
  cases pl
  cases pu
  have I5 : Inv X pins σ H4 { s4 with heap := s4.heap.push { cls := .type "slice", data := .fields #[.none, .none, vs] } } := I4.kept (t' := s4.toks) fun b ob q => Heap.get?_push_of_some _ q
  obtain ⟨its, r, ht, hz⟩ := I5.tuple hx
  have hlen := r.length
  show wpAny (model X.prog X.w) X.A (subscriptTail e (.Slice none none (some (.UnaryOp .USub (.Constant (.int 1) k p1) p2)) p3) (.ref a) (.ref s4.heap.objs.size)) (EP X pins σ Q) X.xe { s4 with heap := s4.heap.push { cls := .type "slice", data := .fields #[.none, .none, vs] } }
  refine tail_any (ops := [.ref a, .ref s4.heap.objs.size]) ht.typeIs (PyProof.Rows.slot_tuple_getitem.lookup) ?_ (by with_unfolding_all rfl)
  refine getItem_tuple_rev ht (Heap.IsSliceOf.new _ .none .none vs) ps ?_ (by rw [List.size_toArray]; omega)
  refine ⟨.ref _, _, I5.laid (t' := s4.toks) (o := .tup xs.reverse) (fun b ob q => Heap.get?_push_of_some _ q) (Nat.le_refl _) ?_, rfl, q _ (I5.hok.fresh (Nat.le_refl _))⟩
  exact ⟨by rw [List.length_reverse]; exact hz, _, r.reverse, IsTup.new _ _⟩
/-- a power, great -/
theorem op_powW : OpR X (binaryOp .Pow) (rI (fun i j => 0 ≤ j ∧ (Builtin.Int.intBits i : Int) * j ≤ 2 ^ 27) fun i j => .int (i ^ j.toNat)) := opI fun _ _ _ _ _ _ _ hc q => pow_int hc.1 hc.2 q
end
end KX

set_option maxRecDepth 100000
set_option maxHeartbeats 4000000
namespace KX
open PySem PySem.Spec PyProof.Rows L2
/-! ### a def that shows data (repr): its promise where no repr runs around it -/
structure FnG (P : Program) (w : World) (K : PySem.W.Frag) (mg : Str → Option Value) (base : Heap) (CX : CXT) (k : Nat) (f : Addr) (fd : FuncData) (ps : List Str) (sp : Sp) : Prop where
  len : ∀ vs H Q E, sp vs H Q E → vs.length = ps.length
  run : ∀ (B : Around) (outs : List Env) (t : Shared) (H : Hp) (given : Args) (us : List Value) (vs : List V) (Q : VK) (E : XK), B.guards = some [] → Room k B → Env0 P w K mg base B outs t H →
    BindsTo t fd given (ps.zip us) → Vals vs us → sp vs H Q E → codeAny (model P w) B (.call (.ref f) given) (CR CX outs P w H t Q E) t
theorem FnG.mono {P : Program} {w : World} {K : PySem.W.Frag} {mg : Str → Option Value} {base : Heap} {CX : CXT} {j k : Nat} {f : Addr} {fd : FuncData} {ps : List Str} {sp : Sp} (F : FnG P w K mg base CX j f fd ps sp) (h : j ≤ k) :
    FnG P w K mg base CX k f fd ps sp := ⟨F.len, fun B outs t H given us vs Q E hg hr => F.run B outs t H given us vs Q E hg (hr.mono h)⟩
section
variable {X : Cx} {CX : CXT} {k : Nat} {f : Addr} {fd : FuncData} {ps : List Str} {sp : Sp} {dvs : List V} {ds : List Value} {E : XK} {x : Str} {p pos : Pos} {e : Expr} {es : List Expr} {t : TA}
theorem run_fnG {pins : List (Addr × Obj)} {σ : L2.St} {H : Hp} {s : Shared} {Q : VK} {us : List Value} {vs : List V} (F : FnG X.prog X.w X.K X.mg X.base CX k f fd ps sp) (hg : X.A.guards = some []) (hr : Room k X.A) (hb : Binds X.K fd ps ds)
    (hd : Vals dvs ds) (hx : Passes CX X E) (I : Inv X pins σ H s) (r : Vals vs us) (h : sp (vs ++ dvs) H Q E) : wpAny (model X.prog X.w) X.A (call (.ref f) us) (EP X pins σ Q) X.xe s := by
  have r2 : Vals (vs ++ dvs) (us ++ ds) := r.append hd
  have hl : (us ++ ds).length = ps.length := by
    rw [← r2.length]
    exact F.len _ _ _ _ h
  refine wpAny_call (codeAny_mono (F.run X.A X.stack s H ⟨us, []⟩ (us ++ ds) (vs ++ dvs) Q E hg hr I.env0 (hb s us I.kIn hl) r2 h) fun r s' hq => ?_)
  match r, hq with
  | .error e, hq => exact hx pins σ H s e s' I hq
  | .ok (.ret u), hq => exact I.after hq
theorem pe_callG (F : FnG X.prog X.w X.K X.mg X.base CX k f fd ps sp) (hgd : X.A.guards = some []) (hr : Room k X.A) (hg : Gl X x) (hm : X.mg x = some (.ref f)) (hk : PySem.W.keepIn X.K (.ref f) = true) (hb : Binds X.K fd ps ds)
    (hd : Vals dvs ds) (hx : Passes CX X E) (ha : PA X (e :: es) t) (hdb : (x == ("__debug__" : Str)) = false := by decide) (he : starEach (e :: es) X.env = (false, eval e X.env) :: starEach es X.env := by rfl)
    (hpl : (backTo pos (starEach es X.env)).any (·.1) = false := by rfl) : PE X (.Call (.Name x p) (e :: es) [] pos) (tCall sp dvs E t) := by
  constructor
  intro pins s σ H Q I h
  refine wpAny_Call_Name_kw (ld_glob I hg hm ?_ hdb)
  refine PySem.W.callWith_K (h₀ := X.base) I.ok.mod.kin hk (thn (ha.run pos pins s σ H _ I h) fun us s1 hh => ?_) he hpl
  obtain ⟨vs, H1, I1, r, q⟩ := hh
  exact ⟨I1.kIn, run_fnG F hgd hr hb hd hx I1 r q⟩
end
/-- a def of the text, where no repr runs around it -/
theorem fn_ofG {CX : CXT} {P : Program} {w : World} {K : PySem.W.Frag} {mg : Str → Option Value} {base : Heap} {k : Nat} {f : Addr} {name qual : Str} {params : Arguments} {body : List Stmt} {scope : Scope} {dV kV doc pm cdv ct oc : Value}
    {an od : Option Addr} {osl : Array (Option Value)} {N ps : List Str} {sp : Sp} (lk : K.lookup f = some ⟨oc, od, .func (PySem.W.fnOf name qual params body scope dV kV doc pm an cdv ct), osl⟩) (hcd : PySem.W.codeIn K cdv qual = true)
    (S : FnScope N ps scope) (len : ∀ vs H Q E, sp vs H Q E → vs.length = ps.length)
    (hbody : ∀ (B : Around) (outs : List Env) (s : Shared) (H : Hp) (vs : List V) (Q : VK) (E : XK), (B.deeper (envOfC qual scope s.heap.objs.size f cdv)).guards = some [] → Room k (B.deeper (envOfC qual scope s.heap.objs.size f cdv)) → sp vs H Q E →
      ∃ t, PSs (cxOf CX P w K mg base N qual scope f cdv B outs s H E) body t ∧ t { nx := fun _ H' => Q .non H', rt := Q } (start N vs) H) :
    FnG P w K mg base CX (k + 1) f (PySem.W.fnOf name qual params body scope dV kV doc pm an cdv ct) ps sp := by
  refine ⟨len, fun B outs s H given us vs Q E hg hr e0 hb r hsp => ?_⟩
  have hl := len _ _ _ _ hsp
  have KX : K.In s.heap := e0.mod.kin.keeps fun b o e => (e0.bs b o e).1
  have lim : s.heap.NoLimit := e0.mod.nolimit.keeps fun b o e => (e0.bs b o e).1
  have hkind : ∀ y ∈ ps.zip us, scope.names.lookup y.1 = some .local ∨ (scope.names.lookup y.1 = some .cell ∧ ((cellsFrom (s.heap.objs.size + 1) scope.names []).lookup y.1).isSome = true) := by
    rintro ⟨n, v⟩ hy
    rcases S.par n (List.of_mem_zip hy).1 with q | q
    · exact .inl q
    · exact .inr ⟨q, PySem.W.cellsFrom_some _ _ _ (.inl q)⟩
  refine codeAny_call_function hr.depth (KX _ _ lk) rfl S.co S.gen rfl (PySem.W.codeRec_of KX hcd) (hb _ _ _ _ ?_)
  refine wpAny_newFunctionEnv_cells S.kind hkind fun env he s1 x => ?_
  subst he
  refine ⟨lim.keeps x.toInCall.keep, codeAny_func ?_⟩
  obtain ⟨t, ht, hq⟩ := hbody B outs s H vs Q E hg (hr.deeper _) hsp
  have I : Inv (cxOf CX P w K mg base N qual scope f cdv B outs s H E) [] (start N vs) H s1 := inv_start S hr.hd e0 hl r x
  refine wpAny_mono (ht.run [] s1 (start N vs) H _ I hq) (fun fl s' hs => ?_) fun e s' hs => hs
  match fl, hs with
  | .ret u, hs =>
    obtain ⟨v, σ', H', J, rv, q⟩ := hs
    exact ⟨v, H', J.os, J.bare, J.base, J.hok, rv, q⟩
  | .next, hs =>
    obtain ⟨σ', H', J, q⟩ := hs
    exact ⟨V.non, H', J.os, J.bare, J.base, J.hok, rfl, q⟩
  | .brk, hs =>
    obtain ⟨_, _, _, q⟩ := hs
    exact False.elim q
  | .cont, hs =>
    obtain ⟨_, _, _, q⟩ := hs
    exact False.elim q
theorem okG {P : Program} {w : World} {K : PySem.W.Frag} {mg : Str → Option Value} {base : Heap} {x qual : Str} {st : Stmt} {f : Addr} {fd : FuncData} {N ps : List Str} {k : Nat} {sp : Sp} (F : Fun K x qual st f fd) (S : FnScope N ps (defScope st))
    (len : ∀ vs H Q E, sp vs H Q E → vs.length = ps.length)
    (hbody : ∀ (cdv : Value) (B : Around) (outs : List Env) (s : Shared) (H : Hp) (vs : List V) (Q : VK) (E : XK), (B.deeper (envOfC qual (defScope st) s.heap.objs.size f cdv)).guards = some [] → Room k (B.deeper (envOfC qual (defScope st) s.heap.objs.size f cdv)) →
      sp vs H Q E → ∃ t, PSs (cxOf CX0 P w K mg base N qual (defScope st) f cdv B outs s H E).nox (defBody st) t ∧ t { nx := fun _ H' => Q .non H', rt := Q } (start N vs) H) : FnG P w K mg base CX0 (k + 1) f fd ps sp := by
  obtain ⟨oc, od, kV, doc, pm, an, cdv, ct, osl, rfl, lk, hcd⟩ := F.ex
  refine fn_ofG lk hcd S len fun B outs s H vs Q E hg hr hsp => ?_
  obtain ⟨t, h, q⟩ := hbody cdv B outs s H vs Q E hg hr hsp
  exact ⟨t, h.nox, q⟩

/-! ### the law's call -/
theorem lawG {P : Program} {w : World} {K : PySem.W.Frag} {mg mb : Str → Option Value} {k : Nat} {fa a : Addr} {fd : FuncData} {x : Str} {sp : Sp} {s1 : Shared} {vs : List Value} {ns : List Int}
    (KX : K.In s1.heap) (hns : s1.heap.Ns mainGlobals mg) (hb : s1.heap.Ns builtinsNs mb) (hbb : ∀ x : Str, x ≠ "__name__" → mb x = bootBuiltins x) (hlim : s1.heap.NoLimit) (hg : s1.gens = #[])
    (ha : s1.heap.get? a = some { cls := .type "list", data := .seq vs.toArray }) (hi : IntsAre vs ns) (hl : ns.length ≤ sizeLine) (hr : Room k callerA)
    (F : ∀ base : Heap, K.In base → base.Ns mainGlobals mg → FnG P w K mg base CX0 k fa fd [x] sp) (hbind : ∀ (s : Shared) (u : Value), BindsTo s fd ⟨[u], []⟩ [(x, u)])
    (hsp : ∀ H : Hp, SqL K H a (ns.map V.int) → (∀ b o, H b = some o → ∃ ob u, o = .frz ob u) → sp [.ref a] H (fun v _ => v = .bl true) fun _ _ _ => False) :
    codeAny (model P w) callerA (.call (.ref fa) ⟨[.ref a], []⟩) (fun r s' => r = .ok (.ret (.bool true)) ∧ OldK s1.heap s'.heap ∧ s'.os = s1.os ∧ AllBare s'.gens) s1 := by
  have rv := vals_ints hi
  have lenV := hi.length
  -- the script at a, known to the object, where it is no object of the module; nothing else
  have main : ∀ H : Hp, (∀ b o, H b = some o → b = a ∧ K.lookup a = none ∧ o = .frz { cls := .type "list", data := .seq vs.toArray } (.lst (ns.map V.int))) → SqL K H a (ns.map V.int) →
      codeAny (model P w) callerA (.call (.ref fa) ⟨[.ref a], []⟩) (fun r s' => r = .ok (.ret (.bool true)) ∧ OldK s1.heap s'.heap ∧ s'.os = s1.os ∧ AllBare s'.gens) s1 := by
    intro H hO hS
    have hok : HOk P w H s1.heap := fun b o e => by
      obtain ⟨e1, _, e2⟩ := hO b o e
      subst e1 e2
      exact ⟨ha, by rw [List.length_map]; exact hl, vs, _, rv, ha⟩
    have keep : ∀ {b : Addr} {o : Obj}, s1.heap.get? b = some o → (b = a → False) → (hidT s1.heap H).get? b = some o := fun {b o} e n => hidT_get e (by
      cases q : H b with
      | none => rfl
      | some u => exact (n (hO b u q).1).elim)
    have nsK : ∀ {b : Addr} {m : Str → Option Value}, s1.heap.Ns b m → (hidT s1.heap H).Ns b m := fun {b m} hn => by
      obtain ⟨o, es, ep, e, d, r⟩ := hn
      refine ⟨o, es, ep, keep e fun z => ?_, d, r⟩
      subst z
      rw [ha] at e
      cases e
      cases d
    have hKb : K.In (hidT s1.heap H) := fun b o e => hidT_get (KX b o e) (by
      cases q : H b with
      | none => rfl
      | some u =>
        obtain ⟨e1, e2, _⟩ := hO b u q
        rw [e1, e2] at e
        cases e)
    have hM : Mod K mg (hidT s1.heap H) := ⟨hKb, nsK hns, ⟨mb, nsK hb, hbb⟩, let ⟨mc, h1, h2⟩ := hlim; ⟨mc, nsK h1, h2⟩⟩
    have e0 : Env0 P w K mg (hidT s1.heap H) callerA [] s1 H := ⟨rfl, hM, fun b o e => of_hidT e, Nat.le_of_eq (hidT_size _ _), trivial, fun b hb => absurd (show b ∈ ([] : List Addr) from hb) (by simp), hok, .of_eq hg⟩
    have fr : ∀ b o, H b = some o → ∃ ob u, o = .frz ob u := fun b o e => ⟨_, _, (hO b o e).2.2⟩
    refine codeAny_mono ((F _ hKb (nsK hns)).run callerA [] s1 H ⟨[.ref a], []⟩ [.ref a] [.ref a] _ _ rfl hr e0 (hbind s1 (.ref a)) (.cons rfl .nil) (hsp H hS fr)) fun r s' h => ?_
    match r, h with
    | .error e, h => exact h.elim
    | .ok (.ret u), h =>
      obtain ⟨v, H', os, bare, un, hok', r', q⟩ := h
      have q' : v = .bl true := q
      subst q'
      obtain rfl : u = Value.bool true := r'
      refine ⟨rfl, OldK.of_keep fun b o e => ?_, os, bare⟩
      cases q : H b with
      | none => exact un.keep b o e q (fun z => absurd (show b ∈ ([] : List Addr) from z) (by simp)) (by simp)
      | some u =>
        obtain ⟨e1, _, e2⟩ := hO b u q
        rw [e2] at q
        obtain ⟨f1, _⟩ := hok b _ q
        obtain ⟨f2, _⟩ := hok' b _ (un.frzs b _ _ q)
        rw [e] at f1
        cases f1
        exact f2
  cases hk : K.lookup a with
  | some o =>
    have e := KX a o hk
    rw [ha] at e
    cases e
    exact main (fun _ => none) (fun b u z => by cases (show (none : Option HO) = some u from z)) (.inr ⟨_, vs.toArray, _, hk, rfl, rfl, rfl, by rw [List.size_toArray, lenV]; exact hl, by simpa using rv⟩)
  | none =>
    refine main (fun b => if b = a then some (.frz { cls := .type "list", data := .seq vs.toArray } (.lst (ns.map V.int))) else none) (fun b u z => ?_) (.inl (.inr ⟨_, if_pos rfl⟩))
    by_cases hb : b = a
    · have z' := (if_pos hb).symm.trans z
      cases z'
      exact ⟨hb, hk, rfl⟩
    · have z' := (if_neg hb).symm.trans z
      cases z'
theorem walkG {l : PySem.W.OpenLaw} {n k : Nat} {q : Program} {loose : List Str} {XP : (Str → Option Value) → Heap → Prop} {YP : World → Heap → Prop} {d : DefRec} {K : Params → PySem.W.Frag} {sp : PySem.W.Frag → Sp} {x : Str}
    (hn : l.most = some n) (hn2 : n ≤ sizeLine) (hdf : d.params.defaults = []) (hr : Room k callerA) (hY : ∀ (w : World) (h : Heap), YP w h → (K w.params).In h)
    (F : ∀ (w : World) (mg : Str → Option Value) (fa : Addr) (h : Heap), (K w.params).In h → h.Ns mainGlobals mg → mg d.name = some (.ref fa) →
      ∃ fd : FuncData, (∀ (s : Shared) (u : Value), BindsTo s fd ⟨[u], []⟩ [(x, u)]) ∧ ∀ base : Heap, (K w.params).In base → base.Ns mainGlobals mg → FnG l.prog w (K w.params) mg base CX0 k fa fd [x] (sp (K w.params)))
    (hsp : ∀ (K : PySem.W.Frag) (H : Hp) (a : Addr) (ns : List Int), ns.length ≤ n → SqL K H a (ns.map V.int) → (∀ b o, H b = some o → ∃ ob u, o = .frz ob u) → sp K [.ref a] H (fun v _ => v = .bl true) fun _ _ _ => False) :
    PySem.W.WalkO q loose XP YP l.row.toRowW d [] (fun f vs => PySem.call f vs) := by
  refine Att.attach_call hn hdf fun w s₀ s1 mg mb fa o pm cd doc a vs ns G Y ho hd hcd hmg hobj hints hlen hg => ?_
  have KX := hY w _ Y
  obtain ⟨fd, hb, hF⟩ := F w mg fa _ KX G.T.g hmg
  exact lawG KX G.T.g G.T.b G.T.builtins G.T.nolimit hg hobj hints (Nat.le_trans hlen hn2) hr hF hb fun H hS hO => hsp (K w.params) H a ns hlen hS hO
end KX

set_option maxRecDepth 100000
set_option maxHeartbeats 4000000
namespace KX
open PySem PySem.Spec PyProof.Rows L2
section
variable {X : Cx}
/-- == and != of data without dicts -/
def rEqP (K : PySem.W.Frag) (f : Bool → Bool) : R2 := fun x y H Q => ∃ d e, Dp K H x d ∧ Dp K H y e ∧ d.plain = true ∧ e.plain = true ∧ min d.depth e.depth ≤ 64 ∧ Q (.bl (f (PyData.eqv d e))) H
theorem op_eqP (hu : X.A.units + 64 < cLine) : OpR X (compareOp .Eq) (rEqP X.K id) := by
  intro pins s σ H x y v u Q I rx ry h
  obtain ⟨d, e, hd, he, pd, pe, hm, q⟩ := h
  obtain ⟨as, r1⟩ := Dp.reads I d x v hd rx
  obtain ⟨bs, r2⟩ := Dp.reads I e y u he ry
  exact SeqAt.eq_plain r1 r2 pd pe (by omega) ⟨.bl _, H, I, rfl, q⟩
theorem op_neP (hu : X.A.units + 64 < cLine) : OpR X (compareOp .NotEq) (rEqP X.K not) := by
  intro pins s σ H x y v u Q I rx ry h
  obtain ⟨d, e, hd, he, pd, pe, hm, q⟩ := h
  obtain ⟨as, r1⟩ := Dp.reads I d x v hd rx
  obtain ⟨bs, r2⟩ := Dp.reads I e y u he ry
  exact SeqAt.ne_plain r1 r2 pd pe (by omega) ⟨.bl _, H, I, rfl, q⟩
end
/-- a list of ones against the empty list -/
theorem dp_ints {K : PySem.W.Frag} {H : Hp} : ∀ (ns : List Int), DpAll K H (ns.map V.int) (ns.map PyData.int)
  | [] => .nil
  | n :: ns => .cons (.int n) (dp_ints ns)
theorem dp_strs {K : PySem.W.Frag} {H : Hp} : ∀ (ns : List Str), DpAll K H (ns.map V.str) (ns.map PyData.str)
  | [] => .nil
  | n :: ns => .cons (.str n) (dp_strs ns)
theorem pl_ints : ∀ ns : List Int, PyData.plainAll (ns.map PyData.int) = true
  | [] => rfl
  | n :: ns => by simp [PyData.plainAll, PyData.plain, pl_ints ns]
theorem pl_strs : ∀ ns : List Str, PyData.plainAll (ns.map PyData.str) = true
  | [] => rfl
  | n :: ns => by simp [PyData.plainAll, PyData.plain, pl_strs ns]
theorem eqv_nil (ds : List PyData) : PyData.eqv (.list ds) (.list []) = ds.isEmpty := by
  cases ds <;> simp [PyData.eqv, PyData.eqvAll]
theorem min_nil (d : PyData) : min d.depth (PyData.list []).depth ≤ 64 := by
  have : (PyData.list []).depth ≤ 64 := by decide
  omega
end KX

set_option maxRecDepth 100000
set_option maxHeartbeats 4000000
namespace KX
open PySem PySem.Spec PyProof.Rows L2
/-! ### how great data are -/
mutual
/-- ints within B, texts of plain signs, no dict but {} -/
def fine (B : Nat) : PyData → Bool
  | .none => true
  | .bool _ => true
  | .int i => decide (i.natAbs ≤ B)
  | .str x => x.cps.toList.all fun c => decide (c < 128)
  | .list xs => fineAll B xs
  | .tuple xs => fineAll B xs
  | .dict kvs => kvs.isEmpty
def fineAll (B : Nat) : List PyData → Bool
  | [] => true
  | x :: xs => fine B x && fineAll B xs
end
mutual
def wt : PyData → Nat
  | .str x => x.length + 1
  | .list xs => wtAll xs + 1
  | .tuple xs => wtAll xs + 1
  | _ => 1
def wtAll : List PyData → Nat
  | [] => 0
  | x :: xs => wt x + wtAll xs
end
theorem fineAll_app (B : Nat) : ∀ xs ys, fineAll B (xs ++ ys) = (fineAll B xs && fineAll B ys)
  | [], ys => by simp [fineAll]
  | x :: xs, ys => by simp [fineAll, fineAll_app B xs ys, Bool.and_assoc]
theorem wtAll_app : ∀ xs ys, wtAll (xs ++ ys) = wtAll xs + wtAll ys
  | [], ys => by simp [wtAll]
  | x :: xs, ys => by simp [wtAll, wtAll_app xs ys, Nat.add_assoc]
theorem fineAll_mem {B : Nat} : ∀ {xs : List PyData}, fineAll B xs = true ↔ ∀ x ∈ xs, fine B x = true
  | [] => by simp [fineAll]
  | x :: xs => by simp [fineAll, fineAll_mem (xs := xs)]
theorem wt_mem : ∀ {xs : List PyData} {x : PyData}, x ∈ xs → wt x ≤ wtAll xs
  | y :: xs, x, h => by
    rcases List.mem_cons.mp h with rfl | h
    · simp [wtAll]
    · have := wt_mem h
      simp [wtAll]
      omega
theorem wtAll_take (n : Nat) : ∀ xs, wtAll (xs.take n) + wtAll (xs.drop n) = wtAll xs := fun xs => by
  rw [← wtAll_app, List.take_append_drop]
theorem wtAll_rev : ∀ xs, wtAll xs.reverse = wtAll xs
  | [] => rfl
  | x :: xs => by
    rw [List.reverse_cons, wtAll_app, wtAll_rev xs]
    simp [wtAll]
    omega
theorem len_wt : ∀ xs : List PyData, xs.length ≤ wtAll xs
  | [] => Nat.zero_le _
  | x :: xs => by
    have := len_wt xs
    have h : 1 ≤ wt x := by cases x <;> simp [wt]
    simp [wtAll]
    omega
mutual
theorem fine_le {B C : Nat} (h : B ≤ C) : ∀ d : PyData, fine B d = true → fine C d = true
  | .none, _ => by simp [fine]
  | .bool _, _ => by simp [fine]
  | .int i, q => by simp [fine] at q ⊢; omega
  | .str x, q => by simpa [fine] using q
  | .list xs, q => by simp only [fine] at q ⊢; exact fineAll_le h xs q
  | .tuple xs, q => by simp only [fine] at q ⊢; exact fineAll_le h xs q
  | .dict kvs, q => by simpa [fine] using q
theorem fineAll_le {B C : Nat} (h : B ≤ C) : ∀ ds : List PyData, fineAll B ds = true → fineAll C ds = true
  | [], _ => by simp [fineAll]
  | x :: xs, q => by
    simp only [fineAll, Bool.and_eq_true] at q ⊢
    exact ⟨fine_le h x q.1, fineAll_le h xs q.2⟩
end
theorem piled_cons' (t : Str) (r : List Str) : piled (t :: r) = t.length + 2 + piled r := by
  rw [piled_cons]
theorem listText_le (ts : List Str) : (listText ts).length ≤ piled ts + 2 := by
  unfold listText
  rw [strLen_append]
  cases ts with
  | nil => show 1 + 1 ≤ _; simp [piled]
  | cons t r =>
    show (textFrom 1 ((("[" : Str) ++ ("" : Str)) ++ t) r).length + 1 ≤ _
    rw [textFrom_length_pos _ _ _ (by decide), strLen_append, strLen_append, piled_cons']
    show 1 + 0 + t.length + piled r + 1 ≤ _
    omega
theorem tupleText_le (ts : List Str) : (tupleText ts).length ≤ piled ts + 3 := by
  unfold tupleText
  rw [strLen_append, strLen_append]
  have h2 : ((if ts.length == 1 then ",)" else ")" : String) : Str).length ≤ 2 := by
    split <;> decide
  have h1 : (("(" : Str)).length = 1 := rfl
  by_cases h : ts = []
  · subst h
    have : (Str.join ", " ([] : List Str)).length = 0 := rfl
    omega
  · have := join_length_add ts h
    omega
mutual
theorem shown_le {B : Nat} (hB : B < 10 ^ 400) : ∀ d : PyData, fine B d = true → d.shown.length + 10 ≤ 1000 * wt d
  | .none, _ => by simp only [PyData.shown]; show 4 + 10 ≤ 1000 * 1; decide
  | .bool b, _ => by cases b <;> simp only [PyData.shown] <;> decide
  | .int i, q => by
    have q : i.natAbs ≤ B := by simpa [fine] using q
    have h : (toString i).length ≤ 400 + 1 := PySem.int_text_length_le10 (a := i) (k := 400) (by decide) (by omega)
    simp only [PyData.shown, wt]
    have e : (Str.ofString (toString i)).length = (toString i).length := PySem.ofString_length _
    show (Str.ofString (toString i)).length + 10 ≤ _
    omega
  | .str x, q => by
    have q : ∀ c ∈ x.cps.toList, c < 128 := by
      have q : (x.cps.toList.all fun c => decide (c < 128)) = true := q
      intro c hc
      exact of_decide_eq_true (List.all_eq_true.mp q c hc)
    have h := PySem.StrLaws.reprText_len x fun c hc => Nat.lt_trans (q c hc) (by decide)
    simp only [PyData.shown, wt]
    omega
  | .list xs, q => by
    have q : fineAll B xs = true := by simpa only [fine] using q
    have h1 := listText_le (PyData.shownAll xs)
    have h2 := shownAll_le hB xs q
    simp only [PyData.shown, wt]
    omega
  | .tuple xs, q => by
    have q : fineAll B xs = true := by simpa only [fine] using q
    have h1 := tupleText_le (PyData.shownAll xs)
    have h2 := shownAll_le hB xs q
    simp only [PyData.shown, wt]
    omega
  | .dict kvs, q => by
    have q : kvs = [] := by simpa [fine] using q
    subst q
    simp only [PyData.shown, PyData.shownKv]
    show (2 : Nat) + 10 ≤ 1000 * 1
    decide
theorem shownAll_le {B : Nat} (hB : B < 10 ^ 400) : ∀ ds : List PyData, fineAll B ds = true → piled (PyData.shownAll ds) ≤ 1000 * wtAll ds
  | [], _ => by simp [PyData.shownAll, piled]
  | x :: xs, q => by
    simp only [fineAll, Bool.and_eq_true] at q
    have h1 := shown_le hB x q.1
    have h2 := shownAll_le hB xs q.2
    simp only [PyData.shownAll, wtAll]
    rw [piled_cons']
    have h : 1 ≤ wt x := by cases x <;> simp [wt]
    omega
end
end KX
namespace KX
open PySem PySem.Spec PyProof.Rows L2
theorem log_of_fine {B : Nat} (hB : B < 10 ^ 400) {i : Int} (h : i.natAbs ≤ B) : i.natAbs.log2 < 1920 := by
  by_cases z : i.natAbs = 0
  · rw [z]; decide
  · refine (Nat.log2_lt z).mpr ?_
    have : (10 : Nat) ^ 400 < 2 ^ 1920 := by decide +kernel
    omega
mutual
theorem showable_fine {B : Nat} (hB : B < 10 ^ 400) : ∀ d : PyData, fine B d = true → d.showable = true
  | .none, _ => by simp only [PyData.showable]
  | .bool b, _ => by simp only [PyData.showable]
  | .int i, q => by
    have q : i.natAbs ≤ B := by simpa [fine] using q
    simp only [PyData.showable]
    exact decide_eq_true (log_of_fine hB q)
  | .str x, _ => by simp only [PyData.showable]
  | .list xs, q => by
    simp only [PyData.showable]
    exact showableAll_fine hB xs (by simpa only [fine] using q)
  | .tuple xs, q => by
    simp only [PyData.showable]
    exact showableAll_fine hB xs (by simpa only [fine] using q)
  | .dict kvs, q => by
    have q : kvs = [] := by simpa [fine] using q
    subst q
    simp only [PyData.showable, PyData.showableKv]
theorem showableAll_fine {B : Nat} (hB : B < 10 ^ 400) : ∀ ds : List PyData, fineAll B ds = true → PyData.showableAll ds = true
  | [], _ => by simp only [PyData.showableAll]
  | x :: xs, q => by
    simp only [fineAll, Bool.and_eq_true] at q
    simp only [PyData.showableAll, showable_fine hB x q.1, showableAll_fine hB xs q.2, Bool.and_self]
end
mutual
theorem depth_wt {B : Nat} : ∀ d : PyData, fine B d = true → d.depth ≤ wt d
  | .none, _ => by simp [PyData.depth]
  | .bool b, _ => by simp [PyData.depth]
  | .int i, _ => by simp [PyData.depth]
  | .str x, _ => by simp [PyData.depth]
  | .list xs, q => by
    have := depthAll_wt xs (B := B) (by simpa only [fine] using q)
    simp only [PyData.depth, wt]
    omega
  | .tuple xs, q => by
    have := depthAll_wt xs (B := B) (by simpa only [fine] using q)
    simp only [PyData.depth, wt]
    omega
  | .dict kvs, q => by
    have q : kvs = [] := by simpa [fine] using q
    subst q
    simp [PyData.depth, PyData.depthKv, wt]
theorem depthAll_wt {B : Nat} : ∀ ds : List PyData, fineAll B ds = true → PyData.depthAll ds ≤ wtAll ds
  | [], _ => by simp [PyData.depthAll]
  | x :: xs, q => by
    simp only [fineAll, Bool.and_eq_true] at q
    have h1 := depth_wt x q.1
    have h2 := depthAll_wt xs q.2
    simp only [PyData.depthAll, wtAll]
    omega
end
/-- data that can be shown -/
structure Good (B n : Nat) (d : PyData) : Prop where
  f : fine B d = true
  w : wt d ≤ n
theorem Good.show {B n : Nat} {d : PyData} (g : Good B n d) (hB : B < 10 ^ 400) (hn : n ≤ 100) : d.showable = true ∧ d.depth ≤ 100 ∧ d.shown.length ≤ sizeLine := by
  have h1 := depth_wt d g.f
  have h2 := shown_le hB d g.f
  have h3 := g.w
  refine ⟨showable_fine hB d g.f, by omega, ?_⟩
  rw [sizeLine_eq]
  omega
theorem Good.mono {B n B' n' : Nat} {d : PyData} (g : Good B n d) (h : B ≤ B') (h' : n ≤ n') : Good B' n' d := ⟨fine_le h d g.f, Nat.le_trans g.w h'⟩
/-- new objects beside a stream -/
def hid (l : Addr) (H : Hp) : Hp := fun b => if b = l then none else H b
theorem hid_at {l b : Addr} {H : Hp} (h : b ≠ l) : hid l H b = H b := if_neg h
theorem hid_some {l b : Addr} {H : Hp} {o : HO} (h : hid l H b = some o) : b ≠ l ∧ H b = some o := by
  unfold hid at h
  split at h
  · cases h
  · exact ⟨by assumption, h⟩
/-- all but what stands at l is as it was -/
def Keep (l : Addr) (H H' : Hp) : Prop := ∀ b o, b ≠ l → H b = some o → H' b = some o
theorem Keep.same {l : Addr} {H H' : Hp} (k : Keep l H H') : Same (hid l H) (hid l H') := fun b o e => by
  obtain ⟨n, e⟩ := hid_some e
  rw [hid_at n]
  exact k b o n e
theorem Keep.refl (l : Addr) (H : Hp) : Keep l H H := fun _ _ _ e => e
theorem Keep.trans {l : Addr} {H H1 H2 : Hp} (a : Keep l H H1) (b : Keep l H1 H2) : Keep l H H2 := fun c o n e => b c o n (a c o n e)
theorem Keep.of {l : Addr} {H H' : Hp} (s : Same H H') : Keep l H H' := fun b o _ e => s b o e
theorem Keep.at {l : Addr} {H : Hp} {o : HO} : Keep l H (upd H l o) := fun b u n e => by rw [upd_ne n]; exact e
theorem Keep.new {l p : Addr} {H H' : Hp} {o : HO} (k : Keep l H H') (n : H' p = none) : Keep l H (upd H' p o) := k.trans (Keep.of fun b u e => by rw [upd_ne (ne_of_none e n)]; exact e)
theorem Keep.upd {l : Addr} {H H' : Hp} {o : HO} (k : Keep l H H') : Keep l H (upd H' l o) := k.trans Keep.at
theorem hid_same (l : Addr) (H : Hp) : Same (hid l H) H := fun b o e => (hid_some e).2
/-- a stream stands at l -/
def StO (H : Hp) (l : Addr) : Prop := ∃ a b c : Int, H l = some (.lst [.int a, .int b, .int c])
theorem StO.ne {l p : Addr} {H : Hp} (h : StO H l) (n : H p = none) : p ≠ l := by
  obtain ⟨a, b, c, e⟩ := h
  exact (ne_of_none e n).symm
theorem StO.new {l p : Addr} {H : Hp} {o : HO} (h : StO H l) (n : H p = none) : StO (upd H p o) l := by
  obtain ⟨a, b, c, e⟩ := id h
  exact ⟨a, b, c, by rw [upd_ne (h.ne n).symm]; exact e⟩
theorem StO.same {l : Addr} {H H' : Hp} (h : StO H l) (s : Same H H') : StO H' l := by
  obtain ⟨a, b, c, e⟩ := h
  exact ⟨a, b, c, s _ _ e⟩
theorem hnew {l p : Addr} {H : Hp} {o : HO} (n : H p = none) : Same (hid l H) (hid l (L2.upd H p o)) := ((Keep.refl l H).new n).same
theorem dx_tup {l p : Addr} {H : Hp} {xs : List V} {ds : List PyData} (n : H p = none) (st : StO H l) (h : Dxs (hid l H) xs ds) : Dx (hid l (L2.upd H p (.tup xs))) (.ref p) (.tuple ds) :=
  .tup (by rw [hid_at (st.ne n)]; exact upd_same) (h.up (hnew n))
theorem dx_lst {l p : Addr} {H : Hp} {xs : List V} {ds : List PyData} (n : H p = none) (z : p ≠ sysModules) (st : StO H l) (h : Dxs (hid l H) xs ds) : Dx (hid l (L2.upd H p (.lst xs))) (.ref p) (.list ds) :=
  .lst (by rw [hid_at (st.ne n)]; exact upd_same) z (h.up (hnew n))
theorem dx_dic {l p : Addr} {H : Hp} (n : H p = none) (st : StO H l) : Dx (hid l (L2.upd H p (.dK []))) (.ref p) (.dict []) :=
  .dic (by rw [hid_at (st.ne n)]; exact upd_same)
end KX

set_option maxRecDepth 100000
set_option maxHeartbeats 4000000
namespace KX
open PySem PySem.Spec PyProof.Rows L2
open PySem.W (AllAlike Sortable EachIs dataLe)
theorem each_pairs {β : Type} {R : Value → β → Prop} : ∀ {us : List Value} {bs : List β}, (us.length = bs.length) → (∀ (i : Nat) u b, us[i]? = some u → bs[i]? = some b → R u b) → EachIs R us bs
  | [], [], _, _ => .nil
  | u :: us, b :: bs, hl, h => .cons (h 0 u b rfl rfl) (each_pairs (by simpa using hl) fun i u b e f => h (i + 1) u b (by simpa using e) (by simpa using f))
  | [], _ :: _, hl, _ => by simp at hl
  | _ :: _, [], hl, _ => by simp at hl
section
variable {X : Cx}
/-- sorted(xs), xs alike data -/
def rSortE {β : Type} (K : PySem.W.Frag) (enc : β → PyData) : List V → Hp → VK → Prop := fun vs H Q => ∃ (a : Addr) (bs : List (V × β)), vs = [.ref a] ∧ SqL K H a (bs.map (·.1)) ∧ (∀ b ∈ bs, Dp K H b.1 (enc b.2)) ∧ AllAlike (bs.map fun b => enc b.2) ∧ Sortable (bs.map fun b => enc b.2) ∧
  (∀ b ∈ bs, (enc b.2).depth ≤ 50) ∧ ∀ p, H p = none → Q (.ref p) (L2.upd H p (.lst ((bs.mergeSort (dataLe false fun b => enc b.2)).map (·.1))))
theorem cr_sortE {β : Type} {enc : β → PyData} {k : Nat} (hr : Room k X.A) : CallR X (.builtin "sorted") (rSortE X.K enc) := by
  intro pins s σ H vs us Q I r h
  obtain ⟨a, bs, e, hS, hd, hal, hk, hu, q⟩ := h
  subst e
  obtain ⟨u, rfl, ru⟩ := vals1 r
  cases ru
  obtain ⟨its, rv, pl, hz⟩ := I.list hS
  have hlen := rv.length
  rw [List.length_map] at hlen hz
  have er : EachIs (fun v (b : V × β) => ∃ as, Reads s.heap v (enc b.2) as) its bs := each_pairs (by omega) fun i u b e f => by
    obtain ⟨u', e', ru⟩ := rv.get (i := i) (x := b.1) (by rw [List.getElem?_map, f]; rfl)
    rw [e] at e'
    cases e'
    exact Dp.reads I (enc b.2) b.1 u (hd b (List.mem_of_getElem? f)) ru
  have eR : EachIs (fun v (b : V × β) => RelV b.1 v) its bs := each_pairs (by omega) fun i u b e f => by
    obtain ⟨u', e', ru⟩ := rv.get (i := i) (x := b.1) (by rw [List.getElem?_map, f]; rfl)
    rw [e] at e'
    cases e'
    exact ru
  have hun := hr.un
  refine PySem.W.sorted_data (enc := fun b : V × β => enc b.2) pl.isList eR er hal hk (by omega) (fun b hb => by have := hu b hb; omega) fun out hl he => ?_
  obtain ⟨c, hc⟩ := PyProof.Rows.sortedAll_at s.heap its out.toArray
  have rel : ∀ {ws : List Value} {ps : List (V × β)}, EachIs (fun v (b : V × β) => RelV b.1 v) ws ps → Vals (ps.map (·.1)) ws := by
    intro ws ps e
    induction e with
    | nil => exact .nil
    | cons h t ih => exact .cons h ih
  have keep : ∀ b o, s.heap.get? b = some o → (PyProof.Rows.sortedAll s.heap its out.toArray).get? b = some o := fun _ _ => PyProof.Rows.sortedAll_old
  refine ⟨.ref (s.heap.objs.size + 1), _, I.laid (t' := s.toks) keep (Nat.le_succ _) (o := .lst ((bs.mergeSort (dataLe false fun b => enc b.2)).map (·.1))) ⟨?_, out, c, rel he, hc⟩, rfl, q _ (I.hok.fresh (Nat.le_succ _))⟩
  rw [List.length_map, List.length_mergeSort]
  omega
end
mutual
/-- without dicts: the layer's own data -/
theorem dp_dx {K : PySem.W.Frag} {H : Hp} : ∀ (d : PyData) (v : V), d.plain = true → Dx H v d → Dp K H v d
  | .none, _, _, h => by cases h; exact .non
  | .bool b, _, _, h => by cases h; exact .bl b
  | .int i, _, _, h => by cases h; exact .int i
  | .str x, _, _, h => by cases h; exact .str x
  | .list ds, _, p, h => by
    cases h with
    | lst e n h => exact .lst (.inl (.inl e)) (dps_dx ds _ (by simpa [PyData.plain] using p) h)
  | .tuple ds, _, p, h => by
    cases h with
    | tup e h => exact .tup (.inl (.inl e)) (dps_dx ds _ (by simpa [PyData.plain] using p) h)
  | .dict ks, _, p, _ => by simp [PyData.plain] at p
theorem dps_dx {K : PySem.W.Frag} {H : Hp} : ∀ (ds : List PyData) (vs : List V), PyData.plainAll ds = true → Dxs H vs ds → DpAll K H vs ds
  | [], _, _, h => by cases h; exact .nil
  | d :: ds, _, p, h => by
    have p' : d.plain = true ∧ PyData.plainAll ds = true := by simpa [PyData.plainAll] using p
    cases h with
    | cons h t => exact .cons (dp_dx d _ p'.1 h) (dps_dx ds _ p'.2 t)
end
end KX

set_option maxRecDepth 100000
set_option maxHeartbeats 4000000
namespace KX
open PySem PySem.Spec PyProof.Rows L2
section
variable {X : Cx}
/-- text * 0, text * 1 -/
theorem op_mul_s : OpR X (binaryOp .Mult) (fun x y H Q => ∃ (z : Str) (n : Int), x = .str z ∧ y = .int n ∧ (n = 0 ∨ n = 1) ∧ Q (.str (if n = 1 then z else "")) H) := by
  intro pins s σ H x y v u Q I rx ry h
  obtain ⟨z, n, rfl, rfl, hn, q⟩ := h
  obtain ⟨t, rfl⟩ := rx
  obtain ⟨t', rfl⟩ := ry
  have ok : MulOk z n := by
    rcases hn with rfl | rfl
    · exact ⟨by decide, fun h => absurd (by decide) h, fun h => absurd (by decide) h⟩
    · exact ⟨by decide, fun _ h => by simp at h, fun _ h => by simp at h⟩
  have e : Txt.mul z n = (if n = 1 then z else "") := by
    rcases hn with rfl | rfl
    · rfl
    · simp [Txt.mul]
  refine SB.mul ok fun t1 k => ?_
  rw [e]
  exact ⟨.str _, H, I.tok _, ⟨_, rfl⟩, q⟩
end
end KX

set_option maxRecDepth 100000
set_option maxHeartbeats 4000000
namespace KX
open PySem PySem.Spec PyProof.Rows L2
section
variable {X : Cx}
/-- t != (), t any tuple -/
def rNe0 (K : PySem.W.Frag) : R2 := fun x y H Q => ∃ a b xs, x = .ref a ∧ y = .ref b ∧ SqT K H a xs ∧ SqT K H b [] ∧ Q (.bl (!xs.isEmpty)) H
theorem op_ne0 (hu : X.A.units < cLine) : OpR X (compareOp .NotEq) (rNe0 X.K) := by
  intro pins s σ H x y v u Q I rx ry h
  obtain ⟨a, b, xs, rfl, rfl, ha, hb, q⟩ := h
  cases rx
  cases ry
  obtain ⟨its, r1, p1, _⟩ := I.tuple ha
  obtain ⟨its2, r2, p2, _⟩ := I.tuple hb
  cases r2
  have e : (!((List.range (min its.toArray.size ([] : List Value).toArray.size)).all (fun _ => true) && its.toArray.size == ([] : List Value).toArray.size)) = !xs.isEmpty := by
    have := r1.length
    cases xs with
    | nil =>
      cases its with
      | nil => rfl
      | cons _ _ => simp at this
    | cons _ _ =>
      cases its with
      | nil => simp at this
      | cons _ _ => simp
  refine SeqAt.RcNeAt.tuples (e := fun _ => true) p1 p2 hu (fun j h1 h2 => absurd h2 (by simp)) X.prog X.w X.xe (EP X pins σ Q) ?_
  rw [e]
  exact ⟨.bl _, H, I, rfl, q⟩
end
/-! ### tuples of data, whatever object holds them -/
def cutD (ds : List PyData) (lo hi : Option Int) : List PyData := (ds.drop (HT.sIx ds.length 0 lo)).take (HT.sIx ds.length ds.length hi - HT.sIx ds.length 0 lo)
theorem cutD_to (ds : List PyData) (k : Nat) : cutD ds none (some (k : Int)) = ds.take k := by
  unfold cutD
  rw [HT.sIx_none, HT.sIx_nat, List.drop_zero, Nat.sub_zero]
  by_cases h : k ≤ ds.length
  · rw [Nat.min_eq_left h]
  · rw [Nat.min_eq_right (by omega), List.take_length, List.take_of_length_le (by omega)]
theorem cutD_from (ds : List PyData) (k : Nat) : cutD ds (some (k : Int)) none = ds.drop k := by
  unfold cutD
  rw [HT.sIx_none, HT.sIx_nat]
  by_cases h : k ≤ ds.length
  · rw [Nat.min_eq_left h]
    exact List.take_of_length_le (by rw [List.length_drop]; exact Nat.le_refl _)
  · rw [Nat.min_eq_right (by omega), Nat.sub_self, List.take_zero, List.drop_of_length_le (by omega)]
theorem cutD_one (ds : List PyData) (k : Nat) : cutD ds (some (k : Int)) (some ((k : Int) + 1)) = (ds.drop k).take 1 := by
  unfold cutD
  rw [show ((k : Int) + 1) = ((k + 1 : Nat) : Int) by omega, HT.sIx_nat, HT.sIx_nat]
  by_cases h : k < ds.length
  · rw [Nat.min_eq_left (by omega), Nat.min_eq_left (by omega), Nat.add_sub_cancel_left]
  · rw [Nat.min_eq_right (by omega), Nat.min_eq_right (by omega), Nat.sub_self, List.take_zero, List.drop_of_length_le (by omega)]
    rfl
theorem dxs_cut {H : Hp} {xs : List V} {ds : List PyData} (h : Dxs H xs ds) (lo hi : Option Int) : Dxs H (cutV xs lo hi) (cutD ds lo hi) := by
  unfold cutV cutD
  rw [h.len]
  exact (h.drop _).take _
theorem dx_sqT {K : PySem.W.Frag} {H : Hp} {l a : Addr} {ds : List PyData} (h : Dx (hid l H) (.ref a) (.tuple ds)) : ∃ xs, SqT K H a xs ∧ Dxs (hid l H) xs ds := by
  cases h with
  | @tup a xs _ e h => exact ⟨xs, .inl (.inl (hid_some e).2), h⟩
theorem dx_tupOf {H : Hp} {l : Addr} {v : V} {ds : List PyData} (h : Dx (hid l H) v (.tuple ds)) : ∃ a xs, v = .ref a ∧ a ≠ l ∧ H a = some (.tup xs) ∧ Dxs (hid l H) xs ds := by
  cases h with
  | @tup a xs _ e h => exact ⟨a, xs, rfl, (hid_some e).1, (hid_some e).2, h⟩
section
variable {K : PySem.W.Frag} {H : Hp} {l a b : Addr} {ds es : List PyData} {Q : VK}
theorem sl_of {lo hi : Option Int} {v : V} (hd : Dx (hid l H) v (.tuple ds)) (st : StO H l) (q : ∀ H' p, Keep l H H' → StO H' l → Dx (hid l H') (.ref p) (.tuple (cutD ds lo hi)) → Q (.ref p) H') : rSlA K v lo hi H Q := by
  obtain ⟨a, xs, rfl, na, ea, h⟩ := dx_tupOf hd
  refine ⟨a, xs, rfl, .inl (.inl ea), fun hw => q H a (Keep.refl l H) st ?_, fun _ p np => q _ p ((Keep.refl l H).new np) (st.new np) (dx_tup np st (dxs_cut h lo hi))⟩
  have : cutD ds lo hi = ds := by
    unfold cutD
    rw [← h.len, hw.1, hw.2, List.drop_zero, Nat.sub_zero, List.take_of_length_le (by rw [h.len]; exact Nat.le_refl _)]
  rw [this]
  exact hd
theorem cat_of {v u : V} (hd : Dx (hid l H) v (.tuple ds)) (he : Dx (hid l H) u (.tuple es)) (st : StO H l) (hz : ds.length + es.length ≤ sizeLine)
    (q : ∀ H' p, Keep l H H' → StO H' l → Dx (hid l H') (.ref p) (.tuple (ds ++ es)) → Q (.ref p) H') : rCatA K v u H Q := by
  obtain ⟨a, xs, rfl, na, ea, h⟩ := dx_tupOf hd
  obtain ⟨b, ys, rfl, nb, eb, h2⟩ := dx_tupOf he
  have l1 := h.len
  have l2 := h2.len
  refine ⟨a, b, xs, ys, rfl, rfl, .inl (.inl ea), .inl (.inl eb), by omega, fun z => ?_, fun _ z => ?_, fun _ _ p np => q _ p ((Keep.refl l H).new np) (st.new np) (dx_tup np st (h.app h2))⟩
  · subst z
    have : ds = [] := List.eq_nil_of_length_eq_zero (by simpa using l1.symm)
    subst this
    exact q H b (Keep.refl l H) st he
  · subst z
    have : es = [] := List.eq_nil_of_length_eq_zero (by simpa using l2.symm)
    subst this
    rw [List.append_nil] at q
    exact q H a (Keep.refl l H) st hd
end
end KX

set_option maxRecDepth 100000
set_option maxHeartbeats 4000000
namespace KX
open PySem PySem.Spec PyProof.Rows L2
/-! ### expressions that make data -/
def tD (d : PyData) : TE := fun _ H Q => ∀ H' v, Same H H' → Dx H' v d → Q v H'
def tDs (ds : List PyData) : TA := fun _ H Q => ∀ H' vs, Same H H' → Dxs H' vs ds → Q vs H'
/-- a new list of data -/
def tL (ds : List PyData) : TE := fun _ H Q => ∀ H' p xs, Same H H' → H p = none → H' p = some (.lst xs) → Dxs H' xs ds → Q (.ref p) H'
section
variable {X : Cx} {e : Expr} {es : List Expr} {pos : Pos} {d : PyData} {ds : List PyData}
theorem PE.imp {t t' : TE} (h : PE X e t) (i : ∀ σ H Q, t' σ H Q → t σ H Q) : PE X e t' := ⟨fun pins s σ H Q I q => h.run pins s σ H Q I (i σ H Q q)⟩
theorem PA.imp {t t' : TA} (h : PA X es t) (i : ∀ σ H Q, t' σ H Q → t σ H Q) : PA X es t' := ⟨fun pos pins s σ H Q I q => h.run pos pins s σ H Q I (i σ H Q q)⟩
theorem pd_int {i : Int} {j} : PE X (.Constant (.int i) j pos) (tD (.int i)) := PE.imp pe_int fun _ H Q q => q H _ (Same.refl H) (.int i)
theorem pd_str {x : Str} {j} : PE X (.Constant (.str x) j pos) (tD (.str x)) := PE.imp pe_str fun _ H Q q => q H _ (Same.refl H) (.str x)
theorem pd_bl {b : Bool} {j} : PE X (.Constant (.bool b) j pos) (tD (.bool b)) := PE.imp pe_bl fun _ H Q q => q H _ (Same.refl H) (.bl b)
theorem pd_val {t : TE} {i : Int} (h : PE X e t) (hv : ∀ (σ : L2.St) (H : Hp) (Q : VK), Q (.int i) H → t σ H Q) : PE X e (tD (.int i)) := PE.imp h fun σ H Q q => hv σ H Q (q H _ (Same.refl H) (.int i))
theorem pd_nil : PA X [] (tDs []) := PA.imp pa_nil fun _ H Q q => q H _ (Same.refl H) .nil
theorem pd_cons (h : PE X e (tD d)) (t : PA X es (tDs ds)) (hs : starEach (e :: es) X.env = (false, eval e X.env) :: starEach es X.env := by rfl) : PA X (e :: es) (tDs (d :: ds)) :=
  PA.imp (pa_cons h t hs) fun _ H Q q H1 v s1 dv H2 vs s2 dvs => q H2 (v :: vs) (s1.trans s2) (.cons (dv.up s2) dvs)
theorem pd_tup {x1} (h : PA X es (tDs ds)) (hz : ds.length ≤ sizeLine := by decide) : PE X (.Tuple es x1 pos) (tD (.tuple ds)) :=
  PE.imp (pe_tup h) fun _ H Q q H1 vs s1 dvs => ⟨by rw [dvs.len]; exact hz, fun p np => q _ _ (s1.trans fun b x e => by rw [upd_ne (ne_of_none e np)]; exact e) (.tup upd_same (dvs.up fun b x e => by rw [upd_ne (ne_of_none e np)]; exact e))⟩
theorem pd_lstS (h : PA X es (tDs ds)) (hz : ds.length ≤ sizeLine := by decide) : PE X (.List es pos) (tD (.list ds)) :=
  PE.imp (pe_lstS h) fun _ H Q q H1 vs s1 dvs => ⟨by rw [dvs.len]; exact hz, fun p np zp => q _ _ (s1.trans fun b x e => by rw [upd_ne (ne_of_none e np)]; exact e) (.lst upd_same zp (dvs.up fun b x e => by rw [upd_ne (ne_of_none e np)]; exact e))⟩
theorem pd_lst (h : PA X es (tDs ds)) (hz : ds.length ≤ sizeLine := by decide) : PE X (.List es pos) (tL ds) :=
  PE.imp (pe_lst h) fun _ H Q q H1 vs s1 dvs => ⟨by rw [dvs.len]; exact hz, fun p np => q _ p vs (s1.trans fun b x e => by rw [upd_ne (ne_of_none e np)]; exact e) (s1.free np) upd_same (dvs.up fun b x e => by rw [upd_ne (ne_of_none e np)]; exact e)⟩
theorem dxs_rep {H : Hp} {xs : List V} {es : List PyData} (h : Dxs H xs es) : ∀ n : Nat, Dxs H (List.replicate n xs).flatten (List.replicate n es).flatten
  | 0 => .nil
  | n + 1 => by
    rw [List.replicate_succ, List.replicate_succ, List.flatten_cons, List.flatten_cons]
    exact h.app (dxs_rep h n)
/-- t * k -/
theorem pd_rep {b : Expr} {k : Int} {tb : TE} (h : PE X e (tD (.tuple ds))) (hb : PE X b tb) (hk : ∀ (σ : L2.St) (H : Hp) (Q : VK), Q (.int k) H → tb σ H Q) (k2 : 2 ≤ k) (k1 : k ≤ 1000) (hn : ds ≠ []) (hz : ds.length ≤ 1000) :
    PE X (.BinOp e .Mult b pos) (tD (.tuple (List.replicate k.toNat ds).flatten)) :=
  PE.imp (pe_op op_repT h hb) fun σ H Q q H1 v s1 dv => hk σ H1 _ (by
    cases dv with
    | @tup a xs _ ea hx =>
      have hl := hx.len
      refine ⟨a, k, xs, rfl, rfl, .inl (.inl ea), ?_, k2, k1, by omega, fun p np => q _ _ (s1.trans fun b x e => by rw [upd_ne (ne_of_none e np)]; exact e) (.tup upd_same ((dxs_rep hx k.toNat).up fun b x e => by rw [upd_ne (ne_of_none e np)]; exact e))⟩
      intro z
      subst z
      exact hn (List.eq_nil_of_length_eq_zero (by simpa using hl.symm)))
end
end KX

set_option maxRecDepth 100000
set_option maxHeartbeats 4000000
namespace K1
open PySem PySem.Spec PyProof.Rows L2 KX
/-! ### the text -/
def topS (i : Nat) : Stmt := PySem.Challenge.pw_spareskept_k01_names_and_rows.main.body.getD i (.Pass ⟨0, 0, 0, 0⟩)
abbrev sBetween : Stmt := topS 1
abbrev sTupB : Stmt := topS 2
/-- a def of the text as it stands behind the top -/
structure Df (K : PySem.W.Frag) (mg : Str → Option Value) (x : String) (st : Stmt) (ps : List Str) (f : Addr) (fd : FuncData) : Prop where
  F : Fun K x x st f fd
  b : Binds K fd ps []
  g : mg x = some (.ref f)
/-- the built-in names that the text uses -/
structure Bl (mg : Str → Option Value) : Prop where
  isi : mg "isinstance" = none
  bool : mg "bool" = none
  int : mg "int" = none
  str : mg "str" = none
  tuple : mg "tuple" = none
  list : mg "list" = none
  len : mg "len" = none
  all : mg "all" = none
  range : mg "range" = none
  max : mg "max" = none
  min : mg "min" = none
  abs : mg "abs" = none
  repr : mg "repr" = none
  sorted : mg "sorted" = none

/-! ### kinds of data -/
def tyN : PyData → String
  | .none => "NoneType" | .bool _ => "bool" | .int _ => "int" | .str _ => "str" | .list _ => "list" | .tuple _ => "tuple" | .dict _ => "dict"
def isaN (T : String) : PyData → Bool := fun d => (kitB (tyN d) T).getD false
theorem Dx.ty {K : PySem.W.Frag} {H : Hp} {v : V} {d : PyData} (h : Dx H v d) : TyX K H v (.type (tyN d)) := by
  cases h with
  | non => exact .base .non
  | bl b => exact .base (.bl b)
  | int i => exact .base (.int i)
  | str x => exact .base (.str x)
  | lst e n h => exact .base (.lst e)
  | tup e h => exact .base (.tup e)
  | dic e => exact .base (.dK e)
def okT (T : String) : Bool := (["NoneType", "bool", "int", "str", "list", "tuple", "dict"].all fun a => (kitB a T).isSome)
section
variable {X : Cx}
/-- isinstance(x, T), x data, T a built-in class -/
def rIsD (T : String) : List V → Hp → VK → Prop := fun xs H Q => match xs with
  | [x, c] => c = .ty T ∧ ∃ d, Dx H x d ∧ Q (.bl (isaN T d)) H
  | _ => False
theorem call_isD {T : String} (hT : okT T = true) : CallR X (.builtin "isinstance") (rIsD T) := by
  intro pins s σ H xs us Q I r h
  match xs, h with
  | [x, c], h =>
  obtain ⟨e, d, hd, q⟩ := h
  subst e
  have ha := List.all_eq_true.mp hT
  have hs : (kitB (tyN d) T).isSome = true := ha (tyN d) (by cases d <;> simp [tyN])
  obtain ⟨b, hb⟩ := Option.isSome_iff_exists.mp hs
  have q2 : Q (.bl b) H := by
    have : isaN T d = b := by unfold isaN; rw [hb]; rfl
    rw [← this]; exact q
  exact call_isi pins s σ H _ us Q I r ⟨x, .ty T, .type (tyN d), .type T, b, rfl, .ty T, Dx.ty hd, kit_ty hb, q2⟩
/-- isinstance(x, T) as an expression -/
theorem pe_isD {T x : String} {e : Expr} {te : TE} {p p2 pos : Pos} (hT : okT T = true) (mi : X.mg "isinstance" = none) (hm : X.mg x = none) (hv : bootBuiltins x = some (.type T)) (he : PE X e te) (hg0 : Gl X "isinstance") (hg : Gl X x)
    (hn : (x : Str) ≠ "__name__" := by decide) (hd : ((x : Str) == ("__debug__" : Str)) = false := by decide)
    (h1 : starEach [e, .Name x p2] X.env = (false, eval e X.env) :: starEach [.Name x p2] X.env := by rfl) (h2 : starEach [.Name x p2] X.env = (false, eval (.Name x p2) X.env) :: starEach [] X.env := by rfl)
    (hpl : (backTo pos (starEach [.Name x p2] X.env)).any (·.1) = false := by rfl) :
    PE X (.Call (.Name "isinstance" p) [e, .Name x p2] [] pos) (tCB (rIsD T) (tCons te (tCons (tC (.ty T)) tNil))) := by
  refine ⟨fun pins s σ H Q I h => ?_⟩
  refine (pe_callB (call_isD hT) hg0 mi (by decide +kernel) (pa_cons he (pa_cons (pe_bltn (v := .ty T) hg hm hv rfl hn hd) pa_nil h2) h1) (by decide) (by decide) h1 hpl).run pins s σ H Q I ?_
  exact h
end
/-! ### is_between -/
def betw (lo hi : Int) : PyData → Bool
  | .int i => decide (lo ≤ i) && decide (i ≤ hi)
  | _ => false
def spBetween : Sp := fun vs H Q _ => ∃ v d lo hi, vs = [v, .int lo, .int hi] ∧ Dx H v d ∧ Q (.bl (betw lo hi d)) H
theorem scBetween : FnScope ["value", "low", "high"] ["value", "low", "high"] (defScope sBetween) := ⟨rfl, rfl, rfl, by decide +kernel, rfl, by decide +kernel, by decide +kernel⟩
section
variable {P : Program} {w : World} {K : PySem.W.Frag} {mg : Str → Option Value} {base : Heap}
theorem ok_between {f : Addr} {fd : FuncData} (B : Bl mg) (D : Df K mg "is_between" sBetween ["value", "low", "high"] f fd) : FnOk P w K mg base CX0 1 f fd ["value", "low", "high"] spBetween := by
  refine D.F.ok scBetween (fun vs H Q E h => ?_) (fun cdv A outer s H vs Q E hr h => ?_)
  · obtain ⟨v, d, lo, hi, rfl, _⟩ := h
    rfl
  · obtain ⟨v, d, lo, hi, rfl, hd, q⟩ := h
    refine ⟨_, pss_cons (ps_if (PW.pt (pw_or (pt_val (pe_isD (T := "bool") (x := "bool") (by decide +kernel) B.isi B.bool (by decide +kernel) (pv 0) (by rfl) (by rfl)))
        (pw_or1 (pt_not (pt_val (pe_isD (T := "int") (x := "int") (by decide +kernel) B.isi B.int (by decide +kernel) (pv 0) (by rfl) (by rfl))))))) (pss_one (ps_ret pe_bl)) pss_nil)
      (pss_one (ps_ret (pe_chain op_le op_le (pv 1) (pv 0) (pv 2)))), ?_⟩
    refine ⟨v, rfl, rfl, d, hd, _, rfl, ?_⟩
    cases d with
    | bool b => exact q
    | int i =>
      refine iteF ⟨v, rfl, rfl, _, hd, _, rfl, ?_⟩
      refine iteF ⟨_, rfl, v, rfl, ?_⟩
      cases hd
      refine ⟨lo, i, rfl, rfl, _, rfl, ?_⟩
      have e : betw lo hi (.int i) = (decide (lo ≤ i) && decide (i ≤ hi)) := rfl
      rw [e] at q
      by_cases h : lo ≤ i
      · rw [decide_eq_true h] at q ⊢
        exact iteT ⟨_, rfl, _, _, rfl, rfl, q⟩
      · rw [decide_eq_false h] at q ⊢
        exact iteF q
    | _ => exact iteF ⟨v, rfl, rfl, _, hd, _, rfl, q⟩
end
end K1

set_option maxRecDepth 100000
set_option maxHeartbeats 4000000
namespace K1
open PySem PySem.Spec PyProof.Rows L2 KX
abbrev sName : Stmt := topS 10
abbrev sRow : Stmt := topS 11
abbrev sVals : Stmt := topS 12
/-- the constants of the text -/
structure Cs (mg : Str → Option Value) : Prop where
  wid : ∃ t, mg "MAX_WIDTH" = some (.int 4 t)
  cost : ∃ t, mg "MAX_COST" = some (.int 1000000 t)
  val : ∃ t, mg "MAX_VALUE" = some (.int 1000000000 t)
  exp : ∃ t, mg "MAX_EXPIRY" = some (.int 1000000000 t)
  lets : ∃ t, mg "MAX_LETTERS" = some (.int 8 t)
  abc : ∃ t, mg "LETTERS" = some (.str "abcdefghijklmnopqrstuvwxyz" t)
/-! ### is_tuple_between -/
def tupB (lo hi : Int) : PyData → Bool
  | .tuple ds => decide (lo ≤ (ds.length : Int)) && decide ((ds.length : Int) ≤ hi)
  | _ => false
def spTupB : Sp := fun vs H Q _ => ∃ v d lo hi, vs = [v, .int lo, .int hi] ∧ Dx H v d ∧ Q (.bl (tupB lo hi d)) H
theorem scTupB : FnScope ["value", "low", "high"] ["value", "low", "high"] (defScope sTupB) := ⟨rfl, rfl, rfl, by decide +kernel, rfl, by decide +kernel, by decide +kernel⟩
theorem isa_tuple {d : PyData} : isaN "tuple" d = match d with | .tuple _ => true | _ => false := by
  cases d <;> (simp only [isaN, tyN]; decide +kernel)
theorem isa_str {d : PyData} : isaN "str" d = match d with | .str _ => true | _ => false := by
  cases d <;> (simp only [isaN, tyN]; decide +kernel)
theorem isa_int {d : PyData} : isaN "int" d = match d with | .int _ => true | .bool _ => true | _ => false := by
  cases d <;> (simp only [isaN, tyN]; decide +kernel)
theorem isa_bool {d : PyData} : isaN "bool" d = match d with | .bool _ => true | _ => false := by
  cases d <;> (simp only [isaN, tyN]; decide +kernel)
section
variable {P : Program} {w : World} {K : PySem.W.Frag} {mg : Str → Option Value} {base : Heap}
theorem ok_tupB {f : Addr} {fd : FuncData} (B : Bl mg) (D : Df K mg "is_tuple_between" sTupB ["value", "low", "high"] f fd) : FnOk P w K mg base CX0 1 f fd ["value", "low", "high"] spTupB := by
  refine D.F.ok scTupB (fun vs H Q E h => ?_) (fun cdv A outer s H vs Q E hr h => ?_)
  · obtain ⟨v, d, lo, hi, rfl, _⟩ := h
    rfl
  · obtain ⟨v, d, lo, hi, rfl, hd, q⟩ := h
    refine ⟨_, pss_one (ps_ret (pe_and (pe_isD (T := "tuple") (x := "tuple") (by decide +kernel) B.isi B.tuple (by decide +kernel) (pv 0) (by rfl) (by rfl))
      (pe_one (pe_chain op_le op_le (pv 1) (pe_callB call_len_seq (by rfl) B.len PySem.boot_len (pa_cons (pv 0) pa_nil)) (pv 2))))), ?_⟩
    refine ⟨v, rfl, rfl, d, hd, _, rfl, ?_⟩
    rw [isa_tuple]
    cases d with
    | tuple ds =>
      cases hd with
      | @tup a xs _ e h =>
        refine iteT ⟨_, rfl, _, rfl, a, xs, rfl, .inr (.inl (.inl e)), _, _, rfl, rfl, _, rfl, ?_⟩
        rw [h.len]
        have e : tupB lo hi (.tuple ds) = (decide (lo ≤ (ds.length : Int)) && decide ((ds.length : Int) ≤ hi)) := rfl
        rw [e] at q
        by_cases h : lo ≤ (ds.length : Int)
        · rw [decide_eq_true h] at q ⊢
          exact iteT ⟨_, rfl, _, _, rfl, rfl, q⟩
        · rw [decide_eq_false h] at q ⊢
          exact iteF q
    | _ => exact iteF q
end
/-! ### is_name -/
def abc : Str := "abcdefghijklmnopqrstuvwxyz"
def letD (x : Str) : Bool := x.cps.toList.all fun c => decide (c ∈ abc.cps.toList)
def nameD : PyData → Bool
  | .str x => (decide (1 ≤ (x.length : Int)) && decide ((x.length : Int) ≤ 8)) && letD x
  | _ => false
/-- texts are not too long -/
def smS : PyData → Prop
  | .str x => x.length ≤ sizeLine
  | _ => True
def spName : Sp := fun vs H Q _ => ∃ v d, vs = [v] ∧ Dx H v d ∧ smS d ∧ ∀ H', Same H H' → Q (.bl (nameD d)) H'
theorem scName : FnScope ["value", "letter"] ["value"] (defScope sName) := ⟨rfl, rfl, rfl, by decide +kernel, rfl, by decide +kernel, by decide +kernel⟩
theorem same_new {H : Hp} {p : Addr} {o : HO} (h : H p = none) : Same H (upd H p o) := fun b x e => by
  rw [upd_ne (ne_of_none e h)]
  exact e
theorem same_at {H H' : Hp} {p : Addr} {o : HO} (h : Same H H') (n : H p = none) : Same H (upd H' p o) := fun b x e => by
  rw [upd_ne (ne_of_none e n)]
  exact h _ _ e
section
variable {P : Program} {w : World} {K : PySem.W.Frag} {mg : Str → Option Value} {base : Heap}
theorem ok_name {f : Addr} {fd : FuncData} (B : Bl mg) (C : Cs mg) (D : Df K mg "is_name" sName ["value"] f fd) : FnOk P w K mg base CX0 1 f fd ["value"] spName := by
  obtain ⟨t8, m8⟩ := C.lets
  obtain ⟨ta, ma⟩ := C.abc
  refine D.F.ok scName (fun vs H Q E h => ?_) (fun cdv A outer s H vs Q E hr h => ?_)
  · obtain ⟨v, d, rfl, _⟩ := h
    rfl
  · obtain ⟨v, d, rfl, hd, hsm, q⟩ := h
    refine ⟨_, pss_cons (ps_if (PW.pt (pw_or (pt_not (pt_val (pe_isD (T := "str") (x := "str") (by decide +kernel) B.isi B.str (by decide +kernel) (pv 0) (by rfl) (by rfl))))
        (pw_or1 (pt_not (pt_chain op_le op_le pe_int (pe_callB call_len_str (by rfl) B.len PySem.boot_len (pa_cons (pv 0) pa_nil)) (pe_glob (v := .int 8) (by rfl) m8 ⟨_, rfl⟩)))))) (pss_one (ps_ret pe_bl)) pss_nil)
      (pss_one (ps_ret (pe_callB (cr_all rfl) (by rfl) B.all (by decide +kernel) (pa_cons (pe_lc (own := [("letter", 1)]) (g := gName 1) rfl scName.nd (pi_str (pv 0)) (blkOk_by (N := ["value", "letter"]) (sc := defScope sName) (by decide +kernel))
        (fun _ _ _ _ _ => pg_name (i := 1) scName.nd rfl (Or.inl rfl)) (fun _ _ _ _ _ => pts_nil) (fun _ _ _ _ _ => pe_cmpR op_in_sign (pv 1) (pe_glob (v := .str abc) (by rfl) ma ⟨_, rfl⟩) (by rfl))) pa_nil)))), ?_⟩
    refine ⟨v, rfl, rfl, d, hd, _, rfl, ?_⟩
    rw [isa_str]
    cases d with
    | str x =>
      cases hd
      refine iteF ⟨.str x, rfl, x, rfl, hsm, 1, _, rfl, rfl, _, rfl, ?_⟩
      have en : nameD (.str x) = ((decide (1 ≤ (x.length : Int)) && decide ((x.length : Int) ≤ 8)) && letD x) := rfl
      rw [en] at q
      by_cases h1 : 1 ≤ (x.length : Int)
      · rw [decide_eq_true h1] at q ⊢
        refine iteT ⟨_, _, rfl, rfl, _, rfl, ?_⟩
        by_cases h2 : (x.length : Int) ≤ 8
        · rw [decide_eq_true h2] at q ⊢
          refine iteF ⟨_, rfl, x, rfl, fun D nD => ?_⟩
          refine lc_it walk_str (fun i G => Same H G ∧ G D = some (.lst (((x.cps.toList.take i).map fun c => decide (c ∈ abc.cps.toList)).map V.bl))) ⟨same_at (Same.refl H) nD, upd_same⟩ (fun _ _ _ _ => trivial) (fun i c G G' hi hp hy => ?_) (fun G hp => ?_)
          · obtain ⟨rfl, cc, ec, rfl⟩ := hy
            refine ⟨rfl, _, rfl, cc, abc, rfl, rfl, _, hp.2, ?_, same_at hp.1 nD, ?_⟩
            · rw [List.length_map, List.length_map, List.length_take]
              have hx : x.cps.toList.length = x.length := by simp [Str.length]
              have hb : (8 : Nat) < sizeLine := by decide
              omega
            · rw [upd_same, List.take_add_one, show x.cps.toList[i]? = some cc by simpa using ec]
              simp
          · have hx : x.cps.toList.take x.cps.size = x.cps.toList := List.take_of_length_le (by simp)
            rw [hx] at hp
            refine ⟨D, _, rfl, .inl (.inl hp.2), ?_⟩
            have := q G hp.1
            rw [List.all_map]
            exact this
        · rw [decide_eq_false h2] at q ⊢
          exact iteT (q H (Same.refl H))
      · rw [decide_eq_false h1] at q ⊢
        exact iteF ⟨_, rfl, iteT (q H (Same.refl H))⟩
    | _ => exact iteT (q H (Same.refl H))
end
end K1

set_option maxRecDepth 100000
set_option maxHeartbeats 4000000
namespace K1
open PySem PySem.Spec PyProof.Rows L2 KX
/-! ### are_row_values -/
def valsD : PyData → Bool
  | .tuple ds => (decide (1 ≤ (ds.length : Int)) && decide ((ds.length : Int) ≤ 4)) && ds.all (betw (-1000000000) 1000000000)
  | _ => false
def spVals : Sp := fun vs H Q _ => ∃ v d, vs = [v] ∧ Dx H v d ∧ ∀ H', Same H H' → Q (.bl (valsD d)) H'
theorem scVals : FnScope ["value", "number"] ["value"] (defScope sVals) := ⟨rfl, rfl, rfl, by decide +kernel, rfl, by decide +kernel, by decide +kernel⟩
section
variable {P : Program} {w : World} {K : PySem.W.Frag} {mg : Str → Option Value} {base : Heap}
theorem ok_vals {f fB fT : Addr} {fd fdB fdT : FuncData} (B : Bl mg) (C : Cs mg) (D : Df K mg "are_row_values" sVals ["value"] f fd) (DB : Df K mg "is_between" sBetween ["value", "low", "high"] fB fdB)
    (DT : Df K mg "is_tuple_between" sTupB ["value", "low", "high"] fT fdT) : FnOk P w K mg base CX0 2 f fd ["value"] spVals := by
  obtain ⟨tw, mw⟩ := C.wid
  obtain ⟨tv, mv⟩ := C.val
  have GB : FnOk P w K mg base CX0 1 fB fdB _ spBetween := ok_between B DB
  have GT : FnOk P w K mg base CX0 1 fT fdT _ spTupB := ok_tupB B DT
  refine D.F.ok scVals (fun vs H Q E h => ?_) (fun cdv A outer s H vs Q E hr h => ?_)
  · obtain ⟨v, d, rfl, _⟩ := h
    rfl
  · obtain ⟨v, d, rfl, hd, q⟩ := h
    refine ⟨_, pss_cons (ps_if (pt_not (pt_val (pe_call GT hr (by rfl) DT.g DT.F.kp DT.b .nil pass0 (pa_cons (pv 0) (pa_cons pe_int (pa_cons (pe_glob (v := .int 4) (by rfl) mw ⟨_, rfl⟩) pa_nil)))))) (pss_one (ps_ret pe_bl)) pss_nil)
      (pss_one (ps_ret (pe_callB (cr_all rfl) (by rfl) B.all (by decide +kernel) (pa_cons (pe_lc (own := [("number", 1)]) (g := gName 1) rfl scVals.nd (pi_tup (pv 0)) (blkOk_by (N := ["value", "number"]) (sc := defScope sVals) (by decide +kernel))
        (fun _ _ _ _ _ => pg_name (i := 1) scVals.nd rfl (Or.inl rfl)) (fun _ _ _ _ _ => pts_nil)
        (fun _ _ _ _ _ => pe_call GB hr (by rfl) DB.g DB.F.kp DB.b .nil pass0 (pa_cons (pv 1) (pa_cons (pe_un un_neg (pe_glob (v := .int 1000000000) (by rfl) mv ⟨_, rfl⟩)) (pa_cons (pe_glob (v := .int 1000000000) (by rfl) mv ⟨_, rfl⟩) pa_nil))))) pa_nil)))), ?_⟩
    refine ⟨v, rfl, v, d, 1, 4, rfl, hd, _, rfl, ?_⟩
    cases d with
    | tuple ds =>
      cases hd with
      | @tup a xs _ ea h =>
        have et : tupB 1 4 (.tuple ds) = (decide (1 ≤ (ds.length : Int)) && decide ((ds.length : Int) ≤ 4)) := rfl
        have en : valsD (.tuple ds) = ((decide (1 ≤ (ds.length : Int)) && decide ((ds.length : Int) ≤ 4)) && ds.all (betw (-1000000000) 1000000000)) := rfl
        rw [en] at q
        rw [et]
        cases eb : (decide (1 ≤ (ds.length : Int)) && decide ((ds.length : Int) ≤ 4)) with
        | false =>
          rw [eb] at q
          exact iteT (q H (Same.refl H))
        | true =>
          rw [eb] at q
          have hlen : ds.length ≤ 4 := by
            rw [Bool.and_eq_true] at eb
            have := of_decide_eq_true eb.2
            omega
          refine iteF ⟨.ref a, rfl, a, rfl, ⟨_, .inl (.inl ea)⟩, fun D nD => ?_⟩
          refine lc_tup (xs := xs) (fun i G => Same H G ∧ G D = some (.lst (((ds.take i).map (betw (-1000000000) 1000000000)).map V.bl))) ⟨same_at (Same.refl H) nD, upd_same⟩
            (fun i G hi hp => .inl (.inl (hp.1 _ _ ea))) (fun i x G hx hp => ?_) (fun G hp => ?_)
          · obtain ⟨d, ed, hd⟩ := h.get' hx
            refine ⟨rfl, x, rfl, _, rfl, x, d, -1000000000, 1000000000, rfl, hd.up hp.1, _, hp.2, ?_, same_at hp.1 nD, ?_⟩
            · rw [List.length_map, List.length_map, List.length_take]
              have hb : (4 : Nat) < sizeLine := by decide
              omega
            · rw [upd_same, List.take_add_one, ed]
              simp
          · have hx : ds.take xs.length = ds := List.take_of_length_le (by rw [h.len]; exact Nat.le_refl _)
            rw [hx] at hp
            refine ⟨D, _, rfl, .inl (.inl hp.2), ?_⟩
            have := q G hp.1
            rw [List.all_map]
            exact this
    | _ => exact iteT (q H (Same.refl H))
end
/-! ### is_row -/
def rowD : PyData → Bool
  | .tuple [n, c, vs, e] => nameD n && betw 1 1000000 c && (valsD vs && betw 1 1000000000 e)
  | _ => false
/-- all texts are not too long -/
def smA : PyData → Prop
  | .tuple ds => ∀ d ∈ ds, smS d
  | _ => True
def spRow : Sp := fun vs H Q _ => ∃ v d, vs = [v] ∧ Dx H v d ∧ smA d ∧ ∀ H', Same H H' → Q (.bl (rowD d)) H'
theorem scRow : FnScope ["value", "name", "cost", "values", "expiry"] ["value"] (defScope sRow) := ⟨rfl, rfl, rfl, by decide +kernel, rfl, by decide +kernel, by decide +kernel⟩
theorem tupB_four {d : PyData} : tupB 4 4 d = true → ∃ a b c e, d = .tuple [a, b, c, e] := by
  intro h
  cases d with
  | tuple ds =>
    have e : (decide (4 ≤ (ds.length : Int)) && decide ((ds.length : Int) ≤ 4)) = true := h
    rw [Bool.and_eq_true] at e
    have h1 := of_decide_eq_true e.1
    have h2 := of_decide_eq_true e.2
    match ds, h1, h2 with
    | [a, b, c, e], _, _ => exact ⟨a, b, c, e, rfl⟩
    | [], h1, _ => simp at h1
    | [_], h1, _ => simp at h1
    | [_, _], h1, _ => simp at h1
    | [_, _, _], h1, _ => simp at h1
    | _ :: _ :: _ :: _ :: _ :: _, _, h2 => simp at h2; omega
  | _ => cases h
theorem rowD_not {d : PyData} (h : tupB 4 4 d = false) : rowD d = false := by
  unfold rowD
  split
  · simp [tupB] at h
  · rfl
section
variable {P : Program} {w : World} {K : PySem.W.Frag} {mg : Str → Option Value} {base : Heap}
theorem ok_row {f fB fT fN fV : Addr} {fd fdB fdT fdN fdV : FuncData} (B : Bl mg) (C : Cs mg) (D : Df K mg "is_row" sRow ["value"] f fd) (DB : Df K mg "is_between" sBetween ["value", "low", "high"] fB fdB)
    (DT : Df K mg "is_tuple_between" sTupB ["value", "low", "high"] fT fdT) (DN : Df K mg "is_name" sName ["value"] fN fdN) (DV : Df K mg "are_row_values" sVals ["value"] fV fdV) : FnOk P w K mg base CX0 3 f fd ["value"] spRow := by
  obtain ⟨tc, mc⟩ := C.cost
  obtain ⟨te, me⟩ := C.exp
  have GB : FnOk P w K mg base CX0 2 fB fdB _ spBetween := (ok_between B DB).mono (by decide)
  have GT : FnOk P w K mg base CX0 2 fT fdT _ spTupB := (ok_tupB B DT).mono (by decide)
  have GN : FnOk P w K mg base CX0 2 fN fdN _ spName := (ok_name B C DN).mono (by decide)
  have GV : FnOk P w K mg base CX0 2 fV fdV _ spVals := ok_vals B C DV DB DT
  refine D.F.ok scRow (fun vs H Q E h => ?_) (fun cdv A outer s H vs Q E hr h => ?_)
  · obtain ⟨v, d, rfl, _⟩ := h
    rfl
  · obtain ⟨v, d, rfl, hd, hsm, q⟩ := h
    have nd := scRow.nd
    refine ⟨_, pss_cons (ps_if (pt_not (pt_val (pe_call GT hr (by rfl) DT.g DT.F.kp DT.b .nil pass0 (pa_cons (pv 0) (pa_cons pe_int (pa_cons pe_int pa_nil)))))) (pss_one (ps_ret pe_bl)) pss_nil)
      (pss_cons (ps_asg (pv 0) (pg_tup (by rfl) (pgs_cons (pg_name (i := 1) nd rfl (.inl rfl)) (pgs_cons (pg_name (i := 2) nd rfl (.inl rfl)) (pgs_cons (pg_name (i := 3) nd rfl (.inl rfl)) (pgs_cons (pg_name (i := 4) nd rfl (.inl rfl)) pgs_nil))))))
      (pss_cons (ps_if (PW.pt (pw_or (pt_not (pt_val (pe_call GN hr (by rfl) DN.g DN.F.kp DN.b .nil pass0 (pa_cons (pv 1) pa_nil))))
        (pw_or1 (pt_not (pt_val (pe_call GB hr (by rfl) DB.g DB.F.kp DB.b .nil pass0 (pa_cons (pv 2) (pa_cons pe_int (pa_cons (pe_glob (v := .int 1000000) (by rfl) mc ⟨_, rfl⟩) pa_nil))))))))) (pss_one (ps_ret pe_bl)) pss_nil)
      (pss_one (ps_ret (pe_and (pe_call GV hr (by rfl) DV.g DV.F.kp DV.b .nil pass0 (pa_cons (pv 3) pa_nil))
        (pe_one (pe_call GB hr (by rfl) DB.g DB.F.kp DB.b .nil pass0 (pa_cons (pv 4) (pa_cons pe_int (pa_cons (pe_glob (v := .int 1000000000) (by rfl) me ⟨_, rfl⟩) pa_nil)))))))))), ?_⟩
    refine ⟨v, rfl, v, d, 4, 4, rfl, hd, _, rfl, ?_⟩
    cases eb : tupB 4 4 d with
    | false =>
      rw [rowD_not eb] at q
      exact iteT (q H (Same.refl H))
    | true =>
      obtain ⟨n, c, vs, e, rfl⟩ := tupB_four eb
      cases hd with
      | @tup a xs _ ea h =>
        match xs, h, ea with
        | [vn, vc, vv, ve], .cons hn (.cons hc (.cons hv (.cons he .nil))), ea =>
          have sn : smS n := hsm n (by simp)
          refine iteF ⟨.ref a, rfl, a, _, rfl, .inl (.inl ea), rfl, _, _, rfl, _, _, rfl, _, _, rfl, _, _, rfl, rfl, ?_⟩
          refine ⟨vn, rfl, vn, n, rfl, hn, sn, fun H1 s1 => ⟨_, rfl, ?_⟩⟩
          have er : rowD (.tuple [n, c, vs, e]) = (nameD n && betw 1 1000000 c && (valsD vs && betw 1 1000000000 e)) := rfl
          rw [er] at q
          cases en : nameD n with
          | false =>
            rw [en] at q
            exact iteT (iteT (q H1 s1))
          | true =>
            rw [en] at q
            refine iteF ⟨vc, rfl, vc, c, 1, 1000000, rfl, hc.up s1, _, rfl, ?_⟩
            cases ec : betw 1 1000000 c with
            | false =>
              rw [ec] at q
              exact iteT (q H1 s1)
            | true =>
              rw [ec] at q
              refine iteF ⟨vv, rfl, vv, vs, rfl, hv.up s1, fun H2 s2 => ⟨_, rfl, ?_⟩⟩
              cases ev : valsD vs with
              | false =>
                rw [ev] at q
                exact iteF (q H2 (s1.trans s2))
              | true =>
                rw [ev] at q
                exact iteT ⟨ve, rfl, ve, e, 1, 1000000000, rfl, (he.up s1).up s2, q H2 (s1.trans s2)⟩
end
end K1

set_option maxRecDepth 100000
set_option maxHeartbeats 4000000
namespace K1
open PySem PySem.Spec PyProof.Rows L2 KX
abbrev sWB : Stmt := topS 20
abbrev sVN : Stmt := topS 21
abbrev sVR : Stmt := topS 22
/-! ### the law's own checks -/
theorem scWB : FnScope ["value", "low", "high"] ["value", "low", "high"] (defScope sWB) := ⟨rfl, rfl, rfl, by decide +kernel, rfl, by decide +kernel, by decide +kernel⟩
section
variable {P : Program} {w : World} {K : PySem.W.Frag} {mg : Str → Option Value} {base : Heap}
theorem ok_wb {f : Addr} {fd : FuncData} (B : Bl mg) (D : Df K mg "_law_whole_between" sWB ["value", "low", "high"] f fd) : FnOk P w K mg base CX0 1 f fd ["value", "low", "high"] spBetween := by
  refine D.F.ok scWB (fun vs H Q E h => ?_) (fun cdv A outer s H vs Q E hr h => ?_)
  · obtain ⟨v, d, lo, hi, rfl, _⟩ := h
    rfl
  · obtain ⟨v, d, lo, hi, rfl, hd, q⟩ := h
    refine ⟨_, pss_one (ps_ret (pe_and (pe_isD (T := "int") (x := "int") (by decide +kernel) B.isi B.int (by decide +kernel) (pv 0) (by rfl) (by rfl))
      (pe_and (pe_not (pe_isD (T := "bool") (x := "bool") (by decide +kernel) B.isi B.bool (by decide +kernel) (pv 0) (by rfl) (by rfl)))
      (pe_one (pe_chain op_le op_le (pv 1) (pv 0) (pv 2)))))), ?_⟩
    refine ⟨v, rfl, rfl, d, hd, _, rfl, ?_⟩
    rw [isa_int]
    cases d with
    | bool b => exact iteT ⟨v, rfl, rfl, _, hd, _, rfl, _, rfl, iteF q⟩
    | int i =>
      refine iteT ⟨v, rfl, rfl, _, hd, _, rfl, _, rfl, iteT ?_⟩
      cases hd
      refine ⟨_, rfl, _, rfl, lo, i, rfl, rfl, _, rfl, ?_⟩
      have e : betw lo hi (.int i) = (decide (lo ≤ i) && decide (i ≤ hi)) := rfl
      rw [e] at q
      by_cases h : lo ≤ i
      · rw [decide_eq_true h] at q ⊢
        exact iteT ⟨_, rfl, _, _, rfl, rfl, q⟩
      · rw [decide_eq_false h] at q ⊢
        exact iteF q
    | _ => exact iteF q
end
theorem scVN : FnScope ["value", "letter"] ["value"] (defScope sVN) := ⟨rfl, rfl, rfl, by decide +kernel, rfl, by decide +kernel, by decide +kernel⟩
/-- the signs that are no letters -/
def odd (l : List Nat) : List Str := (l.filter fun c => !decide (c ∈ abc.cps.toList)).map fun c => ⟨#[c]⟩
theorem odd_nil' : ∀ l : List Nat, (odd l).isEmpty = l.all fun c => decide (c ∈ abc.cps.toList)
  | [] => rfl
  | c :: l => by
    have ih := odd_nil' l
    unfold odd at ih ⊢
    rw [List.filter_cons, List.all_cons, ← ih]
    cases decide (c ∈ abc.cps.toList) <;> simp
theorem odd_nil (x : Str) : (odd x.cps.toList).isEmpty = letD x := odd_nil' _
theorem odd_in {c : Nat} (h : c ∈ abc.cps.toList) : odd [c] = [] := by
  unfold odd
  rw [List.filter_cons, decide_eq_true h]
  rfl
theorem odd_out {c : Nat} (h : ¬ c ∈ abc.cps.toList) : odd [c] = [⟨#[c]⟩] := by
  unfold odd
  rw [List.filter_cons, decide_eq_false h]
  rfl
section
variable {P : Program} {w : World} {K : PySem.W.Frag} {mg : Str → Option Value} {base : Heap}
theorem ok_vn {f : Addr} {fd : FuncData} (B : Bl mg) (D : Df K mg "_law_valid_name" sVN ["value"] f fd) : FnOk P w K mg base CX0 1 f fd ["value"] spName := by
  refine D.F.ok scVN (fun vs H Q E h => ?_) (fun cdv A outer s H vs Q E hr h => ?_)
  · obtain ⟨v, d, rfl, _⟩ := h
    rfl
  · obtain ⟨v, d, rfl, hd, hsm, q⟩ := h
    refine ⟨_, pss_cons (ps_if (PW.pt (pw_or (pt_not (pt_val (pe_isD (T := "str") (x := "str") (by decide +kernel) B.isi B.str (by decide +kernel) (pv 0) (by rfl) (by rfl))))
        (pw_or1 (pt_not (pt_chain op_lt op_lt pe_int (pe_callB call_len_str (by rfl) B.len PySem.boot_len (pa_cons (pv 0) pa_nil)) pe_int))))) (pss_one (ps_ret pe_bl)) pss_nil)
      (pss_one (ps_ret (pe_cmpR (op_eqP hr.units) (pe_lc (own := [("letter", 1)]) (g := gName 1) rfl scVN.nd (pi_str (pv 0)) (blkOk_by (N := ["value", "letter"]) (sc := defScope sVN) (by decide +kernel))
        (fun _ _ _ _ _ => pg_name (i := 1) scVN.nd rfl (Or.inl rfl)) (fun _ _ _ _ _ => pts_one (pt_cmpR op_notIn_sign (pv 1) pe_str (by rfl))) (fun _ _ _ _ _ => pv 1)) (pe_lst pa_nil) (nomark _)))), ?_⟩
    refine ⟨v, rfl, rfl, d, hd, _, rfl, ?_⟩
    rw [isa_str]
    cases d with
    | str x =>
      cases hd
      refine iteF ⟨.str x, rfl, x, rfl, hsm, 0, _, rfl, rfl, _, rfl, ?_⟩
      have en : nameD (.str x) = ((decide (1 ≤ (x.length : Int)) && decide ((x.length : Int) ≤ 8)) && letD x) := rfl
      rw [en] at q
      by_cases h1 : 1 ≤ (x.length : Int)
      · rw [decide_eq_true h1] at q
        rw [decide_eq_true (show (0 : Int) < (x.length : Int) by omega)]
        refine iteT ⟨_, _, rfl, rfl, _, rfl, ?_⟩
        by_cases h2 : (x.length : Int) ≤ 8
        · rw [decide_eq_true h2] at q
          rw [decide_eq_true (show (x.length : Int) < 9 by omega)]
          refine iteF ⟨_, rfl, x, rfl, fun D nD => ?_⟩
          refine lc_it walk_str (fun i G => Same H G ∧ G D = some (.lst ((odd (x.cps.toList.take i)).map V.str))) ⟨same_at (Same.refl H) nD, upd_same⟩ (fun _ _ _ _ => trivial) (fun i c G G' hi hp hy => ?_) (fun G hp => ?_)
          · obtain ⟨rfl, cc, ec, rfl⟩ := hy
            have et : x.cps.toList.take (i + 1) = x.cps.toList.take i ++ [cc] := by
              rw [List.take_add_one, show x.cps.toList[i]? = some cc by simpa using ec]
              rfl
            have eo : odd (x.cps.toList.take i ++ [cc]) = odd (x.cps.toList.take i) ++ odd [cc] := by
              unfold odd
              rw [List.filter_append, List.map_append]
            refine ⟨rfl, _, rfl, cc, abc, rfl, rfl, _, rfl, ?_⟩
            by_cases hc : cc ∈ abc.cps.toList
            · have e1 : odd [cc] = [] := odd_in hc
              rw [decide_eq_true hc]
              refine iteF ⟨hp.1, ?_⟩
              rw [et, eo, e1, List.append_nil]
              exact hp.2
            · have e1 : odd [cc] = [⟨#[cc]⟩] := odd_out hc
              rw [decide_eq_false hc]
              refine iteT ⟨_, rfl, _, hp.2, ?_, same_at hp.1 nD, ?_⟩
              · have h8 : (odd (x.cps.toList.take i)).length ≤ i := by
                  unfold odd
                  rw [List.length_map]
                  refine Nat.le_trans (List.length_filter_le _ _) ?_
                  rw [List.length_take]
                  exact Nat.min_le_left _ _
                have hx : x.cps.size = x.length := by simp [Str.length]
                have hb : (8 : Nat) < sizeLine := by decide
                rw [List.length_map]
                omega
              · rw [upd_same, et, eo, e1, List.map_append]
                rfl
          · have hx : x.cps.toList.take x.cps.size = x.cps.toList := List.take_of_length_le (by simp)
            rw [hx] at hp
            refine ⟨Nat.zero_le _, fun p np => ?_⟩
            refine ⟨.list ((odd x.cps.toList).map PyData.str), .list [], .lst (.inl (.inl ?_)) (dp_strs _), .lst (.inl (.inl upd_same)) .nil, pl_strs _, rfl, min_nil _, ?_⟩
            · rw [upd_ne (ne_of_none hp.2 np)]
              exact hp.2
            · rw [eqv_nil, List.isEmpty_map, odd_nil]
              exact q _ (same_at hp.1 (hp.1.free np))
        · rw [decide_eq_false h2] at q
          rw [decide_eq_false (show ¬ (x.length : Int) < 9 by omega)]
          exact iteT (q H (Same.refl H))
      · rw [decide_eq_false h1] at q
        rw [decide_eq_false (show ¬ (0 : Int) < (x.length : Int) by omega)]
        exact iteF ⟨_, rfl, iteT (q H (Same.refl H))⟩
    | _ => exact iteT (q H (Same.refl H))
end
end K1

set_option maxRecDepth 100000
set_option maxHeartbeats 4000000
namespace K1
open PySem PySem.Spec PyProof.Rows L2 KX
theorem scVR : FnScope ["value", "item"] ["value"] (defScope sVR) := ⟨rfl, rfl, rfl, by decide +kernel, rfl, by decide +kernel, by decide +kernel⟩
/-- a 1 for each that fails -/
def bads (f : PyData → Bool) (l : List PyData) : List Int := (l.filter fun c => !f c).map fun _ => (1 : Int)
theorem bads_nil (f : PyData → Bool) : ∀ l, (bads f l).isEmpty = l.all f
  | [] => rfl
  | c :: l => by
    have ih := bads_nil f l
    unfold bads at ih ⊢
    rw [List.filter_cons, List.all_cons, ← ih]
    cases f c <;> simp
theorem bads_add (f : PyData → Bool) (l : List PyData) (c : PyData) : bads f (l ++ [c]) = bads f l ++ (if f c then [] else [1]) := by
  unfold bads
  rw [List.filter_append, List.map_append, List.filter_cons]
  cases f c <;> rfl
theorem bads_len (f : PyData → Bool) (l : List PyData) : (bads f l).length ≤ l.length := by
  unfold bads
  rw [List.length_map]
  exact List.length_filter_le _ _
theorem iteNT {c A B : Prop} [Decidable c] (hc : ¬ c) (h : A) : if (!decide c) = true then A else B := by
  rw [decide_eq_false hc]
  exact iteT h
section
variable {P : Program} {w : World} {K : PySem.W.Frag} {mg : Str → Option Value} {base : Heap}
theorem ok_vr {f fW fN : Addr} {fd fdW fdN : FuncData} (B : Bl mg) (D : Df K mg "_law_valid_row" sVR ["value"] f fd) (DW : Df K mg "_law_whole_between" sWB ["value", "low", "high"] fW fdW)
    (DN : Df K mg "_law_valid_name" sVN ["value"] fN fdN) : FnOk P w K mg base CX0 2 f fd ["value"] spRow := by
  have GW : FnOk P w K mg base CX0 1 fW fdW _ spBetween := ok_wb B DW
  have GN : FnOk P w K mg base CX0 1 fN fdN _ spName := ok_vn B DN
  refine D.F.ok scVR (fun vs H Q E h => ?_) (fun cdv A outer s H vs Q E hr h => ?_)
  · obtain ⟨v, d, rfl, _⟩ := h
    rfl
  · obtain ⟨v, d, rfl, hd, hsm, q⟩ := h
    have nd := scVR.nd
    refine ⟨_, pss_cons (ps_if (PW.pt (pw_or (pt_not (pt_val (pe_isD (T := "tuple") (x := "tuple") (by decide +kernel) B.isi B.tuple (by decide +kernel) (pv 0) (by rfl) (by rfl))))
        (pw_or (pt_cmpR op_ne (pe_callB call_len_seq (by rfl) B.len PySem.boot_len (pa_cons (pv 0) pa_nil)) pe_int (nomark _))
        (pw_or1 (pt_not (pt_val (pe_isD (T := "tuple") (x := "tuple") (by decide +kernel) B.isi B.tuple (by decide +kernel) (pe_ix ix_tup (pv 0) pe_int (fun _ _ => rfl)) (by rfl) (by rfl)))))))) (pss_one (ps_ret pe_bl)) pss_nil)
      (pss_cons (ps_if (PW.pt (pw_or (pt_not (pt_val (pe_call GN hr (by rfl) DN.g DN.F.kp DN.b .nil pass0 (pa_cons (pe_ix ix_tup (pv 0) pe_int (fun _ _ => rfl)) pa_nil))))
        (pw_or (pt_not (pt_val (pe_call GW hr (by rfl) DW.g DW.F.kp DW.b .nil pass0 (pa_cons (pe_ix ix_tup (pv 0) pe_int (fun _ _ => rfl)) (pa_cons pe_int (pa_cons (pe_op op_pow pe_int pe_int) pa_nil))))))
        (pw_or1 (pt_not (pt_chain op_lt op_lt pe_int (pe_callB call_len_seq (by rfl) B.len PySem.boot_len (pa_cons (pe_ix ix_tup (pv 0) pe_int (fun _ _ => rfl)) pa_nil)) pe_int)))))) (pss_one (ps_ret pe_bl)) pss_nil)
      (pss_cons (ps_if (pt_cmpR (op_neP hr.units) (pe_lc (own := [("item", 1)]) (g := gName 1) rfl nd (pi_tup (pe_ix ix_tup (pv 0) pe_int (fun _ _ => rfl))) (blkOk_by (N := ["value", "item"]) (sc := defScope sVR) (by decide +kernel))
          (fun _ _ _ _ _ => pg_name (i := 1) nd rfl (Or.inl rfl))
          (fun _ _ _ _ _ => pts_one (pt_not (pt_val (pe_call GW hr (by rfl) DW.g DW.F.kp DW.b .nil pass0 (pa_cons (pv 1) (pa_cons (pe_un un_neg (pe_op op_pow pe_int pe_int)) (pa_cons (pe_op op_pow pe_int pe_int) pa_nil)))))))
          (fun _ _ _ _ _ => pe_int)) (pe_lst pa_nil) (nomark _)) (pss_one (ps_ret pe_bl)) pss_nil)
      (pss_one (ps_ret (pe_call GW hr (by rfl) DW.g DW.F.kp DW.b .nil pass0 (pa_cons (pe_ix ix_tup (pv 0) pe_int (fun _ _ => rfl)) (pa_cons pe_int (pa_cons (pe_op op_pow pe_int pe_int) pa_nil)))))))), ?_⟩
    refine ⟨v, rfl, rfl, d, hd, _, rfl, ?_⟩
    rw [isa_tuple]
    cases d with
    | tuple ds =>
      cases hd with
      | @tup a xs _ ea h =>
        refine iteF ⟨.ref a, rfl, a, xs, rfl, .inr (.inl (.inl ea)), ?_⟩
        by_cases h4 : ds.length = 4
        · match ds, xs, h, ea, h4 with
          | [n, c, vs, e], [vn, vc, vv, ve], .cons hn (.cons hc (.cons hv (.cons he .nil))), ea, _ =>
          have sn : smS n := hsm n (by simp)
          have er : rowD (.tuple [n, c, vs, e]) = (nameD n && betw 1 1000000 c && (valsD vs && betw 1 1000000000 e)) := rfl
          rw [er] at q
          refine ⟨rfl, _, rfl, iteF ⟨.ref a, rfl, a, _, 2, vv, rfl, rfl, .inl (.inl ea), rfl, rfl, vs, hv, _, rfl, ?_⟩⟩
          rw [isa_tuple]
          cases vs with
          | tuple zs =>
            refine iteF ⟨.ref a, rfl, a, _, 0, vn, rfl, rfl, .inl (.inl ea), rfl, vn, n, rfl, hn, sn, fun H1 s1 => ⟨_, rfl, ?_⟩⟩
            cases en : nameD n with
            | false =>
              rw [en] at q
              exact iteT (iteT (q H1 s1))
            | true =>
              rw [en] at q
              refine iteF ⟨.ref a, rfl, a, _, 1, vc, rfl, rfl, .inl (.inl (s1 _ _ ea)), rfl, 10, 6, rfl, rfl, ⟨by decide, by decide, by decide⟩, vc, c, 1, 1000000, rfl, hc.up s1, _, rfl, ?_⟩
              cases ec : betw 1 1000000 c with
              | false =>
                rw [ec] at q
                exact iteT (iteT (q H1 s1))
              | true =>
                rw [ec] at q
                cases hv with
                | @tup z zv _ ez hz =>
                  have ev : valsD (.tuple zs) = ((decide (1 ≤ (zs.length : Int)) && decide ((zs.length : Int) ≤ 4)) && zs.all (betw (-1000000000) 1000000000)) := rfl
                  rw [ev] at q
                  refine iteF ⟨.ref a, rfl, a, _, 2, _, rfl, rfl, .inl (.inl (s1 _ _ ea)), rfl, z, zv, rfl, .inr (.inl (.inl (s1 _ _ ez))), 0, _, rfl, rfl, _, rfl, ?_⟩
                  rw [hz.len]
                  by_cases h1 : 1 ≤ (zs.length : Int)
                  · rw [decide_eq_true h1] at q
                    rw [decide_eq_true (show (0 : Int) < (zs.length : Int) by omega)]
                    refine iteT ⟨_, 5, rfl, rfl, _, rfl, ?_⟩
                    by_cases h2 : (zs.length : Int) ≤ 4
                    · rw [decide_eq_true h2] at q
                      rw [decide_eq_true (show (zs.length : Int) < 5 by omega)]
                      refine iteF ⟨.ref a, rfl, a, _, 2, _, rfl, rfl, .inl (.inl (s1 _ _ ea)), rfl, z, rfl, ⟨_, .inl (.inl (s1 _ _ ez))⟩, fun D nD => ?_⟩
                      refine lc_tup (xs := zv) (fun i G => Same H1 G ∧ G D = some (.lst ((bads (betw (-1000000000) 1000000000) (zs.take i)).map V.int))) ⟨same_at (Same.refl H1) nD, upd_same⟩
                        (fun i G hi hp => .inl (.inl (hp.1 _ _ (s1 _ _ ez)))) (fun i x G hx hp => ?_) (fun G hp => ?_)
                      · obtain ⟨d, ed, hd⟩ := hz.get' hx
                        have et : zs.take (i + 1) = zs.take i ++ [d] := by
                          rw [List.take_add_one, ed]
                          rfl
                        have hlen : (bads (betw (-1000000000) 1000000000) (zs.take i)).length < sizeLine := by
                          have q1 := bads_len (betw (-1000000000) 1000000000) (zs.take i)
                          rw [List.length_take] at q1
                          have hb : (4 : Nat) < sizeLine := by decide
                          omega
                        refine ⟨rfl, x, rfl, 10, 9, rfl, rfl, ⟨by decide, by decide, by decide⟩, _, rfl, 10, 9, rfl, rfl, ⟨by decide, by decide, by decide⟩, x, d, -1000000000, 1000000000, rfl, (hd.up s1).up hp.1, _, rfl, ?_⟩
                        rw [et, bads_add]
                        cases betw (-1000000000) 1000000000 d with
                        | true =>
                          refine iteF ⟨hp.1, ?_⟩
                          rw [if_pos rfl, List.append_nil]
                          exact hp.2
                        | false =>
                          refine iteT ⟨_, hp.2, ?_, same_at hp.1 nD, ?_⟩
                          · rw [List.length_map]
                            exact hlen
                          · rw [upd_same, if_neg (by decide), List.map_append]
                            rfl
                      · have hx : zs.take zv.length = zs := List.take_of_length_le (by rw [hz.len]; exact Nat.le_refl _)
                        rw [hx] at hp
                        refine ⟨Nat.zero_le _, fun p np => ?_⟩
                        have s2 : Same H1 (upd G p (.lst [])) := same_at hp.1 (hp.1.free np)
                        refine ⟨.list ((bads (betw (-1000000000) 1000000000) zs).map PyData.int), .list [], .lst (.inl (.inl ?_)) (dp_ints _), .lst (.inl (.inl upd_same)) .nil, pl_ints _, rfl, min_nil _, _, rfl, ?_⟩
                        · rw [upd_ne (ne_of_none hp.2 np)]
                          exact hp.2
                        · rw [eqv_nil, List.isEmpty_map, bads_nil]
                          cases ea2 : zs.all (betw (-1000000000) 1000000000) with
                          | false =>
                            rw [ea2] at q
                            exact iteT (q _ (s1.trans s2))
                          | true =>
                            rw [ea2] at q
                            refine iteF ⟨.ref a, rfl, a, _, 3, ve, rfl, rfl, .inl (.inl (s2 _ _ (s1 _ _ ea))), rfl, 10, 9, rfl, rfl, ⟨by decide, by decide, by decide⟩, ve, e, 1, 1000000000, rfl, (he.up s1).up s2, q _ (s1.trans s2)⟩
                    · rw [decide_eq_false h2] at q
                      rw [decide_eq_false (show ¬ (zs.length : Int) < 5 by omega)]
                      exact iteT (q H1 s1)
                  · rw [decide_eq_false h1] at q
                    rw [decide_eq_false (show ¬ (0 : Int) < (zs.length : Int) by omega)]
                    exact iteF ⟨_, rfl, iteT (q H1 s1)⟩
          | _ =>
            have ev : (nameD n && betw 1 1000000 c && (false && betw 1 1000000000 e)) = false := by simp
            have q2 : ∀ H', Same H H' → Q (.bl false) H' := fun H' s => by
              have := q H' s
              rw [show valsD _ = false from rfl, ev] at this
              exact this
            exact iteT (q2 H (Same.refl H))
        · have er : rowD (.tuple ds) = false := by
            unfold rowD
            split
            · rename_i heq
              cases heq
              exact absurd rfl h4
            · rfl
          rw [er] at q
          refine ⟨rfl, _, rfl, iteNT (fun z => h4 ?_) (iteT (q H (Same.refl H)))⟩
          have z2 := V.int.inj z
          rw [h.len] at z2
          omega
    | _ => exact iteT (q H (Same.refl H))
end
end K1

set_option maxRecDepth 100000
set_option maxHeartbeats 4000000
namespace K1
open PySem PySem.Spec PyProof.Rows L2 KX
abbrev sDraw : Stmt := topS 15
abbrev sStream : Stmt := topS 14
def spDraw : Sp := fun vs H Q _ => ∃ (l : Addr) (t : Int), vs = [.ref l, .int t] ∧ StO H l ∧ 0 < t ∧ t < 2 ^ 64 ∧ ∀ H' n, Keep l H H' → StO H' l → 0 ≤ n → n < t → Q (.int n) H'
theorem scDraw : FnScope ["stream", "total", "found", "one", "stir", "two"] ["stream", "total"] (defScope sDraw) := ⟨rfl, rfl, rfl, by decide +kernel, rfl, by decide +kernel, by decide +kernel⟩
theorem i63 {a b c : Int} : atI [V.int a, V.int b, V.int c] 0 = some (V.int a) ∧ atI [V.int a, V.int b, V.int c] 1 = some (V.int b) ∧ atI [V.int a, V.int b, V.int c] 2 = some (V.int c) := ⟨rfl, rfl, rfl⟩
theorem mod_bd {x m : Int} (h : 0 < m) (h2 : m < 2 ^ 64) : -(2 ^ 64) < x % m ∧ x % m < 2 ^ 64 := by
  have a := Int.emod_nonneg x (show m ≠ 0 by omega)
  have b := Int.emod_lt_of_pos x h
  omega
section
variable {P : Program} {w : World} {K : PySem.W.Frag} {mg : Str → Option Value} {base : Heap}
theorem ok_draw {f : Addr} {fd : FuncData} (B : Bl mg) (D : Df K mg "_law_draw" sDraw ["stream", "total"] f fd) : FnOk P w K mg base CX0 1 f fd ["stream", "total"] spDraw := by
  refine D.F.ok scDraw (fun vs H Q E h => ?_) (fun cdv A outer s H vs Q E hr h => ?_)
  · obtain ⟨l, t, rfl, _⟩ := h
    rfl
  · obtain ⟨l, t, rfl, ⟨a, b, c, el⟩, t0, t1, q⟩ := h
    have nd := scDraw.nd
    refine ⟨_, pss_cons (ps_if (pt_cmpR op_gt (pe_ix ix_list (pv 0) pe_int (fun _ _ => rfl)) pe_int (nomark _))
        (pss_cons (ps_set (i := 2) nd rfl (.inl rfl) (pe_op op_mod (pe_ix ix_list (pv 0) pe_int (fun _ _ => rfl)) (pv 1)))
        (pss_cons (ps_asg (pe_op op_fdivW (pe_ix ix_list (pv 0) pe_int (fun _ _ => rfl)) (pv 1)) (pg_sub (pv 0) pe_int set_list))
        (pss_one (ps_ret (pv 2))))) pss_nil)
      (pss_cons (ps_asg (pe_op op_add (pe_ix ix_list (pv 0) pe_int (fun _ _ => rfl)) pe_int) (pg_sub (pv 0) pe_int set_list))
      (pss_cons (ps_set (i := 3) nd rfl (.inl rfl) (pe_op op_mod (pe_op op_add (pe_ix ix_list (pv 0) pe_int (fun _ _ => rfl)) (pe_op op_mul pe_int (pe_ix ix_list (pv 0) pe_int (fun _ _ => rfl)))) pe_int))
      (pss_cons (ps_set (i := 4) nd rfl (.inl rfl) (pe_op op_add (pe_op op_mul (pe_op op_mod (pe_op op_mul (pv 3) (pv 3)) pe_int) (pv 3)) (pe_op op_mul pe_int (pe_ix ix_list (pv 0) pe_int (fun _ _ => rfl)))))
      (pss_cons (ps_set (i := 5) nd rfl (.inl rfl) (pe_op op_mod (pe_op op_add (pv 4) (pe_op op_mod (pe_ix ix_list (pv 0) pe_int (fun _ _ => rfl)) pe_int)) pe_int))
      (pss_one (ps_ret (pe_op op_mod (pe_op op_add (pe_op op_fdiv (pe_op op_mod (pe_op op_mul (pv 5) (pv 5)) pe_int) pe_int)
        (pe_op op_mul (pe_op op_mul (pv 3) pe_int) (pe_callTy call_int1 (by rfl) B.int (by decide +kernel) (pa_cons (pe_cmpR op_gt (pv 1) (pe_op op_pow pe_int pe_int) (nomark _)) pa_nil)))) (pv 1)))))))), ?_⟩
    refine ⟨.ref l, rfl, l, _, 0, .int a, rfl, rfl, .inl (.inl el), rfl, a, 0, rfl, rfl, _, rfl, ite2 (fun h => ?_) fun h => ?_⟩
    · refine ⟨.ref l, rfl, l, _, 0, .int a, rfl, rfl, .inl (.inl el), rfl, .int t, rfl, a, t, rfl, rfl, t0, ?_⟩
      refine ⟨.ref l, rfl, l, _, 0, .int a, rfl, rfl, .inl (.inl el), rfl, .int t, rfl, a, t, rfl, rfl, wide_div (b := 64) t0 (by omega) (by decide) (by decide), ?_⟩
      refine ⟨.ref l, rfl, l, _, 0, 0, rfl, rfl, el, rfl, .int (a % t), rfl, ?_⟩
      exact q _ _ Keep.at ⟨_, _, _, upd_same⟩ (Int.emod_nonneg a (by omega)) (Int.emod_lt_of_pos a t0)
    · refine ⟨.ref l, rfl, l, _, 2, .int c, rfl, rfl, .inl (.inl el), rfl, c, 1, rfl, rfl, .ref l, rfl, l, _, 2, 2, rfl, rfl, el, rfl, ?_⟩
      have e2 : (upd H l (.lst [.int a, .int b, .int (c + 1)])) l = some (.lst [.int a, .int b, .int (c + 1)]) := upd_same
      refine ⟨.ref l, rfl, l, _, 1, .int b, rfl, rfl, .inl (.inl e2), rfl, .ref l, rfl, l, _, 2, .int (c + 1), rfl, rfl, .inl (.inl e2), rfl, 1500450271, c + 1, rfl, rfl, .inl ⟨by decide, by decide⟩,
        b, _, rfl, rfl, _, 4294967279, rfl, rfl, (show (0 : Int) < 4294967279 by decide), ?_⟩
      have o1 := mod_bd (x := b + 1500450271 * (c + 1)) (m := 4294967279) (by decide) (by decide)
      refine ⟨_, rfl, _, rfl, _, _, rfl, rfl, .inl o1, _, 4294967231, rfl, rfl, (show (0 : Int) < 4294967231 by decide), _, rfl, _, _, rfl, rfl, .inr o1,
        .ref l, rfl, l, _, 2, .int (c + 1), rfl, rfl, .inl (.inl e2), rfl, 10007, c + 1, rfl, rfl, .inl ⟨by decide, by decide⟩, _, _, rfl, rfl, ?_⟩
      refine ⟨_, rfl, .ref l, rfl, l, _, 1, .int b, rfl, rfl, .inl (.inl e2), rfl, b, 65537, rfl, rfl, (show (0 : Int) < 65537 by decide), _, _, rfl, rfl, _, 4294967197, rfl, rfl, (show (0 : Int) < 4294967197 by decide), ?_⟩
      have o2 : ∀ x : Int, -(2 ^ 64) < x % 4294967197 ∧ x % 4294967197 < 2 ^ 64 := fun x => mod_bd (x := x) (m := 4294967197) (by decide) (by decide)
      refine ⟨_, rfl, _, rfl, _, _, rfl, rfl, .inl (o2 _), _, 4294967189, rfl, rfl, (show (0 : Int) < 4294967189 by decide), _, 64, rfl, rfl, (show (0 : Int) < 64 ∧ (64 : Int) < 1073741824 by decide), ?_⟩
      refine ⟨_, rfl, _, 67108864, rfl, rfl, .inl o1, .int t, rfl, 10, 6, rfl, rfl, ⟨by decide, by decide, by decide⟩, t, _, rfl, rfl, .inr ⟨_, rfl, ?_⟩⟩
      refine ⟨_, _, rfl, rfl, .inr ?_, _, _, rfl, rfl, .int t, rfl, _, t, rfl, rfl, t0, ?_⟩
      · split <;> decide
      · exact q _ _ Keep.at ⟨_, _, _, upd_same⟩ (Int.emod_nonneg _ (by omega)) (Int.emod_lt_of_pos _ t0)
end
/-! ### _law_stream -/
def spStream (K : PySem.W.Frag) : Sp := fun vs H Q _ => ∃ (a : Addr) (ns : List Int) (k : Int), vs = [.ref a, .int k] ∧ SqL K H a (ns.map V.int) ∧ 0 ≤ k ∧ k ≤ 1000 ∧ ∀ H' p, Same H H' → H p = none → StO H' p → Q (.ref p) H'
theorem scStream : FnScope ["script", "at", "cell", "great"] ["script", "at"] (defScope sStream) := ⟨rfl, rfl, rfl, by decide +kernel, rfl, by decide +kernel, by decide +kernel⟩
section
variable {P : Program} {w : World} {K : PySem.W.Frag} {mg : Str → Option Value} {base : Heap}
theorem ok_stream {f : Addr} {fd : FuncData} (B : Bl mg) (D : Df K mg "_law_stream" sStream ["script", "at"] f fd) : FnOk P w K mg base CX0 1 f fd ["script", "at"] (spStream K) := by
  refine D.F.ok scStream (fun vs H Q E h => ?_) (fun cdv A outer s H vs Q E hr h => ?_)
  · obtain ⟨a, ns, k, rfl, _⟩ := h
    rfl
  · obtain ⟨a, ns, k, rfl, hS, k0, k1, q⟩ := h
    have nd := scStream.nd
    refine ⟨_, pss_cons (ps_set (i := 2) nd rfl (.inl rfl) (pe_op op_add (pe_op op_mul pe_int (pv 1)) pe_int))
      (pss_cons (ps_if (pt_cmpR op_lt (pv 1) (pe_callB call_len_seq (by rfl) B.len PySem.boot_len (pa_cons (pv 0) pa_nil)) (nomark _))
        (pss_one (ps_set (i := 2) nd rfl (.inl rfl) (pe_ix ix_list (pv 0) (pv 1) (fun _ _ => rfl)))) pss_nil)
      (pss_cons (ps_set (i := 3) nd rfl (.inl rfl) (pe_op op_mod (pe_callB call_abs (by rfl) B.abs (by decide +kernel) (pa_cons (pv 2) pa_nil)) (pe_op op_powW (pe_op op_pow pe_int pe_int) pe_int)))
      (pss_one (ps_ret (pe_lst (pa_cons (pe_callB (call_max2 rfl) (by rfl) B.max (by decide +kernel) (pa_cons pe_int (pa_cons (pe_op op_sub (pv 3) (pe_op op_pow pe_int pe_int)) pa_nil)))
        (pa_cons (pe_op op_mod (pe_op op_add (pe_op op_add (pe_op op_add (pe_op op_mul (pv 3) pe_int) (pe_op op_mul pe_int (pv 1))) (pe_op op_mul pe_int (pe_callTy call_int1 (by rfl) B.int (by decide +kernel) (pa_cons (pe_cmpR op_lt (pv 2) pe_int (nomark _)) pa_nil)))) pe_int) pe_int)
        (pa_cons pe_int pa_nil)))))))), ?_⟩
    refine ⟨.int k, rfl, 5, k, rfl, rfl, .inl ⟨by decide, by decide⟩, _, 3, rfl, rfl, ?_⟩
    have c1 : (0 : Int) ≤ 60 ∧ (60 : Int) ≤ 1000000 ∧ (10 : Int).natAbs < 2 ^ 64 := by decide
    have c2 : (0 : Int) ≤ 12 ∧ ((Builtin.Int.intBits ((10 : Int) ^ (60 : Int).toNat) : Nat) : Int) * 12 ≤ 2 ^ 27 := by decide +kernel
    have c3 : (0 : Int) < ((10 : Int) ^ (60 : Int).toNat) ^ (12 : Int).toNat := by decide +kernel
    have c4 : (0 : Int) ≤ 17 ∧ (17 : Int) ≤ 1000000 ∧ (10 : Int).natAbs < 2 ^ 64 := by decide
    have c5 : (0 : Int) < 4294967291 := by decide
    refine ⟨.int k, rfl, .ref a, rfl, a, _, rfl, .inl hS, k, _, rfl, rfl, _, rfl, ite2 (fun h => ?_) (fun h => ?_)⟩
    · have hk : k < (ns.map V.int).length := of_decide_eq_true h
      rw [List.length_map] at hk
      have hk2 : k.toNat < ns.length := by omega
      refine ⟨.ref a, rfl, .int k, rfl, a, _, k, .int ns[k.toNat], rfl, rfl, hS, ?_, ?_⟩
      · have e : ((k.toNat : Nat) : Int) = k := by omega
        have z : atI (ns.map V.int) ((k.toNat : Nat) : Int) = some (.int ns[k.toNat]) := atI_nat (by
          rw [List.getElem?_map, List.getElem?_eq_getElem hk2]
          rfl)
        rw [e] at z
        exact z
      · refine ⟨_, rfl, _, rfl, 10, 60, rfl, rfl, c1, _, 12, rfl, rfl, c2, _, _, rfl, rfl, c3, ?_⟩
        refine ⟨_, rfl, 10, 17, rfl, rfl, c4, _, _, rfl, rfl, _, _, rfl, ?_⟩
        refine ⟨_, rfl, _, 9576890767, rfl, rfl, .inr ⟨by decide, by decide⟩, .int k, rfl, 611953, k, rfl, rfl, .inl ⟨by decide, by decide⟩, _, _, rfl, rfl, ?_⟩
        refine ⟨_, rfl, _, 0, rfl, rfl, .inr ⟨_, rfl, 2, _, rfl, rfl, .inl ⟨by decide, by decide⟩, _, _, rfl, rfl, _, 7, rfl, rfl, _, _, rfl, rfl, c5, ?_⟩⟩
        refine ⟨by show 3 ≤ sizeLine; decide, fun p np => ?_⟩
        exact q _ p (same_new np) np ⟨_, _, _, upd_same⟩
    · refine ⟨_, rfl, _, rfl, 10, 60, rfl, rfl, c1, _, 12, rfl, rfl, c2, _, _, rfl, rfl, c3, ?_⟩
      refine ⟨_, rfl, 10, 17, rfl, rfl, c4, _, _, rfl, rfl, _, _, rfl, ?_⟩
      refine ⟨_, rfl, _, 9576890767, rfl, rfl, .inr ⟨by decide, by decide⟩, .int k, rfl, 611953, k, rfl, rfl, .inl ⟨by decide, by decide⟩, _, _, rfl, rfl, ?_⟩
      refine ⟨_, rfl, _, 0, rfl, rfl, .inr ⟨_, rfl, 2, _, rfl, rfl, .inl ⟨by decide, by decide⟩, _, _, rfl, rfl, _, 7, rfl, rfl, _, _, rfl, rfl, c5, ?_⟩⟩
      refine ⟨by show 3 ≤ sizeLine; decide, fun p np => ?_⟩
      exact q _ p (same_new np) np ⟨_, _, _, upd_same⟩
end
end K1

set_option maxRecDepth 100000
set_option maxHeartbeats 4000000
namespace K1
open PySem PySem.Spec PyProof.Rows L2 KX
abbrev sUnr : Stmt := topS 18
/-! ### _law_unrelated -/
def unr : List PyData := [.none, .bool true, .bool false, .int 0, .int 1, .int (-1), .str "", .str "a", .str "A", .str "a-b", .tuple [], .list [], .dict [], .tuple [.int 1], .tuple [.str "a"], .tuple [.str "a", .int 1, .tuple [.int 0], .int 1], .int ((10 : Int) ^ (39 : Int).toNat)]
theorem unr_good : ∀ d ∈ unr, Good (10 ^ 40) 8 d := by
  have h : (unr.all fun d => fine (10 ^ 40) d && decide (wt d ≤ 8)) = true := by decide +kernel
  intro d hd
  have := List.all_eq_true.mp h d hd
  rw [Bool.and_eq_true] at this
  exact ⟨this.1, of_decide_eq_true this.2⟩
def spUnr : Sp := fun vs H Q _ => ∃ (l : Addr), vs = [.ref l] ∧ StO H l ∧ ∀ H' v d, Keep l H H' → StO H' l → Dx (hid l H') v d → d ∈ unr → Q v H'
theorem scUnr : FnScope ["stream", "some"] ["stream"] (defScope sUnr) := ⟨rfl, rfl, rfl, by decide +kernel, rfl, by decide +kernel, by decide +kernel⟩
section
variable {P : Program} {w : World} {K : PySem.W.Frag} {mg : Str → Option Value} {base : Heap}
theorem ok_unr {f fD : Addr} {fd fdD : FuncData} (B : Bl mg) (D : Df K mg "_law_unrelated" sUnr ["stream"] f fd) (DD : Df K mg "_law_draw" sDraw ["stream", "total"] fD fdD) : FnOk P w K mg base CX0 2 f fd ["stream"] spUnr := by
  have GD : FnOk P w K mg base CX0 1 fD fdD _ spDraw := ok_draw B DD
  refine D.F.ok scUnr (fun vs H Q E h => ?_) (fun cdv A outer s H vs Q E hr h => ?_)
  · obtain ⟨l, rfl, _⟩ := h
    rfl
  · obtain ⟨l, rfl, hs, q⟩ := h
    have nd := scUnr.nd
    refine ⟨_, pss_cons (ps_set (i := 1) nd rfl (.inl rfl) (pe_lst (pa_cons pe_non (pa_cons pe_bl (pa_cons pe_bl (pa_cons pe_int (pa_cons pe_int (pa_cons (pe_un un_neg pe_int) (pa_cons pe_str (pa_cons pe_str (pa_cons pe_str (pa_cons pe_str
        (pa_cons (pe_tup pa_nil) (pa_cons (pe_lstS pa_nil) (pa_cons pe_dnewK (pa_cons (pe_tup (pa_cons pe_int pa_nil)) (pa_cons (pe_tup (pa_cons pe_str pa_nil)) (pa_cons (pe_tup (pa_cons pe_str (pa_cons pe_int (pa_cons (pe_tup (pa_cons pe_int pa_nil)) (pa_cons pe_int pa_nil)))))
        (pa_cons (pe_op op_pow pe_int pe_int) pa_nil))))))))))))))))))) 
      (pss_one (ps_ret (pe_ix ix_list (pv 1) (pe_call GD hr (by rfl) DD.g DD.F.kp DD.b .nil pass0 (pa_cons (pv 0) (pa_cons pe_int pa_nil))) (fun _ _ => rfl)))), ?_⟩
    refine ⟨1, rfl, by show 0 ≤ sizeLine; decide, fun p1 n1 => ?_⟩
    have h1 := hs.new (o := .tup []) n1
    have d1 : Dx (hid l _) _ _ := dx_tup n1 hs .nil
    refine ⟨by show 0 ≤ sizeLine; decide, fun p2 n2 z2 => ?_⟩
    have h2 := h1.new (o := .lst []) n2
    have d2 : Dx (hid l _) _ _ := dx_lst n2 z2 h1 .nil
    refine fun p3 n3 => ?_
    have h3 := h2.new (o := .dK []) n3
    have d3 : Dx (hid l _) _ _ := dx_dic n3 h2
    refine ⟨by show 1 ≤ sizeLine; decide, fun p4 n4 => ?_⟩
    have h4 := h3.new (o := .tup [.int 1]) n4
    have d4 : Dx (hid l _) _ _ := dx_tup n4 h3 (.cons (.int 1) .nil)
    refine ⟨by show 1 ≤ sizeLine; decide, fun p5 n5 => ?_⟩
    have h5 := h4.new (o := .tup [.str "a"]) n5
    have d5 : Dx (hid l _) _ _ := dx_tup n5 h4 (.cons (.str "a") .nil)
    refine ⟨by show 1 ≤ sizeLine; decide, fun p6 n6 => ?_⟩
    have h6 := h5.new (o := .tup [.int 0]) n6
    have d6 : Dx (hid l _) _ _ := dx_tup n6 h5 (.cons (.int 0) .nil)
    refine ⟨by show 4 ≤ sizeLine; decide, fun p7 n7 => ?_⟩
    have h7 := h6.new (o := .tup [.str "a", .int 1, .ref p6, .int 1]) n7
    have d7 : Dx (hid l _) _ _ := dx_tup n7 h6 (.cons (.str "a") (.cons (.int 1) (.cons d6 (.cons (.int 1) .nil))))
    refine ⟨10, 39, rfl, rfl, ⟨by decide, by decide, by decide⟩, by show 17 ≤ sizeLine; decide, fun p8 n8 => ?_⟩
    have s2 := hnew (l := l) (o := .lst []) n2
    have s3 := hnew (l := l) (o := .dK []) n3
    have s4 := hnew (l := l) (o := .tup [.int 1]) n4
    have s5 := hnew (l := l) (o := .tup [.str "a"]) n5
    have s6 := hnew (l := l) (o := .tup [.int 0]) n6
    have s7 := hnew (l := l) (o := .tup [.str "a", .int 1, .ref p6, .int 1]) n7
    have all : Dxs (hid l _) _ unr := Dxs.cons .non (.cons (.bl true) (.cons (.bl false) (.cons (.int 0) (.cons (.int 1) (.cons (.int (-1)) (.cons (.str "") (.cons (.str "a") (.cons (.str "A") (.cons (.str "a-b")
      (.cons ((((((d1.up s2).up s3).up s4).up s5).up s6).up s7) (.cons (((((d2.up s3).up s4).up s5).up s6).up s7) (.cons ((((d3.up s4).up s5).up s6).up s7) (.cons (((d4.up s5).up s6).up s7) (.cons ((d5.up s6).up s7) (.cons d7 (.cons (.int _) .nil))))))))))))))))
    refine ⟨_, rfl, .ref l, rfl, l, 17, rfl, h7.new n8, by decide, by decide, fun H' n k st n0 n17 => ?_⟩
    obtain ⟨v, ev, dv⟩ := all.get (i := n.toNat) (d := unr[n.toNat]'(by show n.toNat < 17; omega)) (List.getElem?_eq_getElem _)
    have pl : H' p8 = some _ := k _ _ (h7.ne n8) upd_same
    refine ⟨p8, _, n, v, rfl, rfl, .inl (.inl pl), ?_, ?_⟩
    · have e : ((n.toNat : Nat) : Int) = n := by omega
      rw [← e]
      exact atI_nat ev
    · refine q H' v _ (((((((((Keep.refl l H).new n1).new n2).new n3).new n4).new n5).new n6).new n7).new n8 |>.trans k) st ((dv.up (hnew n8)).up k.same) (List.getElem_mem _)
end
end K1

set_option maxRecDepth 100000
set_option maxHeartbeats 4000000
namespace K1
open PySem PySem.Spec PyProof.Rows L2 KX
abbrev sNm : Stmt := topS 16
/-! ### _law_name -/
def baseL (n : Nat) : List Nat := [97 + n / 2 % 26] ++ (if n % 2 = 1 then [97] else []) ++ (if n > 51 then [97 + n / 52] else [])
def Lets (l : List Nat) : Prop := ∀ c ∈ l, 97 ≤ c ∧ c ≤ 122
def NameOf (n : Nat) (x : Str) : Prop := ∃ suf : List Nat, x.cps.toList = baseL n ++ suf ∧ Lets suf ∧ (suf.length = 0 ∨ (n % 2 = 1 ∧ n < 52 ∧ (suf.length = 2 ∨ suf.length = 6)))
theorem abc_at : ∀ i : Nat, i < 26 → abc.cps.toList[i]? = some (97 + i) := by decide +kernel
theorem abc_has : ∀ c : Nat, 97 ≤ c → c ≤ 122 → c ∈ abc.cps.toList := fun c h1 h2 => by
  have h := abc_at (c - 97) (by omega)
  rw [show 97 + (c - 97) = c by omega] at h
  exact List.mem_of_getElem? h
theorem abc_len : abc.length ≤ sizeLine := by decide +kernel
theorem app_cps (x y : Str) : (x ++ y).cps.toList = x.cps.toList ++ y.cps.toList := by
  show (x.cps ++ y.cps).toList = _
  simp
theorem base_cps (a b : Nat) (p q : Prop) [Decidable p] [Decidable q] : (((⟨#[a]⟩ : Str) ++ (if p then ("a" : Str) else "")) ++ (if q then (⟨#[b]⟩ : Str) else "")).cps.toList = [a] ++ (if p then [97] else []) ++ (if q then [b] else []) := by
  rw [app_cps, app_cps]
  by_cases hp : p
  · rw [if_pos hp, if_pos hp]
    by_cases hq : q
    · rw [if_pos hq, if_pos hq]; rfl
    · rw [if_neg hq, if_neg hq]; rfl
  · rw [if_neg hp, if_neg hp]
    by_cases hq : q
    · rw [if_pos hq, if_pos hq]; rfl
    · rw [if_neg hq, if_neg hq]; rfl
theorem b2i_one {c : Prop} [Decidable c] : ((if decide c = true then (1 : Int) else 0) = 1) ↔ c := by
  by_cases h : c
  · rw [decide_eq_true h, if_pos rfl]; simp [h]
  · rw [decide_eq_false h, if_neg (by decide)]; simp [h]
theorem len_cps (x : Str) : x.length = x.cps.toList.length := by simp [Str.length]
def spNm : Sp := fun vs H Q _ => ∃ (l : Addr) (n : Nat), vs = [.ref l, .int (n : Int)] ∧ StO H l ∧ n < 60 ∧ ∀ H' x, Keep l H H' → StO H' l → NameOf n x → Q (.str x) H'
theorem scNm : FnScope ["stream", "at", "letters", "name", "turn"] ["stream", "at"] (defScope sNm) := ⟨rfl, rfl, rfl, by decide +kernel, rfl, by decide +kernel, by decide +kernel⟩
section
variable {P : Program} {w : World} {K : PySem.W.Frag} {mg : Str → Option Value} {base : Heap}
theorem ok_nm {f fD : Addr} {fd fdD : FuncData} (B : Bl mg) (D : Df K mg "_law_name" sNm ["stream", "at"] f fd) (DD : Df K mg "_law_draw" sDraw ["stream", "total"] fD fdD) : FnOk P w K mg base CX0 2 f fd ["stream", "at"] spNm := by
  have GD : FnOk P w K mg base CX0 1 fD fdD _ spDraw := ok_draw B DD
  refine D.F.ok scNm (fun vs H Q E h => ?_) (fun cdv A outer s H vs Q E hr h => ?_)
  · obtain ⟨l, n, rfl, _⟩ := h
    rfl
  · obtain ⟨l, n, rfl, hs, hn, q⟩ := h
    have nd := scNm.nd
    refine ⟨_, pss_cons (ps_set (i := 2) nd rfl (.inl rfl) pe_str)
      (pss_cons (ps_set (i := 3) nd rfl (.inl rfl) (pe_op op_add_str (pe_op op_add_str (pe_ix ix_str (pv 2) (pe_op op_mod (pe_op op_fdiv (pv 1) pe_int) pe_int) (fun _ _ => rfl))
          (pe_ix ix_list (pe_lst (pa_cons pe_str (pa_cons pe_str pa_nil))) (pe_op op_mod (pv 1) pe_int) (fun _ _ => rfl)))
          (pe_op op_mul_s (pe_ix ix_str (pv 2) (pe_op op_fdiv (pv 1) pe_int) (fun _ _ => rfl)) (pe_callTy call_int1 (by rfl) B.int (by decide +kernel) (pa_cons (pe_cmpR op_gt (pv 1) pe_int (nomark _)) pa_nil)))))
      (pss_cons (ps_for PassesOwn.never rfl (pi_range1 (by rfl) B.range (pa_cons (pe_op op_mul (pe_op op_mul (pe_ix ix_list (pe_lst (pa_cons pe_int (pa_cons pe_int (pa_cons pe_int (pa_cons pe_int pa_nil)))))
              (pe_call GD hr (by rfl) DD.g DD.F.kp DD.b .nil pass0 (pa_cons (pv 0) (pa_cons pe_int pa_nil))) (fun _ _ => rfl))
              (pe_callTy call_int1 (by rfl) B.int (by decide +kernel) (pa_cons (pe_op op_mod (pv 1) pe_int) pa_nil)))
              (pe_callTy call_int1 (by rfl) B.int (by decide +kernel) (pa_cons (pe_cmpR op_lt (pv 1) pe_int (nomark _)) pa_nil))) pa_nil))
          (pg_name (i := 4) nd rfl (.inl rfl))
          (pss_one (ps_set (i := 3) nd rfl (.inl rfl) (pe_op op_add_str (pv 3) (pe_ix ix_str (pv 2) (pe_call GD hr (by rfl) DD.g DD.F.kp DD.b .nil pass0 (pa_cons (pv 0) (pa_cons pe_int pa_nil))) (fun _ _ => rfl))))))
      (pss_one (ps_ret (pv 3))))), ?_⟩
    have c26 : (0 : Int) < 26 := by decide
    have c2 : (0 : Int) < 2 ∧ (2 : Int) < 1073741824 := by decide
    have c52 : (0 : Int) < 52 ∧ (52 : Int) < 1073741824 := by decide
    have e1 : atI abc.cps.toList (((n : Int) / 2) % 26) = some (97 + n / 2 % 26) := by
      have := atI_nat (abc_at (n / 2 % 26) (by omega))
      rw [show (((n / 2 % 26 : Nat)) : Int) = ((n : Int) / 2) % 26 by omega] at this
      exact this
    have e2 : atI abc.cps.toList ((n : Int) / 52) = some (97 + n / 52) := by
      have := atI_nat (abc_at (n / 52) (by omega))
      rw [show (((n / 52 : Nat)) : Int) = (n : Int) / 52 by omega] at this
      exact this
    refine ⟨_, rfl, .int (n : Int), rfl, n, 2, rfl, rfl, c2, _, 26, rfl, rfl, c26, abc, _, _, rfl, rfl, abc_len, e1, ?_⟩
    refine ⟨by show 2 ≤ sizeLine; decide, fun p np => ?_⟩
    have h1 := hs.new (o := .lst [.str "", .str "a"]) np
    have e3 : atI [V.str "", V.str "a"] ((n : Int) % 2) = some (.str (if n % 2 = 1 then "a" else "")) := by
      rcases Nat.mod_two_eq_zero_or_one n with z | z
      · rw [if_neg (by omega), show (n : Int) % 2 = ((0 : Nat) : Int) by omega]
        rfl
      · rw [if_pos z, show (n : Int) % 2 = ((1 : Nat) : Int) by omega]
        rfl
    refine ⟨.int (n : Int), rfl, n, 2, rfl, rfl, (show (0 : Int) < 2 by decide), p, _, _, _, rfl, rfl, .inl (.inl upd_same), e3, _, _, rfl, rfl, ?_, ?_⟩
    · have : ((if n % 2 = 1 then ("a" : Str) else "") : Str).length ≤ 1 := by split <;> decide
      have h2 : (⟨#[97 + n / 2 % 26]⟩ : Str).length = 1 := rfl
      have hb : (2 : Nat) < sizeLine := by decide
      omega
    · refine ⟨_, rfl, .int (n : Int), rfl, n, 52, rfl, rfl, c52, abc, _, _, rfl, rfl, abc_len, e2, ?_⟩
      refine ⟨.int (n : Int), rfl, n, 51, rfl, rfl, .inr ⟨_, rfl, _, _, rfl, rfl, ?_, ?_⟩⟩
      · split <;> simp
      · have eb : (((⟨#[97 + n / 2 % 26]⟩ : Str) ++ (if n % 2 = 1 then ("a" : Str) else "")) ++ (if (if decide ((51 : Int) < (n : Int)) = true then (1 : Int) else 0) = 1 then (⟨#[97 + n / 52]⟩ : Str) else "")).cps.toList = baseL n := by
          rw [base_cps]
          unfold baseL
          congr 1
          by_cases z : n > 51
          · rw [if_pos z, if_pos (b2i_one.mpr (by omega))]
          · rw [if_neg z, if_neg (fun h => z (by have := b2i_one.mp h; omega))]
        have lb : (baseL n).length ≤ 3 := by
          unfold baseL
          split <;> split <;> simp
        refine ⟨_, _, rfl, rfl, ?_, ?_⟩
        · have k1 := len_cps ((((⟨#[97 + n / 2 % 26]⟩ : Str) ++ (if n % 2 = 1 then ("a" : Str) else "")) ++ (if (if decide ((51 : Int) < (n : Int)) = true then (1 : Int) else 0) = 1 then (⟨#[97 + n / 52]⟩ : Str) else "")))
          rw [eb, strLen_append] at k1
          have hb : (3 : Nat) < sizeLine := by decide
          omega
        · generalize hX : (((⟨#[97 + n / 2 % 26]⟩ : Str) ++ (if n % 2 = 1 then ("a" : Str) else "")) ++ (if (if decide ((51 : Int) < (n : Int)) = true then (1 : Int) else 0) = 1 then (⟨#[97 + n / 52]⟩ : Str) else "")) = X0 at eb ⊢
          refine ⟨by show 4 ≤ sizeLine; decide, fun p2 np2 => ?_⟩
          have h2 := h1.new (o := .lst [.int 0, .int 0, .int 2, .int 6]) np2
          refine ⟨.ref l, rfl, l, 4, rfl, h2, by decide, by decide, fun H2 d kd sd d0 d4 => ?_⟩
          have e4 : ∃ m : Nat, atI [V.int 0, V.int 0, V.int 2, V.int 6] d = some (.int (m : Int)) ∧ (m = 0 ∨ m = 2 ∨ m = 6) := by
            have : d = 0 ∨ d = 1 ∨ d = 2 ∨ d = 3 := by omega
            rcases this with rfl | rfl | rfl | rfl
            · exact ⟨0, rfl, by simp⟩
            · exact ⟨0, rfl, by simp⟩
            · exact ⟨2, rfl, by simp⟩
            · exact ⟨6, rfl, by simp⟩
          obtain ⟨m, em, hm⟩ := e4
          have pl : H2 p2 = some _ := kd _ _ (h1.ne np2) upd_same
          refine ⟨p2, _, d, _, rfl, rfl, .inl (.inl pl), em, .int (n : Int), rfl, n, 2, rfl, rfl, (show (0 : Int) < 2 by decide), .inl ⟨_, rfl, m, _, rfl, rfl, .inl ?_, ?_⟩⟩
          · omega
          · refine ⟨.int (n : Int), rfl, n, 52, rfl, rfl, .inr ⟨_, rfl, _, _, rfl, rfl, .inr ?_, ?_⟩⟩
            · split <;> decide
            · have hj : ∃ j : Nat, ((m : Int) * ((n : Int) % 2)) * (if decide ((n : Int) < 52) = true then (1 : Int) else 0) = (j : Int) ∧ (j = 0 ∨ (n % 2 = 1 ∧ n < 52 ∧ (j = 2 ∨ j = 6))) := by
                by_cases z : (n : Int) < 52
                · rw [decide_eq_true z, if_pos rfl, Int.mul_one]
                  rcases Nat.mod_two_eq_zero_or_one n with y | y
                  · exact ⟨0, by rw [show (n : Int) % 2 = 0 by omega]; simp, .inl rfl⟩
                  · refine ⟨m, by rw [show (n : Int) % 2 = 1 by omega]; simp, ?_⟩
                    rcases hm with h | h | h
                    · exact .inl h
                    · exact .inr ⟨y, by omega, .inl h⟩
                    · exact .inr ⟨y, by omega, .inr h⟩
                · rw [decide_eq_false z, if_neg (by decide), Int.mul_zero]
                  exact ⟨0, rfl, .inl rfl⟩
              obtain ⟨j, ej, hj⟩ := hj
              refine ⟨_, rfl, ?_, ?_, ?_⟩
              · show (-(2 ^ 62) : Int) ≤ _
                rw [ej]
                omega
              · show (_ : Int) < 2 ^ 62
                rw [ej]
                omega
              · have st1 : StO H2 l := sd
                have kp1 : Keep l H H2 := (((Keep.refl l H).new np).new np2).trans kd
                refine for_range (lo := 0) (n := Int.toNat _) (fun i σ G => Keep l H G ∧ StO G l ∧ ∃ (x : Str) (suf : List Nat) (tv : Option V), σ = [some (.ref l), some (.int n), some (.str abc), some (.str x), tv] ∧ x.cps.toList = baseL n ++ suf ∧ Lets suf ∧ suf.length = i)
                  ⟨kp1, st1, X0, [], none, rfl, by rw [eb, List.append_nil], fun c hc => absurd hc (by simp), rfl⟩ (fun i σ G hi hp => ?_) (fun σ G hp => ?_)
                · obtain ⟨kp, st, x, suf, tv, rfl, ex, hl, hi2⟩ := hp
                  have hi3 : i < j := by
                    have h := hi
                    rw [show Int.toNat _ = j from congrArg Int.toNat ej] at h
                    exact h
                  refine ⟨.str x, rfl, _, rfl, .ref l, rfl, l, 26, rfl, st, by decide, by decide, fun G2 d2 kd2 sd2 d20 d26 => ?_⟩
                  have e5 : atI abc.cps.toList d2 = some (97 + d2.toNat) := by
                    have := atI_nat (abc_at d2.toNat (by omega))
                    rw [show ((d2.toNat : Nat) : Int) = d2 by omega] at this
                    exact this
                  refine ⟨abc, _, _, rfl, rfl, abc_len, e5, x, _, rfl, rfl, ?_, kp.trans kd2, sd2, _, suf ++ [97 + d2.toNat], _, rfl, ?_, ?_, ?_⟩
                  · have k1 := len_cps x
                    rw [ex, List.length_append] at k1
                    have k2 : (⟨#[97 + d2.toNat]⟩ : Str).length = 1 := rfl
                    have hb : (20 : Nat) < sizeLine := by decide
                    omega
                  · rw [app_cps, ex, List.append_assoc]
                  · intro c hc
                    rcases List.mem_append.mp hc with hc | hc
                    · exact hl c hc
                    · have : c = 97 + d2.toNat := by simpa using hc
                      omega
                  · rw [List.length_append, hi2]
                    rfl
                · obtain ⟨kp, st, x, suf, tv, rfl, ex, hl, hi2⟩ := hp
                  have hi3 : suf.length = j := hi2.trans (congrArg Int.toNat ej)
                  refine ⟨_, rfl, q G x kp st ⟨suf, ex, hl, ?_⟩⟩
                  rw [hi3]
                  exact hj
end
theorem name_ok {n : Nat} {x : Str} (hn : n < 60) (h : NameOf n x) : nameD (.str x) = true ∧ x.length ≤ 8 := by
  obtain ⟨suf, ex, hl, hs⟩ := h
  have hb : (baseL n).length = 1 + (if n % 2 = 1 then 1 else 0) + (if n > 51 then 1 else 0) := by
    unfold baseL
    split <;> split <;> simp
  have lx := len_cps x
  rw [ex, List.length_append, hb] at lx
  have h8 : 1 ≤ x.length ∧ x.length ≤ 8 := by
    split at lx <;> split at lx <;> omega
  refine ⟨?_, h8.2⟩
  have all : letD x = true := by
    unfold letD
    rw [ex, List.all_eq_true]
    intro c hc
    refine decide_eq_true (abc_has c ?_ ?_)
    all_goals
      rcases List.mem_append.mp hc with hc | hc
      · unfold baseL at hc
        split at hc <;> split at hc <;> simp at hc <;> omega
      · have := hl c hc
        omega
  show ((decide (1 ≤ (x.length : Int)) && decide ((x.length : Int) ≤ 8)) && letD x) = true
  rw [all, decide_eq_true (by omega), decide_eq_true (by omega)]
  rfl
end K1

set_option maxRecDepth 100000
set_option maxHeartbeats 4000000
namespace KX
open PySem PySem.Spec PyProof.Rows L2
/-- what is seen but for two addresses -/
def view (l q : Addr) (H : Hp) : Hp := hid q (hid l H)
theorem view_at {l q b : Addr} {H : Hp} (h : b ≠ l) (h' : b ≠ q) : view l q H b = H b := by
  unfold view
  rw [hid_at h', hid_at h]
theorem view_same {l q : Addr} {H H' : Hp} (k : ∀ b o, b ≠ l → b ≠ q → H b = some o → H' b = some o) : Same (view l q H) (view l q H') := fun b o e => by
  obtain ⟨n, e⟩ := hid_some e
  obtain ⟨n', e⟩ := hid_some e
  rw [view_at n' n]
  exact k b o n' n e
theorem view_keep {l q : Addr} {H H' : Hp} (k : Keep l H H') : Same (view l q H) (view l q H') := view_same fun b o n _ e => k b o n e
theorem view_tup {l q p : Addr} {H : Hp} {xs : List V} {ds : List PyData} (n : H p = none) (hl : p ≠ l) (hq : p ≠ q) (h : Dxs (view l q H) xs ds) : Dx (view l q (L2.upd H p (.tup xs))) (.ref p) (.tuple ds) :=
  .tup (by rw [view_at hl hq]; exact upd_same) (h.up (view_keep ((Keep.refl l H).new n)))
theorem Keep.to {l : Addr} {H H' : Hp} {b : Addr} {o : HO} (k : Keep l H H') (n : b ≠ l) (e : H b = some o) : H' b = some o := k b o n e
end KX
namespace K1
open PySem PySem.Spec PyProof.Rows L2 KX
abbrev sRs : Stmt := topS 17
/-! ### _law_rowset -/
structure Rec where
  nm : Str
  cost : Int
  vals : List Int
  exp : Int
def encR (r : Rec) : PyData := .tuple [.str r.nm, .int r.cost, .tuple (r.vals.map .int), .int r.exp]
structure RecOk (w n : Nat) (r : Rec) : Prop where
  nm : NameOf n r.nm
  c0 : 1 ≤ r.cost
  c1 : r.cost ≤ 1000000
  len : r.vals.length = w
  vs : ∀ v ∈ r.vals, -1000000000 ≤ v ∧ v ≤ 1000000000
  e0 : 1 ≤ r.exp
  e1 : r.exp ≤ 1000000000
/-- the rows as they are made, one for each number -/
def Made (w : Nat) (recs : List Rec) : Prop := ∀ (i : Nat) (r : Rec), recs[i]? = some r → RecOk w i r
def sortR (recs : List Rec) : List Rec := recs.mergeSort (PySem.W.dataLe false encR)
def spRs : Sp := fun vs H Q _ => ∃ (l : Addr) (n w : Nat), vs = [.ref l, .int (n : Int), .int (w : Int)] ∧ StO H l ∧ n ≤ 60 ∧ 1 ≤ w ∧ w ≤ 4 ∧
  ∀ H' p recs, Keep l H H' → StO H' l → recs.length = n → Made w recs → Dx (hid l H') (.ref p) (.tuple ((sortR recs).map encR)) → Q (.ref p) H'
theorem scRs : FnScope ["stream", "total", "wide", "top", "dear", "last", "rows", "at", "worths", "col"] ["stream", "total", "wide"] (defScope sRs) := ⟨rfl, rfl, rfl, by decide +kernel, rfl, by decide +kernel, by decide +kernel⟩
theorem dxs_ints {H : Hp} : ∀ (ns : List Int), Dxs H (ns.map V.int) (ns.map PyData.int)
  | [] => .nil
  | n :: ns => .cons (.int n) (dxs_ints ns)
theorem menu {ns : List Int} {d : Int} (h0 : 0 ≤ d) (h1 : d < (ns.length : Int)) : ∃ t, t ∈ ns ∧ atI (ns.map V.int) d = some (.int t) := by
  have hl : d.toNat < ns.length := by omega
  refine ⟨ns[d.toNat], List.getElem_mem hl, ?_⟩
  have := atI_nat (xs := ns.map V.int) (j := d.toNat) (v := .int ns[d.toNat]) (by rw [List.getElem?_map, List.getElem?_eq_getElem hl]; rfl)
  rw [show ((d.toNat : Nat) : Int) = d by omega] at this
  exact this
theorem alike_recs (rs : List Rec) : PySem.W.AllAlike (rs.map encR) := PySem.W.AllAlike.of fun a b => by
  simp [encR, PySem.W.alike, PySem.W.alikeAll, PySem.W.alike_ints]
theorem tup_recs (rs : List Rec) : PySem.W.Sortable (rs.map encR) := PySem.W.Sortable.tuples fun b => ⟨_, _, rfl⟩
theorem depth_rec (r : Rec) : (encR r).depth ≤ 50 := by
  simp [encR, PyData.depth, PyData.depthAll, PySem.W.depth_ints]
theorem plain_rec (r : Rec) : (encR r).plain = true := by
  simp [encR, PyData.plain, PyData.plainAll, pl_ints]
theorem dxs_pairs {H : Hp} : ∀ (bs : List (V × Rec)), (∀ b ∈ bs, Dx H b.1 (encR b.2)) → Dxs H (bs.map (·.1)) (bs.map fun b => encR b.2)
  | [], _ => .nil
  | b :: bs, h => .cons (h b (by simp)) (dxs_pairs bs fun c hc => h c (by simp [hc]))
section
variable {P : Program} {w : World} {K : PySem.W.Frag} {mg : Str → Option Value} {base : Heap}
theorem ok_rs {f fD fN : Addr} {fd fdD fdN : FuncData} (B : Bl mg) (D : Df K mg "_law_rowset" sRs ["stream", "total", "wide"] f fd) (DD : Df K mg "_law_draw" sDraw ["stream", "total"] fD fdD) (DN : Df K mg "_law_name" sNm ["stream", "at"] fN fdN) :
    FnOk P w K mg base CX0 3 f fd ["stream", "total", "wide"] spRs := by
  have GD : FnOk P w K mg base CX0 2 fD fdD _ spDraw := (ok_draw B DD).mono (by decide)
  have GN : FnOk P w K mg base CX0 2 fN fdN _ spNm := ok_nm B DN DD
  refine D.F.ok scRs (fun vs H Q E h => ?_) (fun cdv A outer s H vs Q E hr h => ?_)
  · obtain ⟨l, n, w, rfl, _⟩ := h
    rfl
  · obtain ⟨l, n, wd, rfl, hs, hn, hw1, hw4, q⟩ := h
    have nd := scRs.nd
    refine ⟨_, pss_cons (ps_set (i := 3) nd rfl (.inr rfl) (pe_ix ix_list (pe_lst (pa_cons pe_int (pa_cons pe_int (pa_cons pe_int (pa_cons (pe_op op_pow pe_int pe_int) pa_nil)))))
          (pe_call GD hr (by rfl) DD.g DD.F.kp DD.b .nil pass0 (pa_cons (pv 0) (pa_cons pe_int pa_nil))) (fun _ _ => rfl)))
      (pss_cons (ps_par (i := 4) (j := 5) rfl nd rfl rfl (by decide) rfl rfl (pa_cons (pe_ix ix_list (pe_lst (pa_cons pe_int (pa_cons pe_int (pa_cons pe_int (pa_cons (pe_op op_pow pe_int pe_int) pa_nil)))))
          (pe_call GD hr (by rfl) DD.g DD.F.kp DD.b .nil pass0 (pa_cons (pv 0) (pa_cons pe_int pa_nil))) (fun _ _ => rfl))
          (pa_cons (pe_ix ix_list (pe_lst (pa_cons pe_int (pa_cons pe_int (pa_cons (pe_op op_pow pe_int pe_int) pa_nil))))
          (pe_call GD hr (by rfl) DD.g DD.F.kp DD.b .nil pass0 (pa_cons (pv 0) (pa_cons pe_int pa_nil))) (fun _ _ => rfl)) pa_nil)) (by rfl))
      (pss_cons (ps_set (i := 6) nd rfl (.inl rfl) (pe_lst pa_nil))
      (pss_cons (ps_for PassesOwn.never rfl (pi_range1 (by rfl) B.range (pa_cons (pv 1) pa_nil)) (pg_name (i := 7) nd rfl (.inl rfl))
        (pss_cons (ps_set (i := 8) nd rfl (.inl rfl) (pe_callTy call_tuple_of (by rfl) B.tuple (by decide +kernel) (pa_cons (pe_lc (own := [("col", 9)]) (g := gName 9) rfl nd (pi_range1 (by rfl) B.range (pa_cons (pv 2) pa_nil))
            (blkOk_by (N := ["stream", "total", "wide", "top", "dear", "last", "rows", "at", "worths", "col"]) (sc := defScope sRs) (by decide +kernel)) (fun _ _ _ _ _ => pg_name (i := 9) nd rfl (Or.inl rfl)) (fun _ _ _ _ _ => pts_nil)
            (fun _ _ _ _ _ => pe_op op_sub (pe_call GD hr (by rfl) DD.g DD.F.kp DD.b .nil pass0 (pa_cons (pv 0) (pa_cons (pe_op op_add (pe_op op_mul pe_int (pv 3)) pe_int) pa_nil))) (pv 3))) pa_nil)))
        (pss_one (ps_expr (pe_bm PySem.F.plainAttrs_list PySem.F.slot_list_append PySem.F.type_list_append mt_append (pv 6) (pa_cons (pe_tup (pa_cons (pe_call GN hr (by rfl) DN.g DN.F.kp DN.b .nil pass0 (pa_cons (pv 0) (pa_cons (pv 7) pa_nil)))
            (pa_cons (pe_op op_add pe_int (pe_call GD hr (by rfl) DD.g DD.F.kp DD.b .nil pass0 (pa_cons (pv 0) (pa_cons (pv 4) pa_nil)))) (pa_cons (pv 8)
            (pa_cons (pe_op op_add pe_int (pe_call GD hr (by rfl) DD.g DD.F.kp DD.b .nil pass0 (pa_cons (pv 0) (pa_cons (pv 5) pa_nil)))) pa_nil))))) pa_nil))))))
      (pss_one (ps_ret (pe_callTy call_tuple_of (by rfl) B.tuple (by decide +kernel) (pa_cons (pe_callB (cr_sortE (enc := encR) hr) (by rfl) B.sorted (by decide +kernel) (pa_cons (pv 6) pa_nil)) pa_nil))))))), ?_⟩
    -- top = [1, 2, 4, 10 ** 9][draw]
    refine ⟨10, 9, rfl, rfl, ⟨by decide, by decide, by decide⟩, by show 4 ≤ sizeLine; decide, fun p1 n1 => ?_⟩
    refine ⟨.ref l, rfl, l, 4, rfl, hs.new n1, by decide, by decide, fun H1 d1 k1 s1 d10 d14 => ?_⟩
    have a1 : H1 p1 = some _ := k1.to (hs.ne n1) upd_same
    obtain ⟨top, mt, et⟩ := menu (ns := [1, 2, 4, 10 ^ (9 : Int).toNat]) d10 d14
    have ht : 1 ≤ top ∧ top ≤ 1000000000 := by
      have : ∀ t ∈ [1, 2, 4, (10 : Int) ^ (9 : Int).toNat], 1 ≤ t ∧ t ≤ 1000000000 := by decide
      exact this top mt
    refine ⟨p1, _, d1, _, rfl, rfl, .inl (.inl a1), et, ?_⟩
    -- dear, last
    refine ⟨10, 6, rfl, rfl, ⟨by decide, by decide, by decide⟩, by show 4 ≤ sizeLine; decide, fun p2 n2 => ?_⟩
    refine ⟨.ref l, rfl, l, 4, rfl, s1.new n2, by decide, by decide, fun H2 d2 k2 s2 d20 d24 => ?_⟩
    have a2 : H2 p2 = some _ := k2.to (s1.ne n2) upd_same
    obtain ⟨dear, md, ed⟩ := menu (ns := [1, 3, 9, 10 ^ (6 : Int).toNat]) d20 d24
    have hd : 1 ≤ dear ∧ dear ≤ 1000000 := by
      have : ∀ t ∈ [1, 3, 9, (10 : Int) ^ (6 : Int).toNat], 1 ≤ t ∧ t ≤ 1000000 := by decide
      exact this dear md
    refine ⟨p2, _, d2, _, rfl, rfl, .inl (.inl a2), ed, ?_⟩
    refine ⟨10, 9, rfl, rfl, ⟨by decide, by decide, by decide⟩, by show 3 ≤ sizeLine; decide, fun p3 n3 => ?_⟩
    refine ⟨.ref l, rfl, l, 3, rfl, s2.new n3, by decide, by decide, fun H3 d3 k3 s3 d30 d34 => ?_⟩
    have a3 : H3 p3 = some _ := k3.to (s2.ne n3) upd_same
    obtain ⟨last, ml, el⟩ := menu (ns := [1, 3, 10 ^ (9 : Int).toNat]) d30 d34
    have hl : 1 ≤ last ∧ last ≤ 1000000000 := by
      have : ∀ t ∈ [1, 3, (10 : Int) ^ (9 : Int).toNat], 1 ≤ t ∧ t ≤ 1000000000 := by decide
      exact this last ml
    refine ⟨p3, _, d3, _, rfl, rfl, .inl (.inl a3), el, _, _, rfl, ?_⟩
    -- rows = []
    refine ⟨Nat.zero_le _, fun r nr => ?_⟩
    have hrl : r ≠ l := s3.ne nr
    have kk : Keep l H (L2.upd H3 r (.lst [])) := ((((((Keep.refl l H).new n1).trans k1).new n2).trans k2).new n3).trans k3 |>.new nr
    have s4 : StO (L2.upd H3 r (.lst [])) l := s3.new nr
    have hHr : H r = none := by
      cases e : H r with
      | none => rfl
      | some o =>
        have := ((((((Keep.refl l H).new n1).trans k1).new n2).trans k2).new n3).trans k3 r o hrl e
        rw [nr] at this
        cases this
    refine ⟨.int (n : Int), rfl, n, rfl, by omega, by omega, ?_⟩
    refine for_range (lo := 0) (n := n) (fun i σ G => Keep l H G ∧ StO G l ∧ ∃ (vs : List V) (recs : List Rec) (ta tw tc : Option V), σ = [some (.ref l), some (.int n), some (.int wd), some (.int top), some (.int dear), some (.int last), some (.ref r), ta, tw, tc] ∧
        G r = some (.lst vs) ∧ Dxs (view l r G) vs (recs.map encR) ∧ recs.length = i ∧ Made wd recs)
      ⟨kk, s4, [], [], none, none, none, rfl, upd_same, .nil, rfl, fun i r h => by simp at h⟩ (fun i σ G hi hp => ?_) (fun σ G hp => ?_)
    · obtain ⟨kp, st, vs, recs, ta, tw, tc, rfl, gr, hx, hlen, hmade⟩ := hp
      refine ⟨.int (wd : Int), rfl, wd, rfl, by omega, by omega, fun D0 nD => ?_⟩
      have hDl : D0 ≠ l := st.ne nD
      refine lc_range (lo := 0) (n := wd) (fun j F => Keep l G F ∧ StO F l ∧ ∃ ns : List Int, ns.length = j ∧ (∀ v ∈ ns, -1000000000 ≤ v ∧ v ≤ 1000000000) ∧ F D0 = some (.lst (ns.map V.int)))
        ⟨(Keep.refl l G).new nD, st.new nD, [], rfl, fun v h => absurd h (by simp), upd_same⟩ (fun j F hj hF => ?_) (fun F hF => ?_)
      · obtain ⟨kF, sF, ns, hns, hv, eD⟩ := hF
        refine ⟨rfl, .ref l, rfl, .int top, rfl, 2, top, rfl, rfl, .inl ⟨by decide, by decide⟩, _, 1, rfl, rfl, l, 2 * top + 1, rfl, sF, by omega, by omega, fun F2 d kd sd d0 d1 => ?_⟩
        have eD2 : F2 D0 = some _ := kd.to hDl eD
        refine ⟨.int top, rfl, d, top, rfl, rfl, _, eD2, ?_, ?_⟩
        · rw [List.length_map]
          have hb : (4 : Nat) < sizeLine := by decide
          omega
        · refine ⟨fun b o nb eb => by rw [upd_ne (ne_of_none eb nD)]; exact kd b o nb (kF b o nb eb), ?_, ns ++ [d - top], ?_, ?_, ?_⟩
          · obtain ⟨x, y, z, e⟩ := sd
            exact ⟨x, y, z, by rw [upd_ne hDl.symm]; exact e⟩
          · rw [List.length_append, hns]
            rfl
          · intro v hv'
            rcases List.mem_append.mp hv' with hv' | hv'
            · exact hv v hv'
            · have : v = d - top := by simpa using hv'
              omega
          · rw [upd_same, List.map_append]
            rfl
      · obtain ⟨kF, sF, ns, hns, hv, eD⟩ := hF
        refine ⟨D0, _, rfl, .inl ⟨.inl (.inl eD), fun t nt => ?_⟩⟩
        have htl : t ≠ l := sF.ne nt
        have gr1 : F r = some (.lst vs) := kF.to hrl gr
        have htr : t ≠ r := (ne_of_none gr1 nt).symm
        have s5 : StO (L2.upd F t (.tup (ns.map V.int))) l := sF.new nt
        have dt : Dx (view l r (L2.upd F t (.tup (ns.map V.int)))) (.ref t) (.tuple (ns.map PyData.int)) := view_tup nt htl htr (dxs_ints ns)
        have k5 : Keep l G (L2.upd F t (.tup (ns.map V.int))) := kF.new nt
        refine ⟨.ref r, rfl, .inl ⟨rfl, _, .inl (.inl (k5.to hrl gr))⟩, .ref l, rfl, _, rfl, l, i, by simp, s5, by omega, fun G2 x k6 s6 hnm => ?_⟩
        refine ⟨.ref l, rfl, .int dear, rfl, l, dear, rfl, s6, by omega, by omega, fun G3 dc k7 s7 c0 c1 => ⟨1, dc, rfl, rfl, .ref t, rfl, ?_⟩⟩
        refine ⟨.ref l, rfl, .int last, rfl, l, last, rfl, s7, by omega, by omega, fun G4 de k8 s8 e0 e1 => ⟨1, de, rfl, rfl, by show 4 ≤ sizeLine; decide, fun u nu => ?_⟩⟩
        have hul : u ≠ l := s8.ne nu
        have kk4 : Keep l G G4 := ((k5.trans k6).trans k7).trans k8
        have gr4 : G4 r = some (.lst vs) := kk4.to hrl gr
        have hur : u ≠ r := (ne_of_none gr4 nu).symm
        have dt4 : Dx (view l r G4) (.ref t) (.tuple (ns.map PyData.int)) := dt.up (view_keep ((k6.trans k7).trans k8))
        have du : Dx (view l r (L2.upd G4 u (.tup [.str x, .int (1 + dc), .ref t, .int (1 + de)]))) (.ref u) (encR ⟨x, 1 + dc, ns, 1 + de⟩) :=
          view_tup nu hul hur (.cons (.str x) (.cons (.int _) (.cons dt4 (.cons (.int _) .nil))))
        have ku : Keep l G (L2.upd G4 u (.tup [.str x, .int (1 + dc), .ref t, .int (1 + de)])) := kk4.new nu
        have vlen : vs.length = recs.length := by
          have := hx.len
          rwa [List.length_map] at this
        refine ⟨r, vs, .ref u, rfl, rfl, by rw [upd_ne hur.symm]; exact gr4, ?_, ?_⟩
        · have hb : (60 : Nat) < sizeLine := by decide
          omega
        · have sup : Same (view l r (L2.upd G4 u (.tup [.str x, .int (1 + dc), .ref t, .int (1 + de)]))) (view l r (L2.upd (L2.upd G4 u (.tup [.str x, .int (1 + dc), .ref t, .int (1 + de)])) r (.lst (vs ++ [.ref u])))) :=
            view_same fun b o _ nb e => by rw [upd_ne nb]; exact e
          refine ⟨fun b o nb eb => by rw [upd_ne (ne_of_none eb hHr)]; exact ku b o nb (kp b o nb eb), ?_, vs ++ [.ref u], recs ++ [⟨x, 1 + dc, ns, 1 + de⟩], _, _, _, rfl, upd_same, ?_, ?_, ?_⟩
          · obtain ⟨y1, y2, y3, e⟩ := s8.new (o := .tup [.str x, .int (1 + dc), .ref t, .int (1 + de)]) nu
            exact ⟨y1, y2, y3, by rw [upd_ne hrl.symm]; exact e⟩
          · rw [List.map_append]
            exact ((hx.up (view_keep ku)).up sup).app (.cons (du.up sup) .nil)
          · rw [List.length_append, hlen]
            rfl
          · intro j r' hj
            by_cases hjl : j < recs.length
            · exact hmade j r' (by rw [List.getElem?_append_left hjl] at hj; exact hj)
            · rw [List.getElem?_append_right (by omega)] at hj
              have hj0 : j - recs.length = 0 := by
                have := (List.getElem?_eq_some_iff.mp hj).1
                simp at this
                omega
              rw [hj0] at hj
              cases hj
              have hji : j = i := by omega
              rw [hji]
              exact ⟨hnm, by show 1 ≤ 1 + dc; omega, by show 1 + dc ≤ _; omega, hns, hv, by show 1 ≤ 1 + de; omega, by show 1 + de ≤ _; omega⟩
    · obtain ⟨kp, st, vs, recs, ta, tw, tc, rfl, gr, hx, hlen, hmade⟩ := hp
      have vlen : vs.length = recs.length := by
        have := hx.len
        rwa [List.length_map] at this
      have eachH : ∀ b ∈ vs.zip recs, Dx (hid l G) b.1 (encR b.2) := fun b hb => by
        obtain ⟨i, hi, e⟩ := List.mem_iff_getElem.mp hb
        have e' : (vs.zip recs)[i]? = some b := by rw [List.getElem?_eq_getElem hi, e]
        rw [List.getElem?_zip_eq_some] at e'
        obtain ⟨d, ed, hd⟩ := hx.get' e'.1
        rw [List.getElem?_map, e'.2] at ed
        cases ed
        exact hd.up (hid_same r (hid l G))
      have each : ∀ b ∈ vs.zip recs, Dx G b.1 (encR b.2) := fun b hb => (eachH b hb).up (hid_same l G)
      refine ⟨.ref r, rfl, r, vs.zip recs, rfl, .inl (.inl ?_), ?_, ?_, ?_, ?_, fun p np => ?_⟩
      · rw [List.map_fst_zip (by omega)]
        exact gr
      · intro b hb
        exact dp_dx _ _ (plain_rec b.2) (each b hb)
      · have := alike_recs ((vs.zip recs).map (·.2))
        rwa [List.map_map] at this
      · have := tup_recs ((vs.zip recs).map (·.2))
        rwa [List.map_map] at this
      · exact fun b _ => depth_rec b.2
      · have hm : ∀ b ∈ (vs.zip recs).mergeSort (PySem.W.dataLe false fun b => encR b.2), Dx (hid l (L2.upd G p (.lst (((vs.zip recs).mergeSort (PySem.W.dataLe false fun b => encR b.2)).map (·.1))))) b.1 (encR b.2) := fun b hb =>
          ((eachH b (List.mem_mergeSort.mp hb)).up (hnew np))
        have e1 : ((vs.zip recs).mergeSort (PySem.W.dataLe false fun b => encR b.2)).map (fun b => encR b.2) = (sortR recs).map encR := by
          have e2 : ((vs.zip recs).mergeSort (PySem.W.dataLe false fun b => encR b.2)).map Prod.snd = sortR recs := by
            have h := List.map_mergeSort (f := Prod.snd) (r := PySem.W.dataLe false fun b : V × Rec => encR b.2) (s := PySem.W.dataLe false encR) (l := vs.zip recs) (fun a _ b _ => rfl)
            rw [List.map_snd_zip (by omega)] at h
            exact h
          rw [← e2, List.map_map]
          rfl
        have hx2 := dxs_pairs _ hm
        rw [e1] at hx2
        have sp := st.new (o := .lst (((vs.zip recs).mergeSort (PySem.W.dataLe false fun b => encR b.2)).map (·.1))) np
        refine ⟨p, _, rfl, .inl ⟨.inl (.inl upd_same), fun p2 np2 => ?_⟩⟩
        exact q _ p2 recs ((kp.new np).new np2) (sp.new np2) hlen hmade (dx_tup np2 sp hx2)
end
end K1

set_option maxRecDepth 100000
set_option maxHeartbeats 4000000
namespace K1
open PySem PySem.Spec PyProof.Rows L2 KX
abbrev sDam : Stmt := topS 19
/-! ### _law_damaged -/
def spDam (k : Int) : Sp := fun vs H Q _ => ∃ (l : Addr) (v : V) (d : PyData) (deep : Int) (bd m : Nat), vs = [.ref l, v, .int deep] ∧ StO H l ∧ deep ≤ k ∧ Dx (hid l H) v d ∧ Good bd m d ∧ 10 ^ 40 ≤ bd ∧ bd < 10 ^ 50 ∧ m ≤ 1000 ∧
  ∀ H' v' d', Keep l H H' → StO H' l → Dx (hid l H') v' d' → Good (bd + 1) (2 * m + 20) d' → Q v' H'
theorem scDam : FnScope ["stream", "value", "deep", "way", "at", "some", "other"] ["stream", "value", "deep"] (defScope sDam) := ⟨rfl, rfl, rfl, by decide +kernel, rfl, by decide +kernel, by decide +kernel⟩
section
variable {P : Program} {w : World} {K : PySem.W.Frag} {mg : Str → Option Value} {base : Heap}
theorem dam_good {ds : List PyData} {n bd m : Nat} {od : PyData} (gf : fineAll bd ds = true) (gw : wtAll ds + 1 ≤ m) (hb0 : 10 ^ 40 ≤ bd) (go : od ∈ unr) :
    ∀ d' ∈ [PyData.list ds, .tuple (ds.take n ++ ds.drop (n + 1)), .tuple (ds.take n ++ (ds.drop n).take 1 ++ ds.drop n), .tuple ds.reverse, .tuple (ds ++ [od]), .tuple (ds.take n ++ [od] ++ ds.drop (n + 1))], Good (bd + 1) (2 * m + 20) d' := by
  have g0 := unr_good od go
  have fo : fine bd od = true := fine_le hb0 od g0.f
  have wo : wt od ≤ 8 := g0.w
  have all : ∀ es : List PyData, (∀ e ∈ es, e ∈ ds ∨ e = od) → fineAll (bd + 1) es = true := fun es h => by
    refine fineAll_mem.mpr fun e he => ?_
    rcases h e he with h | h
    · exact fine_le (Nat.le_succ _) e (fineAll_mem.mp gf e h)
    · rw [h]
      exact fine_le (Nat.le_succ _) od fo
  have w1 := wtAll_take n ds
  have w2 := wtAll_take (n + 1) ds
  have w3 := wtAll_take 1 (ds.drop n)
  have w4 : wtAll [od] = wt od := by simp [wtAll]
  have mt : ∀ k e, e ∈ ds.take k → e ∈ ds := fun k e h => List.mem_of_mem_take h
  have md : ∀ k e, e ∈ ds.drop k → e ∈ ds := fun k e h => List.mem_of_mem_drop h
  have F : ∀ es : List PyData, (∀ e ∈ es, e ∈ ds ∨ e = od) → wtAll es ≤ 2 * m + 19 → Good (bd + 1) (2 * m + 20) (.tuple es) := fun es h hw => ⟨by rw [fine]; exact all es h, by rw [wt]; omega⟩
  intro d' hd'
  simp only [List.mem_cons, List.not_mem_nil, or_false] at hd'
  rcases hd' with rfl | rfl | rfl | rfl | rfl | rfl
  · exact ⟨by rw [fine]; exact all ds fun e h => .inl h, by rw [wt]; omega⟩
  · refine F _ (fun e h => .inl ?_) (by rw [wtAll_app]; omega)
    rcases List.mem_append.mp h with h | h
    · exact mt _ _ h
    · exact md _ _ h
  · refine F _ (fun e h => .inl ?_) (by rw [wtAll_app, wtAll_app]; omega)
    rcases List.mem_append.mp h with h | h
    · rcases List.mem_append.mp h with h | h
      · exact mt _ _ h
      · exact md _ _ (List.mem_of_mem_take h)
    · exact md _ _ h
  · exact F _ (fun e h => .inl (List.mem_reverse.mp h)) (by rw [wtAll_rev]; omega)
  · refine F _ (fun e h => ?_) (by rw [wtAll_app, w4]; omega)
    rcases List.mem_append.mp h with h | h
    · exact .inl h
    · exact .inr (by simpa using h)
  · refine F _ (fun e h => ?_) (by rw [wtAll_app, wtAll_app, w4]; omega)
    rcases List.mem_append.mp h with h | h
    · rcases List.mem_append.mp h with h | h
      · exact .inl (mt _ _ h)
      · exact .inr (by simpa using h)
    · exact .inl (md _ _ h)
theorem str_good {x : Str} {bd m : Nat} (hg : Good bd m (.str x)) : ∀ y ∈ [x ++ "a", cutS x (some 1) none, Txt.upper x, x ++ "-", ("abcdefgh" : Str), "abcdefghi"], Good (bd + 1) (2 * m + 20) (.str y) := by
  have gs : ∀ c ∈ x.cps.toList, c < 128 := by
    have q : (x.cps.toList.all fun c => decide (c < 128)) = true := hg.f
    intro c hc
    exact of_decide_eq_true (List.all_eq_true.mp q c hc)
  have gw : x.length + 1 ≤ m := hg.w
  have F : ∀ y : Str, (∀ c ∈ y.cps.toList, c < 128) → y.length ≤ x.length + 10 → Good (bd + 1) (2 * m + 20) (.str y) := fun y h hw =>
    ⟨by rw [fine]; exact List.all_eq_true.mpr fun c hc => decide_eq_true (h c hc), by rw [wt]; omega⟩
  intro y hy
  simp only [List.mem_cons, List.not_mem_nil, or_false] at hy
  rcases hy with rfl | rfl | rfl | rfl | rfl | rfl
  · refine F _ (fun c hc => ?_) (by rw [strLen_append, show ("a" : Str).length = 1 from rfl]; omega)
    rw [app_cps] at hc
    rcases List.mem_append.mp hc with hc | hc
    · exact gs c hc
    · exact (by decide : ∀ c ∈ ("a" : Str).cps.toList, c < 128) c hc
  · refine F _ (fun c hc => gs c ?_) ?_
    · unfold cutS at hc
      exact List.mem_of_mem_drop (List.mem_of_mem_take (by simpa using hc))
    · rw [len_cps, len_cps x]
      unfold cutS
      simp only [List.toList_toArray, List.length_take, List.length_drop]
      omega
  · rw [PyProof.Rows.upper_ascii gs]
    refine F _ (fun c hc => ?_) (by rw [len_cps, len_cps x]; simp)
    have : c ∈ x.cps.toList.map PyProof.Rows.up1 := by simpa using hc
    obtain ⟨b, hb, rfl⟩ := List.mem_map.mp this
    have := gs b hb
    unfold PyProof.Rows.up1
    split <;> omega
  · refine F _ (fun c hc => ?_) (by rw [strLen_append, show ("-" : Str).length = 1 from rfl]; omega)
    rw [app_cps] at hc
    rcases List.mem_append.mp hc with hc | hc
    · exact gs c hc
    · exact (by decide : ∀ c ∈ ("-" : Str).cps.toList, c < 128) c hc
  · exact F _ (by decide) (by show 8 ≤ _; omega)
  · exact F _ (by decide) (by show 9 ≤ _; omega)
theorem int_good {i : Int} {bd m : Nat} (hg : Good bd m (.int i)) (hb0 : 10 ^ 40 ≤ bd) : ∀ k ∈ [i + 1, i - 1, (10 : Int) ^ (6 : Int).toNat + 1, (10 : Int) ^ (9 : Int).toNat + 1, -(10 : Int) ^ (9 : Int).toNat - 1, 0], Good (bd + 1) (2 * m + 20) (.int k) := by
  have gf : i.natAbs ≤ bd := by
    have q : decide (i.natAbs ≤ bd) = true := hg.f
    exact of_decide_eq_true q
  have F : ∀ k : Int, k.natAbs ≤ bd + 1 → Good (bd + 1) (2 * m + 20) (.int k) := fun k h => ⟨by rw [fine]; exact decide_eq_true h, by rw [show wt (.int k) = 1 by simp [wt]]; omega⟩
  have c1 : ((10 : Int) ^ (6 : Int).toNat + 1).natAbs ≤ 10 ^ 40 := by decide +kernel
  have c2 : ((10 : Int) ^ (9 : Int).toNat + 1).natAbs ≤ 10 ^ 40 := by decide +kernel
  have c3 : (-(10 : Int) ^ (9 : Int).toNat - 1).natAbs ≤ 10 ^ 40 := by decide +kernel
  intro k hk
  simp only [List.mem_cons, List.not_mem_nil, or_false] at hk
  rcases hk with rfl | rfl | rfl | rfl | rfl | rfl
  · exact F _ (by omega)
  · exact F _ (by omega)
  · exact F _ (Nat.le_trans c1 (by omega))
  · exact F _ (Nat.le_trans c2 (by omega))
  · exact F _ (Nat.le_trans c3 (by omega))
  · exact F _ (by simp)
theorem pick {α : Type} {f : α → V} {ns : List α} {d : Int} (h0 : 0 ≤ d) (h1 : d < (ns.length : Int)) : ∃ t, t ∈ ns ∧ atI (ns.map f) d = some (f t) := by
  have hl : d.toNat < ns.length := by omega
  refine ⟨ns[d.toNat], List.getElem_mem hl, ?_⟩
  have := atI_nat (xs := ns.map f) (j := d.toNat) (v := f ns[d.toNat]) (by rw [List.getElem?_map, List.getElem?_eq_getElem hl]; rfl)
  rw [show ((d.toNat : Nat) : Int) = d by omega] at this
  exact this
theorem noPart {σ : L2.St} {H : Hp} {Q : Option Int → Hp → Prop} (h : Q none H) : tNoPart σ H Q := h
abbrev cxDam (P : Program) (w : World) (K : PySem.W.Frag) (mg : Str → Option Value) (base : Heap) (f : Addr) (cdv : Value) (A : Around) (outer : List Env) (s : Shared) (H : Hp) (E : XK) : Cx :=
  (cxOf CX0 P w K mg base ["stream", "value", "deep", "way", "at", "some", "other"] "_law_damaged" (defScope sDam) f cdv A outer s H E).nox
theorem rest_dam {f fD fU : Addr} {fdD fdU : FuncData} (B : Bl mg) (DD : Df K mg "_law_draw" sDraw ["stream", "total"] fD fdD) (DU : Df K mg "_law_unrelated" sUnr ["stream"] fU fdU)
    {j : Nat} (h2 : 2 ≤ j) {cdv : Value} {A : Around} {outer : List Env} {s : Shared} {H : Hp} {E : XK} (hr : Room j (cxDam P w K mg base f cdv A outer s H E).A) {Q : VK} {l : Addr} {v : V} {d : PyData} {deep : Int} {bd m : Nat}
    (hg : Good bd m d) (hb0 : 10 ^ 40 ≤ bd) (hb1 : bd < 10 ^ 50) (hm : m ≤ 1000) :
    ∃ t, PSs (cxDam P w K mg base f cdv A outer s H E) ((defBody sDam).drop 2) t ∧ ∀ (way : Int) G, 0 ≤ way → way < 8 → StO G l → Dx (hid l G) v d → (∀ H' v' d', Keep l G H' → StO H' l → Dx (hid l H') v' d' → Good (bd + 1) (2 * m + 20) d' → Q v' H') →
      t { nx := fun _ H' => Q .non H', rt := Q } [some (.ref l), some v, some (.int deep), some (.int way), none, none, none] G := by
  have GD : FnOk P w K mg base CX0 j fD fdD _ spDraw := (ok_draw B DD).mono (by omega)
  have GU : FnOk P w K mg base CX0 j fU fdU _ spUnr := (ok_unr B DU DD).mono (by omega)
  have nd := scDam.nd
  refine ⟨_, (pss_cons (ps_if (pt_val (pe_isD (T := "tuple") (x := "tuple") (by decide +kernel) B.isi B.tuple (by decide +kernel) (pv 1) (by rfl) (by rfl)))
        (pss_cons (ps_set (i := 4) nd rfl (.inl rfl) (pe_call GD hr (by rfl) DD.g DD.F.kp DD.b .nil pass0 (pa_cons (pv 0) (pa_cons (pe_op op_add (pe_callB call_len_seq (by rfl) B.len PySem.boot_len (pa_cons (pv 1) pa_nil)) pe_int) pa_nil))))
        (pss_cons (ps_set (i := 5) nd rfl (.inl rfl) (pe_lst (pa_cons (pe_callTy call_listS (by rfl) B.list (by decide +kernel) (pa_cons (pv 1) pa_nil))
            (pa_cons (pe_op op_catA (pe_slice sl_tupA (pv 1) po_none (po_some (pv 4))) (pe_slice sl_tupA (pv 1) (po_some (pe_op op_add (pv 4) pe_int)) po_none))
            (pa_cons (pe_op op_catA (pe_op op_catA (pe_slice sl_tupA (pv 1) po_none (po_some (pv 4))) (pe_slice sl_tupA (pv 1) (po_some (pv 4)) (po_some (pe_op op_add (pv 4) pe_int)))) (pe_slice sl_tupA (pv 1) (po_some (pv 4)) po_none))
            (pa_cons (pe_revT (pv 1)) pa_nil))))))
        (pss_cons (ps_set (i := 6) nd rfl (.inl rfl) (pe_call GU hr (by rfl) DU.g DU.F.kp DU.b .nil pass0 (pa_cons (pv 0) pa_nil)))
        (pss_one (ps_ret (pe_ix ix_list (pe_op op_cat (pv 5) (pe_lst (pa_cons (pe_op op_catA (pv 1) (pe_tup (pa_cons (pv 6) pa_nil)))
            (pa_cons (pe_op op_catA (pe_op op_catA (pe_slice sl_tupA (pv 1) po_none (po_some (pv 4))) (pe_tup (pa_cons (pv 6) pa_nil))) (pe_slice sl_tupA (pv 1) (po_some (pe_op op_add (pv 4) pe_int)) po_none)) pa_nil))))
            (pe_call GD hr (by rfl) DD.g DD.F.kp DD.b .nil pass0 (pa_cons (pv 0) (pa_cons pe_int pa_nil))) (fun _ _ => rfl))))))) pss_nil)
      (pss_cons (ps_if (PW.pt (pw_and (pt_val (pe_isD (T := "str") (x := "str") (by decide +kernel) B.isi B.str (by decide +kernel) (pv 1) (by rfl) (by rfl))) (pw_and1 (pt_cmpR op_lt (pv 3) pe_int (nomark _)))))
        (pss_one (ps_ret (pe_ix ix_list (pe_lst (pa_cons (pe_op op_add_str (pv 1) pe_str) (pa_cons (pe_slice sl_str (pv 1) (po_some pe_int) po_none) (pa_cons (pe_upper (pv 1)) (pa_cons (pe_op op_add_str (pv 1) pe_str)
            (pa_cons pe_str (pa_cons pe_str pa_nil))))))) (pv 3) (fun _ _ => rfl)))) pss_nil)
      (pss_cons (ps_if (PW.pt (pw_and (pt_val (pe_isD (T := "int") (x := "int") (by decide +kernel) B.isi B.int (by decide +kernel) (pv 1) (by rfl) (by rfl)))
          (pw_and (pt_not (pt_val (pe_isD (T := "bool") (x := "bool") (by decide +kernel) B.isi B.bool (by decide +kernel) (pv 1) (by rfl) (by rfl)))) (pw_and1 (pt_cmpR op_lt (pv 3) pe_int (nomark _))))))
        (pss_one (ps_ret (pe_ix ix_list (pe_lst (pa_cons (pe_op op_add (pv 1) pe_int) (pa_cons (pe_op op_sub (pv 1) pe_int) (pa_cons (pe_op op_add (pe_op op_pow pe_int pe_int) pe_int) (pa_cons (pe_op op_add (pe_op op_pow pe_int pe_int) pe_int)
            (pa_cons (pe_op op_sub (pe_un un_neg (pe_op op_pow pe_int pe_int)) pe_int) (pa_cons pe_int pa_nil))))))) (pv 3) (fun _ _ => rfl)))) pss_nil)
      (pss_one (ps_ret (pe_call GU hr (by rfl) DU.g DU.F.kp DU.b .nil pass0 (pa_cons (pv 0) pa_nil))))))), fun way G w0 w8 st hd q => ?_⟩
  have unrel : ∀ (G' : Hp) (v' : V) (d' : PyData), Keep l G G' → StO G' l → Dx (hid l G') v' d' → d' ∈ unr → Q v' G' := fun G' v' d' k s' h' m' => q G' v' d' k s' h' ((unr_good d' m').mono (by omega) (by omega))
  refine ⟨v, rfl, rfl, d, hd.up (hid_same l G), _, rfl, ?_⟩
  by_cases ht : ∃ ds, d = .tuple ds
  · obtain ⟨ds, rfl⟩ := ht
    rw [isa_tuple]
    obtain ⟨a, xs, rfl, na, ea, hx⟩ := dx_tupOf hd
    have gw : wtAll ds + 1 ≤ m := hg.w
    have gf : fineAll bd ds = true := by have := hg.f; simpa only [fine] using this
    have hlen := hx.len
    have lw := len_wt ds
    have big : (5000 : Nat) ≤ sizeLine := by decide
    refine iteT ⟨.ref l, rfl, .ref a, rfl, a, xs, rfl, .inr (.inl (.inl ea)), _, 1, rfl, rfl, l, _, rfl, st, by omega, by omega, fun G1 at1 k1 s1 a0 a1 => ?_⟩
    obtain ⟨n, rfl⟩ : ∃ n : Nat, at1 = (n : Int) := ⟨at1.toNat, by omega⟩
    have hn : n ≤ ds.length := by omega
    have hd1 := hd.up k1.same
    have ea1 : G1 a = some (.tup xs) := k1.to na ea
    -- list(value)
    refine ⟨.ref a, rfl, a, xs, rfl, .inr (.inl (.inl ea1)), fun p1 n1 z1 => ?_⟩
    have e1 := dx_lst n1 z1 s1 (hx.up k1.same)
    have s2 := s1.new (o := .lst xs) n1
    have k2 := (k1.new (o := .lst xs) n1)
    -- value[:at] + value[at + 1:]
    refine ⟨.ref a, rfl, .int n, rfl, n, rfl, sl_of (hd.up k2.same) s2 fun G3 q3 k3 s3 f3 => ?_⟩
    refine ⟨.ref a, rfl, .int n, rfl, n, 1, rfl, rfl, ((n : Int) + 1), rfl, noPart (sl_of (hd.up (k2.trans k3).same) s3 fun G4 q4 k4 s4 f4 => ?_)⟩
    rw [cutD_to] at f3
    rw [show ((n : Int) + 1) = ((n + 1 : Nat) : Int) by omega, cutD_from] at f4
    refine cat_of (f3.up k4.same) f4 s4 (by rw [List.length_take, List.length_drop]; omega) fun G5 q5 k5 s5 f5 => ?_
    have kk5 := ((k2.trans k3).trans k4).trans k5
    -- value[:at] + value[at:at + 1] + value[at:]
    refine ⟨.ref a, rfl, .int n, rfl, n, rfl, sl_of (hd.up kk5.same) s5 fun G6 q6 k6 s6 f6 => ?_⟩
    refine ⟨.ref a, rfl, .int n, rfl, n, rfl, .int n, rfl, n, 1, rfl, rfl, ((n : Int) + 1), rfl, sl_of (hd.up (kk5.trans k6).same) s6 fun G7 q7 k7 s7 f7 => ?_⟩
    rw [cutD_to] at f6
    rw [cutD_one] at f7
    refine cat_of (f6.up k7.same) f7 s7 (by rw [List.length_take, List.length_take, List.length_drop]; omega) fun G8 q8 k8 s8 f8 => ?_
    have kk8 := ((kk5.trans k6).trans k7).trans k8
    refine ⟨.ref a, rfl, .int n, rfl, n, rfl, noPart (sl_of (hd.up kk8.same) s8 fun G9 q9 k9 s9 f9 => ?_)⟩
    rw [cutD_from] at f9
    refine cat_of (f8.up k9.same) f9 s9 (by rw [List.length_append, List.length_take, List.length_take, List.length_drop]; omega) fun G10 q10 k10 s10 f10 => ?_
    have kk10 := (kk8.trans k9).trans k10
    -- value[::-1]
    have ea10 : G10 a = some (.tup xs) := kk10.to na ea
    refine ⟨.ref a, rfl, a, xs, rfl, .inl (.inl ea10), fun q11 n11 => ?_⟩
    have f11 := dx_tup n11 s10 (hx.up kk10.same).rev
    have s11 := s10.new (o := .tup xs.reverse) n11
    have k11 := kk10.new (o := .tup xs.reverse) n11
    refine ⟨by show 4 ≤ sizeLine; decide, fun ps nps => ?_⟩
    have s12 := s11.new (o := .lst [.ref p1, .ref q5, .ref q10, .ref q11]) nps
    have k12 := k11.new (o := .lst [.ref p1, .ref q5, .ref q10, .ref q11]) nps
    have nsl : ps ≠ l := s11.ne nps
    -- other
    refine ⟨.ref l, rfl, l, rfl, s12, fun G13 ov od k13 s13 f13 m13 => ?_⟩
    have kk13 := k12.trans k13
    refine ⟨.ref ps, rfl, .ref a, rfl, ov, rfl, by show 1 ≤ sizeLine; decide, fun pt npt => ?_⟩
    have s14 := s13.new (o := .tup [ov]) npt
    have k14 := kk13.new (o := .tup [ov]) npt
    refine cat_of (hd.up k14.same) (dx_tup npt s13 (.cons f13 .nil)) s14 (by rw [List.length_singleton]; omega) fun G15 q15 k15 s15 f15 => ?_
    have kk15 := k14.trans k15
    refine ⟨.ref a, rfl, .int n, rfl, n, rfl, sl_of (hd.up kk15.same) s15 fun G16 q16 k16 s16 f16 => ?_⟩
    rw [cutD_to] at f16
    have kk16 := kk15.trans k16
    have f13' : Dx (hid l G16) ov od := (f13.up (hnew npt)).up (k15.trans k16).same
    refine ⟨ov, rfl, by show 1 ≤ sizeLine; decide, fun pu npu => ?_⟩
    have s17 := s16.new (o := .tup [ov]) npu
    have k17 := kk16.new (o := .tup [ov]) npu
    refine cat_of (f16.up (hnew npu)) (dx_tup npu s16 (.cons f13' .nil)) s17 (by rw [List.length_take, List.length_singleton]; omega) fun G18 q18 k18 s18 f18 => ?_
    have kk18 := k17.trans k18
    refine ⟨.ref a, rfl, .int n, rfl, n, 1, rfl, rfl, ((n : Int) + 1), rfl, noPart (sl_of (hd.up kk18.same) s18 fun G19 q19 k19 s19 f19 => ?_)⟩
    rw [show ((n : Int) + 1) = ((n + 1 : Nat) : Int) by omega, cutD_from] at f19
    refine cat_of (f18.up k19.same) f19 s19 (by rw [List.length_append, List.length_take, List.length_drop, List.length_singleton]; omega) fun G20 q20 k20 s20 f20 => ?_
    have kk20 := (kk18.trans k19).trans k20
    have kx : Keep l (L2.upd (L2.upd G10 q11 (.tup xs.reverse)) ps (.lst [.ref p1, .ref q5, .ref q10, .ref q11])) G20 := ((((((k13.new npt).trans k15).trans k16).new npu).trans k18).trans k19).trans k20
    have k11x : Keep l (L2.upd G10 q11 (.tup xs.reverse)) G20 := ((Keep.refl l _).new nps).trans kx
    have k10x : Keep l G10 G20 := ((Keep.refl l _).new n11).trans k11x
    have k5x : Keep l G5 G20 := ((((k6.trans k7).trans k8).trans k9).trans k10).trans k10x
    have k2x : Keep l (L2.upd G1 p1 (.lst xs)) G20 := ((k3.trans k4).trans k5).trans k5x
    have k15x : Keep l G15 G20 := (((k16.new npu).trans k18).trans k19).trans k20
    have all : Dxs (hid l G20) [.ref p1, .ref q5, .ref q10, .ref q11, .ref q15, .ref q20] _ := .cons (e1.up k2x.same) (.cons (f5.up k5x.same) (.cons (f10.up k10x.same) (.cons (f11.up k11x.same) (.cons (f15.up k15x.same) (.cons f20 .nil)))))
    refine ⟨by show 2 ≤ sizeLine; decide, fun p6 np6 => ?_⟩
    have eps : G20 ps = some (.lst [.ref p1, .ref q5, .ref q10, .ref q11]) := kx.to nsl upd_same
    refine ⟨ps, p6, _, _, rfl, rfl, by rw [upd_ne (ne_of_none eps np6)]; exact eps, upd_same, by show 4 + 2 ≤ sizeLine; decide, fun p7 np7 => ?_⟩
    have s21 := (s20.new (o := .lst [.ref q15, .ref q20]) np6)
    have s22 := s21.new (o := .lst ([.ref p1, .ref q5, .ref q10, .ref q11] ++ [.ref q15, .ref q20])) np7
    refine ⟨.ref l, rfl, l, 6, rfl, s22, by decide, by decide, fun G23 r k23 s23 r0 r6 => ?_⟩
    have ep7 : G23 p7 = some _ := k23.to (s21.ne np7) upd_same
    obtain ⟨v', ev, dv⟩ := all.get (i := r.toNat) (List.getElem?_eq_getElem (by show r.toNat < 6; omega))
    refine ⟨p7, _, r, v', rfl, rfl, .inl (.inl ep7), ?_, ?_⟩
    · have e : ((r.toNat : Nat) : Int) = r := by omega
      rw [← e]
      exact atI_nat ev
    · exact q G23 v' _ (((kk20.new np6).new np7).trans k23) s23 (((dv.up (hnew np6)).up (hnew np7)).up k23.same) (dam_good gf gw hb0 m13 _ (List.getElem_mem _))
  · have hf : isaN "tuple" d = false := by
      rw [isa_tuple]
      cases d with
      | tuple ds => exact absurd ⟨ds, rfl⟩ ht
      | _ => rfl
    rw [hf]
    refine iteF ⟨v, rfl, rfl, d, hd.up (hid_same l G), _, rfl, ?_⟩
    cases d with
    | tuple ds => exact absurd ⟨ds, rfl⟩ ht
    | str x =>
      have es : isaN "str" (.str x) = true := isa_str
      have ei : isaN "int" (.str x) = false := isa_int
      cases hd
      have xl : x.length + 1 ≤ m := hg.w
      have big : (5000 : Nat) ≤ sizeLine := by decide
      rw [es]
      refine iteT ⟨.int way, rfl, way, 6, rfl, rfl, _, rfl, ?_⟩
      by_cases hw : way < 6
      · rw [decide_eq_true hw]
        refine iteT ⟨.str x, rfl, x, "a", rfl, rfl, by rw [show ("a" : Str).length = 1 from rfl]; omega, .str x, rfl, 1, rfl, noPart ⟨x, rfl, by omega, .str x, rfl, ⟨_, rfl⟩, x, rfl, rfl, by omega,
          .str x, rfl, x, "-", rfl, rfl, by rw [show ("-" : Str).length = 1 from rfl]; omega, by show 6 ≤ sizeLine; decide, fun p np => ?_⟩⟩
        obtain ⟨y, my, ey⟩ := pick (f := V.str) (ns := [x ++ "a", cutS x (some 1) none, Txt.upper x, x ++ "-", "abcdefgh", "abcdefghi"]) w0 hw
        exact ⟨.int way, rfl, p, _, way, _, rfl, rfl, .inl (.inl upd_same), ey, q _ _ _ ((Keep.refl l G).new np) (st.new np) (.str y) (str_good hg y my)⟩
      · rw [decide_eq_false hw]
        refine iteF ⟨.str x, rfl, rfl, _, .str x, _, rfl, ?_⟩
        rw [ei]
        exact iteF ⟨.ref l, rfl, l, rfl, st, unrel⟩
    | int i =>
      have es : isaN "str" (.int i) = false := isa_str
      have ei : isaN "int" (.int i) = true := isa_int
      have eb : isaN "bool" (.int i) = false := isa_bool
      cases hd
      rw [es]
      refine iteF ⟨.int i, rfl, rfl, _, .int i, _, rfl, ?_⟩
      rw [ei]
      refine iteT ⟨.int i, rfl, rfl, _, .int i, _, rfl, ?_⟩
      rw [eb]
      refine iteT ⟨.int way, rfl, way, 6, rfl, rfl, _, rfl, ?_⟩
      by_cases hw : way < 6
      · rw [decide_eq_true hw]
        have c6 : (0 : Int) ≤ 6 ∧ (6 : Int) ≤ 1000000 ∧ (10 : Int).natAbs < 2 ^ 64 := by decide
        have c9 : (0 : Int) ≤ 9 ∧ (9 : Int) ≤ 1000000 ∧ (10 : Int).natAbs < 2 ^ 64 := by decide
        refine iteT ⟨.int i, rfl, i, 1, rfl, rfl, .int i, rfl, i, 1, rfl, rfl, 10, 6, rfl, rfl, c6, _, 1, rfl, rfl, 10, 9, rfl, rfl, c9, _, 1, rfl, rfl, 10, 9, rfl, rfl, c9, _, rfl, _, 1, rfl, rfl, by show 6 ≤ sizeLine; decide, fun p np => ?_⟩
        obtain ⟨y, my, ey⟩ := pick (f := V.int) (ns := [i + 1, i - 1, (10 : Int) ^ (6 : Int).toNat + 1, (10 : Int) ^ (9 : Int).toNat + 1, -(10 : Int) ^ (9 : Int).toNat - 1, 0]) w0 hw
        exact ⟨.int way, rfl, p, _, way, _, rfl, rfl, .inl (.inl upd_same), ey, q _ _ _ ((Keep.refl l G).new np) (st.new np) (.int y) (int_good hg hb0 y my)⟩
      · rw [decide_eq_false hw]
        exact iteF ⟨.ref l, rfl, l, rfl, st, unrel⟩
    | bool b =>
      have es : isaN "str" (.bool b) = false := isa_str
      have ei : isaN "int" (.bool b) = true := isa_int
      have eb : isaN "bool" (.bool b) = true := isa_bool
      cases hd
      rw [es]
      refine iteF ⟨.bl b, rfl, rfl, _, .bl b, _, rfl, ?_⟩
      rw [ei]
      refine iteT ⟨.bl b, rfl, rfl, _, .bl b, _, rfl, ?_⟩
      rw [eb]
      exact iteF (iteF ⟨.ref l, rfl, l, rfl, st, unrel⟩)
    | none =>
      have es : isaN "str" .none = false := isa_str
      have ei : isaN "int" .none = false := isa_int
      rw [es]
      refine iteF ⟨v, rfl, rfl, _, hd.up (hid_same l G), _, rfl, ?_⟩
      rw [ei]
      exact iteF (iteF ⟨.ref l, rfl, l, rfl, st, unrel⟩)
    | list ds =>
      have es : isaN "str" (.list ds) = false := isa_str
      have ei : isaN "int" (.list ds) = false := isa_int
      rw [es]
      refine iteF ⟨v, rfl, rfl, _, hd.up (hid_same l G), _, rfl, ?_⟩
      rw [ei]
      exact iteF (iteF ⟨.ref l, rfl, l, rfl, st, unrel⟩)
    | dict ks =>
      have es : isaN "str" (.dict ks) = false := isa_str
      have ei : isaN "int" (.dict ks) = false := isa_int
      rw [es]
      refine iteF ⟨v, rfl, rfl, _, hd.up (hid_same l G), _, rfl, ?_⟩
      rw [ei]
      exact iteF (iteF ⟨.ref l, rfl, l, rfl, st, unrel⟩)
theorem step_dam {f fD fU : Addr} {fd fdD fdU : FuncData} (B : Bl mg) (D : Df K mg "_law_damaged" sDam ["stream", "value", "deep"] f fd) (DD : Df K mg "_law_draw" sDraw ["stream", "total"] fD fdD) (DU : Df K mg "_law_unrelated" sUnr ["stream"] fU fdU)
    {j : Nat} {k : Int} (h2 : 2 ≤ j) {spR : Sp} (GR : FnOk P w K mg base CX0 j f fd ["stream", "value", "deep"] spR) (hR : 0 < k → spR = spDam (k - 1)) : FnOk P w K mg base CX0 (j + 1) f fd ["stream", "value", "deep"] (spDam k) := by
  have GD : FnOk P w K mg base CX0 j fD fdD _ spDraw := (ok_draw B DD).mono (by omega)
  have GU : FnOk P w K mg base CX0 j fU fdU _ spUnr := (ok_unr B DU DD).mono (by omega)
  refine D.F.ok scDam (fun vs H Q E h => ?_) (fun cdv A outer s H vs Q E hr h => ?_)
  · obtain ⟨l, v, d, deep, bd, m, rfl, _⟩ := h
    rfl
  · obtain ⟨l, v, d, deep, bd, m, rfl, hs, hk, hd, hg, hb0, hb1, hm, q⟩ := h
    have nd := scDam.nd
    obtain ⟨tr, hrest, hq⟩ := rest_dam (P := P) (w := w) (base := base) (outer := outer) (s := s) (H := H) (E := E) (Q := Q) (l := l) (v := v) (deep := deep) B DD DU h2 hr hg hb0 hb1 hm
    refine ⟨_, pss_cons (ps_set (i := 3) nd rfl (.inl rfl) (pe_call GD hr (by rfl) DD.g DD.F.kp DD.b .nil pass0 (pa_cons (pv 0) (pa_cons pe_int pa_nil))))
      (pss_cons (ps_if (PW.pt (pw_and (pt_val (pe_isD (T := "tuple") (x := "tuple") (by decide +kernel) B.isi B.tuple (by decide +kernel) (pv 1) (by rfl) (by rfl)))
          (pw_and (pt_cmpR (op_ne0 hr.units0) (pv 1) (pe_tup pa_nil) (nomark _)) (pw_and (pt_cmpR op_gt (pv 2) pe_int (nomark _)) (pw_and1 (pt_cmpR op_lt (pv 3) pe_int (nomark _)))))))
        (pss_cons (ps_set (i := 4) nd rfl (.inl rfl) (pe_call GD hr (by rfl) DD.g DD.F.kp DD.b .nil pass0 (pa_cons (pv 0) (pa_cons (pe_callB call_len_seq (by rfl) B.len PySem.boot_len (pa_cons (pv 1) pa_nil)) pa_nil))))
        (pss_one (ps_ret (pe_op op_catA (pe_op op_catA (pe_slice sl_tupA (pv 1) po_none (po_some (pv 4)))
            (pe_tup (pa_cons (pe_call GR hr (by rfl) D.g D.F.kp D.b .nil pass0 (pa_cons (pv 0) (pa_cons (pe_ix ix_tup (pv 1) (pv 4) (fun _ _ => rfl)) (pa_cons (pe_op op_sub (pv 2) pe_int) pa_nil)))) pa_nil)))
            (pe_slice sl_tupA (pv 1) (po_some (pe_op op_add (pv 4) pe_int)) po_none))))) pss_nil) hrest), ?_⟩
    refine ⟨.ref l, rfl, l, 8, rfl, hs, by decide, by decide, fun H1 way k1 s1 w0 w8 => ?_⟩
    have hd1 := hd.up k1.same
    have go : ∀ G, Keep l H1 G → StO G l → tr { nx := fun _ H' => Q .non H', rt := Q } [some (.ref l), some v, some (.int deep), some (.int way), none, none, none] G := fun G k s =>
      hq way G w0 w8 s (hd1.up k.same) fun H' v' d' k' => q H' v' d' ((k1.trans k).trans k')
    refine ⟨v, rfl, rfl, d, hd1.up (hid_same l H1), _, rfl, ?_⟩
    by_cases ht : ∃ ds, d = .tuple ds
    · obtain ⟨ds, rfl⟩ := ht
      rw [isa_tuple]
      obtain ⟨a, xs, rfl, na, ea, hx⟩ := dx_tupOf hd1
      have gw : wtAll ds + 1 ≤ m := hg.w
      have gf : fineAll bd ds = true := by have := hg.f; simpa only [fine] using this
      have hlen := hx.len
      have lw := len_wt ds
      have big : (5000 : Nat) ≤ sizeLine := by decide
      refine iteT ⟨.ref a, rfl, by show 0 ≤ sizeLine; decide, fun p np => ?_⟩
      have s2 := s1.new (o := .tup []) np
      have k2 := (Keep.refl l H1).new (o := .tup []) np
      refine ⟨a, p, xs, rfl, rfl, .inl (.inl (k2.to na ea)), .inl (.inl upd_same), _, rfl, ?_⟩
      cases hxe : xs.isEmpty with
      | true => exact iteF (iteF (go _ k2 s2))
      | false =>
        refine iteT ⟨.int deep, rfl, deep, 0, rfl, rfl, _, rfl, ?_⟩
        by_cases hdp : 0 < deep
        · rw [decide_eq_true hdp]
          refine iteT ⟨.int way, rfl, way, 5, rfl, rfl, _, rfl, ?_⟩
          by_cases hw5 : way < 5
          · rw [decide_eq_true hw5]
            have hne : 0 < ds.length := by
              cases xs with
              | nil => cases hxe
              | cons _ _ => rw [← hlen]; simp
            have e2 := k2.to na ea
            refine iteT ⟨.ref l, rfl, .ref a, rfl, a, xs, rfl, .inr (.inl (.inl e2)), l, _, rfl, s2, by omega, by omega, fun G3 at1 k3 s3 a0 a1 => ?_⟩
            obtain ⟨n, rfl⟩ : ∃ n : Nat, at1 = (n : Int) := ⟨at1.toNat, by omega⟩
            have hn : n < ds.length := by omega
            have k13 := (k1.trans k2).trans k3
            refine ⟨.ref a, rfl, .int n, rfl, n, rfl, sl_of (hd.up k13.same) s3 fun G4 q4 k4 s4 f4 => ?_⟩
            rw [cutD_to] at f4
            have k14 := k13.trans k4
            have hd4 := hd.up k14.same
            obtain ⟨a', xs', ea', na', e4, hx4⟩ := dx_tupOf hd4
            cases ea'
            obtain ⟨y, ey, dy⟩ := hx4.get (List.getElem?_eq_getElem hn)
            have wy := wt_mem (List.getElem_mem hn)
            have gy : Good bd (wt ds[n]) ds[n] := ⟨fineAll_mem.mp gf _ (List.getElem_mem _), Nat.le_refl _⟩
            have e := hR (by omega)
            subst e
            refine ⟨.ref l, rfl, .ref a, rfl, .int n, rfl, a, xs', n, y, rfl, rfl, .inl (.inl e4), atI_nat ey, .int deep, rfl, deep, 1, rfl, rfl, l, y, ds[n], deep - 1, bd, wt ds[n], rfl, s4, by omega, dy, gy, hb0, hb1, by omega, fun G5 v5 d5 k5 s5 f5 g5 => ?_⟩
            refine ⟨by show 1 ≤ sizeLine; decide, fun pt npt => ?_⟩
            have s6 := s5.new (o := .tup [v5]) npt
            refine cat_of ((f4.up k5.same).up (hnew npt)) (dx_tup npt s5 (.cons f5 .nil)) s6 (by rw [List.length_take, List.length_singleton]; omega) fun G7 q7 k7 s7 f7 => ?_
            have k17 := ((k14.trans k5).new (o := .tup [v5]) npt).trans k7
            refine ⟨.ref a, rfl, .int n, rfl, n, 1, rfl, rfl, ((n : Int) + 1), rfl, noPart (sl_of (hd.up k17.same) s7 fun G8 q8 k8 s8 f8 => ?_)⟩
            rw [show ((n : Int) + 1) = ((n + 1 : Nat) : Int) by omega, cutD_from] at f8
            refine cat_of (f7.up k8.same) f8 s8 (by rw [List.length_append, List.length_take, List.length_drop, List.length_singleton]; omega) fun G9 q9 k9 s9 f9 => ?_
            refine q G9 _ _ ((k17.trans k8).trans k9) s9 f9 ⟨?_, ?_⟩
            · rw [fine]
              refine fineAll_mem.mpr fun z hz => ?_
              rcases List.mem_append.mp hz with hz | hz
              · rcases List.mem_append.mp hz with hz | hz
                · exact fine_le (Nat.le_succ _) z (fineAll_mem.mp gf z (List.mem_of_mem_take hz))
                · have : z = d5 := by simpa using hz
                  rw [this]
                  exact g5.f
              · exact fine_le (Nat.le_succ _) z (fineAll_mem.mp gf z (List.mem_of_mem_drop hz))
            · have w1 := wtAll_take n ds
              rw [List.drop_eq_getElem_cons hn] at w1
              have w2 : wtAll (ds[n] :: ds.drop (n + 1)) = wt ds[n] + wtAll (ds.drop (n + 1)) := by simp [wtAll]
              have w3 : wtAll [d5] = wt d5 := by simp [wtAll]
              have w4 := g5.w
              rw [wt, wtAll_app, wtAll_app, w3]
              omega
          · rw [decide_eq_false hw5]
            exact iteF (go _ k2 s2)
        · rw [decide_eq_false hdp]
          exact iteF (iteF (go _ k2 s2))
    · have hf : isaN "tuple" d = false := by
        rw [isa_tuple]
        cases d with
        | tuple ds => exact absurd ⟨ds, rfl⟩ ht
        | _ => rfl
      rw [hf]
      exact iteF (iteF (go _ (Keep.refl l H1) s1))
end
end K1

set_option maxRecDepth 100000
set_option maxHeartbeats 4000000
namespace K1
open PySem PySem.Spec PyProof.Rows L2 KX
abbrev sAg : Stmt := topS 23
section
variable {P : Program} {w : World} {K : PySem.W.Frag} {mg : Str → Option Value} {base : Heap}
theorem ok_dam3 {f fD fU : Addr} {fd fdD fdU : FuncData} (B : Bl mg) (D : Df K mg "_law_damaged" sDam ["stream", "value", "deep"] f fd) (DD : Df K mg "_law_draw" sDraw ["stream", "total"] fD fdD) (DU : Df K mg "_law_unrelated" sUnr ["stream"] fU fdU) :
    FnOk P w K mg base CX0 6 f fd ["stream", "value", "deep"] (spDam 3) := by
  have G0 : FnOk P w K mg base CX0 2 f fd ["stream", "value", "deep"] (fun _ _ _ _ => False) := ⟨fun _ _ _ _ h => h.elim, fun _ _ _ _ _ _ _ _ _ _ _ _ _ h => h.elim⟩
  have G1 := step_dam B D DD DU (k := 0) (by decide) G0 (fun h => absurd h (by decide))
  have G2 := step_dam B D DD DU (k := 1) (by decide) G1 (fun _ => rfl)
  have G3 := step_dam B D DD DU (k := 2) (by decide) G2 (fun _ => rfl)
  exact step_dam B D DD DU (k := 3) (by decide) G3 (fun _ => rfl)
/-! ### _law_agrees -/
def spAg : Sp := fun vs H Q _ => ∃ v d bd m, vs = [v] ∧ Dx H v d ∧ Good bd m d ∧ bd < 10 ^ 400 ∧ m ≤ 100 ∧ ∀ H', Same H H' → Q (.bl true) H'
theorem scAg : FnScope ["value", "kept", "turn"] ["value"] (defScope sAg) := ⟨rfl, rfl, rfl, by decide +kernel, rfl, by decide +kernel, by decide +kernel⟩
theorem smS_of {bd m : Nat} {d : PyData} (g : Good bd m d) (hm : m ≤ 100) : smS d := by
  cases d with
  | str x =>
    have := g.w
    rw [wt] at this
    have hb : (100 : Nat) < sizeLine := by decide
    show x.length ≤ sizeLine
    omega
  | _ => trivial
theorem smA_of {bd m : Nat} {d : PyData} (g : Good bd m d) (hm : m ≤ 100) : smA d := by
  cases d with
  | tuple ds =>
    intro e he
    have gf : fineAll bd ds = true := by have := g.f; rwa [fine] at this
    have gw := g.w
    rw [wt] at gw
    exact smS_of (m := m) ⟨fineAll_mem.mp gf e he, by have := wt_mem he; omega⟩ hm
  | _ => trivial
theorem two_good (a b : Bool) : Good 0 3 (.list [.bool a, .bool b]) := ⟨by simp [fine, fineAll], by simp [wt, wtAll]⟩
theorem ok_ag {f fB fT fN fV fR gW gN gR : Addr} {fd fdB fdT fdN fdV fdR gdW gdN gdR : FuncData} (B : Bl mg) (C : Cs mg) (D : Df K mg "_law_agrees" sAg ["value"] f fd) (DB : Df K mg "is_between" sBetween ["value", "low", "high"] fB fdB)
    (DT : Df K mg "is_tuple_between" sTupB ["value", "low", "high"] fT fdT) (DN : Df K mg "is_name" sName ["value"] fN fdN) (DV : Df K mg "are_row_values" sVals ["value"] fV fdV) (DR : Df K mg "is_row" sRow ["value"] fR fdR)
    (EW : Df K mg "_law_whole_between" sWB ["value", "low", "high"] gW gdW) (EN : Df K mg "_law_valid_name" sVN ["value"] gN gdN) (ER : Df K mg "_law_valid_row" sVR ["value"] gR gdR) : FnG P w K mg base CX0 4 f fd ["value"] spAg := by
  have GN : FnOk P w K mg base CX0 3 fN fdN _ spName := (ok_name B C DN).mono (by decide)
  have GR : FnOk P w K mg base CX0 3 fR fdR _ spRow := ok_row B C DR DB DT DN DV
  have HN : FnOk P w K mg base CX0 3 gN gdN _ spName := (ok_vn B EN).mono (by decide)
  have HR : FnOk P w K mg base CX0 3 gR gdR _ spRow := (ok_vr B ER EW EN).mono (by decide)
  refine okG D.F scAg (fun vs H Q E h => ?_) (fun cdv A outer s H vs Q E hgd hr h => ?_)
  · obtain ⟨v, d, bd, m, rfl, _⟩ := h
    rfl
  · obtain ⟨v, d, bd, m, rfl, hd, hg, hb, hm, q⟩ := h
    have nd := scAg.nd
    obtain ⟨h1, h2, h3⟩ := hg.show hb (by omega)
    have sS := smS_of hg hm
    have sA := smA_of hg hm
    refine ⟨_, pss_cons (ps_set (i := 1) nd rfl (.inl rfl) (pe_callB (call_reprD hr hgd) (by rfl) B.repr (by decide +kernel) (pa_cons (pv 0) pa_nil)))
      (pss_cons (ps_for PassesOwn.never rfl (pi_range1 (by rfl) B.range (pa_cons pe_int pa_nil)) (pg_name (i := 2) nd rfl (.inl rfl))
        (pss_one (ps_if (pt_cmpR op_ne (pe_callB (call_reprD hr hgd) (by rfl) B.repr (by decide +kernel) (pa_cons (pe_lstS (pa_cons (pe_call GN hr (by rfl) DN.g DN.F.kp DN.b .nil pass0 (pa_cons (pv 0) pa_nil))
            (pa_cons (pe_call GR hr (by rfl) DR.g DR.F.kp DR.b .nil pass0 (pa_cons (pv 0) pa_nil)) pa_nil))) pa_nil))
          (pe_callB (call_reprD hr hgd) (by rfl) B.repr (by decide +kernel) (pa_cons (pe_lstS (pa_cons (pe_call HN hr (by rfl) EN.g EN.F.kp EN.b .nil pass0 (pa_cons (pv 0) pa_nil))
            (pa_cons (pe_call HR hr (by rfl) ER.g ER.F.kp ER.b .nil pass0 (pa_cons (pv 0) pa_nil)) pa_nil))) pa_nil)) (nomark _)) (pss_one (ps_ret pe_bl)) pss_nil)))
      (pss_one (ps_ret (pe_cmpR op_eq (pe_callB (call_reprD hr hgd) (by rfl) B.repr (by decide +kernel) (pa_cons (pv 0) pa_nil)) (pv 1) (nomark _))))), ?_⟩
    refine ⟨v, rfl, v, d, rfl, hd, h1, h2, h3, 2, rfl, by decide, by decide, ?_⟩
    refine for_range (lo := 0) (n := 2) (fun i σ G => Same H G ∧ ∃ tv, σ = [some v, some (.str d.shown), tv]) ⟨Same.refl H, none, rfl⟩ (fun i σ G hi hp => ?_) (fun σ G hp => ?_)
    · obtain ⟨sm, tv, rfl⟩ := hp
      refine ⟨v, rfl, v, d, rfl, hd.up sm, sS, fun H1 s1 => ⟨v, rfl, v, d, rfl, (hd.up sm).up s1, sA, fun H2 s2 => ⟨by show 2 ≤ sizeLine; decide, fun p np zp => ?_⟩⟩⟩
      obtain ⟨g1, g2, g3⟩ := (two_good (nameD d) (rowD d)).show (by decide) (by decide)
      have sm2 : Same H (L2.upd H2 p (.lst [.bl (nameD d), .bl (rowD d)])) := ((sm.trans s1).trans s2).trans (same_new np)
      refine ⟨.ref p, _, rfl, .lst upd_same zp (.cons (.bl _) (.cons (.bl _) .nil)), g1, g2, g3, ?_⟩
      refine ⟨v, rfl, v, d, rfl, hd.up sm2, sS, fun H3 s3 => ⟨v, rfl, v, d, rfl, (hd.up sm2).up s3, sA, fun H4 s4 => ⟨by show 2 ≤ sizeLine; decide, fun p2 np2 zp2 => ?_⟩⟩⟩
      refine ⟨.ref p2, _, rfl, .lst upd_same zp2 (.cons (.bl _) (.cons (.bl _) .nil)), g1, g2, g3, rfl, _, rfl, iteNS rfl ?_⟩
      exact ⟨((sm2.trans s3).trans s4).trans (same_new np2), _, rfl⟩
    · obtain ⟨sm, tv, rfl⟩ := hp
      refine ⟨v, rfl, v, d, rfl, hd.up sm, h1, h2, h3, _, rfl, rfl, ?_⟩
      rw [decide_eq_true rfl]
      exact q G sm
end
end K1

set_option maxRecDepth 100000
set_option maxHeartbeats 4000000
namespace K1
open PySem PySem.Spec PyProof.Rows L2 KX
abbrev sBo : Stmt := topS 24
/-! ### _law_bounds -/
def entD (n : Str) (c : PyData) (vs : PyData) (e : PyData) (b : Bool) : PyData := .tuple [.tuple [.str n, c, vs, e], .bool b]
def m10 (k : Int) : Int := (10 : Int) ^ k.toNat
def bo1 : List PyData := [entD "a" (.int 1) (.tuple [.int 0]) (.int 1) true, entD "a" (.int (m10 6)) (.tuple [.int 0]) (.int (m10 9)) true, entD "a" (.int 0) (.tuple [.int 0]) (.int 1) false]
def bo2 : List PyData := [entD "a" (.int (m10 6 + 1)) (.tuple [.int 0]) (.int 1) false, entD "a" (.int 1) (.tuple [.int 0]) (.int 0) false]
def bo3 : List PyData := [entD "a" (.int 1) (.tuple [.int 0]) (.int (m10 9 + 1)) false, entD "a" (.int 1) (.tuple [.int (m10 9), .int (-m10 9), .int 0, .int 1]) (.int 1) true]
def bo4 : List PyData := [entD "a" (.int 1) (.tuple [.int (m10 9 + 1)]) (.int 1) false, entD "a" (.int 1) (.tuple [.int (-m10 9 - 1)]) (.int 1) false]
def bo5 : List PyData := [entD "a" (.int 1) (.tuple []) (.int 1) false, entD "a" (.int 1) (.tuple (List.replicate (5 : Int).toNat [PyData.int 0]).flatten) (.int 1) false]
def bo6 : List PyData := [entD "abcdefgh" (.int 1) (.tuple [.int 0]) (.int 1) true, entD "abcdefghi" (.int 1) (.tuple [.int 0]) (.int 1) false, entD "" (.int 1) (.tuple [.int 0]) (.int 1) false]
def bo7 : List PyData := [entD "a" (.int 1) (.tuple [.bool true]) (.int 1) false, entD "a" (.bool true) (.tuple [.int 0]) (.int 1) false, entD "a" (.int 1) (.list [.int 0]) (.int 1) false]
def boAll : List PyData := bo1 ++ bo2 ++ bo3 ++ bo4 ++ bo5 ++ bo6 ++ bo7

theorem cat_up {G G2 : Hp} {r : Addr} {xs ys : List V} {ds es : List PyData} (dx : Dxs G xs ds) (t : Same G G2) (dy : Dxs G2 ys es) (n : G2 r = none) :
    Dxs (L2.upd G2 r (.lst (xs ++ ys))) (xs ++ ys) (ds ++ es) ∧ (L2.upd G2 r (.lst (xs ++ ys))) r = some (.lst (xs ++ ys)) ∧ Same G (L2.upd G2 r (.lst (xs ++ ys))) :=
  ⟨((dx.up t).app dy).up (same_new n), upd_same, t.trans (same_new n)⟩
def spBo : Sp := fun vs H Q _ => vs = [] ∧ ∀ H' p xs, Same H H' → H' p = some (.lst xs) → Dxs H' xs boAll → Q (.ref p) H'
theorem scBo : FnScope ["some"] [] (defScope sBo) := ⟨rfl, rfl, rfl, by decide +kernel, rfl, by decide +kernel, by decide +kernel⟩
section
variable {X : Cx}
theorem p10 {pos p1 p2 : Pos} {j j' : Nat} {k : Int} (h0 : 0 ≤ k) (h1 : k ≤ 1000) : PE X (.BinOp (.Constant (.int 10) j p1) .Pow (.Constant (.int k) j' p2) pos) (tD (.int (m10 k))) :=
  pd_val (pe_op op_pow pe_int pe_int) fun _ _ _ q => ⟨10, k, rfl, rfl, ⟨h0, by omega, by decide⟩, q⟩
end
section
variable {P : Program} {w : World} {K : PySem.W.Frag} {mg : Str → Option Value} {base : Heap}
theorem ok_bo {f : Addr} {fd : FuncData} (D : Df K mg "_law_bounds" sBo [] f fd) : FnOk P w K mg base CX0 1 f fd [] spBo := by
  refine D.F.ok scBo (fun vs H Q E h => ?_) (fun cdv A outer s H vs Q E hr h => ?_)
  · obtain ⟨rfl, _⟩ := h
    rfl
  · obtain ⟨rfl, q⟩ := h
    have nd := scBo.nd
    refine ⟨_, pss_cons (ps_set (i := 0) nd rfl (.inl rfl) (pd_lst (ds := bo1) (pd_cons (pd_tup (pd_cons (pd_tup (pd_cons pd_str (pd_cons pd_int (pd_cons (pd_tup (pd_cons pd_int pd_nil)) (pd_cons pd_int pd_nil))))) (pd_cons pd_bl pd_nil))) (pd_cons (pd_tup (pd_cons (pd_tup (pd_cons pd_str (pd_cons (p10 (k := 6) (by decide) (by decide)) (pd_cons (pd_tup (pd_cons pd_int pd_nil)) (pd_cons (p10 (k := 9) (by decide) (by decide)) pd_nil))))) (pd_cons pd_bl pd_nil))) (pd_cons (pd_tup (pd_cons (pd_tup (pd_cons pd_str (pd_cons pd_int (pd_cons (pd_tup (pd_cons pd_int pd_nil)) (pd_cons pd_int pd_nil))))) (pd_cons pd_bl pd_nil))) pd_nil)))))
      (pss_cons (ps_set (i := 0) nd rfl (.inl rfl) (pe_op op_cat (pv 0) (pd_lst (ds := bo2) (pd_cons (pd_tup (pd_cons (pd_tup (pd_cons pd_str (pd_cons (pd_val (pe_op op_add (pe_op op_pow pe_int pe_int) pe_int) fun _ _ _ q => ⟨10, 6, rfl, rfl, ⟨by decide, by decide, by decide⟩, _, 1, rfl, rfl, q⟩) (pd_cons (pd_tup (pd_cons pd_int pd_nil)) (pd_cons pd_int pd_nil))))) (pd_cons pd_bl pd_nil))) (pd_cons (pd_tup (pd_cons (pd_tup (pd_cons pd_str (pd_cons pd_int (pd_cons (pd_tup (pd_cons pd_int pd_nil)) (pd_cons pd_int pd_nil))))) (pd_cons pd_bl pd_nil))) pd_nil)))))
      (pss_cons (ps_set (i := 0) nd rfl (.inl rfl) (pe_op op_cat (pv 0) (pd_lst (ds := bo3) (pd_cons (pd_tup (pd_cons (pd_tup (pd_cons pd_str (pd_cons pd_int (pd_cons (pd_tup (pd_cons pd_int pd_nil)) (pd_cons (pd_val (pe_op op_add (pe_op op_pow pe_int pe_int) pe_int) fun _ _ _ q => ⟨10, 9, rfl, rfl, ⟨by decide, by decide, by decide⟩, _, 1, rfl, rfl, q⟩) pd_nil))))) (pd_cons pd_bl pd_nil))) (pd_cons (pd_tup (pd_cons (pd_tup (pd_cons pd_str (pd_cons pd_int (pd_cons (pd_tup (pd_cons (p10 (k := 9) (by decide) (by decide)) (pd_cons (pd_val (pe_un un_neg (pe_op op_pow pe_int pe_int)) fun _ _ _ q => ⟨10, 9, rfl, rfl, ⟨by decide, by decide, by decide⟩, _, rfl, q⟩) (pd_cons pd_int (pd_cons pd_int pd_nil))))) (pd_cons pd_int pd_nil))))) (pd_cons pd_bl pd_nil))) pd_nil)))))
      (pss_cons (ps_set (i := 0) nd rfl (.inl rfl) (pe_op op_cat (pv 0) (pd_lst (ds := bo4) (pd_cons (pd_tup (pd_cons (pd_tup (pd_cons pd_str (pd_cons pd_int (pd_cons (pd_tup (pd_cons (pd_val (pe_op op_add (pe_op op_pow pe_int pe_int) pe_int) fun _ _ _ q => ⟨10, 9, rfl, rfl, ⟨by decide, by decide, by decide⟩, _, 1, rfl, rfl, q⟩) pd_nil)) (pd_cons pd_int pd_nil))))) (pd_cons pd_bl pd_nil))) (pd_cons (pd_tup (pd_cons (pd_tup (pd_cons pd_str (pd_cons pd_int (pd_cons (pd_tup (pd_cons (pd_val (pe_op op_sub (pe_un un_neg (pe_op op_pow pe_int pe_int)) pe_int) fun _ _ _ q => ⟨10, 9, rfl, rfl, ⟨by decide, by decide, by decide⟩, _, rfl, _, 1, rfl, rfl, q⟩) pd_nil)) (pd_cons pd_int pd_nil))))) (pd_cons pd_bl pd_nil))) pd_nil)))))
      (pss_cons (ps_set (i := 0) nd rfl (.inl rfl) (pe_op op_cat (pv 0) (pd_lst (ds := bo5) (pd_cons (pd_tup (pd_cons (pd_tup (pd_cons pd_str (pd_cons pd_int (pd_cons (pd_tup pd_nil) (pd_cons pd_int pd_nil))))) (pd_cons pd_bl pd_nil))) (pd_cons (pd_tup (pd_cons (pd_tup (pd_cons pd_str (pd_cons pd_int (pd_cons (pd_rep (k := 5) (pd_tup (pd_cons pd_int pd_nil)) pe_int (fun _ _ _ q => q) (by decide) (by decide) (by simp) (by decide)) (pd_cons pd_int pd_nil))))) (pd_cons pd_bl pd_nil))) pd_nil)))))
      (pss_cons (ps_set (i := 0) nd rfl (.inl rfl) (pe_op op_cat (pv 0) (pd_lst (ds := bo6) (pd_cons (pd_tup (pd_cons (pd_tup (pd_cons pd_str (pd_cons pd_int (pd_cons (pd_tup (pd_cons pd_int pd_nil)) (pd_cons pd_int pd_nil))))) (pd_cons pd_bl pd_nil))) (pd_cons (pd_tup (pd_cons (pd_tup (pd_cons pd_str (pd_cons pd_int (pd_cons (pd_tup (pd_cons pd_int pd_nil)) (pd_cons pd_int pd_nil))))) (pd_cons pd_bl pd_nil))) (pd_cons (pd_tup (pd_cons (pd_tup (pd_cons pd_str (pd_cons pd_int (pd_cons (pd_tup (pd_cons pd_int pd_nil)) (pd_cons pd_int pd_nil))))) (pd_cons pd_bl pd_nil))) pd_nil))))))
      (pss_one (ps_ret (pe_op op_cat (pv 0) (pd_lst (ds := bo7) (pd_cons (pd_tup (pd_cons (pd_tup (pd_cons pd_str (pd_cons pd_int (pd_cons (pd_tup (pd_cons pd_bl pd_nil)) (pd_cons pd_int pd_nil))))) (pd_cons pd_bl pd_nil))) (pd_cons (pd_tup (pd_cons (pd_tup (pd_cons pd_str (pd_cons pd_bl (pd_cons (pd_tup (pd_cons pd_int pd_nil)) (pd_cons pd_int pd_nil))))) (pd_cons pd_bl pd_nil))) (pd_cons (pd_tup (pd_cons (pd_tup (pd_cons pd_str (pd_cons pd_int (pd_cons (pd_lstS (pd_cons pd_int pd_nil)) (pd_cons pd_int pd_nil))))) (pd_cons pd_bl pd_nil))) pd_nil)))))))))))), ?_⟩
    refine fun H1 p1 x1 s1 n1 e1 d1 => ?_
    have l1 : x1.length = 3 := d1.len
    refine ⟨.ref p1, rfl, fun G2 q2 y2 t2 m2 e2 f2 => ?_⟩
    have b2 : y2.length = 2 := f2.len
    refine ⟨_, q2, _, y2, rfl, rfl, t2 _ _ e1, e2, ?_, fun r2 n12 => ?_⟩
    · have hb : (100 : Nat) < sizeLine := by decide
      first
        | omega
        | (simp only [List.length_append]; omega)
    obtain ⟨g2, c2, w2⟩ := cat_up d1 t2 f2 n12
    refine ⟨.ref r2, rfl, fun G3 q3 y3 t3 m3 e3 f3 => ?_⟩
    have b3 : y3.length = 2 := f3.len
    refine ⟨_, q3, _, y3, rfl, rfl, t3 _ _ c2, e3, ?_, fun r3 n13 => ?_⟩
    · have hb : (100 : Nat) < sizeLine := by decide
      first
        | omega
        | (simp only [List.length_append]; omega)
    obtain ⟨g3, c3, w3⟩ := cat_up g2 t3 f3 n13
    refine ⟨.ref r3, rfl, fun G4 q4 y4 t4 m4 e4 f4 => ?_⟩
    have b4 : y4.length = 2 := f4.len
    refine ⟨_, q4, _, y4, rfl, rfl, t4 _ _ c3, e4, ?_, fun r4 n14 => ?_⟩
    · have hb : (100 : Nat) < sizeLine := by decide
      first
        | omega
        | (simp only [List.length_append]; omega)
    obtain ⟨g4, c4, w4⟩ := cat_up g3 t4 f4 n14
    refine ⟨.ref r4, rfl, fun G5 q5 y5 t5 m5 e5 f5 => ?_⟩
    have b5 : y5.length = 2 := f5.len
    refine ⟨_, q5, _, y5, rfl, rfl, t5 _ _ c4, e5, ?_, fun r5 n15 => ?_⟩
    · have hb : (100 : Nat) < sizeLine := by decide
      first
        | omega
        | (simp only [List.length_append]; omega)
    obtain ⟨g5, c5, w5⟩ := cat_up g4 t5 f5 n15
    refine ⟨.ref r5, rfl, fun G6 q6 y6 t6 m6 e6 f6 => ?_⟩
    have b6 : y6.length = 3 := f6.len
    refine ⟨_, q6, _, y6, rfl, rfl, t6 _ _ c5, e6, ?_, fun r6 n16 => ?_⟩
    · have hb : (100 : Nat) < sizeLine := by decide
      first
        | omega
        | (simp only [List.length_append]; omega)
    obtain ⟨g6, c6, w6⟩ := cat_up g5 t6 f6 n16
    refine ⟨.ref r6, rfl, fun G7 q7 y7 t7 m7 e7 f7 => ?_⟩
    have b7 : y7.length = 3 := f7.len
    refine ⟨_, q7, _, y7, rfl, rfl, t7 _ _ c6, e7, ?_, fun r7 n17 => ?_⟩
    · have hb : (100 : Nat) < sizeLine := by decide
      first
        | omega
        | (simp only [List.length_append]; omega)
    obtain ⟨g7, c7, w7⟩ := cat_up g6 t7 f7 n17
    exact q _ r7 _ ((((((s1.trans w2).trans w3).trans w4).trans w5).trans w6).trans w7) c7 g7
end
end K1

set_option maxRecDepth 100000
set_option maxHeartbeats 4000000
namespace K1
open PySem PySem.Spec PyProof.Rows L2 KX
abbrev sLaw : Stmt := topS 25
/-! ### the law: the mathematics -/
theorem nm_len {r : Rec} {w : Nat} (h : RecOk w 0 r) : r.nm.length = 1 := by
  obtain ⟨suf, ex, hl, hs⟩ := h.nm
  have lx := len_cps r.nm
  rw [ex, List.length_append] at lx
  have hb : (baseL 0).length = 1 := rfl
  rcases hs with hs | ⟨z, _⟩
  · omega
  · omega
theorem fine_ints {B : Nat} : ∀ ns : List Int, (∀ v ∈ ns, -1000000000 ≤ v ∧ v ≤ 1000000000) → 1000000000 ≤ B → fineAll B (ns.map PyData.int) = true
  | [], _, _ => rfl
  | n :: ns, h, hB => by
    have := h n (by simp)
    simp only [List.map_cons, fineAll, fine, Bool.and_eq_true]
    exact ⟨decide_eq_true (by omega), fine_ints ns (fun v hv => h v (by simp [hv])) hB⟩
theorem wt_ints : ∀ ns : List Int, wtAll (ns.map PyData.int) = ns.length
  | [] => rfl
  | n :: ns => by
    simp only [List.map_cons, wtAll, wt_ints ns, List.length_cons]
    rw [show wt (.int n) = 1 by simp [wt]]
    omega
theorem rec_good {r : Rec} {w : Nat} (h : RecOk w 0 r) (hw : w ≤ 4) : Good (10 ^ 40) 10 (encR r) := by
  have l1 := nm_len h
  have hl := h.len
  have c0 := h.c0
  have c1 := h.c1
  have e0 := h.e0
  have e1 := h.e1
  obtain ⟨suf, ex, hs, hx⟩ := h.nm
  refine ⟨?_, ?_⟩
  · simp only [encR, fine, fineAll, Bool.and_eq_true]
    refine ⟨?_, decide_eq_true (by omega), fine_ints _ h.vs (by decide), decide_eq_true (by omega), trivial⟩
    refine List.all_eq_true.mpr fun c hc => decide_eq_true ?_
    rw [ex] at hc
    rcases List.mem_append.mp hc with hc | hc
    · have : c = 97 := by simpa [baseL] using hc
      omega
    · have := hs c hc
      omega
  · simp only [encR, wt, wtAll, wt_ints]
    omega
theorem betw_int {lo hi i : Int} (h0 : lo ≤ i) (h1 : i ≤ hi) : betw lo hi (.int i) = true := by
  show (decide (lo ≤ i) && decide (i ≤ hi)) = true
  rw [decide_eq_true h0, decide_eq_true h1]
  rfl
theorem rec_row {r : Rec} {w n : Nat} (hn : n < 60) (h : RecOk w n r) (h1 : 1 ≤ w) (hw : w ≤ 4) : rowD (encR r) = true := by
  show (nameD (.str r.nm) && betw 1 1000000 (.int r.cost) && (valsD (.tuple (r.vals.map .int)) && betw 1 1000000000 (.int r.exp))) = true
  rw [(name_ok hn h.nm).1, betw_int h.c0 h.c1, betw_int h.e0 h.e1]
  have hl := h.len
  have ev : valsD (.tuple (r.vals.map .int)) = true := by
    show ((decide (1 ≤ (((r.vals.map PyData.int).length : Nat) : Int)) && decide ((((r.vals.map PyData.int).length : Nat) : Int) ≤ 4)) && (r.vals.map PyData.int).all (betw (-1000000000) 1000000000)) = true
    rw [List.length_map, decide_eq_true (by omega), decide_eq_true (by omega)]
    simp only [Bool.true_and, List.all_eq_true]
    intro d hd
    obtain ⟨v, hv, rfl⟩ := List.mem_map.mp hd
    exact betw_int (h.vs v hv).1 (h.vs v hv).2
  rw [ev]
  rfl
def okEnt : PyData → Bool
  | .tuple [.tuple [.str n, c, v, e], .bool b] => (rowD (.tuple [.str n, c, v, e]) == b) && decide (n.length ≤ 100) && !(tyN c == "str") && !(tyN v == "str") && !(tyN e == "str")
  | _ => false
theorem bo_ok : boAll.all okEnt = true := by decide +kernel
theorem ent_ok {d : PyData} (h : d ∈ boAll) : ∃ row b, d = .tuple [row, .bool b] ∧ rowD row = b ∧ smA row := by
  have := List.all_eq_true.mp bo_ok d h
  unfold okEnt at this
  split at this
  · rename_i n c v e b
    simp only [Bool.and_eq_true, beq_iff_eq, decide_eq_true_eq] at this
    obtain ⟨⟨⟨⟨h1, h2⟩, h3⟩, h4⟩, h5⟩ := this
    refine ⟨_, b, rfl, h1, fun d hd => ?_⟩
    have hb : (100 : Nat) < sizeLine := by decide
    simp only [List.mem_cons, List.not_mem_nil, or_false] at hd
    rcases hd with rfl | rfl | rfl | rfl
    · show n.length ≤ sizeLine
      omega
    · cases d <;> first | trivial | simp [tyN] at h3
    · cases d <;> first | trivial | simp [tyN] at h4
    · cases d <;> first | trivial | simp [tyN] at h5
  · cases this
def strsL : List Str := ["a1", "a b", "a\n", "_", "-", "a-", "1", " ", "a.b", "aA", "zz"]
theorem strs_good : ∀ x ∈ strsL, Good (10 ^ 40) 10 (.str x) ∧ Good (10 ^ 40) 20 (.tuple [.str x, .int 1, .tuple [.int 0], .int 1]) := by
  have h : (strsL.all fun x => fine (10 ^ 40) (.str x) && decide (wt (.str x) ≤ 10)) = true := by decide +kernel
  intro x hx
  have := List.all_eq_true.mp h x hx
  rw [Bool.and_eq_true] at this
  have w1 := of_decide_eq_true this.2
  refine ⟨⟨this.1, w1⟩, ⟨?_, ?_⟩⟩
  · simp only [fine, fineAll, Bool.and_eq_true] at this ⊢
    exact ⟨this.1, by decide, ⟨by decide, trivial⟩, by decide, trivial⟩
  · simp only [wt, wtAll] at w1 ⊢
    omega
def spLaw (K : PySem.W.Frag) : Sp := fun vs H Q _ => ∃ (a : Addr) (ns : List Int), vs = [.ref a] ∧ SqL K H a (ns.map V.int) ∧ ns.length ≤ 63 ∧ ∀ H', Q (.bl true) H'
theorem scLaw : FnScope ["script", "at", "stream", "row", "values", "turn", "changed", "value", "due"] ["script"] (defScope sLaw) := ⟨rfl, rfl, rfl, by decide +kernel, rfl, by decide +kernel, by decide +kernel⟩
end K1

set_option maxRecDepth 100000
set_option maxHeartbeats 8000000
namespace K1
open PySem PySem.Spec PyProof.Rows L2 KX
def forBody : Stmt → List Stmt
  | .For _ _ b _ _ => b
  | _ => []
abbrev bLaw : List Stmt := forBody ((defBody sLaw).getD 0 (.Pass ⟨0, 0, 0, 0⟩))
abbrev cxLaw (P : Program) (w : World) (K : PySem.W.Frag) (mg : Str → Option Value) (base : Heap) (f : Addr) (cdv : Value) (A : Around) (outer : List Env) (s : Shared) (H : Hp) (E : XK) : Cx :=
  (cxOf CX0 P w K mg base ["script", "at", "stream", "row", "values", "turn", "changed", "value", "due"] "law" (defScope sLaw) f cdv A outer s H E).nox
/-- what the law's own defs promise -/
structure Ds (P : Program) (w : World) (K : PySem.W.Frag) (mg : Str → Option Value) (base : Heap) (k : Nat) (fS fR fD fI fN fU fM fA fB : Addr) (gS gR gD gI gN gU gM gA gB : FuncData) : Prop where
  S : Df K mg "_law_stream" sStream ["script", "at"] fS gS
  R : Df K mg "_law_rowset" sRs ["stream", "total", "wide"] fR gR
  D : Df K mg "_law_draw" sDraw ["stream", "total"] fD gD
  I : Df K mg "is_row" sRow ["value"] fI gI
  N : Df K mg "is_name" sName ["value"] fN gN
  U : Df K mg "_law_unrelated" sUnr ["stream"] fU gU
  M : Df K mg "_law_damaged" sDam ["stream", "value", "deep"] fM gM
  A : Df K mg "_law_agrees" sAg ["value"] fA gA
  B : Df K mg "_law_bounds" sBo [] fB gB
  oS : FnOk P w K mg base CX0 k fS gS ["script", "at"] (spStream K)
  oR : FnOk P w K mg base CX0 k fR gR ["stream", "total", "wide"] spRs
  oD : FnOk P w K mg base CX0 k fD gD ["stream", "total"] spDraw
  oI : FnOk P w K mg base CX0 k fI gI ["value"] spRow
  oN : FnOk P w K mg base CX0 k fN gN ["value"] spName
  oU : FnOk P w K mg base CX0 k fU gU ["stream"] spUnr
  oM : FnOk P w K mg base CX0 k fM gM ["stream", "value", "deep"] (spDam 3)
  oA : FnG P w K mg base CX0 k fA gA ["value"] spAg
  oB : FnOk P w K mg base CX0 k fB gB [] spBo
theorem part_good {B m : Nat} {ds : List PyData} (g : Good B m (.tuple ds)) : ∀ d ∈ ds, Good B m d := fun d hd => by
  have gf : fineAll B ds = true := by have := g.f; rwa [fine] at this
  have gw := g.w
  rw [wt] at gw
  exact ⟨fineAll_mem.mp gf d hd, by have := wt_mem hd; omega⟩
theorem sub_good {B m : Nat} {ds es : List PyData} (g : Good B m (.tuple ds)) (h : ∀ e ∈ es, e ∈ ds) (hw : wtAll es ≤ wtAll ds) : Good B m (.tuple es) := by
  have gf : fineAll B ds = true := by have := g.f; rwa [fine] at this
  have gw := g.w
  rw [wt] at gw
  exact ⟨by rw [fine]; exact fineAll_mem.mpr fun e he => fineAll_mem.mp gf e (h e he), by rw [wt]; omega⟩
section
variable {P : Program} {w : World} {K : PySem.W.Frag} {mg : Str → Option Value} {base : Heap}
theorem body_law {k : Nat} {fS fR fD fI fN fU fM fA fB : Addr} {gS gR gD gI gN gU gM gA gB : FuncData} (B : Bl mg) (T : Ds P w K mg base k fS fR fD fI fN fU fM fA fB gS gR gD gI gN gU gM gA gB)
    {f : Addr} {cdv : Value} {A : Around} {outer : List Env} {s : Shared} {H : Hp} {E : XK} (hgd : (cxLaw P w K mg base f cdv A outer s H E).A.guards = some []) (hr : Room k (cxLaw P w K mg base f cdv A outer s H E).A) {a : Addr} {ns : List Int} :
    ∃ t, PSs (cxLaw P w K mg base f cdv A outer s H E) bLaw t ∧ ∀ (D : Ends) (G : Hp) (i : Nat) (o2 o3 o4 o5 o6 o7 o8 : Option V), SqL K G a (ns.map V.int) → i ≤ 1000 →
      (∀ G' o1 o2 o3 o4 o5 o6 o7 o8, Same G G' → D.nx [some (.ref a), o1, o2, o3, o4, o5, o6, o7, o8] G') → t D [some (.ref a), some (.int (0 + (i : Int))), o2, o3, o4, o5, o6, o7, o8] G := by
  have nd := scLaw.nd
  refine ⟨_, pss_cons (ps_set (i := 2) nd rfl (.inl rfl) (pe_call T.oS hr (by rfl) T.S.g T.S.F.kp T.S.b .nil pass0 (pa_cons (pv 0) (pa_cons (pv 1) pa_nil))))
    (pss_cons (ps_set (i := 3) nd rfl (.inl rfl) (pe_ix ix_tup (pe_call T.oR hr (by rfl) T.R.g T.R.F.kp T.R.b .nil pass0 (pa_cons (pv 2) (pa_cons pe_int (pa_cons (pe_op op_add pe_int (pe_call T.oD hr (by rfl) T.D.g T.D.F.kp T.D.b .nil pass0 (pa_cons (pv 2) (pa_cons pe_int pa_nil)))) pa_nil)))) pe_int (fun _ _ => rfl)))
    (pss_cons (ps_if (PW.pt (pw_or (pt_cmpR op_isnot_bl (pe_call T.oI hr (by rfl) T.I.g T.I.F.kp T.I.b .nil pass0 (pa_cons (pv 3) pa_nil)) pe_bl (nomark _))
        (pw_or1 (pt_cmpR op_isnot_bl (pe_call T.oN hr (by rfl) T.N.g T.N.F.kp T.N.b .nil pass0 (pa_cons (pe_ix ix_tup (pv 3) pe_int (fun _ _ => rfl)) pa_nil)) pe_bl (nomark _))))) (pss_one (ps_ret pe_bl)) pss_nil)
    (pss_cons (ps_set (i := 4) nd rfl (.inl rfl) (pe_lst (pa_cons (pv 3) (pa_cons (pe_ix ix_tup (pv 3) pe_int (fun _ _ => rfl)) (pa_cons (pe_call T.oU hr (by rfl) T.U.g T.U.F.kp T.U.b .nil pass0 (pa_cons (pv 2) pa_nil))
        (pa_cons (pe_ix ix_tup (pv 3) pe_int (fun _ _ => rfl)) (pa_cons (pe_callTy call_listS (by rfl) B.list (by decide +kernel) (pa_cons (pv 3) pa_nil)) (pa_cons (pe_slice sl_tupA (pv 3) po_none (po_some pe_int))
        (pa_cons (pe_op op_catA (pv 3) (pe_tup (pa_cons pe_int pa_nil))) pa_nil)))))))))
    (pss_cons (ps_for PassesOwn.never rfl (pi_range1 (by rfl) B.range (pa_cons pe_int pa_nil)) (pg_name (i := 5) nd rfl (.inl rfl))
      (pss_cons (ps_set (i := 6) nd rfl (.inl rfl) (pe_call T.oM hr (by rfl) T.M.g T.M.F.kp T.M.b .nil pass0 (pa_cons (pv 2) (pa_cons (pv 3) (pa_cons pe_int pa_nil)))))
      (pss_one (ps_set (i := 4) nd rfl (.inl rfl) (pe_op op_cat (pv 4) (pe_lst (pa_cons (pv 6) (pa_cons (pe_call T.oM hr (by rfl) T.M.g T.M.F.kp T.M.b .nil pass0 (pa_cons (pv 2) (pa_cons (pv 6) (pa_cons pe_int pa_nil))))
        (pa_cons (pe_call T.oM hr (by rfl) T.M.g T.M.F.kp T.M.b .nil pass0 (pa_cons (pv 2) (pa_cons (pe_ix ix_tup (pv 3) pe_int (fun _ _ => rfl)) (pa_cons pe_int pa_nil)))) pa_nil)))))))))
    (pss_one (ps_if (pt_cmpR (op_neP hr.units) (pe_lc (own := [("value", 7)]) (g := gName 7) rfl nd (pi_list (pv 4)) (blkOk_by (N := ["script", "at", "stream", "row", "values", "turn", "changed", "value", "due"]) (sc := defScope sLaw) (by decide +kernel))
        (fun _ _ _ _ _ => pg_name (i := 7) nd rfl (Or.inl rfl)) (fun _ _ _ _ _ => pts_one (pt_not (pt_val (pe_callG T.oA hgd hr (by rfl) T.A.g T.A.F.kp T.A.b .nil pass0 (pa_cons (pv 7) pa_nil))))) (fun _ _ _ _ _ => pe_int)) (pe_lst pa_nil) (nomark _))
      (pss_one (ps_ret pe_bl)) pss_nil)))))), fun D G i o2 o3 o4 o5 o6 o7 o8 hS hi q => ?_⟩
  -- stream
  refine ⟨.ref a, rfl, .int (0 + (i : Int)), rfl, a, ns, 0 + (i : Int), rfl, hS, by omega, by omega, fun H1 l s1 nl st1 => ?_⟩
  -- row
  refine ⟨.ref l, rfl, .ref l, rfl, l, 4, rfl, st1, by decide, by decide, fun H2 d k2 st2 d0 d4 => ?_⟩
  obtain ⟨dn, rfl⟩ : ∃ n : Nat, d = (n : Int) := ⟨d.toNat, by omega⟩
  refine ⟨1, dn, rfl, rfl, l, 1, 1 + dn, by simp, st2, by decide, by omega, by omega, fun H3 p recs k3 st3 hl hmade hrow => ?_⟩
  obtain ⟨r, rfl⟩ : ∃ r, recs = [r] := List.length_eq_one_iff.mp hl
  have hr0 : RecOk (1 + dn) 0 r := hmade 0 r rfl
  have es : (sortR [r]).map encR = [encR r] := by simp [sortR]
  rw [es] at hrow
  obtain ⟨b0, xs0, eb0, nb0, e30, hx0⟩ := dx_tupOf hrow
  cases eb0
  match xs0, hx0, e30 with
  | [v], .cons dv .nil, e30 =>
  refine ⟨p, _, 0, v, rfl, rfl, .inl (.inl e30), rfl, ?_⟩
  have gr := rec_good hr0 (by omega)
  have rr := rec_row (by decide) hr0 (by omega) (by omega)
  have nn := (name_ok (n := 0) (by decide) hr0.nm).1
  have sA := smA_of gr (by decide)
  have lift : ∀ {H' : Hp}, Keep l H1 H' → Same G H' := fun k b o e => k b o (ne_of_none e nl) (s1 b o e)
  have k13 : Keep l H1 H3 := k2.trans k3
  obtain ⟨b, ys, rfl, nb, eb, hy⟩ := dx_tupOf dv
  match ys, hy, eb with
  | [vn, vc, vv, ve], .cons hn (.cons hc (.cons hv (.cons he .nil))), eb =>
  have gn : Good (10 ^ 40) 10 (.str r.nm) := part_good gr _ (by simp)
  have gv : Good (10 ^ 40) 10 (.tuple (r.vals.map .int)) := part_good gr _ (by simp)
  -- is_row(row), is_name(row[0])
  refine ⟨_, rfl, _, _, rfl, dv.up (hid_same l H3), sA, fun H4 s4 => ⟨_, true, rfl, rfl, _, rfl, ?_⟩⟩
  rw [rr]
  refine iteNS rfl ?_
  have k14 : Keep l H1 H4 := k13.trans (Keep.of s4)
  have st4 : StO H4 l := st3.same s4
  have eb4 : H4 b = some (.tup [vn, vc, vv, ve]) := s4 _ _ eb
  have kd4 := (Keep.of (l := l) s4).same
  refine ⟨_, rfl, b, _, 0, vn, rfl, rfl, .inl (.inl eb4), rfl, _, _, rfl, (hn.up (hid_same l H3)).up s4, smS_of gn (by decide), fun H5 s5 => ⟨_, true, rfl, rfl, _, rfl, ?_⟩⟩
  rw [nn]
  refine iteNS rfl ?_
  -- values
  have k15 : Keep l H1 H5 := k14.trans (Keep.of s5)
  have st5 : StO H5 l := st4.same s5
  have eb5 := s5 _ _ eb4
  have k35 : Keep l H3 H5 := (Keep.of s4).trans (Keep.of s5)
  have dr5 : Dx (hid l H5) (.ref b) (encR r) := dv.up k35.same
  refine ⟨_, rfl, _, rfl, b, _, 0, vn, rfl, rfl, .inl (.inl eb5), rfl, ?_⟩
  refine ⟨.ref l, rfl, l, rfl, st5, fun H6 ov od k6 st6 do6 mo => ?_⟩
  have eb6 : H6 b = some (.tup [vn, vc, vv, ve]) := k6.to nb eb5
  refine ⟨_, rfl, b, _, 2, vv, rfl, rfl, .inl (.inl eb6), rfl, ?_⟩
  refine ⟨_, rfl, b, _, rfl, .inr (.inl (.inl eb6)), fun pL nL zL => ?_⟩
  have k36 := k35.trans k6
  have dL : Dx (hid l _) (.ref pL) (.list _) := dx_lst nL zL st6 (((Dxs.cons hn (.cons hc (.cons hv (.cons he .nil)))).up k36.same))
  have st7 := st6.new (o := .lst [vn, vc, vv, ve]) nL
  have k37 := k36.new (o := .lst [vn, vc, vv, ve]) nL
  have dr7 := dv.up k37.same
  refine ⟨_, rfl, 3, rfl, sl_of (ds := [PyData.str r.nm, .int r.cost, .tuple (r.vals.map .int), .int r.exp]) dr7 st7 fun H8 q8 k8 st8 d8 => ?_⟩
  refine ⟨_, rfl, by show 1 ≤ sizeLine; decide, fun p9 n9 => ?_⟩
  have st9 := st8.new (o := .tup [.int 1]) n9
  have k39 := (k37.trans k8).new (o := .tup [.int 1]) n9
  refine cat_of (ds := [PyData.str r.nm, .int r.cost, .tuple (r.vals.map .int), .int r.exp]) (dv.up k39.same) (dx_tup n9 st8 (.cons (.int 1) .nil)) st9 (by show 4 + 1 ≤ sizeLine; decide) fun H10 q10 k10 st10 d10 => ?_
  have k310 := k39.trans k10
  have k610 : Keep l H6 H10 := (((Keep.refl l H6).new nL).trans k8).new n9 |>.trans k10
  have k710 : Keep l (L2.upd H6 pL (.lst [vn, vc, vv, ve])) H10 := (k8.new n9).trans k10
  have k810 : Keep l H8 H10 := ((Keep.refl l H8).new n9).trans k10
  refine ⟨by show 7 ≤ sizeLine; decide, fun pv0 nv0 => ?_⟩
  have vals0 : Dxs (hid l H10) [.ref b, vn, ov, vv, .ref pL, .ref q8, .ref q10] _ := .cons (dv.up k310.same) (.cons (hn.up k310.same) (.cons (do6.up k610.same) (.cons (hv.up k310.same) (.cons (dL.up k710.same) (.cons (d8.up k810.same) (.cons d10 .nil))))))
  have good0 : ∀ d ∈ [encR r, PyData.str r.nm, od, .tuple (r.vals.map .int), .list [PyData.str r.nm, .int r.cost, .tuple (r.vals.map .int), .int r.exp], .tuple (cutD [PyData.str r.nm, .int r.cost, .tuple (r.vals.map .int), .int r.exp] none (some 3)), .tuple ([PyData.str r.nm, .int r.cost, .tuple (r.vals.map .int), .int r.exp] ++ [.int 1])], Good (10 ^ 40 + 2) 100 d := by
    intro d hd
    simp only [List.mem_cons, List.not_mem_nil, or_false] at hd
    rcases hd with rfl | rfl | rfl | rfl | rfl | rfl | rfl
    · exact gr.mono (by decide) (by decide)
    · exact gn.mono (by decide) (by decide)
    · exact (unr_good _ mo).mono (by decide) (by decide)
    · exact gv.mono (by decide) (by decide)
    · have g2 := gr.mono (B' := 10 ^ 40 + 2) (n' := 100) (by decide) (by decide)
      exact ⟨by have := g2.f; rw [encR, fine] at this; rw [fine]; exact this, by have := g2.w; rw [encR, wt] at this; rw [wt]; exact this⟩
    · have g2 : Good (10 ^ 40) 10 (.tuple (cutD [PyData.str r.nm, .int r.cost, .tuple (r.vals.map .int), .int r.exp] none (some 3))) := by
        rw [show (some (3 : Int)) = some ((3 : Nat) : Int) from rfl, cutD_to]
        have w1 := wtAll_take 3 [PyData.str r.nm, .int r.cost, .tuple (r.vals.map .int), .int r.exp]
        exact sub_good gr (fun e he => List.mem_of_mem_take he) (by omega)
      exact g2.mono (by decide) (by decide)
    · have g2 := gr.mono (B' := 10 ^ 40 + 2) (n' := 10) (by decide) (by decide)
      refine ⟨?_, ?_⟩
      · have := g2.f
        rw [encR, fine] at this
        rw [fine, fineAll_app, this]
        rfl
      · have := g2.w
        rw [encR, wt] at this
        rw [wt, wtAll_app]
        have e1 : wtAll [PyData.int 1] = 1 := rfl
        omega
  have npl : pv0 ≠ l := st10.ne nv0
  have c40 : (10 : Nat) ^ 40 < 10 ^ 50 := by decide
  have c41 : (10 : Nat) ^ 40 + 1 < 10 ^ 50 := by decide
  refine ⟨8, rfl, by decide, by decide, ?_⟩
  refine for_range (lo := 0) (n := 8) (fun j σ F => Keep l H3 F ∧ StO F l ∧ ∃ (pv : Addr) (vs : List V) (dvs : List PyData) (x5 x6 x7 x8 : Option V), σ = [some (.ref a), some (.int (0 + (i : Int))), some (.ref l), some (.ref b), some (.ref pv), x5, x6, x7, x8] ∧
      pv ≠ l ∧ F pv = some (.lst vs) ∧ Dxs (hid l F) vs dvs ∧ (∀ d ∈ dvs, Good (10 ^ 40 + 2) 100 d) ∧ vs.length = 7 + 3 * j)
    ⟨k310.new nv0, st10.new nv0, pv0, _, _, o5, o6, o7, o8, rfl, npl, upd_same, vals0.up (hnew nv0), good0, rfl⟩ (fun j σ F hj hp => ?_) (fun σ F hp => ?_)
  · obtain ⟨kF, sF, pv, vs, dvs, x5, x6, x7, x8, rfl, npv, ePv, hvs, hgood, hlen⟩ := hp
    have drF := dv.up kF.same
    refine ⟨.ref l, rfl, .ref b, rfl, l, .ref b, encR r, 3, 10 ^ 40, 10, rfl, sF, by decide, drF, gr, Nat.le_refl _, c40, by decide, fun F1 cv cd f1 sF1 df1 gf1 => ?_⟩
    refine ⟨.ref pv, rfl, cv, rfl, .ref l, rfl, cv, rfl, l, cv, cd, 3, 10 ^ 40 + 1, 40, rfl, sF1, by decide, df1, gf1, by decide, c41, by decide, fun F2 cv2 cd2 f2 sF2 df2 gf2 => ?_⟩
    have kF2 : Keep l H3 F2 := (kF.trans f1).trans f2
    refine ⟨.ref l, rfl, .ref b, rfl, b, _, 0, vn, rfl, rfl, .inl (.inl (kF2.to nb eb)), rfl, l, vn, .str r.nm, 0, 10 ^ 40, 10, rfl, sF2, by decide, hn.up kF2.same, gn, Nat.le_refl _, c40, by decide, fun F3 cv3 cd3 f3 sF3 df3 gf3 => ?_⟩
    have kF3 := kF2.trans f3
    refine ⟨by show 3 ≤ sizeLine; decide, fun p3 np3 => ?_⟩
    have ePv3 : F3 pv = some (.lst vs) := (f1.trans (f2.trans f3)).to npv ePv
    refine ⟨pv, p3, vs, _, rfl, rfl, by rw [upd_ne (ne_of_none ePv3 np3)]; exact ePv3, upd_same, ?_, fun p4 np4 => ?_⟩
    · show vs.length + 3 ≤ sizeLine
      have hb : (100 : Nat) < sizeLine := by decide
      omega
    · have sF4 := sF3.new (o := .lst [cv, cv2, cv3]) np3
      have all3 : Dxs (hid l F3) (vs ++ [cv, cv2, cv3]) (dvs ++ [cd, cd2, cd3]) := (hvs.up (f1.trans (f2.trans f3)).same).app (.cons (df1.up (f2.trans f3).same) (.cons (df2.up f3.same) (.cons df3 .nil)))
      refine ⟨(kF3.new np3).new np4, sF4.new np4, p4, _, _, _, _, _, _, rfl, sF4.ne np4, upd_same, (all3.up (hnew np3)).up (hnew np4), ?_, ?_⟩
      · intro d hd
        rcases List.mem_append.mp hd with hd | hd
        · exact hgood d hd
        · simp only [List.mem_cons, List.not_mem_nil, or_false] at hd
          rcases hd with rfl | rfl | rfl
          · exact gf1.mono (by decide) (by decide)
          · exact gf2.mono (by decide) (by decide)
          · exact gf3.mono (by decide) (by decide)
      · rw [List.length_append, hlen]
        show 7 + 3 * j + 3 = _
        omega
  · obtain ⟨kF, sF, pv, vs, dvs, x5, x6, x7, x8, rfl, npv, ePv, hvs, hgood, hlen⟩ := hp
    refine ⟨.ref pv, rfl, pv, rfl, ⟨_, .inl (.inl ePv)⟩, fun D0 nD => ?_⟩
    have hvs2 := hvs.up (hid_same l F)
    refine lc_list (xs := vs) (fun j M => Same F M ∧ M D0 = some (.lst [])) ⟨same_new nD, upd_same⟩ (fun j M _ hM => .inl (.inl (hM.1 _ _ ePv))) (fun j x M hx hM => ?_) (fun M hM => ?_)
    · obtain ⟨d, ed, hd⟩ := hvs2.get' hx
      refine ⟨rfl, x, rfl, x, d, _, _, rfl, hd.up hM.1, hgood d (List.mem_of_getElem? ed), by decide, by decide, fun M2 s2 => ⟨_, rfl, ?_⟩⟩
      exact iteF ⟨hM.1.trans s2, s2 _ _ hM.2⟩
    · refine ⟨Nat.zero_le _, fun p5 np5 => ?_⟩
      have e5 := (ne_of_none hM.2 np5)
      refine ⟨.list [], .list [], .lst (.inl (.inl (by rw [upd_ne e5]; exact hM.2))) .nil, .lst (.inl (.inl upd_same)) .nil, rfl, rfl, min_nil _, _, rfl, iteF ?_⟩
      exact q _ _ _ _ _ _ _ _ _ ((lift (k13.trans kF)).trans (hM.1.trans (same_new np5)))
end
end K1

set_option maxRecDepth 100000
set_option maxHeartbeats 8000000
namespace K1
open PySem PySem.Spec PyProof.Rows L2 KX
theorem bool_good (b : Bool) : Good 0 1 (.bool b) := ⟨by cases b <;> rfl, by cases b <;> decide⟩
section
variable {P : Program} {w : World} {K : PySem.W.Frag} {mg : Str → Option Value} {base : Heap}
theorem ok_law {k : Nat} {fS fR fD fI fN fU fM fA fB f : Addr} {gS gR gD gI gN gU gM gA gB fd : FuncData} (B : Bl mg) (T : Ds P w K mg base k fS fR fD fI fN fU fM fA fB gS gR gD gI gN gU gM gA gB)
    (F : Fun K "law" "law" sLaw f fd) : FnG P w K mg base CX0 (k + 1) f fd ["script"] (spLaw K) := by
  refine okG F scLaw (fun vs H Q E h => ?_) (fun cdv A outer s H vs Q E hgd hr h => ?_)
  · obtain ⟨a, ns, rfl, _⟩ := h
    rfl
  · obtain ⟨a, ns, rfl, hS, hl, q⟩ := h
    have nd := scLaw.nd
    obtain ⟨tb, hb, hq⟩ := body_law B T (base := base) (outer := outer) (s := s) (H := H) (E := E) hgd hr (a := a) (ns := ns)
    refine ⟨_, pss_cons (ps_for PassesOwn.never rfl (pi_range1 (by rfl) B.range (pa_cons (pe_callB (call_max2 rfl) (by rfl) B.max (by decide +kernel) (pa_cons pe_int (pa_cons (pe_callB (call_min2 rfl) (by rfl) B.min (by decide +kernel)
          (pa_cons pe_int (pa_cons (pe_callB call_len_seq (by rfl) B.len PySem.boot_len (pa_cons (pv 0) pa_nil)) pa_nil))) pa_nil))) pa_nil)) (pg_name (i := 1) nd rfl (.inl rfl)) hb)
      (pss_cons (ps_for PassesOwn.never rfl (pi_list (pe_lst (pa_cons pe_str (pa_cons pe_str (pa_cons pe_str (pa_cons pe_str (pa_cons pe_str (pa_cons pe_str (pa_cons pe_str (pa_cons pe_str (pa_cons pe_str (pa_cons pe_str (pa_cons pe_str pa_nil)))))))))))))
          (pg_name (i := 7) nd rfl (.inl rfl)) (pss_one (ps_if (PW.pt (pw_or (pt_not (pt_val (pe_callG T.oA hgd hr (by rfl) T.A.g T.A.F.kp T.A.b .nil pass0 (pa_cons (pv 7) pa_nil))))
            (pw_or1 (pt_not (pt_val (pe_callG T.oA hgd hr (by rfl) T.A.g T.A.F.kp T.A.b .nil pass0 (pa_cons (pe_tup (pa_cons (pv 7) (pa_cons pe_int (pa_cons (pe_tup (pa_cons pe_int pa_nil)) (pa_cons pe_int pa_nil))))) pa_nil))))))) (pss_one (ps_ret pe_bl)) pss_nil)))
      (pss_one (ps_ret (pe_cmpR (op_eqP hr.units) (pe_lc (own := [("value", 7), ("due", 8)]) (g := gTup K 2 (gCons (gName 7) (gCons (gName 8) gNil))) rfl nd (pi_list (pe_call0 T.oB hr (by rfl) T.B.g T.B.F.kp T.B.b .nil pass0)) (blkOk_by (N := ["script", "at", "stream", "row", "values", "turn", "changed", "value", "due"]) (sc := defScope sLaw) (by decide +kernel))
        (fun _ _ _ _ _ => pg_tup rfl (pgs_cons (pg_name (i := 7) nd rfl (Or.inl rfl)) (pgs_cons (pg_name (i := 8) nd rfl (Or.inl rfl)) pgs_nil)))
        (fun _ _ _ _ _ => pts_one (pt_cmpR op_ne (pe_callB (call_reprD hr hgd) (by rfl) B.repr (by decide +kernel) (pa_cons (pe_call T.oI hr (by rfl) T.I.g T.I.F.kp T.I.b .nil pass0 (pa_cons (pv 7) pa_nil)) pa_nil))
          (pe_callB (call_reprD hr hgd) (by rfl) B.repr (by decide +kernel) (pa_cons (pv 8) pa_nil)) (nomark _))) (fun _ _ _ _ _ => pe_int)) (pe_lst pa_nil) (nomark _))))), ?_⟩
    refine ⟨.ref a, rfl, a, _, rfl, .inl hS, 30, _, rfl, 1, _, rfl, ?_⟩
    have hj : ∃ j : Nat, j ≤ 1000 ∧ (if (if ((ns.map V.int).length : Int) < 30 then ((ns.map V.int).length : Int) else 30) > 1 then (if ((ns.map V.int).length : Int) < 30 then ((ns.map V.int).length : Int) else 30) else 1) = (j : Int) := by
      rw [List.length_map]
      by_cases h1 : (ns.length : Int) < 30
      · rw [if_pos h1]
        by_cases h2 : (ns.length : Int) > 1
        · rw [if_pos h2]
          exact ⟨ns.length, by omega, rfl⟩
        · rw [if_neg h2]
          exact ⟨1, by decide, rfl⟩
      · rw [if_neg h1]
        exact ⟨30, by decide, rfl⟩
    obtain ⟨j, hj1, ej⟩ := hj
    refine ⟨_, rfl, ?_, ?_, ?_⟩
    · show (-(2 ^ 62) : Int) ≤ _
      rw [ej]
      omega
    · show (_ : Int) < 2 ^ 62
      rw [ej]
      omega
    · refine for_range (lo := 0) (n := Int.toNat _) (fun i σ G => Same H G ∧ ∃ o1 o2 o3 o4 o5 o6 o7 o8, σ = [some (.ref a), o1, o2, o3, o4, o5, o6, o7, o8]) ⟨Same.refl H, none, none, none, none, none, none, none, none, rfl⟩ (fun i σ G hi hp => ?_) (fun σ G hp => ?_)
      · obtain ⟨sm, o1, o2, o3, o4, o5, o6, o7, o8, rfl⟩ := hp
        have hi3 : i < j := by
          have h := hi
          rw [show Int.toNat _ = j from congrArg Int.toNat ej] at h
          exact h
        exact hq _ G i o2 o3 o4 o5 o6 o7 o8 (sm.seq hS) (by omega) fun G' p1 p2 p3 p4 p5 p6 p7 p8 s' => ⟨sm.trans s', p1, p2, p3, p4, p5, p6, p7, p8, rfl⟩
      · obtain ⟨sm, o1, o2, o3, o4, o5, o6, o7, o8, rfl⟩ := hp
        refine ⟨by show 11 ≤ sizeLine; decide, fun p np => ⟨p, rfl, ⟨_, .inl (.inl upd_same)⟩, ?_⟩⟩
        refine for_list (K := K) (xs := strsL.map V.str) (fun i σ M => M p = some (.lst (strsL.map V.str)) ∧ ∃ o1 o2 o3 o4 o5 o6 o7 o8, σ = [some (.ref a), o1, o2, o3, o4, o5, o6, o7, o8]) ⟨upd_same, o1, o2, o3, o4, o5, o6, o7, o8, rfl⟩ (fun i σ M _ hM => .inl (.inl hM.1)) (fun i x σ M hx hM => ?_) (fun σ M hM => ?_)
        · obtain ⟨eM, o1, o2, o3, o4, o5, o6, o7, o8, rfl⟩ := hM
          obtain ⟨y, my, rfl⟩ : ∃ y ∈ strsL, V.str y = x := by
            have := List.mem_of_getElem? hx
            obtain ⟨y, m, e⟩ := List.mem_map.mp this
            exact ⟨y, m, e⟩
          obtain ⟨g1, g2⟩ := strs_good y my
          refine ⟨.str y, rfl, .str y, .str y, _, _, rfl, .str y, g1, by decide, by decide, fun M2 s2 => ⟨_, rfl, iteF ?_⟩⟩
          refine ⟨.str y, rfl, by show 1 ≤ sizeLine; decide, fun q1 n1 => ⟨by show 4 ≤ sizeLine; decide, fun q2 n2 => ?_⟩⟩
          have d1 : Dx (L2.upd M2 q1 (.tup [.int 0])) (.ref q1) (.tuple [.int 0]) := .tup upd_same (.cons (.int 0) .nil)
          have d2 : Dx (L2.upd (L2.upd M2 q1 (.tup [.int 0])) q2 (.tup [.str y, .int 1, .ref q1, .int 1])) (.ref q2) (.tuple [.str y, .int 1, .tuple [.int 0], .int 1]) :=
            .tup upd_same (.cons (.str y) (.cons (.int 1) (.cons (d1.up (same_new n2)) (.cons (.int 1) .nil))))
          refine ⟨.ref q2, _, _, _, rfl, d2, g2, by decide, by decide, fun M3 s3 => ⟨_, rfl, iteF ?_⟩⟩
          exact ⟨s3 _ _ (same_new n2 _ _ (same_new n1 _ _ (s2 _ _ eM))), _, _, _, _, _, _, _, _, rfl⟩
        · obtain ⟨eM, o1, o2, o3, o4, o5, o6, o7, o8, rfl⟩ := hM
          refine ⟨rfl, fun M1 p1 xs s1 e1 hx1 => ⟨p1, rfl, ⟨_, .inl (.inl e1)⟩, fun D0 nD => ?_⟩⟩
          refine lc_list (xs := xs) (fun j N => Same M1 N ∧ N D0 = some (.lst [])) ⟨same_new nD, upd_same⟩ (fun j N _ hN => .inl (.inl (hN.1 _ _ e1))) (fun j x N hx hN => ?_) (fun N hN => ?_)
          · obtain ⟨d, ed, hd⟩ := hx1.get' hx
            obtain ⟨row, b, rfl, hrow, hsm⟩ := ent_ok (List.mem_of_getElem? ed)
            have hdN := hd.up hN.1
            cases hdN with
            | @tup t ys _ et hy =>
              match ys, hy, et with
              | [vr, vb], .cons hr1 (.cons hb1 .nil), et =>
              cases hb1
              obtain ⟨g1, g2, g3⟩ := (bool_good b).show (by decide) (by decide)
              refine ⟨t, _, rfl, .inl (.inl et), rfl, _, _, rfl, _, _, rfl, rfl, rfl, vr, rfl, vr, row, rfl, hr1, hsm, fun N2 s2 => ?_⟩
              rw [hrow]
              refine ⟨.bl b, .bool b, rfl, .bl b, g1, g2, g3, _, rfl, .bl b, .bool b, rfl, .bl b, g1, g2, g3, rfl, _, rfl, iteNS rfl ?_⟩
              exact ⟨hN.1.trans s2, s2 _ _ hN.2⟩
          · refine ⟨Nat.zero_le _, fun p5 np5 => ?_⟩
            have e5 := (ne_of_none hN.2 np5)
            refine ⟨.list [], .list [], .lst (.inl (.inl (by rw [upd_ne e5]; exact hN.2))) .nil, .lst (.inl (.inl upd_same)) .nil, rfl, rfl, min_nil _, ?_⟩
            rw [eqv_nil]
            exact q _
end
end K1

set_option maxRecDepth 100000
set_option maxHeartbeats 8000000
namespace K1
open PySem PySem.Spec PyProof.Rows L2 KX
/-! ### what the top has written -/
theorem df_mk {K : PySem.W.Frag} {h : Heap} {mg : Str → Option Value} {x : String} {st : Stmt} {ps : List Str} {f : Addr} {oc : Value} {od an : Option Addr} {sl : Array (Option Value)} {kV doc pm cd ct : Value} (X : K.In h) (G : h.Ns mainGlobals mg)
    (a : PySem.W.nsIn K mainGlobals x = some (some (.ref f))) (l : K.lookup f = some ⟨oc, od, .func (PySem.W.fnOf x x (defArgs st) (defBody st) (defScope st) .none kV doc pm an cd ct), sl⟩) (c : PySem.W.codeIn K cd x = true)
    (k : PySem.W.keepIn K (.ref f) = true) (hb : ∀ (kV doc pm : Value) (an : Option Addr) (cdv ct : Value) (us : List Value), us.length = ps.length → bindArgs (PySem.W.fnOf x x (defArgs st) (defBody st) (defScope st) .none kV doc pm an cdv ct) ⟨us, []⟩ = pure (ps.zip us)) :
    Df K mg x st ps f (PySem.W.fnOf x x (defArgs st) (defBody st) (defScope st) .none kV doc pm an cd ct) :=
  ⟨fun_mk l c k, (fun_mk l c k).binds hb, PySem.W.mg_of X G a⟩
theorem all_mk {l : PySem.W.OpenLaw} {w : World} {K : PySem.W.Frag} {h : Heap} {mg : Str → Option Value} {fa : Addr} (X : K.In h) (G : h.Ns mainGlobals mg) (hfa : mg "law" = some (.ref fa))
    {f0 : Addr} {oc0 : Value} {od0 an0 : Option Addr} {sl0 : Array (Option Value)} {kV0 doc0 pm0 cd0 ct0 : Value} (a0 : PySem.W.nsIn K mainGlobals "is_between" = some (some (.ref f0))) (l0 : K.lookup f0 = some ⟨oc0, od0, .func (PySem.W.fnOf "is_between" "is_between" (defArgs sBetween) (defBody sBetween) (defScope sBetween) .none kV0 doc0 pm0 an0 cd0 ct0), sl0⟩) (c0 : PySem.W.codeIn K cd0 "is_between" = true) (k0 : PySem.W.keepIn K (.ref f0) = true)
    {f1 : Addr} {oc1 : Value} {od1 an1 : Option Addr} {sl1 : Array (Option Value)} {kV1 doc1 pm1 cd1 ct1 : Value} (a1 : PySem.W.nsIn K mainGlobals "is_tuple_between" = some (some (.ref f1))) (l1 : K.lookup f1 = some ⟨oc1, od1, .func (PySem.W.fnOf "is_tuple_between" "is_tuple_between" (defArgs sTupB) (defBody sTupB) (defScope sTupB) .none kV1 doc1 pm1 an1 cd1 ct1), sl1⟩) (c1 : PySem.W.codeIn K cd1 "is_tuple_between" = true) (k1 : PySem.W.keepIn K (.ref f1) = true)
    {f2 : Addr} {oc2 : Value} {od2 an2 : Option Addr} {sl2 : Array (Option Value)} {kV2 doc2 pm2 cd2 ct2 : Value} (a2 : PySem.W.nsIn K mainGlobals "is_name" = some (some (.ref f2))) (l2 : K.lookup f2 = some ⟨oc2, od2, .func (PySem.W.fnOf "is_name" "is_name" (defArgs sName) (defBody sName) (defScope sName) .none kV2 doc2 pm2 an2 cd2 ct2), sl2⟩) (c2 : PySem.W.codeIn K cd2 "is_name" = true) (k2 : PySem.W.keepIn K (.ref f2) = true)
    {f3 : Addr} {oc3 : Value} {od3 an3 : Option Addr} {sl3 : Array (Option Value)} {kV3 doc3 pm3 cd3 ct3 : Value} (a3 : PySem.W.nsIn K mainGlobals "is_row" = some (some (.ref f3))) (l3 : K.lookup f3 = some ⟨oc3, od3, .func (PySem.W.fnOf "is_row" "is_row" (defArgs sRow) (defBody sRow) (defScope sRow) .none kV3 doc3 pm3 an3 cd3 ct3), sl3⟩) (c3 : PySem.W.codeIn K cd3 "is_row" = true) (k3 : PySem.W.keepIn K (.ref f3) = true)
    {f4 : Addr} {oc4 : Value} {od4 an4 : Option Addr} {sl4 : Array (Option Value)} {kV4 doc4 pm4 cd4 ct4 : Value} (a4 : PySem.W.nsIn K mainGlobals "are_row_values" = some (some (.ref f4))) (l4 : K.lookup f4 = some ⟨oc4, od4, .func (PySem.W.fnOf "are_row_values" "are_row_values" (defArgs sVals) (defBody sVals) (defScope sVals) .none kV4 doc4 pm4 an4 cd4 ct4), sl4⟩) (c4 : PySem.W.codeIn K cd4 "are_row_values" = true) (k4 : PySem.W.keepIn K (.ref f4) = true)
    {f5 : Addr} {oc5 : Value} {od5 an5 : Option Addr} {sl5 : Array (Option Value)} {kV5 doc5 pm5 cd5 ct5 : Value} (a5 : PySem.W.nsIn K mainGlobals "_law_stream" = some (some (.ref f5))) (l5 : K.lookup f5 = some ⟨oc5, od5, .func (PySem.W.fnOf "_law_stream" "_law_stream" (defArgs sStream) (defBody sStream) (defScope sStream) .none kV5 doc5 pm5 an5 cd5 ct5), sl5⟩) (c5 : PySem.W.codeIn K cd5 "_law_stream" = true) (k5 : PySem.W.keepIn K (.ref f5) = true)
    {f6 : Addr} {oc6 : Value} {od6 an6 : Option Addr} {sl6 : Array (Option Value)} {kV6 doc6 pm6 cd6 ct6 : Value} (a6 : PySem.W.nsIn K mainGlobals "_law_draw" = some (some (.ref f6))) (l6 : K.lookup f6 = some ⟨oc6, od6, .func (PySem.W.fnOf "_law_draw" "_law_draw" (defArgs sDraw) (defBody sDraw) (defScope sDraw) .none kV6 doc6 pm6 an6 cd6 ct6), sl6⟩) (c6 : PySem.W.codeIn K cd6 "_law_draw" = true) (k6 : PySem.W.keepIn K (.ref f6) = true)
    {f7 : Addr} {oc7 : Value} {od7 an7 : Option Addr} {sl7 : Array (Option Value)} {kV7 doc7 pm7 cd7 ct7 : Value} (a7 : PySem.W.nsIn K mainGlobals "_law_name" = some (some (.ref f7))) (l7 : K.lookup f7 = some ⟨oc7, od7, .func (PySem.W.fnOf "_law_name" "_law_name" (defArgs sNm) (defBody sNm) (defScope sNm) .none kV7 doc7 pm7 an7 cd7 ct7), sl7⟩) (c7 : PySem.W.codeIn K cd7 "_law_name" = true) (k7 : PySem.W.keepIn K (.ref f7) = true)
    {f8 : Addr} {oc8 : Value} {od8 an8 : Option Addr} {sl8 : Array (Option Value)} {kV8 doc8 pm8 cd8 ct8 : Value} (a8 : PySem.W.nsIn K mainGlobals "_law_rowset" = some (some (.ref f8))) (l8 : K.lookup f8 = some ⟨oc8, od8, .func (PySem.W.fnOf "_law_rowset" "_law_rowset" (defArgs sRs) (defBody sRs) (defScope sRs) .none kV8 doc8 pm8 an8 cd8 ct8), sl8⟩) (c8 : PySem.W.codeIn K cd8 "_law_rowset" = true) (k8 : PySem.W.keepIn K (.ref f8) = true)
    {f9 : Addr} {oc9 : Value} {od9 an9 : Option Addr} {sl9 : Array (Option Value)} {kV9 doc9 pm9 cd9 ct9 : Value} (a9 : PySem.W.nsIn K mainGlobals "_law_unrelated" = some (some (.ref f9))) (l9 : K.lookup f9 = some ⟨oc9, od9, .func (PySem.W.fnOf "_law_unrelated" "_law_unrelated" (defArgs sUnr) (defBody sUnr) (defScope sUnr) .none kV9 doc9 pm9 an9 cd9 ct9), sl9⟩) (c9 : PySem.W.codeIn K cd9 "_law_unrelated" = true) (k9 : PySem.W.keepIn K (.ref f9) = true)
    {f10 : Addr} {oc10 : Value} {od10 an10 : Option Addr} {sl10 : Array (Option Value)} {kV10 doc10 pm10 cd10 ct10 : Value} (a10 : PySem.W.nsIn K mainGlobals "_law_damaged" = some (some (.ref f10))) (l10 : K.lookup f10 = some ⟨oc10, od10, .func (PySem.W.fnOf "_law_damaged" "_law_damaged" (defArgs sDam) (defBody sDam) (defScope sDam) .none kV10 doc10 pm10 an10 cd10 ct10), sl10⟩) (c10 : PySem.W.codeIn K cd10 "_law_damaged" = true) (k10 : PySem.W.keepIn K (.ref f10) = true)
    {f11 : Addr} {oc11 : Value} {od11 an11 : Option Addr} {sl11 : Array (Option Value)} {kV11 doc11 pm11 cd11 ct11 : Value} (a11 : PySem.W.nsIn K mainGlobals "_law_whole_between" = some (some (.ref f11))) (l11 : K.lookup f11 = some ⟨oc11, od11, .func (PySem.W.fnOf "_law_whole_between" "_law_whole_between" (defArgs sWB) (defBody sWB) (defScope sWB) .none kV11 doc11 pm11 an11 cd11 ct11), sl11⟩) (c11 : PySem.W.codeIn K cd11 "_law_whole_between" = true) (k11 : PySem.W.keepIn K (.ref f11) = true)
    {f12 : Addr} {oc12 : Value} {od12 an12 : Option Addr} {sl12 : Array (Option Value)} {kV12 doc12 pm12 cd12 ct12 : Value} (a12 : PySem.W.nsIn K mainGlobals "_law_valid_name" = some (some (.ref f12))) (l12 : K.lookup f12 = some ⟨oc12, od12, .func (PySem.W.fnOf "_law_valid_name" "_law_valid_name" (defArgs sVN) (defBody sVN) (defScope sVN) .none kV12 doc12 pm12 an12 cd12 ct12), sl12⟩) (c12 : PySem.W.codeIn K cd12 "_law_valid_name" = true) (k12 : PySem.W.keepIn K (.ref f12) = true)
    {f13 : Addr} {oc13 : Value} {od13 an13 : Option Addr} {sl13 : Array (Option Value)} {kV13 doc13 pm13 cd13 ct13 : Value} (a13 : PySem.W.nsIn K mainGlobals "_law_valid_row" = some (some (.ref f13))) (l13 : K.lookup f13 = some ⟨oc13, od13, .func (PySem.W.fnOf "_law_valid_row" "_law_valid_row" (defArgs sVR) (defBody sVR) (defScope sVR) .none kV13 doc13 pm13 an13 cd13 ct13), sl13⟩) (c13 : PySem.W.codeIn K cd13 "_law_valid_row" = true) (k13 : PySem.W.keepIn K (.ref f13) = true)
    {f14 : Addr} {oc14 : Value} {od14 an14 : Option Addr} {sl14 : Array (Option Value)} {kV14 doc14 pm14 cd14 ct14 : Value} (a14 : PySem.W.nsIn K mainGlobals "_law_agrees" = some (some (.ref f14))) (l14 : K.lookup f14 = some ⟨oc14, od14, .func (PySem.W.fnOf "_law_agrees" "_law_agrees" (defArgs sAg) (defBody sAg) (defScope sAg) .none kV14 doc14 pm14 an14 cd14 ct14), sl14⟩) (c14 : PySem.W.codeIn K cd14 "_law_agrees" = true) (k14 : PySem.W.keepIn K (.ref f14) = true)
    {f15 : Addr} {oc15 : Value} {od15 an15 : Option Addr} {sl15 : Array (Option Value)} {kV15 doc15 pm15 cd15 ct15 : Value} (a15 : PySem.W.nsIn K mainGlobals "_law_bounds" = some (some (.ref f15))) (l15 : K.lookup f15 = some ⟨oc15, od15, .func (PySem.W.fnOf "_law_bounds" "_law_bounds" (defArgs sBo) (defBody sBo) (defScope sBo) .none kV15 doc15 pm15 an15 cd15 ct15), sl15⟩) (c15 : PySem.W.codeIn K cd15 "_law_bounds" = true) (k15 : PySem.W.keepIn K (.ref f15) = true)
    {f16 : Addr} {oc16 : Value} {od16 an16 : Option Addr} {sl16 : Array (Option Value)} {kV16 doc16 pm16 cd16 ct16 : Value} (a16 : PySem.W.nsIn K mainGlobals "law" = some (some (.ref f16))) (l16 : K.lookup f16 = some ⟨oc16, od16, .func (PySem.W.fnOf "law" "law" (defArgs sLaw) (defBody sLaw) (defScope sLaw) .none kV16 doc16 pm16 an16 cd16 ct16), sl16⟩) (c16 : PySem.W.codeIn K cd16 "law" = true) (k16 : PySem.W.keepIn K (.ref f16) = true)
    (b0 : PySem.W.nsIn K mainGlobals "isinstance" = some none)
    (b1 : PySem.W.nsIn K mainGlobals "bool" = some none)
    (b2 : PySem.W.nsIn K mainGlobals "int" = some none)
    (b3 : PySem.W.nsIn K mainGlobals "str" = some none)
    (b4 : PySem.W.nsIn K mainGlobals "tuple" = some none)
    (b5 : PySem.W.nsIn K mainGlobals "list" = some none)
    (b6 : PySem.W.nsIn K mainGlobals "len" = some none)
    (b7 : PySem.W.nsIn K mainGlobals "all" = some none)
    (b8 : PySem.W.nsIn K mainGlobals "range" = some none)
    (b9 : PySem.W.nsIn K mainGlobals "max" = some none)
    (b10 : PySem.W.nsIn K mainGlobals "min" = some none)
    (b11 : PySem.W.nsIn K mainGlobals "abs" = some none)
    (b12 : PySem.W.nsIn K mainGlobals "repr" = some none)
    (b13 : PySem.W.nsIn K mainGlobals "sorted" = some none)
    {t0 : Tok} (v0 : PySem.W.nsIn K mainGlobals "MAX_WIDTH" = some (some (.int 4 t0)))
    {t1 : Tok} (v1 : PySem.W.nsIn K mainGlobals "MAX_COST" = some (some (.int 1000000 t1)))
    {t2 : Tok} (v2 : PySem.W.nsIn K mainGlobals "MAX_VALUE" = some (some (.int 1000000000 t2)))
    {t3 : Tok} (v3 : PySem.W.nsIn K mainGlobals "MAX_EXPIRY" = some (some (.int 1000000000 t3)))
    {t4 : Tok} (v4 : PySem.W.nsIn K mainGlobals "MAX_LETTERS" = some (some (.int 8 t4)))
    {t5 : Tok} (v5 : PySem.W.nsIn K mainGlobals "LETTERS" = some (some (.str "abcdefghijklmnopqrstuvwxyz" t5)))
    : ∃ fd : FuncData, (∀ (s : Shared) (v : Value), BindsTo s fd ⟨[v], []⟩ [("script", v)]) ∧ ∀ base : Heap, K.In base → base.Ns mainGlobals mg → FnG l.prog w K mg base CX0 7 fa fd ["script"] (spLaw K) := by
  have e := hfa.symm.trans (PySem.W.mg_of X G a16)
  cases e
  have E0 := df_mk (ps := ["value", "low", "high"]) X G a0 l0 c0 k0 (fun _ _ _ _ _ _ us hl => match us, hl with | [_, _, _], _ => rfl)
  have E1 := df_mk (ps := ["value", "low", "high"]) X G a1 l1 c1 k1 (fun _ _ _ _ _ _ us hl => match us, hl with | [_, _, _], _ => rfl)
  have E2 := df_mk (ps := ["value"]) X G a2 l2 c2 k2 (fun _ _ _ _ _ _ us hl => match us, hl with | [_], _ => rfl)
  have E3 := df_mk (ps := ["value"]) X G a3 l3 c3 k3 (fun _ _ _ _ _ _ us hl => match us, hl with | [_], _ => rfl)
  have E4 := df_mk (ps := ["value"]) X G a4 l4 c4 k4 (fun _ _ _ _ _ _ us hl => match us, hl with | [_], _ => rfl)
  have E5 := df_mk (ps := ["script", "at"]) X G a5 l5 c5 k5 (fun _ _ _ _ _ _ us hl => match us, hl with | [_, _], _ => rfl)
  have E6 := df_mk (ps := ["stream", "total"]) X G a6 l6 c6 k6 (fun _ _ _ _ _ _ us hl => match us, hl with | [_, _], _ => rfl)
  have E7 := df_mk (ps := ["stream", "at"]) X G a7 l7 c7 k7 (fun _ _ _ _ _ _ us hl => match us, hl with | [_, _], _ => rfl)
  have E8 := df_mk (ps := ["stream", "total", "wide"]) X G a8 l8 c8 k8 (fun _ _ _ _ _ _ us hl => match us, hl with | [_, _, _], _ => rfl)
  have E9 := df_mk (ps := ["stream"]) X G a9 l9 c9 k9 (fun _ _ _ _ _ _ us hl => match us, hl with | [_], _ => rfl)
  have E10 := df_mk (ps := ["stream", "value", "deep"]) X G a10 l10 c10 k10 (fun _ _ _ _ _ _ us hl => match us, hl with | [_, _, _], _ => rfl)
  have E11 := df_mk (ps := ["value", "low", "high"]) X G a11 l11 c11 k11 (fun _ _ _ _ _ _ us hl => match us, hl with | [_, _, _], _ => rfl)
  have E12 := df_mk (ps := ["value"]) X G a12 l12 c12 k12 (fun _ _ _ _ _ _ us hl => match us, hl with | [_], _ => rfl)
  have E13 := df_mk (ps := ["value"]) X G a13 l13 c13 k13 (fun _ _ _ _ _ _ us hl => match us, hl with | [_], _ => rfl)
  have E14 := df_mk (ps := ["value"]) X G a14 l14 c14 k14 (fun _ _ _ _ _ _ us hl => match us, hl with | [_], _ => rfl)
  have E15 := df_mk (ps := []) X G a15 l15 c15 k15 (fun _ _ _ _ _ _ us hl => match us, hl with | [], _ => rfl)
  have B : Bl mg := ⟨PySem.W.mg_none_of X G b0, PySem.W.mg_none_of X G b1, PySem.W.mg_none_of X G b2, PySem.W.mg_none_of X G b3, PySem.W.mg_none_of X G b4, PySem.W.mg_none_of X G b5, PySem.W.mg_none_of X G b6, PySem.W.mg_none_of X G b7, PySem.W.mg_none_of X G b8, PySem.W.mg_none_of X G b9, PySem.W.mg_none_of X G b10, PySem.W.mg_none_of X G b11, PySem.W.mg_none_of X G b12, PySem.W.mg_none_of X G b13⟩
  have C : Cs mg := ⟨⟨_, PySem.W.mg_of X G v0⟩, ⟨_, PySem.W.mg_of X G v1⟩, ⟨_, PySem.W.mg_of X G v2⟩, ⟨_, PySem.W.mg_of X G v3⟩, ⟨_, PySem.W.mg_of X G v4⟩, ⟨_, PySem.W.mg_of X G v5⟩⟩
  refine ⟨_, fun s v => .of_eq rfl, fun base _ _ => ok_law (k := 6) B (T := ⟨E5, E8, E6, E3, E2, E9, E10, E14, E15, (ok_stream B E5).mono (by decide), (ok_rs B E8 E6 E7).mono (by decide), (ok_draw B E6).mono (by decide), (ok_row B C E3 E0 E1 E2 E4).mono (by decide), (ok_name B C E2).mono (by decide),
    (ok_unr B E9 E6).mono (by decide), ok_dam3 B E10 E6 E9, (ok_ag B C E14 E0 E1 E2 E4 E3 E11 E12 E13).mono (by decide), (ok_bo E15).mono (by decide)⟩) (fun_mk l16 c16 k16)⟩
end K1
open PySem PySem.W PyProof.Rows
set_option maxHeartbeats 0 in
theorem PySem.Challenge.cw_spareskept_k01_names_and_rows_holds : PySem.Challenge.rw_spareskept_k01_names_and_rows.Holds := by
  w_on; o_law; k_head; (case hw => w_witness2)
  k_fill
  refine KX.walkG (l := PySem.Challenge.rw_spareskept_k01_names_and_rows) (n := 63) (k := 7) (x := "script") (sp := K1.spLaw) rfl (by decide) rfl ⟨rfl, by decide, by decide⟩ (fun w h Y => PySem.W.kIn_of Y) ?F (fun _ _ a ns hl hS _ => ⟨a, ns, rfl, hS, hl, fun _ => rfl⟩)
  case F =>
    intro w mg fa h KX G hmg
    refine' K1.all_mk KX G hmg ?a0 ?l0 ?c0 ?k0 ?a1 ?l1 ?c1 ?k1 ?a2 ?l2 ?c2 ?k2 ?a3 ?l3 ?c3 ?k3 ?a4 ?l4 ?c4 ?k4 ?a5 ?l5 ?c5 ?k5 ?a6 ?l6 ?c6 ?k6 ?a7 ?l7 ?c7 ?k7 ?a8 ?l8 ?c8 ?k8 ?a9 ?l9 ?c9 ?k9 ?a10 ?l10 ?c10 ?k10 ?a11 ?l11 ?c11 ?k11 ?a12 ?l12 ?c12 ?k12 ?a13 ?l13 ?c13 ?k13 ?a14 ?l14 ?c14 ?k14 ?a15 ?l15 ?c15 ?k15 ?a16 ?l16 ?c16 ?k16 ?b0 ?b1 ?b2 ?b3 ?b4 ?b5 ?b6 ?b7 ?b8 ?b9 ?b10 ?b11 ?b12 ?b13 ?v0 ?v1 ?v2 ?v3 ?v4 ?v5
    (case a0 => k_is); (case l0 => k_is); (case c0 => k_is); (case k0 => k_is)
    (case a1 => k_is); (case l1 => k_is); (case c1 => k_is); (case k1 => k_is)
    (case a2 => k_is); (case l2 => k_is); (case c2 => k_is); (case k2 => k_is)
    (case a3 => k_is); (case l3 => k_is); (case c3 => k_is); (case k3 => k_is)
    (case a4 => k_is); (case l4 => k_is); (case c4 => k_is); (case k4 => k_is)
    (case a5 => k_is); (case l5 => k_is); (case c5 => k_is); (case k5 => k_is)
    (case a6 => k_is); (case l6 => k_is); (case c6 => k_is); (case k6 => k_is)
    (case a7 => k_is); (case l7 => k_is); (case c7 => k_is); (case k7 => k_is)
    (case a8 => k_is); (case l8 => k_is); (case c8 => k_is); (case k8 => k_is)
    (case a9 => k_is); (case l9 => k_is); (case c9 => k_is); (case k9 => k_is)
    (case a10 => k_is); (case l10 => k_is); (case c10 => k_is); (case k10 => k_is)
    (case a11 => k_is); (case l11 => k_is); (case c11 => k_is); (case k11 => k_is)
    (case a12 => k_is); (case l12 => k_is); (case c12 => k_is); (case k12 => k_is)
    (case a13 => k_is); (case l13 => k_is); (case c13 => k_is); (case k13 => k_is)
    (case a14 => k_is); (case l14 => k_is); (case c14 => k_is); (case k14 => k_is)
    (case a15 => k_is); (case l15 => k_is); (case c15 => k_is); (case k15 => k_is)
    (case a16 => k_is); (case l16 => k_is); (case c16 => k_is); (case k16 => k_is)
    (case b0 => k_is); (case b1 => k_is); (case b2 => k_is); (case b3 => k_is); (case b4 => k_is); (case b5 => k_is); (case b6 => k_is); (case b7 => k_is); (case b8 => k_is); (case b9 => k_is); (case b10 => k_is); (case b11 => k_is); (case b12 => k_is); (case b13 => k_is)
    (case v0 => k_is); (case v1 => k_is); (case v2 => k_is); (case v3 => k_is); (case v4 => k_is); (case v5 => k_is)
