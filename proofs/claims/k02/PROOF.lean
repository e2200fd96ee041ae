import PyProof.Rows.All
import Wide.All
import OpenK.AllK
import Wide.FinOn
import HandS.ForMost
import HandS.Wide
import HandS.TupAny
import HandS.TupMul
import HandS.IsInst
import HandS.Style
import PyProof.ReprRoads
import KE.DataEq
import HandS.Walk
import PyProof.StrLawsRepr
import PyProof.FitsInt
import KE.SortData
import KE.KExcInit
import KE.KExcIs
import KE.KIsAll
import HandS.ExcInit
import HandS.ExcField
import HandS.TryOnly
import HandS.Strs
import HandS.SetBool
import HandS.Conv
import HandS.Dict
import HandS.SetFor
import HandS.Zip
import KE.GoesZip
import KE.GoesMore
import KE.KEqDict
import KE.DataCmp
import HandS.Lambda
import HandS.Nested
import HandS.EndTab
import HandS.EndOwn
import HandS.ForExc
import HandS.TryMany
import HandS.CallLocal
import PyProof.RulesRaise
import PyProof.FactsTree
import PyProof.ExcClass
import PyProof.ExcBaseAll.LookupError
import HandS.ExcIs
import KE.KStrOpen
import HandS.Text
import HandS.TupLe
import KE.KNestM
import PySem.Challenge.RW_spareskept_k02_rowsets_validated
set_option Elab.async false
set_option linter.all false
set_option maxRecDepth 100000
set_option maxHeartbeats 2000000
namespace KX
open PySem PySem.Spec PyProof.Rows L2

/-! ### data: what a value holds, through the tracked heap -/
mutual
inductive Dx (H : Hp) : V → PyData → Prop
  | non : Dx H .non .none
  | bl (b : Bool) : Dx H (.bl b) (.bool b)
  | int (i : Int) : Dx H (.int i) (.int i)
  | str (x : Str) : Dx H (.str x) (.str x)
  | lst {a : Addr} {xs : List V} {ds : List PyData} (e : H a = some (.lst xs)) (n : a ≠ sysModules) (h : Dxs H xs ds) : Dx H (.ref a) (.list ds)
  | tup {a : Addr} {xs : List V} {ds : List PyData} (e : H a = some (.tup xs)) (h : Dxs H xs ds) : Dx H (.ref a) (.tuple ds)
  | dic {a : Addr} (e : H a = some (.dK [])) : Dx H (.ref a) (.dict [])
  | dic1 {a : Addr} {x : Str} {i : Int} (e : H a = some (.dK [(.inr x, .int i)])) : Dx H (.ref a) (.dict [(.str x, .int i)])
inductive Dxs (H : Hp) : List V → List PyData → Prop
  | nil : Dxs H [] []
  | cons {v : V} {vs : List V} {d : PyData} {ds : List PyData} (h : Dx H v d) (t : Dxs H vs ds) : Dxs H (v :: vs) (d :: ds)
end

mutual
theorem Dx.mono {H H' : Hp} (s : Same H H') : ∀ (d : PyData) (v : V), Dx H v d → Dx H' v d
  | .none, _, h => by cases h; exact .non
  | .bool b, _, h => by cases h; exact .bl b
  | .int i, _, h => by cases h; exact .int i
  | .str x, _, h => by cases h; exact .str x
  | .list ds, _, h => by
    cases h with
    | lst e n h => exact .lst (s _ _ e) n (Dxs.mono s ds _ h)
  | .tuple ds, _, h => by
    cases h with
    | tup e h => exact .tup (s _ _ e) (Dxs.mono s ds _ h)
  | .dict ks, _, h => by
    cases h with
    | dic e => exact .dic (s _ _ e)
    | dic1 e => exact .dic1 (s _ _ e)
theorem Dxs.mono {H H' : Hp} (s : Same H H') : ∀ (ds : List PyData) (vs : List V), Dxs H vs ds → Dxs H' vs ds
  | [], _, h => by cases h; exact .nil
  | d :: ds, _, h => by
    cases h with
    | cons h t => exact .cons (Dx.mono s d _ h) (Dxs.mono s ds _ t)
end
theorem Dx.up {H H' : Hp} {v : V} {d : PyData} (h : Dx H v d) (s : Same H H') : Dx H' v d := Dx.mono s d v h
theorem Dxs.up {H H' : Hp} {v : List V} {d : List PyData} (h : Dxs H v d) (s : Same H H') : Dxs H' v d := Dxs.mono s d v h
theorem Dxs.len {H : Hp} : ∀ {vs : List V} {ds : List PyData}, Dxs H vs ds → vs.length = ds.length
  | _, _, .nil => rfl
  | _, _, .cons _ t => by simp [Dxs.len t]
theorem Dxs.get {H : Hp} : ∀ {vs : List V} {ds : List PyData} {i : Nat} {d : PyData}, Dxs H vs ds → ds[i]? = some d → ∃ v, vs[i]? = some v ∧ Dx H v d
  | _, _, i, d, .nil, e => by simp at e
  | _, _, 0, d, .cons h _, e => by simp at e; subst e; exact ⟨_, rfl, h⟩
  | _, _, i + 1, d, .cons _ t, e => by
    obtain ⟨v, e1, h⟩ := Dxs.get (i := i) t (by simpa using e)
    exact ⟨v, by simpa using e1, h⟩
theorem Dxs.get' {H : Hp} : ∀ {vs : List V} {ds : List PyData} {i : Nat} {v : V}, Dxs H vs ds → vs[i]? = some v → ∃ d, ds[i]? = some d ∧ Dx H v d
  | _, _, i, d, .nil, e => by simp at e
  | _, _, 0, d, .cons h _, e => by simp at e; subst e; exact ⟨_, rfl, h⟩
  | _, _, i + 1, d, .cons _ t, e => by
    obtain ⟨v, e1, h⟩ := Dxs.get' (i := i) t (by simpa using e)
    exact ⟨v, by simpa using e1, h⟩
theorem Dxs.app {H : Hp} : ∀ {vs : List V} {ds : List PyData} {ws : List V} {es : List PyData}, Dxs H vs ds → Dxs H ws es → Dxs H (vs ++ ws) (ds ++ es)
  | _, _, _, _, .nil, h => h
  | _, _, _, _, .cons h t, k => .cons h (Dxs.app t k)
theorem Dxs.take {H : Hp} : ∀ {vs : List V} {ds : List PyData} (n : Nat), Dxs H vs ds → Dxs H (vs.take n) (ds.take n)
  | _, _, 0, _ => .nil
  | _, _, _ + 1, .nil => .nil
  | _, _, n + 1, .cons h t => .cons h (Dxs.take n t)
theorem Dxs.drop {H : Hp} : ∀ {vs : List V} {ds : List PyData} (n : Nat), Dxs H vs ds → Dxs H (vs.drop n) (ds.drop n)
  | _, _, 0, h => h
  | _, _, _ + 1, .nil => .nil
  | _, _, n + 1, .cons _ t => Dxs.drop n t
theorem Dxs.rev {H : Hp} : ∀ {vs : List V} {ds : List PyData}, Dxs H vs ds → Dxs H vs.reverse ds.reverse
  | _, _, .nil => .nil
  | _, _, .cons h t => by
    rw [List.reverse_cons, List.reverse_cons]
    exact (Dxs.rev t).app (.cons h .nil)

section
variable {X : Cx} {pins : List (Addr × Obj)} {σ : L2.St} {H : Hp} {s : Shared}
mutual
theorem Dx.reads (I : Inv X pins σ H s) : ∀ (d : PyData) (v : V) (u : Value), Dx H v d → RelV v u → ∃ as, Reads s.heap u d as ∧ sysModules ∉ as
  | .none, _, _, h, r => by
    cases h
    cases r
    exact ⟨_, Reads.none, by simp⟩
  | .bool b, _, _, h, r => by
    cases h
    cases r
    exact ⟨_, Reads.bool b, by simp⟩
  | .int i, _, _, h, r => by
    cases h
    obtain ⟨t, rfl⟩ := r
    exact ⟨_, Reads.int i t, by simp⟩
  | .str x, _, _, h, r => by
    cases h
    obtain ⟨t, rfl⟩ := r
    exact ⟨_, Reads.str x t, by simp⟩
  | .list ds, _, _, h, r => by
    cases h with
    | @lst a xs _ e ne h =>
      cases r
      have hs : SqL X.K H a xs := .inl (.inl e)
      obtain ⟨its, rv, ⟨o, n, ho, hc, _, hd⟩, _⟩ := I.list hs
      obtain ⟨as, hr, hn⟩ := Dxs.reads I ds _ its h rv
      refine ⟨_, Reads.list ho hc hd hr, fun z => ?_⟩
      rcases List.mem_cons.mp z with z | z
      · exact ne z.symm
      · exact hn z
  | .tuple ds, _, _, h, r => by
    cases h with
    | @tup a xs _ e h =>
      cases r
      have hs : SqT X.K H a xs := .inl (.inl e)
      obtain ⟨its, rv, ⟨o, ho, hc, n, hd⟩, _⟩ := I.tuple hs
      obtain ⟨as, hr, hn⟩ := Dxs.reads I ds _ its h rv
      exact ⟨_, Reads.tuple ho hc hd hr, hn⟩
  | .dict ks, _, _, h, r => by
    cases h with
    | @dic a e =>
      cases r
      obtain ⟨z, y, vs, r, o, es, ep, e1, ex, ed, hm⟩ := (show ObjOk X.prog X.w H s.heap a (.dK []) from I.hok a _ e)
      cases r
      have hes : es = #[] := by
        obtain ⟨es⟩ := es
        have hl := hm.2.1.length
        cases es with
        | nil => rfl
        | cons x l => simp at hl
      subst hes
      refine ⟨_, Reads.dict (kvs := []) e1 ex.1 ed .nil .nil, fun z => ?_⟩
      have z : sysModules = a := by simpa using z
      rw [z] at y
      simp at y
    | @dic1 a x i e =>
      cases r
      obtain ⟨z, y, vs, r, o, es, ep, e1, ex, ed, hm⟩ := (show ObjOk X.prog X.w H s.heap a (.dK [(.inr x, .int i)]) from I.hok a _ e)
      obtain ⟨es⟩ := es
      obtain ⟨_, hp, _⟩ := hm
      match vs, r, hp with
      | [(k, u)], .cons ⟨hk, tk, hu⟩ .nil, hp =>
        dsimp only at hk hu
        subst hk hu
        match es, hp, ed with
        | [en], .cons a1 a2 .nil, ed =>
          have a1' : keyIs (Sum.inr x) en.key = true := a1
          obtain ⟨q, t, hq1, hq2⟩ := (keyIs_shape a1').resolve_left (fun z => by obtain ⟨_, _, z, _⟩ := z; cases z)
          cases hq1
          refine ⟨_, Reads.dict (kvs := [(.str x, .int i)]) (as := []) (bs := []) e1 ex.1 ed ?_ ?_, fun z => ?_⟩
          · show ReadsAll s.heap [en.key] [PyData.str x] _
            rw [hq2]
            exact ReadsAll.cons (as := []) (bs := []) (.str x t) .nil
          · show ReadsAll s.heap [en.val] [PyData.int i] _
            rw [a2]
            exact ReadsAll.cons (as := []) (bs := []) (.int i tk) .nil
          · have z : sysModules = a := by simpa using z
            rw [z] at y
            simp at y
theorem Dxs.reads (I : Inv X pins σ H s) : ∀ (ds : List PyData) (vs : List V) (us : List Value), Dxs H vs ds → Vals vs us → ∃ as, ReadsAll s.heap us ds as ∧ sysModules ∉ as
  | [], _, _, h, r => by
    cases h
    cases r
    exact ⟨_, ReadsAll.nil, by simp⟩
  | d :: ds, _, _, h, r => by
    cases h with
    | cons h1 h2 =>
      cases r with
      | cons r1 r2 =>
        obtain ⟨as, q1, n1⟩ := Dx.reads I d _ _ h1 r1
        obtain ⟨bs, q2, n2⟩ := Dxs.reads I ds _ _ h2 r2
        exact ⟨_, ReadsAll.cons q1 q2, by simp [n1, n2]⟩
end
/-- a new address is none of the first ones -/
theorem new_big (I : Inv X pins σ H s) {p : Addr} (h : s.heap.objs.size ≤ p) : p ≠ sysModules := by
  intro z
  have h1 : mainGlobals < X.base.objs.size := I.ok.mod.glob.lt
  have h2 := I.ok.bsz
  have h3 := I.sz
  have h4 : sysModules < mainGlobals := by decide
  rw [z] at h
  exact absurd (Nat.lt_of_lt_of_le h4 (Nat.le_trans (Nat.le_of_lt h1) (Nat.le_trans h2 (Nat.le_trans h3 h)))) (Nat.lt_irrefl _)
end

section
variable {X : Cx}
/-- a list that is written, its address none of the first -/
def tLstS (t : TA) : TE := fun σ H Q => t σ H fun xs H1 => xs.length ≤ sizeLine ∧ ∀ p, H1 p = none → p ≠ sysModules → Q (.ref p) (upd H1 p (.lst xs))
theorem pe_lstS {es : List Expr} {t : TA} {pos : Pos} (ha : PA X es t) : PE X (.List es pos) (tLstS t) := by
  constructor
  intro pins s σ H Q I hq
  refine wpAny_List_spliced (thn (ha.run pos pins s σ H _ I hq) fun us s1 hh => ?_)
  obtain ⟨xs, H1, I1, r, z, q⟩ := hh
  have nf : H1 s1.heap.objs.size = none := I1.hok.fresh (Nat.le_refl _)
  refine ⟨by rw [← r.length]; exact z, .ref s1.heap.objs.size, upd H1 s1.heap.objs.size (.lst xs), ?_, rfl, q _ nf (new_big I1 (Nat.le_refl _))⟩
  exact I1.laid (t' := s1.toks) (fun b u e => Heap.get?_push_of_some _ e) (Nat.le_refl _) ⟨z, us, 0, r, Heap.get?_push_size _ rfl⟩
/-- list(t), t a tuple or a list of data -/
theorem call_listS : CallR X (.type "list") (fun xs H Q => ∃ p ys, xs = [.ref p] ∧ (SqL X.K H p ys ∨ SqT X.K H p ys) ∧ ∀ l, H l = none → l ≠ sysModules → Q (.ref l) (upd H l (.lst ys))) := by
  intro pins s σ H xs us Q I r h
  obtain ⟨p, ys, e, hq, q⟩ := h
  subst e
  obtain ⟨u, rfl, rx⟩ := vals1 r
  cases rx
  have nf : H s.heap.objs.size = none := I.hok.fresh (Nat.le_refl _)
  have fin : ∀ (its : List Value), Vals ys its → ys.length ≤ sizeLine → ∀ (g : Heap) (c : Nat), (∀ b o', s.heap.get? b = some o' → g.get? b = some o') →
      g.get? s.heap.objs.size = some { cls := .type "list", dict := none, data := .seq its.toArray c, slots := #[] } → EP X pins σ Q (.ref s.heap.objs.size) { s with heap := g } := by
    intro its rv hz g c kp e
    refine ⟨.ref s.heap.objs.size, _, I.laid (t' := s.toks) kp (Nat.le_refl _) (o := .lst ys) ⟨hz, its, c, rv, e⟩, rfl, q _ nf (new_big I (Nat.le_refl _))⟩
  rcases hq with hq | hq
  · obtain ⟨its, rv, pl, hz⟩ := I.list hq
    have hlen := rv.length
    obtain ⟨o, ho, hc, n, hd⟩ := pl.isList
    exact call_list_seq p (.inl rfl) ho hc hd (fun g c kp e => fin its rv hz g c kp e) (by simp only [List.size_toArray] <;> omega)
  · obtain ⟨its, rv, pl, hz⟩ := I.tuple hq
    have hlen := rv.length
    obtain ⟨o, ho, hc, n, hd⟩ := pl
    exact call_list_seq p (.inr rfl) ho hc hd (fun g c kp e => fin its rv hz g c kp e) (by simp only [List.size_toArray] <;> omega)
/-- repr(x), x data -/
def rReprD : List V → Hp → VK → Prop := fun xs H Q => ∃ x d, xs = [x] ∧ Dx H x d ∧ d.showable = true ∧ d.depth ≤ 100 ∧ d.shown.length ≤ sizeLine ∧ Q (.str d.shown) H
theorem call_reprD {k : Nat} (hr : Room k X.A) (hg : X.A.guards = some []) : CallR X (.builtin "repr") rReprD := by
  intro pins s σ H xs us Q I r h
  obtain ⟨x, d, e, hd, hs, hdp, hz, q⟩ := h
  subst e
  obtain ⟨u, rfl, rx⟩ := vals1 r
  obtain ⟨as, hrd, hn⟩ := Dx.reads I d x u hd rx
  have hu := hr.un
  have fin : ∀ h' u' tk, (∀ b o, s.heap.get? b = some o → h'.get? b = some o) → EP X pins σ Q (.str d.shown u') { s with heap := h', toks := tk } := fun h' u' tk hk =>
    ⟨.str d.shown, H, I.kept (t' := tk) hk, ⟨_, rfl⟩, q⟩
  cases hd with
  | non =>
    cases (show u = Value.none from rx)
    simp only [PyData.shown] at fin
    exact PySem.P.repr_of_none (fin _ _ _ fun _ _ e => e)
  | bl b =>
    cases (show u = Value.bool b from rx)
    simp only [PyData.shown] at fin
    exact PySem.P.repr_of_bool (fin _ _ _ fun _ _ e => e)
  | int i =>
    obtain ⟨t, z⟩ := (show ∃ t, u = Value.int i t from rx)
    cases z
    simp only [PyData.shown] at fin
    exact PySem.P.repr_of_int (by simpa [PyData.showable] using hs) (fin _ _ _ fun _ _ e => e)
  | str y =>
    obtain ⟨t, z⟩ := (show ∃ t, u = Value.str y t from rx)
    cases z
    simp only [PyData.shown] at fin hz
    exact PySem.P.repr_of_str (fin _ _ _ fun _ _ e => e) hz
  | lst e n h =>
    cases (show u = Value.ref _ from rx)
    exact repr_of_reads' hrd hs (fun _ => hn) hg (by omega) (fun _ _ e => e) fin hz
  | tup e h =>
    cases (show u = Value.ref _ from rx)
    exact repr_of_reads' hrd hs (fun _ => hn) hg (by omega) (fun _ _ e => e) fin hz
  | dic e =>
    cases (show u = Value.ref _ from rx)
    exact repr_of_reads' hrd hs (fun _ => hn) hg (by omega) (fun _ _ e => e) fin hz
  | dic1 e =>
    cases (show u = Value.ref _ from rx)
    exact repr_of_reads' hrd hs (fun _ => hn) hg (by omega) (fun _ _ e => e) fin hz
end
end KX

set_option maxRecDepth 100000
set_option maxHeartbeats 4000000
namespace KX
open PySem PySem.Spec PyProof.Rows L2 HT
section
variable {prog : Program} {w : World} {A : Around} {E : Value → Shared → Prop} {s : Shared}
theorem rev_adjust (n : Nat) : Builtin.Slice.sliceAdjust none none (-1) (n : Int) = ((n : Int) - 1, -1) := by
  unfold Builtin.Slice.sliceAdjust
  simp
theorem rev_places (n : Nat) : Builtin.Slice.slicePlaces ((n : Int) - 1) (-1) (-1) = n := by
  unfold Builtin.Slice.slicePlaces
  rw [if_neg (by decide)]
  by_cases h : (n : Int) - 1 > -1
  · rw [if_pos h]
    have : ((n : Int) - 1 - -1 - 1) / (- -1) + 1 = (n : Int) := by
      rw [show (- -1 : Int) = 1 by decide, Int.ediv_one]
      omega
    rw [this, Int.toNat_natCast]
  · rw [if_neg h]
    have : n = 0 := by omega
    subst this
    rfl
theorem rev_pick (xs : Array Value) : ((List.range xs.size).filterMap fun (k : Nat) => xs[(((xs.size : Nat) : Int) - 1 + (k : Int) * (-1)).toNat]?).toArray = xs.toList.reverse.toArray := by
  have e : (fun (k : Nat) => xs[(((xs.size : Nat) : Int) - 1 + (k : Int) * (-1)).toNat]?) = fun (k : Nat) => xs[xs.size - 1 - k]? := by
    funext k
    have : (((xs.size : Nat) : Int) - 1 + (k : Int) * (-1)).toNat = xs.size - 1 - k := by omega
    rw [this]
  rw [e]
  have e2 : (fun (k : Nat) => xs[xs.size - 1 - k]?) = (fun i => xs[i]?) ∘ fun k => xs.size - 1 - k := rfl
  rw [e2, ← List.filterMap_map, PySem.W.krv_range, List.filterMap_reverse, PySem.W.krv_all]
theorem applied_rev {sl : Addr} {vs : Value} {n : Nat} {Q : Int × Int × Nat → Shared → Prop} (hs : s.heap.IsSliceOf sl .none .none vs) (ps : IsPart vs (some (-1)))
    (h : Q ((n : Int) - 1, -1, n) s) : wpAny (model prog w) A (Builtin.Slice.sliceApplied (.ref sl) (pure (n : Int))) Q E s := by
  obtain ⟨os, hos, hcs, hds⟩ := id hs
  unfold Builtin.Slice.sliceApplied Builtin.Slice.sliceFields
  refine wpAny_bind (wpAny_bind (wpAny_field hos hds (x := .none) rfl (wpAny_bind (wpAny_field hos hds (x := .none) rfl (wpAny_bind (wpAny_field hos hds (x := vs) rfl (wpAny_pure ?_)))))))
  refine wpAny_bind (slicePart_ ps ?_)
  show wpAny _ _ (if ((-1 : Int) == 0) = true then _ else _) _ _ s
  rw [if_neg (by decide)]
  refine wpAny_bind (slicePart_none (wpAny_bind (slicePart_none (wpAny_bind (wpAny_pure ?_)))))
  show wpAny _ _ (match Builtin.Slice.sliceAdjust none none (-1) (n : Int) with | (lo, hi) => pure (lo, (-1 : Int), Builtin.Slice.slicePlaces lo hi (-1))) _ _ s
  rw [rev_adjust n]
  show wpAny _ _ (pure ((n : Int) - 1, (-1 : Int), Builtin.Slice.slicePlaces ((n : Int) - 1) (-1) (-1))) _ _ s
  rw [rev_places]
  exact wpAny_pure h
theorem getItem_tuple_rev {t sl : Addr} {items : Array Value} {vs : Value} {Q : Value → Shared → Prop} (ht : IsTup s.heap t items) (hs : s.heap.IsSliceOf sl .none .none vs) (ps : IsPart vs (some (-1)))
    (h : Q (.ref s.heap.objs.size) { s with heap := s.heap.push { cls := .type "tuple", data := .seq items.toList.reverse.toArray } })
    (hsz : items.size ≤ sizeLine) : wpAny (model prog w) A (getItem (.ref t) (.ref sl)) Q E s := by
  have htk : sizeOk (.seq items.toList.reverse.toArray) := by
    show items.toList.reverse.toArray.size ≤ sizeLine
    rw [List.size_toArray, List.length_reverse, Array.length_toList]
    exact hsz
  obtain ⟨os, hos, hcs, hds⟩ := id hs
  have hTs : s.TypeIs (.ref sl) "slice" := ⟨os, hos, hcs⟩
  unfold getItem
  try with_reducible refine wpAny_holding ?_
  first | refine wpAny_bind (wpAny_pure ?_) | skip
  refine wpAny_bind (wpAny_sequenceKey ht.typeIs (by decide) ?_)
  refine wpAny_bind (wpAny_callSpecial?_slot (name := Str.ofString "__getitem__") ht.typeIs PyProof.Rows.slot_tuple_getitem
    (wpAny_call_entry PyProof.Rows.slot_tuple_getitem ht.typeIs entry_tuple_getitem ?_ (args_tuple_getitem _ _)))
  show wpAny _ _ (Builtin.Tuple.tupleItemsOf (.ref t) >>= _) _ _ s
  refine wpAny_bind (tupleItemsOf_ ht ?_)
  refine wpAny_bind (wpAny_typeOf hTs ?_)
  rw [if_pos (by decide)]
  refine wpAny_bind (applied_rev hs ps ?_)
  have hno : ¬ ((((items.size : Nat) : Int) - 1 == 0 && (-1 : Int) == 1 && items.size == items.size) = true) := by
    intro q
    rw [Bool.and_eq_true, Bool.and_eq_true] at q
    exact absurd q.1.2 (by decide)
  show wpAny _ _ (if (((items.size : Nat) : Int) - 1 == 0 && (-1 : Int) == 1 && items.size == items.size) = true then _ else _) _ _ s
  rw [if_neg hno, rev_pick]
  first
    | exact wpAny_bind (m := Builtin.Tuple.tupleExact _) (wpAny_newObj_type (wpAny_pure ⟨_, rfl, wpAny_pure h⟩) htk)
    | exact wpAny_bind (m := Builtin.Tuple.tupleExact _) (wpAny_newObj_type (wpAny_bind (wpAny_pure (wpAny_pure ⟨_, rfl, wpAny_pure h⟩))) htk)
    | exact wpAny_bind (wpAny_bind (m := Builtin.Tuple.tupleExact _) (wpAny_newObj_type (wpAny_pure (wpAny_pure ⟨_, rfl, wpAny_pure h⟩)) htk))
    | exact wpAny_bind (wpAny_bind (m := Builtin.Tuple.tupleExact _) (wpAny_newObj_type (wpAny_pure ⟨_, rfl, wpAny_pure h⟩) htk))
end
section
variable {X : Cx}
/-- t[::-1], t a tuple: a new tuple -/
def tRevT (K : PySem.W.Frag) (te : TE) : TE := fun σ H Q => te σ H fun x H1 => ∃ a xs, x = .ref a ∧ SqT K H1 a xs ∧ ∀ p, H1 p = none → Q (.ref p) (upd H1 p (.tup xs.reverse))
theorem pe_revT {e : Expr} {te : TE} {k : Nat} {p1 p2 p3 pos : Pos} (he : PE X e te) : PE X (.Subscript e (.Slice none none (some (.UnaryOp .USub (.Constant (.int 1) k p1) p2)) p3) pos) (tRevT X.K te) := by
  constructor
  intro pins s σ H Q I h
  refine Subscript_ (thn (he.run pins s σ H _ I h) fun v s1 hh => ?_)
  obtain ⟨x, H1, I1, r1, a, xs, ex, hx, q⟩ := hh
  subst ex
  cases r1
  have hst : PO X (some (.UnaryOp .USub (.Constant (.int 1) k p1) p2)) (tPart (tUn (rU fun i => .int (-i)) (tC (.int 1)))) := po_some (pe_un un_neg pe_int)
  refine wpAny_Slice (thn (po_none.run pins s1 σ H1 (fun o H2 => o = none ∧ H2 = H1) I1 ⟨rfl, rfl⟩) fun vl s2 hh2 => ?_)
  obtain ⟨l, H2, I2, pl, el, e2⟩ := hh2
  subst el e2
  refine thn (po_none.run pins s2 σ H2 (fun o H3 => o = none ∧ H3 = H2) I2 ⟨rfl, rfl⟩) fun vu s3 hh3 => ?_
  obtain ⟨u, H3, I3, pu, eu, e3⟩ := hh3
  subst eu e3
  refine thn (hst.run pins s3 σ H3 (fun o H4 => o = some (-1) ∧ H4 = H3) I3 ⟨1, rfl, -1, rfl, rfl, rfl⟩) fun vs s4 hh4 => ?_
  obtain ⟨o, H4, I4, ps, eo, e4⟩ := hh4
  subst eo e4
  cases pl
  cases pu
  have I5 : Inv X pins σ H4 { s4 with heap := s4.heap.push { cls := .type "slice", data := .fields #[.none, .none, vs] } } := I4.kept (t' := s4.toks) fun b ob q => Heap.get?_push_of_some _ q
  obtain ⟨its, r, ht, hz⟩ := I5.tuple hx
  have hlen := r.length
  show wpAny (model X.prog X.w) X.A (subscriptTail e (.Slice none none (some (.UnaryOp .USub (.Constant (.int 1) k p1) p2)) p3) (.ref a) (.ref s4.heap.objs.size)) (EP X pins σ Q) X.xe { s4 with heap := s4.heap.push { cls := .type "slice", data := .fields #[.none, .none, vs] } }
  refine tail_any (ops := [.ref a, .ref s4.heap.objs.size]) ht.typeIs (PyProof.Rows.slot_tuple_getitem.lookup) ?_ (by with_unfolding_all rfl)
  refine getItem_tuple_rev ht (Heap.IsSliceOf.new _ .none .none vs) ps ?_ (by rw [List.size_toArray]; omega)
  refine ⟨.ref _, _, I5.laid (t' := s4.toks) (o := .tup xs.reverse) (fun b ob q => Heap.get?_push_of_some _ q) (Nat.le_refl _) ?_, rfl, q _ (I5.hok.fresh (Nat.le_refl _))⟩
  exact ⟨by rw [List.length_reverse]; exact hz, _, r.reverse, IsTup.new _ _⟩
/-- a power, great -/
theorem op_powW : OpR X (binaryOp .Pow) (rI (fun i j => 0 ≤ j ∧ (Builtin.Int.intBits i : Int) * j ≤ 2 ^ 27) fun i j => .int (i ^ j.toNat)) := opI fun _ _ _ _ _ _ _ hc q => pow_int hc.1 hc.2 q
end
end KX

set_option maxRecDepth 100000
set_option maxHeartbeats 4000000
namespace KX
open PySem PySem.Spec PyProof.Rows L2
/-! ### a def that shows data (repr): its promise where no repr runs around it -/
structure FnG (P : Program) (w : World) (K : PySem.W.Frag) (mg : Str → Option Value) (base : Heap) (CX : CXT) (k : Nat) (f : Addr) (fd : FuncData) (ps : List Str) (sp : Sp) : Prop where
  len : ∀ vs H Q E, sp vs H Q E → vs.length = ps.length
  run : ∀ (B : Around) (outs : List Env) (t : Shared) (H : Hp) (given : Args) (us : List Value) (vs : List V) (Q : VK) (E : XK), B.guards = some [] → Room k B → Env0 P w K mg base B outs t H →
    BindsTo t fd given (ps.zip us) → Vals vs us → sp vs H Q E → codeAny (model P w) B (.call (.ref f) given) (CR CX outs P w H t Q E) t
theorem FnG.mono {P : Program} {w : World} {K : PySem.W.Frag} {mg : Str → Option Value} {base : Heap} {CX : CXT} {j k : Nat} {f : Addr} {fd : FuncData} {ps : List Str} {sp : Sp} (F : FnG P w K mg base CX j f fd ps sp) (h : j ≤ k) :
    FnG P w K mg base CX k f fd ps sp := ⟨F.len, fun B outs t H given us vs Q E hg hr => F.run B outs t H given us vs Q E hg (hr.mono h)⟩
section
variable {X : Cx} {CX : CXT} {k : Nat} {f : Addr} {fd : FuncData} {ps : List Str} {sp : Sp} {dvs : List V} {ds : List Value} {E : XK} {x : Str} {p pos : Pos} {e : Expr} {es : List Expr} {t : TA}
theorem run_fnG {pins : List (Addr × Obj)} {σ : L2.St} {H : Hp} {s : Shared} {Q : VK} {us : List Value} {vs : List V} (F : FnG X.prog X.w X.K X.mg X.base CX k f fd ps sp) (hg : X.A.guards = some []) (hr : Room k X.A) (hb : Binds X.K fd ps ds)
    (hd : Vals dvs ds) (hx : Passes CX X E) (I : Inv X pins σ H s) (r : Vals vs us) (h : sp (vs ++ dvs) H Q E) : wpAny (model X.prog X.w) X.A (call (.ref f) us) (EP X pins σ Q) X.xe s := by
  have r2 : Vals (vs ++ dvs) (us ++ ds) := r.append hd
  have hl : (us ++ ds).length = ps.length := by
    rw [← r2.length]
    exact F.len _ _ _ _ h
  refine wpAny_call (codeAny_mono (F.run X.A X.stack s H ⟨us, []⟩ (us ++ ds) (vs ++ dvs) Q E hg hr I.env0 (hb s us I.kIn hl) r2 h) fun r s' hq => ?_)
  match r, hq with
  | .error e, hq => exact hx pins σ H s e s' I hq
  | .ok (.ret u), hq => exact I.after hq
theorem pe_callG (F : FnG X.prog X.w X.K X.mg X.base CX k f fd ps sp) (hgd : X.A.guards = some []) (hr : Room k X.A) (hg : Gl X x) (hm : X.mg x = some (.ref f)) (hk : PySem.W.keepIn X.K (.ref f) = true) (hb : Binds X.K fd ps ds)
    (hd : Vals dvs ds) (hx : Passes CX X E) (ha : PA X (e :: es) t) (hdb : (x == ("__debug__" : Str)) = false := by decide) (he : starEach (e :: es) X.env = (false, eval e X.env) :: starEach es X.env := by rfl)
    (hpl : (backTo pos (starEach es X.env)).any (·.1) = false := by rfl) : PE X (.Call (.Name x p) (e :: es) [] pos) (tCall sp dvs E t) := by
  constructor
  intro pins s σ H Q I h
  refine wpAny_Call_Name_kw (ld_glob I hg hm ?_ hdb)
  refine PySem.W.callWith_K (h₀ := X.base) I.ok.mod.kin hk (thn (ha.run pos pins s σ H _ I h) fun us s1 hh => ?_) he hpl
  obtain ⟨vs, H1, I1, r, q⟩ := hh
  exact ⟨I1.kIn, run_fnG F hgd hr hb hd hx I1 r q⟩
end
/-- a def of the text, where no repr runs around it -/
theorem fn_ofG {CX : CXT} {P : Program} {w : World} {K : PySem.W.Frag} {mg : Str → Option Value} {base : Heap} {k : Nat} {f : Addr} {name qual : Str} {params : Arguments} {body : List Stmt} {scope : Scope} {dV kV doc pm cdv ct oc : Value}
    {an od : Option Addr} {osl : Array (Option Value)} {N ps : List Str} {sp : Sp} (lk : K.lookup f = some ⟨oc, od, .func (PySem.W.fnOf name qual params body scope dV kV doc pm an cdv ct), osl⟩) (hcd : PySem.W.codeIn K cdv qual = true)
    (S : FnScope N ps scope) (len : ∀ vs H Q E, sp vs H Q E → vs.length = ps.length)
    (hbody : ∀ (B : Around) (outs : List Env) (s : Shared) (H : Hp) (vs : List V) (Q : VK) (E : XK), (B.deeper (envOfC qual scope s.heap.objs.size f cdv)).guards = some [] → Room k (B.deeper (envOfC qual scope s.heap.objs.size f cdv)) → sp vs H Q E →
      ∃ t, PSs (cxOf CX P w K mg base N qual scope f cdv B outs s H E) body t ∧ t { nx := fun _ H' => Q .non H', rt := Q } (start N vs) H) :
    FnG P w K mg base CX (k + 1) f (PySem.W.fnOf name qual params body scope dV kV doc pm an cdv ct) ps sp := by
  refine ⟨len, fun B outs s H given us vs Q E hg hr e0 hb r hsp => ?_⟩
  have hl := len _ _ _ _ hsp
  have KX : K.In s.heap := e0.mod.kin.keeps fun b o e => (e0.bs b o e).1
  have lim : s.heap.NoLimit := e0.mod.nolimit.keeps fun b o e => (e0.bs b o e).1
  have hkind : ∀ y ∈ ps.zip us, scope.names.lookup y.1 = some .local ∨ (scope.names.lookup y.1 = some .cell ∧ ((cellsFrom (s.heap.objs.size + 1) scope.names []).lookup y.1).isSome = true) := by
    rintro ⟨n, v⟩ hy
    rcases S.par n (List.of_mem_zip hy).1 with q | q
    · exact .inl q
    · exact .inr ⟨q, PySem.W.cellsFrom_some _ _ _ (.inl q)⟩
  refine codeAny_call_function hr.depth (KX _ _ lk) rfl S.co S.gen rfl (PySem.W.codeRec_of KX hcd) (hb _ _ _ _ ?_)
  refine wpAny_newFunctionEnv_cells S.kind hkind fun env he s1 x => ?_
  subst he
  refine ⟨lim.keeps x.toInCall.keep, codeAny_func ?_⟩
  obtain ⟨t, ht, hq⟩ := hbody B outs s H vs Q E hg (hr.deeper _) hsp
  have I : Inv (cxOf CX P w K mg base N qual scope f cdv B outs s H E) [] (start N vs) H s1 := inv_start S hr.hd e0 hl r x
  refine wpAny_mono (ht.run [] s1 (start N vs) H _ I hq) (fun fl s' hs => ?_) fun e s' hs => hs
  match fl, hs with
  | .ret u, hs =>
    obtain ⟨v, σ', H', J, rv, q⟩ := hs
    exact ⟨v, H', J.os, J.bare, J.base, J.hok, rv, q⟩
  | .next, hs =>
    obtain ⟨σ', H', J, q⟩ := hs
    exact ⟨V.non, H', J.os, J.bare, J.base, J.hok, rfl, q⟩
  | .brk, hs =>
    obtain ⟨_, _, _, q⟩ := hs
    exact False.elim q
  | .cont, hs =>
    obtain ⟨_, _, _, q⟩ := hs
    exact False.elim q
theorem okG {P : Program} {w : World} {K : PySem.W.Frag} {mg : Str → Option Value} {base : Heap} {x qual : Str} {st : Stmt} {f : Addr} {fd : FuncData} {N ps : List Str} {k : Nat} {sp : Sp} (F : Fun K x qual st f fd) (S : FnScope N ps (defScope st))
    (len : ∀ vs H Q E, sp vs H Q E → vs.length = ps.length)
    (hbody : ∀ (cdv : Value) (B : Around) (outs : List Env) (s : Shared) (H : Hp) (vs : List V) (Q : VK) (E : XK), (B.deeper (envOfC qual (defScope st) s.heap.objs.size f cdv)).guards = some [] → Room k (B.deeper (envOfC qual (defScope st) s.heap.objs.size f cdv)) →
      sp vs H Q E → ∃ t, PSs (cxOf CX0 P w K mg base N qual (defScope st) f cdv B outs s H E).nox (defBody st) t ∧ t { nx := fun _ H' => Q .non H', rt := Q } (start N vs) H) : FnG P w K mg base CX0 (k + 1) f fd ps sp := by
  obtain ⟨oc, od, kV, doc, pm, an, cdv, ct, osl, rfl, lk, hcd⟩ := F.ex
  refine fn_ofG lk hcd S len fun B outs s H vs Q E hg hr hsp => ?_
  obtain ⟨t, h, q⟩ := hbody cdv B outs s H vs Q E hg hr hsp
  exact ⟨t, h.nox, q⟩

/-! ### the law's call -/
theorem lawG {P : Program} {w : World} {K : PySem.W.Frag} {mg mb : Str → Option Value} {k : Nat} {fa a : Addr} {fd : FuncData} {x : Str} {sp : Sp} {s1 : Shared} {vs : List Value} {ns : List Int}
    (KX : K.In s1.heap) (hns : s1.heap.Ns mainGlobals mg) (hb : s1.heap.Ns builtinsNs mb) (hbb : ∀ x : Str, x ≠ "__name__" → mb x = bootBuiltins x) (hlim : s1.heap.NoLimit) (hg : s1.gens = #[])
    (ha : s1.heap.get? a = some { cls := .type "list", data := .seq vs.toArray }) (hi : IntsAre vs ns) (hl : ns.length ≤ sizeLine) (hr : Room k callerA)
    (F : ∀ base : Heap, K.In base → base.Ns mainGlobals mg → FnG P w K mg base CX0 k fa fd [x] sp) (hbind : ∀ (s : Shared) (u : Value), BindsTo s fd ⟨[u], []⟩ [(x, u)])
    (hsp : ∀ H : Hp, SqL K H a (ns.map V.int) → (∀ b o, H b = some o → ∃ ob u, o = .frz ob u) → sp [.ref a] H (fun v _ => v = .bl true) fun _ _ _ => False) :
    codeAny (model P w) callerA (.call (.ref fa) ⟨[.ref a], []⟩) (fun r s' => r = .ok (.ret (.bool true)) ∧ OldK s1.heap s'.heap ∧ s'.os = s1.os ∧ AllBare s'.gens) s1 := by
  have rv := vals_ints hi
  have lenV := hi.length
  -- the script at a, known to the object, where it is no object of the module; nothing else
  have main : ∀ H : Hp, (∀ b o, H b = some o → b = a ∧ K.lookup a = none ∧ o = .frz { cls := .type "list", data := .seq vs.toArray } (.lst (ns.map V.int))) → SqL K H a (ns.map V.int) →
      codeAny (model P w) callerA (.call (.ref fa) ⟨[.ref a], []⟩) (fun r s' => r = .ok (.ret (.bool true)) ∧ OldK s1.heap s'.heap ∧ s'.os = s1.os ∧ AllBare s'.gens) s1 := by
    intro H hO hS
    have hok : HOk P w H s1.heap := fun b o e => by
      obtain ⟨e1, _, e2⟩ := hO b o e
      subst e1 e2
      exact ⟨ha, by rw [List.length_map]; exact hl, vs, _, rv, ha⟩
    have keep : ∀ {b : Addr} {o : Obj}, s1.heap.get? b = some o → (b = a → False) → (hidT s1.heap H).get? b = some o := fun {b o} e n => hidT_get e (by
      cases q : H b with
      | none => rfl
      | some u => exact (n (hO b u q).1).elim)
    have nsK : ∀ {b : Addr} {m : Str → Option Value}, s1.heap.Ns b m → (hidT s1.heap H).Ns b m := fun {b m} hn => by
      obtain ⟨o, es, ep, e, d, r⟩ := hn
      refine ⟨o, es, ep, keep e fun z => ?_, d, r⟩
      subst z
      rw [ha] at e
      cases e
      cases d
    have hKb : K.In (hidT s1.heap H) := fun b o e => hidT_get (KX b o e) (by
      cases q : H b with
      | none => rfl
      | some u =>
        obtain ⟨e1, e2, _⟩ := hO b u q
        rw [e1, e2] at e
        cases e)
    have hM : Mod K mg (hidT s1.heap H) := ⟨hKb, nsK hns, ⟨mb, nsK hb, hbb⟩, let ⟨mc, h1, h2⟩ := hlim; ⟨mc, nsK h1, h2⟩⟩
    have e0 : Env0 P w K mg (hidT s1.heap H) callerA [] s1 H := ⟨rfl, hM, fun b o e => of_hidT e, Nat.le_of_eq (hidT_size _ _), trivial, fun b hb => absurd (show b ∈ ([] : List Addr) from hb) (by simp), hok, .of_eq hg⟩
    have fr : ∀ b o, H b = some o → ∃ ob u, o = .frz ob u := fun b o e => ⟨_, _, (hO b o e).2.2⟩
    refine codeAny_mono ((F _ hKb (nsK hns)).run callerA [] s1 H ⟨[.ref a], []⟩ [.ref a] [.ref a] _ _ rfl hr e0 (hbind s1 (.ref a)) (.cons rfl .nil) (hsp H hS fr)) fun r s' h => ?_
    match r, h with
    | .error e, h => exact h.elim
    | .ok (.ret u), h =>
      obtain ⟨v, H', os, bare, un, hok', r', q⟩ := h
      have q' : v = .bl true := q
      subst q'
      obtain rfl : u = Value.bool true := r'
      refine ⟨rfl, OldK.of_keep fun b o e => ?_, os, bare⟩
      cases q : H b with
      | none => exact un.keep b o e q (fun z => absurd (show b ∈ ([] : List Addr) from z) (by simp)) (by simp)
      | some u =>
        obtain ⟨e1, _, e2⟩ := hO b u q
        rw [e2] at q
        obtain ⟨f1, _⟩ := hok b _ q
        obtain ⟨f2, _⟩ := hok' b _ (un.frzs b _ _ q)
        rw [e] at f1
        cases f1
        exact f2
  cases hk : K.lookup a with
  | some o =>
    have e := KX a o hk
    rw [ha] at e
    cases e
    exact main (fun _ => none) (fun b u z => by cases (show (none : Option HO) = some u from z)) (.inr ⟨_, vs.toArray, _, hk, rfl, rfl, rfl, by rw [List.size_toArray, lenV]; exact hl, by simpa using rv⟩)
  | none =>
    refine main (fun b => if b = a then some (.frz { cls := .type "list", data := .seq vs.toArray } (.lst (ns.map V.int))) else none) (fun b u z => ?_) (.inl (.inr ⟨_, if_pos rfl⟩))
    by_cases hb : b = a
    · have z' := (if_pos hb).symm.trans z
      cases z'
      exact ⟨hb, hk, rfl⟩
    · have z' := (if_neg hb).symm.trans z
      cases z'
theorem walkG {l : PySem.W.OpenLaw} {n k : Nat} {q : Program} {loose : List Str} {XP : (Str → Option Value) → Heap → Prop} {YP : World → Heap → Prop} {d : DefRec} {K : Params → PySem.W.Frag} {sp : PySem.W.Frag → Sp} {x : Str}
    (hn : l.most = some n) (hn2 : n ≤ sizeLine) (hdf : d.params.defaults = []) (hr : Room k callerA) (hY : ∀ (w : World) (h : Heap), YP w h → (K w.params).In h)
    (F : ∀ (w : World) (mg : Str → Option Value) (fa : Addr) (h : Heap), (K w.params).In h → h.Ns mainGlobals mg → mg d.name = some (.ref fa) →
      ∃ fd : FuncData, (∀ (s : Shared) (u : Value), BindsTo s fd ⟨[u], []⟩ [(x, u)]) ∧ ∀ base : Heap, (K w.params).In base → base.Ns mainGlobals mg → FnG l.prog w (K w.params) mg base CX0 k fa fd [x] (sp (K w.params)))
    (hsp : ∀ (K : PySem.W.Frag) (H : Hp) (a : Addr) (ns : List Int), ns.length ≤ n → SqL K H a (ns.map V.int) → (∀ b o, H b = some o → ∃ ob u, o = .frz ob u) → sp K [.ref a] H (fun v _ => v = .bl true) fun _ _ _ => False) :
    PySem.W.WalkO q loose XP YP l.row.toRowW d [] (fun f vs => PySem.call f vs) := by
  refine Att.attach_call hn hdf fun w s₀ s1 mg mb fa o pm cd doc a vs ns G Y ho hd hcd hmg hobj hints hlen hg => ?_
  have KX := hY w _ Y
  obtain ⟨fd, hb, hF⟩ := F w mg fa _ KX G.T.g hmg
  exact lawG KX G.T.g G.T.b G.T.builtins G.T.nolimit hg hobj hints (Nat.le_trans hlen hn2) hr hF hb fun H hS hO => hsp (K w.params) H a ns hlen hS hO
end KX

set_option maxRecDepth 100000
set_option maxHeartbeats 4000000
namespace KX
open PySem PySem.Spec PyProof.Rows L2
section
variable {X : Cx}
/-- == and != of data without dicts -/
def rEqP (K : PySem.W.Frag) (f : Bool → Bool) : R2 := fun x y H Q => ∃ d e, Dp K H x d ∧ Dp K H y e ∧ d.plain = true ∧ e.plain = true ∧ min d.depth e.depth ≤ 64 ∧ Q (.bl (f (PyData.eqv d e))) H
theorem op_eqP (hu : X.A.units + 64 < cLine) : OpR X (compareOp .Eq) (rEqP X.K id) := by
  intro pins s σ H x y v u Q I rx ry h
  obtain ⟨d, e, hd, he, pd, pe, hm, q⟩ := h
  obtain ⟨as, r1⟩ := Dp.reads I d x v hd rx
  obtain ⟨bs, r2⟩ := Dp.reads I e y u he ry
  exact SeqAt.eq_plain r1 r2 pd pe (by omega) ⟨.bl _, H, I, rfl, q⟩
theorem op_neP (hu : X.A.units + 64 < cLine) : OpR X (compareOp .NotEq) (rEqP X.K not) := by
  intro pins s σ H x y v u Q I rx ry h
  obtain ⟨d, e, hd, he, pd, pe, hm, q⟩ := h
  obtain ⟨as, r1⟩ := Dp.reads I d x v hd rx
  obtain ⟨bs, r2⟩ := Dp.reads I e y u he ry
  exact SeqAt.ne_plain r1 r2 pd pe (by omega) ⟨.bl _, H, I, rfl, q⟩
end
/-- a list of ones against the empty list -/
theorem dp_ints {K : PySem.W.Frag} {H : Hp} : ∀ (ns : List Int), DpAll K H (ns.map V.int) (ns.map PyData.int)
  | [] => .nil
  | n :: ns => .cons (.int n) (dp_ints ns)
theorem dp_strs {K : PySem.W.Frag} {H : Hp} : ∀ (ns : List Str), DpAll K H (ns.map V.str) (ns.map PyData.str)
  | [] => .nil
  | n :: ns => .cons (.str n) (dp_strs ns)
theorem pl_ints : ∀ ns : List Int, PyData.plainAll (ns.map PyData.int) = true
  | [] => rfl
  | n :: ns => by simp [PyData.plainAll, PyData.plain, pl_ints ns]
theorem pl_strs : ∀ ns : List Str, PyData.plainAll (ns.map PyData.str) = true
  | [] => rfl
  | n :: ns => by simp [PyData.plainAll, PyData.plain, pl_strs ns]
theorem eqv_nil (ds : List PyData) : PyData.eqv (.list ds) (.list []) = ds.isEmpty := by
  cases ds <;> simp [PyData.eqv, PyData.eqvAll]
theorem min_nil (d : PyData) : min d.depth (PyData.list []).depth ≤ 64 := by
  have : (PyData.list []).depth ≤ 64 := by decide
  omega
end KX

set_option maxRecDepth 100000
set_option maxHeartbeats 4000000
namespace KX
open PySem PySem.Spec PyProof.Rows L2
/-! ### how great data are -/
/-- {} and {text: int} -/
def fineK (B : Nat) : List (PyData × PyData) → Bool
  | [] => true
  | [(.str x, .int i)] => (x.cps.toList.all fun c => decide (c < 128)) && decide (x.length ≤ 20) && decide (i.natAbs ≤ B)
  | _ => false
theorem fineK_is {B : Nat} {kvs : List (PyData × PyData)} (h : fineK B kvs = true) : kvs = [] ∨ ∃ x i, kvs = [(.str x, .int i)] ∧ (∀ c ∈ x.cps.toList, c < 128) ∧ x.length ≤ 20 ∧ i.natAbs ≤ B := by
  unfold fineK at h
  split at h
  · exact .inl rfl
  · rename_i x i
    simp only [Bool.and_eq_true, decide_eq_true_eq, List.all_eq_true] at h
    exact .inr ⟨x, i, rfl, h.1.1, h.1.2, h.2⟩
  · cases h
mutual
/-- ints within B, texts of plain signs, no dict but {} and {text: int} -/
def fine (B : Nat) : PyData → Bool
  | .none => true
  | .bool _ => true
  | .int i => decide (i.natAbs ≤ B)
  | .str x => x.cps.toList.all fun c => decide (c < 128)
  | .list xs => fineAll B xs
  | .tuple xs => fineAll B xs
  | .dict kvs => fineK B kvs
def fineAll (B : Nat) : List PyData → Bool
  | [] => true
  | x :: xs => fine B x && fineAll B xs
end
mutual
def wt : PyData → Nat
  | .str x => x.length + 1
  | .list xs => wtAll xs + 1
  | .tuple xs => wtAll xs + 1
  | _ => 1
def wtAll : List PyData → Nat
  | [] => 0
  | x :: xs => wt x + wtAll xs
end
theorem fineAll_app (B : Nat) : ∀ xs ys, fineAll B (xs ++ ys) = (fineAll B xs && fineAll B ys)
  | [], ys => by simp [fineAll]
  | x :: xs, ys => by simp [fineAll, fineAll_app B xs ys, Bool.and_assoc]
theorem wtAll_app : ∀ xs ys, wtAll (xs ++ ys) = wtAll xs + wtAll ys
  | [], ys => by simp [wtAll]
  | x :: xs, ys => by simp [wtAll, wtAll_app xs ys, Nat.add_assoc]
theorem fineAll_mem {B : Nat} : ∀ {xs : List PyData}, fineAll B xs = true ↔ ∀ x ∈ xs, fine B x = true
  | [] => by simp [fineAll]
  | x :: xs => by simp [fineAll, fineAll_mem (xs := xs)]
theorem wt_mem : ∀ {xs : List PyData} {x : PyData}, x ∈ xs → wt x ≤ wtAll xs
  | y :: xs, x, h => by
    rcases List.mem_cons.mp h with rfl | h
    · simp [wtAll]
    · have := wt_mem h
      simp [wtAll]
      omega
theorem wtAll_take (n : Nat) : ∀ xs, wtAll (xs.take n) + wtAll (xs.drop n) = wtAll xs := fun xs => by
  rw [← wtAll_app, List.take_append_drop]
theorem wtAll_rev : ∀ xs, wtAll xs.reverse = wtAll xs
  | [] => rfl
  | x :: xs => by
    rw [List.reverse_cons, wtAll_app, wtAll_rev xs]
    simp [wtAll]
    omega
theorem len_wt : ∀ xs : List PyData, xs.length ≤ wtAll xs
  | [] => Nat.zero_le _
  | x :: xs => by
    have := len_wt xs
    have h : 1 ≤ wt x := by cases x <;> simp [wt]
    simp [wtAll]
    omega
mutual
theorem fine_le {B C : Nat} (h : B ≤ C) : ∀ d : PyData, fine B d = true → fine C d = true
  | .none, _ => by simp [fine]
  | .bool _, _ => by simp [fine]
  | .int i, q => by simp [fine] at q ⊢; omega
  | .str x, q => by simpa [fine] using q
  | .list xs, q => by simp only [fine] at q ⊢; exact fineAll_le h xs q
  | .tuple xs, q => by simp only [fine] at q ⊢; exact fineAll_le h xs q
  | .dict kvs, q => by
    rcases fineK_is (show fineK B kvs = true from q) with rfl | ⟨x, i, rfl, h1, h2, h3⟩
    · rfl
    · show fineK C [(.str x, .int i)] = true
      simp only [fineK, Bool.and_eq_true, decide_eq_true_eq, List.all_eq_true]
      exact ⟨⟨h1, h2⟩, by omega⟩
theorem fineAll_le {B C : Nat} (h : B ≤ C) : ∀ ds : List PyData, fineAll B ds = true → fineAll C ds = true
  | [], _ => by simp [fineAll]
  | x :: xs, q => by
    simp only [fineAll, Bool.and_eq_true] at q ⊢
    exact ⟨fine_le h x q.1, fineAll_le h xs q.2⟩
end
theorem piled_cons' (t : Str) (r : List Str) : piled (t :: r) = t.length + 2 + piled r := by
  rw [piled_cons]
theorem listText_le (ts : List Str) : (listText ts).length ≤ piled ts + 2 := by
  unfold listText
  rw [strLen_append]
  cases ts with
  | nil => show 1 + 1 ≤ _; simp [piled]
  | cons t r =>
    show (textFrom 1 ((("[" : Str) ++ ("" : Str)) ++ t) r).length + 1 ≤ _
    rw [textFrom_length_pos _ _ _ (by decide), strLen_append, strLen_append, piled_cons']
    show 1 + 0 + t.length + piled r + 1 ≤ _
    omega
theorem tupleText_le (ts : List Str) : (tupleText ts).length ≤ piled ts + 3 := by
  unfold tupleText
  rw [strLen_append, strLen_append]
  have h2 : ((if ts.length == 1 then ",)" else ")" : String) : Str).length ≤ 2 := by
    split <;> decide
  have h1 : (("(" : Str)).length = 1 := rfl
  by_cases h : ts = []
  · subst h
    have : (Str.join ", " ([] : List Str)).length = 0 := rfl
    omega
  · have := join_length_add ts h
    omega
mutual
theorem shown_le {B : Nat} (hB : B < 10 ^ 400) : ∀ d : PyData, fine B d = true → d.shown.length + 10 ≤ 1000 * wt d
  | .none, _ => by simp only [PyData.shown]; show 4 + 10 ≤ 1000 * 1; decide
  | .bool b, _ => by cases b <;> simp only [PyData.shown] <;> decide
  | .int i, q => by
    have q : i.natAbs ≤ B := by simpa [fine] using q
    have h : (toString i).length ≤ 400 + 1 := PySem.int_text_length_le10 (a := i) (k := 400) (by decide) (by omega)
    simp only [PyData.shown, wt]
    have e : (Str.ofString (toString i)).length = (toString i).length := PySem.ofString_length _
    show (Str.ofString (toString i)).length + 10 ≤ _
    omega
  | .str x, q => by
    have q : ∀ c ∈ x.cps.toList, c < 128 := by
      have q : (x.cps.toList.all fun c => decide (c < 128)) = true := q
      intro c hc
      exact of_decide_eq_true (List.all_eq_true.mp q c hc)
    have h := PySem.StrLaws.reprText_len x fun c hc => Nat.lt_trans (q c hc) (by decide)
    simp only [PyData.shown, wt]
    omega
  | .list xs, q => by
    have q : fineAll B xs = true := by simpa only [fine] using q
    have h1 := listText_le (PyData.shownAll xs)
    have h2 := shownAll_le hB xs q
    simp only [PyData.shown, wt]
    omega
  | .tuple xs, q => by
    have q : fineAll B xs = true := by simpa only [fine] using q
    have h1 := tupleText_le (PyData.shownAll xs)
    have h2 := shownAll_le hB xs q
    simp only [PyData.shown, wt]
    omega
  | .dict kvs, q => by
    rcases fineK_is (show fineK B kvs = true from q) with rfl | ⟨x, i, rfl, h1, h2, h3⟩
    · simp only [PyData.shown, PyData.shownKv]
      show (2 : Nat) + 10 ≤ 1000 * 1
      decide
    · have h := PySem.StrLaws.reprText_len x fun c hc => Nat.lt_trans (h1 c hc) (by decide)
      have h5 : (toString i).length ≤ 400 + 1 := PySem.int_text_length_le10 (a := i) (k := 400) (by decide) (by omega)
      have e : (Str.ofString (toString i)).length = (toString i).length := PySem.ofString_length _
      have h6 := dictText_len_le (PyData.shownKv [(.str x, .int i)])
      simp only [PyData.shown, PyData.shownKv, wt, List.map_cons, List.map_nil, List.sum_cons, List.sum_nil, List.length_cons, List.length_nil, strLen_append] at h6 ⊢
      have e2 : ((": " : Str)).length = 2 := rfl
      have e3 : (Str.ofString (toString i)).length ≤ 401 := by omega
      change _ ≤ (reprText x).length + (": " : Str).length + (Str.ofString (toString i)).length + 0 + 2 * (0 + 1) + 3 at h6
      omega
theorem shownAll_le {B : Nat} (hB : B < 10 ^ 400) : ∀ ds : List PyData, fineAll B ds = true → piled (PyData.shownAll ds) ≤ 1000 * wtAll ds
  | [], _ => by simp [PyData.shownAll, piled]
  | x :: xs, q => by
    simp only [fineAll, Bool.and_eq_true] at q
    have h1 := shown_le hB x q.1
    have h2 := shownAll_le hB xs q.2
    simp only [PyData.shownAll, wtAll]
    rw [piled_cons']
    have h : 1 ≤ wt x := by cases x <;> simp [wt]
    omega
end
end KX
namespace KX
open PySem PySem.Spec PyProof.Rows L2
theorem log_of_fine {B : Nat} (hB : B < 10 ^ 400) {i : Int} (h : i.natAbs ≤ B) : i.natAbs.log2 < 1920 := by
  by_cases z : i.natAbs = 0
  · rw [z]; decide
  · refine (Nat.log2_lt z).mpr ?_
    have : (10 : Nat) ^ 400 < 2 ^ 1920 := by decide +kernel
    omega
mutual
theorem showable_fine {B : Nat} (hB : B < 10 ^ 400) : ∀ d : PyData, fine B d = true → d.showable = true
  | .none, _ => by simp only [PyData.showable]
  | .bool b, _ => by simp only [PyData.showable]
  | .int i, q => by
    have q : i.natAbs ≤ B := by simpa [fine] using q
    simp only [PyData.showable]
    exact decide_eq_true (log_of_fine hB q)
  | .str x, _ => by simp only [PyData.showable]
  | .list xs, q => by
    simp only [PyData.showable]
    exact showableAll_fine hB xs (by simpa only [fine] using q)
  | .tuple xs, q => by
    simp only [PyData.showable]
    exact showableAll_fine hB xs (by simpa only [fine] using q)
  | .dict kvs, q => by
    rcases fineK_is (show fineK B kvs = true from q) with rfl | ⟨x, i, rfl, h1, h2, h3⟩
    · simp only [PyData.showable, PyData.showableKv]
    · simp only [PyData.showable, PyData.showableKv, Bool.and_true, Bool.true_and]
      exact decide_eq_true (log_of_fine hB h3)
theorem showableAll_fine {B : Nat} (hB : B < 10 ^ 400) : ∀ ds : List PyData, fineAll B ds = true → PyData.showableAll ds = true
  | [], _ => by simp only [PyData.showableAll]
  | x :: xs, q => by
    simp only [fineAll, Bool.and_eq_true] at q
    simp only [PyData.showableAll, showable_fine hB x q.1, showableAll_fine hB xs q.2, Bool.and_self]
end
mutual
theorem depth_wt {B : Nat} : ∀ d : PyData, fine B d = true → d.depth ≤ wt d
  | .none, _ => by simp [PyData.depth]
  | .bool b, _ => by simp [PyData.depth]
  | .int i, _ => by simp [PyData.depth]
  | .str x, _ => by simp [PyData.depth]
  | .list xs, q => by
    have := depthAll_wt xs (B := B) (by simpa only [fine] using q)
    simp only [PyData.depth, wt]
    omega
  | .tuple xs, q => by
    have := depthAll_wt xs (B := B) (by simpa only [fine] using q)
    simp only [PyData.depth, wt]
    omega
  | .dict kvs, q => by
    rcases fineK_is (show fineK B kvs = true from q) with rfl | ⟨x, i, rfl, h1, h2, h3⟩ <;> simp [PyData.depth, PyData.depthKv, wt]
theorem depthAll_wt {B : Nat} : ∀ ds : List PyData, fineAll B ds = true → PyData.depthAll ds ≤ wtAll ds
  | [], _ => by simp [PyData.depthAll]
  | x :: xs, q => by
    simp only [fineAll, Bool.and_eq_true] at q
    have h1 := depth_wt x q.1
    have h2 := depthAll_wt xs q.2
    simp only [PyData.depthAll, wtAll]
    omega
end
/-- data that can be shown -/
structure Good (B n : Nat) (d : PyData) : Prop where
  f : fine B d = true
  w : wt d ≤ n
theorem Good.show {B n : Nat} {d : PyData} (g : Good B n d) (hB : B < 10 ^ 400) (hn : n ≤ 100) : d.showable = true ∧ d.depth ≤ 100 ∧ d.shown.length ≤ sizeLine := by
  have h1 := depth_wt d g.f
  have h2 := shown_le hB d g.f
  have h3 := g.w
  refine ⟨showable_fine hB d g.f, by omega, ?_⟩
  rw [sizeLine_eq]
  omega
theorem Good.mono {B n B' n' : Nat} {d : PyData} (g : Good B n d) (h : B ≤ B') (h' : n ≤ n') : Good B' n' d := ⟨fine_le h d g.f, Nat.le_trans g.w h'⟩
/-- new objects beside a stream -/
def hid (l : Addr) (H : Hp) : Hp := fun b => if b = l then none else H b
theorem hid_at {l b : Addr} {H : Hp} (h : b ≠ l) : hid l H b = H b := if_neg h
theorem hid_some {l b : Addr} {H : Hp} {o : HO} (h : hid l H b = some o) : b ≠ l ∧ H b = some o := by
  unfold hid at h
  split at h
  · cases h
  · exact ⟨by assumption, h⟩
/-- all but what stands at l is as it was -/
def Keep (l : Addr) (H H' : Hp) : Prop := ∀ b o, b ≠ l → H b = some o → H' b = some o
theorem Keep.same {l : Addr} {H H' : Hp} (k : Keep l H H') : Same (hid l H) (hid l H') := fun b o e => by
  obtain ⟨n, e⟩ := hid_some e
  rw [hid_at n]
  exact k b o n e
theorem Keep.refl (l : Addr) (H : Hp) : Keep l H H := fun _ _ _ e => e
theorem Keep.trans {l : Addr} {H H1 H2 : Hp} (a : Keep l H H1) (b : Keep l H1 H2) : Keep l H H2 := fun c o n e => b c o n (a c o n e)
theorem Keep.of {l : Addr} {H H' : Hp} (s : Same H H') : Keep l H H' := fun b o _ e => s b o e
theorem Keep.at {l : Addr} {H : Hp} {o : HO} : Keep l H (upd H l o) := fun b u n e => by rw [upd_ne n]; exact e
theorem Keep.new {l p : Addr} {H H' : Hp} {o : HO} (k : Keep l H H') (n : H' p = none) : Keep l H (upd H' p o) := k.trans (Keep.of fun b u e => by rw [upd_ne (ne_of_none e n)]; exact e)
theorem Keep.upd {l : Addr} {H H' : Hp} {o : HO} (k : Keep l H H') : Keep l H (upd H' l o) := k.trans Keep.at
theorem hid_same (l : Addr) (H : Hp) : Same (hid l H) H := fun b o e => (hid_some e).2
/-- a stream stands at l -/
def StO (H : Hp) (l : Addr) : Prop := ∃ a b c : Int, H l = some (.lst [.int a, .int b, .int c])
theorem StO.ne {l p : Addr} {H : Hp} (h : StO H l) (n : H p = none) : p ≠ l := by
  obtain ⟨a, b, c, e⟩ := h
  exact (ne_of_none e n).symm
theorem StO.new {l p : Addr} {H : Hp} {o : HO} (h : StO H l) (n : H p = none) : StO (upd H p o) l := by
  obtain ⟨a, b, c, e⟩ := id h
  exact ⟨a, b, c, by rw [upd_ne (h.ne n).symm]; exact e⟩
theorem StO.same {l : Addr} {H H' : Hp} (h : StO H l) (s : Same H H') : StO H' l := by
  obtain ⟨a, b, c, e⟩ := h
  exact ⟨a, b, c, s _ _ e⟩
theorem hnew {l p : Addr} {H : Hp} {o : HO} (n : H p = none) : Same (hid l H) (hid l (L2.upd H p o)) := ((Keep.refl l H).new n).same
theorem dx_tup {l p : Addr} {H : Hp} {xs : List V} {ds : List PyData} (n : H p = none) (st : StO H l) (h : Dxs (hid l H) xs ds) : Dx (hid l (L2.upd H p (.tup xs))) (.ref p) (.tuple ds) :=
  .tup (by rw [hid_at (st.ne n)]; exact upd_same) (h.up (hnew n))
theorem dx_lst {l p : Addr} {H : Hp} {xs : List V} {ds : List PyData} (n : H p = none) (z : p ≠ sysModules) (st : StO H l) (h : Dxs (hid l H) xs ds) : Dx (hid l (L2.upd H p (.lst xs))) (.ref p) (.list ds) :=
  .lst (by rw [hid_at (st.ne n)]; exact upd_same) z (h.up (hnew n))
theorem dx_dic1 {l p : Addr} {H : Hp} {x : Str} {i : Int} (n : H p = none) (st : StO H l) : Dx (hid l (L2.upd H p (.dK [(.inr x, .int i)]))) (.ref p) (.dict [(.str x, .int i)]) :=
  .dic1 (by rw [hid_at (st.ne n)]; exact upd_same)
theorem dx_dic {l p : Addr} {H : Hp} (n : H p = none) (st : StO H l) : Dx (hid l (L2.upd H p (.dK []))) (.ref p) (.dict []) :=
  .dic (by rw [hid_at (st.ne n)]; exact upd_same)
end KX

set_option maxRecDepth 100000
set_option maxHeartbeats 4000000
namespace KX
open PySem PySem.Spec PyProof.Rows L2
open PySem.W (AllAlike Sortable EachIs dataLe)
theorem each_pairs {β : Type} {R : Value → β → Prop} : ∀ {us : List Value} {bs : List β}, (us.length = bs.length) → (∀ (i : Nat) u b, us[i]? = some u → bs[i]? = some b → R u b) → EachIs R us bs
  | [], [], _, _ => .nil
  | u :: us, b :: bs, hl, h => .cons (h 0 u b rfl rfl) (each_pairs (by simpa using hl) fun i u b e f => h (i + 1) u b (by simpa using e) (by simpa using f))
  | [], _ :: _, hl, _ => by simp at hl
  | _ :: _, [], hl, _ => by simp at hl
section
variable {X : Cx}
/-- sorted(xs), xs alike data -/
def rSortE {β : Type} (K : PySem.W.Frag) (enc : β → PyData) : List V → Hp → VK → Prop := fun vs H Q => ∃ (a : Addr) (bs : List (V × β)), vs = [.ref a] ∧ SqL K H a (bs.map (·.1)) ∧ (∀ b ∈ bs, Dp K H b.1 (enc b.2)) ∧ AllAlike (bs.map fun b => enc b.2) ∧ Sortable (bs.map fun b => enc b.2) ∧
  (∀ b ∈ bs, (enc b.2).depth ≤ 50) ∧ ∀ p, H p = none → Q (.ref p) (L2.upd H p (.lst ((bs.mergeSort (dataLe false fun b => enc b.2)).map (·.1))))
theorem cr_sortE {β : Type} {enc : β → PyData} {k : Nat} (hr : Room k X.A) : CallR X (.builtin "sorted") (rSortE X.K enc) := by
  intro pins s σ H vs us Q I r h
  obtain ⟨a, bs, e, hS, hd, hal, hk, hu, q⟩ := h
  subst e
  obtain ⟨u, rfl, ru⟩ := vals1 r
  cases ru
  obtain ⟨its, rv, pl, hz⟩ := I.list hS
  have hlen := rv.length
  rw [List.length_map] at hlen hz
  have er : EachIs (fun v (b : V × β) => ∃ as, Reads s.heap v (enc b.2) as) its bs := each_pairs (by omega) fun i u b e f => by
    obtain ⟨u', e', ru⟩ := rv.get (i := i) (x := b.1) (by rw [List.getElem?_map, f]; rfl)
    rw [e] at e'
    cases e'
    exact Dp.reads I (enc b.2) b.1 u (hd b (List.mem_of_getElem? f)) ru
  have eR : EachIs (fun v (b : V × β) => RelV b.1 v) its bs := each_pairs (by omega) fun i u b e f => by
    obtain ⟨u', e', ru⟩ := rv.get (i := i) (x := b.1) (by rw [List.getElem?_map, f]; rfl)
    rw [e] at e'
    cases e'
    exact ru
  have hun := hr.un
  refine PySem.W.sorted_data (enc := fun b : V × β => enc b.2) pl.isList eR er hal hk (by omega) (fun b hb => by have := hu b hb; omega) fun out hl he => ?_
  obtain ⟨c, hc⟩ := PyProof.Rows.sortedAll_at s.heap its out.toArray
  have rel : ∀ {ws : List Value} {ps : List (V × β)}, EachIs (fun v (b : V × β) => RelV b.1 v) ws ps → Vals (ps.map (·.1)) ws := by
    intro ws ps e
    induction e with
    | nil => exact .nil
    | cons h t ih => exact .cons h ih
  have keep : ∀ b o, s.heap.get? b = some o → (PyProof.Rows.sortedAll s.heap its out.toArray).get? b = some o := fun _ _ => PyProof.Rows.sortedAll_old
  refine ⟨.ref (s.heap.objs.size + 1), _, I.laid (t' := s.toks) keep (Nat.le_succ _) (o := .lst ((bs.mergeSort (dataLe false fun b => enc b.2)).map (·.1))) ⟨?_, out, c, rel he, hc⟩, rfl, q _ (I.hok.fresh (Nat.le_succ _))⟩
  rw [List.length_map, List.length_mergeSort]
  omega
end
mutual
/-- without dicts: the layer's own data -/
theorem dp_dx {K : PySem.W.Frag} {H : Hp} : ∀ (d : PyData) (v : V), d.plain = true → Dx H v d → Dp K H v d
  | .none, _, _, h => by cases h; exact .non
  | .bool b, _, _, h => by cases h; exact .bl b
  | .int i, _, _, h => by cases h; exact .int i
  | .str x, _, _, h => by cases h; exact .str x
  | .list ds, _, p, h => by
    cases h with
    | lst e n h => exact .lst (.inl (.inl e)) (dps_dx ds _ (by simpa [PyData.plain] using p) h)
  | .tuple ds, _, p, h => by
    cases h with
    | tup e h => exact .tup (.inl (.inl e)) (dps_dx ds _ (by simpa [PyData.plain] using p) h)
  | .dict ks, _, p, _ => by simp [PyData.plain] at p
theorem dps_dx {K : PySem.W.Frag} {H : Hp} : ∀ (ds : List PyData) (vs : List V), PyData.plainAll ds = true → Dxs H vs ds → DpAll K H vs ds
  | [], _, _, h => by cases h; exact .nil
  | d :: ds, _, p, h => by
    have p' : d.plain = true ∧ PyData.plainAll ds = true := by simpa [PyData.plainAll] using p
    cases h with
    | cons h t => exact .cons (dp_dx d _ p'.1 h) (dps_dx ds _ p'.2 t)
end
end KX

set_option maxRecDepth 100000
set_option maxHeartbeats 4000000
namespace KX
open PySem PySem.Spec PyProof.Rows L2
section
variable {X : Cx}
/-- text * 0, text * 1 -/
theorem op_mul_s : OpR X (binaryOp .Mult) (fun x y H Q => ∃ (z : Str) (n : Int), x = .str z ∧ y = .int n ∧ (n = 0 ∨ n = 1) ∧ Q (.str (if n = 1 then z else "")) H) := by
  intro pins s σ H x y v u Q I rx ry h
  obtain ⟨z, n, rfl, rfl, hn, q⟩ := h
  obtain ⟨t, rfl⟩ := rx
  obtain ⟨t', rfl⟩ := ry
  have ok : MulOk z n := by
    rcases hn with rfl | rfl
    · exact ⟨by decide, fun h => absurd (by decide) h, fun h => absurd (by decide) h⟩
    · exact ⟨by decide, fun _ h => by simp at h, fun _ h => by simp at h⟩
  have e : Txt.mul z n = (if n = 1 then z else "") := by
    rcases hn with rfl | rfl
    · rfl
    · simp [Txt.mul]
  refine SB.mul ok fun t1 k => ?_
  rw [e]
  exact ⟨.str _, H, I.tok _, ⟨_, rfl⟩, q⟩
end
end KX

set_option maxRecDepth 100000
set_option maxHeartbeats 4000000
namespace KX
open PySem PySem.Spec PyProof.Rows L2
section
variable {X : Cx}
/-- t != (), t any tuple -/
def rNe0 (K : PySem.W.Frag) : R2 := fun x y H Q => ∃ a b xs, x = .ref a ∧ y = .ref b ∧ SqT K H a xs ∧ SqT K H b [] ∧ Q (.bl (!xs.isEmpty)) H
theorem op_ne0 (hu : X.A.units < cLine) : OpR X (compareOp .NotEq) (rNe0 X.K) := by
  intro pins s σ H x y v u Q I rx ry h
  obtain ⟨a, b, xs, rfl, rfl, ha, hb, q⟩ := h
  cases rx
  cases ry
  obtain ⟨its, r1, p1, _⟩ := I.tuple ha
  obtain ⟨its2, r2, p2, _⟩ := I.tuple hb
  cases r2
  have e : (!((List.range (min its.toArray.size ([] : List Value).toArray.size)).all (fun _ => true) && its.toArray.size == ([] : List Value).toArray.size)) = !xs.isEmpty := by
    have := r1.length
    cases xs with
    | nil =>
      cases its with
      | nil => rfl
      | cons _ _ => simp at this
    | cons _ _ =>
      cases its with
      | nil => simp at this
      | cons _ _ => simp
  refine SeqAt.RcNeAt.tuples (e := fun _ => true) p1 p2 hu (fun j h1 h2 => absurd h2 (by simp)) X.prog X.w X.xe (EP X pins σ Q) ?_
  rw [e]
  exact ⟨.bl _, H, I, rfl, q⟩
end
/-! ### tuples of data, whatever object holds them -/
def cutD (ds : List PyData) (lo hi : Option Int) : List PyData := (ds.drop (HT.sIx ds.length 0 lo)).take (HT.sIx ds.length ds.length hi - HT.sIx ds.length 0 lo)
theorem cutD_to (ds : List PyData) (k : Nat) : cutD ds none (some (k : Int)) = ds.take k := by
  unfold cutD
  rw [HT.sIx_none, HT.sIx_nat, List.drop_zero, Nat.sub_zero]
  by_cases h : k ≤ ds.length
  · rw [Nat.min_eq_left h]
  · rw [Nat.min_eq_right (by omega), List.take_length, List.take_of_length_le (by omega)]
theorem cutD_from (ds : List PyData) (k : Nat) : cutD ds (some (k : Int)) none = ds.drop k := by
  unfold cutD
  rw [HT.sIx_none, HT.sIx_nat]
  by_cases h : k ≤ ds.length
  · rw [Nat.min_eq_left h]
    exact List.take_of_length_le (by rw [List.length_drop]; exact Nat.le_refl _)
  · rw [Nat.min_eq_right (by omega), Nat.sub_self, List.take_zero, List.drop_of_length_le (by omega)]
theorem cutD_one (ds : List PyData) (k : Nat) : cutD ds (some (k : Int)) (some ((k : Int) + 1)) = (ds.drop k).take 1 := by
  unfold cutD
  rw [show ((k : Int) + 1) = ((k + 1 : Nat) : Int) by omega, HT.sIx_nat, HT.sIx_nat]
  by_cases h : k < ds.length
  · rw [Nat.min_eq_left (by omega), Nat.min_eq_left (by omega), Nat.add_sub_cancel_left]
  · rw [Nat.min_eq_right (by omega), Nat.min_eq_right (by omega), Nat.sub_self, List.take_zero, List.drop_of_length_le (by omega)]
    rfl
theorem dxs_cut {H : Hp} {xs : List V} {ds : List PyData} (h : Dxs H xs ds) (lo hi : Option Int) : Dxs H (cutV xs lo hi) (cutD ds lo hi) := by
  unfold cutV cutD
  rw [h.len]
  exact (h.drop _).take _
theorem dx_sqT {K : PySem.W.Frag} {H : Hp} {l a : Addr} {ds : List PyData} (h : Dx (hid l H) (.ref a) (.tuple ds)) : ∃ xs, SqT K H a xs ∧ Dxs (hid l H) xs ds := by
  cases h with
  | @tup a xs _ e h => exact ⟨xs, .inl (.inl (hid_some e).2), h⟩
theorem dx_tupOf {H : Hp} {l : Addr} {v : V} {ds : List PyData} (h : Dx (hid l H) v (.tuple ds)) : ∃ a xs, v = .ref a ∧ a ≠ l ∧ H a = some (.tup xs) ∧ Dxs (hid l H) xs ds := by
  cases h with
  | @tup a xs _ e h => exact ⟨a, xs, rfl, (hid_some e).1, (hid_some e).2, h⟩
section
variable {K : PySem.W.Frag} {H : Hp} {l a b : Addr} {ds es : List PyData} {Q : VK}
theorem sl_of {lo hi : Option Int} {v : V} (hd : Dx (hid l H) v (.tuple ds)) (st : StO H l) (q : ∀ H' p, Keep l H H' → StO H' l → Dx (hid l H') (.ref p) (.tuple (cutD ds lo hi)) → Q (.ref p) H') : rSlA K v lo hi H Q := by
  obtain ⟨a, xs, rfl, na, ea, h⟩ := dx_tupOf hd
  refine ⟨a, xs, rfl, .inl (.inl ea), fun hw => q H a (Keep.refl l H) st ?_, fun _ p np => q _ p ((Keep.refl l H).new np) (st.new np) (dx_tup np st (dxs_cut h lo hi))⟩
  have : cutD ds lo hi = ds := by
    unfold cutD
    rw [← h.len, hw.1, hw.2, List.drop_zero, Nat.sub_zero, List.take_of_length_le (by rw [h.len]; exact Nat.le_refl _)]
  rw [this]
  exact hd
theorem cat_of {v u : V} (hd : Dx (hid l H) v (.tuple ds)) (he : Dx (hid l H) u (.tuple es)) (st : StO H l) (hz : ds.length + es.length ≤ sizeLine)
    (q : ∀ H' p, Keep l H H' → StO H' l → Dx (hid l H') (.ref p) (.tuple (ds ++ es)) → Q (.ref p) H') : rCatA K v u H Q := by
  obtain ⟨a, xs, rfl, na, ea, h⟩ := dx_tupOf hd
  obtain ⟨b, ys, rfl, nb, eb, h2⟩ := dx_tupOf he
  have l1 := h.len
  have l2 := h2.len
  refine ⟨a, b, xs, ys, rfl, rfl, .inl (.inl ea), .inl (.inl eb), by omega, fun z => ?_, fun _ z => ?_, fun _ _ p np => q _ p ((Keep.refl l H).new np) (st.new np) (dx_tup np st (h.app h2))⟩
  · subst z
    have : ds = [] := List.eq_nil_of_length_eq_zero (by simpa using l1.symm)
    subst this
    exact q H b (Keep.refl l H) st he
  · subst z
    have : es = [] := List.eq_nil_of_length_eq_zero (by simpa using l2.symm)
    subst this
    rw [List.append_nil] at q
    exact q H a (Keep.refl l H) st hd
end
end KX

set_option maxRecDepth 100000
set_option maxHeartbeats 4000000
namespace KX
open PySem PySem.Spec PyProof.Rows L2
/-! ### expressions that make data -/
def tD (d : PyData) : TE := fun _ H Q => ∀ H' v, Same H H' → Dx H' v d → Q v H'
def tDs (ds : List PyData) : TA := fun _ H Q => ∀ H' vs, Same H H' → Dxs H' vs ds → Q vs H'
/-- a new list of data -/
def tL (ds : List PyData) : TE := fun _ H Q => ∀ H' p xs, Same H H' → H p = none → H' p = some (.lst xs) → Dxs H' xs ds → Q (.ref p) H'
section
variable {X : Cx} {e : Expr} {es : List Expr} {pos : Pos} {d : PyData} {ds : List PyData}
theorem PE.imp {t t' : TE} (h : PE X e t) (i : ∀ σ H Q, t' σ H Q → t σ H Q) : PE X e t' := ⟨fun pins s σ H Q I q => h.run pins s σ H Q I (i σ H Q q)⟩
theorem PA.imp {t t' : TA} (h : PA X es t) (i : ∀ σ H Q, t' σ H Q → t σ H Q) : PA X es t' := ⟨fun pos pins s σ H Q I q => h.run pos pins s σ H Q I (i σ H Q q)⟩
theorem pd_int {i : Int} {j} : PE X (.Constant (.int i) j pos) (tD (.int i)) := PE.imp pe_int fun _ H Q q => q H _ (Same.refl H) (.int i)
theorem pd_str {x : Str} {j} : PE X (.Constant (.str x) j pos) (tD (.str x)) := PE.imp pe_str fun _ H Q q => q H _ (Same.refl H) (.str x)
theorem pd_bl {b : Bool} {j} : PE X (.Constant (.bool b) j pos) (tD (.bool b)) := PE.imp pe_bl fun _ H Q q => q H _ (Same.refl H) (.bl b)
theorem pd_val {t : TE} {i : Int} (h : PE X e t) (hv : ∀ (σ : L2.St) (H : Hp) (Q : VK), Q (.int i) H → t σ H Q) : PE X e (tD (.int i)) := PE.imp h fun σ H Q q => hv σ H Q (q H _ (Same.refl H) (.int i))
theorem pd_nil : PA X [] (tDs []) := PA.imp pa_nil fun _ H Q q => q H _ (Same.refl H) .nil
theorem pd_cons (h : PE X e (tD d)) (t : PA X es (tDs ds)) (hs : starEach (e :: es) X.env = (false, eval e X.env) :: starEach es X.env := by rfl) : PA X (e :: es) (tDs (d :: ds)) :=
  PA.imp (pa_cons h t hs) fun _ H Q q H1 v s1 dv H2 vs s2 dvs => q H2 (v :: vs) (s1.trans s2) (.cons (dv.up s2) dvs)
theorem pd_tup {x1} (h : PA X es (tDs ds)) (hz : ds.length ≤ sizeLine := by decide) : PE X (.Tuple es x1 pos) (tD (.tuple ds)) :=
  PE.imp (pe_tup h) fun _ H Q q H1 vs s1 dvs => ⟨by rw [dvs.len]; exact hz, fun p np => q _ _ (s1.trans fun b x e => by rw [upd_ne (ne_of_none e np)]; exact e) (.tup upd_same (dvs.up fun b x e => by rw [upd_ne (ne_of_none e np)]; exact e))⟩
theorem pd_lstS (h : PA X es (tDs ds)) (hz : ds.length ≤ sizeLine := by decide) : PE X (.List es pos) (tD (.list ds)) :=
  PE.imp (pe_lstS h) fun _ H Q q H1 vs s1 dvs => ⟨by rw [dvs.len]; exact hz, fun p np zp => q _ _ (s1.trans fun b x e => by rw [upd_ne (ne_of_none e np)]; exact e) (.lst upd_same zp (dvs.up fun b x e => by rw [upd_ne (ne_of_none e np)]; exact e))⟩
theorem pd_lst (h : PA X es (tDs ds)) (hz : ds.length ≤ sizeLine := by decide) : PE X (.List es pos) (tL ds) :=
  PE.imp (pe_lst h) fun _ H Q q H1 vs s1 dvs => ⟨by rw [dvs.len]; exact hz, fun p np => q _ p vs (s1.trans fun b x e => by rw [upd_ne (ne_of_none e np)]; exact e) (s1.free np) upd_same (dvs.up fun b x e => by rw [upd_ne (ne_of_none e np)]; exact e)⟩
theorem dxs_rep {H : Hp} {xs : List V} {es : List PyData} (h : Dxs H xs es) : ∀ n : Nat, Dxs H (List.replicate n xs).flatten (List.replicate n es).flatten
  | 0 => .nil
  | n + 1 => by
    rw [List.replicate_succ, List.replicate_succ, List.flatten_cons, List.flatten_cons]
    exact h.app (dxs_rep h n)
/-- t * k -/
theorem pd_rep {b : Expr} {k : Int} {tb : TE} (h : PE X e (tD (.tuple ds))) (hb : PE X b tb) (hk : ∀ (σ : L2.St) (H : Hp) (Q : VK), Q (.int k) H → tb σ H Q) (k2 : 2 ≤ k) (k1 : k ≤ 1000) (hn : ds ≠ []) (hz : ds.length ≤ 1000) :
    PE X (.BinOp e .Mult b pos) (tD (.tuple (List.replicate k.toNat ds).flatten)) :=
  PE.imp (pe_op op_repT h hb) fun σ H Q q H1 v s1 dv => hk σ H1 _ (by
    cases dv with
    | @tup a xs _ ea hx =>
      have hl := hx.len
      refine ⟨a, k, xs, rfl, rfl, .inl (.inl ea), ?_, k2, k1, by omega, fun p np => q _ _ (s1.trans fun b x e => by rw [upd_ne (ne_of_none e np)]; exact e) (.tup upd_same ((dxs_rep hx k.toNat).up fun b x e => by rw [upd_ne (ne_of_none e np)]; exact e))⟩
      intro z
      subst z
      exact hn (List.eq_nil_of_length_eq_zero (by simpa using hl.symm)))
end
end KX

set_option maxRecDepth 100000
set_option maxHeartbeats 4000000
/-! an own exception class right over a built-in one, whose __init__ says B.__init__(self, x) and then stores -/
namespace KX
open PySem PySem.Spec PyProof.Rows L2
/-- what the library knows of the built-in class B -/
structure XB (B newI iniI : String) (tl : List Value) : Prop where
  fb : PySem.ExcBaseFacts B newI iniI tl
  sf : PySem.StoreFacts B tl "object.__setattr__" "object"
/-- what the written part says of the class at C -/
structure XC (K : PySem.W.Frag) (B newI iniI : String) (tl : List Value) (C : Addr) : Prop where
  b : XB B newI iniI tl
  ini : PySem.W.excInitIn K C tl newI = true
  ovr : PySem.W.excOver K C tl = true
  sa : PySem.W.findIn K (.ref C) "__setattr__" = some (some (.builtin "object.__setattr__"))
  hd : PySem.W.hasDictIn K C = true
  sub : PySem.W.subIn K (.ref C) (.type "BaseException") = some true
  ty : PySem.W.typeIn K (.ref C) = some (.type "type")
  kp : PySem.W.keepIn K (.ref C) = true
section
open PySem.W PySem.Calls PySem.HandSPX Builtin Builtin.ObjectAttr
variable {prog : Program} {w : World} {A : Around} {E : Value → Shared → Prop} {R : Result → Shared → Prop} {hp : Heap} {g : Array GenState} {d : Drawn} {t : Nat} {os : OsState}
/-- the first store into such an exception -/
theorem osa_first {K : PySem.W.Frag} {nm : Str} {tk : Tok} {v : Value} {x C : Addr} {fv : Array Value} {B newI iniI : String} {tl : List Value} (T : XC K B newI iniI tl C)
    (X : K.In hp) (hx : hp.get? x = some { cls := .ref C, data := .fields fv }) (ha : PySem.W.findIn K (.ref C) nm = some none)
    (done : ∀ h2 tk2 dx, (∀ b o, b ≠ x → hp.get? b = some o → h2.get? b = some o) → hp.objs.size ≤ dx → dx ≠ x → h2.get? x = some { cls := .ref C, dict := some dx, data := .fields fv } →
      h2.Ns1 dx (fun y => if y = nm then some v else none) → R (.ok (.ret .none)) ⟨h2, g, d, tk2, os⟩) :
    codeAny (model prog w) A (.call (.builtin "object.__setattr__") ⟨[.ref x, .str nm tk, v], []⟩) R ⟨hp, g, d, t, os⟩ := by
  have tkr : PySem.W.takerIn K C nm = some none := by unfold PySem.W.takerIn; rw [ha]; rfl
  refine PySem.W.osa_openX (s := ⟨hp, g, d, t, os⟩) (od := none) T.b.sf X ⟨hx, rfl, rfl, trivial⟩ T.ovr tkr fun b => ?_
  obtain ⟨cd, hc, hdd⟩ := PySem.W.any_some T.hd
  have hcls : PySem.W.Looks (model prog w) hp (classData C) cd := PySem.W.looks_clsIn X hc
  have far : x ≠ hp.objs.size := Nat.ne_of_lt (Heap.lt_size hx)
  obtain ⟨nm', bs, mro, ns, qn, hd', sn, sb, ab, col, del⟩ := cd
  dsimp only at hdd
  subst hdd
  dsimp only
  unfold storeInOwnDict ownDictForStores
  repeat (first | with_reducible refine store_in_new ?_ ?_ | with_reducible refine wpAny_loadPart_at hx ?_ | with_reducible refine hcls.at ?_ | wp_step)
  · exact ⟨_, #[], _, (Heap.get?_update_ne _ _ _ _ far.symm).trans (Heap.get?_push_at rfl rfl), rfl, fun e he => absurd he (by simp), fun _ => rfl⟩
  · intro h2 tk2 hn2 hs
    have hx1 : (hp.push { cls := .type "dict", data := .dict #[] }).get? x = some { cls := .ref C, data := .fields fv } := Heap.get?_push_of_some _ hx
    refine done h2 tk2 hp.objs.size (fun b o hb ho => ?_) (Nat.le_refl _) far.symm ?_ hn2
    · have z := Heap.get?_push_of_some { cls := .type "dict", data := .dict #[] } ho
      exact (hs.2 b (Nat.ne_of_lt (Heap.lt_size ho))).trans ((Heap.get?_update_ne _ _ _ _ hb).trans z)
    · have z := Heap.get?_update_self (fun o => { o with dict := some hp.objs.size }) hx1 rfl
      exact (hs.2 x far).trans z
end
section
variable {X : Cx} {pins : List (Addr × Obj)} {σ : L2.St} {H : Hp} {s : Shared} {a C dx : Addr} {f : Str} {y : V} {u : Value} {E : Value → Shared → Prop} {A : Around} {B newI iniI : String} {tl : List Value}
/-- self.f = y, the first store -/
theorem store_first {Q : Unit → Shared → Prop} (T : XC X.K B newI iniI tl C) (I : Inv X pins σ H s) (e : H a = some (exo a C none)) (hno : PySem.W.findIn X.K (.ref C) f = some none) (ry : RelV y u)
    (go : ∀ dx s2, H dx = none → dx ≠ a → Inv X pins σ (upd (upd H dx (exd dx [(f, y)])) a (exo a C (some dx))) s2 → Q () s2) :
    wpAny (model X.prog X.w) A (setAttr (.ref a) f u) Q E s := by
  obtain ⟨t1, ho⟩ := exo_at I.hok e
  obtain ⟨hp, g, d, t, os⟩ := s
  refine PySem.W.set_plain I.kIn (ox := { cls := .ref C, dict := none, data := .fields #[.ref t1, .none, .none, .none, .bool false, .none] })
    (od := none) ⟨ho, rfl, rfl, trivial⟩ T.sa (osa_first T I.kIn ho hno (fun h2 tk2 dx k dn dne hx hn => ?_))
  have hnd : H dx = none := I.hok.fresh dn
  have new : ∀ {b : Addr} {o : Obj}, hp.get? b = some o → b ≠ dx := fun {b o} q => Nat.ne_of_lt (Nat.lt_of_lt_of_le (Heap.lt_size q) dn)
  have notA : ∀ {b : Addr}, H b = none → b ≠ a := fun {b} n z => by
    rw [z, e] at n
    cases n
  have U : Un X.fs [] H (upd (upd H dx (exd dx [(f, y)])) a (exo a C (some dx))) hp h2 := {
    keep := fun b o q n _ _ => k b o (notA n) q
    slot := fun b o q n _ _ => ⟨o.slots, k b o (notA n) q⟩
    free := fun b o q n _ => by rw [upd_ne (notA n), upd_ne (new q)]; exact n
    there := fun b o q _ => by
      by_cases hb : b = a
      · exact ⟨_, by rw [hb]; exact hx⟩
      · exact ⟨o, k b o hb q⟩
    tups := fun b xs q => by rw [upd_ne (at_ne e q exo_tup), upd_ne (ne_of_none q hnd)]; exact q
    frzs := fun b o v q => by rw [upd_ne (at_ne e q exo_frz), upd_ne (ne_of_none q hnd)]; exact q
    tbls := fun b ps q => ⟨#[], by rw [upd_ne (at_ne e q exo_tbl), upd_ne (ne_of_none q hnd), q]; simp⟩ }
  refine go dx _ hnd dne (I.un (t' := tk2) U fun b o q => ?_)
  by_cases hb : b = a
  · subst hb
    rw [upd_same] at q
    cases q
    exact exo_ok hx
  · rw [upd_ne hb] at q
    by_cases hd : b = dx
    · subst hd
      rw [upd_same] at q
      cases q
      exact exd_ok hn (relO_put (fs := []) ry fun g => True.intro)
    · rw [upd_ne hd] at q
      refine (I.hok b o q).stay (fun c v hc z => k c v ?_ z) (fun c hc => ?_) (fun c xs hc => ?_)
      · rcases hc with hc | hc
        · rw [hc]
          exact hb
        · exact at_ne e hc exo_own
      · rw [upd_ne (at_ne e hc exo_own), upd_ne (ne_of_none hc hnd)]
        exact hc
      · rw [upd_ne (at_ne e hc exo_tup), upd_ne (ne_of_none hc hnd)]
        exact hc
/-- B.__init__(self, ..): nothing of it is told -/
theorem init_told {us : List Value} {Q : Value → Shared → Prop} (T : XC X.K B newI iniI tl C) (I : Inv X pins σ H s) (e : H a = some (exo a C none)) (hl : us.length ≤ sizeLine) (go : ∀ s2, Inv X pins σ H s2 → Q .none s2) :
    wpAny (model X.prog X.w) A (call (.builtin iniI) (.ref a :: us)) Q E s := by
  obtain ⟨nm, N, qn, bs, bm, hdct, sn, sub, ab, col, dd, k0, k1, k2, k3, k5, hC, hT⟩ := PySem.W.excInit_of I.kIn T.ini
  obtain ⟨t1, ho⟩ := exo_at I.hok e
  obtain ⟨hp, g, d, t, os⟩ := s
  refine wpAny_call (PySem.HandSPX.init_base T.b.fb hT hC ho hl fun h2 t2 k hx => go _ ?_)
  have J := I.write (t' := t) (x := a) (e := a) (o := exo a C none) (by rw [e]; exact True.intro) (.inl rfl) k ⟨_, hx⟩ (exo_ok hx)
  have same : upd H a (exo a C none) = H := by
    funext b
    by_cases hb : b = a
    · rw [hb, upd_same, e]
    · rw [upd_ne hb]
  rw [same] at J
  exact J
end
/-- B.__init__(self, ..) -/
def tBini (K : PySem.W.Frag) (B newI iniI : String) (tl : List Value) (ta : TA) : TE := fun σ H Q => ta σ H fun vs H1 =>
  ∃ (a C : Addr) (ws : List V), vs = .ref a :: ws ∧ ws.length ≤ 1000 ∧ XC K B newI iniI tl C ∧ H1 a = some (exo a C none) ∧ Q .non H1
/-- self.f = e, the first store -/
def tFst (K : PySem.W.Frag) (B newI iniI : String) (tl : List Value) (f : Str) (to te : TE) : TS := fun D σ H => te σ H fun y H1 => to σ H1 fun x H2 =>
  ∃ a C : Addr, x = .ref a ∧ XC K B newI iniI tl C ∧ PySem.W.findIn K (.ref C) f = some none ∧ H2 a = some (exo a C none) ∧
    ∀ dx, H2 dx = none → dx ≠ a → D.nx σ (upd (upd H2 dx (exd dx [(f, y)])) a (exo a C (some dx)))
section
variable {X : Cx} {o e : Expr} {es : List Expr} {to te : TE} {ta : TA} {f : Str} {p p' p1 p2 pos : Pos} {B newI iniI : String} {tl : List Value}
theorem ps_fst (ho : PE X o to) (he : PE X e te) (hs : swapsWith e (some (.Attribute o f p')) pos.line X.env = pure false := by rfl) : PS X (.Assign [.Attribute o f p'] e pos) (tFst X.K B newI iniI tl f to te) := by
  refine ⟨fun pins s σ H D I h => ?_⟩
  refine plainObj_wpAny_Assign_Attribute (thn (he.run pins s σ H _ I h) fun v s1 z1 => ?_) hs
  obtain ⟨y, H1, I1, r1, q1⟩ := z1
  refine thn (ho.run pins s1 σ H1 _ I1 q1) fun u s2 z2 => ?_
  obtain ⟨x, H2, I2, r2, a, C, ex, T, hno, ea, q⟩ := z2
  subst ex
  obtain rfl : u = Value.ref a := r2
  exact store_first T I2 ea hno r1 fun dx s3 n ne J => ⟨σ, _, J, q dx n ne⟩
theorem pe_bini {pl : Sem Bool} (hg : Gl X "IndexError") (hm : X.mg "IndexError" = none) (vV : PySem.W.findCls X.K (.type "IndexError") (.type "type") "__init__" = some (.val (.builtin "IndexError.__init__"))) (ha : PA X (e :: es) ta)
    (hc : eval (.Call (.Attribute (.Name "IndexError" p1) "__init__" p2) (e :: es) [] pos) X.env = (do
      let cv ← eval (.Name "IndexError" p1) X.env
      standAt p2.atName
      let (fn, ahead) ← holding [cv] (getMethod cv "__init__" pl)
      callWith pos fn ahead (backTo pos (starEach (e :: es) X.env)) (backToKw pos (keywordEach [] X.env))) := by rfl)
    (he : starEach (e :: es) X.env = (false, eval e X.env) :: starEach es X.env := by rfl) (hpl : (backTo pos (starEach es X.env)).any (·.1) = false := by rfl) :
    PE X (.Call (.Attribute (.Name "IndexError" p1) "__init__" p2) (e :: es) [] pos) (tBini X.K "IndexError" newI "IndexError.__init__" tl ta) := by
  refine ⟨fun pins s σ H Q I h => ?_⟩
  have ty : typeOf (.type "IndexError") = pure (.type "type") := by kernel_rfl
  refine PySem.W.methodCall_KW (ld_blt I hg hm PyProof.Rows.Boot.«IndexError» ?_ (by decide) (by decide)) hc
  obtain ⟨m, fr⟩ := I.fr
  refine PySem.W.method_type fr I.ok.mod.kin ty (by decide +kernel) vV (by decide +kernel) ?_
  show wpAny _ _ (callWith pos (Value.builtin "IndexError.__init__") [] (backTo pos (starEach (e :: es) X.env)) []) _ _ _
  refine PyProof.Rows.callWith_method1 (thn (ha.run pos pins _ σ H _ (I.tok _) h) fun us s1 z => ?_) he hpl
  obtain ⟨vs, H1, I1, r1, a, C, ws, ev, hl, T, ea, q⟩ := z
  subst ev
  cases r1 with
  | @cons _ u0 _ ur ra rw' =>
    obtain rfl : u0 = Value.ref a := ra
    have hlen : ur.length ≤ sizeLine := by
      rw [← Paired.length rw', sizeLine_eq]
      omega
    exact init_told T I1 ea hlen fun s2 J => ⟨.non, H1, J, rfl, q⟩
/-- C(e, ..) -/
theorem pmk_x {CX : CXT} {x : Str} {C fI : Addr} {k : Nat} {fd : FuncData} {ps : List Str} {sp : Sp} (T : XC X.K B newI iniI tl C) (iC : PySem.W.findIn X.K (.ref C) "__init__" = some (some (.ref fI)))
    (tI : PySem.W.typeIn X.K (.ref fI) = some (.type "function")) (F1 : FnOk X.prog X.w X.K X.mg X.base CX k fI fd ps sp) (hr : Room (k + 1) X.A) (hb : Binds X.K fd ps []) (hx : Passes CX X (fun _ _ _ => False)) (hg : Gl X x)
    (hm : X.mg x = some (.ref C)) (ha : PA X (e :: es) ta) (hdb : (x == ("__debug__" : Str)) = false := by decide) (he : starEach (e :: es) X.env = (false, eval e X.env) :: starEach es X.env := by rfl)
    (hpl : (backTo pos (starEach es X.env)).any (·.1) = false := by rfl) : PMk X (.Call (.Name x p) (e :: es) [] pos) (tMkO C sp [] ta) := by
  intro pins s σ H Q I h
  obtain ⟨nm, N, qn, bs, bm, hdct, sn, sub, ab, col, dd, k0, k1, k2, k3, k5, hC, hT⟩ := PySem.W.excInit_of I.kIn T.ini
  refine wpAny_Call_Name_kw (ld_glob I hg hm ?_ hdb)
  refine PySem.W.callWith_K (h₀ := X.base) I.ok.mod.kin T.kp (thn (ha.run pos pins s σ H _ I h) fun us s1 z => ?_) he hpl
  obtain ⟨vs, H1, I1, r1, hz, q1⟩ := z
  have X1 := I1.kIn
  refine ⟨X1, ?_⟩
  obtain ⟨nm, N, qn, bs, bm, hdct, sn, sub, ab, col, dd, k0, k1, k2, k3, k5, hC, hT⟩ := PySem.W.excInit_of X1 T.ini
  show wpAny _ _ (call (.ref C) us) _ _ _
  obtain ⟨hp, g, dr, tk, os⟩ := s1
  have up : hp.objs.size ≤ hp.objs.size + 1 := Nat.le_succ _
  have hq := q1 (hp.objs.size + 1) (I1.hok.fresh up)
  have kk : ∀ b o, hp.get? b = some o → ((hp.push (PySem.W.kdv_tup us)).push (PySem.HandSPX.excO C hp.objs.size)).get? b = some o :=
    fun b o e => Heap.get?_push_of_some _ (Heap.get?_push_of_some _ e)
  have hget : ((hp.push (PySem.W.kdv_tup us)).push (PySem.HandSPX.excO C hp.objs.size)).get? (hp.objs.size + 1) = some (PySem.HandSPX.excO C hp.objs.size) := by heap_get
  have I2 : Inv X pins σ (upd H1 (hp.objs.size + 1) (exo (hp.objs.size + 1) C none)) ⟨(hp.push (PySem.W.kdv_tup us)).push (PySem.HandSPX.excO C hp.objs.size), g, dr, tk, os⟩ :=
    I1.laid (t' := tk) (a := hp.objs.size + 1) (o := exo (hp.objs.size + 1) C none) (h' := (hp.push (PySem.W.kdv_tup us)).push (PySem.HandSPX.excO C hp.objs.size)) kk up (exo_ok hget)
  have r2 : Vals (V.ref (hp.objs.size + 1) :: (vs ++ [])) (Value.ref (hp.objs.size + 1) :: us) := .cons rfl (by rw [List.append_nil]; exact r1)
  have hl : (Value.ref (hp.objs.size + 1) :: us).length = ps.length := by
    rw [← r2.length]
    exact F1.len _ _ _ _ hq
  have hus : us.length ≤ sizeLine := by
    rw [← Paired.length r1, sizeLine_eq]
    omega
  have hbd := hb ⟨(hp.push (PySem.W.kdv_tup us)).push (PySem.HandSPX.excO C hp.objs.size), g, dr, tk, os⟩ (Value.ref (hp.objs.size + 1) :: us) I2.kIn (by rw [List.append_nil]; exact hl)
  rw [List.append_nil] at hbd
  have go := F1.run _ X.stack _ _ ⟨Value.ref (hp.objs.size + 1) :: us, []⟩ (Value.ref (hp.objs.size + 1) :: us) _ _ (fun _ _ _ => False) (hr.make C us []) (I2.env0.make C us []) hbd r2 hq
  refine wpAny_call (PySem.HandSPX.call_own T.b.fb hT hC (PySem.W.looks_findIn X1 iC) (fun self => PySem.W.bind_fn X1 self tI) hus (codeAny_mono go fun r s2 z => ?_))
  cases r with
  | error er => exact hx pins σ _ _ er s2 I2 z
  | ok fl =>
    cases fl with
    | ret u =>
      obtain ⟨v, H2, os2, bare2, un2, hok2, rv, ev, d, fs, ea, ed, hd1, q2⟩ := z
      subst ev
      obtain ⟨h2, g2, d2, t2, os'⟩ := s2
      exact ⟨rv, mk_end (raises_own T.sub T.ty) I1 up kk un2 hok2 os2 bare2 ea ed hd1 q2⟩
    | next => exact False.elim z
    | brk => exact False.elim z
    | cont => exact False.elim z
end
end KX

set_option maxRecDepth 100000
set_option maxHeartbeats 4000000
namespace KX
open PySem PySem.Spec PyProof.Rows L2
/-- isinstance(e, T), isinstance(e, (T, U)): e the exception that the suite holds, an instance of a class of the program with fields of its own -/
structure XI (K : PySem.W.Frag) (C : Addr) : Prop where
  ga : PySem.W.findIn K (.ref C) "__getattribute__" = some (some (.builtin "BaseException.__getattribute__"))
  gg : PySem.W.findIn K (.ref C) "__getattr__" = some none
  sub : PySem.W.subIn K (.ref C) (.type "BaseException") = some true
  hd : PySem.W.hasDictIn K C = true
  hcl : PySem.W.findIn K (.ref C) "__class__" = some (some (.builtin "object.__class__"))
  sp : PySem.W.specialIn K (.builtin "object.__class__") "__get__" = some (some (.builtin "getset_descriptor.__get__"))
  tk : PySem.W.takesIn K (.builtin "object.__class__") = some true
  mro : PySem.W.mroIn K C (.type "object") = some true
theorem XI.xf {K : PySem.W.Frag} {C : Addr} (T : XI K C) : XfC K C := ⟨T.ga, T.gg, T.sub, T.hd⟩
def rIsX (K : PySem.W.Frag) (a : Addr) (cls : Value) (d : Option Addr) : List V → Hp → VK → Prop := fun xs H Q =>
  ∃ (C dd : Addr) (fs : List (Str × V)) (c : V) (b : Bool), XI K C ∧ cls = .ref C ∧ d = some dd ∧ H dd = some (.xd fs) ∧ xs = [.ref a, c] ∧
    ((∃ cv, (∀ u, RelV c u → u = cv) ∧ PySem.W.kitOne K (.ref C) cv = some b) ∨
      ∃ (tp : Addr) (ys : List V) (its : List Value), c = .ref tp ∧ H tp = some (.tup ys) ∧ (∀ us, Vals ys us → us = its) ∧ PySem.W.kitAny K (.ref C) its = some b) ∧ Q (.bl b) H
theorem call_isX {X : Cx} {a : Addr} {oe : Obj} {cls : Value} {d : Option Addr} {pn : List (Addr × Obj)} (hz : Zc cls d oe) (hf : ∃ vs, oe.data = .fields vs) :
    CallR (X.suite a ((a, oe) :: pn)) (.builtin "isinstance") (rIsX X.K a cls d) := by
  intro pins s σ H xs us Q I r h
  obtain ⟨C, dd, fs, c, b, T, ec, ed, eH, rfl, hc, q⟩ := h
  subst ec ed
  obtain ⟨hget, _⟩ := I.pin (a, oe) (List.mem_append.mpr (.inl List.mem_cons_self))
  obtain ⟨vs, hv⟩ := hf
  have hx : ObjOk X.prog X.w H s.heap dd (.xd fs) := I.hok dd _ eH
  obtain ⟨mA, hns, _⟩ := hx
  obtain ⟨od, ho, _⟩ := lookIn_ns hns
  have J : PySem.W.InstAt s.heap a oe C (some od) := ⟨hget, hz.1, by unfold PySem.W.notCls; rw [hv] <;> rfl, by rw [hz.2]; exact ho⟩
  have hcl : (PySem.W.clsIn X.K C).isSome = true := by
    obtain ⟨cd, hc, _⟩ := PySem.W.any_some T.hd
    rw [hc]; rfl
  have Z : PySem.W.KitX X.K (.ref a) (.ref C) (fun h => PySem.W.InstAt h a oe C (some od)) := PySem.W.kitx_exc hcl T.ga T.gg T.sub T.hcl T.sp T.tk T.mro
  obtain ⟨u, rfl, ru, uc, rc⟩ : ∃ u2, us = [.ref a, u2] ∧ RelV c u2 ∧ True ∧ True := by
    cases r with
    | cons r1 r2 =>
      cases r2 with
      | cons r3 r4 =>
        cases r4
        cases r1
        exact ⟨_, rfl, r3, trivial, trivial⟩
  rcases hc with ⟨cv, hcv, e⟩ | ⟨tp, ys, its, rfl, hH, hits, e⟩
  · have eu := hcv _ ru
    subst eu
    exact PySem.W.kia_one Z I.kIn J e (fun z => nomatch z) fun tk => ⟨.bl b, H, I.kept (t' := tk) fun _ _ z => z, rfl, q⟩
  · obtain rfl : u = Value.ref tp := ru
    obtain ⟨_, us2, r2, o, h1, h2, n, h3⟩ := (show ObjOk X.prog X.w H s.heap tp (.tup ys) from I.hok tp _ hH)
    have eu := hits us2 r2
    subst eu
    obtain ⟨oc, od2, oda, osl⟩ := o
    dsimp only at h2 h3
    subst h2 h3
    exact PySem.W.kia_tup Z I.kIn J h1 e (fun z => nomatch z) fun tk => ⟨.bl b, H, I.kept (t' := tk) fun _ _ z => z, rfl, q⟩
end KX

set_option maxRecDepth 100000
set_option maxHeartbeats 4000000
namespace KX
open PySem PySem.Spec PyProof.Rows L2
section
variable {X : Cx}
/-- x in t, x not in t: t a tuple of data, x data, no dicts -/
def rInT (K : PySem.W.Frag) (f : Bool → Bool) : R2 := fun x y H Q => ∃ d ds, Dp K H x d ∧ Dp K H y (.tuple ds) ∧ d.plain = true ∧ PyData.plainAll ds = true ∧ PyData.depthAll ds ≤ 60 ∧ Q (.bl (f (ds.any fun z => PyData.eqv z d))) H
theorem op_inTD (hu : X.A.units + 64 < cLine) : OpR X (compareOp .In) (rInT X.K id) := by
  intro pins s σ H x y v u Q I rx ry h
  obtain ⟨d, ds, hd, he, pd, pe, hm, q⟩ := h
  obtain ⟨as, r1⟩ := Dp.reads I d x v hd rx
  obtain ⟨bs, r2⟩ := Dp.reads I (.tuple ds) y u he ry
  exact SeqAt.in_tuple_data r2 r1 pe pd (by omega) ⟨.bl _, H, I, rfl, q⟩
theorem op_ninTD (hu : X.A.units + 64 < cLine) : OpR X (compareOp .NotIn) (rInT X.K not) := by
  intro pins s σ H x y v u Q I rx ry h
  obtain ⟨d, ds, hd, he, pd, pe, hm, q⟩ := h
  obtain ⟨as, r1⟩ := Dp.reads I d x v hd rx
  obtain ⟨bs, r2⟩ := Dp.reads I (.tuple ds) y u he ry
  exact SeqAt.notIn_tuple_data r2 r1 pe pd (by omega) ⟨.bl _, H, I, rfl, q⟩
/-- len(s), s a set of numbers -/
theorem call_lenZ : CallR X (.builtin "len") (fun xs H Q => ∃ (a : Addr) (S : Int → Bool) (n : Nat), xs = [.ref a] ∧ H a = some (SetO X.w a S n) ∧ Q (.int n) H) := by
  intro pins s σ H xs us Q I r h
  obtain ⟨a, S, n, rfl, ha, q⟩ := h
  obtain ⟨u, rfl, ru⟩ := vals1 r
  obtain rfl : u = Value.ref a := ru
  obtain ⟨o, es, ep, t, ho, hex, hd, _, _, _, hb, hf, hn, _⟩ := setO_get I ha
  have hb' : (scanBound : Nat) < 2 ^ 63 := by decide
  exact call_len_set ho hex hd hf (by omega) ⟨.int n, H, I.tok _, ⟨_, by rw [hn]⟩, q⟩
/-- what a turn of {k for x in t} leaves -/
def addS (w : World) (D : Addr) (S : Int → Bool) (n : Nat) (k : Int) (H : Hp) : Hp := upd H D (SetO w D (fun j => S j || decide (j = k)) (if S k = true then n else n + 1))
theorem into_set {pins : List (Addr × Obj)} {σ : L2.St} {H : Hp} {s : Shared} {E : Value → Shared → Prop} {D : Addr} {S : Int → Bool} {n : Nat} {k : Int} {tk : Tok} {Q : Value → Shared → Prop} (I : Inv X pins σ H s)
    (hD : H D = some (SetO X.w D S n)) (room : n + 1 < scanBound) (go : ∀ s2, Inv X pins σ (addS X.w D S n k H) s2 → Q .none s2) : wpAny (model X.prog X.w) X.A (call (.builtin "set.add") [.ref D, .int k tk]) Q E s := by
  refine setR_add (setO_get I hD) room fun h2 sb new => go _ ?_
  have ex : ∃ u, h2.get? D = some u := by
    obtain ⟨o, _, _, _, ho, _⟩ := new
    exact ⟨o, ho⟩
  exact I.write (e := D) (t' := s.toks + 1) (by rw [hD]; trivial) (.inl rfl) (fun b u hb hu => (sb.2 b hb).trans hu) ex (setO_new new)
/-- {e for x in t}, no ifs, e a number: D the new set -/
def tSetI (w : World) (wi : TI) (g : TG) (te : TE) (vs : List Nat) : TE := fun σ H Q => wi σ H fun J H1 => ∀ D, H1 D = none → ∃ W : Nat → Nat → Hp → Prop, (∃ m, W 0 m (upd H1 D (SetO w D (fun _ => false) 0))) ∧
  ∀ i m G, W i m G → (J.stop i G ∧ Q (.ref D) G) ∨ (J.go i G ∧ ∀ x G1, J.yld i G x G1 → g x (wipe σ vs) G1 fun σ2 G2 => wipe σ2 vs = wipe σ vs ∧
    te σ2 G2 fun y G3 => ∃ (k : Int) (S : Int → Bool) (n : Nat), y = .int k ∧ G3 D = some (SetO w D S n) ∧ n + 1 < scanBound ∧ ∃ m2, m2 < m ∧ W (i + 1) m2 (addS w D S n k G3))
abbrev freshSet (w : World) : Obj := { cls := .type "set", dict := none, data := .set #[] 0 (.fresh 0 0 (!w.params.followText "set-order")) }
theorem pe_setI {elt tg iter : Expr} {scope : Scope} {own : List (PySem.Str × Nat)} {pos : Pos} {wi : TI} {g : TG} {te : TE} (hc : X.calm = true) (hN : X.N.Nodup) (hi : PI X tg iter wi) (ok : BlkOk X.N X.env.scope scope own)
    (hg : ∀ (s : Shared) (H : Hp) (C : Addr) (cl : List (PySem.Str × Addr)) (fp : List Addr), PG (X.blk s H scope (compEnvC scope cl C X.env) fp) tg g)
    (he : ∀ (s : Shared) (H : Hp) (C : Addr) (cl : List (PySem.Str × Addr)) (fp : List Addr), PE (X.blk s H scope (compEnvC scope cl C X.env) fp) elt te)
    (hs : ∀ x, foldedSetIterable iter X.env x = pure x := by intro _; rfl) :
    PE X (.SetComp elt [⟨tg, iter, [], 0⟩] scope pos) (tSetI X.w wi g te (own.map (·.2))) := by
  refine ⟨fun pins s σ H Q I h => ?_⟩
  rw [PpSet.eval_SetComp]
  have cap : ∀ y ∈ scope.names, y.2 = .free → ∃ c, X.env.cells.lookup y.1 = some c := fun y hy e => (ok.free y hy e).elim (fun k => I.ok.has _ (.inl k)) fun k => I.ok.has _ (.inr k)
  refine wpAny_comprehension_free rfl hs (closure_ok cap) ok.kind (fun y hy e => by rw [ok.uniq y hy, e]) (thn (hi.run pins s σ H _ I h) fun xv s1 hx => thn hx fun itv s2 z => ?_)
  obtain ⟨it, fp, tn, J, H2, rfl, I2, T, at0, own2, q⟩ := z
  refine PpSet.newSet_ok (newEnv_comp ?_)
  obtain ⟨D, hD⟩ : ∃ D, D = s2.heap.objs.size := ⟨_, rfl⟩
  rw [← hD]
  obtain ⟨W, ⟨m0, w0⟩, turn⟩ := q D (I2.hok.fresh (Nat.le_of_eq hD.symm))
  obtain ⟨s3, es3⟩ : ∃ s3 : Shared, s3 = { s2 with heap := s2.heap.push (freshSet X.w) } := ⟨_, rfl⟩
  obtain ⟨H3, eH3⟩ : ∃ H3, H3 = upd H2 D (SetO X.w D (fun _ => false) 0) := ⟨_, rfl⟩
  have I3 : Inv X pins σ H3 s3 := by
    rw [es3, eH3]
    refine I2.laid (t' := s2.toks) (fun b o e => Heap.get?_push_of_some _ e) (Nat.le_of_eq hD.symm) ?_
    rw [hD]
    exact setO_new (setR_fresh X.w)
  have kp3 : ∀ b o, s2.heap.get? b = some o → s3.heap.get? b = some o := fun b o e => by rw [es3]; exact Heap.get?_push_of_some _ e
  have own3 : ∀ b ∈ fp, FpOk X pins H3 b ∧ b < s3.heap.objs.size := fun b hb => by
    obtain ⟨o, eo, _⟩ := T.obj _ _ at0 b hb
    have lt := Heap.lt_size eo
    refine ⟨⟨?_, (own2 b hb).2⟩, Heap.lt_size (kp3 b o eo)⟩
    rw [eH3, upd_ne (by rw [hD]; exact Nat.ne_of_lt lt)]
    exact (own2 b hb).1
  have I4 := block_start I3 ok hN own3
  obtain ⟨C, eC⟩ : ∃ C, C = s3.heap.objs.size := ⟨_, rfl⟩
  obtain ⟨cl, ecl⟩ : ∃ cl, cl = cellsFrom (s3.heap.objs.size + 1) scope.names (cloFrom X.env.cells scope.names []) := ⟨_, rfl⟩
  have at3 : tn 0 s3.heap := T.keep _ _ _ at0 fun b _ o e => kp3 b o e
  rw [← es3, ← ecl, ← eC]
  rw [← ecl, ← eC] at I4
  obtain ⟨s4, es4⟩ : ∃ s4 : Shared, s4 = { s3 with heap := pushCells (s3.heap.push { cls := .type "dict", data := .dict #[] }) scope.names } := ⟨_, rfl⟩
  rw [← es4] at I4 ⊢
  have at4 : tn 0 s4.heap := T.keep _ _ _ at3 fun b _ o e => by rw [es4]; exact pushCells_keeps _ _ _ _ (Heap.get?_push_of_some _ e)
  obtain ⟨Y, eY⟩ : ∃ Y, Y = X.blk s3 H3 scope (compEnvC scope cl C X.env) fp := ⟨_, rfl⟩
  have pg := hg s3 H3 C cl fp
  have pe := he s3 H3 C cl fp
  rw [← eY] at pg pe I4
  have calmY : Y.calm = true := by rw [eY]; exact hc
  have still : ∀ {σ' : L2.St} {H' : Hp} {s' : Shared}, Inv Y [] σ' H' s' → (∀ b ∈ fp, H' b = none) → ∀ b ∈ fp, FpOk Y [] H' b := fun {σ' H' s'} I' hn b hb => by
    subst eY
    exact ⟨hn b hb, (I'.ok.exf b hb).1, I'.ok.exfs b hb, .inl hb, fun x c e => (I'.ok.exf b hb).2 x c e, fun p hp => absurd (show p ∈ ([] : List (Addr × Obj)) ++ [] from hp) (by simp)⟩
  have loop : codeAny (model X.prog X.w) X.A (.compLoop (.SetComp elt [⟨tg, iter, [], 0⟩] scope pos) 0 (.ref it) (.ref D) (compEnvC scope cl C X.env)) (compPost (model X.prog X.w) X.A X.xe none (EP X pins σ Q) (.ref D) C) s4 := by
    refine PpSet.compLoopS_any (fun m s' => ∃ i G, Inv Y [] (wipe σ (own.map (·.2))) G s' ∧ tn i s'.heap ∧ (∀ b ∈ fp, G b = none) ∧ W i m G) ?_ m0
      ⟨0, H3, I4, at4, fun b hb => (own3 b hb).1.1, by rw [eH3]; exact w0⟩
    rintro m s5 ⟨i, G, I5, at5, n5, w5⟩
    rcases turn i m G w5 with ⟨stop, qq⟩ | ⟨go, step⟩
    · have td := T.done Y (by rw [eY]) (by rw [eY]) (by rw [eY]) calmY i [] s5 _ G (fun _ _ => False) I5 (still I5 n5) at5 stop
      have cL : (compEnvC scope cl C X.env).locals = C := rfl
      subst eY
      refine thnF td fun r s6 z => ?_
      obtain ⟨hr, I6⟩ := z
      subst hr
      have back : ∀ b ∈ fp, (b ∈ X.ex ∨ X.s_0.heap.objs.size ≤ b) ∧ b ≠ X.env.locals ∧ (∀ x c, X.env.cells.lookup x = some c → c ≠ b) ∧ ∀ p ∈ X.pn ++ pins, p.1 ≠ b := fun b hb => by
        obtain ⟨_, a1, _, a3, a4, a5⟩ := (own3 b hb).1
        exact ⟨a3, a1, a4, a5⟩
      have I7 : Inv X pins σ G s6 := I3.call' (ch := fp) I6.os I6.base I6.hok I6.bare back
      have nC : G C = none := I6.free
      obtain ⟨mm, hn, _⟩ := I6.loc
      refine ⟨mm, hn, fun h2 sb => ?_⟩
      obtain ⟨f0, f1, f2, f3, f4, f5⟩ := I3.fpOk (Nat.le_of_eq eC.symm) nC
      exact ⟨.ref D, G, I7.turned (t' := s6.toks) (fun b o hb e => (sb.2 b hb).trans e) f0 f1 f3 f4 f5, rfl, qq⟩
    · have ti := T.item Y (by rw [eY]) (by rw [eY]) (by rw [eY]) calmY i [] s5 _ G (fun _ _ => False) I5 (still I5 n5) at5 go
      have xeY : Y.xe = fun _ _ => False := by rw [eY]
      have AY : Y.A = X.A := by rw [eY]
      have pY : Y.prog = X.prog := by rw [eY]
      have wY : Y.w = X.w := by rw [eY]
      subst eY
      refine thnF ti fun r s6 z => ?_
      obtain ⟨u, hr, h6⟩ := z
      subst hr
      refine thnF h6 fun _ s7 z => ?_
      obtain ⟨x, G7, I7, r7, y7, at7, n7⟩ := z
      have I7p := I7.pinned (still I7 n7) (T.obj _ _ at7)
      refine thnF (pg.run _ s7 _ G7 x u _ I7p r7 (step x G7 y7)) fun _ s8 z => ?_
      obtain ⟨σ8, G8, I8, hw8, q8⟩ := z
      show wpAny _ _ (forIn [] true _) _ _ s8
      refine wpAny_pure ?_
      rw [if_pos rfl]
      refine thnF (pe.run _ s8 σ8 G8 _ I8 q8) fun v s9 z => ?_
      obtain ⟨yv, G9, I9, r9, k, S, n, ey, hD9, room, m2, lt2, w2⟩ := z
      subst ey
      obtain ⟨tk, rfl⟩ := r9
      refine into_set (X := X.blk s3 H3 scope (compEnvC scope cl C X.env) fp) I9 hD9 room fun s10 I10 => ?_
      have pinned : ∀ b ∈ fp, ∀ o, s7.heap.get? b = some o → s10.heap.get? b = some o ∧ addS X.w D S n k G9 b = none := fun b hb o e =>
        have z := I10.pin (b, o) (List.mem_append_right _ (List.mem_append_right _ (mem_pinsAt hb e)))
        ⟨z.1, z.2.1⟩
      have hl : (wipe σ (own.map (·.2))).length = σ8.length := by rw [← hw8, wipe_length]
      refine ⟨m2, lt2, i + 1, _, (I10.unpinned (pins := [])).weak hl (fun j v e => ?_), T.keep _ _ _ at7 fun b hb o e => (pinned b hb o e).1, fun b hb => ?_, w2⟩
      · rw [← hw8] at e
        exact (wipe_some e).1
      · obtain ⟨o, e, _⟩ := T.obj _ _ at7 b hb
        exact (pinned b hb o e).2
  exact PpSet.codeAny_compStart_set loop (T.self X.A 0 _ _ _ at4 loop)
end
end KX
namespace KX
open PySem PySem.Spec PyProof.Rows L2
/-- {e for x in t}, t a tuple that stays -/
theorem setI_tup {w : World} {K : PySem.W.Frag} {a D : Addr} {xs : List V} {g : TG} {te : TE} {vs : List Nat} {σ : L2.St} {H1 : Hp} {Qd : Hp → Prop} (Pv : Nat → Hp → Prop) (h0 : Pv 0 (upd H1 D (SetO w D (fun _ => false) 0)))
    (hl : ∀ i G, i ≤ xs.length → Pv i G → SqT K G a xs)
    (hs : ∀ i x G, xs[i]? = some x → Pv i G → g x (wipe σ vs) G fun σ2 G2 => wipe σ2 vs = wipe σ vs ∧ te σ2 G2 fun y G3 => ∃ (k : Int) (S : Int → Bool) (n : Nat), y = .int k ∧ G3 D = some (SetO w D S n) ∧ n + 1 < scanBound ∧ Pv (i + 1) (addS w D S n k G3))
    (hd : ∀ G, Pv xs.length G → Qd G) :
    ∃ W : Nat → Nat → Hp → Prop, (∃ m, W 0 m (upd H1 D (SetO w D (fun _ => false) 0))) ∧ ∀ i m G, W i m G → ((Itt K a).stop i G ∧ Qd G) ∨ ((Itt K a).go i G ∧ ∀ x G1, (Itt K a).yld i G x G1 → g x (wipe σ vs) G1 fun σ2 G2 => wipe σ2 vs = wipe σ vs ∧
      te σ2 G2 fun y G3 => ∃ (k : Int) (S : Int → Bool) (n : Nat), y = .int k ∧ G3 D = some (SetO w D S n) ∧ n + 1 < scanBound ∧ ∃ m2, m2 < m ∧ W (i + 1) m2 (addS w D S n k G3)) := by
  refine ⟨fun i m G => m = xs.length - i ∧ i ≤ xs.length ∧ Pv i G, ⟨xs.length, by simp, Nat.zero_le _, h0⟩, fun i m G hw => ?_⟩
  obtain ⟨rfl, hi, p⟩ := hw
  have q := hl i G hi p
  by_cases lt : i < xs.length
  · refine .inr ⟨⟨xs, xs[i], q, List.getElem?_eq_getElem lt⟩, fun x G1 y => ?_⟩
    obtain ⟨rfl, y⟩ := y
    have z := hs i x G1 (y xs q) p
    have mono : ∀ {σ2 : L2.St} {G2 : Hp} {y : V} {G3 : Hp}, (∃ (k : Int) (S : Int → Bool) (n : Nat), y = .int k ∧ G3 D = some (SetO w D S n) ∧ n + 1 < scanBound ∧ Pv (i + 1) (addS w D S n k G3)) →
        ∃ (k : Int) (S : Int → Bool) (n : Nat), y = .int k ∧ G3 D = some (SetO w D S n) ∧ n + 1 < scanBound ∧ ∃ m2, m2 < xs.length - i ∧ m2 = xs.length - (i + 1) ∧ i + 1 ≤ xs.length ∧ Pv (i + 1) (addS w D S n k G3) :=
      fun {σ2 G2 y G3} h => by
        obtain ⟨k, S, n, e1, e2, e3, e4⟩ := h
        exact ⟨k, S, n, e1, e2, e3, _, by omega, rfl, by omega, e4⟩
    have key : (fun (y : V) (G3 : Hp) => ∃ (k : Int) (S : Int → Bool) (n : Nat), y = .int k ∧ G3 D = some (SetO w D S n) ∧ n + 1 < scanBound ∧ ∃ m2, m2 < xs.length - i ∧ m2 = xs.length - (i + 1) ∧ i + 1 ≤ xs.length ∧ Pv (i + 1) (addS w D S n k G3)) =
        fun (y : V) (G3 : Hp) => ∃ (k : Int) (S : Int → Bool) (n : Nat), y = .int k ∧ G3 D = some (SetO w D S n) ∧ n + 1 < scanBound ∧ Pv (i + 1) (addS w D S n k G3) := by
      funext y G3
      refine propext ⟨fun h => ?_, fun h => mono (σ2 := []) (G2 := G3) h⟩
      obtain ⟨k, S, n, e1, e2, e3, m2, _, _, _, e4⟩ := h
      exact ⟨k, S, n, e1, e2, e3, e4⟩
    rw [key]
    exact z
  · have e : i = xs.length := by omega
    subst e
    exact .inl ⟨⟨xs, q, Nat.le_refl _⟩, hd G p⟩
end KX

set_option maxRecDepth 100000
set_option maxHeartbeats 4000000
namespace KX
open PySem PySem.Spec PyProof.Rows L2
/-! ### what an expression of a law's generator makes, its stream at l: S is what is known of the data, P of the names -/
abbrev PSt := L2.St → Hp → Prop
def Kp (l : Addr) (P : PSt) : Prop := ∀ σ H H', Keep l H H' → StO H' l → P σ H → P σ H'
def GD (l : Addr) (P : PSt) (S : PyData → Prop) (t : TE) : Prop := ∀ σ H Q, StO H l → P σ H → (∀ H' v d, S d → Keep l H H' → StO H' l → Dx (hid l H') v d → Q v H') → t σ H Q
def GDs (l : Addr) (P : PSt) (S : List PyData → Prop) (t : TA) : Prop := ∀ σ H Q, StO H l → P σ H → (∀ H' vs ds, S ds → Keep l H H' → StO H' l → Dxs (hid l H') vs ds → Q vs H') → t σ H Q
def GI (l : Addr) (P : PSt) (S : Int → Prop) (t : TE) : Prop := ∀ σ H Q, StO H l → P σ H → (∀ H' i, S i → Keep l H H' → StO H' l → Q (.int i) H') → t σ H Q
/-- a new list, read by its items only -/
def GM (l : Addr) (P : PSt) (S : List PyData → Prop) (t : TE) : Prop := ∀ σ H Q, StO H l → P σ H → (∀ H' p xs ds, S ds → Keep l H H' → StO H' l → p ≠ l → H' p = some (.lst xs) → Dxs (hid l H') xs ds → Q (.ref p) H') → t σ H Q
def GO (l : Addr) (P : PSt) (o : Option Int) (t : TO) : Prop := ∀ σ H Q, StO H l → P σ H → (∀ H', Keep l H H' → StO H' l → Q o H') → t σ H Q
section
variable {l : Addr} {P : PSt} {K : PySem.W.Frag} {S S2 : PyData → Prop} {Ss Ss2 : List PyData → Prop} {N : Int → Prop} {t ta tb : TE} {ts : TA} {d : PyData} {ds : List PyData}
theorem GD.imp (h : GD l P S t) (i : ∀ d, S d → S2 d) : GD l P S2 t := fun σ H Q st p q => h σ H Q st p fun H' v d s => q H' v d (i d s)
theorem GDs.imp (h : GDs l P Ss ts) (i : ∀ d, Ss d → Ss2 d) : GDs l P Ss2 ts := fun σ H Q st p q => h σ H Q st p fun H' v d s => q H' v d (i d s)
theorem GM.imp (h : GM l P Ss t) (i : ∀ d, Ss d → Ss2 d) : GM l P Ss2 t := fun σ H Q st p q => h σ H Q st p fun H' v xs d s => q H' v xs d (i d s)
theorem gd_var {i : Nat} (h : ∀ σ H, P σ H → ∃ v d, σ[i]? = some (some v) ∧ S d ∧ Dx (hid l H) v d) : GD l P S (tVar i) := fun σ H Q st p q => by
  obtain ⟨v, d, e, s, x⟩ := h σ H p
  exact ⟨v, e, q H v d s (Keep.refl l H) st x⟩
theorem gd_c {v : V} (h : ∀ H, Dx H v d) : GD l P (· = d) (tC v) := fun σ H Q st p q => q H v d rfl (Keep.refl l H) st (h _)
theorem gi_val {n : Int} (h : ∀ (σ : L2.St) (H : Hp) (Q : VK), Q (.int n) H → t σ H Q) : GI l P (· = n) t := fun σ H Q st p q => h σ H Q (q H n rfl (Keep.refl l H) st)
theorem gi_var {i : Nat} (h : ∀ σ H, P σ H → ∃ n, σ[i]? = some (some (.int n)) ∧ N n) : GI l P N (tVar i) := fun σ H Q st p q => by
  obtain ⟨n, e, s⟩ := h σ H p
  exact ⟨.int n, e, q H n s (Keep.refl l H) st⟩
theorem gd_int (h : GI l P N t) : GD l P (fun d => ∃ i, N i ∧ d = .int i) t := fun σ H Q st p q => h σ H Q st p fun H' i s k st' => q H' _ _ ⟨i, s, rfl⟩ k st' (.int i)
theorem gds_nil : GDs l P (· = []) tNil := fun σ H Q st p q => q H _ _ rfl (Keep.refl l H) st .nil
theorem gds_cons (kp : Kp l P) (h : GD l P S t) (hs : GDs l P Ss ts) : GDs l P (fun x => ∃ d ds, x = d :: ds ∧ S d ∧ Ss ds) (tCons t ts) := fun σ H Q st p q =>
  h σ H _ st p fun H1 v d s k st1 x => hs σ H1 _ st1 (kp _ _ _ k st1 p) fun H2 vs ds ss k2 st2 xs => q H2 _ _ ⟨d, ds, rfl, s, ss⟩ (k.trans k2) st2 (.cons (x.up k2.same) xs)
theorem gd_tup (h : GDs l P Ss ts) (hz : ∀ ds, Ss ds → ds.length ≤ sizeLine) : GD l P (fun d => ∃ ds, d = .tuple ds ∧ Ss ds) (tTup ts) := fun σ H Q st p q =>
  h σ H _ st p fun H1 vs ds s k st1 x => ⟨by rw [x.len]; exact hz ds s, fun a na => q _ _ _ ⟨ds, rfl, s⟩ (k.new na) (st1.new na) (dx_tup na st1 x)⟩
theorem gd_lst (h : GDs l P Ss ts) (hz : ∀ ds, Ss ds → ds.length ≤ sizeLine) : GD l P (fun d => ∃ ds, d = .list ds ∧ Ss ds) (tLstS ts) := fun σ H Q st p q =>
  h σ H _ st p fun H1 vs ds s k st1 x => ⟨by rw [x.len]; exact hz ds s, fun a na za => q _ _ _ ⟨ds, rfl, s⟩ (k.new na) (st1.new na) (dx_lst na za st1 x)⟩
theorem gm_lst (h : GDs l P Ss ts) (hz : ∀ ds, Ss ds → ds.length ≤ sizeLine) : GM l P Ss (tLst ts) := fun σ H Q st p q =>
  h σ H _ st p fun H1 vs ds s k st1 x => ⟨by rw [x.len]; exact hz ds s, fun a na => q _ a vs ds s (k.new na) (st1.new na) (st1.ne na) upd_same (x.up (hnew na))⟩
theorem gm_var {i : Nat} (h : ∀ σ H, P σ H → ∃ p xs ds, σ[i]? = some (some (.ref p)) ∧ Ss ds ∧ p ≠ l ∧ H p = some (.lst xs) ∧ Dxs (hid l H) xs ds) : GM l P Ss (tVar i) := fun σ H Q st p q => by
  obtain ⟨a, xs, ds, e, s, na, ea, x⟩ := h σ H p
  exact ⟨.ref a, e, q H a xs ds s (Keep.refl l H) st na ea x⟩
theorem gm_cat (kp : Kp l P) (h : GM l P Ss ta) (h2 : GM l P Ss2 tb) (hz : ∀ x y, Ss x → Ss2 y → x.length + y.length ≤ sizeLine) : GM l P (fun z => ∃ x y, z = x ++ y ∧ Ss x ∧ Ss2 y) (tOp rCat ta tb) := fun σ H Q st p q =>
  h σ H _ st p fun H1 a xs ds s k st1 na ea x => h2 σ H1 _ st1 (kp _ _ _ k st1 p) fun H2 b ys es s2 k2 st2 nb eb y =>
    ⟨a, b, xs, ys, rfl, rfl, k2 _ _ na ea, eb, by rw [x.len, y.len]; exact hz _ _ s s2, fun c nc => q _ c _ _ ⟨ds, es, rfl, s, s2⟩ ((k.trans k2).new nc) (st2.new nc) (st2.ne nc) upd_same (((x.up k2.same).app y).up (hnew nc))⟩
theorem gd_ixM {n : Int} (kp : Kp l P) (h : GM l P Ss ta) (hi : GI l P (fun k => 0 ≤ k ∧ k < n) tb) (hn : ∀ ds, Ss ds → (ds.length : Int) = n) : GD l P (fun d => ∃ ds, Ss ds ∧ d ∈ ds) (tOp (rIxL K) ta tb) := fun σ H Q st p q =>
  h σ H _ st p fun H1 a xs ds s k st1 na ea x => hi σ H1 _ st1 (kp _ _ _ k st1 p) fun H2 i hb k2 st2 => by
    have hl := hn ds s
    have hx := x.len
    have lt : i.toNat < xs.length := by omega
    obtain ⟨d, ed, hd⟩ := x.get' (List.getElem?_eq_getElem lt)
    have ix : atI xs i = some xs[i.toNat] := by
      have z := atI_nat (xs := xs) (j := i.toNat) (List.getElem?_eq_getElem lt)
      rwa [show ((i.toNat : Nat) : Int) = i by omega] at z
    exact ⟨a, xs, i, _, rfl, rfl, .inl (.inl (k2 _ _ na ea)), ix, q H2 _ d ⟨ds, s, List.mem_of_getElem? ed⟩ (k.trans k2) st2 (hd.up k2.same)⟩
/-- t[k], t a tuple that is known -/
theorem gd_ixT {k : Nat} (kp : Kp l P) (h : GD l P (· = .tuple ds) ta) (hi : GI l P (· = (k : Int)) tb) (hk : ds[k]? = some d) : GD l P (· = d) (tOp (rIxT K) ta tb) := fun σ H Q st p q =>
  h σ H _ st p fun H1 v e s k1 st1 x => hi σ H1 _ st1 (kp _ _ _ k1 st1 p) fun H2 i hb k2 st2 => by
    subst s hb
    obtain ⟨a, xs, rfl, na, ea, hx⟩ := dx_tupOf x
    have lt : k < ds.length := by
      rcases Nat.lt_or_ge k ds.length with z | z
      · exact z
      · rw [List.getElem?_eq_none z] at hk; cases hk
    have lt2 : k < xs.length := by rw [hx.len]; exact lt
    obtain ⟨d2, ed, hd⟩ := hx.get' (List.getElem?_eq_getElem lt2)
    rw [hk] at ed
    cases ed
    exact ⟨a, xs, k, _, rfl, rfl, .inl (.inl (k2 _ _ na ea)), atI_nat (List.getElem?_eq_getElem lt2), q H2 _ d rfl (k1.trans k2) st2 (hd.up k2.same)⟩
theorem go_none : GO l P none tNoPart := fun σ H Q st p q => q H (Keep.refl l H) st
theorem go_some {n : Int} (h : GI l P (· = n) t) : GO l P (some n) (tPart t) := fun σ H Q st p q => h σ H _ st p fun H' i s k st' => ⟨i, rfl, by subst s; exact q H' k st'⟩
theorem gd_slice {lo hi : Option Int} {tl th : TO} (kp : Kp l P) (h : GD l P (· = .tuple ds) ta) (hl : GO l P lo tl) (hh : GO l P hi th) : GD l P (· = .tuple (cutD ds lo hi)) (L2.tSl (rSlA K) ta tl th) := fun σ H Q st p q =>
  h σ H _ st p fun H1 v e s k1 st1 x => hl σ H1 _ st1 (kp _ _ _ k1 st1 p) fun H2 k2 st2 => hh σ H2 _ st2 (kp _ _ _ (k1.trans k2) st2 p) fun H3 k3 st3 => by
    subst s
    exact sl_of ((x.up k2.same).up k3.same) st3 fun H4 a k4 st4 y => q H4 _ _ rfl (((k1.trans k2).trans k3).trans k4) st4 y
theorem gd_cat (kp : Kp l P) (h : GD l P S ta) (h2 : GD l P S2 tb) (t1 : ∀ d, S d → ∃ ds, d = .tuple ds ∧ ds.length ≤ 1000) (t2 : ∀ d, S2 d → ∃ ds, d = .tuple ds ∧ ds.length ≤ 1000) :
    GD l P (fun d => ∃ x y, S (.tuple x) ∧ S2 (.tuple y) ∧ d = .tuple (x ++ y)) (tOp (rCatA K) ta tb) := fun σ H Q st p q =>
  h σ H _ st p fun H1 v e s k1 st1 x => h2 σ H1 _ st1 (kp _ _ _ k1 st1 p) fun H2 u e2 s2 k2 st2 y => by
    obtain ⟨ds, rfl, z1⟩ := t1 e s
    obtain ⟨es, rfl, z2⟩ := t2 e2 s2
    have hb : (2000 : Nat) ≤ sizeLine := by decide
    exact cat_of (x.up k2.same) y st2 (by omega) fun H3 a k3 st3 z => q H3 _ _ ⟨ds, es, s, s2, rfl⟩ ((k1.trans k2).trans k3) st3 z
def rLst2 (K : PySem.W.Frag) : List V → Hp → VK → Prop := fun xs H Q => ∃ p ys, xs = [.ref p] ∧ (SqL K H p ys ∨ SqT K H p ys) ∧ ∀ l, H l = none → l ≠ sysModules → Q (.ref l) (upd H l (.lst ys))
theorem call_lst2 {X : Cx} : CallR X (.type "list") (rLst2 X.K) := call_listS
theorem gd_listOf (h : GD l P (· = .tuple ds) t) : GD l P (· = .list ds) (tCB (rLst2 K) (tCons t tNil)) := fun σ H Q st p q =>
  h σ H _ st p fun H1 v e s k1 st1 x => by
    subst s
    obtain ⟨a, xs, rfl, na, ea, hx⟩ := dx_tupOf x
    exact ⟨a, xs, rfl, .inr (.inl (.inl ea)), fun b nb zb => q _ _ _ rfl (k1.new nb) (st1.new nb) (dx_lst nb zb st1 hx)⟩
theorem gd_rep {k : Int} (kp : Kp l P) (h : GD l P (· = .tuple ds) ta) (hb : GI l P (· = k) tb) (k2 : 2 ≤ k) (k1 : k ≤ 1000) (hn : ds ≠ []) (hz : ds.length ≤ 1000) :
    GD l P (· = .tuple (List.replicate k.toNat ds).flatten) (tOp (rRepT K) ta tb) := fun σ H Q st p q =>
  h σ H _ st p fun H1 v e s k1' st1 x => hb σ H1 _ st1 (kp _ _ _ k1' st1 p) fun H2 i hb k2' st2 => by
    subst s hb
    obtain ⟨a, xs, rfl, na, ea, hx⟩ := dx_tupOf (x.up k2'.same)
    have hl := hx.len
    refine ⟨a, i, xs, rfl, rfl, .inl (.inl ea), fun z => ?_, k2, k1, by omega, fun b nb => q _ _ _ rfl ((k1'.trans k2').new nb) (st2.new nb) (dx_tup nb st2 (dxs_rep hx _))⟩
    subst z
    exact hn (List.eq_nil_of_length_eq_zero (by simpa using hl.symm))
theorem gd_dict : GD l P (· = .dict []) tDNewK := fun σ H Q st p q b nb => q _ _ _ rfl ((Keep.refl l H).new nb) (st.new nb) (dx_dic nb st)
end
end KX

set_option maxRecDepth 100000
set_option maxHeartbeats 4000000
namespace KX
open PySem PySem.Spec PyProof.Rows L2
/-! ### known names, and data of a bounded weight -/
def Env (l : Addr) (σ0 : L2.St) (L : List (V × PyData)) (M : List (Addr × List V × List PyData)) : PSt := fun σ H =>
  σ = σ0 ∧ (∀ p ∈ L, Dx (hid l H) p.1 p.2) ∧ ∀ m ∈ M, m.1 ≠ l ∧ H m.1 = some (.lst m.2.1) ∧ Dxs (hid l H) m.2.1 m.2.2
theorem kp_env {l : Addr} {σ0 : L2.St} {L : List (V × PyData)} {M : List (Addr × List V × List PyData)} : Kp l (Env l σ0 L M) := fun σ H H' k st h =>
  ⟨h.1, fun p hp => (h.2.1 p hp).up k.same, fun m hm => by
    obtain ⟨h1, h2, h3⟩ := h.2.2 m hm
    exact ⟨h1, k _ _ h1 h2, h3.up k.same⟩⟩
def Gp (n : Nat) (d : PyData) : Prop := fine (10 ^ 40) d = true ∧ wt d ≤ n ∧ d.plain = true
def Lp (n : Nat) (ds : List PyData) : Prop := fineAll (10 ^ 40) ds = true ∧ wtAll ds ≤ n ∧ PyData.plainAll ds = true
def TpS (n : Nat) (d : PyData) : Prop := ∃ ds, d = .tuple ds ∧ Lp n ds
def Al (S : PyData → Prop) (n : Nat) (ds : List PyData) : Prop := ds.length = n ∧ ∀ d ∈ ds, S d
theorem plainAll_app : ∀ xs ys : List PyData, PyData.plainAll (xs ++ ys) = (PyData.plainAll xs && PyData.plainAll ys)
  | [], ys => by simp [PyData.plainAll]
  | x :: xs, ys => by simp [PyData.plainAll, plainAll_app xs ys, Bool.and_assoc]
theorem Lp.nil : Lp 0 [] := ⟨rfl, Nat.le_refl _, rfl⟩
theorem Lp.cons {a b : Nat} {d : PyData} {ds : List PyData} (h : Gp a d) (t : Lp b ds) : Lp (a + b) (d :: ds) := by
  refine ⟨by simp [fineAll, h.1, t.1], ?_, by simp [PyData.plainAll, h.2.2, t.2.2]⟩
  have h1 := h.2.1
  have h2 := t.2.1
  simp [wtAll]
  omega
theorem Lp.app {a b : Nat} {x y : List PyData} (h : Lp a x) (t : Lp b y) : Lp (a + b) (x ++ y) := by
  refine ⟨by rw [fineAll_app, h.1, t.1]; rfl, ?_, by rw [plainAll_app, h.2.2, t.2.2]; rfl⟩
  have h1 := h.2.1
  have h2 := t.2.1
  rw [wtAll_app]
  omega
theorem Lp.mono {a b : Nat} {x : List PyData} (h : Lp a x) (le : a ≤ b) : Lp b x := ⟨h.1, Nat.le_trans h.2.1 le, h.2.2⟩
theorem Gp.mono {a b : Nat} {x : PyData} (h : Gp a x) (le : a ≤ b) : Gp b x := ⟨h.1, Nat.le_trans h.2.1 le, h.2.2⟩
theorem Lp.split {n k : Nat} {x : List PyData} (h : Lp n x) : Lp n (x.take k) ∧ Lp n (x.drop k) := by
  obtain ⟨h1, h2, h3⟩ := h
  rw [← List.take_append_drop k x, fineAll_app, Bool.and_eq_true] at h1
  rw [← List.take_append_drop k x, wtAll_app] at h2
  rw [← List.take_append_drop k x, plainAll_app, Bool.and_eq_true] at h3
  exact ⟨⟨h1.1, by omega, h3.1⟩, ⟨h1.2, by omega, h3.2⟩⟩
theorem Lp.cut {n : Nat} {x : List PyData} (h : Lp n x) (lo hi : Option Int) : Lp n (cutD x lo hi) := (h.split.2).split.1
theorem Lp.len {n : Nat} {x : List PyData} (h : Lp n x) : x.length ≤ n := Nat.le_trans (len_wt x) h.2.1
theorem Lp.tup {n : Nat} {x : List PyData} (h : Lp n x) : Gp (n + 1) (.tuple x) := ⟨by simpa [fine] using h.1, by have := h.2.1; simp [wt]; omega, by simpa [PyData.plain] using h.2.2⟩
theorem Lp.lst {n : Nat} {x : List PyData} (h : Lp n x) : Gp (n + 1) (.list x) := ⟨by simpa [fine] using h.1, by have := h.2.1; simp [wt]; omega, by simpa [PyData.plain] using h.2.2⟩
theorem TpS.gp {n : Nat} {d : PyData} (h : TpS n d) : Gp (n + 1) d := by
  obtain ⟨ds, rfl, h⟩ := h
  exact h.tup
theorem TpS.mono {a b : Nat} {d : PyData} (h : TpS a d) (le : a ≤ b) : TpS b d := by
  obtain ⟨ds, rfl, h⟩ := h
  exact ⟨ds, rfl, h.mono le⟩
theorem big_line : (1000 : Nat) ≤ sizeLine := by decide
section
variable {l : Addr} {P : PSt} {K : PySem.W.Frag} {S : PyData → Prop} {t ta tb : TE} {ts : TA} {ds : List PyData} {a b n : Nat} {σ0 : L2.St} {L : List (V × PyData)} {M : List (Addr × List V × List PyData)}
theorem gd_env {i : Nat} {v : V} {d : PyData} (h : σ0[i]? = some (some v)) (hm : (v, d) ∈ L) : GD l (Env l σ0 L M) (· = d) (tVar i) :=
  gd_var fun σ H p => ⟨v, d, by rw [p.1]; exact h, rfl, p.2.1 _ hm⟩
theorem gi_env {i : Nat} {k : Int} (h : σ0[i]? = some (some (.int k))) : GI l (Env l σ0 L M) (· = k) (tVar i) := gi_var fun σ H p => ⟨k, by rw [p.1]; exact h, rfl⟩
theorem gm_env {i : Nat} {p : Addr} {xs : List V} (h : σ0[i]? = some (some (.ref p))) (hm : (p, xs, ds) ∈ M) : GM l (Env l σ0 L M) (· = ds) (tVar i) :=
  gm_var fun σ H q => ⟨p, xs, ds, by rw [q.1]; exact h, rfl, (q.2.2 _ hm).1, (q.2.2 _ hm).2.1, (q.2.2 _ hm).2.2⟩
theorem gl_nil : GDs l P (Lp 0) tNil := gds_nil.imp fun _ e => by subst e; exact Lp.nil
theorem gl_cons (kp : Kp l P) (h : GD l P (Gp a) t) (hs : GDs l P (Lp b) ts) : GDs l P (Lp (a + b)) (tCons t ts) := (gds_cons kp h hs).imp fun _ z => by
  obtain ⟨d, ds, rfl, z1, z2⟩ := z
  exact Lp.cons z1 z2
theorem gl_tup (h : GDs l P (Lp n) ts) (hn : n ≤ 1000) : GD l P (TpS n) (tTup ts) := (gd_tup h fun ds z => Nat.le_trans z.len (Nat.le_trans hn big_line)).imp fun _ z => by
  obtain ⟨ds, rfl, z⟩ := z
  exact ⟨ds, rfl, z⟩
theorem gl_cat (kp : Kp l P) (h : GD l P (TpS a) ta) (h2 : GD l P (TpS b) tb) (ha : a ≤ 1000) (hb : b ≤ 1000) : GD l P (TpS (a + b)) (tOp (rCatA K) ta tb) :=
  (gd_cat kp h h2 (fun d z => by obtain ⟨ds, rfl, z⟩ := z; exact ⟨ds, rfl, Nat.le_trans z.len ha⟩) fun d z => by obtain ⟨ds, rfl, z⟩ := z; exact ⟨ds, rfl, Nat.le_trans z.len hb⟩).imp fun d z => by
    obtain ⟨x, y, ⟨x', e1, h1⟩, ⟨y', e2, h2⟩, rfl⟩ := z
    cases e1
    cases e2
    exact ⟨_, rfl, h1.app h2⟩
theorem gl_slice {lo hi : Option Int} {tl th : TO} (kp : Kp l P) (h : GD l P (· = .tuple ds) ta) (z : Lp n ds) (hl : GO l P lo tl) (hh : GO l P hi th) : GD l P (TpS n) (L2.tSl (rSlA K) ta tl th) :=
  (gd_slice kp h hl hh).imp fun d e => ⟨_, e, z.cut lo hi⟩
theorem al_nil : GDs l P (Al S 0) tNil := gds_nil.imp fun _ e => by subst e; exact ⟨rfl, fun d h => by cases h⟩
theorem al_cons (kp : Kp l P) (h : GD l P S t) (hs : GDs l P (Al S n) ts) : GDs l P (Al S (n + 1)) (tCons t ts) := (gds_cons kp h hs).imp fun _ z => by
  obtain ⟨d, ds, rfl, z1, z2, z3⟩ := z
  refine ⟨by simp [z2], fun x hx => ?_⟩
  rcases List.mem_cons.mp hx with e | hx
  · rw [e]; exact z1
  · exact z3 x hx
theorem al_lst (h : GDs l P (Al S n) ts) (hn : n ≤ 1000) : GM l P (Al S n) (tLst ts) := gm_lst h fun ds z => by rw [z.1]; exact Nat.le_trans hn big_line
theorem al_cat {m : Nat} (kp : Kp l P) (h : GM l P (Al S n) ta) (h2 : GM l P (Al S m) tb) (hn : n + m ≤ 1000) : GM l P (Al S (n + m)) (tOp rCat ta tb) :=
  (gm_cat kp h h2 fun x y z1 z2 => by rw [z1.1, z2.1]; exact Nat.le_trans hn big_line).imp fun z w => by
    obtain ⟨x, y, rfl, w1, w2⟩ := w
    refine ⟨by rw [List.length_append, w1.1, w2.1], fun d hd => ?_⟩
    rcases List.mem_append.mp hd with q | q
    · exact w1.2 d q
    · exact w2.2 d q
/-- one of a list, by a number within it -/
theorem al_ix {m : Int} (kp : Kp l P) (h : GM l P (Al S n) ta) (hi : GI l P (fun k => 0 ≤ k ∧ k < m) tb) (hn : (n : Int) = m) : GD l P S (tOp (rIxL K) ta tb) :=
  (gd_ixM kp h hi fun ds z => by rw [z.1]; exact hn).imp fun d z => by
    obtain ⟨ds, z1, z2⟩ := z
    exact z1.2 d z2
end
theorem GI.imp {l : Addr} {P : PSt} {N N2 : Int → Prop} {t : TE} (h : GI l P N t) (i : ∀ d, N d → N2 d) : GI l P N2 t := fun σ H Q st p q => h σ H Q st p fun H' v s => q H' v (i v s)
theorem gp_int {i : Int} (h : i.natAbs ≤ 10 ^ 40) {n : Nat} (hn : 1 ≤ n) : Gp n (.int i) := ⟨by simpa [fine] using h, by simpa [wt] using hn, rfl⟩
theorem gcn {l : Addr} {P : PSt} {n : Nat} {v : V} {d : PyData} (h : ∀ H, Dx H v d) (g : Gp n d) : GD l P (Gp n) (tC v) := (gd_c h).imp fun _ e => by subst e; exact g
theorem gin {l : Addr} {P : PSt} {n : Nat} {k : Int} {t : TE} (h : GI l P (· = k) t) (hk : k.natAbs ≤ 10 ^ 40) (hn : 1 ≤ n) : GD l P (Gp n) t := (gd_int h).imp fun d e => by
  obtain ⟨i, rfl, rfl⟩ := e
  exact gp_int hk hn
theorem alld_nil {l : Addr} {H : Hp} : ∀ p ∈ ([] : List (V × PyData)), Dx (hid l H) p.1 p.2 := fun p h => by cases h
theorem alld_cons {l : Addr} {H : Hp} {v : V} {d : PyData} {L : List (V × PyData)} (h : Dx (hid l H) v d) (t : ∀ p ∈ L, Dx (hid l H) p.1 p.2) : ∀ p ∈ (v, d) :: L, Dx (hid l H) p.1 p.2 := fun p hp => by
  rcases List.mem_cons.mp hp with e | hp
  · rw [e]; exact h
  · exact t p hp
theorem alld_up {l : Addr} {H H' : Hp} {L : List (V × PyData)} (k : Keep l H H') (t : ∀ p ∈ L, Dx (hid l H) p.1 p.2) : ∀ p ∈ L, Dx (hid l H') p.1 p.2 := fun p hp => (t p hp).up k.same
theorem allm_nil {l : Addr} {H : Hp} : ∀ m ∈ ([] : List (Addr × List V × List PyData)), m.1 ≠ l ∧ H m.1 = some (.lst m.2.1) ∧ Dxs (hid l H) m.2.1 m.2.2 := fun p h => by cases h
theorem allm_one {l : Addr} {H : Hp} {p : Addr} {xs : List V} {ds : List PyData} (n : p ≠ l) (e : H p = some (.lst xs)) (x : Dxs (hid l H) xs ds) :
    ∀ m ∈ [(p, xs, ds)], m.1 ≠ l ∧ H m.1 = some (.lst m.2.1) ∧ Dxs (hid l H) m.2.1 m.2.2 := fun q h => by
  obtain rfl := List.mem_singleton.mp h
  exact ⟨n, e, x⟩
/-- a name gets data; a name gets a list -/
theorem gd_seq {l : Addr} {P : PSt} {S : PyData → Prop} {t : TE} {u : TS} {i : Nat} {D : Ends} {σ : L2.St} {H : Hp} (h : GD l P S t) (st : StO H l) (p : P σ H) (k : ∀ H' v d, S d → Keep l H H' → StO H' l → Dx (hid l H') v d → u D (σ.set i (some v)) H') :
    tSeq (tAsg t (gName i)) u D σ H := h σ H _ st p fun H' v d s k1 st1 x => k H' v d s k1 st1 x
theorem gm_seq {l : Addr} {P : PSt} {S : List PyData → Prop} {t : TE} {u : TS} {i : Nat} {D : Ends} {σ : L2.St} {H : Hp} (h : GM l P S t) (st : StO H l) (p : P σ H)
    (k : ∀ H' a xs ds, S ds → Keep l H H' → StO H' l → a ≠ l → H' a = some (.lst xs) → Dxs (hid l H') xs ds → u D (σ.set i (some (.ref a))) H') :
    tSeq (tAsg t (gName i)) u D σ H := h σ H _ st p fun H' a xs ds s k1 st1 n e x => k H' a xs ds s k1 st1 n e x
end KX

set_option maxRecDepth 100000
set_option maxHeartbeats 4000000
namespace U1
open PySem PySem.Spec PyProof.Rows L2 KX
/-! ### the text -/
def topS (i : Nat) : Stmt := PySem.Challenge.pw_spareskept_k02_rowsets_validated.main.body.getD i (.Pass ⟨0, 0, 0, 0⟩)
abbrev sBetween : Stmt := topS 9
abbrev sTupB : Stmt := topS 10
/-- a def of the text as it stands behind the top -/
structure Df (K : PySem.W.Frag) (mg : Str → Option Value) (x : String) (st : Stmt) (ps : List Str) (f : Addr) (fd : FuncData) : Prop where
  F : Fun K x x st f fd
  b : Binds K fd ps []
  g : mg x = some (.ref f)
/-- the built-in names that the text uses -/
structure Bl (mg : Str → Option Value) : Prop where
  isi : mg "isinstance" = none
  bool : mg "bool" = none
  int : mg "int" = none
  str : mg "str" = none
  tuple : mg "tuple" = none
  list : mg "list" = none
  len : mg "len" = none
  all : mg "all" = none
  range : mg "range" = none
  max : mg "max" = none
  min : mg "min" = none
  abs : mg "abs" = none
  repr : mg "repr" = none
  sorted : mg "sorted" = none
  ixe : mg "IndexError" = none
  vae : mg "ValueError" = none
  zip : mg "zip" = none
  kye : mg "KeyError" = none
  sum : mg "sum" = none

/-! ### kinds of data -/
def tyN : PyData → String
  | .none => "NoneType" | .bool _ => "bool" | .int _ => "int" | .str _ => "str" | .list _ => "list" | .tuple _ => "tuple" | .dict _ => "dict"
def isaN (T : String) : PyData → Bool := fun d => (kitB (tyN d) T).getD false
theorem Dx.ty {K : PySem.W.Frag} {H : Hp} {v : V} {d : PyData} (h : Dx H v d) : TyX K H v (.type (tyN d)) := by
  cases h with
  | non => exact .base .non
  | bl b => exact .base (.bl b)
  | int i => exact .base (.int i)
  | str x => exact .base (.str x)
  | lst e n h => exact .base (.lst e)
  | tup e h => exact .base (.tup e)
  | dic e => exact .base (.dK e)
  | dic1 e => exact .base (.dK e)
def okT (T : String) : Bool := (["NoneType", "bool", "int", "str", "list", "tuple", "dict"].all fun a => (kitB a T).isSome)
section
variable {X : Cx}
/-- isinstance(x, T), x data, T a built-in class -/
def rIsD (T : String) : List V → Hp → VK → Prop := fun xs H Q => match xs with
  | [x, c] => c = .ty T ∧ ∃ d, Dx H x d ∧ Q (.bl (isaN T d)) H
  | _ => False
theorem call_isD {T : String} (hT : okT T = true) : CallR X (.builtin "isinstance") (rIsD T) := by
  intro pins s σ H xs us Q I r h
  match xs, h with
  | [x, c], h =>
  obtain ⟨e, d, hd, q⟩ := h
  subst e
  have ha := List.all_eq_true.mp hT
  have hs : (kitB (tyN d) T).isSome = true := ha (tyN d) (by cases d <;> simp [tyN])
  obtain ⟨b, hb⟩ := Option.isSome_iff_exists.mp hs
  have q2 : Q (.bl b) H := by
    have : isaN T d = b := by unfold isaN; rw [hb]; rfl
    rw [← this]; exact q
  exact call_isi pins s σ H _ us Q I r ⟨x, .ty T, .type (tyN d), .type T, b, rfl, .ty T, Dx.ty hd, kit_ty hb, q2⟩
/-- isinstance(x, T) as an expression -/
theorem pe_isD {T x : String} {e : Expr} {te : TE} {p p2 pos : Pos} (hT : okT T = true) (mi : X.mg "isinstance" = none) (hm : X.mg x = none) (hv : bootBuiltins x = some (.type T)) (he : PE X e te) (hg0 : Gl X "isinstance") (hg : Gl X x)
    (hn : (x : Str) ≠ "__name__" := by decide) (hd : ((x : Str) == ("__debug__" : Str)) = false := by decide)
    (h1 : starEach [e, .Name x p2] X.env = (false, eval e X.env) :: starEach [.Name x p2] X.env := by rfl) (h2 : starEach [.Name x p2] X.env = (false, eval (.Name x p2) X.env) :: starEach [] X.env := by rfl)
    (hpl : (backTo pos (starEach [.Name x p2] X.env)).any (·.1) = false := by rfl) :
    PE X (.Call (.Name "isinstance" p) [e, .Name x p2] [] pos) (tCB (rIsD T) (tCons te (tCons (tC (.ty T)) tNil))) := by
  refine ⟨fun pins s σ H Q I h => ?_⟩
  refine (pe_callB (call_isD hT) hg0 mi (by decide +kernel) (pa_cons he (pa_cons (pe_bltn (v := .ty T) hg hm hv rfl hn hd) pa_nil h2) h1) (by decide) (by decide) h1 hpl).run pins s σ H Q I ?_
  exact h
end
/-! ### is_between -/
def betw (lo hi : Int) : PyData → Bool
  | .int i => decide (lo ≤ i) && decide (i ≤ hi)
  | _ => false
def spBetween : Sp := fun vs H Q _ => ∃ v d lo hi, vs = [v, .int lo, .int hi] ∧ Dx H v d ∧ Q (.bl (betw lo hi d)) H
theorem scBetween : FnScope ["value", "low", "high"] ["value", "low", "high"] (defScope sBetween) := ⟨rfl, rfl, rfl, by decide +kernel, rfl, by decide +kernel, by decide +kernel⟩
section
variable {P : Program} {w : World} {K : PySem.W.Frag} {mg : Str → Option Value} {base : Heap}
theorem ok_between {f : Addr} {fd : FuncData} (B : Bl mg) (D : Df K mg "is_between" sBetween ["value", "low", "high"] f fd) : FnOk P w K mg base CX0 1 f fd ["value", "low", "high"] spBetween := by
  refine D.F.ok scBetween (fun vs H Q E h => ?_) (fun cdv A outer s H vs Q E hr h => ?_)
  · obtain ⟨v, d, lo, hi, rfl, _⟩ := h
    rfl
  · obtain ⟨v, d, lo, hi, rfl, hd, q⟩ := h
    refine ⟨_, pss_cons (ps_if (PW.pt (pw_or (pt_val (pe_isD (T := "bool") (x := "bool") (by decide +kernel) B.isi B.bool (by decide +kernel) (pv 0) (by rfl) (by rfl)))
        (pw_or1 (pt_not (pt_val (pe_isD (T := "int") (x := "int") (by decide +kernel) B.isi B.int (by decide +kernel) (pv 0) (by rfl) (by rfl))))))) (pss_one (ps_ret pe_bl)) pss_nil)
      (pss_one (ps_ret (pe_chain op_le op_le (pv 1) (pv 0) (pv 2)))), ?_⟩
    refine ⟨v, rfl, rfl, d, hd, _, rfl, ?_⟩
    cases d with
    | bool b => exact q
    | int i =>
      refine iteF ⟨v, rfl, rfl, _, hd, _, rfl, ?_⟩
      refine iteF ⟨_, rfl, v, rfl, ?_⟩
      cases hd
      refine ⟨lo, i, rfl, rfl, _, rfl, ?_⟩
      have e : betw lo hi (.int i) = (decide (lo ≤ i) && decide (i ≤ hi)) := rfl
      rw [e] at q
      by_cases h : lo ≤ i
      · rw [decide_eq_true h] at q ⊢
        exact iteT ⟨_, rfl, _, _, rfl, rfl, q⟩
      · rw [decide_eq_false h] at q ⊢
        exact iteF q
    | _ => exact iteF ⟨v, rfl, rfl, _, hd, _, rfl, q⟩
end
end U1

namespace U1
open PySem PySem.Spec PyProof.Rows L2 KX
abbrev sName : Stmt := topS 23
abbrev sRow : Stmt := topS 24
abbrev sVals : Stmt := topS 25
/-- the constants of the text -/
structure Cs (mg : Str → Option Value) : Prop where
  wid : ∃ t, mg "MAX_WIDTH" = some (.int 4 t)
  cost : ∃ t, mg "MAX_COST" = some (.int 1000000 t)
  val : ∃ t, mg "MAX_VALUE" = some (.int 1000000000 t)
  exp : ∃ t, mg "MAX_EXPIRY" = some (.int 1000000000 t)
  lets : ∃ t, mg "MAX_LETTERS" = some (.int 8 t)
  abc : ∃ t, mg "LETTERS" = some (.str "abcdefghijklmnopqrstuvwxyz" t)
/-! ### is_tuple_between -/
def tupB (lo hi : Int) : PyData → Bool
  | .tuple ds => decide (lo ≤ (ds.length : Int)) && decide ((ds.length : Int) ≤ hi)
  | _ => false
def spTupB : Sp := fun vs H Q _ => ∃ v d lo hi, vs = [v, .int lo, .int hi] ∧ Dx H v d ∧ Q (.bl (tupB lo hi d)) H
theorem scTupB : FnScope ["value", "low", "high"] ["value", "low", "high"] (defScope sTupB) := ⟨rfl, rfl, rfl, by decide +kernel, rfl, by decide +kernel, by decide +kernel⟩
theorem isa_tuple {d : PyData} : isaN "tuple" d = match d with | .tuple _ => true | _ => false := by
  cases d <;> (simp only [isaN, tyN]; decide +kernel)
theorem isa_str {d : PyData} : isaN "str" d = match d with | .str _ => true | _ => false := by
  cases d <;> (simp only [isaN, tyN]; decide +kernel)
theorem isa_int {d : PyData} : isaN "int" d = match d with | .int _ => true | .bool _ => true | _ => false := by
  cases d <;> (simp only [isaN, tyN]; decide +kernel)
theorem isa_bool {d : PyData} : isaN "bool" d = match d with | .bool _ => true | _ => false := by
  cases d <;> (simp only [isaN, tyN]; decide +kernel)
section
variable {P : Program} {w : World} {K : PySem.W.Frag} {mg : Str → Option Value} {base : Heap}
theorem ok_tupB {f : Addr} {fd : FuncData} (B : Bl mg) (D : Df K mg "is_tuple_between" sTupB ["value", "low", "high"] f fd) : FnOk P w K mg base CX0 1 f fd ["value", "low", "high"] spTupB := by
  refine D.F.ok scTupB (fun vs H Q E h => ?_) (fun cdv A outer s H vs Q E hr h => ?_)
  · obtain ⟨v, d, lo, hi, rfl, _⟩ := h
    rfl
  · obtain ⟨v, d, lo, hi, rfl, hd, q⟩ := h
    refine ⟨_, pss_one (ps_ret (pe_and (pe_isD (T := "tuple") (x := "tuple") (by decide +kernel) B.isi B.tuple (by decide +kernel) (pv 0) (by rfl) (by rfl))
      (pe_one (pe_chain op_le op_le (pv 1) (pe_callB call_len_seq (by rfl) B.len PySem.boot_len (pa_cons (pv 0) pa_nil)) (pv 2))))), ?_⟩
    refine ⟨v, rfl, rfl, d, hd, _, rfl, ?_⟩
    rw [isa_tuple]
    cases d with
    | tuple ds =>
      cases hd with
      | @tup a xs _ e h =>
        refine iteT ⟨_, rfl, _, rfl, a, xs, rfl, .inr (.inl (.inl e)), _, _, rfl, rfl, _, rfl, ?_⟩
        rw [h.len]
        have e : tupB lo hi (.tuple ds) = (decide (lo ≤ (ds.length : Int)) && decide ((ds.length : Int) ≤ hi)) := rfl
        rw [e] at q
        by_cases h : lo ≤ (ds.length : Int)
        · rw [decide_eq_true h] at q ⊢
          exact iteT ⟨_, rfl, _, _, rfl, rfl, q⟩
        · rw [decide_eq_false h] at q ⊢
          exact iteF q
    | _ => exact iteF q
end
/-! ### is_name -/
def abc : Str := "abcdefghijklmnopqrstuvwxyz"
def letD (x : Str) : Bool := x.cps.toList.all fun c => decide (c ∈ abc.cps.toList)
def nameD : PyData → Bool
  | .str x => (decide (1 ≤ (x.length : Int)) && decide ((x.length : Int) ≤ 8)) && letD x
  | _ => false
/-- texts are not too long -/
def smS : PyData → Prop
  | .str x => x.length ≤ sizeLine
  | _ => True
def spName : Sp := fun vs H Q _ => ∃ v d, vs = [v] ∧ Dx H v d ∧ smS d ∧ ∀ H', Same H H' → Q (.bl (nameD d)) H'
theorem scName : FnScope ["value", "letter"] ["value"] (defScope sName) := ⟨rfl, rfl, rfl, by decide +kernel, rfl, by decide +kernel, by decide +kernel⟩
theorem same_new {H : Hp} {p : Addr} {o : HO} (h : H p = none) : Same H (upd H p o) := fun b x e => by
  rw [upd_ne (ne_of_none e h)]
  exact e
theorem same_at {H H' : Hp} {p : Addr} {o : HO} (h : Same H H') (n : H p = none) : Same H (upd H' p o) := fun b x e => by
  rw [upd_ne (ne_of_none e n)]
  exact h _ _ e
section
variable {P : Program} {w : World} {K : PySem.W.Frag} {mg : Str → Option Value} {base : Heap}
theorem ok_name {f : Addr} {fd : FuncData} (B : Bl mg) (C : Cs mg) (D : Df K mg "is_name" sName ["value"] f fd) : FnOk P w K mg base CX0 1 f fd ["value"] spName := by
  obtain ⟨t8, m8⟩ := C.lets
  obtain ⟨ta, ma⟩ := C.abc
  refine D.F.ok scName (fun vs H Q E h => ?_) (fun cdv A outer s H vs Q E hr h => ?_)
  · obtain ⟨v, d, rfl, _⟩ := h
    rfl
  · obtain ⟨v, d, rfl, hd, hsm, q⟩ := h
    refine ⟨_, pss_cons (ps_if (PW.pt (pw_or (pt_not (pt_val (pe_isD (T := "str") (x := "str") (by decide +kernel) B.isi B.str (by decide +kernel) (pv 0) (by rfl) (by rfl))))
        (pw_or1 (pt_not (pt_chain op_le op_le pe_int (pe_callB call_len_str (by rfl) B.len PySem.boot_len (pa_cons (pv 0) pa_nil)) (pe_glob (v := .int 8) (by rfl) m8 ⟨_, rfl⟩)))))) (pss_one (ps_ret pe_bl)) pss_nil)
      (pss_one (ps_ret (pe_callB (cr_all rfl) (by rfl) B.all (by decide +kernel) (pa_cons (pe_lc (own := [("letter", 1)]) (g := gName 1) rfl scName.nd (pi_str (pv 0)) (blkOk_by (N := ["value", "letter"]) (sc := defScope sName) (by decide +kernel))
        (fun _ _ _ _ _ => pg_name (i := 1) scName.nd rfl (Or.inl rfl)) (fun _ _ _ _ _ => pts_nil) (fun _ _ _ _ _ => pe_cmpR op_in_sign (pv 1) (pe_glob (v := .str abc) (by rfl) ma ⟨_, rfl⟩) (by rfl))) pa_nil)))), ?_⟩
    refine ⟨v, rfl, rfl, d, hd, _, rfl, ?_⟩
    rw [isa_str]
    cases d with
    | str x =>
      cases hd
      refine iteF ⟨.str x, rfl, x, rfl, hsm, 1, _, rfl, rfl, _, rfl, ?_⟩
      have en : nameD (.str x) = ((decide (1 ≤ (x.length : Int)) && decide ((x.length : Int) ≤ 8)) && letD x) := rfl
      rw [en] at q
      by_cases h1 : 1 ≤ (x.length : Int)
      · rw [decide_eq_true h1] at q ⊢
        refine iteT ⟨_, _, rfl, rfl, _, rfl, ?_⟩
        by_cases h2 : (x.length : Int) ≤ 8
        · rw [decide_eq_true h2] at q ⊢
          refine iteF ⟨_, rfl, x, rfl, fun D nD => ?_⟩
          refine lc_it walk_str (fun i G => Same H G ∧ G D = some (.lst (((x.cps.toList.take i).map fun c => decide (c ∈ abc.cps.toList)).map V.bl))) ⟨same_at (Same.refl H) nD, upd_same⟩ (fun _ _ _ _ => trivial) (fun i c G G' hi hp hy => ?_) (fun G hp => ?_)
          · obtain ⟨rfl, cc, ec, rfl⟩ := hy
            refine ⟨rfl, _, rfl, cc, abc, rfl, rfl, _, hp.2, ?_, same_at hp.1 nD, ?_⟩
            · rw [List.length_map, List.length_map, List.length_take]
              have hx : x.cps.toList.length = x.length := by simp [Str.length]
              have hb : (8 : Nat) < sizeLine := by decide
              omega
            · rw [upd_same, List.take_add_one, show x.cps.toList[i]? = some cc by simpa using ec]
              simp
          · have hx : x.cps.toList.take x.cps.size = x.cps.toList := List.take_of_length_le (by simp)
            rw [hx] at hp
            refine ⟨D, _, rfl, .inl (.inl hp.2), ?_⟩
            have := q G hp.1
            rw [List.all_map]
            exact this
        · rw [decide_eq_false h2] at q ⊢
          exact iteT (q H (Same.refl H))
      · rw [decide_eq_false h1] at q ⊢
        exact iteF ⟨_, rfl, iteT (q H (Same.refl H))⟩
    | _ => exact iteT (q H (Same.refl H))
end
end U1

namespace U1
open PySem PySem.Spec PyProof.Rows L2 KX
/-! ### are_row_values -/
def valsD : PyData → Bool
  | .tuple ds => (decide (1 ≤ (ds.length : Int)) && decide ((ds.length : Int) ≤ 4)) && ds.all (betw (-1000000000) 1000000000)
  | _ => false
def spVals : Sp := fun vs H Q _ => ∃ v d, vs = [v] ∧ Dx H v d ∧ ∀ H', Same H H' → Q (.bl (valsD d)) H'
theorem scVals : FnScope ["value", "number"] ["value"] (defScope sVals) := ⟨rfl, rfl, rfl, by decide +kernel, rfl, by decide +kernel, by decide +kernel⟩
section
variable {P : Program} {w : World} {K : PySem.W.Frag} {mg : Str → Option Value} {base : Heap}
theorem ok_vals {f fB fT : Addr} {fd fdB fdT : FuncData} (B : Bl mg) (C : Cs mg) (D : Df K mg "are_row_values" sVals ["value"] f fd) (DB : Df K mg "is_between" sBetween ["value", "low", "high"] fB fdB)
    (DT : Df K mg "is_tuple_between" sTupB ["value", "low", "high"] fT fdT) : FnOk P w K mg base CX0 2 f fd ["value"] spVals := by
  obtain ⟨tw, mw⟩ := C.wid
  obtain ⟨tv, mv⟩ := C.val
  have GB : FnOk P w K mg base CX0 1 fB fdB _ spBetween := ok_between B DB
  have GT : FnOk P w K mg base CX0 1 fT fdT _ spTupB := ok_tupB B DT
  refine D.F.ok scVals (fun vs H Q E h => ?_) (fun cdv A outer s H vs Q E hr h => ?_)
  · obtain ⟨v, d, rfl, _⟩ := h
    rfl
  · obtain ⟨v, d, rfl, hd, q⟩ := h
    refine ⟨_, pss_cons (ps_if (pt_not (pt_val (pe_call GT hr (by rfl) DT.g DT.F.kp DT.b .nil pass0 (pa_cons (pv 0) (pa_cons pe_int (pa_cons (pe_glob (v := .int 4) (by rfl) mw ⟨_, rfl⟩) pa_nil)))))) (pss_one (ps_ret pe_bl)) pss_nil)
      (pss_one (ps_ret (pe_callB (cr_all rfl) (by rfl) B.all (by decide +kernel) (pa_cons (pe_lc (own := [("number", 1)]) (g := gName 1) rfl scVals.nd (pi_tup (pv 0)) (blkOk_by (N := ["value", "number"]) (sc := defScope sVals) (by decide +kernel))
        (fun _ _ _ _ _ => pg_name (i := 1) scVals.nd rfl (Or.inl rfl)) (fun _ _ _ _ _ => pts_nil)
        (fun _ _ _ _ _ => pe_call GB hr (by rfl) DB.g DB.F.kp DB.b .nil pass0 (pa_cons (pv 1) (pa_cons (pe_un un_neg (pe_glob (v := .int 1000000000) (by rfl) mv ⟨_, rfl⟩)) (pa_cons (pe_glob (v := .int 1000000000) (by rfl) mv ⟨_, rfl⟩) pa_nil))))) pa_nil)))), ?_⟩
    refine ⟨v, rfl, v, d, 1, 4, rfl, hd, _, rfl, ?_⟩
    cases d with
    | tuple ds =>
      cases hd with
      | @tup a xs _ ea h =>
        have et : tupB 1 4 (.tuple ds) = (decide (1 ≤ (ds.length : Int)) && decide ((ds.length : Int) ≤ 4)) := rfl
        have en : valsD (.tuple ds) = ((decide (1 ≤ (ds.length : Int)) && decide ((ds.length : Int) ≤ 4)) && ds.all (betw (-1000000000) 1000000000)) := rfl
        rw [en] at q
        rw [et]
        cases eb : (decide (1 ≤ (ds.length : Int)) && decide ((ds.length : Int) ≤ 4)) with
        | false =>
          rw [eb] at q
          exact iteT (q H (Same.refl H))
        | true =>
          rw [eb] at q
          have hlen : ds.length ≤ 4 := by
            rw [Bool.and_eq_true] at eb
            have := of_decide_eq_true eb.2
            omega
          refine iteF ⟨.ref a, rfl, a, rfl, ⟨_, .inl (.inl ea)⟩, fun D nD => ?_⟩
          refine lc_tup (xs := xs) (fun i G => Same H G ∧ G D = some (.lst (((ds.take i).map (betw (-1000000000) 1000000000)).map V.bl))) ⟨same_at (Same.refl H) nD, upd_same⟩
            (fun i G hi hp => .inl (.inl (hp.1 _ _ ea))) (fun i x G hx hp => ?_) (fun G hp => ?_)
          · obtain ⟨d, ed, hd⟩ := h.get' hx
            refine ⟨rfl, x, rfl, _, rfl, x, d, -1000000000, 1000000000, rfl, hd.up hp.1, _, hp.2, ?_, same_at hp.1 nD, ?_⟩
            · rw [List.length_map, List.length_map, List.length_take]
              have hb : (4 : Nat) < sizeLine := by decide
              omega
            · rw [upd_same, List.take_add_one, ed]
              simp
          · have hx : ds.take xs.length = ds := List.take_of_length_le (by rw [h.len]; exact Nat.le_refl _)
            rw [hx] at hp
            refine ⟨D, _, rfl, .inl (.inl hp.2), ?_⟩
            have := q G hp.1
            rw [List.all_map]
            exact this
    | _ => exact iteT (q H (Same.refl H))
end
/-! ### is_row -/
def rowD : PyData → Bool
  | .tuple [n, c, vs, e] => nameD n && betw 1 1000000 c && (valsD vs && betw 1 1000000000 e)
  | _ => false
/-- all texts are not too long -/
def smA : PyData → Prop
  | .tuple ds => ∀ d ∈ ds, smS d
  | _ => True
def spRow : Sp := fun vs H Q _ => ∃ v d, vs = [v] ∧ Dx H v d ∧ smA d ∧ ∀ H', Same H H' → Q (.bl (rowD d)) H'
theorem scRow : FnScope ["value", "name", "cost", "values", "expiry"] ["value"] (defScope sRow) := ⟨rfl, rfl, rfl, by decide +kernel, rfl, by decide +kernel, by decide +kernel⟩
theorem tupB_four {d : PyData} : tupB 4 4 d = true → ∃ a b c e, d = .tuple [a, b, c, e] := by
  intro h
  cases d with
  | tuple ds =>
    have e : (decide (4 ≤ (ds.length : Int)) && decide ((ds.length : Int) ≤ 4)) = true := h
    rw [Bool.and_eq_true] at e
    have h1 := of_decide_eq_true e.1
    have h2 := of_decide_eq_true e.2
    match ds, h1, h2 with
    | [a, b, c, e], _, _ => exact ⟨a, b, c, e, rfl⟩
    | [], h1, _ => simp at h1
    | [_], h1, _ => simp at h1
    | [_, _], h1, _ => simp at h1
    | [_, _, _], h1, _ => simp at h1
    | _ :: _ :: _ :: _ :: _ :: _, _, h2 => simp at h2; omega
  | _ => cases h
theorem rowD_not {d : PyData} (h : tupB 4 4 d = false) : rowD d = false := by
  unfold rowD
  split
  · simp [tupB] at h
  · rfl
section
variable {P : Program} {w : World} {K : PySem.W.Frag} {mg : Str → Option Value} {base : Heap}
theorem ok_row {f fB fT fN fV : Addr} {fd fdB fdT fdN fdV : FuncData} (B : Bl mg) (C : Cs mg) (D : Df K mg "is_row" sRow ["value"] f fd) (DB : Df K mg "is_between" sBetween ["value", "low", "high"] fB fdB)
    (DT : Df K mg "is_tuple_between" sTupB ["value", "low", "high"] fT fdT) (DN : Df K mg "is_name" sName ["value"] fN fdN) (DV : Df K mg "are_row_values" sVals ["value"] fV fdV) : FnOk P w K mg base CX0 3 f fd ["value"] spRow := by
  obtain ⟨tc, mc⟩ := C.cost
  obtain ⟨te, me⟩ := C.exp
  have GB : FnOk P w K mg base CX0 2 fB fdB _ spBetween := (ok_between B DB).mono (by decide)
  have GT : FnOk P w K mg base CX0 2 fT fdT _ spTupB := (ok_tupB B DT).mono (by decide)
  have GN : FnOk P w K mg base CX0 2 fN fdN _ spName := (ok_name B C DN).mono (by decide)
  have GV : FnOk P w K mg base CX0 2 fV fdV _ spVals := ok_vals B C DV DB DT
  refine D.F.ok scRow (fun vs H Q E h => ?_) (fun cdv A outer s H vs Q E hr h => ?_)
  · obtain ⟨v, d, rfl, _⟩ := h
    rfl
  · obtain ⟨v, d, rfl, hd, hsm, q⟩ := h
    have nd := scRow.nd
    refine ⟨_, pss_cons (ps_if (pt_not (pt_val (pe_call GT hr (by rfl) DT.g DT.F.kp DT.b .nil pass0 (pa_cons (pv 0) (pa_cons pe_int (pa_cons pe_int pa_nil)))))) (pss_one (ps_ret pe_bl)) pss_nil)
      (pss_cons (ps_asg (pv 0) (pg_tup (by rfl) (pgs_cons (pg_name (i := 1) nd rfl (.inl rfl)) (pgs_cons (pg_name (i := 2) nd rfl (.inl rfl)) (pgs_cons (pg_name (i := 3) nd rfl (.inl rfl)) (pgs_cons (pg_name (i := 4) nd rfl (.inl rfl)) pgs_nil))))))
      (pss_cons (ps_if (PW.pt (pw_or (pt_not (pt_val (pe_call GN hr (by rfl) DN.g DN.F.kp DN.b .nil pass0 (pa_cons (pv 1) pa_nil))))
        (pw_or1 (pt_not (pt_val (pe_call GB hr (by rfl) DB.g DB.F.kp DB.b .nil pass0 (pa_cons (pv 2) (pa_cons pe_int (pa_cons (pe_glob (v := .int 1000000) (by rfl) mc ⟨_, rfl⟩) pa_nil))))))))) (pss_one (ps_ret pe_bl)) pss_nil)
      (pss_one (ps_ret (pe_and (pe_call GV hr (by rfl) DV.g DV.F.kp DV.b .nil pass0 (pa_cons (pv 3) pa_nil))
        (pe_one (pe_call GB hr (by rfl) DB.g DB.F.kp DB.b .nil pass0 (pa_cons (pv 4) (pa_cons pe_int (pa_cons (pe_glob (v := .int 1000000000) (by rfl) me ⟨_, rfl⟩) pa_nil)))))))))), ?_⟩
    refine ⟨v, rfl, v, d, 4, 4, rfl, hd, _, rfl, ?_⟩
    cases eb : tupB 4 4 d with
    | false =>
      rw [rowD_not eb] at q
      exact iteT (q H (Same.refl H))
    | true =>
      obtain ⟨n, c, vs, e, rfl⟩ := tupB_four eb
      cases hd with
      | @tup a xs _ ea h =>
        match xs, h, ea with
        | [vn, vc, vv, ve], .cons hn (.cons hc (.cons hv (.cons he .nil))), ea =>
          have sn : smS n := hsm n (by simp)
          refine iteF ⟨.ref a, rfl, a, _, rfl, .inl (.inl ea), rfl, _, _, rfl, _, _, rfl, _, _, rfl, _, _, rfl, rfl, ?_⟩
          refine ⟨vn, rfl, vn, n, rfl, hn, sn, fun H1 s1 => ⟨_, rfl, ?_⟩⟩
          have er : rowD (.tuple [n, c, vs, e]) = (nameD n && betw 1 1000000 c && (valsD vs && betw 1 1000000000 e)) := rfl
          rw [er] at q
          cases en : nameD n with
          | false =>
            rw [en] at q
            exact iteT (iteT (q H1 s1))
          | true =>
            rw [en] at q
            refine iteF ⟨vc, rfl, vc, c, 1, 1000000, rfl, hc.up s1, _, rfl, ?_⟩
            cases ec : betw 1 1000000 c with
            | false =>
              rw [ec] at q
              exact iteT (q H1 s1)
            | true =>
              rw [ec] at q
              refine iteF ⟨vv, rfl, vv, vs, rfl, hv.up s1, fun H2 s2 => ⟨_, rfl, ?_⟩⟩
              cases ev : valsD vs with
              | false =>
                rw [ev] at q
                exact iteF (q H2 (s1.trans s2))
              | true =>
                rw [ev] at q
                exact iteT ⟨ve, rfl, ve, e, 1, 1000000000, rfl, (he.up s1).up s2, q H2 (s1.trans s2)⟩
end
end U1

set_option maxRecDepth 100000
set_option maxHeartbeats 4000000
namespace KX
open PySem PySem.Spec PyProof.Rows L2
theorem countP_eqU {x : V} : ∀ {xs : List V} {us : List Value}, Vals xs us → xs.all flatV = true → us.countP (eqU x) = xs.countP fun y => eqV y x
  | _, _, .nil, _ => rfl
  | y :: xs, u :: us, .cons r t, f => by
    rw [List.all_cons, Bool.and_eq_true] at f
    rw [List.countP_cons, List.countP_cons, eqU_of r f.1, countP_eqU t f.2]
section
variable {X : Cx}
/-- xs.count(y), flat items -/
def rCntF (K : PySem.W.Frag) : V → List V → Hp → VK → Prop := fun x xs H Q => ∃ (p : Addr) (ys : List V) (y : V), x = .ref p ∧ xs = [y] ∧ SqL K H p ys ∧ flatV y = true ∧ ys.all flatV = true ∧ Q (.int (ys.countP fun z => eqV z y : Nat)) H
theorem mt_countF : MtR X "list.count" (rCntF X.K) := by
  intro pins s σ H x xs v us Q I rx rxs h
  obtain ⟨p, ys, y, rfl, rfl, hs, fy, fs, q⟩ := h
  cases rx
  obtain ⟨u, rfl, ru⟩ := rxs.one
  obtain ⟨its, rv, ⟨⟨cls, dd, data, sl⟩, n, ho, hc, hdn, hd⟩, hlen⟩ := I.list hs
  dsimp only at hc hd
  subst hc hd
  have same : its.toArray.toList.countP (eqU y) = ys.countP fun z => eqV z y := countP_eqU rv fs
  refine call_meets PySem.F.slot_list_count ⟨_, ho, rfl⟩ PySem.F.entry_list_count (PySem.F.args_list_count_2 _ _) (SeqAt.list_countAt p its.toArray n dd sl u (eqU y)) ⟨ho, fun z hz => mem_eqAt ru fy rv fs z (by simpa using hz), ?_⟩
  refine ⟨.int (ys.countP fun z => eqV z y : Nat), H, I.tok _, ⟨s.toks, ?_⟩, q⟩
  rw [same]
end
/-- isinstance(e, T), isinstance(e, (T, ..)): e a caught error without fields of its own -/
def rIsN (K : PySem.W.Frag) (a : Addr) (cls : Value) (d : Option Addr) : List V → Hp → VK → Prop := fun xs H Q =>
  ∃ (C : Addr) (c : V) (b : Bool), XI K C ∧ cls = .ref C ∧ d = none ∧ xs = [.ref a, c] ∧
    ((∃ cv, (∀ u, RelV c u → u = cv) ∧ PySem.W.kitOne K (.ref C) cv = some b) ∨
      ∃ (tp : Addr) (ys : List V) (its : List Value), c = .ref tp ∧ H tp = some (.tup ys) ∧ (∀ us, Vals ys us → us = its) ∧ PySem.W.kitAny K (.ref C) its = some b) ∧ Q (.bl b) H
theorem call_isN {X : Cx} {a : Addr} {oe : Obj} {cls : Value} {d : Option Addr} {pn : List (Addr × Obj)} (hz : Zc cls d oe) (hf : ∃ vs, oe.data = .fields vs) :
    CallR (X.suite a ((a, oe) :: pn)) (.builtin "isinstance") (rIsN X.K a cls d) := by
  intro pins s σ H xs us Q I r h
  obtain ⟨C, c, b, T, ec, ed, rfl, hc, q⟩ := h
  subst ec ed
  obtain ⟨hget, _⟩ := I.pin (a, oe) (List.mem_append.mpr (.inl List.mem_cons_self))
  obtain ⟨vs, hv⟩ := hf
  have J : PySem.W.InstAt s.heap a oe C none := ⟨hget, hz.1, by unfold PySem.W.notCls; rw [hv] <;> rfl, by rw [hz.2]; trivial⟩
  have hcl : (PySem.W.clsIn X.K C).isSome = true := by
    obtain ⟨cd, hc, _⟩ := PySem.W.any_some T.hd
    rw [hc]; rfl
  have Z : PySem.W.KitX X.K (.ref a) (.ref C) (fun h => PySem.W.InstAt h a oe C none) := PySem.W.kitx_exc hcl T.ga T.gg T.sub T.hcl T.sp T.tk T.mro
  obtain ⟨u, rfl, ru⟩ : ∃ u2, us = [.ref a, u2] ∧ RelV c u2 := by
    cases r with
    | cons r1 r2 =>
      cases r2 with
      | cons r3 r4 =>
        cases r4
        cases r1
        exact ⟨_, rfl, r3⟩
  rcases hc with ⟨cv, hcv, e⟩ | ⟨tp, ys, its, rfl, hH, hits, e⟩
  · have eu := hcv _ ru
    subst eu
    exact PySem.W.kia_one Z I.kIn J e (fun z => nomatch z) fun tk => ⟨.bl b, H, I.kept (t' := tk) fun _ _ z => z, rfl, q⟩
  · obtain rfl : u = Value.ref tp := ru
    obtain ⟨_, us2, r2, o, h1, h2, n, h3⟩ := (show ObjOk X.prog X.w H s.heap tp (.tup ys) from I.hok tp _ hH)
    have eu := hits us2 r2
    subst eu
    obtain ⟨oc, od2, oda, osl⟩ := o
    dsimp only at h2 h3
    subst h2 h3
    exact PySem.W.kia_tup Z I.kIn J h1 e (fun z => nomatch z) fun tk => ⟨.bl b, H, I.kept (t' := tk) fun _ _ z => z, rfl, q⟩
end KX

set_option maxRecDepth 100000
set_option maxHeartbeats 4000000
/-! zip of a list and a tuple -/
namespace KX
open PySem PySem.Spec PyProof.Rows L2
def ItM (K : PySem.W.Frag) (a b : Addr) : It :=
  ⟨fun i H => ∃ (xs ys : List V) (x y : V), SqL K H a xs ∧ SqT K H b ys ∧ xs[i]? = some x ∧ ys[i]? = some y,
    fun i H v G => ∃ T x y, v = .ref T ∧ H T = none ∧ G = upd H T (.tup [x, y]) ∧ (∀ xs, SqL K H a xs → xs[i]? = some x) ∧ ∀ ys, SqT K H b ys → ys[i]? = some y,
    fun i H => ∃ xs ys : List V, SqL K H a xs ∧ SqT K H b ys ∧ xs.length = i ∧ ys.length = i⟩
theorem sep_of {z TI TO i1 i2 a b : Addr} (D : ZipApart z TI TO i1 i2 a b) : ZipSep2 z TI TO i1 i2 [i1, a] [i2, b] := by
  have e1 := D.TIz
  refine ⟨D.TIz, D.TOz, D.TITO, D.TIi1, by simp, ?_, ?_, D.TIi2, by simp, ?_, ?_, ?_, ?_⟩
  · simp [D.i1z.symm, D.l1z.symm]
  · simp [D.TOi1, D.l1TO.symm]
  · simp [D.i2z.symm, D.l2z.symm]
  · simp [D.TOi2, D.l2TO.symm]
  · simp [D.i12, D.l2i1.symm]
  · simp [D.i12.symm, D.l1i2.symm]
theorem turn_m {P : Program} {w : World} {K : PySem.W.Frag} {elts : List Expr} {kk : Nat} {tpos : Pos} {a b z TI TO i1 i2 : Addr} (D : ZipApart z TI TO i1 i2 a b) :
    Turn P w K (.Tuple elts kk tpos) (ItM K a b) [z, TI, TO, i1, i2] z (fun i h => IsZip h z TI TO .none ∧ IsPair h TI (.ref i1) (.ref i2) ∧ (∃ x y, IsPair h TO x y) ∧ h.IsListIter i1 a i ∧ h.IsTupleIter i2 b i) where
  mem := by simp
  obj := fun i h st c hc => by
    obtain ⟨hz, hTI, ⟨x, y, hTO⟩, ⟨o1, e1, _, d1⟩, ⟨o2, e2, _, d2⟩⟩ := st
    simp only [List.mem_cons, List.not_mem_nil, or_false] at hc
    rcases hc with rfl | rfl | rfl | rfl | rfl
    · exact ⟨_, hz, fun v q => nomatch q⟩
    · exact ⟨_, hTI, fun v q => nomatch q⟩
    · exact ⟨_, hTO, fun v q => nomatch q⟩
    · exact ⟨o1, e1, fun v q => by rw [d1] at q; cases q⟩
    · exact ⟨o2, e2, fun v q => by rw [d2] at q; cases q⟩
  keep := fun i h h' st k => by
    obtain ⟨hz, hTI, ⟨x, y, hTO⟩, t1, t2⟩ := st
    exact ⟨k z (by simp) _ hz, k TI (by simp) _ hTI, ⟨x, y, k TO (by simp) _ hTO⟩, t1.at fun o q => k i1 (by simp) o q, t2.at fun o q => k i2 (by simp) o q⟩
  item := by
    intro X hP hw hK hc i pins s σ H E I hf st hg
    subst hP hw hK
    obtain ⟨hz, hTI, ⟨x0, y0, hTO⟩, t1, t2⟩ := st
    obtain ⟨xs, ys, x, y, hqx, hqy, hx, hy⟩ := hg
    obtain ⟨its, rv, pl, _⟩ := I.list hqx
    obtain ⟨its2, rv2, pt, _⟩ := I.tuple hqy
    obtain ⟨u, hu, ru⟩ := rv.get hx
    obtain ⟨u2, hu2, ru2⟩ := rv2.get hy
    have zl : z < s.heap.objs.size := Heap.lt_size hz
    have hh : X.A.in1.handled = none := I.ok.hd hc
    have li : i < its.toArray.size := by simpa using (List.getElem?_eq_some_iff.mp hu).1
    have li2 : i < its2.toArray.size := by simpa using (List.getElem?_eq_some_iff.mp hu2).1
    refine wpAny_pyNext_zipD2_item (sep_of D) (Draws.list hh i1 a D.l1i1 its.toArray) (Draws.tuple hh i2 b D.l2i2 its2.toArray) hz hTI hTO ⟨t1, pl.isList⟩ ⟨t2, pt⟩ li li2 fun x1 x2 h' tk q1 q2 z' TO' s1' s2' hT hsz hk => ?_
    have e1 : x1 = u := Option.some.inj (q1.symm.trans (by simpa using hu))
    have e2 : x2 = u2 := Option.some.inj (q2.symm.trans (by simpa using hu2))
    subst e1 e2
    refine ⟨_, rfl, wpAny_letOwnedTupleGo_zip (s := { s with heap := h', toks := tk }) z' fun h'' z'' sb => ?_⟩
    have hT2 : h''.get? s.heap.objs.size = some { cls := .type "tuple", data := .seq #[x1, x2] } := (sb.2 _ (Nat.ne_of_gt zl)).trans hT
    have new : ObjOk X.prog X.w (upd H s.heap.objs.size (.tup [x, y])) h'' s.heap.objs.size (.tup [x, y]) := ⟨by show 2 ≤ sizeLine; decide, [x1, x2], .cons ru (.cons ru2 .nil), ⟨_, hT2, rfl, _, rfl⟩⟩
    have moved : ∀ c o, c ∉ [z, TI, TO, i1, i2] → s.heap.get? c = some o → h''.get? c = some o := fun c o hb q => by
      simp only [List.mem_cons, List.not_mem_nil, or_false, not_or] at hb
      exact (sb.2 c hb.1).trans (hk c o hb.1 hb.2.2.1 hb.2.2.2.1 hb.2.2.2.2 q)
    have I1 : Inv X pins σ (upd H s.heap.objs.size (.tup [x, y])) { s with heap := h'', toks := tk } := I.turnedNew (t' := tk) (ch := [z, TI, TO, i1, i2]) moved hf (Nat.le_refl _) new
    refine ⟨.ref s.heap.objs.size, _, I1, rfl, ⟨_, x, y, rfl, I.hok.fresh (Nat.le_refl _), rfl, fun l hl => by rw [I.list_inj hl hqx]; exact hx, fun l hl => by rw [I.tuple_inj hl hqy]; exact hy⟩,
      ⟨z'', (sb.2 _ D.TIz).trans (hk _ _ D.TIz D.TITO D.TIi1 D.TIi2 hTI), ⟨x1, x2, (sb.2 _ D.TOz).trans TO'⟩, s1'.1.at fun o q => (sb.2 _ D.i1z).trans q, s2'.1.at fun o q => (sb.2 _ D.i2z).trans q⟩, fun c hcm => ?_⟩
    have lt : c < s.heap.objs.size := by
      simp only [List.mem_cons, List.not_mem_nil, or_false] at hcm
      rcases hcm with rfl | rfl | rfl | rfl | rfl
      · exact zl
      · exact Heap.lt_size hTI
      · exact Heap.lt_size hTO
      · obtain ⟨_, q, _⟩ := t1; exact Heap.lt_size q
      · obtain ⟨_, q, _⟩ := t2; exact Heap.lt_size q
    rw [upd_ne (Nat.ne_of_lt lt)]
    exact (hf c hcm).1
  done := by
    intro X hP hw hK hc i pins s σ H E I hf st hg
    subst hP hw hK
    obtain ⟨hz, hTI, ⟨x0, y0, hTO⟩, t1, t2⟩ := st
    obtain ⟨xs, ys, hqx, hqy, e1, e2⟩ := hg
    obtain ⟨its, rv, pl, _⟩ := I.list hqx
    obtain ⟨its2, rv2, pt, _⟩ := I.tuple hqy
    have l1 := rv.length
    have l2 := rv2.length
    have hh : X.A.in1.handled = none := I.ok.hd hc
    have s1 : its.toArray.size = i := by simp; omega
    have s2 : its2.toArray.size = i := by simp; omega
    refine wpAny_pyNext_zipD2_end (sep_of D) (Draws.list hh i1 a D.l1i1 its.toArray) (Draws.tuple hh i2 b D.l2i2 its2.toArray) hz hTI hTO ⟨t1, pl.isList⟩ ⟨t2, pt⟩ (by omega) (by omega) (.inl s1.symm) fun h' tk hk => ⟨rfl, ?_⟩
    refine I.turnedL (t' := tk) (ch := [z, TI, TO, i1, i2]) (fun c o hb q => ?_) hf
    simp only [List.mem_cons, List.not_mem_nil, or_false, not_or] at hb
    exact hk c o hb.1 hb.2.2.1 hb.2.2.2.1 hb.2.2.2.2 q
  self := fun A i s Q E st h => wpAny_pyIter_zip st.1 h
/-! the call -/
abbrev zm1 (h : Heap) (a : Addr) : Heap := h.push { cls := .type "list_iterator", data := .fields #[.ref a, .int 0 0] }
abbrev zm2 (h : Heap) (a b : Addr) : Heap := (zm1 h a).push { cls := .type "tuple_iterator", data := .fields #[.ref b, .int 0 0] }
abbrev zm3 (h : Heap) (a b : Addr) : Heap := (zm2 h a b).push { cls := .type "tuple", data := .seq #[.ref h.objs.size, .ref (zm1 h a).objs.size] }
abbrev zm4 (h : Heap) (a b : Addr) : Heap := (zm3 h a b).push { cls := .type "tuple", data := .seq #[.none, .none] }
abbrev zm5 (h : Heap) (a b : Addr) : Heap := (zm4 h a b).push { cls := .type "zip", data := .fields #[.none, .bool false, .bool false, .ref (zm2 h a b).objs.size, .ref (zm3 h a b).objs.size] }
theorem meets_zm (a b : Addr) (xs ys : Array Value) :
    Meets (Builtin.«zip.__new__» ⟨[.type "zip", .ref a, .ref b], []⟩) (fun _ R s => s.heap.IsList a xs ∧ s.heap.IsTuple b ys ∧ R (.ok (.ret (.ref (zm4 s.heap a b).objs.size))) { s with heap := zm5 s.heap a b }) :=
  .of_wp fun prog w A R s h => by
    obtain ⟨hp, g, d, tk, os⟩ := s
    obtain ⟨ha, hb, h⟩ := h
    have hsub := sub_zip
    have La : Heap.IsList (Shared.heap ⟨hp, g, d, tk, os⟩) a xs := ha
    have Lb : Heap.IsTuple (Shared.heap ⟨hp.push { cls := .type "list_iterator", data := .fields #[.ref a, .int 0 0] }, g, d, tk, os⟩) b ys := Heap.IsTuple.push hb _
    wp_walk using wpAny_pyIter_list La, wpAny_pyIter_tuple Lb
    exact ⟨_, rfl, h⟩
section
variable {prog : Program} {w : World} {A : Around} {E : Value → Shared → Prop} {s : Shared}
theorem call_zm {a b : Addr} {xs ys : Array Value} {Q : Value → Shared → Prop} (ha : s.heap.IsList a xs) (hb : s.heap.IsTuple b ys)
    (go : ∀ h', IsZip h' (s.heap.objs.size + 4) (s.heap.objs.size + 2) (s.heap.objs.size + 3) .none → IsPair h' (s.heap.objs.size + 2) (.ref s.heap.objs.size) (.ref (s.heap.objs.size + 1)) → IsPair h' (s.heap.objs.size + 3) .none .none →
      h'.IsListIter s.heap.objs.size a 0 → h'.IsTupleIter (s.heap.objs.size + 1) b 0 → (∀ c o, s.heap.get? c = some o → h'.get? c = some o) → Q (.ref (s.heap.objs.size + 4)) { s with heap := h' }) :
    wpAny (model prog w) A (call (.type "zip") [.ref a, .ref b]) Q E s := by
  refine callType_new F.called_zip (by decide) (F.typeCall_zip_2 _ _) (F.newCall_zip_2 _ _) (fun obj => F.args_object_init_3 obj _ _) F.entry_zip_new (meets_zm a b xs ys) ⟨ha, hb, ?_⟩
  have n1 : (zm1 s.heap a).objs.size = s.heap.objs.size + 1 := by rw [Heap.size_push]
  have n2 : (zm2 s.heap a b).objs.size = s.heap.objs.size + 2 := by rw [Heap.size_push, n1]
  have n3 : (zm3 s.heap a b).objs.size = s.heap.objs.size + 3 := by rw [Heap.size_push, n2]
  have n4 : (zm4 s.heap a b).objs.size = s.heap.objs.size + 4 := by rw [Heap.size_push, n3]
  have k45 : ∀ {c o}, (zm4 s.heap a b).get? c = some o → (zm5 s.heap a b).get? c = some o := fun e => Heap.get?_push_of_some _ e
  have k35 : ∀ {c o}, (zm3 s.heap a b).get? c = some o → (zm5 s.heap a b).get? c = some o := fun e => k45 (Heap.get?_push_of_some _ e)
  have k25 : ∀ {c o}, (zm2 s.heap a b).get? c = some o → (zm5 s.heap a b).get? c = some o := fun e => k35 (Heap.get?_push_of_some _ e)
  have k15 : ∀ {c o}, (zm1 s.heap a).get? c = some o → (zm5 s.heap a b).get? c = some o := fun e => k25 (Heap.get?_push_of_some _ e)
  have o5 : (zm5 s.heap a b).get? (zm4 s.heap a b).objs.size = some _ := Heap.get?_push_size _ rfl
  have o4 := k45 (c := (zm3 s.heap a b).objs.size) (Heap.get?_push_size _ rfl)
  have o3 := k35 (c := (zm2 s.heap a b).objs.size) (Heap.get?_push_size _ rfl)
  have o2 := k25 (c := (zm1 s.heap a).objs.size) (Heap.get?_push_size _ rfl)
  have o1 := k15 (c := s.heap.objs.size) (Heap.get?_push_size _ rfl)
  show _ ∧ _
  rw [n2, n3, n4] at o5
  rw [n3] at o4
  rw [n1, n2] at o3
  rw [n1] at o2
  rw [n4]
  exact ⟨⟨_, o5, rfl⟩, go _ o5 o3 o4 ⟨_, o1, rfl, rfl⟩ ⟨_, o2, rfl, rfl⟩ fun c o x => k15 (Heap.get?_push_of_some _ x)⟩
end
def iZipM (K : PySem.W.Frag) (ta : TA) : TI := fun σ H R => ta σ H fun vs H1 => ∃ a b xs ys, vs = [.ref a, .ref b] ∧ SqL K H1 a xs ∧ SqT K H1 b ys ∧ R (ItM K a b) H1
theorem pi_zipM {X : Cx} {e e2 : Expr} {ta : TA} {p pos tpos : Pos} {elts : List Expr} {kk : Nat} (hg : Gl X "zip") (hm : X.mg "zip" = none) (ha : PA X [e, e2] ta)
    (hs : starEach [e, e2] X.env = (false, eval e X.env) :: starEach [e2] X.env := by rfl) (hpl : (backTo pos (starEach [e2] X.env)).any (·.1) = false := by rfl) :
    PI X (.Tuple elts kk tpos) (.Call (.Name "zip" p) [e, e2] [] pos) (iZipM X.K ta) := by
  refine ⟨fun pins s σ H R I h => ?_⟩
  refine Call_ (ld_blt I hg hm PyProof.Rows.boot_zip (PyProof.Rows.callWith_type1 (thn (ha.run pos pins s σ H _ I h) fun us s1 z => ?_) hs hpl))
  obtain ⟨vs, H1, I1, r1, a, b, xs, ys, ex, hqx, hqy, q⟩ := z
  subst ex
  obtain rfl : us = [.ref a, .ref b] := by
    cases r1 with
    | cons r rr =>
      cases rr with
      | cons r' rr =>
        cases rr
        cases r
        cases r'
        rfl
  obtain ⟨its, rv, pl, _⟩ := I1.list hqx
  obtain ⟨its2, rv2, pt, _⟩ := I1.tuple hqy
  have ltb : b < s1.heap.objs.size := by
    obtain ⟨o, ho, _⟩ := id pt
    exact Heap.lt_size ho
  refine call_zm pl.isList (show s1.heap.IsTuple b its2.toArray from pt) fun h' hz hTI hTO t1 t2 hk => wpAny_pyIter_zip hz ?_
  have I2 : Inv X pins σ H1 { s1 with heap := h' } := I1.kept (t' := s1.toks) hk
  refine ⟨s1.heap.objs.size + 4, [s1.heap.objs.size + 4, s1.heap.objs.size + 2, s1.heap.objs.size + 3, s1.heap.objs.size, s1.heap.objs.size + 1], _, _, H1, rfl, I2, turn_m (PySem.W.ktu_apart s1.heap.objs.size a b pl.lt ltb), ⟨hz, hTI, ⟨_, _, hTO⟩, t1, t2⟩, fun c hcm => ?_, q⟩
  have le : s1.heap.objs.size ≤ c := by
    simp only [List.mem_cons, List.not_mem_nil, or_false] at hcm
    rcases hcm with rfl | rfl | rfl | rfl | rfl <;> omega
  exact I1.fpOk le (I1.hok.fresh le)
/-- [e for x, y in zip(l, t)] -/
theorem lc_zipM {K : PySem.W.Frag} {a b : Addr} {xs ys : List V} {g : TG} {tt : TT} {te : TE} {vs : List Nat} {σ : L2.St} {H1 : Hp} {D : Addr} {Qd : Hp → Prop} (hl : xs.length = ys.length) (Pv : Nat → Hp → Prop) (h0 : Pv 0 (upd H1 D (.lst [])))
    (hq : ∀ i G, i ≤ xs.length → Pv i G → SqL K G a xs ∧ SqT K G b ys)
    (hs : ∀ (i : Nat) (x y : V) (T : Addr) (G : Hp), xs[i]? = some x → ys[i]? = some y → Pv i G → G T = none → g (.ref T) (wipe σ vs) (upd G T (.tup [x, y])) fun σ2 H2 => wipe σ2 vs = wipe σ vs ∧ tt σ2 H2 fun b H3 =>
      if b = true then te σ2 H3 fun y H4 => ∃ zs, H4 D = some (.lst zs) ∧ zs.length < sizeLine ∧ Pv (i + 1) (upd H4 D (.lst (zs ++ [y]))) else Pv (i + 1) H3) (hd : ∀ G, Pv xs.length G → Qd G) :
    ∃ W : Nat → Nat → Hp → Prop, (∃ m, W 0 m (upd H1 D (.lst []))) ∧ ∀ i m H, W i m H → ((ItM K a b).stop i H ∧ Qd H) ∨ ((ItM K a b).go i H ∧ ∃ Nx : Hp → Prop, (∀ H', Nx H' → ∃ m', m' < m ∧ W (i + 1) m' H') ∧ ∀ x H', (ItM K a b).yld i H x H' →
      g x (wipe σ vs) H' fun σ2 H2 => wipe σ2 vs = wipe σ vs ∧ tt σ2 H2 fun b H3 => if b = true then te σ2 H3 fun y H4 => ∃ zs, H4 D = some (.lst zs) ∧ zs.length < sizeLine ∧ Nx (upd H4 D (.lst (zs ++ [y]))) else Nx H3) := by
  refine ⟨fun i m H => m = xs.length - i ∧ i ≤ xs.length ∧ Pv i H, ⟨xs.length, by simp, Nat.zero_le _, h0⟩, fun i m H hw => ?_⟩
  obtain ⟨rfl, hi, p⟩ := hw
  obtain ⟨qx, qy⟩ := hq i H hi p
  by_cases lt : i < xs.length
  · refine .inr ⟨⟨xs, ys, xs[i], ys[i], qx, qy, List.getElem?_eq_getElem lt, List.getElem?_eq_getElem (by omega)⟩, Pv (i + 1), fun H' p' => ⟨xs.length - (i + 1), by omega, rfl, lt, p'⟩, fun v H' y => ?_⟩
    obtain ⟨T, x, y, rfl, nT, rfl, e1, e2⟩ := y
    exact hs i x y T H (e1 xs qx) (e2 ys qy) p nT
  · have e : i = xs.length := by omega
    subst e
    exact .inl ⟨⟨xs, ys, qx, qy, rfl, hl.symm⟩, hd H p⟩
end KX

set_option maxRecDepth 100000
set_option maxHeartbeats 4000000
/-! == of a text and a dict; x in t where x may be a dict -/
namespace KX
open PySem PySem.Spec PyProof.Rows L2
theorem str_eq_declines_dict (b : Str) (u : Tok) (l : Addr) (es : Array DictEntry) (ep : Nat) (dd : Option Addr) (sl : Array (Option Value)) :
    Meets (Builtin.«str.__eq__» ⟨[.str b u, .ref l], []⟩) (fun _ R s => s.heap.get? l = some { cls := .type "dict", dict := dd, data := .dict es ep, slots := sl } ∧ R (.ok (.ret .notImplemented)) s) :=
  .of_wp fun prog w A R s h => by obtain ⟨hp, g, d, tk, os⟩ := s; obtain ⟨hl, h⟩ := h; wp_walk using AutoSeq1.wpAny_loadPart' hl, wpAny_load hl; exact ⟨_, rfl, h⟩
theorem dict_eq_declines_str (b : Str) (u : Tok) (l : Addr) (es : Array DictEntry) (ep : Nat) (dd : Option Addr) (sl : Array (Option Value)) :
    Meets (Builtin.«dict.__eq__» ⟨[.ref l, .str b u], []⟩) (fun _ R s => s.heap.get? l = some { cls := .type "dict", dict := dd, data := .dict es ep, slots := sl } ∧ R (.ok (.ret .notImplemented)) s) :=
  .of_wp fun prog w A R s h => by obtain ⟨hp, g, d, tk, os⟩ := s; obtain ⟨hl, h⟩ := h; have f1 : isSubtype (.type "str") (.type "dict") = pure false := by rw [isSubtype_type]; kernel_rfl
                                  wp_walk using AutoSeq1.wpAny_loadPart' hl, wpAny_load hl; exact ⟨_, rfl, h⟩
section
open MeetsSeq MeetsSeq2 MeetsSeq3 SeqRoads2 SeqAt
variable {A : Around} {s : Shared}
theorem rc_str_dict {l : Addr} {o : Obj} {es : Array DictEntry} {ep : Nat} (b : Str) (u : Tok) (ho : s.heap.get? l = some o) (hc : o.cls = .type "dict") (hd : o.data = .dict es ep) (hu : A.units < cLine) : SeqAt.RcAt A s (.str b u) (.ref l) false := fun prog w E Q h => by
  obtain ⟨cls, dd, data, sl⟩ := o
  simp only at hc hd
  subst hc hd
  exact rc_eq_decline_or (k := false) (typeIs_str s b u) ⟨_, ho, rfl⟩ (by decide) PySem.F.sub_dict_str PySem.F.slot_str_eq PySem.F.slot_dict_eq_refl
    (fun _ hq => call_meets PySem.F.slot_str_eq (typeIs_str s b u) PySem.F.entry_str_eq (PySem.F.args_str_eq_2 _ _) (str_eq_declines_dict b u l es ep dd sl) ⟨ho, hq⟩)
    (fun _ hq => call_meets PySem.F.slot_dict_eq_refl ⟨_, ho, rfl⟩ PySem.F.entry_dict_eq (PySem.F.args_dict_eq_2 _ _) (dict_eq_declines_str b u l es ep dd sl) ⟨ho, hq⟩)
    (fun _ hq => wpAny_of_eq (rfl : isSame (.str b u) (.ref l) = pure false) hq) (.inr hu) h
theorem eq_str_dict {l : Addr} {o : Obj} {es : Array DictEntry} {ep : Nat} (b : Str) (u : Tok) (ho : s.heap.get? l = some o) (hc : o.cls = .type "dict") (hd : o.data = .dict es ep) (hu : A.units < cLine) : SeqAt.EqAt A s (.str b u) (.ref l) false := fun prog w E Q h => by
  unfold eqBool
  refine wpAny_holding ?_
  refine wpAny_ite_split (fun hab => absurd (eq_of_beq hab) nofun) (fun _ => ?_)
  exact wpAny_bind (rc_str_dict b u ho hc hd hu prog w E _ (wpAny_truthy_bool h))
end
/-- data without dicts, or a dict -/
def okP (d : PyData) : Prop := d.plain = true ∨ ∃ kvs, d = .dict kvs
section
variable {X : Cx}
/-- x in t: t a tuple of texts, x data, or a dict -/
def rInX (K : PySem.W.Frag) (f : Bool → Bool) : R2 := fun x y H Q => ∃ (d : PyData) (t : Addr) (ns : List Str), Dx H x d ∧ okP d ∧ y = .ref t ∧ SqT K H t (ns.map V.str) ∧ Q (.bl (f ((ns.map PyData.str).any fun z => PyData.eqv z d))) H
theorem dp_strsX {K : PySem.W.Frag} {H : Hp} : ∀ ns : List Str, DpAll K H (ns.map V.str) (ns.map PyData.str)
  | [] => .nil
  | n :: ns => .cons (.str n) (dp_strsX ns)
theorem strs_plain : ∀ ns : List Str, PyData.plainAll (ns.map PyData.str) = true ∧ PyData.depthAll (ns.map PyData.str) = 0
  | [] => ⟨rfl, by simp [PyData.depthAll]⟩
  | n :: ns => by
    obtain ⟨h1, h2⟩ := strs_plain ns
    exact ⟨by simp [PyData.plainAll, PyData.plain, h1], by simp [PyData.depthAll, PyData.depth, h2]⟩
theorem op_inX (hu : X.A.units + 64 < cLine) : OpR X (compareOp .In) (rInX X.K id) := by
  intro pins s σ H x y v u Q I rx ry h
  obtain ⟨d, t, ns, hd, od, rfl, ht, q⟩ := h
  rcases od with pd | ⟨kvs, rfl⟩
  · exact op_inTD hu pins s σ H x (.ref t) v u Q I rx ry ⟨d, ns.map PyData.str, dp_dx d x pd hd, .tup ht (dp_strsX ns), pd, (strs_plain ns).1, by rw [(strs_plain ns).2]; omega, q⟩
  · have hq : ((ns.map PyData.str).any fun z => PyData.eqv z (.dict kvs)) = false := List.any_eq_false.mpr fun z hz => by
      obtain ⟨n, _, rfl⟩ := List.mem_map.mp hz
      simp [PyData.eqv]
    rw [hq] at q
    obtain ⟨a, rfl⟩ : ∃ a, x = .ref a := by
      cases hd with
      | dic e => exact ⟨_, rfl⟩
      | dic1 e => exact ⟨_, rfl⟩
    cases ry
    cases rx
    obtain ⟨its, rv, ⟨o, ho, hc, n, hdat⟩, _⟩ := I.tuple ht
    have hdic : ∃ o es ep, s.heap.get? a = some o ∧ o.cls = .type "dict" ∧ o.data = .dict es ep := by
      cases hd with
      | dic e =>
        obtain ⟨_, _, _, _, o, es, ep, e1, ex, ed, _⟩ := (show ObjOk X.prog X.w H s.heap a (.dK []) from I.hok a _ e)
        exact ⟨o, es, ep, e1, ex.1, ed⟩
      | dic1 e =>
        obtain ⟨_, _, _, _, o, es, ep, e1, ex, ed, _⟩ := (show ObjOk X.prog X.w H s.heap a (.dK _) from I.hok a _ e)
        exact ⟨o, es, ep, e1, ex.1, ed⟩
    obtain ⟨o2, es, ep, h1, h2, h3⟩ := hdic
    refine SeqAt.in_tupleAt (e := fun _ => false) (hl := ⟨o, ho, hc, n, hdat⟩) (he := fun y hy => ?_) (h := ?_)
    · have hm : ∃ n t, y = Value.str n t := by
        have : ∀ (ns : List Str) (us : List Value), Vals (ns.map V.str) us → ∀ z ∈ us, ∃ n t, z = Value.str n t := fun ns => by
          induction ns with
          | nil => intro us r z hz; cases r; cases hz
          | cons n ns ih =>
            intro us r z hz
            cases r with
            | cons r1 r2 =>
              rcases List.mem_cons.mp hz with rfl | hz
              · obtain ⟨t, rfl⟩ := r1
                exact ⟨n, t, rfl⟩
              · exact ih _ r2 z hz
        exact this ns its rv y (by simpa using hy)
      obtain ⟨n, t, rfl⟩ := hm
      exact eq_str_dict n t h1 h2 h3 (by have : X.A.units + 64 < cLine := hu; show X.A.in1.units < cLine; exact Nat.lt_of_le_of_lt (by show X.A.units + 1 ≤ X.A.units + 64; omega) this)
    · have : (its.toArray.any fun _ => false) = false := by
        rw [← Array.any_toList]
        exact List.any_eq_false.mpr fun _ _ => by simp
      rw [this]
      exact ⟨.bl false, H, I, rfl, q⟩
end
end KX

set_option maxRecDepth 100000
set_option maxHeartbeats 4000000
/-! < of data that are alike -/
namespace KX
open PySem PySem.Spec PyProof.Rows L2
section
variable {X : Cx}
def rLtD (K : PySem.W.Frag) : R2 := fun x y H Q => ∃ d e, Dp K H x d ∧ Dp K H y e ∧ PySem.W.alike d e = true ∧ d ≠ .none ∧ min d.depth e.depth ≤ 60 ∧ Q (.bl (PySem.W.dataLt d e)) H
theorem op_ltD (hu : X.A.units + 64 < cLine) : OpR X (compareOp .Lt) (rLtD X.K) := by
  intro pins s σ H x y v u Q I rx ry h
  obtain ⟨d, e, hd, he, ha, hn, hm, q⟩ := h
  obtain ⟨as, r1⟩ := Dp.reads I d x v hd rx
  obtain ⟨bs, r2⟩ := Dp.reads I e y u he ry
  exact PySem.W.lt_data r1 r2 ha hn (by omega) ⟨.bl _, H, I, rfl, q⟩
end
end KX

set_option maxRecDepth 100000
set_option maxHeartbeats 4000000
/-! l != [], l any list -/
namespace KX
open PySem PySem.Spec PyProof.Rows L2
section
variable {X : Cx}
def rNeL0 (K : PySem.W.Frag) : R2 := fun x y H Q => ∃ a b xs, x = .ref a ∧ y = .ref b ∧ SqL K H a xs ∧ SqL K H b [] ∧ Q (.bl (!xs.isEmpty)) H
theorem op_neL0 (hu : X.A.units < cLine) : OpR X (compareOp .NotEq) (rNeL0 X.K) := by
  intro pins s σ H x y v u Q I rx ry h
  obtain ⟨a, b, xs, rfl, rfl, ha, hb, q⟩ := h
  cases rx
  cases ry
  obtain ⟨its, r1, p1, _⟩ := I.list ha
  obtain ⟨its2, r2, p2, _⟩ := I.list hb
  cases r2
  cases xs with
  | nil =>
    cases r1
    refine SeqAt.RcNeAt.lists (e := fun _ => true) p1.isList p2.isList rfl hu (fun j h1 h2 => absurd h2 (by simp)) X.prog X.w X.xe (EP X pins σ Q) ?_
    exact ⟨.bl _, H, I, rfl, q⟩
  | cons x xs =>
    cases r1
    exact SeqAt.RcNeAt.lists_lengths p1.isList p2.isList (by simp) hu X.prog X.w X.xe (EP X pins σ Q) ⟨.bl _, H, I, rfl, q⟩
end
end KX

set_option maxRecDepth 100000
set_option maxHeartbeats 400000
namespace KX
open PySem PySem.Spec PyProof.Rows L2 LamX NdefX
/-! ### a lambda with one parameter, captured names, handed to a def and called there -/
abbrev lamF (q : Str) (params : Arguments) (scope : Scope) (cl : List (Str × Addr)) (c : Addr) : NF := ⟨"<lambda>", q, params, [], scope, cl, c⟩
theorem cells_later {cl : List (Str × Addr)} {fr : List Str} {ws : List (Option V)} {fs : List Addr} {h h2 : Heap} {H H2 : Hp} (C : CellsAt cl fr ws h H) (un : Un fs [] H H2 h h2) : CellsAt cl fr ws h2 H2 := by
  have kp : ∀ y c, cl.lookup y = some c → ∀ v, h.IsCell c v → h2.IsCell c v := fun y c e v ⟨o, ho, hd⟩ => by
    obtain ⟨sl, q⟩ := un.any ho (C.all y c e).1 (by simp)
    exact ⟨_, q, hd⟩
  refine ⟨C.len, fun y c e => ?_, C.inj, fun i y e => ?_⟩
  · obtain ⟨n, v, z⟩ := C.all y c e
    refine ⟨?_, v, kp y c e v z⟩
    obtain ⟨o, ho, _⟩ := z
    exact un.free c o ho n (by simp)
  · obtain ⟨c, hc, hv⟩ := C.has i y e
    refine ⟨c, hc, fun v ev => ?_⟩
    obtain ⟨u, r, z⟩ := hv v ev
    exact ⟨u, r, kp y c hc _ z⟩
theorem vals_one {v : V} {us : List Value} (r : Vals [v] us) : ∃ u0, us = [u0] := by
  cases r with
  | cons r0 rr =>
    cases rr
    exact ⟨_, rfl⟩
/-- it runs -/
theorem lam_run {CX : CXT} {P : Program} {w : World} {K : PySem.W.Frag} {mg : Str → Option Value} {base : Heap} {N ps fr : List Str} {q : Str} {params : Arguments} {scope : Scope} {cl : List (Str × Addr)} {c' f : Addr} {body : Expr} {k : Nat} {A : Around} {outer : List PySem.Env} {s : Shared} {H : Hp}
    {us : List Value} {vs : List V} {ws : List (Option V)} {Q : VK} {E : XK} {pm ctv : Value} {t : TE} (S : NScope N ps fr scope) (hb : bindArgs (PySem.W.kla_fn "<lambda>" q params body scope cl pm (.ref c') ctv) ⟨us, []⟩ = pure (ps.zip us)) (hr : Room (k + 1) A)
    (e0 : Env0 P w K mg base A outer s H) (ho : s.heap.get? f = some (PySem.W.kla_obj "<lambda>" q params body scope cl pm c' ctv)) (hc : H c' = some (CodeO c' q)) (C : CellsAt cl fr ws s.heap H) (r : Vals vs us) (hl : vs.length = ps.length)
    (hbody : Room k (A.deeper (envF (lamF q params scope cl c') f s.heap.objs.size)) → PE (ncx CX P w K mg base N (lamF q params scope cl c') f A outer s H E) body t) (ht : t (startF N vs ws) H Q) : codeAny (model P w) A (.call (.ref f) ⟨us, []⟩) (CR CX outer P w H s Q E) s := by
  have lim : s.heap.NoLimit := e0.mod.nolimit.keeps fun b o e => (e0.bs b o e).1
  refine PySem.W.kla_callFunE hr.depth ho rfl S.co S.gen rfl (codeO_at e0.hok hc) ?_
  rw [hb]
  refine wpAny_pure (wpAny_newFunctionEnv S.nocell (fun ⟨n, _⟩ hy => S.par n (List.of_mem_zip hy).1) (fun h₁ hns hsb => ⟨lim.fresh _ hsb, ?_⟩) S.kind)
  show codeAny _ _ (.expr body (envF (lamF q params scope cl c') f s.heap.objs.size)) _ _
  have kp : ∀ b o, s.heap.get? b = some o → h₁.get? b = some o := fun b o e => hsb.extBut b o (Nat.ne_of_lt (Heap.lt_size e)) (Heap.get?_push_of_some _ e)
  have I : Inv (ncx CX P w K mg base N (lamF q params scope cl c') f A outer s H E) [] (startF N vs ws) H { s with heap := h₁, toks := s.toks + (ps.zip us).length } := inv_startN S hr.hd e0 hl r C hns kp
  refine PySem.W.kla_codeExpr (wpAny_mono ((hbody (hr.deeper _)).run [] _ _ H Q I ht) (fun v s' hq => ?_) fun e s' hq => hq)
  obtain ⟨w', H', J', rv, q⟩ := hq
  exact ⟨w', H', J'.os, J'.bare, J'.base, J'.hok, rv, q⟩
section
variable {X : Cx} {pins : List (Addr × Obj)} {σ : L2.St} {H : Hp} {s : Shared}
/-- a(e), in the def that got the lambda as a -/
theorem pe_act1 {CXg : CXT} {Eg : XK} {Ng : List Str} {qg : Str} {sg : Scope} {g f c' : Addr} {cdg pm ctv : Value} {q : Str} {params : Arguments} {body : Expr} {scope : Scope} {cl : List (Str × Addr)} {k i : Nat} {a p : Str} {pn : List (Addr × Obj)} {xe : Value → Shared → Prop} {W : WX} {tb : XK → TE} {te : TE} {e : Expr} {p1 p2 : Pos} {N fr : List Str} {ws : List (Option V)}
    (S : NScope N [p] fr scope) (C : CellsAt cl fr ws s.heap H) (hf : s.heap.get? f = some (PySem.W.kla_obj "<lambda>" q params body scope cl pm c' ctv)) (hfn : H f = none) (hfr : f ∉ frs X.stack)
    (hbind : ∀ u, bindArgs (PySem.W.kla_fn "<lambda>" q params body scope cl pm (.ref c') ctv) ⟨[u], []⟩ = pure [(p, u)])
    (tk : Takes ((cxOf CXg X.prog X.w X.K X.mg X.base Ng qg sg g cdg X.A X.stack s H Eg).tr pn xe) W) (hr : Room (k + 1) (X.A.deeper (envOfC qg sg s.heap.objs.size g cdg)))
    (hbody : ∀ (A : Around) (outer : List PySem.Env) (s : Shared) (H : Hp) (E : XK), Room k (A.deeper (envF (lamF q params scope cl c') f s.heap.objs.size)) → PE (ncx (L2.CX X.prog X.w) X.prog X.w X.K X.mg X.base N (lamF q params scope cl c') f A outer s H E) body (tb E))
    (ha : PE ((cxOf CXg X.prog X.w X.K X.mg X.base Ng qg sg g cdg X.A X.stack s H Eg).tr pn xe) e te) (he : ∀ env, starEach [e] env = (false, eval e env) :: starEach [] env)
    (hN : Ng[i]? = some a) (hv : Vis sg a) (hd : (a == ("__debug__" : Str)) = false := by decide) (hcd : (a == ("__classdict__" : Str)) = false := by decide) :
    PE ((cxOf CXg X.prog X.w X.K X.mg X.base Ng qg sg g cdg X.A X.stack s H Eg).tr pn xe) (.Call (.Name a p1) [e] [] p2)
      (fun σZ HZ Q => σZ[i]? = some (some (.ref f)) ∧ te σZ HZ fun v H1 => H1 c' = some (CodeO c' q) ∧ tb (fun cls d H' => W cls d σZ H') (startF N [v] ws) H1 Q) := by
  refine ⟨fun pinsZ sZ σZ HZ Q IZ h => ?_⟩
  obtain ⟨hs, ht⟩ := h
  refine wpAny_Call_Name_kw (thn ((pe_var (pos := p1) (i := i) hN hv hd hcd).run pinsZ sZ σZ HZ (fun v H1 => v = .ref f ∧ H1 = HZ) IZ ⟨.ref f, hs, rfl, rfl⟩) fun u s1 ⟨v, H1, I1, r1, q1⟩ => ?_)
  obtain ⟨ev, eH⟩ := q1
  subst ev
  rw [eH] at I1
  obtain rfl : u = Value.ref f := r1
  have of1 : s1.heap.get? f = some (PySem.W.kla_obj "<lambda>" q params body scope cl pm c' ctv) := I1.base.keep f _ hf hfn hfr (fun z => nomatch (show f ∈ ([] : List Addr) from z))
  refine PySem.W.callWith_F (first := []) ⟨_, _, _, _, of1⟩ (thn ((pa_cons ha pa_nil (he _)).run p2 pinsZ s1 σZ HZ (fun vs H' => ∃ v, vs = [v] ∧ H' c' = some (CodeO c' q) ∧ tb (fun cls d H' => W cls d σZ H') (startF N [v] ws) H' Q) I1 ?_) fun us s2 ⟨vs, H2, I2, r, q2⟩ => ?_) (he _) (by rfl)
  · show te σZ HZ fun v H1 => _
    have : (fun v H1 => H1 c' = some (CodeO c' q) ∧ tb (fun cls d H' => W cls d σZ H') (startF N [v] ws) H1 Q) = (fun v H1 => ∃ v', [v] = [v'] ∧ H1 c' = some (CodeO c' q) ∧ tb (fun cls d H' => W cls d σZ H') (startF N [v'] ws) H1 Q) := by
      funext v H1
      refine propext ⟨fun h => ⟨v, rfl, h⟩, fun ⟨v', e, h⟩ => ?_⟩
      cases e
      exact h
    rw [this] at ht
    exact ht
  obtain ⟨v, ev, hc, hb⟩ := q2
  subst ev
  have of2 : s2.heap.get? f = some (PySem.W.kla_obj "<lambda>" q params body scope cl pm c' ctv) := I2.base.keep f _ hf hfn hfr (fun z => nomatch (show f ∈ ([] : List Addr) from z))
  refine ⟨⟨_, _, _, _, of2⟩, ?_⟩
  show wpAny _ _ (call (.ref f) us) _ _ _
  have un : Un (frs X.stack) [] H H2 s.heap s2.heap := I2.base
  obtain ⟨u0, eu⟩ := vals_one r
  subst eu
  have rc : codeAny (model X.prog X.w) (X.A.deeper (envOfC qg sg s.heap.objs.size g cdg)) (.call (.ref f) ⟨[u0], []⟩) (CR (L2.CX X.prog X.w) (envOfC qg sg s.heap.objs.size g cdg :: X.stack) X.prog X.w H2 s2 Q (fun cls d H' => W cls d σZ H')) s2 :=
    lam_run (k := k) S (hbind u0) hr I2.env0 of2 hc (cells_later C un) r rfl (fun hr2 => hbody _ _ _ _ _ hr2) hb
  refine wpAny_call (codeAny_mono rc fun r s' hq => ?_)
  cases r with
  | error e => exact tk e s' (XE.of_call I2 (fun cls d H' h => h) hq)
  | ok fl =>
    cases fl with
    | ret u => exact I2.after hq
    | next => exact False.elim hq
    | brk => exact False.elim hq
    | cont => exact False.elim hq
end
/-- the def g (two parameters, the second is called): TT is what it makes of the lambda's reading -/
def GivesTo1 (X : Cx) (k : Nat) (Ng : List Str) (x : Str) (sg : Scope) (g : Addr) (cdg : Value) (bg : List Stmt) (a : Str) (q : Str) (TT : (XK → V → Hp → VK → Prop) → V → Hp → VK → Prop) : Prop :=
  ∀ (f c' : Addr) (s : Shared) (H : Hp) (v0 : V) (Q : VK) (tl : XK → V → Hp → VK → Prop), Room k (X.A.deeper (envOfC x sg s.heap.objs.size g cdg)) →
    (∀ (W : WX) (pn : List (Addr × Obj)) (xe : Value → Shared → Prop) (e : Expr) (te : TE) (p1 p2 : Pos), Takes ((cxOf C8.CX0 X.prog X.w X.K X.mg X.base Ng x sg g cdg X.A X.stack s H C8.E0).tr pn xe) W →
      PE ((cxOf C8.CX0 X.prog X.w X.K X.mg X.base Ng x sg g cdg X.A X.stack s H C8.E0).tr pn xe) e te → (∀ env, starEach [e] env = (false, eval e env) :: starEach [] env) →
      PE ((cxOf C8.CX0 X.prog X.w X.K X.mg X.base Ng x sg g cdg X.A X.stack s H C8.E0).tr pn xe) (.Call (.Name a p1) [e] [] p2) (fun σZ HZ Q => σZ[1]? = some (some (.ref f)) ∧ te σZ HZ fun v H1 => H1 c' = some (CodeO c' q) ∧ tl (fun cls d H' => W cls d σZ H') v H1 Q)) →
    H c' = some (CodeO c' q) → TT tl v0 H Q →
    ∃ t, PSs (cxOf C8.CX0 X.prog X.w X.K X.mg X.base Ng x sg g cdg X.A X.stack s H C8.E0).nox bg t ∧ t { nx := fun _ H' => Q .non H', rt := Q } (L2.start Ng [v0, .ref f]) H
def tLam1 (T : List (Addr × Str)) (TT : (XK → V → Hp → VK → Prop) → V → Hp → VK → Prop) (t0 : TE) (t : XK → L2.St → V → Hp → VK → Prop) : TE := fun σ H Q => t0 σ H fun v0 H0 => Tabs T H0 ∧ ∀ H1, ExtN H0 H1 → Tabs T H1 → TT (fun E v H' Q' => t E σ v H' Q') v0 H1 Q
section
variable {X : Cx}
/-- x(e, lambda p: body) -/
theorem pe_lamcall1 {T : List (Addr × Str)} {TT : (XK → V → Hp → VK → Prop) → V → Hp → VK → Prop} {x a a0 p : Str} {g c P : Addr} {k : Nat} {pg : Arguments} {bg : List Stmt} {sg : Scope} {dV kV doc pm cdv ct oc : Value} {an od : Option Addr} {osl : Array (Option Value)} {Ng N fr : List Str} {js : List Nat}
    {params : Arguments} {body e : Expr} {scope : Scope} {t : XK → TE} {t0 : TE} {pp lpos pos : Pos} (hg : Gl X x) (hm : X.mg x = some (.ref g)) (hk : PySem.W.keepIn X.K (.ref g) = true)
    (lk : X.K.lookup g = some ⟨oc, od, .func (PySem.W.fnOf x x pg bg sg dV kV doc pm an cdv ct), osl⟩) (hcg : PySem.W.codeIn X.K cdv x = true) (hb : L2.Binds X.K (PySem.W.fnOf x x pg bg sg dV kV doc pm an cdv ct) [a0, a] []) (Sg : FnScope Ng [a0, a] sg) (hNg : Ng[1]? = some a) (hva : Vis sg a)
    (hG : GivesTo1 X (k + 1) Ng x sg g cdv bg a (X.env.qual ++ "<lambda>") TT)
    (TB : TabB X.base X.mg c P) (hcode : X.env.code = .ref c) (hmT : (P, X.env.qual ++ "<lambda>") ∈ T) (hu : ∀ p ∈ T, p.1 = P → p.2 = X.env.qual ++ "<lambda>") (hr : Room (k + 2) X.A) (S : NScope N [p] fr scope)
    (hfree : ∀ y ∈ scope.names, y.2 = .free → X.env.scope.names.lookup y.1 = some .cell ∨ X.env.scope.names.lookup y.1 = some .free) (hfr : ∀ y ∈ fr, (y, NameKind.free) ∈ scope.names) (hjs : js.map (fun j => X.N[j]?) = fr.map some)
    (hdef : defaultsOf params X.env = ([], []))
    (hbind : ∀ (q : Str) (cl : List (Str × Addr)) (pm cv ctv u : Value), bindArgs (PySem.W.kla_fn "<lambda>" q params body scope cl pm cv ctv) ⟨[u], []⟩ = pure [(p, u)])
    (hbody : ∀ (A : Around) (outer : List PySem.Env) (s : Shared) (H : Hp) (E : XK) (f c' : Addr), Room k (A.deeper (envF (lamF (X.env.qual ++ "<lambda>") params scope (cloFrom X.env.cells scope.names []) c') f s.heap.objs.size)) →
      PE (ncx (L2.CX X.prog X.w) X.prog X.w X.K X.mg X.base N (lamF (X.env.qual ++ "<lambda>") params scope (cloFrom X.env.cells scope.names []) c') f A outer s H E) body (t E))
    (he : PE X e t0) (hse : ∀ env, starEach [e, .Lambda params body scope lpos] env = (false, eval e env) :: starEach [.Lambda params body scope lpos] env)
    (hdb : (x == ("__debug__" : Str)) = false := by decide) (hd : (a == ("__debug__" : Str)) = false := by decide) (hcd : (a == ("__classdict__" : Str)) = false := by decide) :
    PE X (.Call (.Name x pp) [e, .Lambda params body scope lpos] [] pos) (tLam1 T TT t0 fun E σ v H Q => t E (startF N [v] (js.map (slotAt σ))) H Q) := by
  refine ⟨fun pins s σ H Q I h => ?_⟩
  refine wpAny_Call_Name_kw (ld_glob I hg hm ?_ hdb)
  refine PySem.W.callWith_K (h₀ := X.base) I.ok.mod.kin hk ?_ (hse _) (by rfl)
  rw [hse]
  show wpAny _ _ (spliced ((false, eval e X.env) :: (false, eval (.Lambda params body scope lpos) X.env) :: backTo pos (starEach [] X.env))) _ _ s
  refine Calls.spliced_cons (thn (he.run pins s σ H _ I h) fun u0 s0 ⟨v0, H0, I0, r0, q0⟩ => ?_)
  obtain ⟨hT, h⟩ := q0
  have hfr2 : ∀ y ∈ scope.names, y.2 = .free → ∃ c, X.env.cells.lookup y.1 = some c := fun y hy e => (hfree y hy e).elim (fun z => I0.ok.has _ (.inl z)) fun z => I0.ok.has _ (.inr z)
  refine Calls.spliced_cons (lam_make2 I0 TB hcode hmT hu hT hdef hfr2 fun f c' pm' ctv H1 s' I1 eN T1 hf hfn hfr' hco => ?_)
  refine Calls.spliced_nil ⟨I1.kIn, ?_⟩
  have cp := cells_of I1 (Caps.made I1.ok hfree hfr hjs)
  have rc : codeAny (model X.prog X.w) X.A (.call (.ref g) ⟨[u0, .ref f], []⟩) (CR C8.CX0 X.stack X.prog X.w H1 s' Q C8.E0) s' := by
    refine run_ofS (N := Ng) (ps := [a0, a]) (us := [u0, .ref f]) (vs := [v0, .ref f]) lk hcg Sg hr I1.env0 (hb s' [u0, .ref f] I1.kIn rfl) (.cons r0 (.cons rfl .nil)) rfl fun hr' => ?_
    obtain ⟨t', ht', hq'⟩ := hG f c' s' H1 v0 Q (fun E v H' Q' => t E (startF N [v] (js.map (slotAt σ))) H' Q') hr' (fun W pn xe e te p1 p2 tk ha he => pe_act1 (i := 1) S cp hf hfn hfr' (hbind _ _ _ _ _) tk hr' (fun A outer s H E hr2 => hbody A outer s H E f c' hr2) ha he hNg hva hd hcd) hco (h H1 eN T1)
    exact ⟨t', ht'.nox, hq'⟩
  refine wpAny_call (codeAny_mono rc fun r s2 hq => ?_)
  cases r with
  | error e => exact (show False from hq).elim
  | ok fl =>
    cases fl with
    | ret u => exact I1.after hq
    | next => exact False.elim hq
    | brk => exact False.elim hq
    | cont => exact False.elim hq
end
end KX

set_option maxRecDepth 100000
set_option maxHeartbeats 1000000
namespace KX
open PySem PySem.Spec PyProof.Rows L2 LamX
/-! ### the law's call where defs make lambdas, and repr shows data -/
theorem lawGT {P : Program} {w : World} {K : PySem.W.Frag} {mg mb : Str → Option Value} {k : Nat} {fa a : Addr} {cs : List (Addr × Addr)} {fd : FuncData} {x : Str} {sp : Sp} {s1 : Shared} {vs : List Value} {ns : List Int}
    (KX : K.In s1.heap) (hns : s1.heap.Ns mainGlobals mg) (hb : s1.heap.Ns builtinsNs mb) (hbb : ∀ x : Str, x ≠ "__name__" → mb x = bootBuiltins x) (hlim : s1.heap.NoLimit) (hg : s1.gens = #[])
    (hT : ∀ p ∈ cs, s1.heap.get? p.2 = some { cls := .none, data := .fields #[] }) (nT : ∀ p ∈ cs, K.lookup p.2 = none) (C : ∀ p ∈ cs, PySem.W.CodeHd s1.heap p.1 p.2)
    (hbm : ∃ (bm : Addr) (ob : Obj), mg "__builtins__" = some (.ref bm) ∧ bm ≠ builtinsNs ∧ s1.heap.get? bm = some ob ∧ ob.cls = .type "module" ∧ ob.dict = some builtinsNs ∧ ob.data = .plain)
    (ha : s1.heap.get? a = some { cls := .type "list", data := .seq vs.toArray }) (hi : IntsAre vs ns) (hl : ns.length ≤ sizeLine) (hr : Room k callerA)
    (F : ∀ base : Heap, K.In base → base.Ns mainGlobals mg → (∀ p ∈ cs, TabB base mg p.1 p.2) → FnG P w K mg base CX0 k fa fd [x] sp) (hbind : ∀ (s : Shared) (u : Value), BindsTo s fd ⟨[u], []⟩ [(x, u)])
    (hsp : ∀ H : Hp, (∀ p ∈ cs, H p.2 = some (.tbl #[])) → SqL K H a (ns.map V.int) → sp [.ref a] H (fun v _ => v = .bl true) fun _ _ _ => False) :
    codeAny (model P w) callerA (.call (.ref fa) ⟨[.ref a], []⟩) (fun r s' => r = .ok (.ret (.bool true)) ∧ OldK s1.heap s'.heap ∧ s'.os = s1.os ∧ AllBare s'.gens) s1 := by
  have rv := vals_ints hi
  have lenV := hi.length
  have neA : ∀ p ∈ cs, p.2 ≠ a := fun p hp z => by
    have e := hT p hp
    rw [z, ha] at e
    cases e
  have main : ∀ H : Hp, (∀ b o, H b = some o → (b = a ∧ K.lookup a = none ∧ o = .frz { cls := .type "list", data := .seq vs.toArray } (.lst (ns.map V.int))) ∨ ∃ p ∈ cs, b = p.2 ∧ o = .tbl #[]) → (∀ p ∈ cs, H p.2 = some (.tbl #[])) → SqL K H a (ns.map V.int) →
      codeAny (model P w) callerA (.call (.ref fa) ⟨[.ref a], []⟩) (fun r s' => r = .ok (.ret (.bool true)) ∧ OldK s1.heap s'.heap ∧ s'.os = s1.os ∧ AllBare s'.gens) s1 := by
    intro H hO hH hS
    have hok : HOk P w H s1.heap := fun b o e => by
      rcases hO b o e with ⟨e1, _, e2⟩ | ⟨p, hp, e1, e2⟩
      · subst e1 e2
        exact ⟨ha, by rw [List.length_map]; exact hl, vs, _, rv, ha⟩
      · subst e1 e2
        exact hT p hp
    have none_of : ∀ {b : Addr} {o : Obj}, s1.heap.get? b = some o → (∀ vs n, o.data ≠ .seq vs n) → o.data ≠ .fields #[] → H b = none := fun {b o} e n1 n2 => by
      cases q : H b with
      | none => rfl
      | some u =>
        rcases hO b u q with ⟨e1, _, _⟩ | ⟨p, hp, e1, _⟩
        · rw [e1, ha] at e
          cases e
          exact (n1 _ _ rfl).elim
        · rw [e1, hT p hp] at e
          cases e
          exact (n2 rfl).elim
    have keep : ∀ {b : Addr} {o : Obj}, s1.heap.get? b = some o → (∀ vs n, o.data ≠ .seq vs n) → o.data ≠ .fields #[] → (hidT s1.heap H).get? b = some o := fun e n1 n2 => hidT_get e (none_of e n1 n2)
    have nsK : ∀ {b : Addr} {m : Str → Option Value}, s1.heap.Ns b m → (hidT s1.heap H).Ns b m := fun {b m} hn => by
      obtain ⟨o, es, ep, e, d, r⟩ := hn
      exact ⟨o, es, ep, keep e (fun vs n z => by rw [d] at z; cases z) (fun z => by rw [d] at z; cases z), d, r⟩
    have hKb : K.In (hidT s1.heap H) := fun b o e => hidT_get (KX b o e) (by
      cases q : H b with
      | none => rfl
      | some u =>
        rcases hO b u q with ⟨e1, e2, _⟩ | ⟨p, hp, e1, _⟩
        · rw [e1, e2] at e
          cases e
        · rw [e1, nT p hp] at e
          cases e)
    have hM : Mod K mg (hidT s1.heap H) := ⟨hKb, nsK hns, ⟨mb, nsK hb, hbb⟩, let ⟨mc, h1, h2⟩ := hlim; ⟨mc, nsK h1, h2⟩⟩
    have e0 : Env0 P w K mg (hidT s1.heap H) callerA [] s1 H := ⟨rfl, hM, fun b o e => of_hidT e, Nat.le_of_eq (hidT_size _ _), trivial, fun b hb => absurd (show b ∈ ([] : List Addr) from hb) (by simp), hok, .of_eq hg⟩
    have TB : ∀ p ∈ cs, TabB (hidT s1.heap H) mg p.1 p.2 := fun p hp => by
      refine ⟨?_, ?_, fun z => ?_⟩
      · obtain ⟨o, us, file, tf, flags, tg, inF, text, tt, e1, r1, r2, r3, rest⟩ := C p hp
        refine ⟨o, us, file, tf, flags, tg, inF, text, tt, keep e1 (fun vs n z => by rw [r2] at z; cases z) (fun z => ?_), r1, r2, r3, rest⟩
        rw [r2] at z
        cases z
        simp at r3
      · obtain ⟨bm, ob, b1, b2, b3, b4, b5, b6⟩ := hbm
        have n1 : ∀ vs n, ob.data ≠ .seq vs n := fun vs n z => by rw [b6] at z; cases z
        have n2 : ob.data ≠ .fields #[] := fun z => by rw [b6] at z; cases z
        refine ⟨bm, ob, b1, b2, fun q => ?_, fun q => ?_, keep b3 n1 n2, b4, b5, b6⟩
        · obtain ⟨o, es, ep, e, hd, _⟩ := hns
          rw [q, e] at b3
          cases b3
          rw [hd] at b6
          cases b6
        · rw [q, hT p hp] at b3
          cases b3
          cases b6
      · obtain ⟨o, es, ep, e, hd, _⟩ := hns
        rw [z, hT p hp] at e
        cases e
        cases hd
    refine codeAny_mono ((F _ hKb (nsK hns) TB).run callerA [] s1 H ⟨[.ref a], []⟩ [.ref a] [.ref a] _ _ rfl hr e0 (hbind s1 (.ref a)) (.cons rfl .nil) (hsp H hH hS)) fun r s' h => ?_
    match r, h with
    | .error e, h => exact h.elim
    | .ok (.ret u), h =>
      obtain ⟨v, H', os, bare, un, hok', r', q⟩ := h
      have q' : v = .bl true := q
      subst q'
      obtain rfl : u = Value.bool true := r'
      have key : ∀ b o, (∀ p ∈ cs, b ≠ p.2) → s1.heap.get? b = some o → s'.heap.get? b = some o := fun b o nb e => by
        cases q : H b with
        | none => exact un.keep b o e q (fun z => absurd (show b ∈ ([] : List Addr) from z) (by simp)) (by simp)
        | some u =>
          rcases hO b u q with ⟨e1, _, e2⟩ | ⟨p, hp, e1, _⟩
          · rw [e2] at q
            obtain ⟨f1, _⟩ := hok b _ q
            obtain ⟨f2, _⟩ := hok' b _ (un.frzs b _ _ q)
            rw [e] at f1
            cases f1
            exact f2
          · exact (nb p hp e1).elim
      have grown : ∀ p ∈ cs, ∃ more : Array Value, s'.heap.get? p.2 = some { cls := .none, data := .fields more } := fun p hp => by
        obtain ⟨more, z⟩ := un.tbls p.2 #[] (hH p hp)
        exact ⟨_, hok' p.2 _ z⟩
      refine ⟨rfl, ⟨fun b o e => ?_, fun b o e => ?_⟩, os, bare⟩
      · by_cases hb : ∃ p ∈ cs, b = p.2
        · obtain ⟨p, hp, ep⟩ := hb
          obtain ⟨more, hm⟩ := grown p hp
          rw [ep] at e ⊢
          rw [hT p hp] at e
          cases e
          exact .inr (.inl ⟨((C p hp).tab (hT p hp)).isCodeTable, rfl, #[], more, rfl, by rw [Array.empty_append]; exact hm⟩)
        · exact .inl (key b o (fun p hp z => hb ⟨p, hp, z⟩) e)
      · by_cases hb : ∃ p ∈ cs, b = p.2
        · obtain ⟨p, hp, ep⟩ := hb
          obtain ⟨more, hm⟩ := grown p hp
          rw [ep]
          exact ⟨_, hm⟩
        · exact ⟨o, key b o (fun p hp z => hb ⟨p, hp, z⟩) e⟩
  cases hk : K.lookup a with
  | some o =>
    have e := KX a o hk
    rw [ha] at e
    cases e
    refine main (fun b => if ∃ p ∈ cs, b = p.2 then some (.tbl #[]) else none) (fun b u z => ?_) (fun p hp => if_pos ⟨p, hp, rfl⟩) (.inr ⟨_, vs.toArray, _, hk, rfl, rfl, rfl, by rw [List.size_toArray, lenV]; exact hl, by simpa using rv⟩)
    by_cases hb : ∃ p ∈ cs, b = p.2
    · have z' := (if_pos hb).symm.trans z
      cases z'
      obtain ⟨p, hp, e⟩ := hb
      exact .inr ⟨p, hp, e, rfl⟩
    · have z' := (if_neg hb).symm.trans z
      cases z'
  | none =>
    refine main (fun b => if b = a then some (.frz { cls := .type "list", data := .seq vs.toArray } (.lst (ns.map V.int))) else if ∃ p ∈ cs, b = p.2 then some (.tbl #[]) else none) (fun b u z => ?_) (fun p hp => (if_neg (neA p hp)).trans (if_pos ⟨p, hp, rfl⟩)) (.inl (.inr ⟨_, if_pos rfl⟩))
    by_cases hb : b = a
    · have z' := (if_pos hb).symm.trans z
      cases z'
      exact .inl ⟨hb, hk, rfl⟩
    · have z1 := (if_neg hb).symm.trans z
      by_cases hb2 : ∃ p ∈ cs, b = p.2
      · have z' := (if_pos hb2).symm.trans z1
        cases z'
        obtain ⟨p, hp, e⟩ := hb2
        exact .inr ⟨p, hp, e, rfl⟩
      · have z' := (if_neg hb2).symm.trans z1
        cases z'
/-- the table of the def that stands at f is empty -/
def EmptyTab (K : PySem.W.Frag) (f : Addr) (h : Heap) : Prop := OwnTab K f h
theorem walkGT {l : PySem.W.OpenLaw} {n k : Nat} {q : Program} {loose : List Str} {XP : (Str → Option Value) → Heap → Prop} {YP : World → Heap → Prop} {d : DefRec} {K : Params → PySem.W.Frag} {x : Str}
    (hn : l.most = some n) (hn2 : n ≤ sizeLine) (hdf : d.params.defaults = []) (hr : Room k callerA) (hY : ∀ (w : World) (h : Heap), YP w h → (K w.params).In h)
    (F : ∀ (w : World) (mg : Str → Option Value) (fa : Addr) (h : Heap), (K w.params).In h → h.Ns mainGlobals mg → mg d.name = some (.ref fa) → (∀ y : Str, ((recsOf q).any fun e => e.name == y) = true → ∀ f : Addr, mg y = some (.ref f) → OwnTab (K w.params) f h) →
      ∃ (fd : FuncData) (cs : List (Addr × Addr)) (sp : Sp), (∀ p ∈ cs, h.get? p.2 = some { cls := .none, data := .fields #[] }) ∧ (∀ p ∈ cs, (K w.params).lookup p.2 = none) ∧ (∀ p ∈ cs, PySem.W.CodeHd h p.1 p.2) ∧ (∀ (s : Shared) (u : Value), BindsTo s fd ⟨[u], []⟩ [(x, u)]) ∧
        (∀ (H : Hp) (a : Addr) (ns : List Int), ns.length ≤ n → (∀ p ∈ cs, H p.2 = some (.tbl #[])) → SqL (K w.params) H a (ns.map V.int) → sp [.ref a] H (fun v _ => v = .bl true) fun _ _ _ => False) ∧
        ∀ base : Heap, (K w.params).In base → base.Ns mainGlobals mg → (∀ p ∈ cs, TabB base mg p.1 p.2) → FnG l.prog w (K w.params) mg base CX0 k fa fd [x] sp) :
    PySem.W.WalkO q loose XP YP l.row.toRowW d [] (fun f vs => PySem.call f vs) := by
  refine Att.attach_callB hn hdf fun w s₀ s₁ mg mb fa o pm cd doc a vs ns G Y ho hd hcd hmg hobj hints hlen hbits hg => ?_
  have KX := hY w _ Y
  have own : ∀ y : Str, ((recsOf q).any fun e => e.name == y) = true → ∀ f : Addr, mg y = some (.ref f) → OwnTab (K w.params) f s₁.heap := fun y hrec f hf c P o1 fd1 e dd vs1 sl k1 k2 k3 k4 k5 => by
    obtain ⟨dL, hm, hn1⟩ := List.any_eq_true.mp hrec
    have hn2 : dL.name = y := beq_iff_eq.mp hn1
    obtain ⟨a', o', fd', c', P', h1, h2, h3, h4, h5, h6⟩ := G.T.tab dL hm
    rw [hn2, hf] at h1
    cases h1
    have g1 := KX _ _ k1
    rw [g1] at h2
    cases h2
    rw [k2] at h3
    cases h3
    rw [k3] at h4
    cases h4
    obtain ⟨⟨oc, vc, e1, _, e3, e4⟩, hP⟩ := h6
    have g2 := KX _ _ k4
    rw [g2] at e1
    cases e1
    cases e3
    rw [k5] at e4
    cases e4
    exact hP
  obtain ⟨fd, cs, sp, hT, nT, C, hb, hsp, hF⟩ := F w mg fa _ KX G.T.g hmg own
  exact lawGT KX G.T.g G.T.b G.T.builtins G.T.nolimit hg hT nT C G.T.bmain hobj hints (Nat.le_trans hlen hn2) hr hF hb fun H hH hS => hsp H a ns hlen hH hS
end KX

set_option maxRecDepth 100000
set_option maxHeartbeats 1000000
namespace KX
open PySem PySem.Spec PyProof.Rows L2 LamX
/-! ### tables beside the stream; data where tables grow -/
theorem tabs_keep {l : Addr} {T : List (Addr × Str)} {H H' : Hp} (k : Keep l H H') (st : StO H l) (t : Tabs T H) : Tabs T H' := fun p hp => by
  obtain ⟨ps, h1, h2, h3⟩ := t p hp
  obtain ⟨x, y, z, el⟩ := st
  refine ⟨ps, k _ _ (fun e => ?_) h1, h2, fun pos cv hc => ?_⟩
  · rw [e, el] at h1
    cases h1
  · obtain ⟨c, e1, e2⟩ := h3 pos cv hc
    refine ⟨c, e1, k _ _ (fun e => ?_) e2⟩
    rw [e, el] at e2
    unfold CodeO at e2
    cases e2
/-- without the tables -/
def noT (H : Hp) : Hp := fun b => match H b with
  | some (.tbl _) => none
  | o => o
theorem noT_same {H : Hp} : Same (noT H) H := fun b o e => by
  unfold noT at e
  cases h : H b with
  | none => rw [h] at e; cases e
  | some u =>
    rw [h] at e
    cases u <;> first | exact e | cases e
theorem noT_at {H : Hp} {b : Addr} {o : HO} (h : H b = some o) (n : ∀ ps, o ≠ .tbl ps) : noT H b = some o := by
  unfold noT
  rw [h]
  cases o <;> first | rfl | exact (n _ rfl).elim
theorem noT_ext {H H' : Hp} (e : ExtN H H') : Same (noT H) (noT H') := fun b o h => by
  have n : ∀ ps, o ≠ .tbl ps := fun ps z => by
    subst z
    unfold noT at h
    cases q : H b with
    | none => rw [q] at h; cases h
    | some u =>
      rw [q] at h
      cases u <;> cases h
  exact noT_at (e b o (noT_same b o h) n) n
mutual
theorem Dx.noT {H : Hp} {v : V} {d : PyData} : Dx H v d → Dx (KX.noT H) v d
  | .non => .non
  | .bl b => .bl b
  | .int i => .int i
  | .str x => .str x
  | .tup e h => .tup (noT_at e fun _ z => by cases z) (Dxs.noT h)
  | .lst e n h => .lst (noT_at e fun _ z => by cases z) n (Dxs.noT h)
  | .dic e => .dic (noT_at e fun _ z => by cases z)
  | .dic1 e => .dic1 (noT_at e fun _ z => by cases z)
theorem Dxs.noT {H : Hp} {vs : List V} {ds : List PyData} : Dxs H vs ds → Dxs (KX.noT H) vs ds
  | .nil => .nil
  | .cons h hs => .cons (Dx.noT h) (Dxs.noT hs)
end
theorem Dx.ext {H H' : Hp} {v : V} {d : PyData} (h : Dx H v d) (e : ExtN H H') : Dx H' v d := (h.noT.up (noT_ext e)).up noT_same
theorem sto_ext {l : Addr} {H H' : Hp} (st : StO H l) (e : ExtN H H') : StO H' l := by
  obtain ⟨x, y, z, el⟩ := st
  exact ⟨x, y, z, e _ _ el fun ps q => by cases q⟩
theorem seq_ext {K : PySem.W.Frag} {H H' : Hp} {a : Addr} {xs : List V} (h : SqL K H a xs) (e : ExtN H H') : SqL K H' a xs := by
  rcases h with (h | ⟨o, h⟩) | h
  · exact .inl (.inl (e _ _ h fun ps q => by cases q))
  · exact .inl (.inr ⟨o, e _ _ h fun ps q => by cases q⟩)
  · exact .inr h
end KX

set_option maxRecDepth 100000
set_option maxHeartbeats 1000000
namespace KX
open PySem PySem.Spec PyProof.Rows L2 LamX
/-! ### a callee that doesn't get the list at p: it leaves it, and what it makes doesn't hold it -/
def frameL (sp : Sp) : Sp := fun vs H Q E => ∃ p xs, H p = some (.lst xs) ∧ sp vs (hid p H) (fun v H' => H' p = none → Q v (upd H' p (.lst xs))) E
section
variable {P : Program} {w : World} {K : PySem.W.Frag} {mg : Str → Option Value} {base : Heap} {k : Nat} {f : Addr} {fd : FuncData} {ps : List Str} {sp : Sp}
theorem hok_hid {H : Hp} {h : Heap} {p : Addr} {xs : List V} (ok : HOk P w H h) (e : H p = some (.lst xs)) : HOk P w (hid p H) h := fun b o q => by
  obtain ⟨n, q⟩ := hid_some q
  refine (ok b o q).stay (fun _ _ _ z => z) (fun c z => ?_) fun c ys z => ?_
  · rw [hid_at (fun y => by rw [y, e] at z; cases z)]
    exact z
  · rw [hid_at (fun y => by rw [y, e] at z; cases z)]
    exact z
theorem hok_back {H : Hp} {h : Heap} {p : Addr} {xs : List V} (ok : HOk P w H h) (n : H p = none) (x : ObjOk P w H h p (.lst xs)) : HOk P w (upd H p (.lst xs)) h := fun b o q => by
  by_cases hb : b = p
  · subst hb
    rw [upd_same] at q
    cases q
    exact x
  · rw [upd_ne hb] at q
    refine (ok b o q).stay (fun _ _ _ z => z) (fun c z => ?_) fun c ys z => ?_
    · rw [upd_ne (ne_of_none z n)]
      exact z
    · rw [upd_ne (ne_of_none z n)]
      exact z
theorem FnOk.frame (F : FnOk P w K mg base CX0 k f fd ps sp) : FnOk P w K mg base CX0 k f fd ps (frameL sp) := by
  refine ⟨fun vs H Q E h => ?_, fun A outer s H args us vs Q E hr e0 hb hv h => ?_⟩
  · obtain ⟨p, xs, _, h⟩ := h
    exact F.len _ _ _ _ h
  · obtain ⟨p, xs, e, h⟩ := h
    have nf : p ∉ frs outer := fun z => by
      rw [e0.frf p z] at e
      cases e
    have e1 : Env0 P w K mg base A outer s (hid p H) := ⟨e0.frames, e0.mod, fun b o z => ⟨(e0.bs b o z).1, by
      unfold hid
      split
      · rfl
      · exact (e0.bs b o z).2⟩, e0.bsz, e0.funs, fun b z => by
      unfold hid
      split
      · rfl
      · exact e0.frf b z, hok_hid e0.hok e, e0.bare⟩
    refine codeAny_mono (F.run A outer s (hid p H) args us vs _ E hr e1 hb hv h) fun r s' hq => ?_
    match r, hq with
    | .ok (.ret u), hq =>
      obtain ⟨v, H', os, bare, un, hok, r, q⟩ := hq
      have hn : hid p H p = none := if_pos rfl
      have x0 := e0.hok p _ e
      obtain ⟨ob, ho⟩ : ∃ ob, s.heap.get? p = some ob := by
        obtain ⟨_, its, n, _, z⟩ := x0
        exact ⟨_, z⟩
      have hp : H' p = none := un.free p ob ho hn (by simp)
      have kp := un.keep p ob ho hn nf (by simp)
      have x1 : ObjOk P w H' s'.heap p (.lst xs) := by
        obtain ⟨z, its, n, r, z2⟩ := x0
        rw [ho] at z2
        cases z2
        exact ⟨z, its, n, r, kp⟩
      have cs : ∀ {b : Addr} {o : HO}, H b = some o → (∀ ys, o ≠ .lst ys) → hid p H b = some o ∧ b ≠ p := fun {b o} z n => by
        have ne : b ≠ p := fun y => by
          rw [y, e] at z
          cases z
          exact n _ rfl
        exact ⟨by rw [hid_at ne]; exact z, ne⟩
      refine ⟨v, upd H' p (.lst xs), os, bare, ⟨fun b o z n => un.keep b o z (by unfold hid; split <;> first | rfl | exact n), fun b o z n => un.slot b o z (by unfold hid; split <;> first | rfl | exact n), fun b o z n nx => ?_, un.there, fun b ys z => ?_, fun b o u z => ?_, fun b us z => ?_⟩, hok_back hok hp x1, r, q hp⟩
      · have ne : b ≠ p := fun y => by
          rw [y, e] at n
          cases n
        rw [upd_ne ne]
        exact un.free b o z (by rw [hid_at ne]; exact n) nx
      · obtain ⟨c1, c2⟩ := cs z (fun _ y => by cases y)
        rw [upd_ne c2]
        exact un.tups b ys c1
      · obtain ⟨c1, c2⟩ := cs z (fun _ y => by cases y)
        rw [upd_ne c2]
        exact un.frzs b o u c1
      · obtain ⟨c1, c2⟩ := cs z (fun _ y => by cases y)
        rw [upd_ne c2]
        exact un.tbls b us c1
    | .error e, hq => exact (show False from hq).elim
end
/-- the values that a comprehension has made so far, beside the stream -/
theorem hid_comm {a b : Addr} {H : Hp} : hid a (hid b H) = hid b (hid a H) := by
  funext c
  unfold hid
  by_cases h1 : c = a <;> by_cases h2 : c = b <;> simp [h1, h2]
theorem hid_upd {p : Addr} {H : Hp} {o : HO} (n : H p = none) : hid p (upd H p o) = H := by
  funext c
  by_cases h : c = p
  · subst h
    unfold hid
    rw [if_pos rfl, n]
  · rw [hid_at h, upd_ne h]
/-- the law's call, the tables by what the top says -/
theorem walkGY {l : PySem.W.OpenLaw} {n k : Nat} {q : Program} {loose : List Str} {XP : (Str → Option Value) → Heap → Prop} {YP : World → Heap → Prop} {d : DefRec} {K : Params → PySem.W.Frag} {x : Str}
    (hn : l.most = some n) (hn2 : n ≤ sizeLine) (hdf : d.params.defaults = []) (hr : Room k callerA) (hY : ∀ (w : World) (h : Heap), YP w h → (K w.params).In h)
    (F : ∀ (w : World) (mg : Str → Option Value) (fa : Addr) (h : Heap), (K w.params).In h → h.Ns mainGlobals mg → mg d.name = some (.ref fa) → YP w h →
      ∃ (fd : FuncData) (cs : List (Addr × Addr)) (sp : Sp), (∀ p ∈ cs, h.get? p.2 = some { cls := .none, data := .fields #[] }) ∧ (∀ p ∈ cs, (K w.params).lookup p.2 = none) ∧ (∀ p ∈ cs, PySem.W.CodeHd h p.1 p.2) ∧ (∀ (s : Shared) (u : Value), BindsTo s fd ⟨[u], []⟩ [(x, u)]) ∧
        (∀ (H : Hp) (a : Addr) (ns : List Int), ns.length ≤ n → (∀ p ∈ cs, H p.2 = some (.tbl #[])) → SqL (K w.params) H a (ns.map V.int) → sp [.ref a] H (fun v _ => v = .bl true) fun _ _ _ => False) ∧
        ∀ base : Heap, (K w.params).In base → base.Ns mainGlobals mg → (∀ p ∈ cs, TabB base mg p.1 p.2) → FnG l.prog w (K w.params) mg base CX0 k fa fd [x] sp) :
    PySem.W.WalkO q loose XP YP l.row.toRowW d [] (fun f vs => PySem.call f vs) := by
  refine Att.attach_callB hn hdf fun w s₀ s₁ mg mb fa o pm cd doc a vs ns G Y ho hd hcd hmg hobj hints hlen hbits hg => ?_
  have KX := hY w _ Y
  obtain ⟨fd, cs, sp, hT, nT, C, hb, hsp, hF⟩ := F w mg fa _ KX G.T.g hmg Y
  exact lawGT KX G.T.g G.T.b G.T.builtins G.T.nolimit hg hT nT C G.T.bmain hobj hints (Nat.le_trans hlen hn2) hr hF hb fun H hH hS => hsp H a ns hlen hH hS
end KX

set_option maxRecDepth 100000
set_option maxHeartbeats 1000000
/-! any data against a text: ==, and in a tuple of texts -/
namespace KX
open PySem PySem.Spec PyProof.Rows L2
section
open MeetsSeq MeetsSeq2 MeetsSeq3 SeqRoads2 SeqAt
variable {A : Around} {s : Shared}
theorem rc_dict_str {l : Addr} {o : Obj} {es : Array DictEntry} {ep : Nat} (b : Str) (u : Tok) (ho : s.heap.get? l = some o) (hc : o.cls = .type "dict") (hd : o.data = .dict es ep) (hu : A.units < cLine) : SeqAt.RcAt A s (.ref l) (.str b u) false := fun prog w E Q h => by
  obtain ⟨cls, dd, data, sl⟩ := o
  simp only at hc hd
  subst hc hd
  exact rc_eq_decline_or (k := false) ⟨_, ho, rfl⟩ (typeIs_str s b u) (by decide) PySem.F.sub_str_dict PySem.F.slot_dict_eq PySem.F.slot_str_eq_refl
    (fun _ hq => call_meets PySem.F.slot_dict_eq ⟨_, ho, rfl⟩ PySem.F.entry_dict_eq (PySem.F.args_dict_eq_2 _ _) (dict_eq_declines_str b u l es ep dd sl) ⟨ho, hq⟩)
    (fun _ hq => call_meets PySem.F.slot_str_eq_refl (typeIs_str s b u) PySem.F.entry_str_eq (PySem.F.args_str_eq_2 _ _) (str_eq_declines_dict b u l es ep dd sl) ⟨ho, hq⟩)
    (fun _ hq => wpAny_of_eq (rfl : isSame (.ref l) (.str b u) = pure false) hq) (.inr hu) h
end
section
variable {X : Cx}
theorem dic_at {pins : List (Addr × Obj)} {σ : L2.St} {H : Hp} {s : Shared} {a : Addr} {kvs : List (Key × V)} (I : Inv X pins σ H s) (e : H a = some (.dK kvs)) : ∃ o es ep, s.heap.get? a = some o ∧ o.cls = .type "dict" ∧ o.data = .dict es ep := by
  obtain ⟨_, _, _, _, o, es, ep, e1, ex, ed, _⟩ := (show ObjOk X.prog X.w H s.heap a (.dK kvs) from I.hok a _ e)
  exact ⟨o, es, ep, e1, ex.1, ed⟩
/-- the data d is the text n -/
def isSt (n : Str) : PyData → Bool
  | .str m => decide (m = n)
  | _ => false
theorem isSt_is {n : Str} {d : PyData} (h : isSt n d = true) : d = .str n := by
  cases d with
  | str m => rw [of_decide_eq_true h]
  | _ => cases h
theorem rc_data_str {pins : List (Addr × Obj)} {σ : L2.St} {H : Hp} {s : Shared} {A : Around} {x : V} {d : PyData} {v : Value} {n : Str} {u : Tok} (I : Inv X pins σ H s) (hd : Dx H x d) (r : RelV x v) (hu : A.units < cLine) : SeqAt.RcAt A s v (.str n u) (isSt n d) := by
  cases hd with
  | non =>
    cases r
    exact SeqAt.RcAt.none_str n u
  | bl b =>
    cases r
    exact SeqAt.RcAt.bool_str b n u
  | int i =>
    obtain ⟨t, rfl⟩ := (show ∃ t, v = Value.int i t from r)
    exact SeqAt.RcAt.int_str i t n u
  | str y =>
    obtain ⟨t, rfl⟩ := (show ∃ t, v = Value.str y t from r)
    rw [show isSt n (.str y) = (y == n) by
      show decide (y = n) = (y == n)
      by_cases h : y = n
      · subst h; simp
      · rw [decide_eq_false h]; symm; simpa using h]
    exact SeqAt.RcAt.str_str y t n u
  | @tup a xs ds e h =>
    cases (show v = Value.ref a from r)
    obtain ⟨its, r1, p1, _⟩ := I.tuple (show SqT X.K H a xs from .inl (.inl e))
    exact SeqAt.RcAt.tuple_str n u p1 hu
  | @lst a xs ds e _ h =>
    cases (show v = Value.ref a from r)
    obtain ⟨_, its, k, _, z⟩ := (show ObjOk X.prog X.w H s.heap a (.lst xs) from I.hok a _ e)
    exact SeqAt.RcAt.list_str n u ⟨_, z, rfl, _, rfl⟩ hu
  | @dic a e =>
    cases (show v = Value.ref a from r)
    obtain ⟨o, es, ep, h1, h2, h3⟩ := dic_at I e
    exact rc_dict_str n u h1 h2 h3 hu
  | @dic1 a _ _ e =>
    cases (show v = Value.ref a from r)
    obtain ⟨o, es, ep, h1, h2, h3⟩ := dic_at I e
    exact rc_dict_str n u h1 h2 h3 hu
theorem eq_str_data {pins : List (Addr × Obj)} {σ : L2.St} {H : Hp} {s : Shared} {A : Around} {x : V} {d : PyData} {v : Value} {n : Str} {u : Tok} (I : Inv X pins σ H s) (hd : Dx H x d) (r : RelV x v) (hu : A.units < cLine) : SeqAt.EqAt A s (.str n u) v (isSt n d) := by
  cases hd with
  | non =>
    cases r
    exact SeqAt.EqAt.str_none n u
  | bl b =>
    cases r
    exact SeqAt.EqAt.str_bool n u b
  | int i =>
    obtain ⟨t, rfl⟩ := (show ∃ t, v = Value.int i t from r)
    exact SeqAt.EqAt.str_int n u i t
  | str y =>
    obtain ⟨t, rfl⟩ := (show ∃ t, v = Value.str y t from r)
    rw [show isSt n (.str y) = (n == y) by
      show decide (y = n) = (n == y)
      by_cases h : y = n
      · subst h; simp
      · rw [decide_eq_false h]; symm; simpa using fun z : n = y => h z.symm]
    exact SeqAt.EqAt.str_str n u y t
  | @tup a xs ds e h =>
    cases (show v = Value.ref a from r)
    obtain ⟨its, r1, p1, _⟩ := I.tuple (show SqT X.K H a xs from .inl (.inl e))
    exact SeqAt.EqAt.str_tuple n u p1 hu
  | @lst a xs ds e _ h =>
    cases (show v = Value.ref a from r)
    obtain ⟨_, its, k, _, z⟩ := (show ObjOk X.prog X.w H s.heap a (.lst xs) from I.hok a _ e)
    exact SeqAt.EqAt.str_list n u ⟨_, z, rfl, _, rfl⟩ hu
  | @dic a e =>
    cases (show v = Value.ref a from r)
    obtain ⟨o, es, ep, h1, h2, h3⟩ := dic_at I e
    exact eq_str_dict n u h1 h2 h3 hu
  | @dic1 a _ _ e =>
    cases (show v = Value.ref a from r)
    obtain ⟨o, es, ep, h1, h2, h3⟩ := dic_at I e
    exact eq_str_dict n u h1 h2 h3 hu
/-- x == 'n', x any data -/
def rEqS : R2 := fun x y H Q => ∃ d n, Dx H x d ∧ y = .str n ∧ Q (.bl (isSt n d)) H
theorem op_eqS (hu : X.A.units < cLine) : OpR X (compareOp .Eq) rEqS := by
  intro pins s σ H x y v u Q I rx ry h
  obtain ⟨d, n, hd, rfl, q⟩ := h
  obtain ⟨t, rfl⟩ := (show ∃ t, u = Value.str n t from ry)
  exact rc_data_str I hd rx hu X.prog X.w X.xe _ ⟨.bl _, H, I, rfl, q⟩
/-- x in t, x not in t: t a tuple of texts, x any data -/
def rInA (K : PySem.W.Frag) (f : Bool → Bool) : R2 := fun x y H Q => ∃ (d : PyData) (t : Addr) (ns : List Str), Dx H x d ∧ y = .ref t ∧ SqT K H t (ns.map V.str) ∧ Q (.bl (f (ns.any fun n => isSt n d))) H
theorem vals_strs : ∀ (ns : List Str) (us : List Value), Vals (ns.map V.str) us → ∀ z ∈ us, ∃ n t, z = Value.str n t := fun ns => by
  induction ns with
  | nil => intro us r z hz; cases r; cases hz
  | cons n ns ih =>
    intro us r z hz
    cases r with
    | cons r1 r2 =>
      rcases List.mem_cons.mp hz with rfl | hz
      · obtain ⟨t, rfl⟩ := r1
        exact ⟨n, t, rfl⟩
      · exact ih _ r2 z hz
def isS (d : PyData) : Value → Bool
  | .str m _ => isSt m d
  | _ => false
theorem any_isS {d : PyData} : ∀ (ns : List Str) (us : List Value), Vals (ns.map V.str) us → us.any (isS d) = ns.any fun n => isSt n d := fun ns => by
  induction ns with
  | nil => intro us r; cases r; rfl
  | cons n ns ih =>
    intro us r
    cases r with
    | cons r1 r2 =>
      obtain ⟨t, rfl⟩ := r1
      rw [List.any_cons, List.any_cons, ih _ r2]
      rfl
theorem op_inA (hu : X.A.units + 64 < cLine) : OpR X (compareOp .In) (rInA X.K id) := by
  intro pins s σ H x y v u Q I rx ry h
  obtain ⟨d, t, ns, hd, rfl, ht, q⟩ := h
  cases ry
  obtain ⟨its, rv, ⟨o, ho, hc, n, hdat⟩, _⟩ := I.tuple ht
  refine SeqAt.in_tupleAt (e := isS d) (hl := ⟨o, ho, hc, n, hdat⟩) (he := fun y hy => ?_) (h := ?_)
  · obtain ⟨m, t, rfl⟩ := vals_strs ns its rv y (by simpa using hy)
    exact eq_str_data I hd rx (by have : X.A.units + 64 < cLine := hu; show X.A.in1.units < cLine; exact Nat.lt_of_le_of_lt (by show X.A.units + 1 ≤ X.A.units + 64; omega) this)
  · have e : its.toArray.any (isS d) = ns.any fun n => isSt n d := by
      rw [← Array.any_toList]
      exact any_isS ns its rv
    rw [e]
    exact ⟨.bl _, H, I, rfl, q⟩
theorem op_ninA (hu : X.A.units + 64 < cLine) : OpR X (compareOp .NotIn) (rInA X.K not) := by
  intro pins s σ H x y v u Q I rx ry h
  obtain ⟨d, t, ns, hd, rfl, ht, q⟩ := h
  cases ry
  obtain ⟨its, rv, ⟨o, ho, hc, n, hdat⟩, _⟩ := I.tuple ht
  refine SeqAt.notIn_tupleAt (e := isS d) (hl := ⟨o, ho, hc, n, hdat⟩) (he := fun y hy => ?_) (h := ?_)
  · obtain ⟨m, t, rfl⟩ := vals_strs ns its rv y (by simpa using hy)
    exact eq_str_data I hd rx (by have : X.A.units + 64 < cLine := hu; show X.A.in1.units < cLine; exact Nat.lt_of_le_of_lt (by show X.A.units + 1 ≤ X.A.units + 64; omega) this)
  · have e : its.toArray.any (isS d) = ns.any fun n => isSt n d := by
      rw [← Array.any_toList]
      exact any_isS ns its rv
    rw [e]
    exact ⟨.bl _, H, I, rfl, q⟩
/-- t == (), t any tuple -/
def rEq0 (K : PySem.W.Frag) : R2 := fun x y H Q => ∃ a b xs, x = .ref a ∧ y = .ref b ∧ SqT K H a xs ∧ SqT K H b [] ∧ Q (.bl xs.isEmpty) H
theorem op_eq0 (hu : X.A.units < cLine) : OpR X (compareOp .Eq) (rEq0 X.K) := by
  intro pins s σ H x y v u Q I rx ry h
  obtain ⟨a, b, xs, rfl, rfl, ha, hb, q⟩ := h
  cases rx
  cases ry
  obtain ⟨its, r1, p1, _⟩ := I.tuple ha
  obtain ⟨its2, r2, p2, _⟩ := I.tuple hb
  cases r2
  have e : ((List.range (min its.toArray.size ([] : List Value).toArray.size)).all (fun _ => true) && its.toArray.size == ([] : List Value).toArray.size) = xs.isEmpty := by
    have := r1.length
    cases xs with
    | nil =>
      cases its with
      | nil => rfl
      | cons _ _ => simp at this
    | cons _ _ =>
      cases its with
      | nil => simp at this
      | cons _ _ => simp
  refine SeqAt.RcAt.tuples (e := fun _ => true) p1 p2 hu (fun j h1 h2 => absurd h2 (by simp)) X.prog X.w X.xe (EP X pins σ Q) ?_
  rw [e]
  exact ⟨.bl _, H, I, rfl, q⟩
end
end KX

set_option maxRecDepth 100000
set_option maxHeartbeats 4000000
namespace U1
open PySem PySem.Spec PyProof.Rows L2 KX
def clsB : Stmt → List Stmt
  | .ClassDef (body := b) .. => b
  | _ => []
end U1

set_option maxRecDepth 100000
set_option maxHeartbeats 4000000
namespace U1
open PySem PySem.Spec PyProof.Rows L2 KX
abbrev sDraw : Stmt := topS 39
abbrev sStream : Stmt := topS 38
def spDraw : Sp := fun vs H Q _ => ∃ (l : Addr) (t : Int), vs = [.ref l, .int t] ∧ StO H l ∧ 0 < t ∧ t < 2 ^ 64 ∧ ∀ H' n, Keep l H H' → StO H' l → 0 ≤ n → n < t → Q (.int n) H'
theorem scDraw : FnScope ["stream", "total", "found", "one", "stir", "two"] ["stream", "total"] (defScope sDraw) := ⟨rfl, rfl, rfl, by decide +kernel, rfl, by decide +kernel, by decide +kernel⟩
theorem i63 {a b c : Int} : atI [V.int a, V.int b, V.int c] 0 = some (V.int a) ∧ atI [V.int a, V.int b, V.int c] 1 = some (V.int b) ∧ atI [V.int a, V.int b, V.int c] 2 = some (V.int c) := ⟨rfl, rfl, rfl⟩
theorem mod_bd {x m : Int} (h : 0 < m) (h2 : m < 2 ^ 64) : -(2 ^ 64) < x % m ∧ x % m < 2 ^ 64 := by
  have a := Int.emod_nonneg x (show m ≠ 0 by omega)
  have b := Int.emod_lt_of_pos x h
  omega
section
variable {P : Program} {w : World} {K : PySem.W.Frag} {mg : Str → Option Value} {base : Heap}
theorem ok_draw {f : Addr} {fd : FuncData} (B : Bl mg) (D : Df K mg "_law_draw" sDraw ["stream", "total"] f fd) : FnOk P w K mg base CX0 1 f fd ["stream", "total"] spDraw := by
  refine D.F.ok scDraw (fun vs H Q E h => ?_) (fun cdv A outer s H vs Q E hr h => ?_)
  · obtain ⟨l, t, rfl, _⟩ := h
    rfl
  · obtain ⟨l, t, rfl, ⟨a, b, c, el⟩, t0, t1, q⟩ := h
    have nd := scDraw.nd
    refine ⟨_, pss_cons (ps_if (pt_cmpR op_gt (pe_ix ix_list (pv 0) pe_int (fun _ _ => rfl)) pe_int (nomark _))
        (pss_cons (ps_set (i := 2) nd rfl (.inl rfl) (pe_op op_mod (pe_ix ix_list (pv 0) pe_int (fun _ _ => rfl)) (pv 1)))
        (pss_cons (ps_asg (pe_op op_fdivW (pe_ix ix_list (pv 0) pe_int (fun _ _ => rfl)) (pv 1)) (pg_sub (pv 0) pe_int set_list))
        (pss_one (ps_ret (pv 2))))) pss_nil)
      (pss_cons (ps_asg (pe_op op_add (pe_ix ix_list (pv 0) pe_int (fun _ _ => rfl)) pe_int) (pg_sub (pv 0) pe_int set_list))
      (pss_cons (ps_set (i := 3) nd rfl (.inl rfl) (pe_op op_mod (pe_op op_add (pe_ix ix_list (pv 0) pe_int (fun _ _ => rfl)) (pe_op op_mul pe_int (pe_ix ix_list (pv 0) pe_int (fun _ _ => rfl)))) pe_int))
      (pss_cons (ps_set (i := 4) nd rfl (.inl rfl) (pe_op op_add (pe_op op_mul (pe_op op_mod (pe_op op_mul (pv 3) (pv 3)) pe_int) (pv 3)) (pe_op op_mul pe_int (pe_ix ix_list (pv 0) pe_int (fun _ _ => rfl)))))
      (pss_cons (ps_set (i := 5) nd rfl (.inl rfl) (pe_op op_mod (pe_op op_add (pv 4) (pe_op op_mod (pe_ix ix_list (pv 0) pe_int (fun _ _ => rfl)) pe_int)) pe_int))
      (pss_one (ps_ret (pe_op op_mod (pe_op op_add (pe_op op_fdiv (pe_op op_mod (pe_op op_mul (pv 5) (pv 5)) pe_int) pe_int)
        (pe_op op_mul (pe_op op_mul (pv 3) pe_int) (pe_callTy call_int1 (by rfl) B.int (by decide +kernel) (pa_cons (pe_cmpR op_gt (pv 1) (pe_op op_pow pe_int pe_int) (nomark _)) pa_nil)))) (pv 1)))))))), ?_⟩
    refine ⟨.ref l, rfl, l, _, 0, .int a, rfl, rfl, .inl (.inl el), rfl, a, 0, rfl, rfl, _, rfl, ite2 (fun h => ?_) fun h => ?_⟩
    · refine ⟨.ref l, rfl, l, _, 0, .int a, rfl, rfl, .inl (.inl el), rfl, .int t, rfl, a, t, rfl, rfl, t0, ?_⟩
      refine ⟨.ref l, rfl, l, _, 0, .int a, rfl, rfl, .inl (.inl el), rfl, .int t, rfl, a, t, rfl, rfl, wide_div (b := 64) t0 (by omega) (by decide) (by decide), ?_⟩
      refine ⟨.ref l, rfl, l, _, 0, 0, rfl, rfl, el, rfl, .int (a % t), rfl, ?_⟩
      exact q _ _ Keep.at ⟨_, _, _, upd_same⟩ (Int.emod_nonneg a (by omega)) (Int.emod_lt_of_pos a t0)
    · refine ⟨.ref l, rfl, l, _, 2, .int c, rfl, rfl, .inl (.inl el), rfl, c, 1, rfl, rfl, .ref l, rfl, l, _, 2, 2, rfl, rfl, el, rfl, ?_⟩
      have e2 : (upd H l (.lst [.int a, .int b, .int (c + 1)])) l = some (.lst [.int a, .int b, .int (c + 1)]) := upd_same
      refine ⟨.ref l, rfl, l, _, 1, .int b, rfl, rfl, .inl (.inl e2), rfl, .ref l, rfl, l, _, 2, .int (c + 1), rfl, rfl, .inl (.inl e2), rfl, 1500450271, c + 1, rfl, rfl, .inl ⟨by decide, by decide⟩,
        b, _, rfl, rfl, _, 4294967279, rfl, rfl, (show (0 : Int) < 4294967279 by decide), ?_⟩
      have o1 := mod_bd (x := b + 1500450271 * (c + 1)) (m := 4294967279) (by decide) (by decide)
      refine ⟨_, rfl, _, rfl, _, _, rfl, rfl, .inl o1, _, 4294967231, rfl, rfl, (show (0 : Int) < 4294967231 by decide), _, rfl, _, _, rfl, rfl, .inr o1,
        .ref l, rfl, l, _, 2, .int (c + 1), rfl, rfl, .inl (.inl e2), rfl, 10007, c + 1, rfl, rfl, .inl ⟨by decide, by decide⟩, _, _, rfl, rfl, ?_⟩
      refine ⟨_, rfl, .ref l, rfl, l, _, 1, .int b, rfl, rfl, .inl (.inl e2), rfl, b, 65537, rfl, rfl, (show (0 : Int) < 65537 by decide), _, _, rfl, rfl, _, 4294967197, rfl, rfl, (show (0 : Int) < 4294967197 by decide), ?_⟩
      have o2 : ∀ x : Int, -(2 ^ 64) < x % 4294967197 ∧ x % 4294967197 < 2 ^ 64 := fun x => mod_bd (x := x) (m := 4294967197) (by decide) (by decide)
      refine ⟨_, rfl, _, rfl, _, _, rfl, rfl, .inl (o2 _), _, 4294967189, rfl, rfl, (show (0 : Int) < 4294967189 by decide), _, 64, rfl, rfl, (show (0 : Int) < 64 ∧ (64 : Int) < 1073741824 by decide), ?_⟩
      refine ⟨_, rfl, _, 67108864, rfl, rfl, .inl o1, .int t, rfl, 10, 6, rfl, rfl, ⟨by decide, by decide, by decide⟩, t, _, rfl, rfl, .inr ⟨_, rfl, ?_⟩⟩
      refine ⟨_, _, rfl, rfl, .inr ?_, _, _, rfl, rfl, .int t, rfl, _, t, rfl, rfl, t0, ?_⟩
      · split <;> decide
      · exact q _ _ Keep.at ⟨_, _, _, upd_same⟩ (Int.emod_nonneg _ (by omega)) (Int.emod_lt_of_pos _ t0)
end
/-! ### _law_stream -/
def spStream (K : PySem.W.Frag) : Sp := fun vs H Q _ => ∃ (a : Addr) (ns : List Int) (k : Int), vs = [.ref a, .int k] ∧ SqL K H a (ns.map V.int) ∧ 0 ≤ k ∧ k ≤ 1000 ∧ ∀ H' p, Same H H' → H p = none → StO H' p → Q (.ref p) H'
theorem scStream : FnScope ["script", "at", "cell", "great"] ["script", "at"] (defScope sStream) := ⟨rfl, rfl, rfl, by decide +kernel, rfl, by decide +kernel, by decide +kernel⟩
section
variable {P : Program} {w : World} {K : PySem.W.Frag} {mg : Str → Option Value} {base : Heap}
theorem ok_stream {f : Addr} {fd : FuncData} (B : Bl mg) (D : Df K mg "_law_stream" sStream ["script", "at"] f fd) : FnOk P w K mg base CX0 1 f fd ["script", "at"] (spStream K) := by
  refine D.F.ok scStream (fun vs H Q E h => ?_) (fun cdv A outer s H vs Q E hr h => ?_)
  · obtain ⟨a, ns, k, rfl, _⟩ := h
    rfl
  · obtain ⟨a, ns, k, rfl, hS, k0, k1, q⟩ := h
    have nd := scStream.nd
    refine ⟨_, pss_cons (ps_set (i := 2) nd rfl (.inl rfl) (pe_op op_add (pe_op op_mul pe_int (pv 1)) pe_int))
      (pss_cons (ps_if (pt_cmpR op_lt (pv 1) (pe_callB call_len_seq (by rfl) B.len PySem.boot_len (pa_cons (pv 0) pa_nil)) (nomark _))
        (pss_one (ps_set (i := 2) nd rfl (.inl rfl) (pe_ix ix_list (pv 0) (pv 1) (fun _ _ => rfl)))) pss_nil)
      (pss_cons (ps_set (i := 3) nd rfl (.inl rfl) (pe_op op_mod (pe_callB call_abs (by rfl) B.abs (by decide +kernel) (pa_cons (pv 2) pa_nil)) (pe_op op_powW (pe_op op_pow pe_int pe_int) pe_int)))
      (pss_one (ps_ret (pe_lst (pa_cons (pe_callB (call_max2 rfl) (by rfl) B.max (by decide +kernel) (pa_cons pe_int (pa_cons (pe_op op_sub (pv 3) (pe_op op_pow pe_int pe_int)) pa_nil)))
        (pa_cons (pe_op op_mod (pe_op op_add (pe_op op_add (pe_op op_add (pe_op op_mul (pv 3) pe_int) (pe_op op_mul pe_int (pv 1))) (pe_op op_mul pe_int (pe_callTy call_int1 (by rfl) B.int (by decide +kernel) (pa_cons (pe_cmpR op_lt (pv 2) pe_int (nomark _)) pa_nil)))) pe_int) pe_int)
        (pa_cons pe_int pa_nil)))))))), ?_⟩
    refine ⟨.int k, rfl, 5, k, rfl, rfl, .inl ⟨by decide, by decide⟩, _, 3, rfl, rfl, ?_⟩
    have c1 : (0 : Int) ≤ 60 ∧ (60 : Int) ≤ 1000000 ∧ (10 : Int).natAbs < 2 ^ 64 := by decide
    have c2 : (0 : Int) ≤ 12 ∧ ((Builtin.Int.intBits ((10 : Int) ^ (60 : Int).toNat) : Nat) : Int) * 12 ≤ 2 ^ 27 := by decide +kernel
    have c3 : (0 : Int) < ((10 : Int) ^ (60 : Int).toNat) ^ (12 : Int).toNat := by decide +kernel
    have c4 : (0 : Int) ≤ 17 ∧ (17 : Int) ≤ 1000000 ∧ (10 : Int).natAbs < 2 ^ 64 := by decide
    have c5 : (0 : Int) < 4294967291 := by decide
    refine ⟨.int k, rfl, .ref a, rfl, a, _, rfl, .inl hS, k, _, rfl, rfl, _, rfl, ite2 (fun h => ?_) (fun h => ?_)⟩
    · have hk : k < (ns.map V.int).length := of_decide_eq_true h
      rw [List.length_map] at hk
      have hk2 : k.toNat < ns.length := by omega
      refine ⟨.ref a, rfl, .int k, rfl, a, _, k, .int ns[k.toNat], rfl, rfl, hS, ?_, ?_⟩
      · have e : ((k.toNat : Nat) : Int) = k := by omega
        have z : atI (ns.map V.int) ((k.toNat : Nat) : Int) = some (.int ns[k.toNat]) := atI_nat (by
          rw [List.getElem?_map, List.getElem?_eq_getElem hk2]
          rfl)
        rw [e] at z
        exact z
      · refine ⟨_, rfl, _, rfl, 10, 60, rfl, rfl, c1, _, 12, rfl, rfl, c2, _, _, rfl, rfl, c3, ?_⟩
        refine ⟨_, rfl, 10, 17, rfl, rfl, c4, _, _, rfl, rfl, _, _, rfl, ?_⟩
        refine ⟨_, rfl, _, 9576890767, rfl, rfl, .inr ⟨by decide, by decide⟩, .int k, rfl, 611953, k, rfl, rfl, .inl ⟨by decide, by decide⟩, _, _, rfl, rfl, ?_⟩
        refine ⟨_, rfl, _, 0, rfl, rfl, .inr ⟨_, rfl, 2, _, rfl, rfl, .inl ⟨by decide, by decide⟩, _, _, rfl, rfl, _, 7, rfl, rfl, _, _, rfl, rfl, c5, ?_⟩⟩
        refine ⟨by show 3 ≤ sizeLine; decide, fun p np => ?_⟩
        exact q _ p (same_new np) np ⟨_, _, _, upd_same⟩
    · refine ⟨_, rfl, _, rfl, 10, 60, rfl, rfl, c1, _, 12, rfl, rfl, c2, _, _, rfl, rfl, c3, ?_⟩
      refine ⟨_, rfl, 10, 17, rfl, rfl, c4, _, _, rfl, rfl, _, _, rfl, ?_⟩
      refine ⟨_, rfl, _, 9576890767, rfl, rfl, .inr ⟨by decide, by decide⟩, .int k, rfl, 611953, k, rfl, rfl, .inl ⟨by decide, by decide⟩, _, _, rfl, rfl, ?_⟩
      refine ⟨_, rfl, _, 0, rfl, rfl, .inr ⟨_, rfl, 2, _, rfl, rfl, .inl ⟨by decide, by decide⟩, _, _, rfl, rfl, _, 7, rfl, rfl, _, _, rfl, rfl, c5, ?_⟩⟩
      refine ⟨by show 3 ≤ sizeLine; decide, fun p np => ?_⟩
      exact q _ p (same_new np) np ⟨_, _, _, upd_same⟩
end
end U1

namespace U1
open PySem PySem.Spec PyProof.Rows L2 KX
abbrev sNm : Stmt := topS 40
/-! ### _law_name -/
def baseL (n : Nat) : List Nat := [97 + n / 2 % 26] ++ (if n % 2 = 1 then [97] else []) ++ (if n > 51 then [97 + n / 52] else [])
def Lets (l : List Nat) : Prop := ∀ c ∈ l, 97 ≤ c ∧ c ≤ 122
def NameOf (n : Nat) (x : Str) : Prop := ∃ suf : List Nat, x.cps.toList = baseL n ++ suf ∧ Lets suf ∧ (suf.length = 0 ∨ (n % 2 = 1 ∧ n < 52 ∧ (suf.length = 2 ∨ suf.length = 6)))
theorem abc_at : ∀ i : Nat, i < 26 → abc.cps.toList[i]? = some (97 + i) := by decide +kernel
theorem abc_has : ∀ c : Nat, 97 ≤ c → c ≤ 122 → c ∈ abc.cps.toList := fun c h1 h2 => by
  have h := abc_at (c - 97) (by omega)
  rw [show 97 + (c - 97) = c by omega] at h
  exact List.mem_of_getElem? h
theorem abc_len : abc.length ≤ sizeLine := by decide +kernel
theorem app_cps (x y : Str) : (x ++ y).cps.toList = x.cps.toList ++ y.cps.toList := by
  show (x.cps ++ y.cps).toList = _
  simp
theorem base_cps (a b : Nat) (p q : Prop) [Decidable p] [Decidable q] : (((⟨#[a]⟩ : Str) ++ (if p then ("a" : Str) else "")) ++ (if q then (⟨#[b]⟩ : Str) else "")).cps.toList = [a] ++ (if p then [97] else []) ++ (if q then [b] else []) := by
  rw [app_cps, app_cps]
  by_cases hp : p
  · rw [if_pos hp, if_pos hp]
    by_cases hq : q
    · rw [if_pos hq, if_pos hq]; rfl
    · rw [if_neg hq, if_neg hq]; rfl
  · rw [if_neg hp, if_neg hp]
    by_cases hq : q
    · rw [if_pos hq, if_pos hq]; rfl
    · rw [if_neg hq, if_neg hq]; rfl
theorem b2i_one {c : Prop} [Decidable c] : ((if decide c = true then (1 : Int) else 0) = 1) ↔ c := by
  by_cases h : c
  · rw [decide_eq_true h, if_pos rfl]; simp [h]
  · rw [decide_eq_false h, if_neg (by decide)]; simp [h]
theorem len_cps (x : Str) : x.length = x.cps.toList.length := by simp [Str.length]
def spNm : Sp := fun vs H Q _ => ∃ (l : Addr) (n : Nat), vs = [.ref l, .int (n : Int)] ∧ StO H l ∧ n < 61 ∧ ∀ H' x, Keep l H H' → StO H' l → NameOf n x → Q (.str x) H'
theorem scNm : FnScope ["stream", "at", "letters", "name", "turn"] ["stream", "at"] (defScope sNm) := ⟨rfl, rfl, rfl, by decide +kernel, rfl, by decide +kernel, by decide +kernel⟩
section
variable {P : Program} {w : World} {K : PySem.W.Frag} {mg : Str → Option Value} {base : Heap}
theorem ok_nm {f fD : Addr} {fd fdD : FuncData} (B : Bl mg) (D : Df K mg "_law_name" sNm ["stream", "at"] f fd) (DD : Df K mg "_law_draw" sDraw ["stream", "total"] fD fdD) : FnOk P w K mg base CX0 2 f fd ["stream", "at"] spNm := by
  have GD : FnOk P w K mg base CX0 1 fD fdD _ spDraw := ok_draw B DD
  refine D.F.ok scNm (fun vs H Q E h => ?_) (fun cdv A outer s H vs Q E hr h => ?_)
  · obtain ⟨l, n, rfl, _⟩ := h
    rfl
  · obtain ⟨l, n, rfl, hs, hn, q⟩ := h
    have nd := scNm.nd
    refine ⟨_, pss_cons (ps_set (i := 2) nd rfl (.inl rfl) pe_str)
      (pss_cons (ps_set (i := 3) nd rfl (.inl rfl) (pe_op op_add_str (pe_op op_add_str (pe_ix ix_str (pv 2) (pe_op op_mod (pe_op op_fdiv (pv 1) pe_int) pe_int) (fun _ _ => rfl))
          (pe_ix ix_list (pe_lst (pa_cons pe_str (pa_cons pe_str pa_nil))) (pe_op op_mod (pv 1) pe_int) (fun _ _ => rfl)))
          (pe_op op_mul_s (pe_ix ix_str (pv 2) (pe_op op_fdiv (pv 1) pe_int) (fun _ _ => rfl)) (pe_callTy call_int1 (by rfl) B.int (by decide +kernel) (pa_cons (pe_cmpR op_gt (pv 1) pe_int (nomark _)) pa_nil)))))
      (pss_cons (ps_for PassesOwn.never rfl (pi_range1 (by rfl) B.range (pa_cons (pe_op op_mul (pe_op op_mul (pe_ix ix_list (pe_lst (pa_cons pe_int (pa_cons pe_int (pa_cons pe_int (pa_cons pe_int pa_nil)))))
              (pe_call GD hr (by rfl) DD.g DD.F.kp DD.b .nil pass0 (pa_cons (pv 0) (pa_cons pe_int pa_nil))) (fun _ _ => rfl))
              (pe_callTy call_int1 (by rfl) B.int (by decide +kernel) (pa_cons (pe_op op_mod (pv 1) pe_int) pa_nil)))
              (pe_callTy call_int1 (by rfl) B.int (by decide +kernel) (pa_cons (pe_cmpR op_lt (pv 1) pe_int (nomark _)) pa_nil))) pa_nil))
          (pg_name (i := 4) nd rfl (.inl rfl))
          (pss_one (ps_set (i := 3) nd rfl (.inl rfl) (pe_op op_add_str (pv 3) (pe_ix ix_str (pv 2) (pe_call GD hr (by rfl) DD.g DD.F.kp DD.b .nil pass0 (pa_cons (pv 0) (pa_cons pe_int pa_nil))) (fun _ _ => rfl))))))
      (pss_one (ps_ret (pv 3))))), ?_⟩
    have c26 : (0 : Int) < 26 := by decide
    have c2 : (0 : Int) < 2 ∧ (2 : Int) < 1073741824 := by decide
    have c52 : (0 : Int) < 52 ∧ (52 : Int) < 1073741824 := by decide
    have e1 : atI abc.cps.toList (((n : Int) / 2) % 26) = some (97 + n / 2 % 26) := by
      have := atI_nat (abc_at (n / 2 % 26) (by omega))
      rw [show (((n / 2 % 26 : Nat)) : Int) = ((n : Int) / 2) % 26 by omega] at this
      exact this
    have e2 : atI abc.cps.toList ((n : Int) / 52) = some (97 + n / 52) := by
      have := atI_nat (abc_at (n / 52) (by omega))
      rw [show (((n / 52 : Nat)) : Int) = (n : Int) / 52 by omega] at this
      exact this
    refine ⟨_, rfl, .int (n : Int), rfl, n, 2, rfl, rfl, c2, _, 26, rfl, rfl, c26, abc, _, _, rfl, rfl, abc_len, e1, ?_⟩
    refine ⟨by show 2 ≤ sizeLine; decide, fun p np => ?_⟩
    have h1 := hs.new (o := .lst [.str "", .str "a"]) np
    have e3 : atI [V.str "", V.str "a"] ((n : Int) % 2) = some (.str (if n % 2 = 1 then "a" else "")) := by
      rcases Nat.mod_two_eq_zero_or_one n with z | z
      · rw [if_neg (by omega), show (n : Int) % 2 = ((0 : Nat) : Int) by omega]
        rfl
      · rw [if_pos z, show (n : Int) % 2 = ((1 : Nat) : Int) by omega]
        rfl
    refine ⟨.int (n : Int), rfl, n, 2, rfl, rfl, (show (0 : Int) < 2 by decide), p, _, _, _, rfl, rfl, .inl (.inl upd_same), e3, _, _, rfl, rfl, ?_, ?_⟩
    · have : ((if n % 2 = 1 then ("a" : Str) else "") : Str).length ≤ 1 := by split <;> decide
      have h2 : (⟨#[97 + n / 2 % 26]⟩ : Str).length = 1 := rfl
      have hb : (2 : Nat) < sizeLine := by decide
      omega
    · refine ⟨_, rfl, .int (n : Int), rfl, n, 52, rfl, rfl, c52, abc, _, _, rfl, rfl, abc_len, e2, ?_⟩
      refine ⟨.int (n : Int), rfl, n, 51, rfl, rfl, .inr ⟨_, rfl, _, _, rfl, rfl, ?_, ?_⟩⟩
      · split <;> simp
      · have eb : (((⟨#[97 + n / 2 % 26]⟩ : Str) ++ (if n % 2 = 1 then ("a" : Str) else "")) ++ (if (if decide ((51 : Int) < (n : Int)) = true then (1 : Int) else 0) = 1 then (⟨#[97 + n / 52]⟩ : Str) else "")).cps.toList = baseL n := by
          rw [base_cps]
          unfold baseL
          congr 1
          by_cases z : n > 51
          · rw [if_pos z, if_pos (b2i_one.mpr (by omega))]
          · rw [if_neg z, if_neg (fun h => z (by have := b2i_one.mp h; omega))]
        have lb : (baseL n).length ≤ 3 := by
          unfold baseL
          split <;> split <;> simp
        refine ⟨_, _, rfl, rfl, ?_, ?_⟩
        · have k1 := len_cps ((((⟨#[97 + n / 2 % 26]⟩ : Str) ++ (if n % 2 = 1 then ("a" : Str) else "")) ++ (if (if decide ((51 : Int) < (n : Int)) = true then (1 : Int) else 0) = 1 then (⟨#[97 + n / 52]⟩ : Str) else "")))
          rw [eb, strLen_append] at k1
          have hb : (3 : Nat) < sizeLine := by decide
          omega
        · generalize hX : (((⟨#[97 + n / 2 % 26]⟩ : Str) ++ (if n % 2 = 1 then ("a" : Str) else "")) ++ (if (if decide ((51 : Int) < (n : Int)) = true then (1 : Int) else 0) = 1 then (⟨#[97 + n / 52]⟩ : Str) else "")) = X0 at eb ⊢
          refine ⟨by show 4 ≤ sizeLine; decide, fun p2 np2 => ?_⟩
          have h2 := h1.new (o := .lst [.int 0, .int 0, .int 2, .int 6]) np2
          refine ⟨.ref l, rfl, l, 4, rfl, h2, by decide, by decide, fun H2 d kd sd d0 d4 => ?_⟩
          have e4 : ∃ m : Nat, atI [V.int 0, V.int 0, V.int 2, V.int 6] d = some (.int (m : Int)) ∧ (m = 0 ∨ m = 2 ∨ m = 6) := by
            have : d = 0 ∨ d = 1 ∨ d = 2 ∨ d = 3 := by omega
            rcases this with rfl | rfl | rfl | rfl
            · exact ⟨0, rfl, by simp⟩
            · exact ⟨0, rfl, by simp⟩
            · exact ⟨2, rfl, by simp⟩
            · exact ⟨6, rfl, by simp⟩
          obtain ⟨m, em, hm⟩ := e4
          have pl : H2 p2 = some _ := kd _ _ (h1.ne np2) upd_same
          refine ⟨p2, _, d, _, rfl, rfl, .inl (.inl pl), em, .int (n : Int), rfl, n, 2, rfl, rfl, (show (0 : Int) < 2 by decide), .inl ⟨_, rfl, m, _, rfl, rfl, .inl ?_, ?_⟩⟩
          · omega
          · refine ⟨.int (n : Int), rfl, n, 52, rfl, rfl, .inr ⟨_, rfl, _, _, rfl, rfl, .inr ?_, ?_⟩⟩
            · split <;> decide
            · have hj : ∃ j : Nat, ((m : Int) * ((n : Int) % 2)) * (if decide ((n : Int) < 52) = true then (1 : Int) else 0) = (j : Int) ∧ (j = 0 ∨ (n % 2 = 1 ∧ n < 52 ∧ (j = 2 ∨ j = 6))) := by
                by_cases z : (n : Int) < 52
                · rw [decide_eq_true z, if_pos rfl, Int.mul_one]
                  rcases Nat.mod_two_eq_zero_or_one n with y | y
                  · exact ⟨0, by rw [show (n : Int) % 2 = 0 by omega]; simp, .inl rfl⟩
                  · refine ⟨m, by rw [show (n : Int) % 2 = 1 by omega]; simp, ?_⟩
                    rcases hm with h | h | h
                    · exact .inl h
                    · exact .inr ⟨y, by omega, .inl h⟩
                    · exact .inr ⟨y, by omega, .inr h⟩
                · rw [decide_eq_false z, if_neg (by decide), Int.mul_zero]
                  exact ⟨0, rfl, .inl rfl⟩
              obtain ⟨j, ej, hj⟩ := hj
              refine ⟨_, rfl, ?_, ?_, ?_⟩
              · show (-(2 ^ 62) : Int) ≤ _
                rw [ej]
                omega
              · show (_ : Int) < 2 ^ 62
                rw [ej]
                omega
              · have st1 : StO H2 l := sd
                have kp1 : Keep l H H2 := (((Keep.refl l H).new np).new np2).trans kd
                refine for_range (lo := 0) (n := Int.toNat _) (fun i σ G => Keep l H G ∧ StO G l ∧ ∃ (x : Str) (suf : List Nat) (tv : Option V), σ = [some (.ref l), some (.int n), some (.str abc), some (.str x), tv] ∧ x.cps.toList = baseL n ++ suf ∧ Lets suf ∧ suf.length = i)
                  ⟨kp1, st1, X0, [], none, rfl, by rw [eb, List.append_nil], fun c hc => absurd hc (by simp), rfl⟩ (fun i σ G hi hp => ?_) (fun σ G hp => ?_)
                · obtain ⟨kp, st, x, suf, tv, rfl, ex, hl, hi2⟩ := hp
                  have hi3 : i < j := by
                    have h := hi
                    rw [show Int.toNat _ = j from congrArg Int.toNat ej] at h
                    exact h
                  refine ⟨.str x, rfl, _, rfl, .ref l, rfl, l, 26, rfl, st, by decide, by decide, fun G2 d2 kd2 sd2 d20 d26 => ?_⟩
                  have e5 : atI abc.cps.toList d2 = some (97 + d2.toNat) := by
                    have := atI_nat (abc_at d2.toNat (by omega))
                    rw [show ((d2.toNat : Nat) : Int) = d2 by omega] at this
                    exact this
                  refine ⟨abc, _, _, rfl, rfl, abc_len, e5, x, _, rfl, rfl, ?_, kp.trans kd2, sd2, _, suf ++ [97 + d2.toNat], _, rfl, ?_, ?_, ?_⟩
                  · have k1 := len_cps x
                    rw [ex, List.length_append] at k1
                    have k2 : (⟨#[97 + d2.toNat]⟩ : Str).length = 1 := rfl
                    have hb : (20 : Nat) < sizeLine := by decide
                    omega
                  · rw [app_cps, ex, List.append_assoc]
                  · intro c hc
                    rcases List.mem_append.mp hc with hc | hc
                    · exact hl c hc
                    · have : c = 97 + d2.toNat := by simpa using hc
                      omega
                  · rw [List.length_append, hi2]
                    rfl
                · obtain ⟨kp, st, x, suf, tv, rfl, ex, hl, hi2⟩ := hp
                  have hi3 : suf.length = j := hi2.trans (congrArg Int.toNat ej)
                  refine ⟨_, rfl, q G x kp st ⟨suf, ex, hl, ?_⟩⟩
                  rw [hi3]
                  exact hj
end
theorem name_ok {n : Nat} {x : Str} (hn : n < 61) (h : NameOf n x) : nameD (.str x) = true ∧ x.length ≤ 8 := by
  obtain ⟨suf, ex, hl, hs⟩ := h
  have hb : (baseL n).length = 1 + (if n % 2 = 1 then 1 else 0) + (if n > 51 then 1 else 0) := by
    unfold baseL
    split <;> split <;> simp
  have lx := len_cps x
  rw [ex, List.length_append, hb] at lx
  have h8 : 1 ≤ x.length ∧ x.length ≤ 8 := by
    split at lx <;> split at lx <;> omega
  refine ⟨?_, h8.2⟩
  have all : letD x = true := by
    unfold letD
    rw [ex, List.all_eq_true]
    intro c hc
    refine decide_eq_true (abc_has c ?_ ?_)
    all_goals
      rcases List.mem_append.mp hc with hc | hc
      · unfold baseL at hc
        split at hc <;> split at hc <;> simp at hc <;> omega
      · have := hl c hc
        omega
  show ((decide (1 ≤ (x.length : Int)) && decide ((x.length : Int) ≤ 8)) && letD x) = true
  rw [all, decide_eq_true (by omega), decide_eq_true (by omega)]
  rfl
end U1

set_option maxRecDepth 100000
set_option maxHeartbeats 4000000
namespace KX
open PySem PySem.Spec PyProof.Rows L2
/-- what is seen but for two addresses -/
def view (l q : Addr) (H : Hp) : Hp := hid q (hid l H)
theorem view_at {l q b : Addr} {H : Hp} (h : b ≠ l) (h' : b ≠ q) : view l q H b = H b := by
  unfold view
  rw [hid_at h', hid_at h]
theorem view_same {l q : Addr} {H H' : Hp} (k : ∀ b o, b ≠ l → b ≠ q → H b = some o → H' b = some o) : Same (view l q H) (view l q H') := fun b o e => by
  obtain ⟨n, e⟩ := hid_some e
  obtain ⟨n', e⟩ := hid_some e
  rw [view_at n' n]
  exact k b o n' n e
theorem view_keep {l q : Addr} {H H' : Hp} (k : Keep l H H') : Same (view l q H) (view l q H') := view_same fun b o n _ e => k b o n e
theorem view_tup {l q p : Addr} {H : Hp} {xs : List V} {ds : List PyData} (n : H p = none) (hl : p ≠ l) (hq : p ≠ q) (h : Dxs (view l q H) xs ds) : Dx (view l q (L2.upd H p (.tup xs))) (.ref p) (.tuple ds) :=
  .tup (by rw [view_at hl hq]; exact upd_same) (h.up (view_keep ((Keep.refl l H).new n)))
theorem Keep.to {l : Addr} {H H' : Hp} {b : Addr} {o : HO} (k : Keep l H H') (n : b ≠ l) (e : H b = some o) : H' b = some o := k b o n e
end KX
namespace U1
open PySem PySem.Spec PyProof.Rows L2 KX
abbrev sRs : Stmt := topS 41
/-! ### _law_rowset -/
structure Rec where
  nm : Str
  cost : Int
  vals : List Int
  exp : Int
def encR (r : Rec) : PyData := .tuple [.str r.nm, .int r.cost, .tuple (r.vals.map .int), .int r.exp]
structure RecOk (w n : Nat) (r : Rec) : Prop where
  nm : NameOf n r.nm
  c0 : 1 ≤ r.cost
  c1 : r.cost ≤ 1000000
  len : r.vals.length = w
  vs : ∀ v ∈ r.vals, -1000000000 ≤ v ∧ v ≤ 1000000000
  e0 : 1 ≤ r.exp
  e1 : r.exp ≤ 1000000000
/-- the rows as they are made, one for each number -/
def Made (w : Nat) (recs : List Rec) : Prop := ∀ (i : Nat) (r : Rec), recs[i]? = some r → RecOk w i r
def sortR (recs : List Rec) : List Rec := recs.mergeSort (PySem.W.dataLe false encR)
def spRs : Sp := fun vs H Q _ => ∃ (l : Addr) (n w : Nat), vs = [.ref l, .int (n : Int), .int (w : Int)] ∧ StO H l ∧ n ≤ 61 ∧ 1 ≤ w ∧ w ≤ 4 ∧
  ∀ H' p recs, Keep l H H' → StO H' l → recs.length = n → Made w recs → Dx (hid l H') (.ref p) (.tuple ((sortR recs).map encR)) → Q (.ref p) H'
theorem scRs : FnScope ["stream", "total", "wide", "top", "dear", "last", "rows", "at", "worths", "col"] ["stream", "total", "wide"] (defScope sRs) := ⟨rfl, rfl, rfl, by decide +kernel, rfl, by decide +kernel, by decide +kernel⟩
theorem dxs_ints {H : Hp} : ∀ (ns : List Int), Dxs H (ns.map V.int) (ns.map PyData.int)
  | [] => .nil
  | n :: ns => .cons (.int n) (dxs_ints ns)
theorem menu {ns : List Int} {d : Int} (h0 : 0 ≤ d) (h1 : d < (ns.length : Int)) : ∃ t, t ∈ ns ∧ atI (ns.map V.int) d = some (.int t) := by
  have hl : d.toNat < ns.length := by omega
  refine ⟨ns[d.toNat], List.getElem_mem hl, ?_⟩
  have := atI_nat (xs := ns.map V.int) (j := d.toNat) (v := .int ns[d.toNat]) (by rw [List.getElem?_map, List.getElem?_eq_getElem hl]; rfl)
  rw [show ((d.toNat : Nat) : Int) = d by omega] at this
  exact this
theorem alike_recs (rs : List Rec) : PySem.W.AllAlike (rs.map encR) := PySem.W.AllAlike.of fun a b => by
  simp [encR, PySem.W.alike, PySem.W.alikeAll, PySem.W.alike_ints]
theorem tup_recs (rs : List Rec) : PySem.W.Sortable (rs.map encR) := PySem.W.Sortable.tuples fun b => ⟨_, _, rfl⟩
theorem depth_rec (r : Rec) : (encR r).depth ≤ 50 := by
  simp [encR, PyData.depth, PyData.depthAll, PySem.W.depth_ints]
theorem plain_rec (r : Rec) : (encR r).plain = true := by
  simp [encR, PyData.plain, PyData.plainAll, pl_ints]
theorem dxs_pairs {H : Hp} : ∀ (bs : List (V × Rec)), (∀ b ∈ bs, Dx H b.1 (encR b.2)) → Dxs H (bs.map (·.1)) (bs.map fun b => encR b.2)
  | [], _ => .nil
  | b :: bs, h => .cons (h b (by simp)) (dxs_pairs bs fun c hc => h c (by simp [hc]))
section
variable {P : Program} {w : World} {K : PySem.W.Frag} {mg : Str → Option Value} {base : Heap}
theorem ok_rs {f fD fN : Addr} {fd fdD fdN : FuncData} (B : Bl mg) (D : Df K mg "_law_rowset" sRs ["stream", "total", "wide"] f fd) (DD : Df K mg "_law_draw" sDraw ["stream", "total"] fD fdD) (DN : Df K mg "_law_name" sNm ["stream", "at"] fN fdN) :
    FnOk P w K mg base CX0 3 f fd ["stream", "total", "wide"] spRs := by
  have GD : FnOk P w K mg base CX0 2 fD fdD _ spDraw := (ok_draw B DD).mono (by decide)
  have GN : FnOk P w K mg base CX0 2 fN fdN _ spNm := ok_nm B DN DD
  refine D.F.ok scRs (fun vs H Q E h => ?_) (fun cdv A outer s H vs Q E hr h => ?_)
  · obtain ⟨l, n, w, rfl, _⟩ := h
    rfl
  · obtain ⟨l, n, wd, rfl, hs, hn, hw1, hw4, q⟩ := h
    have nd := scRs.nd
    refine ⟨_, pss_cons (ps_set (i := 3) nd rfl (.inr rfl) (pe_ix ix_list (pe_lst (pa_cons pe_int (pa_cons pe_int (pa_cons pe_int (pa_cons (pe_op op_pow pe_int pe_int) pa_nil)))))
          (pe_call GD hr (by rfl) DD.g DD.F.kp DD.b .nil pass0 (pa_cons (pv 0) (pa_cons pe_int pa_nil))) (fun _ _ => rfl)))
      (pss_cons (ps_par (i := 4) (j := 5) rfl nd rfl rfl (by decide) rfl rfl (pa_cons (pe_ix ix_list (pe_lst (pa_cons pe_int (pa_cons pe_int (pa_cons pe_int (pa_cons (pe_op op_pow pe_int pe_int) pa_nil)))))
          (pe_call GD hr (by rfl) DD.g DD.F.kp DD.b .nil pass0 (pa_cons (pv 0) (pa_cons pe_int pa_nil))) (fun _ _ => rfl))
          (pa_cons (pe_ix ix_list (pe_lst (pa_cons pe_int (pa_cons pe_int (pa_cons (pe_op op_pow pe_int pe_int) pa_nil))))
          (pe_call GD hr (by rfl) DD.g DD.F.kp DD.b .nil pass0 (pa_cons (pv 0) (pa_cons pe_int pa_nil))) (fun _ _ => rfl)) pa_nil)) (by rfl))
      (pss_cons (ps_set (i := 6) nd rfl (.inl rfl) (pe_lst pa_nil))
      (pss_cons (ps_for PassesOwn.never rfl (pi_range1 (by rfl) B.range (pa_cons (pv 1) pa_nil)) (pg_name (i := 7) nd rfl (.inl rfl))
        (pss_cons (ps_set (i := 8) nd rfl (.inl rfl) (pe_callTy call_tuple_of (by rfl) B.tuple (by decide +kernel) (pa_cons (pe_lc (own := [("col", 9)]) (g := gName 9) rfl nd (pi_range1 (by rfl) B.range (pa_cons (pv 2) pa_nil))
            (blkOk_by (N := ["stream", "total", "wide", "top", "dear", "last", "rows", "at", "worths", "col"]) (sc := defScope sRs) (by decide +kernel)) (fun _ _ _ _ _ => pg_name (i := 9) nd rfl (Or.inl rfl)) (fun _ _ _ _ _ => pts_nil)
            (fun _ _ _ _ _ => pe_op op_sub (pe_call GD hr (by rfl) DD.g DD.F.kp DD.b .nil pass0 (pa_cons (pv 0) (pa_cons (pe_op op_add (pe_op op_mul pe_int (pv 3)) pe_int) pa_nil))) (pv 3))) pa_nil)))
        (pss_one (ps_expr (pe_bm PySem.F.plainAttrs_list PySem.F.slot_list_append PySem.F.type_list_append mt_append (pv 6) (pa_cons (pe_tup (pa_cons (pe_call GN hr (by rfl) DN.g DN.F.kp DN.b .nil pass0 (pa_cons (pv 0) (pa_cons (pv 7) pa_nil)))
            (pa_cons (pe_op op_add pe_int (pe_call GD hr (by rfl) DD.g DD.F.kp DD.b .nil pass0 (pa_cons (pv 0) (pa_cons (pv 4) pa_nil)))) (pa_cons (pv 8)
            (pa_cons (pe_op op_add pe_int (pe_call GD hr (by rfl) DD.g DD.F.kp DD.b .nil pass0 (pa_cons (pv 0) (pa_cons (pv 5) pa_nil)))) pa_nil))))) pa_nil))))))
      (pss_one (ps_ret (pe_callTy call_tuple_of (by rfl) B.tuple (by decide +kernel) (pa_cons (pe_callB (cr_sortE (enc := encR) hr) (by rfl) B.sorted (by decide +kernel) (pa_cons (pv 6) pa_nil)) pa_nil))))))), ?_⟩
    -- top = [1, 2, 4, 10 ** 9][draw]
    refine ⟨10, 9, rfl, rfl, ⟨by decide, by decide, by decide⟩, by show 4 ≤ sizeLine; decide, fun p1 n1 => ?_⟩
    refine ⟨.ref l, rfl, l, 4, rfl, hs.new n1, by decide, by decide, fun H1 d1 k1 s1 d10 d14 => ?_⟩
    have a1 : H1 p1 = some _ := k1.to (hs.ne n1) upd_same
    obtain ⟨top, mt, et⟩ := menu (ns := [1, 2, 4, 10 ^ (9 : Int).toNat]) d10 d14
    have ht : 1 ≤ top ∧ top ≤ 1000000000 := by
      have : ∀ t ∈ [1, 2, 4, (10 : Int) ^ (9 : Int).toNat], 1 ≤ t ∧ t ≤ 1000000000 := by decide
      exact this top mt
    refine ⟨p1, _, d1, _, rfl, rfl, .inl (.inl a1), et, ?_⟩
    -- dear, last
    refine ⟨10, 6, rfl, rfl, ⟨by decide, by decide, by decide⟩, by show 4 ≤ sizeLine; decide, fun p2 n2 => ?_⟩
    refine ⟨.ref l, rfl, l, 4, rfl, s1.new n2, by decide, by decide, fun H2 d2 k2 s2 d20 d24 => ?_⟩
    have a2 : H2 p2 = some _ := k2.to (s1.ne n2) upd_same
    obtain ⟨dear, md, ed⟩ := menu (ns := [1, 3, 9, 10 ^ (6 : Int).toNat]) d20 d24
    have hd : 1 ≤ dear ∧ dear ≤ 1000000 := by
      have : ∀ t ∈ [1, 3, 9, (10 : Int) ^ (6 : Int).toNat], 1 ≤ t ∧ t ≤ 1000000 := by decide
      exact this dear md
    refine ⟨p2, _, d2, _, rfl, rfl, .inl (.inl a2), ed, ?_⟩
    refine ⟨10, 9, rfl, rfl, ⟨by decide, by decide, by decide⟩, by show 3 ≤ sizeLine; decide, fun p3 n3 => ?_⟩
    refine ⟨.ref l, rfl, l, 3, rfl, s2.new n3, by decide, by decide, fun H3 d3 k3 s3 d30 d34 => ?_⟩
    have a3 : H3 p3 = some _ := k3.to (s2.ne n3) upd_same
    obtain ⟨last, ml, el⟩ := menu (ns := [1, 3, 10 ^ (9 : Int).toNat]) d30 d34
    have hl : 1 ≤ last ∧ last ≤ 1000000000 := by
      have : ∀ t ∈ [1, 3, (10 : Int) ^ (9 : Int).toNat], 1 ≤ t ∧ t ≤ 1000000000 := by decide
      exact this last ml
    refine ⟨p3, _, d3, _, rfl, rfl, .inl (.inl a3), el, _, _, rfl, ?_⟩
    -- rows = []
    refine ⟨Nat.zero_le _, fun r nr => ?_⟩
    have hrl : r ≠ l := s3.ne nr
    have kk : Keep l H (L2.upd H3 r (.lst [])) := ((((((Keep.refl l H).new n1).trans k1).new n2).trans k2).new n3).trans k3 |>.new nr
    have s4 : StO (L2.upd H3 r (.lst [])) l := s3.new nr
    have hHr : H r = none := by
      cases e : H r with
      | none => rfl
      | some o =>
        have := ((((((Keep.refl l H).new n1).trans k1).new n2).trans k2).new n3).trans k3 r o hrl e
        rw [nr] at this
        cases this
    refine ⟨.int (n : Int), rfl, n, rfl, by omega, by omega, ?_⟩
    refine for_range (lo := 0) (n := n) (fun i σ G => Keep l H G ∧ StO G l ∧ ∃ (vs : List V) (recs : List Rec) (ta tw tc : Option V), σ = [some (.ref l), some (.int n), some (.int wd), some (.int top), some (.int dear), some (.int last), some (.ref r), ta, tw, tc] ∧
        G r = some (.lst vs) ∧ Dxs (view l r G) vs (recs.map encR) ∧ recs.length = i ∧ Made wd recs)
      ⟨kk, s4, [], [], none, none, none, rfl, upd_same, .nil, rfl, fun i r h => by simp at h⟩ (fun i σ G hi hp => ?_) (fun σ G hp => ?_)
    · obtain ⟨kp, st, vs, recs, ta, tw, tc, rfl, gr, hx, hlen, hmade⟩ := hp
      refine ⟨.int (wd : Int), rfl, wd, rfl, by omega, by omega, fun D0 nD => ?_⟩
      have hDl : D0 ≠ l := st.ne nD
      refine lc_range (lo := 0) (n := wd) (fun j F => Keep l G F ∧ StO F l ∧ ∃ ns : List Int, ns.length = j ∧ (∀ v ∈ ns, -1000000000 ≤ v ∧ v ≤ 1000000000) ∧ F D0 = some (.lst (ns.map V.int)))
        ⟨(Keep.refl l G).new nD, st.new nD, [], rfl, fun v h => absurd h (by simp), upd_same⟩ (fun j F hj hF => ?_) (fun F hF => ?_)
      · obtain ⟨kF, sF, ns, hns, hv, eD⟩ := hF
        refine ⟨rfl, .ref l, rfl, .int top, rfl, 2, top, rfl, rfl, .inl ⟨by decide, by decide⟩, _, 1, rfl, rfl, l, 2 * top + 1, rfl, sF, by omega, by omega, fun F2 d kd sd d0 d1 => ?_⟩
        have eD2 : F2 D0 = some _ := kd.to hDl eD
        refine ⟨.int top, rfl, d, top, rfl, rfl, _, eD2, ?_, ?_⟩
        · rw [List.length_map]
          have hb : (4 : Nat) < sizeLine := by decide
          omega
        · refine ⟨fun b o nb eb => by rw [upd_ne (ne_of_none eb nD)]; exact kd b o nb (kF b o nb eb), ?_, ns ++ [d - top], ?_, ?_, ?_⟩
          · obtain ⟨x, y, z, e⟩ := sd
            exact ⟨x, y, z, by rw [upd_ne hDl.symm]; exact e⟩
          · rw [List.length_append, hns]
            rfl
          · intro v hv'
            rcases List.mem_append.mp hv' with hv' | hv'
            · exact hv v hv'
            · have : v = d - top := by simpa using hv'
              omega
          · rw [upd_same, List.map_append]
            rfl
      · obtain ⟨kF, sF, ns, hns, hv, eD⟩ := hF
        refine ⟨D0, _, rfl, .inl ⟨.inl (.inl eD), fun t nt => ?_⟩⟩
        have htl : t ≠ l := sF.ne nt
        have gr1 : F r = some (.lst vs) := kF.to hrl gr
        have htr : t ≠ r := (ne_of_none gr1 nt).symm
        have s5 : StO (L2.upd F t (.tup (ns.map V.int))) l := sF.new nt
        have dt : Dx (view l r (L2.upd F t (.tup (ns.map V.int)))) (.ref t) (.tuple (ns.map PyData.int)) := view_tup nt htl htr (dxs_ints ns)
        have k5 : Keep l G (L2.upd F t (.tup (ns.map V.int))) := kF.new nt
        refine ⟨.ref r, rfl, .inl ⟨rfl, _, .inl (.inl (k5.to hrl gr))⟩, .ref l, rfl, _, rfl, l, i, by simp, s5, by omega, fun G2 x k6 s6 hnm => ?_⟩
        refine ⟨.ref l, rfl, .int dear, rfl, l, dear, rfl, s6, by omega, by omega, fun G3 dc k7 s7 c0 c1 => ⟨1, dc, rfl, rfl, .ref t, rfl, ?_⟩⟩
        refine ⟨.ref l, rfl, .int last, rfl, l, last, rfl, s7, by omega, by omega, fun G4 de k8 s8 e0 e1 => ⟨1, de, rfl, rfl, by show 4 ≤ sizeLine; decide, fun u nu => ?_⟩⟩
        have hul : u ≠ l := s8.ne nu
        have kk4 : Keep l G G4 := ((k5.trans k6).trans k7).trans k8
        have gr4 : G4 r = some (.lst vs) := kk4.to hrl gr
        have hur : u ≠ r := (ne_of_none gr4 nu).symm
        have dt4 : Dx (view l r G4) (.ref t) (.tuple (ns.map PyData.int)) := dt.up (view_keep ((k6.trans k7).trans k8))
        have du : Dx (view l r (L2.upd G4 u (.tup [.str x, .int (1 + dc), .ref t, .int (1 + de)]))) (.ref u) (encR ⟨x, 1 + dc, ns, 1 + de⟩) :=
          view_tup nu hul hur (.cons (.str x) (.cons (.int _) (.cons dt4 (.cons (.int _) .nil))))
        have ku : Keep l G (L2.upd G4 u (.tup [.str x, .int (1 + dc), .ref t, .int (1 + de)])) := kk4.new nu
        have vlen : vs.length = recs.length := by
          have := hx.len
          rwa [List.length_map] at this
        refine ⟨r, vs, .ref u, rfl, rfl, by rw [upd_ne hur.symm]; exact gr4, ?_, ?_⟩
        · have hb : (61 : Nat) < sizeLine := by decide
          omega
        · have sup : Same (view l r (L2.upd G4 u (.tup [.str x, .int (1 + dc), .ref t, .int (1 + de)]))) (view l r (L2.upd (L2.upd G4 u (.tup [.str x, .int (1 + dc), .ref t, .int (1 + de)])) r (.lst (vs ++ [.ref u])))) :=
            view_same fun b o _ nb e => by rw [upd_ne nb]; exact e
          refine ⟨fun b o nb eb => by rw [upd_ne (ne_of_none eb hHr)]; exact ku b o nb (kp b o nb eb), ?_, vs ++ [.ref u], recs ++ [⟨x, 1 + dc, ns, 1 + de⟩], _, _, _, rfl, upd_same, ?_, ?_, ?_⟩
          · obtain ⟨y1, y2, y3, e⟩ := s8.new (o := .tup [.str x, .int (1 + dc), .ref t, .int (1 + de)]) nu
            exact ⟨y1, y2, y3, by rw [upd_ne hrl.symm]; exact e⟩
          · rw [List.map_append]
            exact ((hx.up (view_keep ku)).up sup).app (.cons (du.up sup) .nil)
          · rw [List.length_append, hlen]
            rfl
          · intro j r' hj
            by_cases hjl : j < recs.length
            · exact hmade j r' (by rw [List.getElem?_append_left hjl] at hj; exact hj)
            · rw [List.getElem?_append_right (by omega)] at hj
              have hj0 : j - recs.length = 0 := by
                have := (List.getElem?_eq_some_iff.mp hj).1
                simp at this
                omega
              rw [hj0] at hj
              cases hj
              have hji : j = i := by omega
              rw [hji]
              exact ⟨hnm, by show 1 ≤ 1 + dc; omega, by show 1 + dc ≤ _; omega, hns, hv, by show 1 ≤ 1 + de; omega, by show 1 + de ≤ _; omega⟩
    · obtain ⟨kp, st, vs, recs, ta, tw, tc, rfl, gr, hx, hlen, hmade⟩ := hp
      have vlen : vs.length = recs.length := by
        have := hx.len
        rwa [List.length_map] at this
      have eachH : ∀ b ∈ vs.zip recs, Dx (hid l G) b.1 (encR b.2) := fun b hb => by
        obtain ⟨i, hi, e⟩ := List.mem_iff_getElem.mp hb
        have e' : (vs.zip recs)[i]? = some b := by rw [List.getElem?_eq_getElem hi, e]
        rw [List.getElem?_zip_eq_some] at e'
        obtain ⟨d, ed, hd⟩ := hx.get' e'.1
        rw [List.getElem?_map, e'.2] at ed
        cases ed
        exact hd.up (hid_same r (hid l G))
      have each : ∀ b ∈ vs.zip recs, Dx G b.1 (encR b.2) := fun b hb => (eachH b hb).up (hid_same l G)
      refine ⟨.ref r, rfl, r, vs.zip recs, rfl, .inl (.inl ?_), ?_, ?_, ?_, ?_, fun p np => ?_⟩
      · rw [List.map_fst_zip (by omega)]
        exact gr
      · intro b hb
        exact dp_dx _ _ (plain_rec b.2) (each b hb)
      · have := alike_recs ((vs.zip recs).map (·.2))
        rwa [List.map_map] at this
      · have := tup_recs ((vs.zip recs).map (·.2))
        rwa [List.map_map] at this
      · exact fun b _ => depth_rec b.2
      · have hm : ∀ b ∈ (vs.zip recs).mergeSort (PySem.W.dataLe false fun b => encR b.2), Dx (hid l (L2.upd G p (.lst (((vs.zip recs).mergeSort (PySem.W.dataLe false fun b => encR b.2)).map (·.1))))) b.1 (encR b.2) := fun b hb =>
          ((eachH b (List.mem_mergeSort.mp hb)).up (hnew np))
        have e1 : ((vs.zip recs).mergeSort (PySem.W.dataLe false fun b => encR b.2)).map (fun b => encR b.2) = (sortR recs).map encR := by
          have e2 : ((vs.zip recs).mergeSort (PySem.W.dataLe false fun b => encR b.2)).map Prod.snd = sortR recs := by
            have h := List.map_mergeSort (f := Prod.snd) (r := PySem.W.dataLe false fun b : V × Rec => encR b.2) (s := PySem.W.dataLe false encR) (l := vs.zip recs) (fun a _ b _ => rfl)
            rw [List.map_snd_zip (by omega)] at h
            exact h
          rw [← e2, List.map_map]
          rfl
        have hx2 := dxs_pairs _ hm
        rw [e1] at hx2
        have sp := st.new (o := .lst (((vs.zip recs).mergeSort (PySem.W.dataLe false fun b => encR b.2)).map (·.1))) np
        refine ⟨p, _, rfl, .inl ⟨.inl (.inl upd_same), fun p2 np2 => ?_⟩⟩
        exact q _ p2 recs ((kp.new np).new np2) (sp.new np2) hlen hmade (dx_tup np2 sp hx2)
end
end U1

namespace U1
open PySem PySem.Spec PyProof.Rows L2 KX
theorem nm_len {r : Rec} {w : Nat} (h : RecOk w 0 r) : r.nm.length = 1 := by
  obtain ⟨suf, ex, hl, hs⟩ := h.nm
  have lx := len_cps r.nm
  rw [ex, List.length_append] at lx
  have hb : (baseL 0).length = 1 := rfl
  rcases hs with hs | ⟨z, _⟩
  · omega
  · omega
theorem fine_ints {B : Nat} : ∀ ns : List Int, (∀ v ∈ ns, -1000000000 ≤ v ∧ v ≤ 1000000000) → 1000000000 ≤ B → fineAll B (ns.map PyData.int) = true
  | [], _, _ => rfl
  | n :: ns, h, hB => by
    have := h n (by simp)
    simp only [List.map_cons, fineAll, fine, Bool.and_eq_true]
    exact ⟨decide_eq_true (by omega), fine_ints ns (fun v hv => h v (by simp [hv])) hB⟩
theorem wt_ints : ∀ ns : List Int, wtAll (ns.map PyData.int) = ns.length
  | [] => rfl
  | n :: ns => by
    simp only [List.map_cons, wtAll, wt_ints ns, List.length_cons]
    rw [show wt (.int n) = 1 by simp [wt]]
    omega
theorem rec_good {r : Rec} {w : Nat} (h : RecOk w 0 r) (hw : w ≤ 4) : Good (10 ^ 40) 10 (encR r) := by
  have l1 := nm_len h
  have hl := h.len
  have c0 := h.c0
  have c1 := h.c1
  have e0 := h.e0
  have e1 := h.e1
  obtain ⟨suf, ex, hs, hx⟩ := h.nm
  refine ⟨?_, ?_⟩
  · simp only [encR, fine, fineAll, Bool.and_eq_true]
    refine ⟨?_, decide_eq_true (by omega), fine_ints _ h.vs (by decide), decide_eq_true (by omega), trivial⟩
    refine List.all_eq_true.mpr fun c hc => decide_eq_true ?_
    rw [ex] at hc
    rcases List.mem_append.mp hc with hc | hc
    · have : c = 97 := by simpa [baseL] using hc
      omega
    · have := hs c hc
      omega
  · simp only [encR, wt, wtAll, wt_ints]
    omega
theorem betw_int {lo hi i : Int} (h0 : lo ≤ i) (h1 : i ≤ hi) : betw lo hi (.int i) = true := by
  show (decide (lo ≤ i) && decide (i ≤ hi)) = true
  rw [decide_eq_true h0, decide_eq_true h1]
  rfl
theorem rec_row {r : Rec} {w n : Nat} (hn : n < 61) (h : RecOk w n r) (h1 : 1 ≤ w) (hw : w ≤ 4) : rowD (encR r) = true := by
  show (nameD (.str r.nm) && betw 1 1000000 (.int r.cost) && (valsD (.tuple (r.vals.map .int)) && betw 1 1000000000 (.int r.exp))) = true
  rw [(name_ok hn h.nm).1, betw_int h.c0 h.c1, betw_int h.e0 h.e1]
  have hl := h.len
  have ev : valsD (.tuple (r.vals.map .int)) = true := by
    show ((decide (1 ≤ (((r.vals.map PyData.int).length : Nat) : Int)) && decide ((((r.vals.map PyData.int).length : Nat) : Int) ≤ 4)) && (r.vals.map PyData.int).all (betw (-1000000000) 1000000000)) = true
    rw [List.length_map, decide_eq_true (by omega), decide_eq_true (by omega)]
    simp only [Bool.true_and, List.all_eq_true]
    intro d hd
    obtain ⟨v, hv, rfl⟩ := List.mem_map.mp hd
    exact betw_int (h.vs v hv).1 (h.vs v hv).2
  rw [ev]
  rfl
def okEnt : PyData → Bool
  | .tuple [.tuple [.str n, c, v, e], .bool b] => (rowD (.tuple [.str n, c, v, e]) == b) && decide (n.length ≤ 100) && !(tyN c == "str") && !(tyN v == "str") && !(tyN e == "str")
  | _ => false

end U1

set_option maxRecDepth 100000
set_option maxHeartbeats 1000000
namespace KX
open PySem PySem.Spec PyProof.Rows L2 RZ
/-! ### [e for x, y in zip(s, t)], s and t tuples, t the shorter one -/
theorem lc_zipS {K : PySem.W.Frag} {a b : Addr} {xs ys : List V} {g : TG} {tt : TT} {te : TE} {vs : List Nat} {σ : L2.St} {H1 : Hp} {D : Addr} {Qd : Hp → Prop} (hl : ys.length ≤ xs.length) (Pv : Nat → Hp → Prop) (h0 : Pv 0 (upd H1 D (.lst [])))
    (hq : ∀ i G, i ≤ ys.length → Pv i G → SqT K G a xs ∧ SqT K G b ys)
    (hs : ∀ (i : Nat) (x y : V) (T : Addr) (G : Hp), xs[i]? = some x → ys[i]? = some y → Pv i G → G T = none → g (.ref T) (wipe σ vs) (upd G T (.tup [x, y])) fun σ2 H2 => wipe σ2 vs = wipe σ vs ∧ tt σ2 H2 fun b H3 =>
      if b = true then te σ2 H3 fun y H4 => ∃ zs, H4 D = some (.lst zs) ∧ zs.length < sizeLine ∧ Pv (i + 1) (upd H4 D (.lst (zs ++ [y]))) else Pv (i + 1) H3) (hd : ∀ G, Pv ys.length G → Qd G) :
    ∃ W : Nat → Nat → Hp → Prop, (∃ m, W 0 m (upd H1 D (.lst []))) ∧ ∀ i m H, W i m H → ((ItzT K a b).stop i H ∧ Qd H) ∨ ((ItzT K a b).go i H ∧ ∃ Nx : Hp → Prop, (∀ H', Nx H' → ∃ m', m' < m ∧ W (i + 1) m' H') ∧ ∀ x H', (ItzT K a b).yld i H x H' →
      g x (wipe σ vs) H' fun σ2 H2 => wipe σ2 vs = wipe σ vs ∧ tt σ2 H2 fun b H3 => if b = true then te σ2 H3 fun y H4 => ∃ zs, H4 D = some (.lst zs) ∧ zs.length < sizeLine ∧ Nx (upd H4 D (.lst (zs ++ [y]))) else Nx H3) := by
  refine ⟨fun i m G => m = ys.length - i ∧ i ≤ ys.length ∧ Pv i G, ⟨ys.length, by simp, Nat.zero_le _, h0⟩, fun i m G hw => ?_⟩
  obtain ⟨rfl, hi, p⟩ := hw
  obtain ⟨qx, qy⟩ := hq i G hi p
  by_cases lt : i < ys.length
  · refine .inr ⟨⟨xs, ys, xs[i]'(by omega), ys[i], qx, qy, List.getElem?_eq_getElem (by omega), List.getElem?_eq_getElem lt⟩, Pv (i + 1), fun G' p' => ⟨ys.length - (i + 1), by omega, rfl, lt, p'⟩, fun v G' r => ?_⟩
    obtain ⟨T, x, y, rfl, nT, rfl, e1, e2⟩ := r
    exact hs i x y T G (e1 xs qx) (e2 ys qy) p nT
  · have e : i = ys.length := by omega
    subst e
    exact .inl ⟨⟨xs, ys, qx, qy, .inr (Nat.le_refl _)⟩, hd G p⟩
/-! ### except clauses, with names and without -/
/-- a clause: its class, the slot of its name if it has one, its suite -/
structure Cls where
  c : Value
  i : Option Nat
  ts : Addr → Value → Option Addr → TS
def endsAt (D : Ends) : Option Nat → Ends
  | none => D
  | some i => { nx := fun σ' G => D.nx (σ'.set i none) G, rt := D.rt, bk := fun σ' G => D.bk (σ'.set i none) G, ct := fun σ' G => D.ct (σ'.set i none) G }
def slotIn (σ : L2.St) (a : Addr) : Option Nat → L2.St
  | none => σ
  | some i => σ.set i (some (.ref a))
def wMix (K : PySem.W.Frag) (Wo : WX) (D : Ends) : List Cls → WX
  | [] => Wo
  | q :: r => fun cls d σ G => ∃ b, PySem.W.exmOne K cls q.c = some b ∧ (b = true → ∀ a, G a = none → q.ts a cls d (endsAt D q.i) (slotIn σ a q.i) G) ∧ (b = false → wMix K Wo D r cls d σ G)
inductive MixOk (X : Cx) : List ExceptHandler → List Cls → Prop
  | nil : MixOk X [] []
  | plain {x : Str} {c : Value} {ts : Addr → Value → Option Addr → TS} {b0 : Stmt} {bs : List Stmt} {p1 p2 : Pos} {hds : List ExceptHandler} {l : List Cls} (hc : Names X x c)
      (hb : ∀ (a : Addr) (oe : Obj) (cls : Value) (d : Option Addr) (pn : List (Addr × Obj)), Zc cls d oe → (∃ vs, oe.data = .fields vs) → PSs (X.suite a ((a, oe) :: pn)) (b0 :: bs) (ts a cls d)) (r : MixOk X hds l) :
      MixOk X (.ExceptHandler (some (.Name x p1)) none (b0 :: bs) p2 :: hds) (⟨c, none, ts⟩ :: l)
  | named {x n : Str} {i : Nat} {c : Value} {ts : Addr → Value → Option Addr → TS} {b0 : Stmt} {bs : List Stmt} {p1 p2 : Pos} {hds : List ExceptHandler} {l : List Cls} (hi : X.N[i]? = some n) (hn : X.env.kindOf n = some .local) (hc : Names X x c)
      (hb : ∀ (a : Addr) (oe : Obj) (cls : Value) (d : Option Addr) (pn : List (Addr × Obj)), Zc cls d oe → (∃ vs, oe.data = .fields vs) → PSs (X.suite a ((a, oe) :: pn)) (b0 :: bs) (ts a cls d)) (r : MixOk X hds l) :
      MixOk X (.ExceptHandler (some (.Name x p1)) (some n) (b0 :: bs) p2 :: hds) (⟨c, some i, ts⟩ :: l)
section
variable {X : Cx} {body : List Stmt} {hd0 : ExceptHandler} {hds : List ExceptHandler} {l : List Cls} {pos : Pos} {tb : WX → TS} {Wo : WX}
theorem ps_try_mix (hs : X.stack = X.env :: X.outer) (hf : X.env.frame = some X.env.locals) (nd : X.N.Nodup) (tk : Takes X Wo)
    (hb : ∀ (W : WX) (pn : List (Addr × Obj)) (xe : Value → Shared → Prop), Takes (X.tr pn xe) W → PassesOwn (model X.prog X.w) X.A X.env xe → PSs (X.tr pn xe) body (tb W))
    (hh : MixOk X (hd0 :: hds) l) : PS X (.Try body (hd0 :: hds) [] [] pos) (fun D σ G => tb (wMix X.K Wo D l) D σ G) := by
  refine ⟨fun pins s σ G D I h => wpAny_Try_except ?_⟩
  have ok := I.ok
  have frm : X.A.frames = some (X.env :: X.outer) := ok.frames.trans (by rw [hs])
  refine wpAny_mono ((hb (wMix X.K Wo D l) (X.pn ++ pins) (fun e t1 => wpAny (model X.prog X.w) X.A (noteFrame e X.env) (fun _ t2 => wpAny (model X.prog X.w) X.A (setFlight e none) (fun _ t3 =>
    wpAny (model X.prog X.w) X.A (handleBy e X.env (hd0 :: hds)) (SP X pins D) X.xe t3) X.xe t2) X.xe t1) (fun u s1 caught => ?_) PassesOwn.looking).run [] s σ G D (I.toTry _) h) (fun fl s1 fin => ?_) (fun _ _ z => z)
  · obtain ⟨ea, B0, sI, pins1, σ1, G1, cls, d, rfl, IT, nb, up, sky, na, os, ag, wish⟩ := caught
    have I1 : Inv X pins σ1 G1 sI := IT.ofTry ok
    refine Sky.land Zc.steady frm hf (show Sky B0 (X.env :: X.outer) ea (Zc cls d) X.env.locals s1.heap by rw [← hs]; exact sky) fun h3 lands up3 => ?_
    have I3 : Inv X pins σ1 G1 { s1 with heap := h3 } := I1.landed nb lands.1 (up.trans up3) os ag
    obtain ⟨oe3, fv3, at3, z3, dat3⟩ := lands.there
    have off : ea ∉ frs (X.env :: X.outer) := fun hm => by
      obtain ⟨_, o1, e1, nf⟩ := lands.2.2.1.mem hm
      rw [at3] at e1
      cases e1
      exact nf _ dat3
    have offL : ea ≠ X.env.locals := fun z => off (List.mem_filterMap.mpr ⟨X.env, List.mem_cons_self, by rw [hf, z]⟩)
    have offF : ea ∉ X.fs := fun hm => by
      obtain ⟨en, hen, q⟩ := List.mem_filterMap.mp hm
      exact off (List.mem_filterMap.mpr ⟨en, List.mem_cons_of_mem _ hen, q⟩)
    have S3 := I3.suite at3 dat3 na offL offF
    have looks : PySem.W.Looks (model X.prog X.w) h3 (typeOf (.ref ea)) cls := fun A Q E t k q => wpAny_typeOf_ref (k _ _ at3) (by rw [z3.1]; exact q)
    have reads : ∀ {x : Str} {c : Value} {p1 : Pos} {Q : Value → Shared → Prop} {E : Value → Shared → Prop}, Names X x c → Q c { s1 with heap := h3 } → wpAny (model X.prog X.w) (X.A.mark (some (.ref ea))) (eval (.Name x p1) X.env) Q E { s1 with heap := h3 } := fun {x c p1 Q E} hc q => by
      obtain ⟨hg, hdb, hm | ⟨hm, hv, hnn⟩⟩ := hc
      · exact ld_glob (X := X.suite ea ((ea, oe3) :: (X.pn ++ pins))) S3 hg hm q hdb
      · exact ld_blt (X := X.suite ea ((ea, oe3) :: (X.pn ++ pins))) S3 hg hm hv q hnn hdb
    have each : ∀ {hl : List ExceptHandler} {cl : List Cls}, MixOk X hl cl → wMix X.K Wo D cl cls d σ1 G1 → wpAny (model X.prog X.w) X.A (handleBy (.ref ea) X.env hl) (SP X pins D) X.xe { s1 with heap := h3 } := by
      intro hl cl mk
      induction mk with
      | nil =>
        intro wo
        refine wpAny_handleBy_nil ?_
        obtain ⟨_, _, _, ox, fx, T, _, _, atx, _, datx, tl1, _⟩ := id lands
        unfold PySem.passOn
        refine wpAny_bind (wpAny_field atx datx tl1 ?_)
        rw [if_neg (by simp)]
        have out : wpAny (model X.prog X.w) X.A (setFlight (.ref ea) X.env.frame) (fun _ t4 => wpAny (model X.prog X.w) X.A (throw (.ref ea) : Sem Flow) (SP X pins D) X.xe t4) X.xe { s1 with heap := h3 } := by
          rw [hf]
          refine HandSPX.setFlight_upZ lands fun h4 hx4 up4 => wpAny_throw (tk _ _ ⟨ea, B0, sI, pins, σ1, G1, cls, d, rfl, I1, nb, (up.trans up3).trans up4, .inr (.inr (by rw [hs]; exact hx4)), na, os, ag, wo⟩)
        first | exact wpAny_bind (wpAny_pure (wpAny_bind out)) | exact wpAny_bind out
      | @plain x c ts b0 bs p1 p2 hds2 l2 hc hb r ih =>
        intro wq
        obtain ⟨b, e1, yes, no⟩ := wq
        refine wpAny_handleBy_cons (codeAny_handlers_test (reads hc ((PySem.W.exm_one (M := model X.prog X.w) I3.kIn looks e1).here ?_))) (by intro q; cases q)
        cases b with
        | false => exact ih (no rfl)
        | true =>
          refine codeAny_handlers_suite (HandSPX.lands_againZ lands fun h4 lands4 up4 => ?_)
          obtain ⟨oe4, fv4, at4, z4, dat4⟩ := lands4.there
          have I4 : Inv X pins σ1 G1 { s1 with heap := h4 } := I1.landed nb lands4.1 ((up.trans up3).trans up4) os ag
          refine wpAny_mono ((hb ea oe4 cls d (X.pn ++ pins) z4 ⟨_, dat4⟩).run [] _ _ G1 _ (I4.suite at4 dat4 na offL offF) (yes rfl ea na)) (fun fl t6 fin => ?_) (fun _ _ z => z.elim)
          cases fl with
          | ret u =>
            obtain ⟨v6, σ6, G6, S6, r6, q6⟩ := fin
            exact ⟨v6, σ6, G6, S6.unsuite ok, r6, q6⟩
          | _ =>
            obtain ⟨σ6, G6, S6, q6⟩ := fin
            exact ⟨σ6, G6, S6.unsuite ok, q6⟩
      | @named x n i c ts b0 bs p1 p2 hds2 l2 hi hn hc hb r ih =>
        intro wq
        obtain ⟨b, e1, yes, no⟩ := wq
        refine wpAny_handleBy_cons (codeAny_handlers_test (reads hc ((PySem.W.exm_one (M := model X.prog X.w) I3.kIn looks e1).here ?_))) (by intro q; cases q)
        cases b with
        | false => exact ih (no rfl)
        | true =>
          refine codeAny_handlers_suite_as (HandSPX.lands_againZ lands fun h4 lands4 up4 => ?_)
          obtain ⟨oe4, fv4, at4, z4, dat4⟩ := lands4.there
          have I4 : Inv X pins σ1 G1 { s1 with heap := h4 } := I1.landed nb lands4.1 ((up.trans up3).trans up4) os ag
          refine store_ok (X := X.suite ea ((ea, oe4) :: (X.pn ++ pins))) (v := .ref ea) (I4.suite at4 dat4 na offL offF) nd hi (.inl hn) rfl (fun t5 S5 => ?_) (.inr hn)
          refine wpAny_mono ((hb ea oe4 cls d (X.pn ++ pins) z4 ⟨_, dat4⟩).run [] t5 _ G1 _ S5 (yes rfl ea na)) (fun fl t6 fin => ?_) (fun _ _ z => z.elim)
          have gone : ∀ {σ6 : L2.St} {G6 : Hp} {R : Shared → Prop}, Inv (X.suite ea ((ea, oe4) :: (X.pn ++ pins))) [] σ6 G6 t6 → (∀ t7, Inv X pins (σ6.set i none) G6 t7 → R t7) →
              wpAny (model X.prog X.w) X.A (do bindName X.env n .none; unbindBehindTheSuite X.env n p2) (fun _ t7 => R t7) X.xe t6 := fun {σ6 G6 R} S6 k => gone_ok (S6.unsuite ok) nd hi hn k
          cases fl with
          | ret u =>
            obtain ⟨v6, σ6, G6, S6, r6, q6⟩ := fin
            exact gone S6 fun t7 I7 => ⟨v6, _, _, I7, r6, q6⟩
          | _ =>
            obtain ⟨σ6, G6, S6, q6⟩ := fin
            exact gone S6 fun t7 I7 => ⟨_, _, I7, q6⟩
    exact each hh wish
  · cases fl with
    | next =>
      obtain ⟨σ6, G6, I6, q6⟩ := fin
      exact wpAny_execs_nil ⟨σ6, G6, I6.ofTry ok, q6⟩
    | ret u =>
      obtain ⟨v6, σ6, G6, I6, r6, q6⟩ := fin
      exact ⟨v6, σ6, G6, I6.ofTry ok, r6, q6⟩
    | _ =>
      obtain ⟨σ6, G6, I6, q6⟩ := fin
      exact ⟨σ6, G6, I6.ofTry ok, q6⟩
end
end KX

set_option maxRecDepth 100000
set_option maxHeartbeats 4000000
namespace U1
open PySem PySem.Spec PyProof.Rows L2 KX
abbrev sAsc : Stmt := topS 11
abbrev sOW : Stmt := topS 26
abbrev sHW : Stmt := topS 27
abbrev sIR : Stmt := topS 29
abbrev sNO : Stmt := topS 30
/-! ### is_ascending -/
def ltS (a b : Str) : Bool := decide (a.cps.toList < b.cps.toList)
def ascS : List Str → Bool
  | a :: b :: r => ltS a b && ascS (b :: r)
  | _ => true
theorem asc_pairs : ∀ ns : List Str, ((ns.zip (ns.drop 1)).map fun q => ltS q.1 q.2).all id = ascS ns
  | [] => rfl
  | [_] => rfl
  | a :: b :: r => by
    have ih := asc_pairs (b :: r)
    have e : ((a :: b :: r).zip ((a :: b :: r).drop 1)) = (a, b) :: ((b :: r).zip ((b :: r).drop 1)) := rfl
    rw [e, List.map_cons, List.all_cons, ih]
    rfl
theorem vals_strsD {H : Hp} : ∀ {xs : List V} {ns : List Str}, Dxs H xs (ns.map PyData.str) → xs = ns.map V.str
  | [], [], _ => rfl
  | x :: xs, n :: ns, .cons h t => by
    cases h
    rw [vals_strsD t]
    rfl
theorem sl_same {K : PySem.W.Frag} {H : Hp} {ds : List PyData} {Q : VK} {lo hi : Option Int} {v : V} (hd : Dx H v (.tuple ds)) (q : ∀ H' p, Same H H' → Dx H' (.ref p) (.tuple (KX.cutD ds lo hi)) → Q (.ref p) H') : rSlA K v lo hi H Q := by
  cases hd with
  | @tup a xs _ ea h =>
    refine ⟨a, xs, rfl, .inl (.inl ea), fun hw => q H a (Same.refl H) ?_, fun _ p np => q _ p (same_new np) (.tup upd_same ((dxs_cut h lo hi).up (same_new np)))⟩
    have : KX.cutD ds lo hi = ds := by
      unfold KX.cutD
      rw [← h.len, hw.1, hw.2, List.drop_zero, Nat.sub_zero, List.take_of_length_le (by rw [h.len]; exact Nat.le_refl _)]
    rw [this]
    exact .tup ea h
def spAsc : Sp := fun vs H Q _ => ∃ (v : V) (ns : List Str), vs = [v] ∧ Dx H v (.tuple (ns.map .str)) ∧ ns.length ≤ 1000 ∧ ∀ H', Same H H' → Q (.bl (ascS ns)) H'
theorem scAsc : FnScope ["names", "first", "second"] ["names"] (defScope sAsc) := ⟨rfl, rfl, rfl, by decide +kernel, rfl, by decide +kernel, by decide +kernel⟩
section
variable {P : Program} {w : World} {K : PySem.W.Frag} {mg : Str → Option Value} {base : Heap}
theorem ok_asc {f : Addr} {fd : FuncData} (B : Bl mg) (D : Df K mg "is_ascending" sAsc ["names"] f fd) : FnOk P w K mg base CX0 1 f fd ["names"] spAsc := by
  refine D.F.ok scAsc (fun vs H Q E h => ?_) (fun cdv A outer s H vs Q E hr h => ?_)
  · obtain ⟨v, ns, rfl, _⟩ := h
    rfl
  · obtain ⟨v, ns, rfl, hd, hl, q⟩ := h
    have nd := scAsc.nd
    refine ⟨_, pss_one (ps_ret (pe_callB (cr_all rfl) (by rfl) B.all (by decide +kernel) (pa_cons (pe_lc (own := [("first", 1), ("second", 2)]) (g := gTup K 2 (gCons (gName 1) (gCons (gName 2) gNil))) rfl nd (RZ.pi_zipA (by rfl) B.zip (pa_cons (pv 0) (pa_cons (pe_slice sl_tupA (pv 0) (po_some pe_int) po_none) pa_nil)))
        (blkOk_by (N := ["names", "first", "second"]) (sc := defScope sAsc) (by decide +kernel)) (fun _ _ _ _ _ => pg_tup rfl (pgs_cons (pg_name (i := 1) nd rfl (Or.inl rfl)) (pgs_cons (pg_name (i := 2) nd rfl (Or.inl rfl)) pgs_nil))) (fun _ _ _ _ _ => pts_nil)
        (fun _ _ _ _ _ => pe_cmpR op_lt_str (pv 1) (pv 2) (nomark _))) pa_nil))), ?_⟩
    refine ⟨v, rfl, v, rfl, 1, rfl, ?_⟩
    refine (show ∀ {σ : L2.St} {H : Hp} {Q : Option Int → Hp → Prop}, Q none H → tNoPart σ H Q from fun h => h) (sl_same hd fun H2 p s2 dp => ?_)
    rw [show (1 : Int) = ((1 : Nat) : Int) from rfl, cutD_from, ← List.map_drop] at dp
    cases hd with
    | @tup a xs _ ea h =>
    cases dp with
    | @tup _ ys _ ep hp =>
    have exs := vals_strsD h
    have eys := vals_strsD hp
    have lx : xs.length = ns.length := by rw [exs, List.length_map]
    have ly : ys.length = ns.length - 1 := by rw [eys, List.length_map, List.length_drop]
    refine ⟨a, p, xs, ys, rfl, .inr ⟨.inl (.inl (s2 _ _ ea)), .inl (.inl ep), fun D nD => ?_⟩⟩
    refine lc_zipS (xs := xs) (ys := ys) (by omega) (fun i G => Same H2 G ∧ G D = some (.lst ((((ns.zip (ns.drop 1)).take i).map fun q => ltS q.1 q.2).map V.bl))) ⟨same_new nD, upd_same⟩ (fun i G _ hG => ⟨.inl (.inl (hG.1 _ _ (s2 _ _ ea))), .inl (.inl (hG.1 _ _ ep))⟩) (fun i x y T G hx hy hG nT => ?_) (fun G hG => ?_)
    · obtain ⟨sG, eD⟩ := hG
      rw [exs, List.getElem?_map] at hx
      rw [eys, List.getElem?_map] at hy
      obtain ⟨n1, e1, rfl⟩ := Option.map_eq_some_iff.mp hx
      obtain ⟨n2, e2, rfl⟩ := Option.map_eq_some_iff.mp hy
      have ez : (ns.zip (ns.drop 1))[i]? = some (n1, n2) := by rw [List.getElem?_zip_eq_some]; exact ⟨e1, e2⟩
      have sT : Same G (upd G T (.tup [.str n1, .str n2])) := same_new nT
      refine ⟨T, _, rfl, .inl (.inl upd_same), rfl, _, _, rfl, _, _, rfl, rfl, rfl, ?_⟩
      refine ⟨.str n1, rfl, .str n2, rfl, n1, n2, rfl, rfl, _, sT _ _ eD, ?_, same_at (sG.trans sT) nD, ?_⟩
      · rw [List.length_map, List.length_map, List.length_take, List.length_zip, List.length_drop]
        have hb : (1000 : Nat) < sizeLine := by decide
        omega
      · rw [upd_same, List.take_add_one, ez, List.map_append, List.map_append]
        rfl
    · obtain ⟨sG, eD⟩ := hG
      rw [List.take_of_length_le (by rw [List.length_zip, List.length_drop]; omega)] at eD
      refine ⟨D, _, rfl, .inl (.inl eD), ?_⟩
      rw [asc_pairs]
      exact q G (s2.trans sG)
/-! ### names_of -/
def spNO : Sp := fun vs H Q _ => ∃ (v : V) (rs : List Rec), vs = [v] ∧ Dx H v (.tuple (rs.map encR)) ∧ rs.length ≤ 1000 ∧ ∀ H' p, Same H H' → Dx H' (.ref p) (.tuple ((rs.map (·.nm)).map .str)) → Q (.ref p) H'
theorem scNO : FnScope ["rows", "row"] ["rows"] (defScope sNO) := ⟨rfl, rfl, rfl, by decide +kernel, rfl, by decide +kernel, by decide +kernel⟩
theorem row_dx {H : Hp} {v : V} {r : Rec} (h : Dx H v (encR r)) : ∃ a z vs, v = .ref a ∧ H a = some (.tup [.str r.nm, .int r.cost, .ref z, .int r.exp]) ∧ H z = some (.tup vs) ∧ vs = r.vals.map V.int := by
  unfold encR at h
  cases h with
  | @tup a xs _ ea h =>
    match xs, h, ea with
    | [v1, v2, v3, v4], .cons h1 (.cons h2 (.cons h3 (.cons h4 .nil))), ea =>
      cases h1
      cases h2
      cases h4
      cases h3 with
      | @tup z vs _ ez hz =>
        refine ⟨a, z, vs, rfl, ea, ez, ?_⟩
        have : ∀ {xs : List V} {ns : List Int}, Dxs H xs (ns.map PyData.int) → xs = ns.map V.int := fun {xs ns} => by
          induction ns generalizing xs with
          | nil => intro h; cases h; rfl
          | cons n ns ih =>
            intro h
            cases h with
            | cons h t =>
              cases h
              rw [ih t]
              rfl
        exact this hz
theorem ok_no {f : Addr} {fd : FuncData} (B : Bl mg) (cn : ∃ t, mg "NAME" = some (.int 0 t)) (D : Df K mg "names_of" sNO ["rows"] f fd) : FnOk P w K mg base CX0 1 f fd ["rows"] spNO := by
  obtain ⟨tn, mn⟩ := cn
  refine D.F.ok scNO (fun vs H Q E h => ?_) (fun cdv A outer s H vs Q E hr h => ?_)
  · obtain ⟨v, ns, rfl, _⟩ := h
    rfl
  · obtain ⟨v, rs, rfl, hd, hl, q⟩ := h
    have nd := scNO.nd
    refine ⟨_, pss_one (ps_ret (pe_callTy call_tuple_of (by rfl) B.tuple (by decide +kernel) (pa_cons (pe_lc (own := [("row", 1)]) (g := gName 1) rfl nd (pi_tup (pv 0))
        (blkOk_by (N := ["rows", "row"]) (sc := defScope sNO) (by decide +kernel)) (fun _ _ _ _ _ => pg_name (i := 1) nd rfl (Or.inl rfl)) (fun _ _ _ _ _ => pts_nil)
        (fun _ _ _ _ _ => pe_ix (r := rIxT K) ix_tup (pv 1) (pe_glob (v := .int 0) (by rfl) mn ⟨_, rfl⟩) (fun _ _ => rfl))) pa_nil))), ?_⟩
    cases hd with
    | @tup a xs _ ea h =>
    have lx := h.len
    rw [List.length_map] at lx
    refine ⟨.ref a, rfl, a, rfl, ⟨_, .inl (.inl ea)⟩, fun D nD => ?_⟩
    refine lc_tup (xs := xs) (fun i G => Same H G ∧ G D = some (.lst (((rs.take i).map (·.nm)).map V.str))) ⟨same_new nD, upd_same⟩ (fun i G _ hG => .inl (.inl (hG.1 _ _ ea))) (fun i x G hx hG => ?_) (fun G hG => ?_)
    · obtain ⟨sG, eD⟩ := hG
      obtain ⟨d, ed, hdx⟩ := h.get' hx
      rw [List.getElem?_map] at ed
      obtain ⟨r, er, rfl⟩ := Option.map_eq_some_iff.mp ed
      obtain ⟨b, z, vs, rfl, eb, _⟩ := row_dx (hdx.up sG)
      refine ⟨rfl, .ref b, rfl, b, _, 0, .str r.nm, rfl, rfl, .inl (.inl eb), rfl, _, eD, ?_, same_at sG nD, ?_⟩
      · rw [List.length_map, List.length_map, List.length_take]
        have hb : (1000 : Nat) < sizeLine := by decide
        omega
      · rw [upd_same, List.take_add_one, er, List.map_append, List.map_append]
        rfl
    · obtain ⟨sG, eD⟩ := hG
      rw [List.take_of_length_le (by omega)] at eD
      refine ⟨D, _, rfl, .inl ⟨.inl (.inl eD), fun p np => ?_⟩⟩
      have : ∀ (ns : List Str) (G : Hp), Dxs G (ns.map V.str) (ns.map PyData.str) := fun ns G => by
        induction ns with
        | nil => exact .nil
        | cons n ns ih => exact .cons (.str n) ih
      exact q _ p (sG.trans (same_new np)) (.tup upd_same (this _ _))
/-! ### have_one_width, for rows of one width -/
theorem call_lenK {X : Cx} {K : PySem.W.Frag} (h : X.K = K) : CallR X (.builtin "len") (fun xs H Q => ∃ p ys, xs = [V.ref p] ∧ (SqL K H p ys ∨ SqT K H p ys) ∧ Q (.int (ys.length : Int)) H) := by
  subst h
  exact call_len_seq
theorem scHW : FnScope ["rows", "row"] ["rows"] (defScope sHW) := ⟨rfl, rfl, rfl, by decide +kernel, rfl, by decide +kernel, by decide +kernel⟩
/-- the rows have one width -/
def oneW : List Rec → Bool
  | [] => true
  | r :: rs => (r :: rs).all fun e => decide (e.vals.length = r.vals.length)
def spHW : Sp := fun vs H Q _ => ∃ (v : V) (rs : List Rec), vs = [v] ∧ Dx H v (.tuple (rs.map encR)) ∧ rs.length ≤ 1000 ∧ ∀ H', Same H H' → Q (.bl (oneW rs)) H'
theorem ok_hw {f : Addr} {fd : FuncData} (B : Bl mg) (cv : ∃ t, mg "VALUES" = some (.int 2 t)) (D : Df K mg "have_one_width" sHW ["rows"] f fd) : FnOk P w K mg base CX0 1 f fd ["rows"] spHW := by
  obtain ⟨tv, mv⟩ := cv
  refine D.F.ok scHW (fun vs H Q E h => ?_) (fun cdv A outer s H vs Q E hr h => ?_)
  · obtain ⟨v, rs, rfl, _⟩ := h
    rfl
  · obtain ⟨v, rs, rfl, hd, hl, q⟩ := h
    have nd := scHW.nd
    refine ⟨_, pss_one (ps_ret (pe_callB (cr_all rfl) (by rfl) B.all (by decide +kernel) (pa_cons (pe_lc (own := [("row", 1)]) (g := gName 1) rfl nd (pi_tup (pv 0))
        (blkOk_by (N := ["rows", "row"]) (sc := defScope sHW) (by decide +kernel)) (fun _ _ _ _ _ => pg_name (i := 1) nd rfl (Or.inl rfl)) (fun _ _ _ _ _ => pts_nil)
        (fun _ _ _ _ _ => pe_cmpR op_eq (pe_callB (call_lenK (K := K) rfl) (by rfl) B.len PySem.boot_len (pa_cons (pe_ix (r := rIxT K) ix_tup (pv 1) (pe_glob (v := .int 2) (by rfl) mv ⟨_, rfl⟩) (fun _ _ => rfl)) pa_nil))
          (pe_callB (call_lenK (K := K) rfl) (by rfl) B.len PySem.boot_len (pa_cons (pe_ix (r := rIxT K) ix_tup (pe_ix (r := rIxT K) ix_tup (pv 0) pe_int (fun _ _ => rfl)) (pe_glob (v := .int 2) (by rfl) mv ⟨_, rfl⟩) (fun _ _ => rfl)) pa_nil)) (nomark _))) pa_nil))), ?_⟩
    cases hd with
    | @tup a xs _ ea h =>
    have lx := h.len
    rw [List.length_map] at lx
    refine ⟨.ref a, rfl, a, rfl, ⟨_, .inl (.inl ea)⟩, fun D nD => ?_⟩
    refine lc_tup (xs := xs) (fun i G => Same H G ∧ G D = some (.lst (((rs.take i).map fun r => decide (r.vals.length = (rs.headD ⟨"", 0, [], 0⟩).vals.length)).map V.bl))) ⟨same_new nD, upd_same⟩ (fun i G _ hG => .inl (.inl (hG.1 _ _ ea))) (fun i x G hx hG => ?_) (fun G hG => ?_)
    · obtain ⟨sG, eD⟩ := hG
      have hi : i < xs.length := (List.getElem?_eq_some_iff.mp hx).1
      obtain ⟨d, ed, hdx⟩ := h.get' hx
      rw [List.getElem?_map] at ed
      obtain ⟨r, er, rfl⟩ := Option.map_eq_some_iff.mp ed
      obtain ⟨b, z, vs, rfl, eb, ez, ev⟩ := row_dx (hdx.up sG)
      have h0 : 0 < rs.length := by omega
      obtain ⟨x0, e0, hd0⟩ := h.get (i := 0) (d := encR rs[0]) (by rw [List.getElem?_map, List.getElem?_eq_getElem h0]; rfl)
      obtain ⟨b0, z0, vs0, rfl, eb0, ez0, ev0⟩ := row_dx (hd0.up sG)
      have eh : rs.headD ⟨"", 0, [], 0⟩ = rs[0] := by
        cases rs with
        | nil => exact absurd h0 (by simp)
        | cons r rs => rfl
      refine ⟨rfl, .ref b, rfl, b, _, 2, .ref z, rfl, rfl, .inl (.inl eb), rfl, z, vs, rfl, .inr (.inl (.inl ez)), ?_⟩
      refine ⟨.ref a, rfl, a, xs, 0, .ref b0, rfl, rfl, .inl (.inl (sG _ _ ea)), atI_nat (j := 0) e0, b0, _, 2, .ref z0, rfl, rfl, .inl (.inl eb0), rfl, z0, vs0, rfl, .inr (.inl (.inl ez0)), rfl, _, eD, ?_, same_at sG nD, ?_⟩
      · rw [List.length_map, List.length_map, List.length_take]
        have hb : (1000 : Nat) < sizeLine := by decide
        omega
      · rw [upd_same, List.take_add_one, er, List.map_append, List.map_append, eh, ev, ev0, List.length_map, List.length_map]
        have eb : decide (V.int (r.vals.length : Int) = V.int (rs[0].vals.length : Int)) = decide (r.vals.length = rs[0].vals.length) := by
          by_cases z : r.vals.length = rs[0].vals.length
          · rw [decide_eq_true z, decide_eq_true (by rw [z])]
          · rw [decide_eq_false z, decide_eq_false (fun e => z (by have := V.int.inj e; omega))]
        rw [eb]
        rfl
    · obtain ⟨sG, eD⟩ := hG
      rw [List.take_of_length_le (by omega)] at eD
      refine ⟨D, _, rfl, .inl (.inl eD), ?_⟩
      have : (rs.map fun r => decide (r.vals.length = (rs.headD ⟨"", 0, [], 0⟩).vals.length)).all id = oneW rs := by
        rw [List.all_map]
        cases rs with
        | nil => rfl
        | cons r rs => rfl
      rw [this]
      exact q G sG
end
end U1

set_option maxRecDepth 100000
set_option maxHeartbeats 4000000
namespace U1
open PySem PySem.Spec PyProof.Rows L2 KX
/-! ### are_rows_of_one_width, is_rowset: any data -/
def intD' : PyData → Option Int
  | .int i => some i
  | _ => none
def recD : PyData → Rec
  | .tuple [.str n, .int c, .tuple vs, .int e] => ⟨n, c, vs.filterMap intD', e⟩
  | _ => ⟨"", 0, [], 0⟩
theorem ints_back : ∀ ns : List Int, (ns.map PyData.int).filterMap intD' = ns
  | [] => rfl
  | n :: ns => by
    rw [List.map_cons, List.filterMap_cons]
    show n :: (ns.map PyData.int).filterMap intD' = n :: ns
    rw [ints_back ns]
theorem recD_enc (r : Rec) : recD (encR r) = r := by
  show (⟨r.nm, r.cost, (r.vals.map PyData.int).filterMap intD', r.exp⟩ : Rec) = r
  rw [ints_back]
theorem ints_rec {lo hi : Int} : ∀ {ds : List PyData}, ds.all (betw lo hi) = true → ∃ ns : List Int, ds = ns.map .int
  | [], _ => ⟨[], rfl⟩
  | d :: ds, h => by
    rw [List.all_cons, Bool.and_eq_true] at h
    obtain ⟨ns, e⟩ := ints_rec h.2
    cases d with
    | int i => exact ⟨i :: ns, by rw [e]; rfl⟩
    | _ => exact absurd h.1 (by simp [betw])
theorem row_rec {d : PyData} (h : rowD d = true) : ∃ r, d = encR r := by
  match d, h with
  | .tuple [n, c, vs, e], h =>
    change (nameD n && betw 1 1000000 c && (valsD vs && betw 1 1000000000 e)) = true at h
    simp only [Bool.and_eq_true] at h
    obtain ⟨⟨h1, h2⟩, h3, h4⟩ := h
    cases n with
    | str n =>
      cases c with
      | int c =>
        cases e with
        | int e =>
          cases vs with
          | tuple ws =>
            simp only [valsD, Bool.and_eq_true] at h3
            obtain ⟨ns, rfl⟩ := ints_rec h3.2
            exact ⟨⟨n, c, ns, e⟩, rfl⟩
          | _ => simp [valsD] at h3
        | _ => simp [betw] at h4
      | _ => simp [betw] at h2
    | _ => simp [nameD] at h1
theorem rows_rec : ∀ {ds : List PyData}, ds.all rowD = true → ∃ rs : List Rec, ds = rs.map encR
  | [], _ => ⟨[], rfl⟩
  | d :: ds, h => by
    rw [List.all_cons, Bool.and_eq_true] at h
    obtain ⟨rs, e⟩ := rows_rec h.2
    obtain ⟨r, rfl⟩ := row_rec h.1
    exact ⟨r :: rs, by rw [e]; rfl⟩
theorem recs_back (rs : List Rec) : (rs.map encR).map recD = rs := by
  rw [List.map_map]
  have : recD ∘ encR = id := funext recD_enc
  rw [this, List.map_id]
def rowsD : PyData → Bool
  | .tuple ds => ds.all rowD && oneW (ds.map recD)
  | _ => false
def rowsetD : PyData → Bool
  | .tuple ds => decide (ds.length ≤ 60) && (rowsD (.tuple ds) && ascS ((ds.map recD).map (·.nm)))
  | _ => false
/-- its texts are not too long, it has not too many items -/
def SmR (d : PyData) : Prop := ∀ ds, d = .tuple ds → ds.length ≤ 1000 ∧ ∀ e ∈ ds, smA e
def spOW : Sp := fun vs H Q _ => ∃ (v : V) (d : PyData), vs = [v] ∧ Dx H v d ∧ SmR d ∧ ∀ H', Same H H' → Q (.bl (rowsD d)) H'
def spIR : Sp := fun vs H Q _ => ∃ (v : V) (d : PyData), vs = [v] ∧ Dx H v d ∧ SmR d ∧ ∀ H', Same H H' → Q (.bl (rowsetD d)) H'
theorem scOW : FnScope ["value", "row"] ["value"] (defScope sOW) := ⟨rfl, rfl, rfl, by decide +kernel, rfl, by decide +kernel, by decide +kernel⟩
theorem scIR : FnScope ["value"] ["value"] (defScope sIR) := ⟨rfl, rfl, rfl, by decide +kernel, rfl, by decide +kernel, by decide +kernel⟩
theorem isa_tupleT {ds : List PyData} : isaN "tuple" (.tuple ds) = true := isa_tuple
section
variable {P : Program} {w : World} {K : PySem.W.Frag} {mg : Str → Option Value} {base : Heap}
theorem ok_ow {k : Nat} {f fR fW : Addr} {fd fdR fdW : FuncData} (B : Bl mg) (D : Df K mg "are_rows_of_one_width" sOW ["value"] f fd) (DR : Df K mg "is_row" sRow ["value"] fR fdR) (DW : Df K mg "have_one_width" sHW ["rows"] fW fdW)
    (GR : FnOk P w K mg base CX0 k fR fdR ["value"] spRow) (GW : FnOk P w K mg base CX0 k fW fdW ["rows"] spHW) : FnOk P w K mg base CX0 (k + 1) f fd ["value"] spOW := by
  refine D.F.ok scOW (fun vs H Q E h => ?_) (fun cdv A outer s H vs Q E hr h => ?_)
  · obtain ⟨v, d, rfl, _⟩ := h
    rfl
  · obtain ⟨v, d, rfl, hd, hsm, q⟩ := h
    have nd := scOW.nd
    refine ⟨_, pss_cons (ps_if (PW.pt (pw_or (pt_not (pt_val (pe_isD (T := "tuple") (x := "tuple") (by decide +kernel) B.isi B.tuple (by decide +kernel) (pv 0) (by rfl) (by rfl))))
        (pw_or1 (pt_not (pt_val (pe_callB (cr_all rfl) (by rfl) B.all (by decide +kernel) (pa_cons (pe_lc (own := [("row", 1)]) (g := gName 1) rfl nd (pi_tup (pv 0)) (blkOk_by (N := ["value", "row"]) (sc := defScope sOW) (by decide +kernel))
          (fun _ _ _ _ _ => pg_name (i := 1) nd rfl (Or.inl rfl)) (fun _ _ _ _ _ => pts_nil) (fun _ _ _ _ _ => pe_call GR hr (by rfl) DR.g DR.F.kp DR.b .nil pass0 (pa_cons (pv 1) pa_nil))) pa_nil))))))) (pss_one (ps_ret pe_bl)) pss_nil)
      (pss_one (ps_ret (pe_call GW hr (by rfl) DW.g DW.F.kp DW.b .nil pass0 (pa_cons (pv 0) pa_nil)))), ?_⟩
    refine ⟨v, rfl, rfl, d, hd, _, rfl, ?_⟩
    rw [isa_tuple]
    cases d with
    | tuple ds =>
      obtain ⟨hl, sm⟩ := hsm ds rfl
      refine iteF ?_
      obtain ⟨a, xs, rfl, ea, hx⟩ : ∃ a xs, v = .ref a ∧ H a = some (.tup xs) ∧ Dxs H xs ds := by
        cases hd with
        | @tup a xs _ ea h => exact ⟨a, xs, rfl, ea, h⟩
      have lx := hx.len
      refine ⟨.ref a, rfl, a, rfl, ⟨_, .inl (.inl ea)⟩, fun L nL => ?_⟩
      refine lc_tup (xs := xs) (fun i G => Same H G ∧ G L = some (.lst (((ds.take i).map rowD).map V.bl))) ⟨same_new nL, upd_same⟩ (fun i G _ hG => .inl (.inl (hG.1 _ _ ea))) (fun i x G hx2 hG => ?_) (fun G hG => ?_)
      · obtain ⟨sG, eL⟩ := hG
        obtain ⟨e, ee, hxe⟩ := hx.get' hx2
        have hi : i < ds.length := (List.getElem?_eq_some_iff.mp ee).1
        refine ⟨rfl, x, rfl, x, e, rfl, hxe.up sG, sm e (List.mem_of_getElem? ee), fun G2 s2 => ⟨_, s2 _ _ eL, ?_, same_at (sG.trans s2) nL, ?_⟩⟩
        · rw [List.length_map, List.length_map, List.length_take]
          have hb : (1000 : Nat) < sizeLine := by decide
          omega
        · rw [upd_same, List.take_add_one, ee]
          simp
      · obtain ⟨sG, eL⟩ := hG
        rw [List.take_of_length_le (by omega)] at eL
        refine ⟨L, _, rfl, .inl (.inl eL), _, rfl, ?_⟩
        have e1 : (ds.map rowD).all id = ds.all rowD := by rw [List.all_map]; rfl
        rw [e1]
        change ∀ H', Same H H' → Q (.bl (ds.all rowD && oneW (ds.map recD))) H' at q
        cases er : ds.all rowD with
        | false =>
          rw [er] at q
          exact iteT (q G sG)
        | true =>
          rw [er] at q
          obtain ⟨rs, rfl⟩ := rows_rec er
          rw [recs_back] at q
          rw [List.length_map] at hl
          exact iteF ⟨.ref a, rfl, .ref a, rs, rfl, (Dx.tup ea hx).up sG, hl, fun G2 s2 => q G2 (sG.trans s2)⟩
    | _ => exact iteT (iteT (q H (Same.refl H)))
theorem ok_ir {k : Nat} {f fT fO fA fN : Addr} {fd fdT fdO fdA fdN : FuncData} (B : Bl mg) (cr : ∃ t, mg "MAX_ROWS" = some (.int 60 t)) (D : Df K mg "is_rowset" sIR ["value"] f fd) (DT : Df K mg "is_tuple_between" sTupB ["value", "low", "high"] fT fdT) (DO : Df K mg "are_rows_of_one_width" sOW ["value"] fO fdO)
    (DA : Df K mg "is_ascending" sAsc ["names"] fA fdA) (DN : Df K mg "names_of" sNO ["rows"] fN fdN) (GT : FnOk P w K mg base CX0 k fT fdT ["value", "low", "high"] spTupB) (GO : FnOk P w K mg base CX0 k fO fdO ["value"] spOW) (GA : FnOk P w K mg base CX0 k fA fdA ["names"] spAsc) (GN : FnOk P w K mg base CX0 k fN fdN ["rows"] spNO) :
    FnOk P w K mg base CX0 (k + 1) f fd ["value"] spIR := by
  obtain ⟨tr, mr⟩ := cr
  refine D.F.ok scIR (fun vs H Q E h => ?_) (fun cdv A outer s H vs Q E hr h => ?_)
  · obtain ⟨v, d, rfl, _⟩ := h
    rfl
  · obtain ⟨v, d, rfl, hd, hsm, q⟩ := h
    refine ⟨_, pss_cons (ps_if (PW.pt (pw_or (pt_not (pt_val (pe_call GT hr (by rfl) DT.g DT.F.kp DT.b .nil pass0 (pa_cons (pv 0) (pa_cons pe_int (pa_cons (pe_glob (v := .int 60) (by rfl) mr ⟨_, rfl⟩) pa_nil))))))
        (pw_or1 (pt_not (pt_val (pe_call GO hr (by rfl) DO.g DO.F.kp DO.b .nil pass0 (pa_cons (pv 0) pa_nil))))))) (pss_one (ps_ret pe_bl)) pss_nil)
      (pss_one (ps_ret (pe_call GA hr (by rfl) DA.g DA.F.kp DA.b .nil pass0 (pa_cons (pe_call GN hr (by rfl) DN.g DN.F.kp DN.b .nil pass0 (pa_cons (pv 0) pa_nil)) pa_nil)))), ?_⟩
    refine ⟨v, rfl, v, d, 0, 60, rfl, hd, _, rfl, ?_⟩
    cases d with
    | tuple ds =>
      have et : tupB 0 60 (.tuple ds) = (decide ((0 : Int) ≤ (ds.length : Int)) && decide ((ds.length : Int) ≤ 60)) := rfl
      change ∀ H', Same H H' → Q (.bl (decide (ds.length ≤ 60) && (rowsD (.tuple ds) && ascS ((ds.map recD).map (·.nm))))) H' at q
      rw [et, decide_eq_true (by omega)]
      by_cases h60 : ds.length ≤ 60
      · rw [decide_eq_true h60] at q
        rw [decide_eq_true (show (ds.length : Int) ≤ 60 by omega)]
        refine iteF ⟨v, rfl, v, _, rfl, hd, hsm, fun G sG => ⟨_, rfl, ?_⟩⟩
        cases er : rowsD (.tuple ds) with
        | false =>
          rw [er] at q
          exact iteT (q G sG)
        | true =>
          rw [er] at q
          have ea : ds.all rowD = true := by
            have : (ds.all rowD && oneW (ds.map recD)) = true := er
            rw [Bool.and_eq_true] at this
            exact this.1
          obtain ⟨rs, rfl⟩ := rows_rec ea
          rw [recs_back] at q
          rw [List.length_map] at h60
          refine iteF ⟨v, rfl, v, rs, rfl, hd.up sG, by omega, fun G2 p s2 hp => ?_⟩
          exact ⟨.ref p, rs.map (fun r : Rec => r.nm), rfl, hp, by rw [List.length_map]; omega, fun G3 s3 => q G3 ((sG.trans s2).trans s3)⟩
      · rw [decide_eq_false h60] at q
        rw [decide_eq_false (show ¬ (ds.length : Int) ≤ 60 by omega)]
        exact iteT (iteT (q H (Same.refl H)))
    | _ => exact iteT (iteT (q H (Same.refl H)))
end
end U1

set_option maxRecDepth 100000
set_option maxHeartbeats 1000000
/-! KeyError as a base of an own exception class: __new__ is LookupError's, __init__ its own -/
namespace KX
open PySem PySem.F PySem.Spec PyProof.Rows L2 HandSPX
def kyTl : List Value := [.type "KeyError", .type "LookupError", .type "Exception", .type "BaseException", .type "object"]
/-- what is known of the __init__ of a built-in exception class -/
structure IniB (B iniI : String) : Prop where
  slot : Slot B "__init__" iniI
  ent : entryFor table iniI = some Builtin.«BaseException.__init__»
  spl : splitId iniI = some (B, "__init__")
  knd : builtinKind iniI = some .slot
  row : Manifest.signature? iniI = some ⟨.positional, "*", B, .self, [⟨"args", .varPos, false⟩]⟩
theorem kyIni : IniB "KeyError" "KeyError.__init__" :=
  ⟨.of (owner := "KeyError") (n := "__init__") (by rw [typeLookup_type, builtinLookup_eq_fast]; kernel_rfl) (by decide +kernel) (by decide +kernel) (by decide +kernel) (by first | exact .inl (by decide +kernel) | exact .inr (by decide +kernel)) (by rw [isSubtype_type]; kernel_rfl),
   entryFor_alias (id' := "BaseException.__init__") (by rw [fastTable_eq_tree]; kernel_rfl) (by first | rfl | decide +kernel) (by decide +kernel) (by rw [fastTable_eq_tree]; kernel_rfl), by kernel_rfl, by kernel_rfl, by kernel_rfl⟩
theorem kyStore : StoreFacts "KeyError" kyTl "object.__setattr__" "object" := by
  have i := PySem.F.store_IndexError
  refine ⟨by kernel_rfl, ?_, i.entry, i.kind, i.split, by decide +kernel, i.args, fun z => by kernel_rfl⟩
  exact .of (owner := "object") (n := "__setattr__") (by rw [typeLookup_type, builtinLookup_eq_fast]; kernel_rfl) (by decide +kernel) (by decide +kernel) (by decide +kernel) (by first | exact .inl (by decide +kernel) | exact .inr (by decide +kernel)) (by rw [isSubtype_type]; kernel_rfl)
/-- of the class at C, whose tail is bm: the built-in class B makes it, D's __init__ fits it -/
structure Tl (B D : String) (bm : List Value) : Prop where
  b : bm.contains (.type B) = true
  d : bm.contains (.type D) = true
  a : bm.contains (.type "AttributeError") = false
  n : bm.contains (.type "NameError") = false
section
variable {M : Model} {prog : Program} {w : World} {A : Around} {E : Value → Shared → Prop} {R : Result → Shared → Prop} {hp : Heap} {g : Array GenState} {dr : Drawn} {tk : Nat} {os : OsState}
variable {nm q : Str} {C N : Addr} {bs bm bB : List Value} {hdct : Bool} {sn : List Str} {sub : List Value} {ab : Bool} {col : Option Bool} {dd : Option Addr} {k0 k1 k2 k3 k5 : Option Value} {B D newI oldI iniI : String} {rest : List Value}
theorem new_ok2 (L : ExcBaseFacts B newI oldI bB) (T : Tl B D bm) {Q : Unit → Shared → Prop} (at' : hp.get? C = some (excClassObj nm q C N bs bm hdct sn sub ab col dd k0 k1 k2 k3 k5 newI)) (k : Q () ⟨hp, g, dr, tk, os⟩) :
    wpAny M A (checkBuiltinCall newI ⟨.ref C :: rest, []⟩) Q E ⟨hp, g, dr, tk, os⟩ := by
  have inB : (Value.ref C :: bm).contains (.type B) = true := by rw [List.contains_cons, T.b, Bool.or_true]
  have star := L.noStar
  simp only [checkBuiltinCall, L.newKind, L.newSplit, L.newRow]
  repeat (first | refine wpAny_loadPart_at at' ?_ | (refine wpAny_isSubtype_exc at' ?_; rw [inB]) | refine wpAny_staticBase_exc at' ?_ | refine wpAny_madeBy_exc at' ?_ | simp only [bne_self_eq_false, Bool.false_eq_true, if_false] | wp_step)
  exact k
theorem ini_ok2 (J : IniB D iniI) (nst : (D != "*") = true) (T : Tl B D bm) {e : Addr} {oe : Obj} {Q : Unit → Shared → Prop} (at' : hp.get? C = some (excClassObj nm q C N bs bm hdct sn sub ab col dd k0 k1 k2 k3 k5 newI)) (ae : hp.get? e = some oe) (ce : oe.cls = .ref C) (k : Q () ⟨hp, g, dr, tk, os⟩) :
    wpAny M A (checkBuiltinCall iniI ⟨.ref e :: rest, []⟩) Q E ⟨hp, g, dr, tk, os⟩ := by
  have inD : (Value.ref C :: bm).contains (.type D) = true := by rw [List.contains_cons, T.d, Bool.or_true]
  simp only [checkBuiltinCall, J.knd, J.spl, J.row]
  repeat (first | (with_reducible refine wpAny_loadPart_at ae ?_; rw [ce]) | with_reducible refine wpAny_loadPart_at at' ?_ | (with_reducible refine wpAny_isSubtype_exc at' ?_; rw [inD]) | wp_step)
  refine wpAny_onRaise ?_
  rw [show ∀ (x y : String) (m : Nat), Bind.check ⟨.positional, "*", D, .self, [⟨"args", .varPos, false⟩]⟩ x y m (List.map (fun z => z.fst) ({ pos := Value.ref e :: rest } : Args).kw) = pure () from fun x y m => check_star_args _ _ _ _ _ _]
  exact wpAny_pure k
theorem made2 (L : ExcBaseFacts B newI oldI bB) (T : Tl B D bm) (at' : hp.get? C = some (excClassObj nm q C N bs bm hdct sn sub ab col dd k0 k1 k2 k3 k5 newI))
    (k : R (.ok (.ret (.ref (hp.objs.size + 1)))) ⟨(hp.push (W.kdv_tup rest)).push (excO C hp.objs.size), g, dr, tk, os⟩) (hl : rest.length ≤ sizeLine) : codeAny (model prog w) A (.builtin newI ⟨.ref C :: rest, []⟩) R ⟨hp, g, dr, tk, os⟩ := by
  have en := L.ends
  have inB : (Value.ref C :: bm).contains (.type B) = true := by rw [List.contains_cons, T.b, Bool.or_true]
  have noA : (Value.ref C :: bm).contains (.type "AttributeError") = false := by rw [List.contains_cons, T.a]; rfl
  have noN : (Value.ref C :: bm).contains (.type "NameError") = false := by rw [List.contains_cons, T.n]; rfl
  refine codeAny_builtinAt L.entry ?_
  unfold Builtin.«BaseException.__new__»
  refine PyProof.Rows.wpAt_bind (show PyProof.Rows.wpAt _ _ _ (stack >>= _) _ _ _ from PyProof.Rows.wpAt_bind (PyProof.Rows.wpAt_stack fun p below => wpAt_of_wpAny ?_))
  wp_walk
  refine wpAt_of_wpAny ?_
  rw [L.owner]
  repeat (first | with_reducible refine wpAny_madeHere_exc L.canon at' ?_ | with_reducible refine wpAny_loadPart_at at' ?_ | (with_reducible refine wpAny_isSubtype_exc at' ?_; first | rw [inB] | rw [noA] | rw [noN]) | wp_step)
  show R _ _
  rw [Heap.size_push]
  exact k
theorem tcall2 (L : ExcBaseFacts B newI oldI bB) (T : Tl B D bm) {fI : Addr} {Q : Fin → Shared → Prop} (at' : hp.get? C = some (excClassObj nm q C N bs bm hdct sn sub ab col dd k0 k1 k2 k3 k5 newI))
    (li : W.Looks (model prog w) hp (typeLookup (.ref C) "__init__") (some (.ref fI))) (lb : ∀ z, W.Looks (model prog w) hp (bindSpecial (.ref fI) z) (.ref fI, [z])) (hl : rest.length ≤ sizeLine)
    (k : codeAny (model prog w) A (.call (.ref fI) ⟨.ref (hp.objs.size + 1) :: rest, []⟩) (fun r s' => match r with | .ok (.ret v) => v = .none ∧ Q (.done (.ret (.ref (hp.objs.size + 1)))) s' | .ok _ => False | .error e => E e s')
      ⟨(hp.push (W.kdv_tup rest)).push (excO C hp.objs.size), g, dr, tk, os⟩) : wpAny (model prog w) A (Builtin.«type.__call__» ⟨.ref C :: rest, []⟩) Q E ⟨hp, g, dr, tk, os⟩ := by
  repeat (first | with_reducible refine wpAny_loadPart_at at' ?_ | with_reducible refine wpAny_madeBy_exc at' ?_ | wp_step)
  refine codeAny_call_builtin_code (Code.quiet_builtin _ L.quiet) (new_ok2 L T at' (made2 L T at' ?_ hl))
  show wpAny _ _ _ _ _ _
  have old : ∀ b o, hp.get? b = some o → ((hp.push (W.kdv_tup rest)).push (excO C hp.objs.size)).get? b = some o := fun b o z => Heap.get?_push_of_some _ (Heap.get?_push_of_some _ z)
  have at1 := old _ _ at'
  have new1 : ((hp.push (W.kdv_tup rest)).push (excO C hp.objs.size)).get? (hp.objs.size + 1) = some (excO C hp.objs.size) := by heap_get
  have self1 : (Value.ref C :: bm).contains (.ref C) = true := by simp
  unfold isInstance
  repeat (first | with_reducible refine wpAny_loadPart_at new1 ?_ | (with_reducible refine wpAny_isSubtype_exc at1 ?_; rw [self1]) | wp_step)
  show wpAny _ _ (typeLookup (.ref C) _) _ _ _
  refine (li.keeps old).at (wpAny_holding (wpAny_bind (((lb (.ref (hp.objs.size + 1))).keeps old).at (wpAny_bind (wpAny_call (codeAny_mono k fun r s' z => ?_))))))
  rcases r with e | (v | _ | _ | _) <;> first | exact z | exact z.elim | skip
  obtain ⟨rfl, z⟩ := z
  first | exact wpAny_pure (wpAny_pure z) | (wp_walk; exact z)
theorem own2 (L : ExcBaseFacts B newI oldI bB) (T : Tl B D bm) {fI : Addr} (at' : hp.get? C = some (excClassObj nm q C N bs bm hdct sn sub ab col dd k0 k1 k2 k3 k5 newI))
    (li : W.Looks (model prog w) hp (typeLookup (.ref C) "__init__") (some (.ref fI))) (lb : ∀ z, W.Looks (model prog w) hp (bindSpecial (.ref fI) z) (.ref fI, [z])) (hl : rest.length ≤ sizeLine)
    (k : codeAny (model prog w) (A.under (.builtin "type.__call__" ⟨.ref C :: rest, []⟩)) (.call (.ref fI) ⟨.ref (hp.objs.size + 1) :: rest, []⟩) (W.InitBack (hp.objs.size + 1) R)
      ⟨(hp.push (W.kdv_tup rest)).push (excO C hp.objs.size), g, dr, tk, os⟩) : codeAny (model prog w) A (.call (.ref C) ⟨rest, []⟩) R ⟨hp, g, dr, tk, os⟩ := by
  have c1 := tc_lookup
  have c2 := tc_bind (.ref C)
  have c3 : (⟨hp, g, dr, tk, os⟩ : Shared).TypeIs (.ref C) "type" := ⟨_, at', rfl⟩
  refine codeAny_of_tree (show wpAny _ _ (callAny (.ref C) _) _ _ _ from ?_)
  repeat (any_goals (first | assumption | with_reducible refine wpAny_loadPart_at at' ?_ | wp_step))
  refine ⟨rfl, ?_⟩
  refine codeAny_call_builtin_at (Code.quiet_builtin _ (by decide +kernel)) entry_typeCall (wpAny_check_type_call_sub at' (tcall2 L T at' li lb hl (codeAny_mono k fun r s' z => ?_)))
  rcases r with e | (v | _ | _ | _) <;> exact z
/-- D.__init__(e, ..): the args are laid anew -/
theorem inib2 (J : IniB D iniI) (nst : (D != "*") = true) (T : Tl B D bm) {e t0 : Addr} (at' : hp.get? C = some (excClassObj nm q C N bs bm hdct sn sub ab col dd k0 k1 k2 k3 k5 newI)) (ae : hp.get? e = some (excO C t0)) (hl : rest.length ≤ sizeLine)
    (k : ∀ h' t1, (∀ b o, b ≠ e → hp.get? b = some o → h'.get? b = some o) → h'.get? e = some (excO C t1) → R (.ok (.ret .none)) ⟨h', g, dr, tk, os⟩) : codeAny (model prog w) A (.call (.builtin iniI) ⟨.ref e :: rest, []⟩) R ⟨hp, g, dr, tk, os⟩ := by
  refine codeAny_call_builtin J.slot.plain J.ent (ini_ok2 J nst T at' ae rfl ?_)
  wp_walk
  refine k _ hp.objs.size (fun b o hb ho => ?_) ?_
  · rw [Heap.get?_update_other _ _ hb.symm]
    exact Heap.get?_push_of_some _ ho
  · rw [Heap.get?_update_self _ (Heap.get?_push_of_some _ ae) rfl]
    rfl
end
end KX

set_option maxRecDepth 100000
set_option maxHeartbeats 4000000
/-! an own exception class right over KeyError, whose __init__ says KeyError.__init__(self, x) and then stores -/
namespace KY
open PySem PySem.Spec PyProof.Rows L2 KX
/-- what the library knows of the built-in class B, whose __new__ may be another class's -/
structure XB2 (B newI iniI : String) (tl : List Value) : Prop where
  sf : PySem.StoreFacts B tl "object.__setattr__" "object"
  j : IniB B iniI
  ns : (B != "*") = true
  mks : ∃ (LB oldI : String) (bB : List Value), PySem.ExcBaseFacts LB newI oldI bB ∧ Tl LB B tl
theorem XB2.tl {B newI iniI : String} {tl bm : List Value} (T : XB2 B newI iniI tl) (h : ∀ X : String, bm.contains (.type X) = tl.contains (.type X)) : ∃ (LB oldI : String) (bB : List Value), PySem.ExcBaseFacts LB newI oldI bB ∧ Tl LB B bm := by
  obtain ⟨LB, oldI, bB, L, t⟩ := T.mks
  exact ⟨LB, oldI, bB, L, by rw [h]; exact t.b, by rw [h]; exact t.d, by rw [h]; exact t.a, by rw [h]; exact t.n⟩
/-- what the written part says of the class at C -/
structure XC2 (K : PySem.W.Frag) (B newI iniI : String) (tl : List Value) (C : Addr) : Prop where
  b : XB2 B newI iniI tl
  ini : PySem.W.excInitIn K C tl newI = true
  ovr : PySem.W.excOver K C tl = true
  sa : PySem.W.findIn K (.ref C) "__setattr__" = some (some (.builtin "object.__setattr__"))
  hd : PySem.W.hasDictIn K C = true
  sub : PySem.W.subIn K (.ref C) (.type "BaseException") = some true
  ty : PySem.W.typeIn K (.ref C) = some (.type "type")
  kp : PySem.W.keepIn K (.ref C) = true
section
open PySem.W PySem.Calls PySem.HandSPX Builtin Builtin.ObjectAttr
variable {prog : Program} {w : World} {A : Around} {E : Value → Shared → Prop} {R : Result → Shared → Prop} {hp : Heap} {g : Array GenState} {d : Drawn} {t : Nat} {os : OsState}
/-- the first store into such an exception -/
theorem osa_first {K : PySem.W.Frag} {nm : Str} {tk : Tok} {v : Value} {x C : Addr} {fv : Array Value} {B newI iniI : String} {tl : List Value} (T : XC2 K B newI iniI tl C)
    (X : K.In hp) (hx : hp.get? x = some { cls := .ref C, data := .fields fv }) (ha : PySem.W.findIn K (.ref C) nm = some none)
    (done : ∀ h2 tk2 dx, (∀ b o, b ≠ x → hp.get? b = some o → h2.get? b = some o) → hp.objs.size ≤ dx → dx ≠ x → h2.get? x = some { cls := .ref C, dict := some dx, data := .fields fv } →
      h2.Ns1 dx (fun y => if y = nm then some v else none) → R (.ok (.ret .none)) ⟨h2, g, d, tk2, os⟩) :
    codeAny (model prog w) A (.call (.builtin "object.__setattr__") ⟨[.ref x, .str nm tk, v], []⟩) R ⟨hp, g, d, t, os⟩ := by
  have tkr : PySem.W.takerIn K C nm = some none := by unfold PySem.W.takerIn; rw [ha]; rfl
  refine PySem.W.osa_openX (s := ⟨hp, g, d, t, os⟩) (od := none) T.b.sf X ⟨hx, rfl, rfl, trivial⟩ T.ovr tkr fun b => ?_
  obtain ⟨cd, hc, hdd⟩ := PySem.W.any_some T.hd
  have hcls : PySem.W.Looks (model prog w) hp (classData C) cd := PySem.W.looks_clsIn X hc
  have far : x ≠ hp.objs.size := Nat.ne_of_lt (Heap.lt_size hx)
  obtain ⟨nm', bs, mro, ns, qn, hd', sn, sb, ab, col, del⟩ := cd
  dsimp only at hdd
  subst hdd
  dsimp only
  unfold storeInOwnDict ownDictForStores
  repeat (first | with_reducible refine store_in_new ?_ ?_ | with_reducible refine wpAny_loadPart_at hx ?_ | with_reducible refine hcls.at ?_ | wp_step)
  · exact ⟨_, #[], _, (Heap.get?_update_ne _ _ _ _ far.symm).trans (Heap.get?_push_at rfl rfl), rfl, fun e he => absurd he (by simp), fun _ => rfl⟩
  · intro h2 tk2 hn2 hs
    have hx1 : (hp.push { cls := .type "dict", data := .dict #[] }).get? x = some { cls := .ref C, data := .fields fv } := Heap.get?_push_of_some _ hx
    refine done h2 tk2 hp.objs.size (fun b o hb ho => ?_) (Nat.le_refl _) far.symm ?_ hn2
    · have z := Heap.get?_push_of_some { cls := .type "dict", data := .dict #[] } ho
      exact (hs.2 b (Nat.ne_of_lt (Heap.lt_size ho))).trans ((Heap.get?_update_ne _ _ _ _ hb).trans z)
    · have z := Heap.get?_update_self (fun o => { o with dict := some hp.objs.size }) hx1 rfl
      exact (hs.2 x far).trans z
end
section
variable {X : Cx} {pins : List (Addr × Obj)} {σ : L2.St} {H : Hp} {s : Shared} {a C dx : Addr} {f : Str} {y : V} {u : Value} {E : Value → Shared → Prop} {A : Around} {B newI iniI : String} {tl : List Value}
/-- self.f = y, the first store -/
theorem store_first {Q : Unit → Shared → Prop} (T : XC2 X.K B newI iniI tl C) (I : Inv X pins σ H s) (e : H a = some (exo a C none)) (hno : PySem.W.findIn X.K (.ref C) f = some none) (ry : RelV y u)
    (go : ∀ dx s2, H dx = none → dx ≠ a → Inv X pins σ (upd (upd H dx (exd dx [(f, y)])) a (exo a C (some dx))) s2 → Q () s2) :
    wpAny (model X.prog X.w) A (setAttr (.ref a) f u) Q E s := by
  obtain ⟨t1, ho⟩ := exo_at I.hok e
  obtain ⟨hp, g, d, t, os⟩ := s
  refine PySem.W.set_plain I.kIn (ox := { cls := .ref C, dict := none, data := .fields #[.ref t1, .none, .none, .none, .bool false, .none] })
    (od := none) ⟨ho, rfl, rfl, trivial⟩ T.sa (osa_first T I.kIn ho hno (fun h2 tk2 dx k dn dne hx hn => ?_))
  have hnd : H dx = none := I.hok.fresh dn
  have new : ∀ {b : Addr} {o : Obj}, hp.get? b = some o → b ≠ dx := fun {b o} q => Nat.ne_of_lt (Nat.lt_of_lt_of_le (Heap.lt_size q) dn)
  have notA : ∀ {b : Addr}, H b = none → b ≠ a := fun {b} n z => by
    rw [z, e] at n
    cases n
  have U : Un X.fs [] H (upd (upd H dx (exd dx [(f, y)])) a (exo a C (some dx))) hp h2 := {
    keep := fun b o q n _ _ => k b o (notA n) q
    slot := fun b o q n _ _ => ⟨o.slots, k b o (notA n) q⟩
    free := fun b o q n _ => by rw [upd_ne (notA n), upd_ne (new q)]; exact n
    there := fun b o q _ => by
      by_cases hb : b = a
      · exact ⟨_, by rw [hb]; exact hx⟩
      · exact ⟨o, k b o hb q⟩
    tups := fun b xs q => by rw [upd_ne (at_ne e q exo_tup), upd_ne (ne_of_none q hnd)]; exact q
    frzs := fun b o v q => by rw [upd_ne (at_ne e q exo_frz), upd_ne (ne_of_none q hnd)]; exact q
    tbls := fun b ps q => ⟨#[], by rw [upd_ne (at_ne e q exo_tbl), upd_ne (ne_of_none q hnd), q]; simp⟩ }
  refine go dx _ hnd dne (I.un (t' := tk2) U fun b o q => ?_)
  by_cases hb : b = a
  · subst hb
    rw [upd_same] at q
    cases q
    exact exo_ok hx
  · rw [upd_ne hb] at q
    by_cases hd : b = dx
    · subst hd
      rw [upd_same] at q
      cases q
      exact exd_ok hn (relO_put (fs := []) ry fun g => True.intro)
    · rw [upd_ne hd] at q
      refine (I.hok b o q).stay (fun c v hc z => k c v ?_ z) (fun c hc => ?_) (fun c xs hc => ?_)
      · rcases hc with hc | hc
        · rw [hc]
          exact hb
        · exact at_ne e hc exo_own
      · rw [upd_ne (at_ne e hc exo_own), upd_ne (ne_of_none hc hnd)]
        exact hc
      · rw [upd_ne (at_ne e hc exo_tup), upd_ne (ne_of_none hc hnd)]
        exact hc
/-- B.__init__(self, ..): nothing of it is told -/
theorem init_told {us : List Value} {Q : Value → Shared → Prop} (T : XC2 X.K B newI iniI tl C) (I : Inv X pins σ H s) (e : H a = some (exo a C none)) (hl : us.length ≤ sizeLine) (go : ∀ s2, Inv X pins σ H s2 → Q .none s2) :
    wpAny (model X.prog X.w) A (call (.builtin iniI) (.ref a :: us)) Q E s := by
  obtain ⟨nm, N, qn, bs, bm, hdct, sn, sub, ab, col, dd, k0, k1, k2, k3, k5, hC, hT⟩ := PySem.W.excInit_of I.kIn T.ini
  obtain ⟨t1, ho⟩ := exo_at I.hok e
  obtain ⟨hp, g, d, t, os⟩ := s
  obtain ⟨LB, oldI, bB, L, tlb⟩ := T.b.tl hT
  refine wpAny_call (inib2 T.b.j T.b.ns tlb hC ho hl fun h2 t2 k hx => go _ ?_)
  have J := I.write (t' := t) (x := a) (e := a) (o := exo a C none) (by rw [e]; exact True.intro) (.inl rfl) k ⟨_, hx⟩ (exo_ok hx)
  have same : upd H a (exo a C none) = H := by
    funext b
    by_cases hb : b = a
    · rw [hb, upd_same, e]
    · rw [upd_ne hb]
  rw [same] at J
  exact J
end
/-- B.__init__(self, ..) -/
def tBini (K : PySem.W.Frag) (B newI iniI : String) (tl : List Value) (ta : TA) : TE := fun σ H Q => ta σ H fun vs H1 =>
  ∃ (a C : Addr) (ws : List V), vs = .ref a :: ws ∧ ws.length ≤ 1000 ∧ XC2 K B newI iniI tl C ∧ H1 a = some (exo a C none) ∧ Q .non H1
/-- self.f = e, the first store -/
def tFst (K : PySem.W.Frag) (B newI iniI : String) (tl : List Value) (f : Str) (to te : TE) : TS := fun D σ H => te σ H fun y H1 => to σ H1 fun x H2 =>
  ∃ a C : Addr, x = .ref a ∧ XC2 K B newI iniI tl C ∧ PySem.W.findIn K (.ref C) f = some none ∧ H2 a = some (exo a C none) ∧
    ∀ dx, H2 dx = none → dx ≠ a → D.nx σ (upd (upd H2 dx (exd dx [(f, y)])) a (exo a C (some dx)))
section
variable {X : Cx} {o e : Expr} {es : List Expr} {to te : TE} {ta : TA} {f : Str} {p p' p1 p2 pos : Pos} {B newI iniI : String} {tl : List Value}
theorem ps_fst (ho : PE X o to) (he : PE X e te) (hs : swapsWith e (some (.Attribute o f p')) pos.line X.env = pure false := by rfl) : PS X (.Assign [.Attribute o f p'] e pos) (tFst X.K B newI iniI tl f to te) := by
  refine ⟨fun pins s σ H D I h => ?_⟩
  refine plainObj_wpAny_Assign_Attribute (thn (he.run pins s σ H _ I h) fun v s1 z1 => ?_) hs
  obtain ⟨y, H1, I1, r1, q1⟩ := z1
  refine thn (ho.run pins s1 σ H1 _ I1 q1) fun u s2 z2 => ?_
  obtain ⟨x, H2, I2, r2, a, C, ex, T, hno, ea, q⟩ := z2
  subst ex
  obtain rfl : u = Value.ref a := r2
  exact store_first T I2 ea hno r1 fun dx s3 n ne J => ⟨σ, _, J, q dx n ne⟩
theorem pe_bini {pl : Sem Bool} (hg : Gl X "KeyError") (hm : X.mg "KeyError" = none) (vV : PySem.W.findCls X.K (.type "KeyError") (.type "type") "__init__" = some (.val (.builtin "KeyError.__init__"))) (ha : PA X (e :: es) ta)
    (hc : eval (.Call (.Attribute (.Name "KeyError" p1) "__init__" p2) (e :: es) [] pos) X.env = (do
      let cv ← eval (.Name "KeyError" p1) X.env
      standAt p2.atName
      let (fn, ahead) ← holding [cv] (getMethod cv "__init__" pl)
      callWith pos fn ahead (backTo pos (starEach (e :: es) X.env)) (backToKw pos (keywordEach [] X.env))) := by rfl)
    (he : starEach (e :: es) X.env = (false, eval e X.env) :: starEach es X.env := by rfl) (hpl : (backTo pos (starEach es X.env)).any (·.1) = false := by rfl) :
    PE X (.Call (.Attribute (.Name "KeyError" p1) "__init__" p2) (e :: es) [] pos) (tBini X.K "KeyError" newI "KeyError.__init__" tl ta) := by
  refine ⟨fun pins s σ H Q I h => ?_⟩
  have ty : typeOf (.type "KeyError") = pure (.type "type") := by kernel_rfl
  refine PySem.W.methodCall_KW (ld_blt I hg hm PyProof.Rows.Boot.«KeyError» ?_ (by decide) (by decide)) hc
  obtain ⟨m, fr⟩ := I.fr
  refine PySem.W.method_type fr I.ok.mod.kin ty (by decide +kernel) vV (by decide +kernel) ?_
  show wpAny _ _ (callWith pos (Value.builtin "KeyError.__init__") [] (backTo pos (starEach (e :: es) X.env)) []) _ _ _
  refine PyProof.Rows.callWith_method1 (thn (ha.run pos pins _ σ H _ (I.tok _) h) fun us s1 z => ?_) he hpl
  obtain ⟨vs, H1, I1, r1, a, C, ws, ev, hl, T, ea, q⟩ := z
  subst ev
  cases r1 with
  | @cons _ u0 _ ur ra rw' =>
    obtain rfl : u0 = Value.ref a := ra
    have hlen : ur.length ≤ sizeLine := by
      rw [← Paired.length rw', sizeLine_eq]
      omega
    exact init_told T I1 ea hlen fun s2 J => ⟨.non, H1, J, rfl, q⟩
/-- C(e, ..) -/
theorem pmk_x {CX : CXT} {x : Str} {C fI : Addr} {k : Nat} {fd : FuncData} {ps : List Str} {sp : Sp} (T : XC2 X.K B newI iniI tl C) (iC : PySem.W.findIn X.K (.ref C) "__init__" = some (some (.ref fI)))
    (tI : PySem.W.typeIn X.K (.ref fI) = some (.type "function")) (F1 : FnOk X.prog X.w X.K X.mg X.base CX k fI fd ps sp) (hr : Room (k + 1) X.A) (hb : Binds X.K fd ps []) (hx : Passes CX X (fun _ _ _ => False)) (hg : Gl X x)
    (hm : X.mg x = some (.ref C)) (ha : PA X (e :: es) ta) (hdb : (x == ("__debug__" : Str)) = false := by decide) (he : starEach (e :: es) X.env = (false, eval e X.env) :: starEach es X.env := by rfl)
    (hpl : (backTo pos (starEach es X.env)).any (·.1) = false := by rfl) : PMk X (.Call (.Name x p) (e :: es) [] pos) (tMkO C sp [] ta) := by
  intro pins s σ H Q I h
  obtain ⟨nm, N, qn, bs, bm, hdct, sn, sub, ab, col, dd, k0, k1, k2, k3, k5, hC, hT⟩ := PySem.W.excInit_of I.kIn T.ini
  refine wpAny_Call_Name_kw (ld_glob I hg hm ?_ hdb)
  refine PySem.W.callWith_K (h₀ := X.base) I.ok.mod.kin T.kp (thn (ha.run pos pins s σ H _ I h) fun us s1 z => ?_) he hpl
  obtain ⟨vs, H1, I1, r1, hz, q1⟩ := z
  have X1 := I1.kIn
  refine ⟨X1, ?_⟩
  obtain ⟨nm, N, qn, bs, bm, hdct, sn, sub, ab, col, dd, k0, k1, k2, k3, k5, hC, hT⟩ := PySem.W.excInit_of X1 T.ini
  show wpAny _ _ (call (.ref C) us) _ _ _
  obtain ⟨hp, g, dr, tk, os⟩ := s1
  have up : hp.objs.size ≤ hp.objs.size + 1 := Nat.le_succ _
  have hq := q1 (hp.objs.size + 1) (I1.hok.fresh up)
  have kk : ∀ b o, hp.get? b = some o → ((hp.push (PySem.W.kdv_tup us)).push (PySem.HandSPX.excO C hp.objs.size)).get? b = some o :=
    fun b o e => Heap.get?_push_of_some _ (Heap.get?_push_of_some _ e)
  have hget : ((hp.push (PySem.W.kdv_tup us)).push (PySem.HandSPX.excO C hp.objs.size)).get? (hp.objs.size + 1) = some (PySem.HandSPX.excO C hp.objs.size) := by heap_get
  have I2 : Inv X pins σ (upd H1 (hp.objs.size + 1) (exo (hp.objs.size + 1) C none)) ⟨(hp.push (PySem.W.kdv_tup us)).push (PySem.HandSPX.excO C hp.objs.size), g, dr, tk, os⟩ :=
    I1.laid (t' := tk) (a := hp.objs.size + 1) (o := exo (hp.objs.size + 1) C none) (h' := (hp.push (PySem.W.kdv_tup us)).push (PySem.HandSPX.excO C hp.objs.size)) kk up (exo_ok hget)
  have r2 : Vals (V.ref (hp.objs.size + 1) :: (vs ++ [])) (Value.ref (hp.objs.size + 1) :: us) := .cons rfl (by rw [List.append_nil]; exact r1)
  have hl : (Value.ref (hp.objs.size + 1) :: us).length = ps.length := by
    rw [← r2.length]
    exact F1.len _ _ _ _ hq
  have hus : us.length ≤ sizeLine := by
    rw [← Paired.length r1, sizeLine_eq]
    omega
  have hbd := hb ⟨(hp.push (PySem.W.kdv_tup us)).push (PySem.HandSPX.excO C hp.objs.size), g, dr, tk, os⟩ (Value.ref (hp.objs.size + 1) :: us) I2.kIn (by rw [List.append_nil]; exact hl)
  rw [List.append_nil] at hbd
  have go := F1.run _ X.stack _ _ ⟨Value.ref (hp.objs.size + 1) :: us, []⟩ (Value.ref (hp.objs.size + 1) :: us) _ _ (fun _ _ _ => False) (hr.make C us []) (I2.env0.make C us []) hbd r2 hq
  obtain ⟨LB, oldI, bB, L, tlb⟩ := T.b.tl hT
  refine wpAny_call (own2 L tlb hC (PySem.W.looks_findIn X1 iC) (fun self => PySem.W.bind_fn X1 self tI) hus (codeAny_mono go fun r s2 z => ?_))
  cases r with
  | error er => exact hx pins σ _ _ er s2 I2 z
  | ok fl =>
    cases fl with
    | ret u =>
      obtain ⟨v, H2, os2, bare2, un2, hok2, rv, ev, d, fs, ea, ed, hd1, q2⟩ := z
      subst ev
      obtain ⟨h2, g2, d2, t2, os'⟩ := s2
      exact ⟨rv, mk_end (raises_own T.sub T.ty) I1 up kk un2 hok2 os2 bare2 ea ed hd1 q2⟩
    | next => exact False.elim z
    | brk => exact False.elim z
    | cont => exact False.elim z
end
theorem kyB : XB2 "KeyError" "LookupError.__new__" "KeyError.__init__" kyTl := ⟨kyStore, kyIni, by decide +kernel, _, _, _, PySem.F.excBase_LookupError, by decide +kernel, by decide +kernel, by decide +kernel, by decide +kernel⟩
end KY

set_option maxRecDepth 100000
set_option maxHeartbeats 2000000
open PySem PySem.Spec PyProof.Rows L2 KX
/-! ### a method of a made tuple: its object is remembered -/
namespace KX
section
variable {X : Cx}
/-- tuple(list): a new tuple, whose object has no dict -/
theorem call_tupleF : CallR X (.type "tuple") (fun xs H Q => ∃ p ys, xs = [.ref p] ∧ SqL X.K H p ys ∧ ∀ l o, H l = none → o.cls = .type "tuple" → o.dict = none → Q (.ref l) (upd H l (.frz o (.tup ys)))) := by
  intro pins s σ H xs us Q I r h
  obtain ⟨p, ys, rfl, hq, q⟩ := h
  obtain ⟨u, rfl, rx⟩ := vals1 r
  cases rx
  obtain ⟨its, rv, pl, hz⟩ := I.list hq
  have hn := rv.length
  refine call_tuple_list pl.isList (fun hp2 kp => ?_) (by simp only [List.size_toArray] <;> omega)
  have J : Inv X pins σ H { s with heap := hp2 } := I.kept (t' := s.toks) kp
  have J2 : Inv X pins σ (upd H hp2.objs.size (.frz { cls := .type "tuple", data := .seq its.toArray } (.tup ys))) { s with heap := hp2.push { cls := .type "tuple", data := .seq its.toArray } } :=
    J.laid (t' := s.toks) (fun b o e => Heap.get?_push_of_some _ e) (Nat.le_refl _) (show ObjOk X.prog X.w _ _ _ (.frz _ (.tup ys)) from ⟨Heap.get?_push_size _ rfl, hz, its, rv, IsTup.new _ _⟩)
  exact ⟨.ref hp2.objs.size, _, J2, rfl, q _ _ (J.hok.fresh (Nat.le_refl _)) rfl rfl⟩
def tBMF (T : String) (r : V → List V → Hp → VK → Prop) (to : TE) (t : TA) : TE := fun σ H Q => to σ H fun x H1 => (∃ p o u, x = .ref p ∧ H1 p = some (.frz o u) ∧ o.cls = .type T ∧ o.dict = none) ∧ t σ H1 fun xs H2 => r x xs H2 Q
variable {o e : Expr} {es : List Expr} {to : TE} {t : TA} {name : Str} {apos cpos : Pos} {T id : String} {r : V → List V → Hp → VK → Prop}
theorem pe_bmF (pa : PlainAttrs T) (slot : Slot T name id) (hty : typeOf (.builtin id) = pure (.type "method_descriptor")) (hm : MtR X id r) (ho : PE X o to) (ha : PA X (e :: es) t)
    (hbase : attributeBase o name X.env (eval o X.env) = eval o X.env := by rfl)
    (hfew : ((backTo cpos (starEach (e :: es) X.env)).all (fun x => !x.1) && (backToKw cpos (keywordEach [] X.env)).all (fun x => x.1.isSome)
      && decide ((e :: es).length + ([] : List Keyword).length + (if ([] : List Keyword).isEmpty then 0 else 1) < 30)) = true := by rfl)
    (hline : (apos.endLine == cpos.line) = true := by rfl) (hs : starEach (e :: es) X.env = (false, eval e X.env) :: starEach es X.env := by rfl) (hplain : (backTo cpos (starEach es X.env)).any (·.1) = false := by rfl) :
    PE X (.Call (.Attribute o name apos) (e :: es) [] cpos) (tBMF T r to t) := by
  refine ⟨fun pins s σ H Q I h => ?_⟩
  refine wpAny_Call_method_late hbase hfew hline rfl (thn (ho.run pins s σ H _ I h) fun v s1 ⟨x, H1, I1, r1, ty, q1⟩ => ?_)
  obtain ⟨p, ob, u, rfl, ef, hc, hd⟩ := ty
  cases r1
  obtain ⟨eg, _⟩ := (show ObjOk X.prog X.w H1 s1.heap p (.frz ob u) from I1.hok p _ ef)
  refine ⟨T, id, pa, slot, hty, ⟨ob, eg, hc⟩, fun a e => ?_, ?_⟩
  · cases e
    exact ⟨ob, eg, hd⟩
  · have hA := ha.run cpos pins s1 σ H1 _ I1 q1
    rw [hs] at hA ⊢
    refine Calls.callWith_builtin (by show (false || (backTo cpos (starEach es X.env)).any (·.1)) = false; rw [hplain] <;> rfl) (Calls.evalArgs_plain ?_)
    exact thn hA fun us s2 ⟨vs, H2, I2, r2, q2⟩ => hm pins s2 σ H2 (.ref p) vs (.ref p) us Q I2 rfl r2 q2
end
end KX

set_option maxRecDepth 100000
set_option maxHeartbeats 2000000
namespace KX
open PySem PySem.Spec PyProof.Rows L2 RZ
inductive MixD (X : Cx) : List ExceptHandler → List Cls → Prop
  | nil : MixD X [] []
  | dead {hds : List ExceptHandler} : MixD X hds []
  | plain {x : Str} {c : Value} {ts : Addr → Value → Option Addr → TS} {b0 : Stmt} {bs : List Stmt} {p1 p2 : Pos} {hds : List ExceptHandler} {l : List Cls} (hc : Names X x c)
      (hb : ∀ (a : Addr) (oe : Obj) (cls : Value) (d : Option Addr) (pn : List (Addr × Obj)), Zc cls d oe → (∃ vs, oe.data = .fields vs) → PSs (X.suite a ((a, oe) :: pn)) (b0 :: bs) (ts a cls d)) (r : MixD X hds l) :
      MixD X (.ExceptHandler (some (.Name x p1)) none (b0 :: bs) p2 :: hds) (⟨c, none, ts⟩ :: l)
  | named {x n : Str} {i : Nat} {c : Value} {ts : Addr → Value → Option Addr → TS} {b0 : Stmt} {bs : List Stmt} {p1 p2 : Pos} {hds : List ExceptHandler} {l : List Cls} (hi : X.N[i]? = some n) (hn : X.env.kindOf n = some .local) (hc : Names X x c)
      (hb : ∀ (a : Addr) (oe : Obj) (cls : Value) (d : Option Addr) (pn : List (Addr × Obj)), Zc cls d oe → (∃ vs, oe.data = .fields vs) → PSs (X.suite a ((a, oe) :: pn)) (b0 :: bs) (ts a cls d)) (r : MixD X hds l) :
      MixD X (.ExceptHandler (some (.Name x p1)) (some n) (b0 :: bs) p2 :: hds) (⟨c, some i, ts⟩ :: l)
section
variable {X : Cx} {body : List Stmt} {hd0 : ExceptHandler} {hds : List ExceptHandler} {l : List Cls} {pos : Pos} {tb : WX → TS} {Wo : WX}
theorem ps_try_mixD (hs : X.stack = X.env :: X.outer) (hf : X.env.frame = some X.env.locals) (nd : X.N.Nodup) (tk : Takes X Wo) (hWo : ∀ cls d σ G, ¬ Wo cls d σ G)
    (hb : ∀ (W : WX) (pn : List (Addr × Obj)) (xe : Value → Shared → Prop), Takes (X.tr pn xe) W → PassesOwn (model X.prog X.w) X.A X.env xe → PSs (X.tr pn xe) body (tb W))
    (hh : MixD X (hd0 :: hds) l) : PS X (.Try body (hd0 :: hds) [] [] pos) (fun D σ G => tb (wMix X.K Wo D l) D σ G) := by
  refine ⟨fun pins s σ G D I h => wpAny_Try_except ?_⟩
  have ok := I.ok
  have frm : X.A.frames = some (X.env :: X.outer) := ok.frames.trans (by rw [hs])
  refine wpAny_mono ((hb (wMix X.K Wo D l) (X.pn ++ pins) (fun e t1 => wpAny (model X.prog X.w) X.A (noteFrame e X.env) (fun _ t2 => wpAny (model X.prog X.w) X.A (setFlight e none) (fun _ t3 =>
    wpAny (model X.prog X.w) X.A (handleBy e X.env (hd0 :: hds)) (SP X pins D) X.xe t3) X.xe t2) X.xe t1) (fun u s1 caught => ?_) PassesOwn.looking).run [] s σ G D (I.toTry _) h) (fun fl s1 fin => ?_) (fun _ _ z => z)
  · obtain ⟨ea, B0, sI, pins1, σ1, G1, cls, d, rfl, IT, nb, up, sky, na, os, ag, wish⟩ := caught
    have I1 : Inv X pins σ1 G1 sI := IT.ofTry ok
    refine Sky.land Zc.steady frm hf (show Sky B0 (X.env :: X.outer) ea (Zc cls d) X.env.locals s1.heap by rw [← hs]; exact sky) fun h3 lands up3 => ?_
    have I3 : Inv X pins σ1 G1 { s1 with heap := h3 } := I1.landed nb lands.1 (up.trans up3) os ag
    obtain ⟨oe3, fv3, at3, z3, dat3⟩ := lands.there
    have off : ea ∉ frs (X.env :: X.outer) := fun hm => by
      obtain ⟨_, o1, e1, nf⟩ := lands.2.2.1.mem hm
      rw [at3] at e1
      cases e1
      exact nf _ dat3
    have offL : ea ≠ X.env.locals := fun z => off (List.mem_filterMap.mpr ⟨X.env, List.mem_cons_self, by rw [hf, z]⟩)
    have offF : ea ∉ X.fs := fun hm => by
      obtain ⟨en, hen, q⟩ := List.mem_filterMap.mp hm
      exact off (List.mem_filterMap.mpr ⟨en, List.mem_cons_of_mem _ hen, q⟩)
    have S3 := I3.suite at3 dat3 na offL offF
    have looks : PySem.W.Looks (model X.prog X.w) h3 (typeOf (.ref ea)) cls := fun A Q E t k q => wpAny_typeOf_ref (k _ _ at3) (by rw [z3.1]; exact q)
    have reads : ∀ {x : Str} {c : Value} {p1 : Pos} {Q : Value → Shared → Prop} {E : Value → Shared → Prop}, Names X x c → Q c { s1 with heap := h3 } → wpAny (model X.prog X.w) (X.A.mark (some (.ref ea))) (eval (.Name x p1) X.env) Q E { s1 with heap := h3 } := fun {x c p1 Q E} hc q => by
      obtain ⟨hg, hdb, hm | ⟨hm, hv, hnn⟩⟩ := hc
      · exact ld_glob (X := X.suite ea ((ea, oe3) :: (X.pn ++ pins))) S3 hg hm q hdb
      · exact ld_blt (X := X.suite ea ((ea, oe3) :: (X.pn ++ pins))) S3 hg hm hv q hnn hdb
    have each : ∀ {hl : List ExceptHandler} {cl : List Cls}, MixD X hl cl → wMix X.K Wo D cl cls d σ1 G1 → wpAny (model X.prog X.w) X.A (handleBy (.ref ea) X.env hl) (SP X pins D) X.xe { s1 with heap := h3 } := by
      intro hl cl mk
      induction mk with
      | dead =>
        intro wo
        exact absurd wo (hWo _ _ _ _)
      | nil =>
        intro wo
        refine wpAny_handleBy_nil ?_
        obtain ⟨_, _, _, ox, fx, T, _, _, atx, _, datx, tl1, _⟩ := id lands
        unfold PySem.passOn
        refine wpAny_bind (wpAny_field atx datx tl1 ?_)
        rw [if_neg (by simp)]
        have out : wpAny (model X.prog X.w) X.A (setFlight (.ref ea) X.env.frame) (fun _ t4 => wpAny (model X.prog X.w) X.A (throw (.ref ea) : Sem Flow) (SP X pins D) X.xe t4) X.xe { s1 with heap := h3 } := by
          rw [hf]
          refine HandSPX.setFlight_upZ lands fun h4 hx4 up4 => wpAny_throw (tk _ _ ⟨ea, B0, sI, pins, σ1, G1, cls, d, rfl, I1, nb, (up.trans up3).trans up4, .inr (.inr (by rw [hs]; exact hx4)), na, os, ag, wo⟩)
        first | exact wpAny_bind (wpAny_pure (wpAny_bind out)) | exact wpAny_bind out
      | @plain x c ts b0 bs p1 p2 hds2 l2 hc hb r ih =>
        intro wq
        obtain ⟨b, e1, yes, no⟩ := wq
        refine wpAny_handleBy_cons (codeAny_handlers_test (reads hc ((PySem.W.exm_one (M := model X.prog X.w) I3.kIn looks e1).here ?_))) (by intro q; cases q)
        cases b with
        | false => exact ih (no rfl)
        | true =>
          refine codeAny_handlers_suite (HandSPX.lands_againZ lands fun h4 lands4 up4 => ?_)
          obtain ⟨oe4, fv4, at4, z4, dat4⟩ := lands4.there
          have I4 : Inv X pins σ1 G1 { s1 with heap := h4 } := I1.landed nb lands4.1 ((up.trans up3).trans up4) os ag
          refine wpAny_mono ((hb ea oe4 cls d (X.pn ++ pins) z4 ⟨_, dat4⟩).run [] _ _ G1 _ (I4.suite at4 dat4 na offL offF) (yes rfl ea na)) (fun fl t6 fin => ?_) (fun _ _ z => z.elim)
          cases fl with
          | ret u =>
            obtain ⟨v6, σ6, G6, S6, r6, q6⟩ := fin
            exact ⟨v6, σ6, G6, S6.unsuite ok, r6, q6⟩
          | _ =>
            obtain ⟨σ6, G6, S6, q6⟩ := fin
            exact ⟨σ6, G6, S6.unsuite ok, q6⟩
      | @named x n i c ts b0 bs p1 p2 hds2 l2 hi hn hc hb r ih =>
        intro wq
        obtain ⟨b, e1, yes, no⟩ := wq
        refine wpAny_handleBy_cons (codeAny_handlers_test (reads hc ((PySem.W.exm_one (M := model X.prog X.w) I3.kIn looks e1).here ?_))) (by intro q; cases q)
        cases b with
        | false => exact ih (no rfl)
        | true =>
          refine codeAny_handlers_suite_as (HandSPX.lands_againZ lands fun h4 lands4 up4 => ?_)
          obtain ⟨oe4, fv4, at4, z4, dat4⟩ := lands4.there
          have I4 : Inv X pins σ1 G1 { s1 with heap := h4 } := I1.landed nb lands4.1 ((up.trans up3).trans up4) os ag
          refine store_ok (X := X.suite ea ((ea, oe4) :: (X.pn ++ pins))) (v := .ref ea) (I4.suite at4 dat4 na offL offF) nd hi (.inl hn) rfl (fun t5 S5 => ?_) (.inr hn)
          refine wpAny_mono ((hb ea oe4 cls d (X.pn ++ pins) z4 ⟨_, dat4⟩).run [] t5 _ G1 _ S5 (yes rfl ea na)) (fun fl t6 fin => ?_) (fun _ _ z => z.elim)
          have gone : ∀ {σ6 : L2.St} {G6 : Hp} {R : Shared → Prop}, Inv (X.suite ea ((ea, oe4) :: (X.pn ++ pins))) [] σ6 G6 t6 → (∀ t7, Inv X pins (σ6.set i none) G6 t7 → R t7) →
              wpAny (model X.prog X.w) X.A (do bindName X.env n .none; unbindBehindTheSuite X.env n p2) (fun _ t7 => R t7) X.xe t6 := fun {σ6 G6 R} S6 k => gone_ok (S6.unsuite ok) nd hi hn k
          cases fl with
          | ret u =>
            obtain ⟨v6, σ6, G6, S6, r6, q6⟩ := fin
            exact gone S6 fun t7 I7 => ⟨v6, _, _, I7, r6, q6⟩
          | _ =>
            obtain ⟨σ6, G6, S6, q6⟩ := fin
            exact gone S6 fun t7 I7 => ⟨_, _, I7, q6⟩
    exact each hh wish
  · cases fl with
    | next =>
      obtain ⟨σ6, G6, I6, q6⟩ := fin
      exact wpAny_execs_nil ⟨σ6, G6, I6.ofTry ok, q6⟩
    | ret u =>
      obtain ⟨v6, σ6, G6, I6, r6, q6⟩ := fin
      exact ⟨v6, σ6, G6, I6.ofTry ok, r6, q6⟩
    | _ =>
      obtain ⟨σ6, G6, I6, q6⟩ := fin
      exact ⟨σ6, G6, I6.ofTry ok, q6⟩
end
/-! ### a lambda without parameters that captures names, handed to a def and called there -/
section
open LamX NdefX
variable {X : Cx} {pins : List (Addr × Obj)} {σ : L2.St} {H : Hp} {s : Shared}
/-- az(), in the def that got the lambda as az -/
theorem pe_act0 {CXg : CXT} {Eg : XK} {Nz : List Str} {qz : Str} {sz : Scope} {g fl cl : Addr} {cdz pmz ctz : Value} {q : Str} {pars : Arguments} {bd : Expr} {scp : Scope} {cs : List (Str × Addr)} {k : Nat} {az : Str} {pn : List (Addr × Obj)} {xe : Value → Shared → Prop} {W : WX} {tb : XK → TE} {p1 p2 : Pos} {N fr : List Str} {ws : List (Option V)}
    (S : NScope N [] fr scp) (C : CellsAt cs fr ws s.heap H) (hf : s.heap.get? fl = some (PySem.W.kla_obj "<lambda>" q pars bd scp cs pmz cl ctz)) (hfn : H fl = none) (hfr : fl ∉ frs X.stack)
    (hbind : bindArgs (PySem.W.kla_fn "<lambda>" q pars bd scp cs pmz (.ref cl) ctz) ⟨[], []⟩ = pure [])
    (tk : Takes ((cxOf CXg X.prog X.w X.K X.mg X.base Nz qz sz g cdz X.A X.stack s H Eg).tr pn xe) W) (hr : Room (k + 1) (X.A.deeper (envOfC qz sz s.heap.objs.size g cdz)))
    (hbody : ∀ (A : Around) (outer : List PySem.Env) (s : Shared) (H : Hp) (E : XK), Room k (A.deeper (envF (lamF q pars scp cs cl) fl s.heap.objs.size)) → PE (ncx (L2.CX X.prog X.w) X.prog X.w X.K X.mg X.base N (lamF q pars scp cs cl) fl A outer s H E) bd (tb E))
    (hN : Nz[0]? = some az) (hv : Vis sz az) (hd : (az == ("__debug__" : Str)) = false := by decide) (hcd : (az == ("__classdict__" : Str)) = false := by decide) :
    PE ((cxOf CXg X.prog X.w X.K X.mg X.base Nz qz sz g cdz X.A X.stack s H Eg).tr pn xe) (.Call (.Name az p1) [] [] p2)
      (fun σZ HZ Qy => σZ[0]? = some (some (.ref fl)) ∧ HZ cl = some (CodeO cl q) ∧ tb (fun cls d H' => W cls d σZ H') (startF N [] ws) HZ Qy) := by
  refine ⟨fun pinsZ sZ σZ HZ Qy IZ h => ?_⟩
  obtain ⟨hs, hc, hb⟩ := h
  refine wpAny_Call_Name_kw (thn ((pe_var (pos := p1) (i := 0) hN hv hd hcd).run pinsZ sZ σZ HZ (fun v H1 => v = .ref fl ∧ H1 = HZ) IZ ⟨.ref fl, hs, rfl, rfl⟩) fun u s1 ⟨v, H1, I1, r1, q1⟩ => ?_)
  obtain ⟨ev, eH⟩ := q1
  subst ev
  rw [eH] at I1
  obtain rfl : u = Value.ref fl := r1
  have of1 : s1.heap.get? fl = some (PySem.W.kla_obj "<lambda>" q pars bd scp cs pmz cl ctz) := I1.base.keep fl _ hf hfn hfr (fun z => nomatch (show fl ∈ ([] : List Addr) from z))
  refine PySem.W.callWith_F0 (first := []) ⟨_, _, _, _, of1⟩ ?_
  show wpAny _ _ (call (.ref fl) []) _ _ _
  have un : Un (frs X.stack) [] H HZ s.heap s1.heap := I1.base
  have rc : codeAny (model X.prog X.w) (X.A.deeper (envOfC qz sz s.heap.objs.size g cdz)) (.call (.ref fl) ⟨[], []⟩) (CR (L2.CX X.prog X.w) (envOfC qz sz s.heap.objs.size g cdz :: X.stack) X.prog X.w HZ s1 Qy (fun cls d H' => W cls d σZ H')) s1 :=
    lam_run (k := k) S hbind hr I1.env0 of1 hc (cells_later C un) .nil rfl (fun hr2 => hbody _ _ _ _ _ hr2) hb
  refine wpAny_call (codeAny_mono rc fun r s' hq => ?_)
  cases r with
  | error e => exact tk e s' (XE.of_call I1 (fun cls d H' h => h) hq)
  | ok fw =>
    cases fw with
    | ret u => exact I1.after hq
    | next => exact False.elim hq
    | brk => exact False.elim hq
    | cont => exact False.elim hq
/-- the def g (one parameter, called in it): TT is what it makes of the lambda's reading -/
def GivesR (X : Cx) (k : Nat) (Nz : List Str) (xg : Str) (sz : Scope) (g : Addr) (cdz : Value) (bz : List Stmt) (az : Str) (qz : Str) (TT : (XK → Hp → VK → Prop) → Hp → VK → Prop) : Prop :=
  ∀ (fl cl : Addr) (sz0 : Shared) (Hz : Hp) (Qz : VK) (tl : XK → Hp → VK → Prop), Room k (X.A.deeper (envOfC xg sz sz0.heap.objs.size g cdz)) →
    (∀ (W : WX) (pn : List (Addr × Obj)) (xe : Value → Shared → Prop) (p1 p2 : Pos), Takes ((cxOf C8.CX0 X.prog X.w X.K X.mg X.base Nz xg sz g cdz X.A X.stack sz0 Hz C8.E0).tr pn xe) W →
      PE ((cxOf C8.CX0 X.prog X.w X.K X.mg X.base Nz xg sz g cdz X.A X.stack sz0 Hz C8.E0).tr pn xe) (.Call (.Name az p1) [] [] p2) (fun σZ HZ Qy => σZ[0]? = some (some (.ref fl)) ∧ HZ cl = some (CodeO cl qz) ∧ tl (fun cls d H' => W cls d σZ H') HZ Qy)) →
    Hz cl = some (CodeO cl qz) → TT tl Hz Qz →
    ∃ t, PSs (cxOf C8.CX0 X.prog X.w X.K X.mg X.base Nz xg sz g cdz X.A X.stack sz0 Hz C8.E0).nox bz t ∧ t { nx := fun _ H' => Qz .non H', rt := Qz } (L2.start Nz [.ref fl]) Hz
def tLamR (T : List (Addr × Str)) (TT : (XK → Hp → VK → Prop) → Hp → VK → Prop) (t : XK → TE) (js : List Nat) (N : List Str) : TE := fun σ H Q => Tabs T H ∧ ∀ H1, ExtN H H1 → Tabs T H1 → TT (fun E H' Q' => t E (startF N [] (js.map (slotAt σ))) H' Q') H1 Q
/-- the call xg(lambda: bd) -/
theorem pe_lamR {T : List (Addr × Str)} {TT : (XK → Hp → VK → Prop) → Hp → VK → Prop} {xg az : Str} {g cc Pz : Addr} {k : Nat} {pz : Arguments} {bz : List Stmt} {sz : Scope} {dVz kVz docz pmz cdz ctz ocz : Value} {anz odz : Option Addr} {slz : Array (Option Value)} {Nz N fr : List Str} {js : List Nat}
    {pars : Arguments} {bd : Expr} {scp : Scope} {tz : XK → TE} {pp lp ps : Pos} (hg : Gl X xg) (hm : X.mg xg = some (.ref g)) (hkp : PySem.W.keepIn X.K (.ref g) = true)
    (lk : X.K.lookup g = some ⟨ocz, odz, .func (PySem.W.fnOf xg xg pz bz sz dVz kVz docz pmz anz cdz ctz), slz⟩) (hcz : PySem.W.codeIn X.K cdz xg = true) (hbz : L2.Binds X.K (PySem.W.fnOf xg xg pz bz sz dVz kVz docz pmz anz cdz ctz) [az] []) (Sz : FnScope Nz [az] sz) (hNz : Nz[0]? = some az) (hvz : Vis sz az)
    (hG : GivesR X (k + 1) Nz xg sz g cdz bz az (X.env.qual ++ "<lambda>") TT)
    (TB : TabB X.base X.mg cc Pz) (hcd : X.env.code = .ref cc) (hmT : (Pz, X.env.qual ++ "<lambda>") ∈ T) (hone : ∀ p ∈ T, p.1 = Pz → p.2 = X.env.qual ++ "<lambda>") (hr : Room (k + 2) X.A) (S : NScope N [] fr scp)
    (hfree : ∀ y ∈ scp.names, y.2 = .free → X.env.scope.names.lookup y.1 = some .cell ∨ X.env.scope.names.lookup y.1 = some .free) (hfr : ∀ y ∈ fr, (y, NameKind.free) ∈ scp.names) (hjs : js.map (fun j => X.N[j]?) = fr.map some)
    (hdef : defaultsOf pars X.env = ([], []))
    (hbind : ∀ (q : Str) (cl : List (Str × Addr)) (pm cv ctv : Value), bindArgs (PySem.W.kla_fn "<lambda>" q pars bd scp cl pm cv ctv) ⟨[], []⟩ = pure [])
    (hbd : ∀ (A : Around) (outer : List PySem.Env) (s : Shared) (H : Hp) (E : XK) (fl cl : Addr), Room k (A.deeper (envF (lamF (X.env.qual ++ "<lambda>") pars scp (cloFrom X.env.cells scp.names []) cl) fl s.heap.objs.size)) →
      PE (ncx (L2.CX X.prog X.w) X.prog X.w X.K X.mg X.base N (lamF (X.env.qual ++ "<lambda>") pars scp (cloFrom X.env.cells scp.names []) cl) fl A outer s H E) bd (tz E))
    (hdb : (xg == ("__debug__" : Str)) = false := by decide) (hda : (az == ("__debug__" : Str)) = false := by decide) (hdc : (az == ("__classdict__" : Str)) = false := by decide) :
    PE X (.Call (.Name xg pp) [.Lambda pars bd scp lp] [] ps) (tLamR T TT tz js N) := by
  refine ⟨fun pn sh σ G Qz J hyp => ?_⟩
  obtain ⟨tabs, hyp⟩ := hyp
  refine wpAny_Call_Name_kw (ld_glob J hg hm ?_ hdb)
  refine PySem.W.callWith_K (h₀ := X.base) J.ok.mod.kin hkp ?_ (by rfl) (by rfl)
  show wpAny _ _ (spliced ((false, eval (.Lambda pars bd scp lp) X.env) :: backTo ps (starEach [] X.env))) _ _ sh
  have hfr2 : ∀ y ∈ scp.names, y.2 = .free → ∃ c, X.env.cells.lookup y.1 = some c := fun y hy e => (hfree y hy e).elim (fun z => J.ok.has _ (.inl z)) fun z => J.ok.has _ (.inr z)
  refine Calls.spliced_cons (lam_make2 J TB hcd hmT hone tabs hdef hfr2 fun fl cl pm2 ct2 G1 sh1 J1 eN T1 hfl hfn hfr' hco => ?_)
  refine Calls.spliced_nil ⟨J1.kIn, ?_⟩
  have cp := cells_of J1 (Caps.made J1.ok hfree hfr hjs)
  have ran : codeAny (model X.prog X.w) X.A (.call (.ref g) ⟨[.ref fl], []⟩) (CR C8.CX0 X.stack X.prog X.w G1 sh1 Qz C8.E0) sh1 := by
    refine run_ofS (N := Nz) (ps := [az]) (us := [.ref fl]) (vs := [.ref fl]) lk hcz Sz hr J1.env0 (hbz sh1 [.ref fl] J1.kIn rfl) (.cons rfl .nil) rfl fun hr2 => ?_
    obtain ⟨t', ht', hq'⟩ := hG fl cl sh1 G1 Qz (fun E H' Q' => tz E (startF N [] (js.map (slotAt σ))) H' Q') hr2 (fun W pn2 xe p1 p2 tk => pe_act0 S cp hfl hfn hfr' (hbind _ _ _ _ _) tk hr2 (fun A outer s H E hr3 => hbd A outer s H E fl cl hr3) hNz hvz hda hdc) hco (hyp G1 eN T1)
    exact ⟨t', ht'.nox, hq'⟩
  refine wpAny_call (codeAny_mono ran fun res sh2 hq => ?_)
  cases res with
  | error e => exact (show False from hq).elim
  | ok fw =>
    cases fw with
    | ret u => exact J1.after hq
    | next => exact False.elim hq
    | brk => exact False.elim hq
    | cont => exact False.elim hq
end
end KX

set_option maxRecDepth 100000
set_option maxHeartbeats 4000000
namespace KX
open PySem PySem.Spec PyProof.Rows L2
/-! ### tuple * number, the empty tuple too -/
theorem tuple_mul0 (l : Addr) (n : Nat) (dd : Option Addr) (sl : Array (Option Value)) (x : Int) (u : Tok) (c0 : (decide (x < -(2 ^ 63)) || decide (x ≥ 2 ^ 63)) = false) :
    Meets (Builtin.«tuple.__mul__» ⟨[.ref l, .int x u], []⟩) (fun _ R s => s.heap.get? l = some { cls := .type "tuple", dict := dd, data := .seq #[] n, slots := sl } ∧ R (.ok (.ret (Value.ref l))) s) :=
  .of_wp fun prog w A R s h => by
    obtain ⟨hp, g, d, tk, os⟩ := s
    obtain ⟨hl, h⟩ := h
    have c1 : ((#[] : Array Value).isEmpty || x == 1) = true := rfl
    have f1 := AutoSeq1.idx_int
    wp_walk using wpAny_loadPart' hl
    refine wpAny_ite_false (decide_eq_false (by rw [c0]; exact Bool.false_ne_true)) ?_
    wp_walk using wpAny_loadPart' hl
    exact ⟨_, rfl, h⟩
def rRepE (K : PySem.W.Frag) : R2 := fun x y H Q => ∃ l k xs, x = .ref l ∧ y = .int k ∧ SqT K H l xs ∧ 2 ≤ k ∧ k ≤ 1000 ∧ xs.length ≤ 1000 ∧ (xs = [] → Q (.ref l) H) ∧ (xs ≠ [] → ∀ p, H p = none → Q (.ref p) (upd H p (.tup (List.replicate k.toNat xs).flatten)))
theorem op_repE {X : Cx} : OpR X (binaryOp .Mult) (rRepE X.K) := by
  intro pins s σ H x y v u Q I rx ry h
  obtain ⟨l, k, xs, rfl, rfl, hT, h1, h2, hz, q0, q1⟩ := h
  by_cases hne : xs = []
  · subst hne
    cases rx
    obtain ⟨t, rfl⟩ := ry
    obtain ⟨its, r, ⟨⟨cls, dd, data, sl⟩, ho, hc, n, hd⟩, hs⟩ := I.tuple hT
    simp only at hc hd
    subst hc hd
    cases r
    have c0 : (decide (k < -(2 ^ 63)) || decide (k ≥ 2 ^ 63)) = false := by
      rw [decide_eq_false (by omega), decide_eq_false (by omega)] <;> rfl
    exact wpAny_binaryOp_repeat_ref (T := "tuple") (U := "int") (by decide) ⟨_, ho, rfl⟩ (fun s' => typeIs_int s' k t) noFill_tuple_mul F.fills_int_mul F.slot_int_rmul repeat_tuple F.slot_int_index.lookup
      (call_meets F.slot_int_rmul (typeIs_int s k t) F.entry_int_rmul (F.args_int_rmul_2 _ _) (int_rmul_tuple k t l #[] n dd sl)
        ⟨ho, rfl, ⟨_, ho, rfl⟩, call_meets F.slot_tuple_mul ⟨_, ho, rfl⟩ F.entry_tuple_mul (F.args_tuple_mul_2 _ _) (tuple_mul0 l n dd sl k t c0) ⟨ho, ⟨.ref l, H, I, rfl, q0 rfl⟩⟩⟩)
  · exact op_repT pins s σ H (.ref l) (.int k) v u Q I rx ry ⟨l, k, xs, rfl, rfl, hT, hne, h1, h2, hz, q1 hne⟩
section
variable {l : Addr} {P : PSt} {K : PySem.W.Frag} {ta tb : TE} {ds : List PyData}
theorem gd_repE {k : Int} (kp : Kp l P) (h : GD l P (· = .tuple ds) ta) (hb : GI l P (· = k) tb) (k2 : 2 ≤ k) (k1 : k ≤ 1000) (hz : ds.length ≤ 1000) :
    GD l P (· = .tuple (List.replicate k.toNat ds).flatten) (tOp (rRepE K) ta tb) := fun σ H Q st p q =>
  h σ H _ st p fun H1 v e s k1' st1 x => hb σ H1 _ st1 (kp _ _ _ k1' st1 p) fun H2 i hb k2' st2 => by
    subst s hb
    obtain ⟨a, xs, rfl, na, ea, hx⟩ := dx_tupOf (x.up k2'.same)
    have hl := hx.len
    refine ⟨a, i, xs, rfl, rfl, .inl (.inl ea), k2, k1, by omega, fun z => ?_, fun _ b nb => q _ _ _ rfl ((k1'.trans k2').new nb) (st2.new nb) (dx_tup nb st2 (dxs_rep hx _))⟩
    subst z
    have e : ds = [] := List.eq_nil_of_length_eq_zero (by simpa using hl.symm)
    subst e
    have e2 : (List.replicate i.toNat ([] : List PyData)).flatten = [] := by simp
    rw [e2] at q
    exact q _ _ _ rfl (k1'.trans k2') st2 (x.up k2'.same)
end
end KX

set_option maxRecDepth 100000
set_option maxHeartbeats 4000000
namespace KX
open PySem PySem.Spec PyProof.Rows L2 PySem.W
/-! ### sorted(t), t a tuple of alike data -/
section
variable {prog : Program} {w : World} {A : Around} {E : Value → Shared → Prop} {s : Shared} {β : Type} {us : List Value} {ps : List β} {code : β → PyData} {Rz : Value → β → Prop}
theorem each_later {h h' : Heap} (kp : ∀ b o, h.get? b = some o → h'.get? b = some o) (er : EachIs (fun v b => ∃ as, Reads h v (code b) as) us ps) : EachIs (fun v b => ∃ as, Reads h' v (code b) as) us ps :=
  er.mono fun _ _ ⟨as, r⟩ => ⟨as, PyProof.Rows.Reads.keeps kp r⟩
theorem sorted_tupD {tp : Addr} {ob : Obj} {n : Nat} {Qz : Value → Shared → Prop} (ho : s.heap.get? tp = some ob) (hc : ob.cls = .type "tuple") (hd : ob.data = .seq us.toArray n) (e : EachIs Rz us ps) (er : EachIs (fun v b => ∃ as, Reads s.heap v (code b) as) us ps)
    (hal : AllAlike (ps.map code)) (hk : Sortable (ps.map code)) (hL : ps.length ≤ sizeLine) (hu : ∀ b, b ∈ ps → A.units + 2 + (code b).depth < cLine)
    (hq : ∀ (h' : Heap) (out : List Value), (∀ b o, s.heap.get? b = some o → h'.get? b = some o) → out.length = ps.length → EachIs Rz out (ps.mergeSort (dataLe false code)) →
      Qz (.ref h'.objs.size) { s with heap := sortedHeap (h'.push (seqObj "list" us.toArray 0)) h'.objs.size us (List.toArray out) }) :
    wpAny (model prog w) A (call (.builtin "sorted") [.ref tp]) Qz E s := by
  have hlen : us.length ≤ sizeLine := by rw [e.length]; exact hL
  refine call_function_entry_kw kind_sorted plain_sorted entry_sorted (args_sorted1 _) ?_
  unfold Builtin.«sorted»
  refine wpAny_bind (m := checkCount "sorted" 1 1 _) (wpAny_pure ?_)
  refine wpAny_bind (wpAny_collect_seq tp (.inr rfl) ho hc hd (fun h1 kp => ?_) (by rw [List.size_toArray]; exact hlen))
  rw [List.toList_toArray]
  refine wpAny_bind (wpAny_newList ?_ hlen)
  have at1 : (h1.push (seqObj "list" us.toArray 0)).get? h1.objs.size = some (seqObj "list" us.toArray 0) := Heap.get?_push_size _ rfl
  have old1 : ∀ b o, s.heap.get? b = some o → (h1.push (seqObj "list" us.toArray 0)).get? b = some o := fun b o q => Heap.get?_push_of_some _ (kp b o q)
  refine wpAny_bind (wpAny_holding (wpAny_call_entry_kw slot_list_sort ⟨_, at1, rfl⟩ entry_list_sort ?body (args_list_sort _)))
  case body =>
    show wpAny (model prog w) A.in1.in1 (Builtin.«list.sort» ⟨[.ref h1.objs.size], []⟩) _ _ { s with heap := h1.push (seqObj "list" us.toArray 0) }
    have er' : EachIs (fun v b => ∃ as, Reads (sortingHeap (h1.push (seqObj "list" us.toArray 0)) h1.objs.size us) v (code b) as) us ps :=
      each_later (fun b o q => sortingHeap_old (Nat.ne_of_lt (Heap.lt_size (kp b o q))) (old1 b o q)) er
    refine list_sort_vals (s := { s with heap := h1.push (seqObj "list" us.toArray 0) }) at1 (SortsAt.data (s := { s with heap := sortingHeap (h1.push (seqObj "list" us.toArray 0)) h1.objs.size us }) (each_map (R := fun v d => ∃ as, Reads (sortingHeap (h1.push (seqObj "list" us.toArray 0)) h1.objs.size us) v d as) code er') hal hk (bound_map hu)) hlen ?_
    exact ⟨.none, rfl, wpAny_pure ⟨_, rfl, hq h1 _ kp (by rw [sortVals_length false rfl]; exact e.length) (sortVals_data false e er' hal)⟩⟩
end
section
variable {X : Cx}
/-- sorted(t), t a tuple of alike data -/
def rSortT {β : Type} (K : PySem.W.Frag) (enc : β → PyData) : List V → Hp → VK → Prop := fun vs H Q => ∃ (a : Addr) (bs : List (V × β)), vs = [.ref a] ∧ SqT K H a (bs.map (·.1)) ∧ (∀ b ∈ bs, Dp K H b.1 (enc b.2)) ∧ AllAlike (bs.map fun b => enc b.2) ∧ Sortable (bs.map fun b => enc b.2) ∧
  (∀ b ∈ bs, (enc b.2).depth ≤ 50) ∧ ∀ p, H p = none → Q (.ref p) (L2.upd H p (.lst ((bs.mergeSort (dataLe false fun b => enc b.2)).map (·.1))))
theorem cr_sortT {β : Type} {enc : β → PyData} {k : Nat} (hr : Room k X.A) : CallR X (.builtin "sorted") (rSortT X.K enc) := by
  intro pins s σ H vs us Q I r h
  obtain ⟨a, bs, e, hS, hd, hal, hk, hu, q⟩ := h
  subst e
  obtain ⟨u, rfl, ru⟩ := vals1 r
  cases ru
  obtain ⟨its, rv, ⟨ob, ho, hc, n, hdat⟩, hz⟩ := I.tuple hS
  have hlen := rv.length
  rw [List.length_map] at hlen hz
  have er : EachIs (fun v (b : V × β) => ∃ as, Reads s.heap v (enc b.2) as) its bs := each_pairs (by omega) fun i u b e f => by
    obtain ⟨u', e', ru⟩ := rv.get (i := i) (x := b.1) (by rw [List.getElem?_map, f]; rfl)
    rw [e] at e'
    cases e'
    exact Dp.reads I (enc b.2) b.1 u (hd b (List.mem_of_getElem? f)) ru
  have eR : EachIs (fun v (b : V × β) => RelV b.1 v) its bs := each_pairs (by omega) fun i u b e f => by
    obtain ⟨u', e', ru⟩ := rv.get (i := i) (x := b.1) (by rw [List.getElem?_map, f]; rfl)
    rw [e] at e'
    cases e'
    exact ru
  have hun := hr.un
  refine sorted_tupD (code := fun b : V × β => enc b.2) ho hc hdat eR er hal hk (by omega) (fun b hb => by have := hu b hb; omega) fun h1 out kp hl he => ?_
  have rel : ∀ {ws : List Value} {ps : List (V × β)}, EachIs (fun v (b : V × β) => RelV b.1 v) ws ps → Vals (ps.map (·.1)) ws := by
    intro ws ps e
    induction e with
    | nil => exact .nil
    | cons h t ih => exact .cons h ih
  have at1 : (h1.push (seqObj "list" its.toArray 0)).get? h1.objs.size = some (seqObj "list" its.toArray 0) := Heap.get?_push_size _ rfl
  obtain ⟨ep, hep⟩ := sortedHeap_at (out := out.toArray) at1
  have J : Inv X pins σ H { s with heap := h1 } := I.kept (t' := s.toks) kp
  have old : ∀ b o, h1.get? b = some o → (sortedHeap (h1.push (seqObj "list" its.toArray 0)) h1.objs.size its out.toArray).get? b = some o := fun b o q => by
    have lt := Heap.lt_size q
    rw [sortedHeap_old (Nat.ne_of_lt lt) (by rw [size_push']; exact Nat.lt_succ_of_lt lt)]
    exact Heap.get?_push_of_some _ q
  refine ⟨.ref h1.objs.size, _, J.laid (t' := s.toks) old (Nat.le_refl _) (o := .lst ((bs.mergeSort (dataLe false fun b => enc b.2)).map (·.1))) ⟨?_, out, ep, rel he, hep⟩, rfl, q _ (J.hok.fresh (Nat.le_refl _))⟩
  rw [List.length_map, List.length_mergeSort]
  omega
end
end KX

set_option maxRecDepth 100000
set_option maxHeartbeats 4000000
namespace U1
open PySem PySem.Spec PyProof.Rows L2 KX
abbrev sIniU : Stmt := (clsB (topS 4)).getD 0 (.Pass ⟨0, 0, 0, 0⟩)
abbrev sAmg : Stmt := topS 12
abbrev sCR : Stmt := topS 31
abbrev sCN : Stmt := topS 32
/-- the class UnknownName, at U; its __init__ at fU -/
structure UN (K : PySem.W.Frag) (mg : Str → Option Value) (U fU : Addr) (gU : FuncData) : Prop where
  g : mg "UnknownName" = some (.ref U)
  x : KY.XC2 K "KeyError" "LookupError.__new__" "KeyError.__init__" kyTl U
  i : XI K U
  no : PySem.W.findIn K (.ref U) "name" = some none
  iC : PySem.W.findIn K (.ref U) "__init__" = some (some (.ref fU))
  tI : PySem.W.typeIn K (.ref fU) = some (.type "function")
  vV : PySem.W.findCls K (.type "KeyError") (.type "type") "__init__" = some (.val (.builtin "KeyError.__init__"))
  F : Fun K "__init__" "UnknownName.__init__" sIniU fU gU
  b : Binds K gU ["self", "name"] []
/-- an own class over ValueError without an __init__ -/
structure OC (K : PySem.W.Frag) (mg : Str → Option Value) (x : Str) (R : Addr) : Prop where
  g : mg x = some (.ref R)
  q : PySem.W.excIn K R [.type "ValueError", .type "Exception", .type "BaseException", .type "object"] "ValueError.__new__" = true
  kp : PySem.W.keepIn K (.ref R) = true
  sub : PySem.W.subIn K (.ref R) (.type "BaseException") = some true
  ty : PySem.W.typeIn K (.ref R) = some (.type "type")
def spIniU (U : Addr) : Sp := fun vs H Q _ => ∃ a v, vs = [.ref a, v] ∧ H a = some (exo a U none) ∧ ∀ dx, H dx = none → dx ≠ a → Q .non (upd (upd H dx (exd dx [("name", v)])) a (exo a U (some dx)))
theorem scIniU : FnScope ["self", "name"] ["self", "name"] (defScope sIniU) := ⟨rfl, rfl, rfl, by decide +kernel, rfl, by decide +kernel, by decide +kernel⟩
/-- the data d is one of the texts -/
def amg (ns : List Str) (d : PyData) : Bool := ns.any fun n => isSt n d
def spAmg (U : Addr) : Sp := fun vs H Q E => ∃ (kv nv : V) (ns : List Str), vs = [kv, nv] ∧ Dx H kv (.tuple (ns.map .str)) ∧
  ((∃ a xs ds, nv = .ref a ∧ H a = some (.tup xs) ∧ Dxs H xs ds ∧ (((∀ d ∈ ds, amg ns d = true) ∧ ∀ H', Same H H' → Q .non H') ∨
      ∃ (i : Nat) (v : V) (d : PyData), xs[i]? = some v ∧ ds[i]? = some d ∧ amg ns d = false ∧ (∀ (j : Nat) (e : PyData), j < i → ds[j]? = some e → amg ns e = true) ∧ ∀ H' dd, Same H H' → H' dd = some (.xd [("name", v)]) → E (.ref U) (some dd) H')) ∨
    ∃ d, Dx H nv d ∧ (∀ ds, d ≠ .tuple ds) ∧ ∀ H' dd, Same H H' → H' dd = some (.xd [("name", nv)]) → E (.ref U) (some dd) H')
theorem scAmg : FnScope ["known", "names", "name"] ["known", "names"] (defScope sAmg) := ⟨rfl, rfl, rfl, by decide +kernel, rfl, by decide +kernel, by decide +kernel⟩
section
variable {P : Program} {w : World} {K : PySem.W.Frag} {mg : Str → Option Value} {base : Heap} {U fU : Addr} {gU : FuncData}
theorem ok_iniU (B : Bl mg) (T : UN K mg U fU gU) : FnOk P w K mg base CX0 1 fU gU ["self", "name"] (spIniU U) := by
  refine T.F.ok scIniU (fun vs H Q E h => ?_) (fun cdv A outer s H vs Q E hr h => ?_)
  · obtain ⟨a, v, rfl, _⟩ := h
    rfl
  · obtain ⟨a, v, rfl, ea, q⟩ := h
    refine ⟨_, pss_cons (ps_expr (KY.pe_bini (newI := "LookupError.__new__") (tl := kyTl) (by rfl) B.kye T.vV (pa_cons (pv 0) (pa_cons (pv 1) pa_nil))))
      (pss_one (KY.ps_fst (B := "KeyError") (newI := "LookupError.__new__") (iniI := "KeyError.__init__") (tl := kyTl) (pv 0) (pv 1))), ?_⟩
    refine ⟨.ref a, rfl, v, rfl, a, U, [v], rfl, by simp, T.x, ea, ?_⟩
    exact ⟨v, rfl, .ref a, rfl, a, U, rfl, T.x, T.no, ea, fun dx n ne => q dx n ne⟩
theorem ok_amg {f : Addr} {fd : FuncData} (B : Bl mg) (T : UN K mg U fU gU) (D : Df K mg "check_among" sAmg ["known", "names"] f fd) : FnOk P w K mg base (L2.CX P w) 3 f fd ["known", "names"] (spAmg U) := by
  have GI : FnOk P w K mg base CX0 1 fU gU _ (spIniU U) := ok_iniU B T
  refine D.F.okX scAmg (fun vs H Q E h => ?_) (fun cdv A outer s H vs Q E hr h => ?_)
  · obtain ⟨kv, nv, ns, rfl, _⟩ := h
    rfl
  · obtain ⟨kv, nv, ns, rfl, hk, q⟩ := h
    have nd := scAmg.nd
    refine ⟨_, pss_cons (ps_if (pt_not (pt_val (pe_isD (T := "tuple") (x := "tuple") (by decide +kernel) B.isi B.tuple (by decide +kernel) (pv 1) (by rfl) (by rfl))))
        (pss_one (ps_raise rfl (takes_of rfl rfl rfl rfl) (KY.pmk_x T.x T.iC T.tI GI hr T.b pass0 (by rfl) T.g (pa_cons (pv 1) pa_nil)))) pss_nil)
      (pss_one (ps_for (passes_of rfl) rfl (pi_tup (pv 1)) (pg_name (i := 2) nd rfl (.inl rfl))
        (pss_one (ps_if (pt_cmpR (op_ninA hr.units) (pv 2) (pv 0) (by rfl)) (pss_one (ps_raise rfl (takes_of rfl rfl rfl rfl) (KY.pmk_x T.x T.iC T.tI GI hr T.b pass0 (by rfl) T.g (pa_cons (pv 2) pa_nil)))) pss_nil)))), ?_⟩
    rcases q with ⟨a, xs, ds, rfl, ea, hx, q⟩ | ⟨d, hd, nt, q⟩
    · have hd : Dx H (.ref a) (.tuple ds) := .tup ea hx
      refine ⟨.ref a, rfl, rfl, _, hd, _, rfl, ?_⟩
      rw [isa_tupleT]
      refine iteF ⟨.ref a, rfl, a, rfl, ⟨_, .inl (.inl ea)⟩, ?_⟩
      cases hk with
      | @tup t ks _ et hks =>
      have ek := vals_strsD hks
      have turn : ∀ {x : V} {d : PyData} {G : Hp} {o : Option V} {Qt : Bool → Hp → Prop}, Same H G → Dx G x d → Qt (!amg ns d) G → tTest (tOp (rInA K not) (tVar 2) (tVar 0)) [some (.ref t), some (.ref a), some x] G Qt := fun {x d G o Qt} sG hx k =>
        ⟨x, rfl, .ref t, rfl, d, t, ns, hx, rfl, .inl (.inl (by rw [← ek]; exact sG _ _ et)), _, rfl, k⟩
      rcases q with ⟨all, q⟩ | ⟨i, v, d, ev, ed, bad, good, q⟩
      · refine for_tup (K := K) (xs := xs) (fun j σ G => Same H G ∧ ∃ o : Option V, σ = [some (.ref t), some (.ref a), o]) ⟨Same.refl H, none, rfl⟩ (fun j σ G _ hG => .inl (.inl (hG.1 _ _ ea))) (fun j x σ G hxj hG => ?_) (fun σ G hG => ?_)
        · obtain ⟨sG, o, rfl⟩ := hG
          obtain ⟨e, ee, hxe⟩ := hx.get' hxj
          refine turn (o := o) sG (hxe.up sG) ?_
          rw [all e (List.mem_of_getElem? ee)]
          exact iteF ⟨sG, _, rfl⟩
        · exact q G hG.1
      · refine for_tup (K := K) (xs := xs) (fun j σ G => j ≤ i ∧ Same H G ∧ ∃ o : Option V, σ = [some (.ref t), some (.ref a), o]) ⟨Nat.zero_le _, Same.refl H, none, rfl⟩ (fun j σ G _ hG => .inl (.inl (hG.2.1 _ _ ea))) (fun j x σ G hxj hG => ?_) (fun σ G hG => ?_)
        · obtain ⟨ji, sG, o, rfl⟩ := hG
          obtain ⟨e, ee, hxe⟩ := hx.get' hxj
          refine turn (o := o) sG (hxe.up sG) ?_
          by_cases lt : j < i
          · rw [good j e lt ee]
            exact iteF ⟨lt, sG, _, rfl⟩
          · have e1 : j = i := by omega
            subst e1
            rw [ev] at hxj
            rw [ed] at ee
            cases hxj
            cases ee
            rw [bad]
            refine iteT ⟨v, rfl, by simp, fun b nb => ⟨b, v, rfl, upd_same, fun dx ndx ne => ⟨rfl, dx, [("name", v)], upd_same, ?_, ?_, ?_⟩⟩⟩
            · rw [upd_ne ne, upd_same]
            · rw [upd_ne ne] at ndx
              exact ndx
            · rw [upd_ne ne] at ndx
              refine q _ dx (fun c u z => ?_) upd_same
              have z := sG _ _ z
              rw [upd_ne (ne_of_none z ndx), del_ne (ne_of_none z nb), upd_ne (ne_of_none z nb), upd_ne (ne_of_none z ndx), upd_ne (ne_of_none z nb)]
              exact z
        · have h1 := hG.1
          have h2 := (List.getElem?_eq_some_iff.mp ev).1
          omega
    · refine ⟨nv, rfl, rfl, d, hd, _, rfl, ?_⟩
      rw [isa_tuple]
      cases d with
      | tuple ds => exact absurd rfl (nt ds)
      | _ =>
        refine iteT ⟨nv, rfl, by simp, fun a na => ⟨a, nv, rfl, upd_same, fun dx ndx ne => ⟨rfl, dx, [("name", nv)], upd_same, ?_, ?_, ?_⟩⟩⟩
        · rw [upd_ne ne, upd_same]
        · rw [upd_ne ne] at ndx
          exact ndx
        · rw [upd_ne ne] at ndx
          refine q _ dx (fun b o e => ?_) upd_same
          rw [upd_ne (ne_of_none e ndx), del_ne (ne_of_none e na), upd_ne (ne_of_none e na), upd_ne (ne_of_none e ndx), upd_ne (ne_of_none e na)]
          exact e
def spCN (U : Addr) : Sp := fun vs H Q E => ∃ (v nv : V) (rs : List Rec), vs = [v, nv] ∧ Dx H v (.tuple (rs.map encR)) ∧ rs.length ≤ 1000 ∧
  ((∃ a xs ds, nv = .ref a ∧ H a = some (.tup xs) ∧ Dxs H xs ds ∧ (((∀ d ∈ ds, amg (rs.map (·.nm)) d = true) ∧ ∀ H', Same H H' → Q .non H') ∨
      ∃ (i : Nat) (v : V) (d : PyData), xs[i]? = some v ∧ ds[i]? = some d ∧ amg (rs.map (·.nm)) d = false ∧ (∀ (j : Nat) (e : PyData), j < i → ds[j]? = some e → amg (rs.map (·.nm)) e = true) ∧ ∀ H' dd, Same H H' → H' dd = some (.xd [("name", v)]) → E (.ref U) (some dd) H')) ∨
    ∃ d, Dx H nv d ∧ (∀ ds, d ≠ .tuple ds) ∧ ∀ H' dd, Same H H' → H' dd = some (.xd [("name", nv)]) → E (.ref U) (some dd) H')
theorem scCN : FnScope ["rowset", "names"] ["rowset", "names"] (defScope sCN) := ⟨rfl, rfl, rfl, by decide +kernel, rfl, by decide +kernel, by decide +kernel⟩
theorem ok_cn {f fA fN : Addr} {fd fdA fdN : FuncData} (B : Bl mg) (cn : ∃ t, mg "NAME" = some (.int 0 t)) (T : UN K mg U fU gU) (D : Df K mg "check_names" sCN ["rowset", "names"] f fd) (DA : Df K mg "check_among" sAmg ["known", "names"] fA fdA) (DN : Df K mg "names_of" sNO ["rows"] fN fdN) :
    FnOk P w K mg base (L2.CX P w) 4 f fd ["rowset", "names"] (spCN U) := by
  have GA : FnOk P w K mg base (L2.CX P w) 3 fA fdA _ (spAmg U) := ok_amg B T DA
  have GN : FnOk P w K mg base CX0 3 fN fdN _ spNO := (ok_no B cn DN).mono (by decide)
  refine D.F.okX scCN (fun vs H Q E h => ?_) (fun cdv A outer s H vs Q E hr h => ?_)
  · obtain ⟨v, nv, rs, rfl, _⟩ := h
    rfl
  · obtain ⟨v, nv, rs, rfl, hd, hl, q⟩ := h
    refine ⟨_, pss_one (ps_expr (pe_callS GA hr (by rfl) DA.g DA.F.kp DA.b (fun σ => passAt (takes_of rfl rfl rfl rfl) σ) (pa_cons (pe_call GN hr (by rfl) DN.g DN.F.kp DN.b .nil pass0 (pa_cons (pv 0) pa_nil)) (pa_cons (pv 1) pa_nil)))), ?_⟩
    refine ⟨v, rfl, v, rs, rfl, hd, hl, fun G p sG hp => ⟨nv, rfl, .ref p, nv, rs.map (·.nm), rfl, hp, ?_⟩⟩
    rcases q with ⟨a, xs, ds, rfl, ea, hx, q⟩ | ⟨d, hd2, nt, q⟩
    · refine .inl ⟨a, xs, ds, rfl, sG _ _ ea, hx.up sG, ?_⟩
      rcases q with ⟨all, q⟩ | ⟨i, v, d, ev, ed, bad, good, q⟩
      · exact .inl ⟨all, fun G2 s2 => q G2 (sG.trans s2)⟩
      · exact .inr ⟨i, v, d, ev, ed, bad, good, fun G2 dd s2 e => q G2 dd (sG.trans s2) e⟩
    · exact .inr ⟨d, hd2.up sG, nt, fun G2 dd s2 e => q G2 dd (sG.trans s2) e⟩
end
abbrev sWO : Stmt := topS 28
abbrev sRW : Stmt := topS 34
abbrev sRNm : Stmt := topS 35
abbrev sFR : Stmt := topS 36
structure RsOk (rs : List Rec) : Prop where
  le : rs.length ≤ 60
  row : (rs.map encR).all rowD = true
  one : oneW rs = true
  asc : ascS (rs.map (·.nm)) = true
theorem rowset_rec {d : PyData} (h : rowsetD d = true) : ∃ rs, d = .tuple (rs.map encR) ∧ RsOk rs := by
  cases d with
  | tuple ds =>
    have h : (decide (ds.length ≤ 60) && ((ds.all rowD && oneW (ds.map recD)) && ascS ((ds.map recD).map (·.nm)))) = true := h
    simp only [Bool.and_eq_true] at h
    obtain ⟨h1, ⟨h2, h3⟩, h4⟩ := h
    obtain ⟨rs, rfl⟩ := rows_rec h2
    rw [recs_back] at h3 h4
    rw [List.length_map] at h1
    exact ⟨rs, rfl, of_decide_eq_true h1, h2, h3, h4⟩
  | _ => cases h
def spCR (R : Addr) : Sp := fun vs H Q E => ∃ (v : V) (d : PyData), vs = [v] ∧ Dx H v d ∧ SmR d ∧ (rowsetD d = true → ∀ H', Same H H' → Q .non H') ∧ (rowsetD d = false → ∀ H', Same H H' → E (.ref R) none H')
theorem scCR : FnScope ["rowset"] ["rowset"] (defScope sCR) := ⟨rfl, rfl, rfl, by decide +kernel, rfl, by decide +kernel, by decide +kernel⟩
theorem scWO : FnScope ["rows"] ["rows"] (defScope sWO) := ⟨rfl, rfl, rfl, by decide +kernel, rfl, by decide +kernel, by decide +kernel⟩
theorem scRW : FnScope ["rowset"] ["rowset"] (defScope sRW) := ⟨rfl, rfl, rfl, by decide +kernel, rfl, by decide +kernel, by decide +kernel⟩
theorem scRNm : FnScope ["rowset"] ["rowset"] (defScope sRNm) := ⟨rfl, rfl, rfl, by decide +kernel, rfl, by decide +kernel, by decide +kernel⟩
section
variable {P : Program} {w : World} {K : PySem.W.Frag} {mg : Str → Option Value} {base : Heap} {R : Addr}
theorem ok_cr {k : Nat} {f fI : Addr} {fd fdI : FuncData} (T : OC K mg "InvalidRowset" R) (D : Df K mg "check_rowset" sCR ["rowset"] f fd) (DI : Df K mg "is_rowset" sIR ["value"] fI fdI) (GI' : FnOk P w K mg base CX0 k fI fdI ["value"] spIR) :
    FnOk P w K mg base (L2.CX P w) (k + 1) f fd ["rowset"] (spCR R) := by
  refine D.F.okX scCR (fun vs H Q E h => ?_) (fun cdv A outer s H vs Q E hr h => ?_)
  · obtain ⟨v, d, rfl, _⟩ := h
    rfl
  · obtain ⟨v, d, rfl, hd, sm, q1, q2⟩ := h
    refine ⟨_, pss_one (ps_if (pt_not (pt_val (pe_call GI' hr (by rfl) DI.g DI.F.kp DI.b .nil pass0 (pa_cons (pv 0) pa_nil))))
        (pss_one (ps_raise rfl (takes_of rfl rfl rfl rfl) (pmk_own PySem.F.excBase_ValueError T.q T.g T.kp (raises_own T.sub T.ty) (by rfl)))) pss_nil), ?_⟩
    refine ⟨v, rfl, v, d, rfl, hd, sm, fun G sG => ⟨_, rfl, ?_⟩⟩
    cases e : rowsetD d with
    | true => exact iteF (q1 e G sG)
    | false => exact iteT (q2 e G sG)
def widthI : List Rec → Int
  | [] => 4
  | r :: _ => (r.vals.length : Int)
def spWO : Sp := fun vs H Q _ => ∃ (v : V) (rs : List Rec), vs = [v] ∧ Dx H v (.tuple (rs.map encR)) ∧ ∀ H', Same H H' → Q (.int (widthI rs)) H'
theorem ok_wo {f : Addr} {fd : FuncData} (B : Bl mg) (cv : ∃ t, mg "VALUES" = some (.int 2 t)) (cw : ∃ t, mg "MAX_WIDTH" = some (.int 4 t)) (D : Df K mg "width_of" sWO ["rows"] f fd) : FnOk P w K mg base CX0 1 f fd ["rows"] spWO := by
  obtain ⟨tv, mv⟩ := cv
  obtain ⟨tw, mw⟩ := cw
  refine D.F.ok scWO (fun vs H Q E h => ?_) (fun cdv A outer s H vs Q E hr h => ?_)
  · obtain ⟨v, rs, rfl, _⟩ := h
    rfl
  · obtain ⟨v, rs, rfl, hd, q⟩ := h
    refine ⟨_, pss_one (ps_ret (pe_ifExp (pt_truth (pv 0) (fun _ => rfl)) (pe_callB (call_lenK (K := K) rfl) (by rfl) B.len PySem.boot_len (pa_cons (pe_ix (r := rIxT K) ix_tup (pe_ix (r := rIxT K) ix_tup (pv 0) pe_int (fun _ _ => rfl)) (pe_glob (v := .int 2) (by rfl) mv ⟨_, rfl⟩) (fun _ _ => rfl)) pa_nil)) (pe_glob (v := .int 4) (by rfl) mw ⟨_, rfl⟩))), ?_⟩
    cases hd with
    | @tup a xs _ ea h =>
    refine ⟨.ref a, rfl, _, .inr (.inl ⟨xs, .inl (.inl ea), rfl⟩), ?_⟩
    cases rs with
    | nil =>
      cases h
      exact iteF (q H (Same.refl H))
    | cons r rs =>
      cases h with
      | @cons v vs _ _ h1 t =>
        obtain ⟨b, z, zs, rfl, eb, ez, ev⟩ := row_dx h1
        refine iteT ⟨.ref a, rfl, a, _, 0, .ref b, rfl, rfl, .inl (.inl ea), atI_nat (j := 0) rfl, b, _, 2, .ref z, rfl, rfl, .inl (.inl eb), rfl, z, zs, rfl, .inr (.inl (.inl ez)), ?_⟩
        rw [ev, List.length_map]
        exact q H (Same.refl H)
/-- a function of a checked rowset -/
def spOf (R : Addr) (val : List Rec → V → Hp → Prop) : Sp := fun vs H Q E => ∃ (v : V) (d : PyData), vs = [v] ∧ Dx H v d ∧ SmR d ∧ (rowsetD d = false → ∀ H', Same H H' → E (.ref R) none H') ∧ ∀ rs, d = .tuple (rs.map encR) → RsOk rs → ∀ H' x, Same H H' → val rs x H' → Q x H'
theorem ok_rw {k : Nat} {f fC fW : Addr} {fd fdC fdW : FuncData} (D : Df K mg "rowset_width" sRW ["rowset"] f fd) (DC : Df K mg "check_rowset" sCR ["rowset"] fC fdC) (DW : Df K mg "width_of" sWO ["rows"] fW fdW)
    (GC : FnOk P w K mg base (L2.CX P w) k fC fdC ["rowset"] (spCR R)) (GW : FnOk P w K mg base CX0 k fW fdW ["rows"] spWO) : FnOk P w K mg base (L2.CX P w) (k + 1) f fd ["rowset"] (spOf R fun rs x _ => x = .int (widthI rs)) := by
  refine D.F.okX scRW (fun vs H Q E h => ?_) (fun cdv A outer s H vs Q E hr h => ?_)
  · obtain ⟨v, d, rfl, _⟩ := h
    rfl
  · obtain ⟨v, d, rfl, hd, sm, qe, q⟩ := h
    refine ⟨_, pss_cons (ps_expr (pe_callS GC hr (by rfl) DC.g DC.F.kp DC.b (fun σ => passAt (takes_of rfl rfl rfl rfl) σ) (pa_cons (pv 0) pa_nil)))
      (pss_one (ps_ret (pe_call GW hr (by rfl) DW.g DW.F.kp DW.b .nil pass0 (pa_cons (pv 0) pa_nil)))), ?_⟩
    refine ⟨v, rfl, v, d, rfl, hd, sm, fun e G sG => ?_, qe⟩
    obtain ⟨rs, rfl, ok⟩ := rowset_rec e
    exact ⟨v, rfl, v, rs, rfl, hd.up sG, fun G2 s2 => q rs rfl ok G2 _ (sG.trans s2) rfl⟩
theorem ok_rnm {k : Nat} {f fC fN : Addr} {fd fdC fdN : FuncData} (D : Df K mg "row_names" sRNm ["rowset"] f fd) (DC : Df K mg "check_rowset" sCR ["rowset"] fC fdC) (DN : Df K mg "names_of" sNO ["rows"] fN fdN)
    (GC : FnOk P w K mg base (L2.CX P w) k fC fdC ["rowset"] (spCR R)) (GN : FnOk P w K mg base CX0 k fN fdN ["rows"] spNO) : FnOk P w K mg base (L2.CX P w) (k + 1) f fd ["rowset"] (spOf R fun rs x G => Dx G x (.tuple ((rs.map (·.nm)).map .str))) := by
  refine D.F.okX scRNm (fun vs H Q E h => ?_) (fun cdv A outer s H vs Q E hr h => ?_)
  · obtain ⟨v, d, rfl, _⟩ := h
    rfl
  · obtain ⟨v, d, rfl, hd, sm, qe, q⟩ := h
    refine ⟨_, pss_cons (ps_expr (pe_callS GC hr (by rfl) DC.g DC.F.kp DC.b (fun σ => passAt (takes_of rfl rfl rfl rfl) σ) (pa_cons (pv 0) pa_nil)))
      (pss_one (ps_ret (pe_call GN hr (by rfl) DN.g DN.F.kp DN.b .nil pass0 (pa_cons (pv 0) pa_nil)))), ?_⟩
    refine ⟨v, rfl, v, d, rfl, hd, sm, fun e G sG => ?_, qe⟩
    obtain ⟨rs, rfl, ok⟩ := rowset_rec e
    exact ⟨v, rfl, v, rs, rfl, hd.up sG, Nat.le_trans ok.le (by decide), fun G2 p s2 hp => q rs rfl ok G2 _ (sG.trans s2) hp⟩
end
end U1

set_option maxRecDepth 100000
set_option maxHeartbeats 4000000
namespace KX
open PySem PySem.Spec PyProof.Rows
/-! ### set(t), t a tuple of texts, any number of them -/
/-- how many texts of the first i are there for the first time -/
def dcnt (ts : List Str) : Nat → Nat
  | 0 => 0
  | i + 1 => if ((ts.take i).any fun y => y == ts.getD i Str.empty) = true then dcnt ts i else dcnt ts i + 1
theorem dcnt_le (ts : List Str) : ∀ i, dcnt ts i ≤ i
  | 0 => Nat.le_refl _
  | i + 1 => by
    have := dcnt_le ts i
    unfold dcnt
    split <;> omega
abbrev sawS (ts : List Str) (i : Nat) : Str → Bool := fun y => (ts.take i).any fun z => z == y
section
variable {prog : Program} {w : World} {A : Around} {R : Result → Shared → Prop} {It : Addr} {fz wz : List Addr} {Gz : Array GenState → Array GenState → Prop} {m : Nat} {Pz : Nat → Value → Prop} {Sz : Nat → Shared → Prop}
theorem loopTxt (Wk : WalksS prog w A.in1 It fz wz Gz m Pz Sz) (D : Addr) (nD : D ∉ fz) (ts : List Str) (lm : ts.length = m) (few : m + 1 < scanBound) (isT : ∀ i v, Pz i v → ∃ t, v = .str (ts.getD i Str.empty) t) :
    ∀ (c i : Nat) (s : Shared), m - i = c → i ≤ m → Sz i s → s.heap.SetOf (PySem.strKind prog w) D (sawS ts i) (dcnt ts i) →
      (∀ s', Moved (D :: wz) Gz s s' → s'.heap.SetOf (PySem.strKind prog w) D (sawS ts m) (dcnt ts m) → R (.ok (.ret .none)) s') → codeAny (model prog w) A (.builtin "set.update.loop" ⟨[.ref D, .ref It], []⟩) R s := by
  have nDw : D ∉ wz := fun z => nD (Wk.sub _ z)
  have more : ∀ b ∈ wz, b ∈ D :: wz := fun b z => List.mem_cons_of_mem _ z
  intro c
  induction c with
  | zero =>
    intro i s ec le st so fin
    obtain rfl : i = m := by omega
    refine codeAny_builtin F.entry_set_update_loop ?_
    rw [Around.under_plainId F.plain_set_update_loop _]
    show wpAny _ A.in1 (pyNext (.ref It) >>= _) _ _ s
    refine wpAny_bind (Wk.done s _ _ st fun s1 mv => ?_)
    refine wpAny_pure (fin s1 (mv.mono more) ?_)
    obtain ⟨ob, es, ep, tb, eo, more2⟩ := so
    exact ⟨ob, es, ep, tb, mv.heap D _ nDw eo, more2⟩
  | succ c again =>
    intro i s ec le st so fin
    have lt : i < m := by omega
    refine codeAny_builtin F.entry_set_update_loop ?_
    rw [Around.under_plainId F.plain_set_update_loop _]
    show wpAny _ A.in1 (pyNext (.ref It) >>= _) _ _ s
    refine wpAny_bind (Wk.item i s _ _ lt st fun v s1 hv st1 mv => ?_)
    obtain ⟨tk, rfl⟩ := isT i v hv
    have so1 : s1.heap.SetOf (PySem.strKind prog w) D (sawS ts i) (dcnt ts i) := by
      obtain ⟨ob, es, ep, tb, eo, more2⟩ := so
      exact ⟨ob, es, ep, tb, mv.heap D _ nDw eo, more2⟩
    obtain ⟨x, ex⟩ : ∃ x, x = ts.getD i Str.empty := ⟨_, rfl⟩
    have gx : ts[i]? = some x := by
      rw [ex, List.getD_eq_getElem?_getD, List.getElem?_eq_getElem (by omega)]
      rfl
    rw [← ex]
    show wpAny _ A.in1 (holding [Value.str x tk] (setAdd D (.str x tk)) >>= _) _ _ s1
    refine wpAny_bind (wpAny_holding ?_)
    unfold setAdd
    refine wpAny_holding (wpAny_bind ((PySem.strKind prog w).pyHash (k := x) (strKind_is _ _ _ _) ?_))
    have le1 := dcnt_le ts i
    refine wpAny_setAddHashed_of (knd := PySem.strKind prog w) (s := { s1 with toks := s1.toks + 1 }) (strKind_is _ _ _ _) rfl so1 (by omega) fun h2 but so2 => ?_
    have so3 : h2.SetOf (PySem.strKind prog w) D (sawS ts (i + 1)) (dcnt ts (i + 1)) := by
      refine SetOf_congr so2 (fun y => ?_) ?_
      · show ((ts.take i).any (fun z => z == y) || decide (y = x)) = (ts.take (i + 1)).any fun z => z == y
        rw [List.take_add_one, gx, List.any_append]
        congr 1
        show decide (y = x) = ((x == y) || false)
        rw [Bool.or_false]
        by_cases e : y = x
        · subst e; simp
        · rw [decide_eq_false e]
          exact (beq_eq_false_iff_ne.mpr fun z => e z.symm).symm
      · show (if ((ts.take i).any fun z => z == x) = true then dcnt ts i else dcnt ts i + 1) = dcnt ts (i + 1)
        rw [dcnt, ← ex]
    refine wpAny_pure ⟨plainId_quiet F.plain_set_update_loop _, again (i + 1) _ (by omega) lt (Wk.frame _ s1 _ _ st1 (Nat.le_succ _) fun b hb o e => ?_) so3 fun s3 mv3 so4 => ?_⟩
    · rw [but.2 b (fun z : b = D => nD (by rw [← z]; exact hb))]
      exact e
    · refine fin s3 (Moved.trans Wk.gtrans ((mv.mono more).then_heap (Nat.le_succ _) fun b o hb e => ?_) mv3) so4
      rw [but.2 b (fun z : b = D => hb (by rw [z]; exact List.mem_cons_self))]
      exact e
end
abbrev nSet (ld : Bool) : Obj := { cls := .type "set", dict := none, data := .set #[] 0 (.fresh 0 0 ld) }
section
variable {prog : Program} {w : World} {A : Around} {E : Value → Shared → Prop} {s : Shared}
theorem call_setTxt {tp : Addr} {ys : Array Value} {ts : List Str} {Q : Value → Shared → Prop} (noh : A.handled = none) (ht : s.heap.IsTuple tp ys) (are : StrsAre ys.toList ts) (few : ts.length + 1 < scanBound)
    (fin : ∀ (h2 : Heap) (tk : Nat), h2.SetOf (PySem.strKind prog w) s.heap.objs.size (sawS ts ts.length) (dcnt ts ts.length) → (∀ b o, b < s.heap.objs.size → s.heap.get? b = some o → h2.get? b = some o) →
      Q (.ref s.heap.objs.size) { s with heap := h2, toks := tk }) : wpAny (model prog w) A (call (.type "set") [.ref tp]) Q E s := by
  obtain ⟨c1, tl1, gmro⟩ := PySem.F.called_set.mro
  have gmade := PySem.F.called_set.made
  have gsub := PySem.F.called_set.sub
  have g1 := PySem.F.called_set.notType
  have g2 := PySem.F.called_set.canCreate
  have gct := PySem.F.typeCall_set_1 (.ref tp)
  refine wpAny_call (codeAny_of_tree (show wpAny _ _ (callAny (.type "set") _) _ _ _ from wpAny_pure ⟨Code.quiet_builtin _ (by decide +kernel), codeAny_builtin PySem.F.entry_type_call ?_⟩))
  rw [Around.under_plain (weight_type_call_type "set" [.ref tp] []) rfl]
  repeat (any_goals (first | wp_step | assumption))
  refine codeAny_mono (code_set_new_1 (.ref tp) (E := E) (Q₁ := fun ob t1 => ∃ ld : Bool, ob = .ref s.heap.objs.size ∧ t1 = { s with heap := s.heap.push (nSet ld) }) fun ld => ⟨ld, rfl, rfl⟩) fun r1 t1 k1 => ?_
  cases r1 with
  | error e => exact k1
  | ok f1 =>
    cases f1 with
    | ret ob =>
      obtain ⟨ld, eo, et⟩ := k1
      subst eo et
      have atS : (s.heap.push (nSet ld)).get? s.heap.objs.size = some (nSet ld) := Heap.get?_push_size _ rfl
      have tyS : Shared.TypeIs { s with heap := s.heap.push (nSet ld) } (.ref s.heap.objs.size) "set" := ⟨_, atS, rfl⟩
      have gli := PySem.F.called_set.init.lookup
      have gbi := PySem.F.called_set.init.bind (.ref s.heap.objs.size)
      repeat (any_goals (first | wp_step | assumption))
      refine codeAny_mono (codeAny_call_builtin (R := wants (fun r t2 => r = .none ∧ ∃ h2 tk, t2 = { s with heap := h2, toks := tk } ∧ h2.SetOf (PySem.strKind prog w) s.heap.objs.size (sawS ts ts.length) (dcnt ts ts.length) ∧
          (∀ b o, b < s.heap.objs.size → s.heap.get? b = some o → h2.get? b = some o)) E) PySem.F.called_set.init.plain PySem.F.entry_set_init (check_set_init_1 tyS ?_)) fun r2 t2 k2 => ?_
      · obtain ⟨⟨oc, od, odat, osl⟩, eT, ec, nT, ed⟩ := ht
        simp only at ec ed
        subst ec
        subst ed
        have eT2 : (s.heap.push (nSet ld)).get? tp = some { cls := .type "tuple", dict := od, data := .seq ys nT, slots := osl } := Heap.get?_push_of_some _ eT
        have b1 := PySem.F.sub_tuple_set
        have b2 := PySem.F.sub_tuple_frozenset
        have b3 : (Value.type "tuple" == Value.type "dict") = false := by decide
        have isT : (s.heap.push (nSet ld)).IsTuple tp ys := ⟨_, eT2, rfl, nT, rfl⟩
        unfold Builtin.«set.__init__» noKeywords Builtin.Frozenset.updateFrom
        generalize kept : pyIter = iterF
        wp_walk
        subst kept
        refine wpAny_pyIter_tuple isT (wpAny_bind (wpAny_runValue ?_))
        have ltp : tp < s.heap.objs.size := Heap.lt_size eT
        have noh3 : A.in1.in1.in1.handled = none := by simp [noh]
        have szP : (s.heap.push (nSet ld)).objs.size = s.heap.objs.size + 1 := Heap.size_push ..
        have ne1 : tp ≠ (s.heap.push (nSet ld)).objs.size := by rw [szP]; exact Nat.ne_of_lt (Nat.lt_succ_of_lt ltp)
        have ne2 : s.heap.objs.size ∉ [(s.heap.push (nSet ld)).objs.size, tp] := by
          rw [szP]
          simp only [List.mem_cons, List.not_mem_nil, or_false, not_or]
          exact ⟨Nat.ne_of_lt (Nat.lt_succ_self _), Nat.ne_of_gt ltp⟩
        have lz : ts.length = ys.size := by rw [← StrsAre.len_eq are, Array.length_toList]
        refine loopTxt ((Walks.tuple noh3 _ tp ne1 ys).toS) s.heap.objs.size ne2 ts lz (by rw [← lz]; exact few) (fun i v hv => SS.strs_at are i v (by rw [Array.getElem?_toList]; exact hv)) (ys.size - 0) 0 _ (by omega) (Nat.zero_le _)
          ⟨⟨_, Heap.get?_push_size _ rfl, rfl, rfl⟩, (isT.push _)⟩ ?z0 ?z1
        case z0 =>
          have gg : ((s.heap.push (nSet ld)).push { cls := .type "tuple_iterator", data := .fields #[.ref tp, .int 0 0] }).get? s.heap.objs.size = some (nSet ld) := Heap.get?_push_of_some _ atS
          exact SetOf_congr ((setObjOf_fresh (knd := PySem.strKind prog w) ld).setOf gg (by unfold scanBound; omega)) (fun _ => rfl) rfl
        case z1 =>
          intro t3 mv so
          obtain ⟨h3, g3, d3, k3, o3⟩ := t3
          obtain rfl : g3 = s.gens := mv.gens
          obtain rfl : d3 = s.drawn := mv.drawn
          obtain rfl : o3 = s.os := mv.os
          rw [← lz] at so
          show wpAny _ _ _ _ _ _
          refine wpAny_pure (show wpAny _ _ (ret Value.none) _ _ _ from wpAny_pure ⟨rfl, h3, k3, rfl, so, fun b o hb e => ?_⟩)
          refine mv.heap b o ?_ (Heap.get?_push_of_some _ (Heap.get?_push_of_some _ e))
          rw [szP]
          simp only [List.mem_cons, List.not_mem_nil, or_false, not_or]
          exact ⟨Nat.ne_of_lt hb, Nat.ne_of_lt (Nat.lt_succ_of_lt hb)⟩
      · cases r2 with
        | error e => exact k2
        | ok f2 =>
          cases f2 with
          | ret r =>
            obtain ⟨rfl, h2, tk, rfl, so, old⟩ := k2
            repeat (any_goals (first | wp_step | assumption))
            exact fin _ _ so old
          | _ => exact k2.elim
    | _ => exact k1.elim
end
end KX

set_option maxRecDepth 100000
set_option maxHeartbeats 2000000
namespace KX
open PySem PySem.Spec PyProof.Rows L2
/-! ### len(set(t)), t a tuple of texts -/
section
variable {X : Cx} {pos : Pos}
theorem dcnt_nodup : ∀ (ts : List Str), ts.Nodup → ∀ i, i ≤ ts.length → dcnt ts i = i
  | ts, nd, 0, _ => rfl
  | ts, nd, i + 1, h => by
    have e : ((ts.take i).any fun y => y == ts.getD i Str.empty) = false := by
      rw [List.any_eq_false]
      intro y hy
      obtain ⟨j, hj, ej⟩ := List.getElem_of_mem hy
      rw [List.length_take] at hj
      rw [List.getElem_take] at ej
      have gi : ts.getD i Str.empty = ts[i] := by
        rw [List.getD_eq_getElem?_getD, List.getElem?_eq_getElem (by omega)]
        rfl
      rw [gi]
      intro z
      have z := (beq_iff_eq.mp z)
      rw [← ej] at z
      have := (List.nodup_iff_pairwise_ne.mp nd)
      rw [List.pairwise_iff_getElem] at this
      exact this j i (by omega) (by omega) (by omega) z
    unfold dcnt
    rw [e, if_neg (by decide), dcnt_nodup ts nd i (by omega)]
def tLenSetT (K : PySem.W.Frag) (ta : TE) : TE := fun σ H Q => ta σ H fun x H1 => ∃ (l : Addr) (ts : List Str), x = .ref l ∧ SqT K H1 l (ts.map V.str) ∧ ts.length ≤ 1000 ∧ Q (.int (dcnt ts ts.length : Int)) H1
theorem pe_lenSetT {e0 : Expr} {ta : TE} {pa pb pc pd : Pos} (cm : X.calm = true) (gl : Gl X "len") (ml : X.mg "len" = none) (gs : Gl X "set") (ms : X.mg "set" = none) (he : PE X e0 ta)
    (se : starEach [e0] X.env = (false, eval e0 X.env) :: starEach [] X.env := by rfl) : PE X (.Call (.Name "len" pa) [.Call (.Name "set" pb) [e0] [] pc] [] pd) (tLenSetT X.K ta) := by
  refine ⟨fun pn sh σ G Qz J hyp => ?_⟩
  refine Call_ (ld_blt J gl ml boot_len ?_)
  refine callWith_builtin1 (args_cons ?_ rfl) rfl rfl
  refine Call_ (ld_blt J gs ms boot_set ?_)
  refine callWith_type1 (args_cons (thn (he.run pn sh σ G _ J hyp) fun v s1 ⟨x, H1, I1, r1, q1⟩ => args_nil ?_) se) se rfl
  obtain ⟨l, ts, rfl, hq, few, q1⟩ := q1
  cases r1
  obtain ⟨its, r, pl, hz⟩ := I1.tuple hq
  have hb : (1001 : Nat) < scanBound := by decide
  refine call_setTxt (I1.ok.hd cm) pl (by simpa using strsAre_of r) (by omega) fun h2 tk so old => ?_
  refine args_nil ?_
  obtain ⟨o, es, ep, t, ho, hex, hd, _, _, _, hf, hn⟩ := so
  have I2 : Inv X pn σ H1 { s1 with heap := h2, toks := tk } := I1.kept fun b o e => old b o (Heap.lt_size e) e
  have := dcnt_le ts ts.length
  exact call_len_set ho hex hd hf (by rw [hn]; have hs : (1001 : Nat) < sizeLine := (by decide); omega) ⟨.int (dcnt ts ts.length : Int), H1, I2.tok _, ⟨_, by rw [hn]⟩, q1⟩
end
end KX

set_option maxRecDepth 100000
set_option maxHeartbeats 2000000
namespace KX
open PySem PySem.Spec PyProof.Rows L2
section
variable {X : Cx} {o e : Expr} {es : List Expr} {to te : TE} {ta : TA} {f : Str} {p p' p1 p2 pos : Pos} {B newI iniI : String} {tl : List Value}
theorem pe_biniO {pl : Sem Bool} (hg : Gl X "OverflowError") (hm : X.mg "OverflowError" = none) (vV : PySem.W.findCls X.K (.type "OverflowError") (.type "type") "__init__" = some (.val (.builtin "OverflowError.__init__"))) (ha : PA X (e :: es) ta)
    (hc : eval (.Call (.Attribute (.Name "OverflowError" p1) "__init__" p2) (e :: es) [] pos) X.env = (do
      let cv ← eval (.Name "OverflowError" p1) X.env
      standAt p2.atName
      let (fn, ahead) ← holding [cv] (getMethod cv "__init__" pl)
      callWith pos fn ahead (backTo pos (starEach (e :: es) X.env)) (backToKw pos (keywordEach [] X.env))) := by rfl)
    (he : starEach (e :: es) X.env = (false, eval e X.env) :: starEach es X.env := by rfl) (hpl : (backTo pos (starEach es X.env)).any (·.1) = false := by rfl) :
    PE X (.Call (.Attribute (.Name "OverflowError" p1) "__init__" p2) (e :: es) [] pos) (tBini X.K "OverflowError" newI "OverflowError.__init__" tl ta) := by
  refine ⟨fun pins s σ H Q I h => ?_⟩
  have ty : typeOf (.type "OverflowError") = pure (.type "type") := by kernel_rfl
  refine PySem.W.methodCall_KW (ld_blt I hg hm PyProof.Rows.Boot.«OverflowError» ?_ (by decide) (by decide)) hc
  obtain ⟨m, fr⟩ := I.fr
  refine PySem.W.method_type fr I.ok.mod.kin ty (by decide +kernel) vV (by decide +kernel) ?_
  show wpAny _ _ (callWith pos (Value.builtin "OverflowError.__init__") [] (backTo pos (starEach (e :: es) X.env)) []) _ _ _
  refine PyProof.Rows.callWith_method1 (thn (ha.run pos pins _ σ H _ (I.tok _) h) fun us s1 z => ?_) he hpl
  obtain ⟨vs, H1, I1, r1, a, C, ws, ev, hl, T, ea, q⟩ := z
  subst ev
  cases r1 with
  | @cons _ u0 _ ur ra rw' =>
    obtain rfl : u0 = Value.ref a := ra
    have hlen : ur.length ≤ sizeLine := by
      rw [← Paired.length rw', sizeLine_eq]
      omega
    exact init_told T I1 ea hlen fun s2 J => ⟨.non, H1, J, rfl, q⟩
end
end KX

set_option maxRecDepth 100000
set_option maxHeartbeats 4000000
namespace U1
open PySem PySem.Spec PyProof.Rows L2 KX
abbrev sIniM : Stmt := (clsB (topS 7)).getD 0 (.Pass ⟨0, 0, 0, 0⟩)
abbrev sMR : Stmt := topS 33
def ovTl : List Value := [.type "OverflowError", .type "ArithmeticError", .type "Exception", .type "BaseException", .type "object"]
theorem ovB : XB "OverflowError" "OverflowError.__new__" "OverflowError.__init__" ovTl := ⟨PySem.F.excBase_OverflowError, PySem.F.store_OverflowError⟩
/-- the class TooMany, at M; its __init__ at fM -/
structure TM (K : PySem.W.Frag) (mg : Str → Option Value) (M fM : Addr) (gM : FuncData) : Prop where
  g : mg "TooMany" = some (.ref M)
  x : XC K "OverflowError" "OverflowError.__new__" "OverflowError.__init__" ovTl M
  i : XI K M
  no : PySem.W.findIn K (.ref M) "limit" = some none
  iC : PySem.W.findIn K (.ref M) "__init__" = some (some (.ref fM))
  tI : PySem.W.typeIn K (.ref fM) = some (.type "function")
  vV : PySem.W.findCls K (.type "OverflowError") (.type "type") "__init__" = some (.val (.builtin "OverflowError.__init__"))
  F : Fun K "__init__" "TooMany.__init__" sIniM fM gM
  b : Binds K gM ["self", "limit"] []
  ov : mg "OverflowError" = none
def spIniM (M : Addr) : Sp := fun vs H Q _ => ∃ a v, vs = [.ref a, v] ∧ H a = some (exo a M none) ∧ ∀ dx, H dx = none → dx ≠ a → Q .non (upd (upd H dx (exd dx [("limit", v)])) a (exo a M (some dx)))
theorem scIniM : FnScope ["self", "limit"] ["self", "limit"] (defScope sIniM) := ⟨rfl, rfl, rfl, by decide +kernel, rfl, by decide +kernel, by decide +kernel⟩
theorem scMR : FnScope ["rows"] ["rows"] (defScope sMR) := ⟨rfl, rfl, rfl, by decide +kernel, rfl, by decide +kernel, by decide +kernel⟩
section
variable {P : Program} {w : World} {K : PySem.W.Frag} {mg : Str → Option Value} {base : Heap} {R M fM : Addr} {gM : FuncData}
theorem ok_iniM (B : Bl mg) (T : TM K mg M fM gM) : FnOk P w K mg base CX0 1 fM gM ["self", "limit"] (spIniM M) := by
  refine T.F.ok scIniM (fun vs H Q E h => ?_) (fun cdv A outer s H vs Q E hr h => ?_)
  · obtain ⟨a, v, rfl, _⟩ := h
    rfl
  · obtain ⟨a, v, rfl, ea, q⟩ := h
    refine ⟨_, pss_cons (ps_expr (pe_biniO (newI := "OverflowError.__new__") (tl := ovTl) (by rfl) T.ov T.vV (pa_cons (pv 0) (pa_cons (pv 1) pa_nil))))
      (pss_one (ps_fst (B := "OverflowError") (newI := "OverflowError.__new__") (iniI := "OverflowError.__init__") (tl := ovTl) (pv 0) (pv 1))), ?_⟩
    refine ⟨.ref a, rfl, v, rfl, a, M, [v], rfl, by simp, T.x, ea, ?_⟩
    exact ⟨v, rfl, .ref a, rfl, a, M, rfl, T.x, T.no, ea, fun dx n ne => q dx n ne⟩
/-- some name occurs twice -/
def dupB (rs : List Rec) : Bool := decide (dcnt (rs.map (·.nm)) rs.length < rs.length)
def spMR (R M : Addr) : Sp := fun vs H Q E => ∃ (v : V) (d : PyData), vs = [v] ∧ Dx H v d ∧ SmR d ∧ (rowsD d = false → ∀ H', Same H H' → E (.ref R) none H') ∧
  ∀ rs, d = .tuple (rs.map encR) → rowsD d = true → (dupB rs = true → ∀ H', Same H H' → E (.ref R) none H') ∧
    (dupB rs = false → 60 < rs.length → ∀ H' dd, Same H H' → H' dd = some (.xd [("limit", .int 60)]) → E (.ref M) (some dd) H') ∧
    (dupB rs = false → rs.length ≤ 60 → ∀ H' p, Same H H' → Dx H' (.ref p) (.tuple ((sortR rs).map encR)) → Q (.ref p) H')
theorem rows_recs {d : PyData} (h : rowsD d = true) : ∃ rs : List Rec, d = .tuple (rs.map encR) := by
  cases d with
  | tuple ds =>
    have h : (ds.all rowD && oneW (ds.map recD)) = true := h
    rw [Bool.and_eq_true] at h
    obtain ⟨rs, rfl⟩ := rows_rec h.1
    exact ⟨rs, rfl⟩
  | _ => cases h
theorem ok_mr {k : Nat} {f fO fN : Addr} {fd fdO fdN : FuncData} (B : Bl mg) (cr : ∃ t, mg "MAX_ROWS" = some (.int 60 t)) (TR : OC K mg "InvalidRowset" R) (T : TM K mg M fM gM) (hs : mg "set" = none) (D : Df K mg "make_rowset" sMR ["rows"] f fd) (DO : Df K mg "are_rows_of_one_width" sOW ["value"] fO fdO) (DN : Df K mg "names_of" sNO ["rows"] fN fdN)
    (GO : FnOk P w K mg base CX0 (k + 3) fO fdO ["value"] spOW) (GN : FnOk P w K mg base CX0 (k + 3) fN fdN ["rows"] spNO) : FnOk P w K mg base (L2.CX P w) (k + 4) f fd ["rows"] (spMR R M) := by
  have GM : FnOk P w K mg base CX0 (k + 2) fM gM _ (spIniM M) := (ok_iniM B T).mono (by omega)
  obtain ⟨tr, mr⟩ := cr
  refine D.F.okX scMR (fun vs H Q E h => ?_) (fun cdv A outer s H vs Q E hr h => ?_)
  · obtain ⟨v, d, rfl, _⟩ := h
    rfl
  · obtain ⟨v, d, rfl, hd, sm, qe, q⟩ := h
    have nd := scMR.nd
    refine ⟨_, pss_cons (ps_if (pt_not (pt_val (pe_call GO hr (by rfl) DO.g DO.F.kp DO.b .nil pass0 (pa_cons (pv 0) pa_nil)))) (pss_one (ps_raise rfl (takes_of rfl rfl rfl rfl) (pmk_own PySem.F.excBase_ValueError TR.q TR.g TR.kp (raises_own TR.sub TR.ty) (by rfl)))) pss_nil)
      (pss_cons (ps_if (pt_cmpR op_lt (pe_lenSetT rfl (by rfl) B.len (by rfl) hs (pe_call GN hr (by rfl) DN.g DN.F.kp DN.b .nil pass0 (pa_cons (pv 0) pa_nil))) (pe_callB (call_lenK (K := K) rfl) (by rfl) B.len PySem.boot_len (pa_cons (pv 0) pa_nil)) (nomark _))
          (pss_one (ps_raise rfl (takes_of rfl rfl rfl rfl) (pmk_own PySem.F.excBase_ValueError TR.q TR.g TR.kp (raises_own TR.sub TR.ty) (by rfl)))) pss_nil)
      (pss_cons (ps_if (pt_cmpR op_gt (pe_callB (call_lenK (K := K) rfl) (by rfl) B.len PySem.boot_len (pa_cons (pv 0) pa_nil)) (pe_glob (v := .int 60) (by rfl) mr ⟨_, rfl⟩) (nomark _))
          (pss_one (ps_raise rfl (takes_of rfl rfl rfl rfl) (pmk_x T.x T.iC T.tI GM hr T.b pass0 (by rfl) T.g (pa_cons (pe_glob (v := .int 60) (by rfl) mr ⟨_, rfl⟩) pa_nil)))) pss_nil)
      (pss_one (ps_ret (pe_callTy call_tuple_of (by rfl) B.tuple (by decide +kernel) (pa_cons (pe_callB (cr_sortT (enc := encR) hr) (by rfl) B.sorted (by decide +kernel) (pa_cons (pv 0) pa_nil)) pa_nil)))))), ?_⟩
    refine ⟨v, rfl, v, d, rfl, hd, sm, fun G sG => ⟨_, rfl, ?_⟩⟩
    cases er : rowsD d with
    | false => exact iteT (qe er G sG)
    | true =>
      obtain ⟨rs, rfl⟩ := rows_recs er
      obtain ⟨q1, q2, q3⟩ := q rs rfl er
      obtain ⟨hl, _⟩ := sm _ rfl
      rw [List.length_map] at hl
      refine iteF ⟨v, rfl, v, rs, rfl, hd.up sG, hl, fun G2 p s2 hp => ?_⟩
      have hd2 := (hd.up sG).up s2
      have s02 := sG.trans s2
      obtain ⟨a, xs, eva, ea, hx⟩ : ∃ a xs, v = .ref a ∧ G2 a = some (.tup xs) ∧ Dxs G2 xs (rs.map encR) := by
        cases hd2 with
        | @tup a xs _ ea h => exact ⟨a, xs, rfl, ea, h⟩
      subst eva
      have lx := hx.len
      rw [List.length_map] at lx
      have hp2 : ∃ ks, G2 p = some (.tup ks) ∧ Dxs G2 ks ((rs.map (·.nm)).map PyData.str) := by
        cases hp with
        | @tup _ ks _ ep h => exact ⟨ks, ep, h⟩
      obtain ⟨ks, ep, hks⟩ := hp2
      have ek := vals_strsD hks
      refine ⟨p, rs.map (fun r : Rec => r.nm), rfl, .inl (.inl (by rw [← ek]; exact ep)), by rw [List.length_map]; exact hl, ?_⟩
      refine ⟨.ref a, rfl, a, xs, rfl, .inr (.inl (.inl ea)), _, _, rfl, rfl, _, rfl, ?_⟩
      have ed : decide (((dcnt (rs.map (fun r : Rec => r.nm)) (rs.map (fun r : Rec => r.nm)).length : Nat) : Int) < ((xs.length : Nat) : Int)) = dupB rs := by
        rw [List.length_map, lx]
        show _ = decide (dcnt (rs.map (fun r : Rec => r.nm)) rs.length < rs.length)
        by_cases z : dcnt (rs.map (fun r : Rec => r.nm)) rs.length < rs.length
        · rw [decide_eq_true z, decide_eq_true (by omega)]
        · rw [decide_eq_false z, decide_eq_false (by omega)]
      rw [ed]
      cases edup : dupB rs with
      | true => exact iteT (q1 edup G2 s02)
      | false =>
        refine iteF ⟨.ref a, rfl, a, xs, rfl, .inr (.inl (.inl ea)), _, _, rfl, rfl, _, rfl, ?_⟩
        by_cases h60 : (60 : Int) < ((xs.length : Nat) : Int)
        · rw [decide_eq_true h60]
          refine iteT ⟨by simp, fun b nb => ⟨b, .int 60, rfl, upd_same, fun dx ndx ne => ⟨rfl, dx, [("limit", .int 60)], upd_same, ?_, ?_, ?_⟩⟩⟩
          · rw [upd_ne ne, upd_same]
          · rw [upd_ne ne] at ndx
            exact ndx
          · rw [upd_ne ne] at ndx
            refine q2 edup (by omega) _ dx (fun c o e => ?_) upd_same
            have e := s02 _ _ e
            rw [upd_ne (ne_of_none e ndx), del_ne (ne_of_none e nb), upd_ne (ne_of_none e nb), upd_ne (ne_of_none e ndx), upd_ne (ne_of_none e nb)]
            exact e
        · rw [decide_eq_false h60]
          have each : ∀ b ∈ xs.zip rs, Dx G2 b.1 (encR b.2) := fun b hb => by
            obtain ⟨i, hi, e⟩ := List.mem_iff_getElem.mp hb
            have e' : (xs.zip rs)[i]? = some b := by rw [List.getElem?_eq_getElem hi, e]
            rw [List.getElem?_zip_eq_some] at e'
            obtain ⟨d, ed, hd⟩ := hx.get' e'.1
            rw [List.getElem?_map, e'.2] at ed
            cases ed
            exact hd
          refine iteF ⟨.ref a, rfl, a, xs.zip rs, rfl, .inl (.inl ?_), fun b hb => dp_dx _ _ (plain_rec b.2) (each b hb), ?_, ?_, fun b _ => depth_rec b.2, fun pl npl => ?_⟩
          · rw [List.map_fst_zip (by omega)]
            exact ea
          · have := alike_recs ((xs.zip rs).map (·.2))
            rwa [List.map_map] at this
          · have := tup_recs ((xs.zip rs).map (·.2))
            rwa [List.map_map] at this
          · have sl := same_new (o := .lst (((xs.zip rs).mergeSort (PySem.W.dataLe false fun b => encR b.2)).map (·.1))) npl
            have hm : ∀ b ∈ (xs.zip rs).mergeSort (PySem.W.dataLe false fun b => encR b.2), Dx (upd G2 pl (.lst (((xs.zip rs).mergeSort (PySem.W.dataLe false fun b => encR b.2)).map (·.1)))) b.1 (encR b.2) := fun b hb =>
              (each b (List.mem_mergeSort.mp hb)).up sl
            have e1 : ((xs.zip rs).mergeSort (PySem.W.dataLe false fun b => encR b.2)).map (fun b => encR b.2) = (sortR rs).map encR := by
              have e2 : ((xs.zip rs).mergeSort (PySem.W.dataLe false fun b => encR b.2)).map Prod.snd = sortR rs := by
                have h := List.map_mergeSort (f := Prod.snd) (r := PySem.W.dataLe false fun b : V × Rec => encR b.2) (s := PySem.W.dataLe false encR) (l := xs.zip rs) (fun a _ b _ => rfl)
                rw [List.map_snd_zip (by omega)] at h
                exact h
              rw [← e2, List.map_map]
              rfl
            have hx2 := dxs_pairs _ hm
            rw [e1] at hx2
            exact ⟨pl, _, rfl, .inl ⟨.inl (.inl upd_same), fun p2 np2 => q3 edup (by omega) _ p2 ((s02.trans sl).trans (same_new np2)) (.tup upd_same (hx2.up (same_new np2)))⟩⟩
end
end U1

set_option maxRecDepth 100000
set_option maxHeartbeats 4000000
namespace U1
open PySem PySem.Spec PyProof.Rows L2 KX
section
variable {P : Program} {w : World} {K : PySem.W.Frag} {mg : Str → Option Value} {base : Heap} {R U : Addr}
def spNOF : Sp := fun vs H Q _ => ∃ (v : V) (rs : List Rec), vs = [v] ∧ Dx H v (.tuple (rs.map encR)) ∧ rs.length ≤ 1000 ∧ ∀ H' p o, Same H H' → o.cls = .type "tuple" → o.dict = none → H' p = some (.frz o (.tup ((rs.map (·.nm)).map V.str))) → Q (.ref p) H'
theorem ok_nof {f : Addr} {fd : FuncData} (B : Bl mg) (cn : ∃ t, mg "NAME" = some (.int 0 t)) (D : Df K mg "names_of" sNO ["rows"] f fd) : FnOk P w K mg base CX0 1 f fd ["rows"] spNOF := by
  obtain ⟨tn, mn⟩ := cn
  refine D.F.ok scNO (fun vs H Q E h => ?_) (fun cdv A outer s H vs Q E hr h => ?_)
  · obtain ⟨v, ns, rfl, _⟩ := h
    rfl
  · obtain ⟨v, rs, rfl, hd, hl, q⟩ := h
    have nd := scNO.nd
    refine ⟨_, pss_one (ps_ret (pe_callTy call_tupleF (by rfl) B.tuple (by decide +kernel) (pa_cons (pe_lc (own := [("row", 1)]) (g := gName 1) rfl nd (pi_tup (pv 0))
        (blkOk_by (N := ["rows", "row"]) (sc := defScope sNO) (by decide +kernel)) (fun _ _ _ _ _ => pg_name (i := 1) nd rfl (Or.inl rfl)) (fun _ _ _ _ _ => pts_nil)
        (fun _ _ _ _ _ => pe_ix (r := rIxT K) ix_tup (pv 1) (pe_glob (v := .int 0) (by rfl) mn ⟨_, rfl⟩) (fun _ _ => rfl))) pa_nil))), ?_⟩
    cases hd with
    | @tup a xs _ ea h =>
    have lx := h.len
    rw [List.length_map] at lx
    refine ⟨.ref a, rfl, a, rfl, ⟨_, .inl (.inl ea)⟩, fun D nD => ?_⟩
    refine lc_tup (xs := xs) (fun i G => Same H G ∧ G D = some (.lst (((rs.take i).map (·.nm)).map V.str))) ⟨same_new nD, upd_same⟩ (fun i G _ hG => .inl (.inl (hG.1 _ _ ea))) (fun i x G hx hG => ?_) (fun G hG => ?_)
    · obtain ⟨sG, eD⟩ := hG
      obtain ⟨d, ed, hdx⟩ := h.get' hx
      rw [List.getElem?_map] at ed
      obtain ⟨r, er, rfl⟩ := Option.map_eq_some_iff.mp ed
      obtain ⟨b, z, vs, rfl, eb, _⟩ := row_dx (hdx.up sG)
      refine ⟨rfl, .ref b, rfl, b, _, 0, .str r.nm, rfl, rfl, .inl (.inl eb), rfl, _, eD, ?_, same_at sG nD, ?_⟩
      · rw [List.length_map, List.length_map, List.length_take]
        have hb : (1000 : Nat) < sizeLine := by decide
        omega
      · rw [upd_same, List.take_add_one, er, List.map_append, List.map_append]
        rfl
    · obtain ⟨sG, eD⟩ := hG
      rw [List.take_of_length_le (by omega)] at eD
      exact ⟨D, _, rfl, .inl (.inl eD), fun p o np hc hn => q _ p o (sG.trans (same_new np)) hc hn upd_same⟩
def spFR (R U : Addr) : Sp := fun vs H Q E => ∃ (v nv : V) (d : PyData), vs = [v, nv] ∧ Dx H v d ∧ SmR d ∧ (∃ dn, Dx H nv dn) ∧ (rowsetD d = false → ∀ H', Same H H' → E (.ref R) none H') ∧
  ∀ rs, d = .tuple (rs.map encR) → RsOk rs → ((∃ dn, Dx H nv dn ∧ amg (rs.map (·.nm)) dn = false ∧ ∀ H' dd, Same H H' → H' dd = some (.xd [("name", nv)]) → E (.ref U) (some dd) H') ∨
      ∃ i r, rs[i]? = some r ∧ nv = .str r.nm ∧ (∀ (j : Nat) (e : Rec), j < i → rs[j]? = some e → e.nm ≠ r.nm) ∧ ∀ H' x, Same H H' → Dx H' x (encR r) → Q x H')
theorem scFR : FnScope ["rowset", "name"] ["rowset", "name"] (defScope sFR) := ⟨rfl, rfl, rfl, by decide +kernel, rfl, by decide +kernel, by decide +kernel⟩
theorem ok_fr {k : Nat} {f fR fN fO : Addr} {fd fdR fdN fdO : FuncData} (B : Bl mg) (D : Df K mg "find_row" sFR ["rowset", "name"] f fd) (DR : Df K mg "check_rowset" sCR ["rowset"] fR fdR) (DN : Df K mg "check_names" sCN ["rowset", "names"] fN fdN) (DO : Df K mg "names_of" sNO ["rows"] fO fdO)
    (GR : FnOk P w K mg base (L2.CX P w) k fR fdR ["rowset"] (spCR R)) (GN : FnOk P w K mg base (L2.CX P w) k fN fdN ["rowset", "names"] (spCN U)) (GO : FnOk P w K mg base CX0 k fO fdO ["rows"] spNOF) : FnOk P w K mg base (L2.CX P w) (k + 1) f fd ["rowset", "name"] (spFR R U) := by
  refine D.F.okX scFR (fun vs H Q E h => ?_) (fun cdv A outer s H vs Q E hr h => ?_)
  · obtain ⟨v, nv, d, rfl, _⟩ := h
    rfl
  · obtain ⟨v, nv, d, rfl, hd, sm, _, qe, q⟩ := h
    refine ⟨_, pss_cons (ps_expr (pe_callS GR hr (by rfl) DR.g DR.F.kp DR.b (fun σ => passAt (takes_of rfl rfl rfl rfl) σ) (pa_cons (pv 0) pa_nil)))
      (pss_cons (ps_expr (pe_callS GN hr (by rfl) DN.g DN.F.kp DN.b (fun σ => passAt (takes_of rfl rfl rfl rfl) σ) (pa_cons (pv 0) (pa_cons (pe_tup (pa_cons (pv 1) pa_nil)) pa_nil))))
      (pss_one (ps_ret (pe_ix ix_tup (pv 0) (pe_bmF PySem.F.plainAttrs_tuple PySem.F.slot_tuple_index PySem.F.type_tuple_index mt_tup_index (pe_call GO hr (by rfl) DO.g DO.F.kp DO.b .nil pass0 (pa_cons (pv 0) pa_nil)) (pa_cons (pv 1) pa_nil)) (fun _ _ => rfl))))), ?_⟩
    refine ⟨v, rfl, v, d, rfl, hd, sm, fun e G sG => ?_, qe⟩
    obtain ⟨rs, rfl, ok⟩ := rowset_rec e
    have l60 := ok.le
    refine ⟨v, rfl, nv, rfl, by show 1 ≤ sizeLine; decide, fun p np => ?_⟩
    have s1 : Same H (upd G p (.tup [nv])) := sG.trans (same_new np)
    refine ⟨v, .ref p, rs, rfl, hd.up s1, by omega, ?_⟩
    rcases q rs rfl ok with ⟨dn, hn, bad, q⟩ | ⟨i, r, er, rfl, first, q⟩
    · exact .inl ⟨p, [nv], [dn], rfl, upd_same, .cons (hn.up s1) .nil, .inr ⟨0, nv, dn, rfl, rfl, bad, fun j e lt => absurd lt (by omega), fun G2 dd s2 e => q G2 dd (s1.trans s2) e⟩⟩
    · have hin : amg (rs.map (·.nm)) (.str r.nm) = true := by
        unfold amg
        rw [List.any_eq_true]
        exact ⟨r.nm, List.mem_map.mpr ⟨r, List.mem_of_getElem? er, rfl⟩, decide_eq_true rfl⟩
      refine .inl ⟨p, [.str r.nm], [.str r.nm], rfl, upd_same, .cons (.str _) .nil, .inl ⟨fun d hd => by rw [List.mem_singleton.mp hd]; exact hin, fun G2 s2 => ?_⟩⟩
      have s3 := s1.trans s2
      cases hd with
      | @tup a xs _ ea h =>
      obtain ⟨x, ex, hx⟩ := h.get (i := i) (d := encR r) (by rw [List.getElem?_map, er]; rfl)
      refine ⟨.ref a, rfl, .ref a, rfl, .ref a, rs, rfl, (Dx.tup ea h).up s3, by omega, fun G3 p2 o s4 hc hn ep => ?_⟩
      have s5 := s3.trans s4
      refine ⟨⟨p2, o, _, rfl, ep, hc, hn⟩, .str r.nm, rfl, p2, rs.map (·.nm), r.nm, i, rfl, rfl, .inl (.inr ⟨o, ep⟩), by rw [List.getElem?_map, er]; rfl, fun m lt e => ?_, ?_⟩
      · rw [List.getElem?_map] at e
        obtain ⟨e2, ee, e3⟩ := Option.map_eq_some_iff.mp e
        exact first m e2 lt ee e3
      · exact ⟨a, xs, (i : Int), x, rfl, rfl, .inl (.inl (s5 _ _ ea)), atI_nat ex, q G3 x s5 (hx.up s5)⟩
end
end U1

set_option maxRecDepth 100000
set_option maxHeartbeats 4000000
namespace U1
open PySem PySem.Spec PyProof.Rows L2 KX
abbrev sWB : Stmt := topS 44
abbrev sVN : Stmt := topS 45
abbrev sVR : Stmt := topS 46
/-! ### the law's own checks -/
theorem scWB : FnScope ["value", "low", "high"] ["value", "low", "high"] (defScope sWB) := ⟨rfl, rfl, rfl, by decide +kernel, rfl, by decide +kernel, by decide +kernel⟩
section
variable {P : Program} {w : World} {K : PySem.W.Frag} {mg : Str → Option Value} {base : Heap}
theorem ok_wb {f : Addr} {fd : FuncData} (B : Bl mg) (D : Df K mg "_law_whole_between" sWB ["value", "low", "high"] f fd) : FnOk P w K mg base CX0 1 f fd ["value", "low", "high"] spBetween := by
  refine D.F.ok scWB (fun vs H Q E h => ?_) (fun cdv A outer s H vs Q E hr h => ?_)
  · obtain ⟨v, d, lo, hi, rfl, _⟩ := h
    rfl
  · obtain ⟨v, d, lo, hi, rfl, hd, q⟩ := h
    refine ⟨_, pss_one (ps_ret (pe_and (pe_isD (T := "int") (x := "int") (by decide +kernel) B.isi B.int (by decide +kernel) (pv 0) (by rfl) (by rfl))
      (pe_and (pe_not (pe_isD (T := "bool") (x := "bool") (by decide +kernel) B.isi B.bool (by decide +kernel) (pv 0) (by rfl) (by rfl)))
      (pe_one (pe_chain op_le op_le (pv 1) (pv 0) (pv 2)))))), ?_⟩
    refine ⟨v, rfl, rfl, d, hd, _, rfl, ?_⟩
    rw [isa_int]
    cases d with
    | bool b => exact iteT ⟨v, rfl, rfl, _, hd, _, rfl, _, rfl, iteF q⟩
    | int i =>
      refine iteT ⟨v, rfl, rfl, _, hd, _, rfl, _, rfl, iteT ?_⟩
      cases hd
      refine ⟨_, rfl, _, rfl, lo, i, rfl, rfl, _, rfl, ?_⟩
      have e : betw lo hi (.int i) = (decide (lo ≤ i) && decide (i ≤ hi)) := rfl
      rw [e] at q
      by_cases h : lo ≤ i
      · rw [decide_eq_true h] at q ⊢
        exact iteT ⟨_, rfl, _, _, rfl, rfl, q⟩
      · rw [decide_eq_false h] at q ⊢
        exact iteF q
    | _ => exact iteF q
end
theorem scVN : FnScope ["value", "letter"] ["value"] (defScope sVN) := ⟨rfl, rfl, rfl, by decide +kernel, rfl, by decide +kernel, by decide +kernel⟩
/-- the signs that are no letters -/
def odd (l : List Nat) : List Str := (l.filter fun c => !decide (c ∈ abc.cps.toList)).map fun c => ⟨#[c]⟩
theorem odd_nil' : ∀ l : List Nat, (odd l).isEmpty = l.all fun c => decide (c ∈ abc.cps.toList)
  | [] => rfl
  | c :: l => by
    have ih := odd_nil' l
    unfold odd at ih ⊢
    rw [List.filter_cons, List.all_cons, ← ih]
    cases decide (c ∈ abc.cps.toList) <;> simp
theorem odd_nil (x : Str) : (odd x.cps.toList).isEmpty = letD x := odd_nil' _
theorem odd_in {c : Nat} (h : c ∈ abc.cps.toList) : odd [c] = [] := by
  unfold odd
  rw [List.filter_cons, decide_eq_true h]
  rfl
theorem odd_out {c : Nat} (h : ¬ c ∈ abc.cps.toList) : odd [c] = [⟨#[c]⟩] := by
  unfold odd
  rw [List.filter_cons, decide_eq_false h]
  rfl
section
variable {P : Program} {w : World} {K : PySem.W.Frag} {mg : Str → Option Value} {base : Heap}
theorem ok_vn {f : Addr} {fd : FuncData} (B : Bl mg) (D : Df K mg "_law_valid_name" sVN ["value"] f fd) : FnOk P w K mg base CX0 1 f fd ["value"] spName := by
  refine D.F.ok scVN (fun vs H Q E h => ?_) (fun cdv A outer s H vs Q E hr h => ?_)
  · obtain ⟨v, d, rfl, _⟩ := h
    rfl
  · obtain ⟨v, d, rfl, hd, hsm, q⟩ := h
    refine ⟨_, pss_cons (ps_if (PW.pt (pw_or (pt_not (pt_val (pe_isD (T := "str") (x := "str") (by decide +kernel) B.isi B.str (by decide +kernel) (pv 0) (by rfl) (by rfl))))
        (pw_or1 (pt_not (pt_chain op_lt op_lt pe_int (pe_callB call_len_str (by rfl) B.len PySem.boot_len (pa_cons (pv 0) pa_nil)) pe_int))))) (pss_one (ps_ret pe_bl)) pss_nil)
      (pss_one (ps_ret (pe_cmpR (op_eqP hr.units) (pe_lc (own := [("letter", 1)]) (g := gName 1) rfl scVN.nd (pi_str (pv 0)) (blkOk_by (N := ["value", "letter"]) (sc := defScope sVN) (by decide +kernel))
        (fun _ _ _ _ _ => pg_name (i := 1) scVN.nd rfl (Or.inl rfl)) (fun _ _ _ _ _ => pts_one (pt_cmpR op_notIn_sign (pv 1) pe_str (by rfl))) (fun _ _ _ _ _ => pv 1)) (pe_lst pa_nil) (nomark _)))), ?_⟩
    refine ⟨v, rfl, rfl, d, hd, _, rfl, ?_⟩
    rw [isa_str]
    cases d with
    | str x =>
      cases hd
      refine iteF ⟨.str x, rfl, x, rfl, hsm, 0, _, rfl, rfl, _, rfl, ?_⟩
      have en : nameD (.str x) = ((decide (1 ≤ (x.length : Int)) && decide ((x.length : Int) ≤ 8)) && letD x) := rfl
      rw [en] at q
      by_cases h1 : 1 ≤ (x.length : Int)
      · rw [decide_eq_true h1] at q
        rw [decide_eq_true (show (0 : Int) < (x.length : Int) by omega)]
        refine iteT ⟨_, _, rfl, rfl, _, rfl, ?_⟩
        by_cases h2 : (x.length : Int) ≤ 8
        · rw [decide_eq_true h2] at q
          rw [decide_eq_true (show (x.length : Int) < 9 by omega)]
          refine iteF ⟨_, rfl, x, rfl, fun D nD => ?_⟩
          refine lc_it walk_str (fun i G => Same H G ∧ G D = some (.lst ((odd (x.cps.toList.take i)).map V.str))) ⟨same_at (Same.refl H) nD, upd_same⟩ (fun _ _ _ _ => trivial) (fun i c G G' hi hp hy => ?_) (fun G hp => ?_)
          · obtain ⟨rfl, cc, ec, rfl⟩ := hy
            have et : x.cps.toList.take (i + 1) = x.cps.toList.take i ++ [cc] := by
              rw [List.take_add_one, show x.cps.toList[i]? = some cc by simpa using ec]
              rfl
            have eo : odd (x.cps.toList.take i ++ [cc]) = odd (x.cps.toList.take i) ++ odd [cc] := by
              unfold odd
              rw [List.filter_append, List.map_append]
            refine ⟨rfl, _, rfl, cc, abc, rfl, rfl, _, rfl, ?_⟩
            by_cases hc : cc ∈ abc.cps.toList
            · have e1 : odd [cc] = [] := odd_in hc
              rw [decide_eq_true hc]
              refine iteF ⟨hp.1, ?_⟩
              rw [et, eo, e1, List.append_nil]
              exact hp.2
            · have e1 : odd [cc] = [⟨#[cc]⟩] := odd_out hc
              rw [decide_eq_false hc]
              refine iteT ⟨_, rfl, _, hp.2, ?_, same_at hp.1 nD, ?_⟩
              · have h8 : (odd (x.cps.toList.take i)).length ≤ i := by
                  unfold odd
                  rw [List.length_map]
                  refine Nat.le_trans (List.length_filter_le _ _) ?_
                  rw [List.length_take]
                  exact Nat.min_le_left _ _
                have hx : x.cps.size = x.length := by simp [Str.length]
                have hb : (8 : Nat) < sizeLine := by decide
                rw [List.length_map]
                omega
              · rw [upd_same, et, eo, e1, List.map_append]
                rfl
          · have hx : x.cps.toList.take x.cps.size = x.cps.toList := List.take_of_length_le (by simp)
            rw [hx] at hp
            refine ⟨Nat.zero_le _, fun p np => ?_⟩
            refine ⟨.list ((odd x.cps.toList).map PyData.str), .list [], .lst (.inl (.inl ?_)) (dp_strs _), .lst (.inl (.inl upd_same)) .nil, pl_strs _, rfl, min_nil _, ?_⟩
            · rw [upd_ne (ne_of_none hp.2 np)]
              exact hp.2
            · rw [eqv_nil, List.isEmpty_map, odd_nil]
              exact q _ (same_at hp.1 (hp.1.free np))
        · rw [decide_eq_false h2] at q
          rw [decide_eq_false (show ¬ (x.length : Int) < 9 by omega)]
          exact iteT (q H (Same.refl H))
      · rw [decide_eq_false h1] at q
        rw [decide_eq_false (show ¬ (0 : Int) < (x.length : Int) by omega)]
        exact iteF ⟨_, rfl, iteT (q H (Same.refl H))⟩
    | _ => exact iteT (q H (Same.refl H))
end
end U1

namespace U1
open PySem PySem.Spec PyProof.Rows L2 KX
theorem scVR : FnScope ["value", "item"] ["value"] (defScope sVR) := ⟨rfl, rfl, rfl, by decide +kernel, rfl, by decide +kernel, by decide +kernel⟩
/-- a 1 for each that fails -/
def bads (f : PyData → Bool) (l : List PyData) : List Int := (l.filter fun c => !f c).map fun _ => (1 : Int)
theorem bads_nil (f : PyData → Bool) : ∀ l, (bads f l).isEmpty = l.all f
  | [] => rfl
  | c :: l => by
    have ih := bads_nil f l
    unfold bads at ih ⊢
    rw [List.filter_cons, List.all_cons, ← ih]
    cases f c <;> simp
theorem bads_add (f : PyData → Bool) (l : List PyData) (c : PyData) : bads f (l ++ [c]) = bads f l ++ (if f c then [] else [1]) := by
  unfold bads
  rw [List.filter_append, List.map_append, List.filter_cons]
  cases f c <;> rfl
theorem bads_len (f : PyData → Bool) (l : List PyData) : (bads f l).length ≤ l.length := by
  unfold bads
  rw [List.length_map]
  exact List.length_filter_le _ _
theorem iteNT {c A B : Prop} [Decidable c] (hc : ¬ c) (h : A) : if (!decide c) = true then A else B := by
  rw [decide_eq_false hc]
  exact iteT h
section
variable {P : Program} {w : World} {K : PySem.W.Frag} {mg : Str → Option Value} {base : Heap}
theorem ok_vr {f fW fN : Addr} {fd fdW fdN : FuncData} (B : Bl mg) (D : Df K mg "_law_valid_row" sVR ["value"] f fd) (DW : Df K mg "_law_whole_between" sWB ["value", "low", "high"] fW fdW)
    (DN : Df K mg "_law_valid_name" sVN ["value"] fN fdN) : FnOk P w K mg base CX0 2 f fd ["value"] spRow := by
  have GW : FnOk P w K mg base CX0 1 fW fdW _ spBetween := ok_wb B DW
  have GN : FnOk P w K mg base CX0 1 fN fdN _ spName := ok_vn B DN
  refine D.F.ok scVR (fun vs H Q E h => ?_) (fun cdv A outer s H vs Q E hr h => ?_)
  · obtain ⟨v, d, rfl, _⟩ := h
    rfl
  · obtain ⟨v, d, rfl, hd, hsm, q⟩ := h
    have nd := scVR.nd
    refine ⟨_, pss_cons (ps_if (PW.pt (pw_or (pt_not (pt_val (pe_isD (T := "tuple") (x := "tuple") (by decide +kernel) B.isi B.tuple (by decide +kernel) (pv 0) (by rfl) (by rfl))))
        (pw_or (pt_cmpR op_ne (pe_callB call_len_seq (by rfl) B.len PySem.boot_len (pa_cons (pv 0) pa_nil)) pe_int (nomark _))
        (pw_or1 (pt_not (pt_val (pe_isD (T := "tuple") (x := "tuple") (by decide +kernel) B.isi B.tuple (by decide +kernel) (pe_ix ix_tup (pv 0) pe_int (fun _ _ => rfl)) (by rfl) (by rfl)))))))) (pss_one (ps_ret pe_bl)) pss_nil)
      (pss_cons (ps_if (PW.pt (pw_or (pt_not (pt_val (pe_call GN hr (by rfl) DN.g DN.F.kp DN.b .nil pass0 (pa_cons (pe_ix ix_tup (pv 0) pe_int (fun _ _ => rfl)) pa_nil))))
        (pw_or (pt_not (pt_val (pe_call GW hr (by rfl) DW.g DW.F.kp DW.b .nil pass0 (pa_cons (pe_ix ix_tup (pv 0) pe_int (fun _ _ => rfl)) (pa_cons pe_int (pa_cons (pe_op op_pow pe_int pe_int) pa_nil))))))
        (pw_or1 (pt_not (pt_chain op_lt op_lt pe_int (pe_callB call_len_seq (by rfl) B.len PySem.boot_len (pa_cons (pe_ix ix_tup (pv 0) pe_int (fun _ _ => rfl)) pa_nil)) pe_int)))))) (pss_one (ps_ret pe_bl)) pss_nil)
      (pss_cons (ps_if (pt_cmpR (op_neP hr.units) (pe_lc (own := [("item", 1)]) (g := gName 1) rfl nd (pi_tup (pe_ix ix_tup (pv 0) pe_int (fun _ _ => rfl))) (blkOk_by (N := ["value", "item"]) (sc := defScope sVR) (by decide +kernel))
          (fun _ _ _ _ _ => pg_name (i := 1) nd rfl (Or.inl rfl))
          (fun _ _ _ _ _ => pts_one (pt_not (pt_val (pe_call GW hr (by rfl) DW.g DW.F.kp DW.b .nil pass0 (pa_cons (pv 1) (pa_cons (pe_un un_neg (pe_op op_pow pe_int pe_int)) (pa_cons (pe_op op_pow pe_int pe_int) pa_nil)))))))
          (fun _ _ _ _ _ => pe_int)) (pe_lst pa_nil) (nomark _)) (pss_one (ps_ret pe_bl)) pss_nil)
      (pss_one (ps_ret (pe_call GW hr (by rfl) DW.g DW.F.kp DW.b .nil pass0 (pa_cons (pe_ix ix_tup (pv 0) pe_int (fun _ _ => rfl)) (pa_cons pe_int (pa_cons (pe_op op_pow pe_int pe_int) pa_nil)))))))), ?_⟩
    refine ⟨v, rfl, rfl, d, hd, _, rfl, ?_⟩
    rw [isa_tuple]
    cases d with
    | tuple ds =>
      cases hd with
      | @tup a xs _ ea h =>
        refine iteF ⟨.ref a, rfl, a, xs, rfl, .inr (.inl (.inl ea)), ?_⟩
        by_cases h4 : ds.length = 4
        · match ds, xs, h, ea, h4 with
          | [n, c, vs, e], [vn, vc, vv, ve], .cons hn (.cons hc (.cons hv (.cons he .nil))), ea, _ =>
          have sn : smS n := hsm n (by simp)
          have er : rowD (.tuple [n, c, vs, e]) = (nameD n && betw 1 1000000 c && (valsD vs && betw 1 1000000000 e)) := rfl
          rw [er] at q
          refine ⟨rfl, _, rfl, iteF ⟨.ref a, rfl, a, _, 2, vv, rfl, rfl, .inl (.inl ea), rfl, rfl, vs, hv, _, rfl, ?_⟩⟩
          rw [isa_tuple]
          cases vs with
          | tuple zs =>
            refine iteF ⟨.ref a, rfl, a, _, 0, vn, rfl, rfl, .inl (.inl ea), rfl, vn, n, rfl, hn, sn, fun H1 s1 => ⟨_, rfl, ?_⟩⟩
            cases en : nameD n with
            | false =>
              rw [en] at q
              exact iteT (iteT (q H1 s1))
            | true =>
              rw [en] at q
              refine iteF ⟨.ref a, rfl, a, _, 1, vc, rfl, rfl, .inl (.inl (s1 _ _ ea)), rfl, 10, 6, rfl, rfl, ⟨by decide, by decide, by decide⟩, vc, c, 1, 1000000, rfl, hc.up s1, _, rfl, ?_⟩
              cases ec : betw 1 1000000 c with
              | false =>
                rw [ec] at q
                exact iteT (iteT (q H1 s1))
              | true =>
                rw [ec] at q
                cases hv with
                | @tup z zv _ ez hz =>
                  have ev : valsD (.tuple zs) = ((decide (1 ≤ (zs.length : Int)) && decide ((zs.length : Int) ≤ 4)) && zs.all (betw (-1000000000) 1000000000)) := rfl
                  rw [ev] at q
                  refine iteF ⟨.ref a, rfl, a, _, 2, _, rfl, rfl, .inl (.inl (s1 _ _ ea)), rfl, z, zv, rfl, .inr (.inl (.inl (s1 _ _ ez))), 0, _, rfl, rfl, _, rfl, ?_⟩
                  rw [hz.len]
                  by_cases h1 : 1 ≤ (zs.length : Int)
                  · rw [decide_eq_true h1] at q
                    rw [decide_eq_true (show (0 : Int) < (zs.length : Int) by omega)]
                    refine iteT ⟨_, 5, rfl, rfl, _, rfl, ?_⟩
                    by_cases h2 : (zs.length : Int) ≤ 4
                    · rw [decide_eq_true h2] at q
                      rw [decide_eq_true (show (zs.length : Int) < 5 by omega)]
                      refine iteF ⟨.ref a, rfl, a, _, 2, _, rfl, rfl, .inl (.inl (s1 _ _ ea)), rfl, z, rfl, ⟨_, .inl (.inl (s1 _ _ ez))⟩, fun D nD => ?_⟩
                      refine lc_tup (xs := zv) (fun i G => Same H1 G ∧ G D = some (.lst ((bads (betw (-1000000000) 1000000000) (zs.take i)).map V.int))) ⟨same_at (Same.refl H1) nD, upd_same⟩
                        (fun i G hi hp => .inl (.inl (hp.1 _ _ (s1 _ _ ez)))) (fun i x G hx hp => ?_) (fun G hp => ?_)
                      · obtain ⟨d, ed, hd⟩ := hz.get' hx
                        have et : zs.take (i + 1) = zs.take i ++ [d] := by
                          rw [List.take_add_one, ed]
                          rfl
                        have hlen : (bads (betw (-1000000000) 1000000000) (zs.take i)).length < sizeLine := by
                          have q1 := bads_len (betw (-1000000000) 1000000000) (zs.take i)
                          rw [List.length_take] at q1
                          have hb : (4 : Nat) < sizeLine := by decide
                          omega
                        refine ⟨rfl, x, rfl, 10, 9, rfl, rfl, ⟨by decide, by decide, by decide⟩, _, rfl, 10, 9, rfl, rfl, ⟨by decide, by decide, by decide⟩, x, d, -1000000000, 1000000000, rfl, (hd.up s1).up hp.1, _, rfl, ?_⟩
                        rw [et, bads_add]
                        cases betw (-1000000000) 1000000000 d with
                        | true =>
                          refine iteF ⟨hp.1, ?_⟩
                          rw [if_pos rfl, List.append_nil]
                          exact hp.2
                        | false =>
                          refine iteT ⟨_, hp.2, ?_, same_at hp.1 nD, ?_⟩
                          · rw [List.length_map]
                            exact hlen
                          · rw [upd_same, if_neg (by decide), List.map_append]
                            rfl
                      · have hx : zs.take zv.length = zs := List.take_of_length_le (by rw [hz.len]; exact Nat.le_refl _)
                        rw [hx] at hp
                        refine ⟨Nat.zero_le _, fun p np => ?_⟩
                        have s2 : Same H1 (upd G p (.lst [])) := same_at hp.1 (hp.1.free np)
                        refine ⟨.list ((bads (betw (-1000000000) 1000000000) zs).map PyData.int), .list [], .lst (.inl (.inl ?_)) (dp_ints _), .lst (.inl (.inl upd_same)) .nil, pl_ints _, rfl, min_nil _, _, rfl, ?_⟩
                        · rw [upd_ne (ne_of_none hp.2 np)]
                          exact hp.2
                        · rw [eqv_nil, List.isEmpty_map, bads_nil]
                          cases ea2 : zs.all (betw (-1000000000) 1000000000) with
                          | false =>
                            rw [ea2] at q
                            exact iteT (q _ (s1.trans s2))
                          | true =>
                            rw [ea2] at q
                            refine iteF ⟨.ref a, rfl, a, _, 3, ve, rfl, rfl, .inl (.inl (s2 _ _ (s1 _ _ ea))), rfl, 10, 9, rfl, rfl, ⟨by decide, by decide, by decide⟩, ve, e, 1, 1000000000, rfl, (he.up s1).up s2, q _ (s1.trans s2)⟩
                    · rw [decide_eq_false h2] at q
                      rw [decide_eq_false (show ¬ (zs.length : Int) < 5 by omega)]
                      exact iteT (q H1 s1)
                  · rw [decide_eq_false h1] at q
                    rw [decide_eq_false (show ¬ (0 : Int) < (zs.length : Int) by omega)]
                    exact iteF ⟨_, rfl, iteT (q H1 s1)⟩
          | _ =>
            have ev : (nameD n && betw 1 1000000 c && (false && betw 1 1000000000 e)) = false := by simp
            have q2 : ∀ H', Same H H' → Q (.bl false) H' := fun H' s => by
              have := q H' s
              rw [show valsD _ = false from rfl, ev] at this
              exact this
            exact iteT (q2 H (Same.refl H))
        · have er : rowD (.tuple ds) = false := by
            unfold rowD
            split
            · rename_i heq
              cases heq
              exact absurd rfl h4
            · rfl
          rw [er] at q
          refine ⟨rfl, _, rfl, iteNT (fun z => h4 ?_) (iteT (q H (Same.refl H)))⟩
          have z2 := V.int.inj z
          rw [h.len] at z2
          omega
    | _ => exact iteT (q H (Same.refl H))
end
end U1


set_option maxRecDepth 100000
set_option maxHeartbeats 4000000
namespace KX
open PySem PySem.Spec PyProof.Rows L2 RZ
/-! ### for x, y in zip(s, t), s and t tuples, t the shorter one -/
theorem for_zipS {K : PySem.W.Frag} {sa ta : Addr} {us vs : List V} {g : TG} {tb : TS} {Dn : Ends} {σ0 : L2.St} {H0 : Hp} (short : vs.length ≤ us.length) (Inv' : Nat → L2.St → Hp → Prop) (first : Inv' 0 σ0 H0) (seen : ∀ i σ H, Inv' i σ H → SqT K H sa us ∧ SqT K H ta vs)
    (turn : ∀ (i : Nat) (x y : V) (T : Addr) (σ : L2.St) (H : Hp), us[i]? = some x → vs[i]? = some y → Inv' i σ H → H T = none → g (.ref T) σ (upd H T (.tup [x, y])) fun σ2 H2 => tb { Dn with nx := Inv' (i + 1), ct := Inv' (i + 1), bk := Dn.nx } σ2 H2) (last : ∀ σ H, Inv' vs.length σ H → Dn.nx σ H) :
    ∃ Wf : Nat → Nat → L2.St → Hp → Prop, (∃ m, Wf 0 m σ0 H0) ∧ ∀ i m σ H, Wf i m σ H →
      ((ItzT K sa ta).stop i H ∧ Dn.nx σ H) ∨ ((ItzT K sa ta).go i H ∧ ∃ Nx : L2.St → Hp → Prop, (∀ σ' H', Nx σ' H' → ∃ m', m' < m ∧ Wf (i + 1) m' σ' H') ∧ ∀ v H', (ItzT K sa ta).yld i H v H' → g v σ H' fun σ2 H2 => tb { Dn with nx := Nx, ct := Nx, bk := Dn.nx } σ2 H2) := by
  refine ⟨fun i m σ H => m = vs.length - i ∧ i ≤ vs.length ∧ Inv' i σ H, ⟨vs.length, rfl, Nat.zero_le _, first⟩, fun i m σ H w => ?_⟩
  obtain ⟨rfl, le, p⟩ := w
  obtain ⟨q1, q2⟩ := seen i σ H p
  by_cases lt : i < vs.length
  · refine .inr ⟨⟨us, vs, us[i]'(by omega), vs[i], q1, q2, List.getElem?_eq_getElem (by omega), List.getElem?_eq_getElem lt⟩, Inv' (i + 1), fun σ' H' p' => ⟨vs.length - (i + 1), by omega, rfl, lt, p'⟩, fun v H' r => ?_⟩
    obtain ⟨T, x, y, rfl, nT, rfl, e1, e2⟩ := r
    exact turn i x y T σ H (e1 us q1) (e2 vs q2) p nT
  · obtain rfl : i = vs.length := by omega
    exact .inl ⟨⟨us, vs, q1, q2, .inr (Nat.le_refl _)⟩, last σ H p⟩
end KX
namespace U1
open PySem PySem.Spec PyProof.Rows L2 KX
/-- neighbours ascend and have one width -/
def pairsOk : List Rec → Bool
  | a :: b :: r => (ltS a.nm b.nm && decide (a.vals.length = b.vals.length)) && pairsOk (b :: r)
  | _ => true
theorem oneW_cons (a b : Rec) (r : List Rec) : oneW (a :: b :: r) = (decide (a.vals.length = b.vals.length) && oneW (b :: r)) := by
  show ((a :: b :: r).all fun e => decide (e.vals.length = a.vals.length)) = (decide (a.vals.length = b.vals.length) && (b :: r).all fun e => decide (e.vals.length = b.vals.length))
  by_cases h : a.vals.length = b.vals.length
  · rw [decide_eq_true h, Bool.true_and, List.all_cons, decide_eq_true rfl, Bool.true_and]
    simp only [h]
  · have e : decide (b.vals.length = a.vals.length) = false := decide_eq_false (fun z => h z.symm)
    rw [decide_eq_false h, Bool.false_and, List.all_cons, List.all_cons, e]
    simp
theorem pairs_eq : ∀ rs : List Rec, pairsOk rs = (oneW rs && ascS (rs.map (·.nm)))
  | [] => rfl
  | [a] => by
    show true = (((a :: []).all fun e => decide (e.vals.length = a.vals.length)) && true)
    simp
  | a :: b :: r => by
    have ih := pairs_eq (b :: r)
    show ((ltS a.nm b.nm && decide (a.vals.length = b.vals.length)) && pairsOk (b :: r)) = (oneW (a :: b :: r) && (ltS a.nm b.nm && ascS ((b :: r).map (·.nm))))
    rw [ih, oneW_cons]
    cases ltS a.nm b.nm <;> cases decide (a.vals.length = b.vals.length) <;> cases oneW (b :: r) <;> cases ascS ((b :: r).map (·.nm)) <;> rfl
theorem pairs_at : ∀ {rs : List Rec} {i : Nat} {a b : Rec}, pairsOk rs = true → rs[i]? = some a → rs[i + 1]? = some b → ltS a.nm b.nm = true ∧ a.vals.length = b.vals.length
  | x :: y :: r, 0, a, b, h, ha, hb => by
    simp only [pairsOk, Bool.and_eq_true, decide_eq_true_eq] at h
    simp at ha hb
    subst ha hb
    exact h.1
  | x :: y :: r, i + 1, a, b, h, ha, hb => by
    simp only [pairsOk, Bool.and_eq_true, decide_eq_true_eq] at h
    exact pairs_at (rs := y :: r) (i := i) h.2 (by simpa using ha) (by simpa using hb)
  | [x], i, a, b, _, _, hb => by simp at hb
  | [], i, a, b, _, _, hb => by simp at hb
theorem pairs_all : ∀ {rs : List Rec}, (∀ (i : Nat) (a b : Rec), rs[i]? = some a → rs[i + 1]? = some b → ltS a.nm b.nm = true ∧ a.vals.length = b.vals.length) → pairsOk rs = true
  | [], _ => rfl
  | [_], _ => rfl
  | a :: b :: r, h => by
    have h0 := h 0 a b rfl rfl
    have hr := pairs_all (rs := b :: r) fun i x y hx hy => h (i + 1) x y (by simpa using hx) (by simpa using hy)
    simp only [pairsOk, Bool.and_eq_true, decide_eq_true_eq]
    exact ⟨h0, hr⟩
end U1

set_option maxRecDepth 100000
set_option maxHeartbeats 4000000
namespace U1
open PySem PySem.Spec PyProof.Rows L2 KX
abbrev sVS : Stmt := topS 47
abbrev NV : List Str := ["value", "one", "other", "row"]
theorem eqvL_nil : ∀ ds : List PyData, PyData.eqv (.list ds) (.list []) = ds.isEmpty
  | [] => by simp [PyData.eqv, PyData.eqvAll]
  | d :: ds => by simp [PyData.eqv, PyData.eqvAll]
theorem dp_intsL {K : PySem.W.Frag} {H : Hp} : ∀ ns : List Int, DpAll K H (ns.map V.int) (ns.map PyData.int)
  | [] => .nil
  | n :: ns => .cons (.int n) (dp_intsL ns)
theorem flat_ints : ∀ ns : List Int, PyData.plainAll (ns.map PyData.int) = true ∧ PyData.depthAll (ns.map PyData.int) = 0
  | [] => by simp [PyData.plainAll, PyData.depthAll]
  | n :: ns => by simp [PyData.plainAll, PyData.depthAll, PyData.plain, PyData.depth, flat_ints ns]
theorem scVS : FnScope NV ["value"] (defScope sVS) := ⟨rfl, rfl, rfl, by decide +kernel, rfl, by decide +kernel, by decide +kernel⟩
section
variable {P : Program} {w : World} {K : PySem.W.Frag} {mg : Str → Option Value} {base : Heap}
theorem ok_vs {k : Nat} {f fV : Addr} {fd fdV : FuncData} (B : Bl mg) (D : Df K mg "_law_valid_rowset" sVS ["value"] f fd) (DV : Df K mg "_law_valid_row" sVR ["value"] fV fdV) (GV : FnOk P w K mg base CX0 k fV fdV ["value"] spRow) : FnOk P w K mg base CX0 (k + 1) f fd ["value"] spIR := by
  refine D.F.ok scVS (fun vs H Q E h => ?_) (fun cdv A outer s H vs Q E hr h => ?_)
  · obtain ⟨v, d, rfl, _⟩ := h
    rfl
  · obtain ⟨v, d, rfl, hd, hsm, q⟩ := h
    have nd := scVS.nd
    refine ⟨_, pss_cons (ps_if (PW.pt (pw_or (pt_not (pt_val (pe_isD (T := "tuple") (x := "tuple") (by decide +kernel) B.isi B.tuple (by decide +kernel) (pv 0) (by rfl) (by rfl))))
        (pw_or (pt_cmpR op_gt (pe_callB (call_lenK (K := K) rfl) (by rfl) B.len PySem.boot_len (pa_cons (pv 0) pa_nil)) pe_int (nomark _))
        (pw_or1 (pt_cmpR (op_neP hr.units) (pe_lc (own := [("row", 3)]) (g := gName 3) rfl nd (pi_tup (pv 0)) (blkOk_by (N := NV) (sc := defScope sVS) (by decide +kernel)) (fun _ _ _ _ _ => pg_name (i := 3) nd rfl (Or.inl rfl))
          (fun _ _ _ _ _ => pts_one (pt_not (pt_val (pe_call GV hr (by rfl) DV.g DV.F.kp DV.b .nil pass0 (pa_cons (pv 3) pa_nil))))) (fun _ _ _ _ _ => pe_int)) (pe_lst pa_nil) (nomark _)))))) (pss_one (ps_ret pe_bl)) pss_nil)
      (pss_cons (ps_for PassesOwn.never rfl (RZ.pi_zipA (by rfl) B.zip (pa_cons (pv 0) (pa_cons (pe_slice sl_tupA (pv 0) (po_some pe_int) po_none) pa_nil))) (pg_tup rfl (pgs_cons (pg_name (i := 1) nd rfl (Or.inl rfl)) (pgs_cons (pg_name (i := 2) nd rfl (Or.inl rfl)) pgs_nil)))
        (pss_one (ps_if (PW.pt (pw_or (pt_cmpR op_ge_str (pe_ix ix_tup (pv 1) pe_int (fun _ _ => rfl)) (pe_ix ix_tup (pv 2) pe_int (fun _ _ => rfl)) (nomark _))
          (pw_or1 (pt_cmpR op_ne (pe_callB (call_lenK (K := K) rfl) (by rfl) B.len PySem.boot_len (pa_cons (pe_ix ix_tup (pv 1) pe_int (fun _ _ => rfl)) pa_nil)) (pe_callB (call_lenK (K := K) rfl) (by rfl) B.len PySem.boot_len (pa_cons (pe_ix ix_tup (pv 2) pe_int (fun _ _ => rfl)) pa_nil)) (nomark _))))) (pss_one (ps_ret pe_bl)) pss_nil)))
      (pss_one (ps_ret pe_bl))), ?_⟩
    refine ⟨v, rfl, rfl, d, hd, _, rfl, ?_⟩
    rw [isa_tuple]
    cases d with
    | tuple ds =>
      obtain ⟨hl, sm⟩ := hsm ds rfl
      obtain ⟨a, xs, rfl, ea, hx⟩ : ∃ a xs, v = .ref a ∧ H a = some (.tup xs) ∧ Dxs H xs ds := by
        cases hd with
        | @tup a xs _ ea h => exact ⟨a, xs, rfl, ea, h⟩
      have lx := hx.len
      have q : ∀ H', Same H H' → Q (.bl (decide (ds.length ≤ 60) && ((ds.all rowD && oneW (ds.map recD)) && ascS ((ds.map recD).map (·.nm))))) H' := q
      refine iteF ⟨.ref a, rfl, a, xs, rfl, .inr (.inl (.inl ea)), _, 60, rfl, rfl, _, rfl, ?_⟩
      by_cases h60 : ds.length ≤ 60
      · rw [decide_eq_true h60] at q
        rw [decide_eq_false (show ¬ (60 : Int) < ((xs.length : Nat) : Int) by omega)]
        refine iteF ⟨.ref a, rfl, a, rfl, ⟨_, .inl (.inl ea)⟩, fun D0 nD => ?_⟩
        refine lc_tup (xs := xs) (fun i G => Same H G ∧ G D0 = some (.lst ((bads rowD (ds.take i)).map V.int))) ⟨same_new nD, upd_same⟩ (fun i G _ hG => .inl (.inl (hG.1 _ _ ea))) (fun i x G hx2 hG => ?_) (fun G hG => ?_)
        · obtain ⟨sG, eL⟩ := hG
          obtain ⟨e, ee, hxe⟩ := hx.get' hx2
          have hi : i < ds.length := (List.getElem?_eq_some_iff.mp ee).1
          have et : ds.take (i + 1) = ds.take i ++ [e] := by rw [List.take_add_one, ee]; rfl
          have bl := bads_len rowD (ds.take i)
          rw [List.length_take] at bl
          refine ⟨rfl, x, rfl, x, e, rfl, hxe.up sG, sm e (List.mem_of_getElem? ee), fun G2 s2 => ⟨_, rfl, ?_⟩⟩
          cases er : rowD e with
          | true =>
            refine iteF ⟨sG.trans s2, ?_⟩
            rw [et, bads_add, er, if_pos rfl, List.append_nil]
            exact s2 _ _ eL
          | false =>
            refine iteT ⟨_, s2 _ _ eL, ?_, same_at (sG.trans s2) nD, ?_⟩
            · rw [List.length_map]
              have hb : (1000 : Nat) < sizeLine := by decide
              omega
            · rw [upd_same, et, bads_add, er, if_neg (by decide), List.map_append]
              rfl
        · obtain ⟨sG, eL⟩ := hG
          rw [List.take_of_length_le (by omega)] at eL
          refine ⟨Nat.zero_le _, fun pe ne => ?_⟩
          have sn := same_new (o := .lst []) ne
          obtain ⟨f1, f2⟩ := flat_ints (bads rowD ds)
          refine ⟨.list ((bads rowD ds).map .int), .list [], .lst (.inl (.inl (sn _ _ eL))) (dp_intsL _), .lst (.inl (.inl upd_same)) .nil, by simp only [PyData.plain]; exact f1, rfl, Nat.le_trans (Nat.min_le_left _ _) (by simp only [PyData.depth]; omega), _, rfl, ?_⟩
          have e1 : ((bads rowD ds).map PyData.int).isEmpty = ds.all rowD := by
            rw [← bads_nil]
            cases bads rowD ds <;> rfl
          rw [eqvL_nil, e1]
          have s1 : Same H (upd G pe (.lst [])) := sG.trans sn
          clear eL
          generalize upd G pe (.lst []) = G1 at s1 ⊢
          cases er : ds.all rowD with
          | false =>
            rw [er] at q
            exact iteT (q G1 s1)
          | true =>
            rw [er] at q
            obtain ⟨rs, rfl⟩ := rows_rec er
            rw [recs_back] at q
            rw [List.length_map] at lx
            have q : ∀ H', Same H H' → Q (.bl (pairsOk rs)) H' := by rw [pairs_eq]; exact q
            refine iteF ?_
            have hv : Dx H (.ref a) (.tuple (rs.map encR)) := .tup ea hx
            refine ⟨.ref a, rfl, .ref a, rfl, 1, rfl, ?_⟩
            refine (show ∀ {σ : L2.St} {H : Hp} {Q : Option Int → Hp → Prop}, Q none H → tNoPart σ H Q from fun h => h) (sl_same (hv.up s1) fun H2 p s2 dp => ?_)
            rw [show (1 : Int) = ((1 : Nat) : Int) from rfl, cutD_from, ← List.map_drop] at dp
            have s12 := s1.trans s2
            obtain ⟨ys, ep, hp⟩ : ∃ ys, H2 p = some (.tup ys) ∧ Dxs H2 ys ((rs.drop 1).map encR) := by
              cases dp with
              | @tup _ ys _ ep h => exact ⟨ys, ep, h⟩
            have ly := hp.len
            rw [List.length_map, List.length_drop] at ly
            refine ⟨a, p, xs, ys, rfl, .inr ⟨.inl (.inl (s12 _ _ ea)), .inl (.inl ep), ?_⟩⟩
            refine for_zipS (us := xs) (vs := ys) (by omega) (fun i σ F => Same H2 F ∧ (∃ o1 o2 : Option V, σ = [some (.ref a), o1, o2, none]) ∧ ∀ (j : Nat) (r e : Rec), j < i → rs[j]? = some r → rs[j + 1]? = some e → ltS r.nm e.nm = true ∧ r.vals.length = e.vals.length)
              ⟨Same.refl H2, ⟨none, none, rfl⟩, fun j r e h => absurd h (by omega)⟩ (fun i σ F hF => ⟨.inl (.inl (hF.1 _ _ (s12 _ _ ea))), .inl (.inl (hF.1 _ _ ep))⟩) (fun i x y T σ F hx2 hy2 hF nT => ?_) (fun σ F hF => ?_)
            · obtain ⟨sF, ⟨o1, o2, rfl⟩, done⟩ := hF
              obtain ⟨d1, ed1, hd1⟩ := hx.get' hx2
              rw [List.getElem?_map] at ed1
              obtain ⟨r, er1, rfl⟩ := Option.map_eq_some_iff.mp ed1
              obtain ⟨d2, ed2, hd2⟩ := hp.get' hy2
              rw [List.getElem?_map, List.getElem?_drop, Nat.add_comm] at ed2
              obtain ⟨e, er2, rfl⟩ := Option.map_eq_some_iff.mp ed2
              have sT : Same F (upd F T (.tup [x, y])) := same_new nT
              obtain ⟨b1, z1, v1, rfl, eb1, ez1, ev1⟩ := row_dx (((hd1.up s12).up sF).up sT)
              obtain ⟨b2, z2, v2, rfl, eb2, ez2, ev2⟩ := row_dx ((hd2.up sF).up sT)
              refine ⟨T, _, rfl, .inl (.inl upd_same), rfl, _, _, rfl, _, _, rfl, rfl, ?_⟩
              have sAll : Same H (upd F T (.tup [.ref b1, .ref b2])) := (s12.trans sF).trans sT
              have bad : (ltS r.nm e.nm = false ∨ r.vals.length ≠ e.vals.length) → Q (.bl false) (upd F T (.tup [.ref b1, .ref b2])) := fun h => by
                have eP : pairsOk rs = false := by
                  cases z : pairsOk rs with
                  | false => rfl
                  | true =>
                    obtain ⟨p1, p2⟩ := pairs_at z er1 er2
                    rcases h with h | h
                    · rw [h] at p1
                      cases p1
                    · exact absurd p2 h
                rw [eP] at q
                exact q _ sAll
              refine ⟨.ref b1, rfl, b1, _, 0, .str r.nm, rfl, rfl, .inl (.inl eb1), rfl, .ref b2, rfl, b2, _, 0, .str e.nm, rfl, rfl, .inl (.inl eb2), rfl, r.nm, e.nm, rfl, rfl, _, rfl, ?_⟩
              change if (!ltS r.nm e.nm) = true then _ else _
              cases el : ltS r.nm e.nm with
              | false => exact iteT (iteT (bad (.inl el)))
              | true =>
                refine iteF ⟨.ref b1, rfl, b1, _, 2, .ref z1, rfl, rfl, .inl (.inl eb1), rfl, z1, v1, rfl, .inr (.inl (.inl ez1)), .ref b2, rfl, b2, _, 2, .ref z2, rfl, rfl, .inl (.inl eb2), rfl, z2, v2, rfl, .inr (.inl (.inl ez2)), rfl, _, rfl, ?_⟩
                rw [ev1, ev2, List.length_map, List.length_map]
                by_cases ew : r.vals.length = e.vals.length
                · rw [decide_eq_true (show V.int (r.vals.length : Int) = V.int (e.vals.length : Int) by rw [ew])]
                  refine iteF ⟨sF.trans sT, ⟨_, _, rfl⟩, fun j r' e' lt h1 h2 => ?_⟩
                  by_cases ej : j < i
                  · exact done j r' e' ej h1 h2
                  · obtain rfl : j = i := by omega
                    rw [er1] at h1
                    rw [er2] at h2
                    cases h1
                    cases h2
                    exact ⟨el, ew⟩
                · rw [decide_eq_false (fun z => ew (by have := V.int.inj z; omega))]
                  exact iteT (bad (.inr ew))
            · obtain ⟨sF, _, done⟩ := hF
              have eP : pairsOk rs = true := pairs_all fun i r e h1 h2 => done i r e (by have := (List.getElem?_eq_some_iff.mp h2).1; omega) h1 h2
              rw [eP] at q
              exact q F (s12.trans sF)
      · rw [decide_eq_false h60] at q
        rw [decide_eq_true (show (60 : Int) < ((xs.length : Nat) : Int) by omega)]
        exact iteT (iteT (q H (Same.refl H)))
    | _ => exact iteT (iteT (q H (Same.refl H)))
end
end U1

set_option maxRecDepth 100000
set_option maxHeartbeats 4000000
namespace U1
open PySem PySem.Spec PyProof.Rows L2 KX
theorem gi_drawS {l : Addr} {σ0 : L2.St} {L : List (V × PyData)} {M : List (Addr × List V × List PyData)} {n : Int} {tn : TE} (i : Nat) (h0 : σ0[i]? = some (some (.ref l))) (h : GI l (KX.Env l σ0 L M) (· = n) tn) (n0 : 0 < n) (n1 : n < 2 ^ 64) :
    GI l (KX.Env l σ0 L M) (fun k => 0 ≤ k ∧ k < n) (tCall spDraw [] E0 (tCons (tVar i) (tCons tn tNil))) := fun σ H Q st p q =>
  ⟨.ref l, by rw [p.1]; exact h0, h σ H _ st p fun H1 i e k st1 => ⟨l, i, rfl, st1, by omega, by omega, fun H2 m k2 st2 m0 m1 => q H2 m ⟨m0, by omega⟩ (k.trans k2) st2⟩⟩
theorem gds_seq {l : Addr} {P : KX.PSt} {Ss : List PyData → Prop} {ts : TA} {u : TS} {i : Nat} {D : Ends} {σ : L2.St} {H : Hp} (h : GDs l P Ss ts) (st : StO H l) (p : P σ H)
    (k : ∀ Hb xs ds, Ss ds → Keep l H Hb → StO Hb l → Dxs (hid l Hb) xs ds → xs.length ≤ sizeLine ∧ ∀ a, Hb a = none → u D (σ.set i (some (.ref a))) (upd Hb a (.lst xs))) : tSeq (tAsg (tLst ts) (gName i)) u D σ H := h σ H _ st p fun Hb xs ds s kb stb xb => k Hb xs ds s kb stb xb
theorem gds_par {l : Addr} {P : KX.PSt} {Ss : List PyData → Prop} {ts : TA} {u : TS} {i j : Nat} {D : Ends} {σ : L2.St} {H : Hp} (h : GDs l P Ss ts) (hz : ∀ ds, Ss ds → ds.length = 2) (st : StO H l) (p : P σ H)
    (k : ∀ Hb v1 v2 d1 d2, Ss [d1, d2] → Keep l H Hb → StO Hb l → Dx (hid l Hb) v1 d1 → Dx (hid l Hb) v2 d2 → u D ((σ.set i (some v1)).set j (some v2)) Hb) : tSeq (tPar i j ts) u D σ H := h σ H _ st p fun Hb xs ds s kb stb xb => by
  have z := hz ds s
  match ds, z with
  | [d1, d2], _ =>
  match xs, xb with
  | [v1, v2], .cons h1 (.cons h2 .nil) => exact ⟨v1, v2, rfl, k Hb v1 v2 d1 d2 s kb stb h1 h2⟩
abbrev sUn : Stmt := topS 42
/-- the values that are nothing in particular -/
def unL : List PyData := [.none, .bool true, .bool false, .int 0, .int 1, .int (-1), .str "", .str "a", .str "A", .str "a-b", .tuple [], .list [], .dict [], .tuple [.int 1], .tuple [.str "a"], .tuple [.str "a", .int 1, .tuple [.int 0], .int 1], .int (10 ^ (39 : Int).toNat)]
theorem unL_at {d : PyData} (k : Nat) (h : unL[k]? = some d) : d ∈ unL := List.mem_of_getElem? h
def spUn : Sp := fun vs H Q _ => ∃ (l : Addr), vs = [.ref l] ∧ StO H l ∧ ∀ H' v d, Keep l H H' → StO H' l → d ∈ unL → Dx (hid l H') v d → Q v H'
theorem scUn : FnScope ["stream", "some"] ["stream"] (defScope sUn) := ⟨rfl, rfl, rfl, by decide +kernel, rfl, by decide +kernel, by decide +kernel⟩
section
variable {P : Program} {w : World} {K : PySem.W.Frag} {mg : Str → Option Value} {base : Heap}
theorem ok_un {k : Nat} {f fD : Addr} {fd fdD : FuncData} (B : Bl mg) (D : Df K mg "_law_unrelated" sUn ["stream"] f fd) (DD : Df K mg "_law_draw" sDraw ["stream", "total"] fD fdD) (GDr : FnOk P w K mg base CX0 k fD fdD ["stream", "total"] spDraw) :
    FnOk P w K mg base CX0 (k + 1) f fd ["stream"] spUn := by
  refine D.F.ok scUn (fun vs H Q E h => ?_) (fun cdv A outer s H vs Q E hr h => ?_)
  · obtain ⟨l, rfl, _⟩ := h
    rfl
  · obtain ⟨l, rfl, st, q⟩ := h
    have nd := scUn.nd
    refine ⟨_, pss_cons (ps_set (i := 1) nd rfl (.inl rfl) (pe_lst (pa_cons pe_non (pa_cons pe_bl (pa_cons pe_bl (pa_cons pe_int (pa_cons pe_int (pa_cons (pe_un un_neg pe_int) (pa_cons pe_str (pa_cons pe_str (pa_cons pe_str (pa_cons pe_str (pa_cons (pe_tup pa_nil) (pa_cons (pe_lstS pa_nil) (pa_cons pe_dnewK
        (pa_cons (pe_tup (pa_cons pe_int pa_nil)) (pa_cons (pe_tup (pa_cons pe_str pa_nil)) (pa_cons (pe_tup (pa_cons pe_str (pa_cons pe_int (pa_cons (pe_tup (pa_cons pe_int pa_nil)) (pa_cons pe_int pa_nil))))) (pa_cons (pe_op op_pow pe_int pe_int) pa_nil)))))))))))))))))))
      (pss_one (ps_ret (pe_ix ix_list (pv 1) (pe_call GDr hr (by rfl) DD.g DD.F.kp DD.b .nil pass0 (pa_cons (pv 0) (pa_cons pe_int pa_nil))) (fun _ _ => rfl)))), ?_⟩
    have con : ∀ {w0 : V} {d : PyData} (k : Nat), (∀ H, Dx H w0 d) → unL[k]? = some d → ∀ {σ0 : L2.St} {L : List (V × PyData)} {M : List (Addr × List V × List PyData)}, GD l (KX.Env l σ0 L M) (· ∈ unL) (tC w0) := fun {w0 d} k h g σ0 L M => (gd_c h).imp fun _ e => by subst e; exact unL_at k g
    have ci : ∀ {n : Int} {t : TE} (k : Nat) {σ0 : L2.St} {L : List (V × PyData)} {M : List (Addr × List V × List PyData)}, GI l (KX.Env l σ0 L M) (· = n) t → unL[k]? = some (.int n) → GD l (KX.Env l σ0 L M) (· ∈ unL) t := fun {n t} k {σ0 L M} h g => (gd_int h).imp fun d e => by
      obtain ⟨i, rfl, rfl⟩ := e
      exact unL_at k g
    have one : ∀ {P : PSt} {t : TE} {x : PyData} (kp : Kp l P) (h : GD l P (· = x) t), GD l P (· = .tuple [x]) (tTup (tCons t tNil)) := fun {P t x} kp h =>
      (gd_tup (gds_cons kp h gds_nil) fun ds z => by obtain ⟨x, y, rfl, _, rfl⟩ := z; show 1 ≤ sizeLine; decide).imp fun d e => by
        obtain ⟨ds, rfl, x, y, rfl, rfl, rfl⟩ := e
        rfl
    change tSeq _ _ _ ([some (.ref l), none] : L2.St) H
    refine gm_seq (S := Al (· ∈ unL) 17) (P := KX.Env l _ [] []) ?_ st ⟨rfl, alld_nil, allm_nil⟩ fun H1 p1 xs1 ds1 g1 k1 st1 n1 e1 x1 => ?_
    · exact al_lst (al_cons kp_env (con 0 (d := .none) (fun H => .non) rfl) (al_cons kp_env (con 1 (d := .bool true) (fun H => .bl true) rfl) (al_cons kp_env (con 2 (d := .bool false) (fun H => .bl false) rfl) (al_cons kp_env (con 3 (d := .int 0) (fun H => .int 0) rfl)
        (al_cons kp_env (con 4 (d := .int 1) (fun H => .int 1) rfl) (al_cons kp_env (ci 5 (gi_val (n := -1) fun σ H Q q => ⟨_, rfl, q⟩) rfl) (al_cons kp_env (con 6 (d := .str "") (fun H => .str _) rfl) (al_cons kp_env (con 7 (d := .str "a") (fun H => .str _) rfl)
        (al_cons kp_env (con 8 (d := .str "A") (fun H => .str _) rfl) (al_cons kp_env (con 9 (d := .str "a-b") (fun H => .str _) rfl)
        (al_cons kp_env ((gd_tup gds_nil fun ds e => by subst e; exact Nat.zero_le _).imp fun d e => by
          obtain ⟨ds, rfl, rfl⟩ := e
          exact unL_at 10 rfl)
        (al_cons kp_env ((gd_lst gds_nil fun ds e => by subst e; exact Nat.zero_le _).imp fun d e => by
          obtain ⟨ds, rfl, rfl⟩ := e
          exact unL_at 11 rfl)
        (al_cons kp_env (gd_dict.imp fun d e => by subst e; exact unL_at 12 rfl)
        (al_cons kp_env ((one kp_env (gd_c (v := .int 1) (d := .int 1) fun H => .int 1)).imp fun d e => by subst e; exact unL_at 13 rfl)
        (al_cons kp_env ((one kp_env (gd_c (v := .str "a") (d := .str "a") fun H => .str _)).imp fun d e => by subst e; exact unL_at 14 rfl)
        (al_cons kp_env ((gd_tup (gds_cons kp_env (gd_c (v := .str "a") (d := .str "a") fun H => .str _) (gds_cons kp_env (gd_c (v := .int 1) (d := .int 1) fun H => .int _) (gds_cons kp_env (one kp_env (gd_c (v := .int 0) (d := .int 0) fun H => .int _)) (gds_cons kp_env (gd_c (v := .int 1) (d := .int 1) fun H => .int _) gds_nil))))
            fun ds z => by obtain ⟨x, y, rfl, _, x2, y2, rfl, _, x3, y3, rfl, _, x4, y4, rfl, _, rfl⟩ := z; show 4 ≤ sizeLine; decide).imp fun d e => by
          obtain ⟨ds, rfl, x, y, rfl, rfl, x2, y2, rfl, rfl, x3, y3, rfl, rfl, x4, y4, rfl, rfl, rfl⟩ := e
          exact unL_at 15 rfl)
        (al_cons kp_env (ci 16 (gi_val (n := 10 ^ (39 : Int).toNat) fun σ H Q q => ⟨10, 39, rfl, rfl, ⟨by decide, by decide, by decide⟩, q⟩) rfl) al_nil))))))))))))))))) (by decide)
    refine (al_ix (n := 17) (m := 17) kp_env ((gm_env (σ0 := ([some (.ref l), some (.ref p1)] : L2.St)) (xs := xs1) (ds := ds1) rfl (by simp)).imp fun _ e => by subst e; exact g1) (gi_drawS (n := 17) 0 rfl (gi_val fun σ H Q q => q) (by decide) (by decide)) rfl) _ _ _ st1 (show KX.Env l _ [] [(p1, xs1, ds1)] _ H1 from ⟨rfl, alld_nil, allm_one n1 e1 x1⟩) fun H2 v d hd k2 st2 xv => ?_
    exact q H2 v d (k1.trans k2) st2 hd xv
end
end U1

set_option maxRecDepth 100000
set_option maxHeartbeats 2000000
namespace U1
open PySem PySem.Spec PyProof.Rows L2 KX
theorem sm_name {n : Nat} {x : Str} (hn : n < 61) (h : NameOf n x) : smS (.str x) := by
  have hb : (8 : Nat) ≤ sizeLine := by decide
  exact Nat.le_trans (name_ok hn h).2 hb
def ROk (wd : Nat) (r : Rec) : Prop := ∃ n, n < 61 ∧ RecOk wd n r
theorem rec_sm {wd : Nat} {r : Rec} (h : ROk wd r) : smA (encR r) := fun d hd => by
  obtain ⟨n, hn, o⟩ := h
  simp at hd
  rcases hd with rfl | rfl | rfl | rfl
  · exact sm_name hn o.nm
  all_goals trivial
theorem rec_rd {wd : Nat} {r : Rec} (h : ROk wd r) (w1 : 1 ≤ wd) (w4 : wd ≤ 4) : rowD (encR r) = true := by
  obtain ⟨n, hn, o⟩ := h
  exact rec_row hn o w1 w4
theorem wtAll_le {W : Nat} : ∀ {es : List PyData}, (∀ e ∈ es, wt e ≤ W) → wtAll es ≤ es.length * W
  | [], _ => by simp [wtAll]
  | e :: es, h => by
    have h1 := h e (by simp)
    have h2 := wtAll_le (es := es) fun x hx => h x (by simp [hx])
    simp only [wtAll, List.length_cons, Nat.succ_mul]
    omega
theorem depthAll_le {k : Nat} : ∀ {es : List PyData}, (∀ e ∈ es, e.depth ≤ k) → PyData.depthAll es ≤ k
  | [], _ => by simp [PyData.depthAll]
  | e :: es, h => by
    have h1 := h e (by simp)
    have h2 := depthAll_le (es := es) fun x hx => h x (by simp [hx])
    simp only [PyData.depthAll]
    omega
theorem rec_fine {wd : Nat} {r : Rec} (h : ROk wd r) (hw : wd ≤ 4) : fine (10 ^ 40) (encR r) = true ∧ wt (encR r) ≤ 20 ∧ (encR r).depth ≤ 50 := by
  obtain ⟨n, hn, h⟩ := h
  have l8 := (name_ok hn h.nm).2
  have hl := h.len
  have c0 := h.c0
  have c1 := h.c1
  have e0 := h.e0
  have e1 := h.e1
  obtain ⟨suf, ex, hs, hx⟩ := h.nm
  refine ⟨?_, ?_, depth_rec r⟩
  · simp only [encR, fine, fineAll, Bool.and_eq_true]
    refine ⟨?_, decide_eq_true (by omega), fine_ints _ h.vs (by decide), decide_eq_true (by omega), trivial⟩
    refine List.all_eq_true.mpr fun c hc => decide_eq_true ?_
    rw [ex] at hc
    rcases List.mem_append.mp hc with hc | hc
    · unfold baseL at hc
      rcases List.mem_append.mp hc with hc | hc
      · rcases List.mem_append.mp hc with hc | hc
        · have := List.mem_singleton.mp hc
          omega
        · split at hc
          · have := List.mem_singleton.mp hc
            omega
          · cases hc
      · split at hc
        · have := List.mem_singleton.mp hc
          omega
        · cases hc
    · have := hs c hc
      omega
  · simp only [encR, wt, wtAll, wt_ints]
    omega
theorem big_show {d : PyData} (f : fine (10 ^ 40) d = true) (h2 : wt d ≤ 2000) (h3 : d.depth ≤ 100) : d.showable = true ∧ d.depth ≤ 100 ∧ d.shown.length ≤ sizeLine := by
  have h1 := shown_le (B := 10 ^ 40) (by decide) d f
  refine ⟨showable_fine (B := 10 ^ 40) (by decide) d f, h3, ?_⟩
  rw [sizeLine_eq]
  omega
/-! ### names up to number 60 -/
theorem base_cases (n : Nat) (hn : n < 61) : (n < 52 ∧ baseL n = (97 + n / 2) :: (if n % 2 = 1 then [97] else [])) ∨ (52 ≤ n ∧ baseL n = (97 + (n / 2 - 26)) :: ((if n % 2 = 1 then [97] else []) ++ [98])) := by
  by_cases h : n < 52
  · refine .inl ⟨h, ?_⟩
    have m26 : n / 2 % 26 = n / 2 := Nat.mod_eq_of_lt (by omega)
    have g51 : ¬ n > 51 := by omega
    simp [baseL, m26, g51]
  · refine .inr ⟨by omega, ?_⟩
    have m26 : n / 2 % 26 = n / 2 - 26 := by omega
    have g51 : n > 51 := by omega
    have d52 : n / 52 = 1 := by omega
    simp [baseL, m26, g51, d52]
theorem name_inj {n m : Nat} {x : Str} (hn : n < 61) (hm : m < 61) (h1 : NameOf n x) (h2 : NameOf m x) : n = m := by
  obtain ⟨s1, e1, _, k1⟩ := h1
  obtain ⟨s2, e2, _, k2⟩ := h2
  rw [e1] at e2
  rcases base_cases n hn with ⟨a1, b1⟩ | ⟨a1, b1⟩ <;> rcases base_cases m hm with ⟨a2, b2⟩ | ⟨a2, b2⟩ <;> rw [b1, b2] at e2 <;> simp only [List.cons_append, List.cons.injEq] at e2 <;> obtain ⟨e3, e4⟩ := e2 <;>
    rcases Nat.mod_two_eq_zero_or_one n with z | z <;> rcases Nat.mod_two_eq_zero_or_one m with y | y <;> simp [z, y] at e4 <;> have l := congrArg List.length e4 <;> (try simp at l) <;> (try omega)
/-- a text that may be a name's: a letter first, a or b second -/
def nmx : List Nat → Bool
  | [] => false
  | [c] => decide (97 ≤ c)
  | c :: d :: _ => decide (97 ≤ c) && decide (d ≤ 98)
theorem nmx_of {n : Nat} {x : Str} (hn : n < 61) (h : NameOf n x) : nmx x.cps.toList = true := by
  obtain ⟨s, e, _, k⟩ := h
  rw [e]
  rcases base_cases n hn with ⟨a1, b1⟩ | ⟨a1, b1⟩ <;> rw [b1] <;> rcases Nat.mod_two_eq_zero_or_one n with z | z <;> simp [z]
  · have : s = [] := List.eq_nil_of_length_eq_zero (by omega)
    subst this
    simp [nmx]
  · simp [nmx]
  · simp [nmx]
  · simp [nmx]
def leN (a b : Str) : Bool := decide (a.cps.toList ≤ b.cps.toList)
theorem le_rec {a b : Rec} (h : a.nm = b.nm → a = b) : PySem.W.dataLe false encR a b = leN a.nm b.nm := by
  show (!PySem.W.dataLt (encR b) (encR a)) = _
  by_cases e : a.nm = b.nm
  · have := h e
    subst this
    have z : PySem.W.dataLt (encR a) (encR a) = false := lex_irrefl _
    rw [z]
    exact (decide_eq_true (List.le_refl _)).symm
  · have ne : PyData.eqv (.str b.nm) (.str a.nm) = false := by
      simp [PyData.eqv]
      exact fun z => e z.symm
    unfold encR
    rw [PySem.W.dataLt_tuple, PySem.W.dataLt_cons (by simp [PySem.W.alike]), ne, if_neg (by decide), PySem.W.dataLt_str]
    exact PySem.W.not_lt_str _ _
theorem made_dist {wd : Nat} {recs : List Rec} (h : Made wd recs) (hl : recs.length ≤ 61) : ∀ a ∈ recs, ∀ b ∈ recs, a.nm = b.nm → a = b := fun r1 h1 r2 h2 e => by
  obtain ⟨i, hi, e1⟩ := List.getElem_of_mem h1
  obtain ⟨j, hj, e2⟩ := List.getElem_of_mem h2
  have a := (h i r1 (by rw [List.getElem?_eq_getElem hi, e1])).nm
  have b := (h j r2 (by rw [List.getElem?_eq_getElem hj, e2])).nm
  rw [e] at a
  have := name_inj (by omega) (by omega) a b
  subst this
  rw [← e1, ← e2]
theorem made_nodup {wd : Nat} {recs : List Rec} (h : Made wd recs) (hl : recs.length ≤ 61) : (recs.map (·.nm)).Nodup := by
  rw [List.nodup_iff_pairwise_ne, List.pairwise_iff_getElem]
  intro i j hi hj lt e
  rw [List.length_map] at hi hj
  rw [List.getElem_map, List.getElem_map] at e
  have a := (h i _ (List.getElem?_eq_getElem hi)).nm
  have b := (h j _ (List.getElem?_eq_getElem hj)).nm
  rw [e] at a
  have := name_inj (by omega) (by omega) a b
  omega
theorem names_sort {wd : Nat} {recs : List Rec} (h : Made wd recs) (hl : recs.length ≤ 61) : (sortR recs).map (·.nm) = (recs.map (·.nm)).mergeSort leN :=
  List.map_mergeSort fun a ha b hb => le_rec (made_dist h hl a ha b hb)
theorem le_tot (a b : Str) : (leN a b || leN b a) = true := by
  unfold leN
  rcases List.le_total a.cps.toList b.cps.toList with h | h
  · rw [decide_eq_true h]; rfl
  · rw [decide_eq_true h]; simp
theorem le_tr (a b c : Str) (h1 : leN a b = true) (h2 : leN b c = true) : leN a c = true :=
  decide_eq_true (List.le_trans (of_decide_eq_true h1) (of_decide_eq_true h2))
theorem asc_of : ∀ {ns : List Str}, ns.Pairwise (fun a b => leN a b = true) → ns.Nodup → ascS ns = true
  | [], _, _ => rfl
  | [_], _, _ => rfl
  | a :: b :: r, hp, nd => by
    have le : a.cps.toList ≤ b.cps.toList := of_decide_eq_true ((List.pairwise_cons.mp hp).1 b (by simp))
    have ne : a ≠ b := fun z => (List.nodup_cons.mp nd).1 (by rw [z]; simp)
    have lt : a.cps.toList < b.cps.toList := by
      rcases List.le_iff_lt_or_eq.mp le with h | h
      · exact h
      · exact absurd (by
          cases a with
          | mk x =>
            cases b with
            | mk y =>
              have : x = y := Array.toList_inj.mp h
              rw [this]) ne
    show (ltS a b && ascS (b :: r)) = true
    rw [asc_of (List.pairwise_cons.mp hp).2 (List.nodup_cons.mp nd).2]
    show (decide _ && true) = true
    rw [decide_eq_true lt]
    rfl
theorem asc_sort {wd : Nat} {recs : List Rec} (h : Made wd recs) (hl : recs.length ≤ 61) : ascS ((sortR recs).map (·.nm)) = true := by
  rw [names_sort h hl]
  exact asc_of (List.pairwise_mergeSort le_tr le_tot _) ((List.mergeSort_perm _ _).nodup_iff.mpr (made_nodup h hl))
theorem names_nodup {wd : Nat} {recs : List Rec} (h : Made wd recs) (hl : recs.length ≤ 61) : ((sortR recs).map (·.nm)).Nodup := by
  rw [names_sort h hl]
  exact (List.mergeSort_perm _ _).nodup_iff.mpr (made_nodup h hl)
theorem sort_rok {wd : Nat} {recs : List Rec} (h : Made wd recs) (hl : recs.length ≤ 61) : ∀ r ∈ sortR recs, ROk wd r := fun r hr => by
  have hr : r ∈ recs := List.mem_mergeSort.mp hr
  obtain ⟨i, hi, e⟩ := List.getElem_of_mem hr
  exact ⟨i, by omega, h i r (by rw [List.getElem?_eq_getElem hi, e])⟩
theorem eqv_ints : ∀ xs ys : List Int, PyData.eqvAll (xs.map .int) (ys.map .int) = decide (xs = ys)
  | [], [] => by simp [PyData.eqvAll]
  | [], y :: ys => by simp [PyData.eqvAll]
  | x :: xs, [] => by simp [PyData.eqvAll]
  | x :: xs, y :: ys => by
    rw [List.map_cons, List.map_cons, PySem.W.eqv_all_cons, eqv_ints xs ys]
    by_cases h : x = y <;> by_cases h2 : xs = ys <;> simp [PyData.eqv, h, h2]
/-! ### [row for row in rows if ..] -/
theorem filter_at (f : Rec → Bool) {rs : List Rec} {i : Nat} {r : Rec} (h : rs[i]? = some r) : (rs.take (i + 1)).filter f = (rs.take i).filter f ++ (if f r = true then [r] else []) := by
  rw [List.take_add_one, h, List.filter_append]
  by_cases z : f r = true
  · simp [z]
  · simp [z]
theorem lc_filter {K : PySem.W.Frag} {a D : Addr} {xs : List V} {rs : List Rec} {g : TG} {tt : TT} {te : TE} {vs : List Nat} {σ : L2.St} {H1 : Hp} {Qd : Hp → Prop} (f : Rec → Bool) (nD : H1 D = none) (ea : H1 a = some (.tup xs)) (hx : Dxs H1 xs (rs.map encR)) (hl : rs.length ≤ 1000)
    (hs : ∀ (r : Rec) (x : V) (G : Hp), r ∈ rs → Same H1 G → Dx G x (encR r) → ∀ (Pt : V → Hp → Prop) (Pf : Hp → Prop), (if f r = true then Pt x G else Pf G) → g x (wipe σ vs) G fun σ2 H2 => wipe σ2 vs = wipe σ vs ∧ tt σ2 H2 fun b H3 => if b = true then te σ2 H3 Pt else Pf H3)
    (hd : ∀ G ys, Same H1 G → G D = some (.lst ys) → Dxs (hid D G) ys ((rs.filter f).map encR) → Qd G) :
    ∃ W : Nat → Nat → Hp → Prop, (∃ m, W 0 m (upd H1 D (.lst []))) ∧ ∀ i m H, W i m H →
      ((Itt K a).stop i H ∧ Qd H) ∨ ((Itt K a).go i H ∧ ∃ Nx : Hp → Prop, (∀ H', Nx H' → ∃ m', m' < m ∧ W (i + 1) m' H') ∧ ∀ x H', (Itt K a).yld i H x H' → g x (wipe σ vs) H' fun σ2 H2 => wipe σ2 vs = wipe σ vs ∧ tt σ2 H2 fun b H3 =>
        if b = true then te σ2 H3 fun y H4 => ∃ acc, H4 D = some (.lst acc) ∧ acc.length < sizeLine ∧ Nx (upd H4 D (.lst (acc ++ [y]))) else Nx H3) := by
  have lx := hx.len
  rw [List.length_map] at lx
  refine lc_tup (xs := xs) (fun i G => Same H1 G ∧ ∃ ys, G D = some (.lst ys) ∧ Dxs (hid D G) ys (((rs.take i).filter f).map encR)) ⟨same_new nD, [], upd_same, .nil⟩ (fun i G _ hG => .inl (.inl (hG.1 _ _ ea))) (fun i x G hxi hG => ?_) (fun G hG => ?_)
  · obtain ⟨sG, ys, eD, hy⟩ := hG
    obtain ⟨d, ed, hdx⟩ := hx.get' hxi
    rw [List.getElem?_map] at ed
    obtain ⟨r, er, rfl⟩ := Option.map_eq_some_iff.mp ed
    have el := filter_at f er
    have ly : ys.length ≤ i := by
      rw [hy.len, List.length_map]
      exact Nat.le_trans (List.length_filter_le _ _) (by rw [List.length_take]; omega)
    have ii : i < rs.length := (List.getElem?_eq_some_iff.mp er).1
    refine hs r x G (List.mem_of_getElem? er) sG (hdx.up sG) _ _ ?_
    by_cases lt : f r = true
    · rw [if_pos lt] at el ⊢
      refine ⟨ys, eD, ?_, same_at sG nD, ys ++ [x], upd_same, ?_⟩
      · have hb : (1000 : Nat) < sizeLine := by decide
        omega
      · rw [el, List.map_append]
        refine (hy.up fun c u e => ?_).app (.cons ((hdx.up (H' := hid D (upd G D (.lst (ys ++ [x])))) fun c u e => ?_)) .nil)
        · obtain ⟨nc, e⟩ := hid_some e
          rw [hid_at nc, upd_ne nc]
          exact e
        · have nc : c ≠ D := ne_of_none e nD
          rw [hid_at nc, upd_ne nc]
          exact sG _ _ e
    · rw [if_neg lt] at el ⊢
      rw [List.append_nil] at el
      exact ⟨sG, ys, eD, by rw [el]; exact hy⟩
  · obtain ⟨sG, ys, eD, hy⟩ := hG
    rw [List.take_of_length_le (by omega)] at hy
    exact hd G ys sG eD hy
/-- a list of ints out of the rows -/
theorem lc_ints {K : PySem.W.Frag} {a D : Addr} {xs : List V} {rs : List Rec} {g : TG} {tt : TT} {te : TE} {vs : List Nat} {σ : L2.St} {H1 : Hp} {Qd : Hp → Prop} (f : Rec → Int) (nD : H1 D = none) (ea : H1 a = some (.tup xs)) (hx : Dxs H1 xs (rs.map encR)) (hl : rs.length ≤ 1000)
    (hs : ∀ (r : Rec) (x : V) (G : Hp), r ∈ rs → Same H1 G → Dx G x (encR r) → ∀ (Pt : V → Hp → Prop) (Pf : Hp → Prop), Pt (.int (f r)) G → g x (wipe σ vs) G fun σ2 H2 => wipe σ2 vs = wipe σ vs ∧ tt σ2 H2 fun b H3 => if b = true then te σ2 H3 Pt else Pf H3)
    (hd : ∀ G, Same H1 G → G D = some (.lst ((rs.map f).map V.int)) → Qd G) :
    ∃ W : Nat → Nat → Hp → Prop, (∃ m, W 0 m (upd H1 D (.lst []))) ∧ ∀ i m H, W i m H →
      ((Itt K a).stop i H ∧ Qd H) ∨ ((Itt K a).go i H ∧ ∃ Nx : Hp → Prop, (∀ H', Nx H' → ∃ m', m' < m ∧ W (i + 1) m' H') ∧ ∀ x H', (Itt K a).yld i H x H' → g x (wipe σ vs) H' fun σ2 H2 => wipe σ2 vs = wipe σ vs ∧ tt σ2 H2 fun b H3 =>
        if b = true then te σ2 H3 fun y H4 => ∃ acc, H4 D = some (.lst acc) ∧ acc.length < sizeLine ∧ Nx (upd H4 D (.lst (acc ++ [y]))) else Nx H3) := by
  have lx := hx.len
  rw [List.length_map] at lx
  refine lc_tup (xs := xs) (fun i G => Same H1 G ∧ G D = some (.lst (((rs.take i).map f).map V.int))) ⟨same_new nD, upd_same⟩ (fun i G _ hG => .inl (.inl (hG.1 _ _ ea))) (fun i x G hxi hG => ?_) (fun G hG => ?_)
  · obtain ⟨sG, eD⟩ := hG
    obtain ⟨d, ed, hdx⟩ := hx.get' hxi
    rw [List.getElem?_map] at ed
    obtain ⟨r, er, rfl⟩ := Option.map_eq_some_iff.mp ed
    have ii : i < rs.length := (List.getElem?_eq_some_iff.mp er).1
    refine hs r x G (List.mem_of_getElem? er) sG (hdx.up sG) _ _ ?_
    refine ⟨_, eD, ?_, same_at sG nD, ?_⟩
    · rw [List.length_map, List.length_map, List.length_take]
      have hb : (1000 : Nat) < sizeLine := by decide
      omega
    · rw [upd_same, List.take_add_one, er, List.map_append, List.map_append]
      rfl
  · obtain ⟨sG, eD⟩ := hG
    rw [List.take_of_length_le (by omega)] at eD
    exact hd G sG eD
theorem dx_tup' {H : Hp} {v : V} {ds : List PyData} (h : Dx H v (.tuple ds)) : ∃ a xs, v = .ref a ∧ H a = some (.tup xs) ∧ Dxs H xs ds := by
  cases h with
  | @tup a xs _ ea h => exact ⟨a, xs, rfl, ea, h⟩
theorem eqv_self (r : Rec) : PyData.eqv (encR r) (encR r) = true := by
  simp [encR, PyData.eqv, PyData.eqvAll, eqv_ints]
theorem eqv_rows : ∀ rs : List Rec, PyData.eqvAll (rs.map encR) (rs.map encR) = true
  | [] => by simp [PyData.eqvAll]
  | r :: rs => by simp [PyData.eqvAll, eqv_self, eqv_rows rs]
theorem eqv_tup (rs : List Rec) : PyData.eqv (.tuple (rs.map encR)) (.tuple (rs.map encR)) = true := by simpa [PyData.eqv] using eqv_rows rs
theorem plain_rows : ∀ rs : List Rec, PyData.plainAll (rs.map encR) = true
  | [] => by simp [PyData.plainAll]
  | r :: rs => by simp [PyData.plainAll, plain_rec, plain_rows rs]
theorem plain_tup (rs : List Rec) : (PyData.tuple (rs.map encR)).plain = true := by simpa [PyData.plain] using plain_rows rs
theorem deep_rows (rs : List Rec) : PyData.depthAll (rs.map encR) ≤ 50 := depthAll_le fun e he => by
  obtain ⟨r, _, rfl⟩ := List.mem_map.mp he
  exact depth_rec r
theorem deep_tup (rs : List Rec) : (PyData.tuple (rs.map encR)).depth ≤ 64 := by
  have := deep_rows rs
  simp only [PyData.depth]
  omega
theorem dp_tup {K : PySem.W.Frag} {H : Hp} {v : V} {rs : List Rec} (h : Dx H v (.tuple (rs.map encR))) : Dp K H v (.tuple (rs.map encR)) := dp_dx _ _ (plain_tup rs) h
theorem any_self {bs : List Rec} {r : Rec} (h : r ∈ bs) : ((bs.map encR).any fun z => PyData.eqv z (encR r)) = true :=
  List.any_eq_true.mpr ⟨encR r, List.mem_map.mpr ⟨r, h, rfl⟩, eqv_self r⟩
theorem rows_fine {wd : Nat} {rs : List Rec} (hr : ∀ r ∈ rs, ROk wd r) (hl : rs.length ≤ 61) (hw : wd ≤ 4) : (PyData.tuple (rs.map encR)).showable = true ∧ (PyData.tuple (rs.map encR)).depth ≤ 100 ∧ (PyData.tuple (rs.map encR)).shown.length ≤ sizeLine := by
  have hm : ∀ e ∈ rs.map encR, fine (10 ^ 40) e = true ∧ wt e ≤ 20 ∧ e.depth ≤ 50 := fun e he => by
    obtain ⟨r, mr, rfl⟩ := List.mem_map.mp he
    exact rec_fine (hr r mr) hw
  have fr := fineAll_mem.mpr fun e he => (hm e he).1
  have gr := wtAll_le fun e he => (hm e he).2.1
  have kr := depthAll_le fun e he => (hm e he).2.2
  rw [List.length_map] at gr
  refine big_show ?_ ?_ ?_
  · simpa only [fine] using fr
  · simp only [wt]
    omega
  · simp only [PyData.depth]
    omega
end U1

set_option maxRecDepth 100000
set_option maxHeartbeats 4000000
namespace U1
open PySem PySem.Spec PyProof.Rows L2 KX
theorem pick {α : Type} {f : α → V} {ns : List α} {d : Int} (h0 : 0 ≤ d) (h1 : d < (ns.length : Int)) : ∃ t, t ∈ ns ∧ atI (ns.map f) d = some (f t) := by
  have hl : d.toNat < ns.length := by omega
  refine ⟨ns[d.toNat], List.getElem_mem hl, ?_⟩
  have := atI_nat (xs := ns.map f) (j := d.toNat) (v := f ns[d.toNat]) (by rw [List.getElem?_map, List.getElem?_eq_getElem hl]; rfl)
  rw [show ((d.toNat : Nat) : Int) = d by omega] at this
  exact this
theorem dec_int (x y : Int) : decide (V.int x = V.int y) = decide (x = y) := by
  by_cases h : x = y
  · rw [decide_eq_true h, decide_eq_true (by rw [h])]
  · rw [decide_eq_false h, decide_eq_false (fun z => h (V.int.inj z))]
theorem dec_str (x y : Str) : decide (V.str x = V.str y) = decide (x = y) := by
  by_cases h : x = y
  · rw [decide_eq_true h, decide_eq_true (by rw [h])]
  · rw [decide_eq_false h, decide_eq_false (fun z => h (V.str.inj z))]
theorem gd_rev {l : Addr} {P : KX.PSt} {K : PySem.W.Frag} {ds : List PyData} {te : TE} (h : GD l P (· = .tuple ds) te) : GD l P (· = .tuple ds.reverse) (tRevT K te) := fun σ H Q st p q =>
  h σ H _ st p fun H1 v d e k st1 x => by
    subst e
    obtain ⟨a, xs, rfl, na, ea, hx⟩ := dx_tupOf x
    exact ⟨a, xs, rfl, .inl (.inl ea), fun p1 np1 => q _ _ _ rfl (k.new np1) (st1.new np1) (dx_tup np1 st1 hx.rev)⟩
theorem fine_up {d : PyData} (h : fine (10 ^ 9) d = true) : fine (10 ^ 40) d = true := fine_le (by decide +kernel) d h
theorem fineAll_sub {B : Nat} {xs ys : List PyData} (h : fineAll B ys = true) (s : ∀ x ∈ xs, x ∈ ys) : fineAll B xs = true := fineAll_mem.mpr fun x hx => fineAll_mem.mp h x (s x hx)
theorem cut_sub {ds : List PyData} {lo hi : Option Int} : ∀ x ∈ KX.cutD ds lo hi, x ∈ ds := fun x hx => List.mem_of_mem_drop (List.mem_of_mem_take hx)
theorem cut_wt {ds : List PyData} {lo hi : Option Int} : wtAll (KX.cutD ds lo hi) ≤ wtAll ds := by
  unfold KX.cutD
  have h1 := wtAll_take (HT.sIx ds.length ds.length hi - HT.sIx ds.length 0 lo) (ds.drop (HT.sIx ds.length 0 lo))
  have h2 := wtAll_take (HT.sIx ds.length 0 lo) ds
  omega
/-! ### _law_damaged -/
theorem gn_to {i : Nat} {v : V} {σ σ' : L2.St} {H : Hp} {Q : L2.St → Hp → Prop} (e : σ.set i (some v) = σ') (h : Q σ' H) : gName i v σ H Q := by subst e; exact h
abbrev sDm : Stmt := topS 43
def tln : PyData → Nat
  | .tuple ds => ds.length
  | _ => 0
structure DmI (d : PyData) : Prop where
  f : fine (10 ^ 9) d = true
  w : wt d ≤ 1500
  n : ∀ ds, d = .tuple ds → ds.length ≤ 100 ∧ ∀ e ∈ ds, wt e ≤ 100
structure DmG (d d' : PyData) : Prop where
  f : fine (10 ^ 40) d' = true
  w : wt d' ≤ 2 * wt d + 20
  p : d'.depth ≤ d.depth + 4
  n : ∀ ds, d' = .tuple ds → ds.length ≤ tln d + 1 ∨ ds.length ≤ 4
theorem un_bool : (unL.all fun d => fine (10 ^ 40) d && decide (wt d ≤ 10) && decide (d.depth ≤ 2) && decide (tln d ≤ 4)) = true := by decide +kernel
theorem un_facts {d : PyData} (h : d ∈ unL) : fine (10 ^ 40) d = true ∧ wt d ≤ 10 ∧ d.depth ≤ 2 ∧ tln d ≤ 4 := by
  have := List.all_eq_true.mp un_bool d h
  simp only [Bool.and_eq_true, decide_eq_true_eq] at this
  exact ⟨this.1.1.1, this.1.1.2, this.1.2, this.2⟩
theorem un_dm {d u : PyData} (h : u ∈ unL) : DmG d u := by
  obtain ⟨a, b, c, e⟩ := un_facts h
  exact ⟨a, by omega, by omega, fun ds z => by subst z; exact .inr e⟩
theorem DmI.item {ds : List PyData} (h : DmI (.tuple ds)) {d : PyData} (m : d ∈ ds) : DmI d := by
  have f := h.f
  have w := (h.n ds rfl).2 d m
  simp only [fine] at f
  refine ⟨fineAll_mem.mp f d m, by omega, fun es z => ?_⟩
  subst z
  simp only [wt] at w
  have := len_wt es
  exact ⟨by omega, fun e he => by have := wt_mem he; omega⟩
theorem depth_mem {ds : List PyData} {d : PyData} (m : d ∈ ds) : d.depth ≤ PyData.depthAll ds := by
  induction ds with
  | nil => cases m
  | cons x xs ih =>
    simp only [PyData.depthAll]
    rcases List.mem_cons.mp m with rfl | m
    · omega
    · have := ih m
      omega
def upC (c : Nat) : Nat := if 97 ≤ c ∧ c ≤ 122 then c - 32 else c
theorem upper_list : ∀ l : List Nat, (∀ c ∈ l, c < 128) → Txt.upper ⟨l.toArray⟩ = ⟨(l.map upC).toArray⟩
  | [], _ => by decide +kernel
  | c :: l, h => by
    have e1 : (⟨(c :: l).toArray⟩ : Str) = ⟨#[c]⟩ ++ ⟨l.toArray⟩ := PySem.Str.ext' (by rw [PySem.Str.cps_append]; simp)
    rw [e1, PySem.W.KOpn.upper_app, PySem.W.KOpn.upper_one (h c (by simp)), upper_list l fun x hx => h x (by simp [hx])]
    exact PySem.Str.ext' (by rw [PySem.Str.cps_append]; simp [upC])
theorem fine_str {B : Nat} {x : Str} : fine B (.str x) = true ↔ ∀ c ∈ x.cps.toList, c < 128 := by
  show (x.cps.toList.all fun c => decide (c < 128)) = true ↔ _
  rw [List.all_eq_true]
  exact ⟨fun h c hc => of_decide_eq_true (h c hc), fun h c hc => decide_eq_true (h c hc)⟩
theorem upper_fine {B : Nat} {x : Str} (h : fine B (.str x) = true) : fine B (.str (Txt.upper x)) = true ∧ (Txt.upper x).length = x.length := by
  have h := fine_str.mp h
  have e : x = ⟨x.cps.toList.toArray⟩ := PySem.Str.ext' (by simp)
  have u := upper_list _ h
  rw [← e] at u
  rw [u]
  refine ⟨fine_str.mpr fun c hc => ?_, ?_⟩
  · have hc : c ∈ x.cps.toList.map upC := by simpa using hc
    obtain ⟨y, hy, rfl⟩ := List.mem_map.mp hc
    have := h y hy
    unfold upC
    split <;> omega
  · show ((x.cps.toList.map upC).toArray).size = x.cps.size
    simp
theorem str_app_fine {B : Nat} {x y : Str} (hx : fine B (.str x) = true) (hy : fine B (.str y) = true) : fine B (.str (x ++ y)) = true := fine_str.mpr fun c hc => by
  rw [PySem.Str.cps_append, Array.toList_append] at hc
  rcases List.mem_append.mp hc with h | h
  · exact fine_str.mp hx c h
  · exact fine_str.mp hy c h
theorem str_cut_fine {B : Nat} {x : Str} {lo hi : Option Int} (hx : fine B (.str x) = true) : fine B (.str (cutS x lo hi)) = true := fine_str.mpr fun c hc => by
  have hc : c ∈ (x.cps.toList.drop (HT.sIx x.length 0 lo)).take (HT.sIx x.length x.length hi - HT.sIx x.length 0 lo) := by simpa [cutS] using hc
  exact fine_str.mp hx c (List.mem_of_mem_drop (List.mem_of_mem_take hc))
theorem str_dm {d : PyData} {x : Str} (f : fine (10 ^ 40) (.str x) = true) (w : x.length + 1 ≤ 2 * wt d + 20) : DmG d (.str x) := ⟨f, by simpa only [wt] using w, by simp [PyData.depth], fun ds z => by cases z⟩
theorem int_dm {d : PyData} {i : Int} (h : i.natAbs ≤ 10 ^ 10) : DmG d (.int i) := ⟨by
    simp only [fine]
    exact decide_eq_true (Nat.le_trans h (by decide +kernel)), by simp only [wt]; omega, by simp [PyData.depth], fun ds z => by cases z⟩
theorem tup_dm {ds es : List PyData} (h : ∀ e ∈ es, fine (10 ^ 40) e = true ∧ e.depth ≤ PyData.depthAll ds + 4) (w : wtAll es ≤ 2 * wtAll ds + 21) (n : es.length ≤ ds.length + 1) : DmG (.tuple ds) (.tuple es) := by
  refine ⟨?_, by simp only [wt]; omega, ?_, fun zs z => by cases z; exact .inl n⟩
  · simp only [fine]
    exact fineAll_mem.mpr fun e he => (h e he).1
  · have := depthAll_le fun e he => (h e he).2
    simp only [PyData.depth]
    omega
theorem lst_dm {ds : List PyData} (f : fineAll (10 ^ 40) ds = true) : DmG (.tuple ds) (.list ds) :=
  ⟨by simpa only [fine] using f, by simp only [wt]; omega, by simp only [PyData.depth]; omega, fun zs z => by cases z⟩
theorem gi_add1 {l : Addr} {P : KX.PSt} {k : Int} {ta : TE} (h : GI l P (· = k) ta) : GI l P (· = k + 1) (tOp (rI0 fun i j => V.int (i + j)) ta (tC (.int 1))) := fun σ H Q st p q => h σ H _ st p fun H' i s kk st' => ⟨i, 1, rfl, rfl, by subst s; exact q H' _ rfl kk st'⟩
def spDm (n : Nat) : Sp := fun vs H Q _ => ∃ (l : Addr) (v : V) (d : PyData), vs = [.ref l, v, .int (n : Int)] ∧ StO H l ∧ Dx (hid l H) v d ∧ DmI d ∧ ∀ H' v' d', Keep l H H' → StO H' l → Dx (hid l H') v' d' → DmG d d' → Q v' H'
abbrev ND : List Str := ["stream", "value", "deep", "way", "at", "some", "other"]
theorem scDm : FnScope ND ["stream", "value", "deep"] (defScope sDm) := ⟨rfl, rfl, rfl, by decide +kernel, rfl, by decide +kernel, by decide +kernel⟩
section
variable {P : Program} {w : World} {K : PySem.W.Frag} {mg : Str → Option Value} {base : Heap}
theorem ok_dm1 {k n : Nat} {sp' : Sp} {f fD fA : Addr} {fd fdD fdA : FuncData} (B : Bl mg) (D : Df K mg "_law_damaged" sDm ["stream", "value", "deep"] f fd) (DD : Df K mg "_law_draw" sDraw ["stream", "total"] fD fdD) (DA : Df K mg "_law_unrelated" sUn ["stream"] fA fdA)
    (GDr : FnOk P w K mg base CX0 k fD fdD ["stream", "total"] spDraw) (GA : FnOk P w K mg base CX0 k fA fdA ["stream"] spUn)
    (GS : FnOk P w K mg base CX0 k f fd ["stream", "value", "deep"] sp') (hs : ∀ j, n = j + 1 → ∀ vs H Q E, spDm j vs H Q E → sp' vs H Q E) : FnOk P w K mg base CX0 (k + 1) f fd ["stream", "value", "deep"] (spDm n) := by
  refine D.F.ok scDm (fun vs H Q E h => ?_) (fun cdv A outer s H vs Q E hr h => ?_)
  · obtain ⟨l, v, d, rfl, _⟩ := h
    rfl
  · obtain ⟨l, v, d, rfl, st, hd, hg, q⟩ := h
    have nd := scDm.nd
    refine ⟨_, pss_cons (ps_set (i := 3) nd rfl (.inl rfl) (pe_call GDr hr (by rfl) DD.g DD.F.kp DD.b .nil pass0 (pa_cons (pv 0) (pa_cons pe_int pa_nil))))
      (pss_cons (ps_if (PW.pt (pw_and (pt_val (pe_isD (T := "tuple") (x := "tuple") (by decide +kernel) B.isi B.tuple (by decide +kernel) (pv 1) (by rfl) (by rfl)))
          (pw_and (pt_cmpR (op_ne0 hr.units0) (pv 1) (pe_tup pa_nil) (nomark _)) (pw_and (pt_cmpR op_gt (pv 2) pe_int (nomark _)) (pw_and1 (pt_cmpR op_lt (pv 3) pe_int (nomark _)))))))
        (pss_cons (ps_set (i := 4) nd rfl (.inl rfl) (pe_call GDr hr (by rfl) DD.g DD.F.kp DD.b .nil pass0 (pa_cons (pv 0) (pa_cons (pe_callB (call_lenK (K := K) rfl) (by rfl) B.len PySem.boot_len (pa_cons (pv 1) pa_nil)) pa_nil))))
        (pss_one (ps_ret (pe_op op_catA (pe_op op_catA (pe_slice sl_tupA (pv 1) po_none (po_some (pv 4)))
            (pe_tup (pa_cons (pe_call GS hr (by rfl) D.g D.F.kp D.b .nil pass0 (pa_cons (pv 0) (pa_cons (pe_ix ix_tup (pv 1) (pv 4) (fun _ _ => rfl)) (pa_cons (pe_op op_sub (pv 2) pe_int) pa_nil)))) pa_nil)))
            (pe_slice sl_tupA (pv 1) (po_some (pe_op op_add (pv 4) pe_int)) po_none))))) pss_nil)
      (pss_cons (ps_if (pt_val (pe_isD (T := "tuple") (x := "tuple") (by decide +kernel) B.isi B.tuple (by decide +kernel) (pv 1) (by rfl) (by rfl)))
        (pss_cons (ps_set (i := 4) nd rfl (.inl rfl) (pe_call GDr hr (by rfl) DD.g DD.F.kp DD.b .nil pass0 (pa_cons (pv 0) (pa_cons (pe_op op_add (pe_callB (call_lenK (K := K) rfl) (by rfl) B.len PySem.boot_len (pa_cons (pv 1) pa_nil)) pe_int) pa_nil))))
        (pss_cons (ps_set (i := 5) nd rfl (.inl rfl) (pe_lst (pa_cons (pe_callTy call_lst2 (by rfl) B.list (by decide +kernel) (pa_cons (pv 1) pa_nil))
            (pa_cons (pe_op op_catA (pe_slice sl_tupA (pv 1) po_none (po_some (pv 4))) (pe_slice sl_tupA (pv 1) (po_some (pe_op op_add (pv 4) pe_int)) po_none))
            (pa_cons (pe_op op_catA (pe_op op_catA (pe_slice sl_tupA (pv 1) po_none (po_some (pv 4))) (pe_slice sl_tupA (pv 1) (po_some (pv 4)) (po_some (pe_op op_add (pv 4) pe_int)))) (pe_slice sl_tupA (pv 1) (po_some (pv 4)) po_none))
            (pa_cons (pe_revT (pv 1)) pa_nil))))))
        (pss_cons (ps_set (i := 6) nd rfl (.inl rfl) (pe_call GA hr (by rfl) DA.g DA.F.kp DA.b .nil pass0 (pa_cons (pv 0) pa_nil)))
        (pss_one (ps_ret (pe_ix ix_list (pe_op op_cat (pv 5) (pe_lst (pa_cons (pe_op op_catA (pv 1) (pe_tup (pa_cons (pv 6) pa_nil)))
            (pa_cons (pe_op op_catA (pe_op op_catA (pe_slice sl_tupA (pv 1) po_none (po_some (pv 4))) (pe_tup (pa_cons (pv 6) pa_nil))) (pe_slice sl_tupA (pv 1) (po_some (pe_op op_add (pv 4) pe_int)) po_none)) pa_nil))))
            (pe_call GDr hr (by rfl) DD.g DD.F.kp DD.b .nil pass0 (pa_cons (pv 0) (pa_cons pe_int pa_nil))) (fun _ _ => rfl))))))) pss_nil)
      (pss_cons (ps_if (PW.pt (pw_and (pt_val (pe_isD (T := "str") (x := "str") (by decide +kernel) B.isi B.str (by decide +kernel) (pv 1) (by rfl) (by rfl))) (pw_and1 (pt_cmpR op_lt (pv 3) pe_int (nomark _)))))
        (pss_one (ps_ret (pe_ix ix_list (pe_lst (pa_cons (pe_op op_add_str (pv 1) pe_str) (pa_cons (pe_slice sl_str (pv 1) (po_some pe_int) po_none) (pa_cons (pe_upper (pv 1)) (pa_cons (pe_op op_add_str (pv 1) pe_str) (pa_cons pe_str (pa_cons pe_str pa_nil))))))) (pv 3) (fun _ _ => rfl)))) pss_nil)
      (pss_cons (ps_if (PW.pt (pw_and (pt_val (pe_isD (T := "int") (x := "int") (by decide +kernel) B.isi B.int (by decide +kernel) (pv 1) (by rfl) (by rfl)))
          (pw_and (pt_not (pt_val (pe_isD (T := "bool") (x := "bool") (by decide +kernel) B.isi B.bool (by decide +kernel) (pv 1) (by rfl) (by rfl)))) (pw_and1 (pt_cmpR op_lt (pv 3) pe_int (nomark _))))))
        (pss_one (ps_ret (pe_ix ix_list (pe_lst (pa_cons (pe_op op_add (pv 1) pe_int) (pa_cons (pe_op op_sub (pv 1) pe_int) (pa_cons (pe_op op_add (pe_op op_pow pe_int pe_int) pe_int) (pa_cons (pe_op op_add (pe_op op_pow pe_int pe_int) pe_int)
            (pa_cons (pe_op op_sub (pe_un un_neg (pe_op op_pow pe_int pe_int)) pe_int) (pa_cons pe_int pa_nil))))))) (pv 3) (fun _ _ => rfl)))) pss_nil)
      (pss_one (ps_ret (pe_call GA hr (by rfl) DA.g DA.F.kp DA.b .nil pass0 (pa_cons (pv 0) pa_nil)))))))), ?_⟩
    refine ⟨.ref l, rfl, l, 8, rfl, st, by decide, by decide, fun H1 way k1 st1 y0 y7 => ?_⟩
    have hd1 := hd.up k1.same
    have fd := fine_up hg.f
    have w2 := hg.w
    have wp : 1 ≤ wt d := by cases d <;> simp [wt]
    have last : ∀ {G : Hp}, Keep l H1 G → StO G l → ∀ {σ : L2.St}, σ[0]? = some (some (.ref l)) → tCall spUn [] E0 (tCons (tVar 0) tNil) σ G Q := fun {G} kG sG {σ} e =>
      ⟨.ref l, e, l, rfl, sG, fun G2 v2 d2 k2 s2 a2 x2 => q _ _ _ ((k1.trans kG).trans k2) s2 x2 (un_dm a2)⟩
    refine ⟨v, rfl, rfl, d, hd1.up (hid_same l H1), _, rfl, ?_⟩
    cases d with
    | tuple ds =>
      rw [isa_tuple]
      obtain ⟨a, xs, ev, na, ea, hx⟩ := dx_tupOf hd1
      subst ev
      have hlen := hx.len
      have lw := len_wt ds
      have big : (5000 : Nat) ≤ sizeLine := by decide
      obtain ⟨n100, w100⟩ := hg.n ds rfl
      have gf : fineAll (10 ^ 40) ds = true := by simpa only [fine] using fd
      have gw : wtAll ds + 1 ≤ 1500 := hg.w
      have ew : wt (.tuple ds) = wtAll ds + 1 := by simp [wt]
      have ep : (PyData.tuple ds).depth = PyData.depthAll ds + 1 := by simp [PyData.depth]
      have mine : ∀ e ∈ ds, fine (10 ^ 40) e = true ∧ e.depth ≤ PyData.depthAll ds + 4 := fun e he => ⟨fineAll_mem.mp gf e he, by have := depth_mem he; omega⟩
      have cutw : ∀ i : Nat, wtAll (ds.take i) + wtAll (ds.drop i) = wtAll ds := fun i => wtAll_take i ds
      have dropm : ∀ i : Nat, wtAll (ds.drop (i + 1)) ≤ wtAll (ds.drop i) := fun i => by
        have := wtAll_take 1 (ds.drop i)
        rw [List.drop_drop] at this
        omega
      refine iteT ⟨.ref a, rfl, by show 0 ≤ sizeLine; decide, fun p np => ?_⟩
      have s2 := st1.new (o := .tup []) np
      have k2 : Keep l H1 (upd H1 p (.tup [])) := (Keep.refl l H1).new np
      have ea2 := k2 _ _ na ea
      refine ⟨a, p, xs, rfl, rfl, .inl (.inl ea2), .inl (.inl upd_same), _, rfl, ?_⟩
      cases hxe : xs.isEmpty with
      | true =>
        refine iteF (iteF ?_)
        refine ⟨.ref a, rfl, rfl, .tuple ds, (hd1.up (k2).same).up (hid_same l _), _, rfl, ?_⟩
        rw [isa_tuple]
        refine iteT ⟨.ref l, rfl, .ref a, rfl, a, xs, rfl, .inr (.inl (.inl ((k2) _ _ na ea))), (xs.length : Int), 1, rfl, rfl, l, _, rfl, s2, by omega, by omega, fun GA at1 kA sA a0 a1 => ?_⟩
        obtain ⟨i, rfl⟩ : ∃ i : Nat, at1 = (i : Int) := ⟨at1.toNat, by omega⟩
        have k2A := (k2).trans kA
        have hdA := hd1.up k2A.same
        refine gn_to (σ' := ([some (.ref l), some (.ref a), some (.int (n : Int)), some (.int way), some (.int (i : Int)), none, none] : L2.St)) rfl ?_
        dsimp only
        have fitC : ∀ {lo hi : Option Int}, (KX.cutD ds lo hi).length ≤ 100 := fun {lo hi} => Nat.le_trans (by unfold KX.cutD; rw [List.length_take, List.length_drop]; omega) n100
        have fitS : ∀ {lo hi : Option Int} (d : PyData), d = .tuple (KX.cutD ds lo hi) → ∃ z, d = .tuple z ∧ z.length ≤ 1000 := fun {lo hi} d e => ⟨_, e, Nat.le_trans fitC (by decide)⟩
        refine gm_seq (S := Al (DmG (.tuple ds)) 4) (P := KX.Env l _ [(.ref a, .tuple ds)] []) ?_ sA ⟨rfl, alld_cons hdA alld_nil, allm_nil⟩ fun H2 p2 xs2 ds2 g2 k2b st2 n2 e2 x2 => ?_
        · have tv : GD l (KX.Env l ([some (.ref l), some (.ref a), some (.int (n : Int)), some (.int way), some (.int (i : Int)), none, none] : L2.St) [(.ref a, .tuple ds)] []) (· = .tuple ds) (tVar 1) := gd_env (v := .ref a) (d := .tuple ds) rfl (by simp)
          have ti : GI l (KX.Env l ([some (.ref l), some (.ref a), some (.int (n : Int)), some (.int way), some (.int (i : Int)), none, none] : L2.St) [(.ref a, .tuple ds)] []) (· = (i : Int)) (tVar 4) := gi_env rfl
          refine al_lst (al_cons kp_env ((gd_listOf tv).imp fun d e => ?_) (al_cons kp_env ((gd_cat kp_env (gd_slice kp_env tv go_none (go_some ti)) (gd_slice kp_env tv (go_some (gi_add1 ti)) go_none) fitS fitS).imp fun d e => ?_)
              (al_cons kp_env ((gd_cat kp_env (gd_cat kp_env (gd_slice kp_env tv go_none (go_some ti)) (gd_slice kp_env tv (go_some ti) (go_some (gi_add1 ti))) fitS fitS) (gd_slice kp_env tv (go_some ti) go_none) (fun d e => ?_) fitS).imp fun d e => ?_) (al_cons kp_env ((gd_rev tv).imp fun d e => ?_) al_nil)))) (by decide)
          · subst e
            exact lst_dm gf
          · obtain ⟨x, y, e1, e2, rfl⟩ := e
            cases e1
            cases e2
            refine tup_dm (fun e he => ?_) ?_ ?_
            · rcases List.mem_append.mp he with h | h
              · exact mine e (cut_sub e h)
              · exact mine e (cut_sub e h)
            · have c1 := cut_wt (ds := ds) (lo := none) (hi := some (i : Int))
              have c2 := cut_wt (ds := ds) (lo := some ((i : Int) + 1)) (hi := none)
              rw [wtAll_app]
              omega
            · rw [show ((i : Int) + 1) = ((i + 1 : Nat) : Int) by omega, cutD_from, cutD_to, List.length_append, List.length_take, List.length_drop]
              omega
          · obtain ⟨x, y, e1, e2, rfl⟩ := e
            cases e1
            cases e2
            exact ⟨_, rfl, by rw [List.length_append]; exact Nat.le_trans (Nat.add_le_add fitC fitC) (by decide)⟩
          · obtain ⟨x, y, ⟨x2, y2, e1, e2, e4⟩, e3, rfl⟩ := e
            cases e1
            cases e2
            cases e3
            cases e4
            refine tup_dm (fun e he => ?_) ?_ ?_
            · rcases List.mem_append.mp he with h | h
              · rcases List.mem_append.mp h with h | h
                · exact mine e (cut_sub e h)
                · exact mine e (cut_sub e h)
              · exact mine e (cut_sub e h)
            · have c2 := cut_wt (ds := ds) (lo := some (i : Int)) (hi := some ((i : Int) + 1))
              have c3 := cutw i
              rw [wtAll_app, wtAll_app, cutD_from, cutD_to]
              omega
            · rw [cutD_from, cutD_to, cutD_one, List.length_append, List.length_append, List.length_take, List.length_take, List.length_drop]
              omega
          · subst e
            refine tup_dm (fun e he => mine e (List.mem_reverse.mp he)) ?_ ?_
            · rw [wtAll_rev]
              omega
            · rw [List.length_reverse]
              omega
        · dsimp only [List.set]
          refine ⟨.ref l, rfl, l, rfl, st2, fun H3 vo d3 k3b st3 m3 x3 => ?_⟩
          refine gn_to (σ' := ([some (.ref l), some (.ref a), some (.int (n : Int)), some (.int way), some (.int (i : Int)), some (.ref p2), some vo] : L2.St)) rfl ?_
          dsimp only
          obtain ⟨o1, o2, o3, o4⟩ := un_facts m3
          have tv : GD l (KX.Env l ([some (.ref l), some (.ref a), some (.int (n : Int)), some (.int way), some (.int (i : Int)), some (.ref p2), some vo] : L2.St) [(.ref a, .tuple ds), (vo, d3)] [(p2, xs2, ds2)]) (· = .tuple ds) (tVar 1) := gd_env (v := .ref a) (d := .tuple ds) rfl (by simp)
          have to : GD l (KX.Env l ([some (.ref l), some (.ref a), some (.int (n : Int)), some (.int way), some (.int (i : Int)), some (.ref p2), some vo] : L2.St) [(.ref a, .tuple ds), (vo, d3)] [(p2, xs2, ds2)]) (· = d3) (tVar 6) := gd_env (v := vo) (d := d3) rfl (by simp)
          have ti : GI l (KX.Env l ([some (.ref l), some (.ref a), some (.int (n : Int)), some (.int way), some (.int (i : Int)), some (.ref p2), some vo] : L2.St) [(.ref a, .tuple ds), (vo, d3)] [(p2, xs2, ds2)]) (· = (i : Int)) (tVar 4) := gi_env rfl
          have oneO : GD l (KX.Env l ([some (.ref l), some (.ref a), some (.int (n : Int)), some (.int way), some (.int (i : Int)), some (.ref p2), some vo] : L2.St) [(.ref a, .tuple ds), (vo, d3)] [(p2, xs2, ds2)]) (· = .tuple [d3]) (tTup (tCons (tVar 6) tNil)) :=
            (gd_tup (gds_cons kp_env to gds_nil) fun ds z => by obtain ⟨x, y, rfl, _, rfl⟩ := z; show 1 ≤ sizeLine; decide).imp fun d e => by
              obtain ⟨es, rfl, x, y, rfl, rfl, rfl⟩ := e
              rfl
          have fitO : ∀ d, d = PyData.tuple [d3] → ∃ z, d = .tuple z ∧ z.length ≤ 1000 := fun d e => ⟨_, e, by show 1 ≤ 1000; decide⟩
          have other : fine (10 ^ 40) d3 = true ∧ d3.depth ≤ PyData.depthAll ds + 4 := ⟨o1, by omega⟩
          have w3 : wtAll [d3] = wt d3 := by simp [wtAll]
          refine al_ix (S := DmG (.tuple ds)) (n := 6) (m := 6) kp_env (al_cat (n := 4) (m := 2) kp_env ((gm_env (xs := xs2) (ds := ds2) rfl (by simp)).imp fun _ e => by subst e; exact g2) (al_lst (al_cons kp_env ((gd_cat kp_env tv oneO (fun d e => ⟨_, e, Nat.le_trans n100 (by decide)⟩) fitO).imp fun d e => ?_)
              (al_cons kp_env ((gd_cat kp_env (gd_cat kp_env (gd_slice kp_env tv go_none (go_some ti)) oneO fitS fitO) (gd_slice kp_env tv (go_some (gi_add1 ti)) go_none) (fun d e => ?_) fitS).imp fun d e => ?_) al_nil)) (by decide)) (by decide)) (gi_drawS (n := 6) 0 rfl (gi_val fun σ H Q q => q) (by decide) (by decide)) rfl _ _ _ st3
              (show KX.Env l _ [(.ref a, .tuple ds), (vo, d3)] [(p2, xs2, ds2)] _ H3 from ⟨rfl, alld_cons (hdA.up (k2b.trans k3b).same) (alld_cons x3 alld_nil), allm_one n2 (k3b _ _ n2 e2) (x2.up k3b.same)⟩) fun H4 v4 d4 g4 k4 st4 x4 => q H4 v4 d4 (((k1.trans k2A).trans (k2b.trans k3b)).trans k4) st4 x4 g4
          · obtain ⟨x, y, e1, e2, rfl⟩ := e
            cases e1
            cases e2
            refine tup_dm (fun e he => ?_) ?_ ?_
            · rcases List.mem_append.mp he with h | h
              · exact mine e h
              · rw [List.mem_singleton.mp h]
                exact other
            · rw [wtAll_app]
              omega
            · rw [List.length_append, List.length_singleton]
              omega
          · obtain ⟨x, y, e1, e2, rfl⟩ := e
            cases e1
            cases e2
            exact ⟨_, rfl, by rw [List.length_append, List.length_singleton]; exact Nat.le_trans (Nat.add_le_add fitC (Nat.le_refl 1)) (by decide)⟩
          · obtain ⟨x, y, ⟨x2, y2, e1, e2, e4⟩, e3, rfl⟩ := e
            cases e1
            cases e2
            cases e3
            cases e4
            refine tup_dm (fun e he => ?_) ?_ ?_
            · rcases List.mem_append.mp he with h | h
              · rcases List.mem_append.mp h with h | h
                · exact mine e (cut_sub e h)
                · rw [List.mem_singleton.mp h]
                  exact other
              · exact mine e (cut_sub e h)
            · have c1 := cut_wt (ds := ds) (lo := none) (hi := some (i : Int))
              have c2 := cut_wt (ds := ds) (lo := some ((i : Int) + 1)) (hi := none)
              rw [wtAll_app, wtAll_app]
              omega
            · rw [show ((i : Int) + 1) = ((i + 1 : Nat) : Int) by omega, cutD_from, cutD_to, List.length_append, List.length_append, List.length_take, List.length_drop, List.length_singleton]
              omega
      | false =>
        refine iteT ⟨.int (n : Int), rfl, (n : Int), 0, rfl, rfl, _, rfl, ?_⟩
        by_cases hdp : (0 : Int) < (n : Int)
        · rw [decide_eq_true hdp]
          refine iteT ⟨.int way, rfl, way, 5, rfl, rfl, _, rfl, ?_⟩
          by_cases hw : way < 5
          · rw [decide_eq_true hw]
            obtain ⟨j, rfl⟩ : ∃ j, n = j + 1 := ⟨n - 1, by omega⟩
            have hne : 0 < ds.length := by
              cases xs with
              | nil => cases hxe
              | cons _ _ => rw [← hlen]; simp
            refine iteT ⟨.ref l, rfl, .ref a, rfl, a, xs, rfl, .inr (.inl (.inl ea2)), l, _, rfl, s2, by omega, by omega, fun G3 at1 k3 s3 a0 a1 => ?_⟩
            obtain ⟨i, rfl⟩ : ∃ i : Nat, at1 = (i : Int) := ⟨at1.toNat, by omega⟩
            have hn : i < ds.length := by omega
            have k13 := k2.trans k3
            refine ⟨.ref a, rfl, .int i, rfl, i, rfl, sl_of (hd1.up k13.same) s3 fun G4 q4 k4 s4 f4 => ?_⟩
            rw [cutD_to] at f4
            have k14 := k13.trans k4
            obtain ⟨a', xs', ea', na', e4, hx4⟩ := dx_tupOf (hd1.up k14.same)
            cases ea'
            obtain ⟨y, ey, dy⟩ := hx4.get (List.getElem?_eq_getElem hn)
            have my := List.getElem_mem hn
            have wy := wt_mem my
            refine ⟨.ref l, rfl, .ref a, rfl, .int i, rfl, a, xs', i, y, rfl, rfl, .inl (.inl e4), atI_nat ey, .int ((j + 1 : Nat) : Int), rfl, _, 1, rfl, rfl, ?_⟩
            refine hs j rfl _ _ _ _ ⟨l, y, ds[i], ?_, s4, dy, hg.item my, fun G5 v5 d5 k5 s5 f5 g5 => ?_⟩
            · show [V.ref l, y, V.int (((j + 1 : Nat) : Int) - 1)] = _
              rw [show ((j + 1 : Nat) : Int) - 1 = (j : Int) by omega]
            refine ⟨by show 1 ≤ sizeLine; decide, fun pt npt => ?_⟩
            have s6 := s5.new (o := .tup [v5]) npt
            refine cat_of ((f4.up k5.same).up (hnew npt)) (dx_tup npt s5 (.cons f5 .nil)) s6 (by rw [List.length_take, List.length_singleton]; omega) fun G7 q7 k7 s7 f7 => ?_
            have k17 := ((k14.trans k5).new (o := .tup [v5]) npt).trans k7
            refine ⟨.ref a, rfl, .int i, rfl, i, 1, rfl, rfl, ((i : Int) + 1), rfl, ?_⟩
            refine (show ∀ {σ : L2.St} {H : Hp} {Q : Option Int → Hp → Prop}, Q none H → tNoPart σ H Q from fun h => h) (sl_of (hd1.up k17.same) s7 fun G8 q8 k8 s8 f8 => ?_)
            rw [show ((i : Int) + 1) = ((i + 1 : Nat) : Int) by omega, cutD_from] at f8
            refine cat_of (f7.up k8.same) f8 s8 (by rw [List.length_append, List.length_take, List.length_drop, List.length_singleton]; omega) fun G9 q9 k9 s9 f9 => ?_
            refine q G9 _ _ (((k1.trans k17).trans k8).trans k9) s9 f9 (tup_dm (fun z hz => ?_) ?_ ?_)
            · rcases List.mem_append.mp hz with hz | hz
              · rcases List.mem_append.mp hz with hz | hz
                · exact mine z (List.mem_of_mem_take hz)
                · rw [List.mem_singleton.mp hz]
                  have h1 := g5.p
                  have h2 := depth_mem my
                  exact ⟨g5.f, by omega⟩
              · exact mine z (List.mem_of_mem_drop hz)
            · have w1 := cutw i
              rw [List.drop_eq_getElem_cons hn] at w1
              have w3 : wtAll (ds[i] :: ds.drop (i + 1)) = wt ds[i] + wtAll (ds.drop (i + 1)) := by simp [wtAll]
              have w5 := g5.w
              rw [wtAll_app, wtAll_app]
              have w6 : wtAll [d5] = wt d5 := by simp [wtAll]
              omega
            · rw [List.length_append, List.length_append, List.length_take, List.length_drop, List.length_singleton]
              omega
          · rw [decide_eq_false hw]
            refine iteF ?_
            refine ⟨.ref a, rfl, rfl, .tuple ds, (hd1.up (k2).same).up (hid_same l _), _, rfl, ?_⟩
            rw [isa_tuple]
            refine iteT ⟨.ref l, rfl, .ref a, rfl, a, xs, rfl, .inr (.inl (.inl ((k2) _ _ na ea))), (xs.length : Int), 1, rfl, rfl, l, _, rfl, s2, by omega, by omega, fun GA at1 kA sA a0 a1 => ?_⟩
            obtain ⟨i, rfl⟩ : ∃ i : Nat, at1 = (i : Int) := ⟨at1.toNat, by omega⟩
            have k2A := (k2).trans kA
            have hdA := hd1.up k2A.same
            refine gn_to (σ' := ([some (.ref l), some (.ref a), some (.int (n : Int)), some (.int way), some (.int (i : Int)), none, none] : L2.St)) rfl ?_
            dsimp only
            have fitC : ∀ {lo hi : Option Int}, (KX.cutD ds lo hi).length ≤ 100 := fun {lo hi} => Nat.le_trans (by unfold KX.cutD; rw [List.length_take, List.length_drop]; omega) n100
            have fitS : ∀ {lo hi : Option Int} (d : PyData), d = .tuple (KX.cutD ds lo hi) → ∃ z, d = .tuple z ∧ z.length ≤ 1000 := fun {lo hi} d e => ⟨_, e, Nat.le_trans fitC (by decide)⟩
            refine gm_seq (S := Al (DmG (.tuple ds)) 4) (P := KX.Env l _ [(.ref a, .tuple ds)] []) ?_ sA ⟨rfl, alld_cons hdA alld_nil, allm_nil⟩ fun H2 p2 xs2 ds2 g2 k2b st2 n2 e2 x2 => ?_
            · have tv : GD l (KX.Env l ([some (.ref l), some (.ref a), some (.int (n : Int)), some (.int way), some (.int (i : Int)), none, none] : L2.St) [(.ref a, .tuple ds)] []) (· = .tuple ds) (tVar 1) := gd_env (v := .ref a) (d := .tuple ds) rfl (by simp)
              have ti : GI l (KX.Env l ([some (.ref l), some (.ref a), some (.int (n : Int)), some (.int way), some (.int (i : Int)), none, none] : L2.St) [(.ref a, .tuple ds)] []) (· = (i : Int)) (tVar 4) := gi_env rfl
              refine al_lst (al_cons kp_env ((gd_listOf tv).imp fun d e => ?_) (al_cons kp_env ((gd_cat kp_env (gd_slice kp_env tv go_none (go_some ti)) (gd_slice kp_env tv (go_some (gi_add1 ti)) go_none) fitS fitS).imp fun d e => ?_)
                  (al_cons kp_env ((gd_cat kp_env (gd_cat kp_env (gd_slice kp_env tv go_none (go_some ti)) (gd_slice kp_env tv (go_some ti) (go_some (gi_add1 ti))) fitS fitS) (gd_slice kp_env tv (go_some ti) go_none) (fun d e => ?_) fitS).imp fun d e => ?_) (al_cons kp_env ((gd_rev tv).imp fun d e => ?_) al_nil)))) (by decide)
              · subst e
                exact lst_dm gf
              · obtain ⟨x, y, e1, e2, rfl⟩ := e
                cases e1
                cases e2
                refine tup_dm (fun e he => ?_) ?_ ?_
                · rcases List.mem_append.mp he with h | h
                  · exact mine e (cut_sub e h)
                  · exact mine e (cut_sub e h)
                · have c1 := cut_wt (ds := ds) (lo := none) (hi := some (i : Int))
                  have c2 := cut_wt (ds := ds) (lo := some ((i : Int) + 1)) (hi := none)
                  rw [wtAll_app]
                  omega
                · rw [show ((i : Int) + 1) = ((i + 1 : Nat) : Int) by omega, cutD_from, cutD_to, List.length_append, List.length_take, List.length_drop]
                  omega
              · obtain ⟨x, y, e1, e2, rfl⟩ := e
                cases e1
                cases e2
                exact ⟨_, rfl, by rw [List.length_append]; exact Nat.le_trans (Nat.add_le_add fitC fitC) (by decide)⟩
              · obtain ⟨x, y, ⟨x2, y2, e1, e2, e4⟩, e3, rfl⟩ := e
                cases e1
                cases e2
                cases e3
                cases e4
                refine tup_dm (fun e he => ?_) ?_ ?_
                · rcases List.mem_append.mp he with h | h
                  · rcases List.mem_append.mp h with h | h
                    · exact mine e (cut_sub e h)
                    · exact mine e (cut_sub e h)
                  · exact mine e (cut_sub e h)
                · have c2 := cut_wt (ds := ds) (lo := some (i : Int)) (hi := some ((i : Int) + 1))
                  have c3 := cutw i
                  rw [wtAll_app, wtAll_app, cutD_from, cutD_to]
                  omega
                · rw [cutD_from, cutD_to, cutD_one, List.length_append, List.length_append, List.length_take, List.length_take, List.length_drop]
                  omega
              · subst e
                refine tup_dm (fun e he => mine e (List.mem_reverse.mp he)) ?_ ?_
                · rw [wtAll_rev]
                  omega
                · rw [List.length_reverse]
                  omega
            · dsimp only [List.set]
              refine ⟨.ref l, rfl, l, rfl, st2, fun H3 vo d3 k3b st3 m3 x3 => ?_⟩
              refine gn_to (σ' := ([some (.ref l), some (.ref a), some (.int (n : Int)), some (.int way), some (.int (i : Int)), some (.ref p2), some vo] : L2.St)) rfl ?_
              dsimp only
              obtain ⟨o1, o2, o3, o4⟩ := un_facts m3
              have tv : GD l (KX.Env l ([some (.ref l), some (.ref a), some (.int (n : Int)), some (.int way), some (.int (i : Int)), some (.ref p2), some vo] : L2.St) [(.ref a, .tuple ds), (vo, d3)] [(p2, xs2, ds2)]) (· = .tuple ds) (tVar 1) := gd_env (v := .ref a) (d := .tuple ds) rfl (by simp)
              have to : GD l (KX.Env l ([some (.ref l), some (.ref a), some (.int (n : Int)), some (.int way), some (.int (i : Int)), some (.ref p2), some vo] : L2.St) [(.ref a, .tuple ds), (vo, d3)] [(p2, xs2, ds2)]) (· = d3) (tVar 6) := gd_env (v := vo) (d := d3) rfl (by simp)
              have ti : GI l (KX.Env l ([some (.ref l), some (.ref a), some (.int (n : Int)), some (.int way), some (.int (i : Int)), some (.ref p2), some vo] : L2.St) [(.ref a, .tuple ds), (vo, d3)] [(p2, xs2, ds2)]) (· = (i : Int)) (tVar 4) := gi_env rfl
              have oneO : GD l (KX.Env l ([some (.ref l), some (.ref a), some (.int (n : Int)), some (.int way), some (.int (i : Int)), some (.ref p2), some vo] : L2.St) [(.ref a, .tuple ds), (vo, d3)] [(p2, xs2, ds2)]) (· = .tuple [d3]) (tTup (tCons (tVar 6) tNil)) :=
                (gd_tup (gds_cons kp_env to gds_nil) fun ds z => by obtain ⟨x, y, rfl, _, rfl⟩ := z; show 1 ≤ sizeLine; decide).imp fun d e => by
                  obtain ⟨es, rfl, x, y, rfl, rfl, rfl⟩ := e
                  rfl
              have fitO : ∀ d, d = PyData.tuple [d3] → ∃ z, d = .tuple z ∧ z.length ≤ 1000 := fun d e => ⟨_, e, by show 1 ≤ 1000; decide⟩
              have other : fine (10 ^ 40) d3 = true ∧ d3.depth ≤ PyData.depthAll ds + 4 := ⟨o1, by omega⟩
              have w3 : wtAll [d3] = wt d3 := by simp [wtAll]
              refine al_ix (S := DmG (.tuple ds)) (n := 6) (m := 6) kp_env (al_cat (n := 4) (m := 2) kp_env ((gm_env (xs := xs2) (ds := ds2) rfl (by simp)).imp fun _ e => by subst e; exact g2) (al_lst (al_cons kp_env ((gd_cat kp_env tv oneO (fun d e => ⟨_, e, Nat.le_trans n100 (by decide)⟩) fitO).imp fun d e => ?_)
                  (al_cons kp_env ((gd_cat kp_env (gd_cat kp_env (gd_slice kp_env tv go_none (go_some ti)) oneO fitS fitO) (gd_slice kp_env tv (go_some (gi_add1 ti)) go_none) (fun d e => ?_) fitS).imp fun d e => ?_) al_nil)) (by decide)) (by decide)) (gi_drawS (n := 6) 0 rfl (gi_val fun σ H Q q => q) (by decide) (by decide)) rfl _ _ _ st3
                  (show KX.Env l _ [(.ref a, .tuple ds), (vo, d3)] [(p2, xs2, ds2)] _ H3 from ⟨rfl, alld_cons (hdA.up (k2b.trans k3b).same) (alld_cons x3 alld_nil), allm_one n2 (k3b _ _ n2 e2) (x2.up k3b.same)⟩) fun H4 v4 d4 g4 k4 st4 x4 => q H4 v4 d4 (((k1.trans k2A).trans (k2b.trans k3b)).trans k4) st4 x4 g4
              · obtain ⟨x, y, e1, e2, rfl⟩ := e
                cases e1
                cases e2
                refine tup_dm (fun e he => ?_) ?_ ?_
                · rcases List.mem_append.mp he with h | h
                  · exact mine e h
                  · rw [List.mem_singleton.mp h]
                    exact other
                · rw [wtAll_app]
                  omega
                · rw [List.length_append, List.length_singleton]
                  omega
              · obtain ⟨x, y, e1, e2, rfl⟩ := e
                cases e1
                cases e2
                exact ⟨_, rfl, by rw [List.length_append, List.length_singleton]; exact Nat.le_trans (Nat.add_le_add fitC (Nat.le_refl 1)) (by decide)⟩
              · obtain ⟨x, y, ⟨x2, y2, e1, e2, e4⟩, e3, rfl⟩ := e
                cases e1
                cases e2
                cases e3
                cases e4
                refine tup_dm (fun e he => ?_) ?_ ?_
                · rcases List.mem_append.mp he with h | h
                  · rcases List.mem_append.mp h with h | h
                    · exact mine e (cut_sub e h)
                    · rw [List.mem_singleton.mp h]
                      exact other
                  · exact mine e (cut_sub e h)
                · have c1 := cut_wt (ds := ds) (lo := none) (hi := some (i : Int))
                  have c2 := cut_wt (ds := ds) (lo := some ((i : Int) + 1)) (hi := none)
                  rw [wtAll_app, wtAll_app]
                  omega
                · rw [show ((i : Int) + 1) = ((i + 1 : Nat) : Int) by omega, cutD_from, cutD_to, List.length_append, List.length_append, List.length_take, List.length_drop, List.length_singleton]
                  omega
        · rw [decide_eq_false hdp]
          refine iteF (iteF ?_)
          refine ⟨.ref a, rfl, rfl, .tuple ds, (hd1.up (k2).same).up (hid_same l _), _, rfl, ?_⟩
          rw [isa_tuple]
          refine iteT ⟨.ref l, rfl, .ref a, rfl, a, xs, rfl, .inr (.inl (.inl ((k2) _ _ na ea))), (xs.length : Int), 1, rfl, rfl, l, _, rfl, s2, by omega, by omega, fun GA at1 kA sA a0 a1 => ?_⟩
          obtain ⟨i, rfl⟩ : ∃ i : Nat, at1 = (i : Int) := ⟨at1.toNat, by omega⟩
          have k2A := (k2).trans kA
          have hdA := hd1.up k2A.same
          refine gn_to (σ' := ([some (.ref l), some (.ref a), some (.int (n : Int)), some (.int way), some (.int (i : Int)), none, none] : L2.St)) rfl ?_
          dsimp only
          have fitC : ∀ {lo hi : Option Int}, (KX.cutD ds lo hi).length ≤ 100 := fun {lo hi} => Nat.le_trans (by unfold KX.cutD; rw [List.length_take, List.length_drop]; omega) n100
          have fitS : ∀ {lo hi : Option Int} (d : PyData), d = .tuple (KX.cutD ds lo hi) → ∃ z, d = .tuple z ∧ z.length ≤ 1000 := fun {lo hi} d e => ⟨_, e, Nat.le_trans fitC (by decide)⟩
          refine gm_seq (S := Al (DmG (.tuple ds)) 4) (P := KX.Env l _ [(.ref a, .tuple ds)] []) ?_ sA ⟨rfl, alld_cons hdA alld_nil, allm_nil⟩ fun H2 p2 xs2 ds2 g2 k2b st2 n2 e2 x2 => ?_
          · have tv : GD l (KX.Env l ([some (.ref l), some (.ref a), some (.int (n : Int)), some (.int way), some (.int (i : Int)), none, none] : L2.St) [(.ref a, .tuple ds)] []) (· = .tuple ds) (tVar 1) := gd_env (v := .ref a) (d := .tuple ds) rfl (by simp)
            have ti : GI l (KX.Env l ([some (.ref l), some (.ref a), some (.int (n : Int)), some (.int way), some (.int (i : Int)), none, none] : L2.St) [(.ref a, .tuple ds)] []) (· = (i : Int)) (tVar 4) := gi_env rfl
            refine al_lst (al_cons kp_env ((gd_listOf tv).imp fun d e => ?_) (al_cons kp_env ((gd_cat kp_env (gd_slice kp_env tv go_none (go_some ti)) (gd_slice kp_env tv (go_some (gi_add1 ti)) go_none) fitS fitS).imp fun d e => ?_)
                (al_cons kp_env ((gd_cat kp_env (gd_cat kp_env (gd_slice kp_env tv go_none (go_some ti)) (gd_slice kp_env tv (go_some ti) (go_some (gi_add1 ti))) fitS fitS) (gd_slice kp_env tv (go_some ti) go_none) (fun d e => ?_) fitS).imp fun d e => ?_) (al_cons kp_env ((gd_rev tv).imp fun d e => ?_) al_nil)))) (by decide)
            · subst e
              exact lst_dm gf
            · obtain ⟨x, y, e1, e2, rfl⟩ := e
              cases e1
              cases e2
              refine tup_dm (fun e he => ?_) ?_ ?_
              · rcases List.mem_append.mp he with h | h
                · exact mine e (cut_sub e h)
                · exact mine e (cut_sub e h)
              · have c1 := cut_wt (ds := ds) (lo := none) (hi := some (i : Int))
                have c2 := cut_wt (ds := ds) (lo := some ((i : Int) + 1)) (hi := none)
                rw [wtAll_app]
                omega
              · rw [show ((i : Int) + 1) = ((i + 1 : Nat) : Int) by omega, cutD_from, cutD_to, List.length_append, List.length_take, List.length_drop]
                omega
            · obtain ⟨x, y, e1, e2, rfl⟩ := e
              cases e1
              cases e2
              exact ⟨_, rfl, by rw [List.length_append]; exact Nat.le_trans (Nat.add_le_add fitC fitC) (by decide)⟩
            · obtain ⟨x, y, ⟨x2, y2, e1, e2, e4⟩, e3, rfl⟩ := e
              cases e1
              cases e2
              cases e3
              cases e4
              refine tup_dm (fun e he => ?_) ?_ ?_
              · rcases List.mem_append.mp he with h | h
                · rcases List.mem_append.mp h with h | h
                  · exact mine e (cut_sub e h)
                  · exact mine e (cut_sub e h)
                · exact mine e (cut_sub e h)
              · have c2 := cut_wt (ds := ds) (lo := some (i : Int)) (hi := some ((i : Int) + 1))
                have c3 := cutw i
                rw [wtAll_app, wtAll_app, cutD_from, cutD_to]
                omega
              · rw [cutD_from, cutD_to, cutD_one, List.length_append, List.length_append, List.length_take, List.length_take, List.length_drop]
                omega
            · subst e
              refine tup_dm (fun e he => mine e (List.mem_reverse.mp he)) ?_ ?_
              · rw [wtAll_rev]
                omega
              · rw [List.length_reverse]
                omega
          · dsimp only [List.set]
            refine ⟨.ref l, rfl, l, rfl, st2, fun H3 vo d3 k3b st3 m3 x3 => ?_⟩
            refine gn_to (σ' := ([some (.ref l), some (.ref a), some (.int (n : Int)), some (.int way), some (.int (i : Int)), some (.ref p2), some vo] : L2.St)) rfl ?_
            dsimp only
            obtain ⟨o1, o2, o3, o4⟩ := un_facts m3
            have tv : GD l (KX.Env l ([some (.ref l), some (.ref a), some (.int (n : Int)), some (.int way), some (.int (i : Int)), some (.ref p2), some vo] : L2.St) [(.ref a, .tuple ds), (vo, d3)] [(p2, xs2, ds2)]) (· = .tuple ds) (tVar 1) := gd_env (v := .ref a) (d := .tuple ds) rfl (by simp)
            have to : GD l (KX.Env l ([some (.ref l), some (.ref a), some (.int (n : Int)), some (.int way), some (.int (i : Int)), some (.ref p2), some vo] : L2.St) [(.ref a, .tuple ds), (vo, d3)] [(p2, xs2, ds2)]) (· = d3) (tVar 6) := gd_env (v := vo) (d := d3) rfl (by simp)
            have ti : GI l (KX.Env l ([some (.ref l), some (.ref a), some (.int (n : Int)), some (.int way), some (.int (i : Int)), some (.ref p2), some vo] : L2.St) [(.ref a, .tuple ds), (vo, d3)] [(p2, xs2, ds2)]) (· = (i : Int)) (tVar 4) := gi_env rfl
            have oneO : GD l (KX.Env l ([some (.ref l), some (.ref a), some (.int (n : Int)), some (.int way), some (.int (i : Int)), some (.ref p2), some vo] : L2.St) [(.ref a, .tuple ds), (vo, d3)] [(p2, xs2, ds2)]) (· = .tuple [d3]) (tTup (tCons (tVar 6) tNil)) :=
              (gd_tup (gds_cons kp_env to gds_nil) fun ds z => by obtain ⟨x, y, rfl, _, rfl⟩ := z; show 1 ≤ sizeLine; decide).imp fun d e => by
                obtain ⟨es, rfl, x, y, rfl, rfl, rfl⟩ := e
                rfl
            have fitO : ∀ d, d = PyData.tuple [d3] → ∃ z, d = .tuple z ∧ z.length ≤ 1000 := fun d e => ⟨_, e, by show 1 ≤ 1000; decide⟩
            have other : fine (10 ^ 40) d3 = true ∧ d3.depth ≤ PyData.depthAll ds + 4 := ⟨o1, by omega⟩
            have w3 : wtAll [d3] = wt d3 := by simp [wtAll]
            refine al_ix (S := DmG (.tuple ds)) (n := 6) (m := 6) kp_env (al_cat (n := 4) (m := 2) kp_env ((gm_env (xs := xs2) (ds := ds2) rfl (by simp)).imp fun _ e => by subst e; exact g2) (al_lst (al_cons kp_env ((gd_cat kp_env tv oneO (fun d e => ⟨_, e, Nat.le_trans n100 (by decide)⟩) fitO).imp fun d e => ?_)
                (al_cons kp_env ((gd_cat kp_env (gd_cat kp_env (gd_slice kp_env tv go_none (go_some ti)) oneO fitS fitO) (gd_slice kp_env tv (go_some (gi_add1 ti)) go_none) (fun d e => ?_) fitS).imp fun d e => ?_) al_nil)) (by decide)) (by decide)) (gi_drawS (n := 6) 0 rfl (gi_val fun σ H Q q => q) (by decide) (by decide)) rfl _ _ _ st3
                (show KX.Env l _ [(.ref a, .tuple ds), (vo, d3)] [(p2, xs2, ds2)] _ H3 from ⟨rfl, alld_cons (hdA.up (k2b.trans k3b).same) (alld_cons x3 alld_nil), allm_one n2 (k3b _ _ n2 e2) (x2.up k3b.same)⟩) fun H4 v4 d4 g4 k4 st4 x4 => q H4 v4 d4 (((k1.trans k2A).trans (k2b.trans k3b)).trans k4) st4 x4 g4
            · obtain ⟨x, y, e1, e2, rfl⟩ := e
              cases e1
              cases e2
              refine tup_dm (fun e he => ?_) ?_ ?_
              · rcases List.mem_append.mp he with h | h
                · exact mine e h
                · rw [List.mem_singleton.mp h]
                  exact other
              · rw [wtAll_app]
                omega
              · rw [List.length_append, List.length_singleton]
                omega
            · obtain ⟨x, y, e1, e2, rfl⟩ := e
              cases e1
              cases e2
              exact ⟨_, rfl, by rw [List.length_append, List.length_singleton]; exact Nat.le_trans (Nat.add_le_add fitC (Nat.le_refl 1)) (by decide)⟩
            · obtain ⟨x, y, ⟨x2, y2, e1, e2, e4⟩, e3, rfl⟩ := e
              cases e1
              cases e2
              cases e3
              cases e4
              refine tup_dm (fun e he => ?_) ?_ ?_
              · rcases List.mem_append.mp he with h | h
                · rcases List.mem_append.mp h with h | h
                  · exact mine e (cut_sub e h)
                  · rw [List.mem_singleton.mp h]
                    exact other
                · exact mine e (cut_sub e h)
              · have c1 := cut_wt (ds := ds) (lo := none) (hi := some (i : Int))
                have c2 := cut_wt (ds := ds) (lo := some ((i : Int) + 1)) (hi := none)
                rw [wtAll_app, wtAll_app]
                omega
              · rw [show ((i : Int) + 1) = ((i + 1 : Nat) : Int) by omega, cutD_from, cutD_to, List.length_append, List.length_append, List.length_take, List.length_drop, List.length_singleton]
                omega
    | str x =>
      have es : isaN "str" (.str x) = true := isa_str
      have ei : isaN "int" (.str x) = false := isa_int
      cases hd1
      rw [isa_tuple]
      refine iteF (iteF ⟨.str x, rfl, rfl, .str x, .str x, _, rfl, ?_⟩)
      rw [isa_tuple]
      refine iteF ⟨.str x, rfl, rfl, .str x, .str x, _, rfl, ?_⟩
      rw [es]
      refine iteT ⟨.int way, rfl, way, 6, rfl, rfl, _, rfl, ?_⟩
      have lx : x.length + 1 ≤ 1500 := by simpa only [wt] using w2
      have ewx : wt (.str x) = x.length + 1 := by simp [wt]
      have bl : (2000 : Nat) ≤ sizeLine := by decide
      by_cases hw : way < 6
      · rw [decide_eq_true hw]
        obtain ⟨uf, ul⟩ := upper_fine fd
        have cl := cutS_length x (some 1) none
        have e1 : ("a" : Str).length = 1 := rfl
        have e2 : ("-" : Str).length = 1 := rfl
        have ea : (x ++ ("a" : Str)).length = x.length + 1 := by rw [strLen_append, e1]
        have eb : (x ++ ("-" : Str)).length = x.length + 1 := by rw [strLen_append, e2]
        refine iteT ⟨.str x, rfl, x, "a", rfl, rfl, by omega, .str x, rfl, 1, rfl, x, rfl, by omega, .str x, rfl, ⟨x, rfl⟩, x, rfl, rfl, by omega, .str x, rfl, x, "-", rfl, rfl, by omega, by show 6 ≤ sizeLine; decide, fun p np => ?_⟩
        obtain ⟨y, my, ey⟩ := pick (f := V.str) (ns := [x ++ ("a" : Str), cutS x (some 1) none, Txt.upper x, x ++ ("-" : Str), "abcdefgh", "abcdefghi"]) y0 hw
        have hy : DmG (.str x) (.str y) := by
          simp only [List.mem_cons, List.not_mem_nil, or_false] at my
          rcases my with rfl | rfl | rfl | rfl | rfl | rfl
          · exact str_dm (str_app_fine fd (by decide +kernel)) (by omega)
          · exact str_dm (str_cut_fine fd) (by omega)
          · exact str_dm uf (by omega)
          · exact str_dm (str_app_fine fd (by decide +kernel)) (by omega)
          · exact str_dm (by decide +kernel) (by have : ("abcdefgh" : Str).length = 8 := rfl; omega)
          · exact str_dm (by decide +kernel) (by have : ("abcdefghi" : Str).length = 9 := rfl; omega)
        exact ⟨.int way, rfl, p, _, way, .str y, rfl, rfl, .inl (.inl upd_same), ey, q _ _ _ (k1.new np) (st1.new np) (.str y) hy⟩
      · rw [decide_eq_false hw]
        refine iteF ⟨.str x, rfl, rfl, .str x, .str x, _, rfl, ?_⟩
        rw [ei]
        exact iteF (iteF (last (Keep.refl l H1) st1 rfl))
    | int i =>
      have es : isaN "str" (.int i) = false := isa_str
      have ei : isaN "int" (.int i) = true := isa_int
      have eb : isaN "bool" (.int i) = false := isa_bool
      have hi : i.natAbs ≤ 10 ^ 9 := by have := hg.f; simpa [fine] using this
      cases hd1
      rw [isa_tuple]
      refine iteF (iteF ⟨.int i, rfl, rfl, .int i, .int i, _, rfl, ?_⟩)
      rw [isa_tuple]
      refine iteF ⟨.int i, rfl, rfl, .int i, .int i, _, rfl, ?_⟩
      rw [es]
      refine iteF (iteF ⟨.int i, rfl, rfl, .int i, .int i, _, rfl, ?_⟩)
      rw [ei]
      refine iteT ⟨.int i, rfl, rfl, .int i, .int i, _, rfl, ?_⟩
      rw [eb]
      refine iteT ⟨.int way, rfl, way, 6, rfl, rfl, _, rfl, ?_⟩
      by_cases hw : way < 6
      · rw [decide_eq_true hw]
        refine iteT ⟨.int i, rfl, i, 1, rfl, rfl, .int i, rfl, i, 1, rfl, rfl, 10, 6, rfl, rfl, ⟨by decide, by decide, by decide⟩, _, 1, rfl, rfl, 10, 9, rfl, rfl, ⟨by decide, by decide, by decide⟩, _, 1, rfl, rfl, 10, 9, rfl, rfl, ⟨by decide, by decide, by decide⟩, _, rfl, _, 1, rfl, rfl, by show 6 ≤ sizeLine; decide, fun p np => ?_⟩
        obtain ⟨y, my, ey⟩ := pick (f := V.int) (ns := [i + 1, i - 1, 10 ^ (6 : Int).toNat + 1, 10 ^ (9 : Int).toNat + 1, -(10 ^ (9 : Int).toNat) - 1, 0]) y0 hw
        have hy : DmG (.int i) (.int y) := by
          simp only [List.mem_cons, List.not_mem_nil, or_false] at my
          have z6 : (10 : Int) ^ (6 : Int).toNat = 1000000 := by decide
          have z9 : (10 : Int) ^ (9 : Int).toNat = 1000000000 := by decide
          rw [z6, z9] at my
          exact int_dm (by rcases my with rfl | rfl | rfl | rfl | rfl | rfl <;> omega)
        exact ⟨.int way, rfl, p, _, way, .int y, rfl, rfl, .inl (.inl upd_same), ey, q _ _ _ (k1.new np) (st1.new np) (.int y) hy⟩
      · rw [decide_eq_false hw]
        exact iteF (last (Keep.refl l H1) st1 rfl)
    | bool b =>
      have es : isaN "str" (.bool b) = false := isa_str
      have ei : isaN "int" (.bool b) = true := isa_int
      have eb : isaN "bool" (.bool b) = true := isa_bool
      cases hd1
      rw [isa_tuple]
      refine iteF (iteF ⟨.bl b, rfl, rfl, .bool b, .bl b, _, rfl, ?_⟩)
      rw [isa_tuple]
      refine iteF ⟨.bl b, rfl, rfl, .bool b, .bl b, _, rfl, ?_⟩
      rw [es]
      refine iteF (iteF ⟨.bl b, rfl, rfl, .bool b, .bl b, _, rfl, ?_⟩)
      rw [ei]
      refine iteT ⟨.bl b, rfl, rfl, .bool b, .bl b, _, rfl, ?_⟩
      rw [eb]
      exact iteF (iteF (last (Keep.refl l H1) st1 rfl))
    | none =>
      have es : isaN "str" (PyData.none) = false := isa_str
      have ei : isaN "int" (PyData.none) = false := isa_int
      rw [isa_tuple]
      refine iteF (iteF ⟨v, rfl, rfl, _, hd1.up (hid_same l H1), _, rfl, ?_⟩)
      rw [isa_tuple]
      refine iteF ⟨v, rfl, rfl, _, hd1.up (hid_same l H1), _, rfl, ?_⟩
      rw [es]
      refine iteF (iteF ⟨v, rfl, rfl, _, hd1.up (hid_same l H1), _, rfl, ?_⟩)
      rw [ei]
      exact iteF (iteF (last (Keep.refl l H1) st1 rfl))
    | list ds =>
      have es : isaN "str" (PyData.list ds) = false := isa_str
      have ei : isaN "int" (PyData.list ds) = false := isa_int
      rw [isa_tuple]
      refine iteF (iteF ⟨v, rfl, rfl, _, hd1.up (hid_same l H1), _, rfl, ?_⟩)
      rw [isa_tuple]
      refine iteF ⟨v, rfl, rfl, _, hd1.up (hid_same l H1), _, rfl, ?_⟩
      rw [es]
      refine iteF (iteF ⟨v, rfl, rfl, _, hd1.up (hid_same l H1), _, rfl, ?_⟩)
      rw [ei]
      exact iteF (iteF (last (Keep.refl l H1) st1 rfl))
    | dict ds =>
      have es : isaN "str" (PyData.dict ds) = false := isa_str
      have ei : isaN "int" (PyData.dict ds) = false := isa_int
      rw [isa_tuple]
      refine iteF (iteF ⟨v, rfl, rfl, _, hd1.up (hid_same l H1), _, rfl, ?_⟩)
      rw [isa_tuple]
      refine iteF ⟨v, rfl, rfl, _, hd1.up (hid_same l H1), _, rfl, ?_⟩
      rw [es]
      refine iteF (iteF ⟨v, rfl, rfl, _, hd1.up (hid_same l H1), _, rfl, ?_⟩)
      rw [ei]
      exact iteF (iteF (last (Keep.refl l H1) st1 rfl))
theorem ok_dm {f fD fA : Addr} {fd fdD fdA : FuncData} (B : Bl mg) (D : Df K mg "_law_damaged" sDm ["stream", "value", "deep"] f fd) (DD : Df K mg "_law_draw" sDraw ["stream", "total"] fD fdD) (DA : Df K mg "_law_unrelated" sUn ["stream"] fA fdA) : ∀ n, FnOk P w K mg base CX0 (3 + n) f fd ["stream", "value", "deep"] (spDm n)
  | 0 => ok_dm1 (k := 2) (sp' := fun _ _ _ _ => False) B D DD DA ((ok_draw B DD).mono (by decide)) (ok_un B DA DD (ok_draw B DD)) (D.F.ok scDm (fun _ _ _ _ h => h.elim) fun _ _ _ _ _ _ _ _ _ h => h.elim) (fun m e => by cases e)
  | n + 1 => ok_dm1 (k := 3 + n) (sp' := spDm n) B D DD DA ((ok_draw B DD).mono (by omega)) ((ok_un B DA DD (ok_draw B DD)).mono (by omega)) (ok_dm B D DD DA n) (fun j e vs H Q E h => by cases e; exact h)
end
end U1

set_option maxRecDepth 100000
set_option maxHeartbeats 4000000
namespace U1
open PySem PySem.Spec PyProof.Rows L2 KX
/-! ### _law_shuffled -/
abbrev sSh : Stmt := topS 48
theorem erase_mapG {α β : Type} (f : α → β) : ∀ (l : List α) (j : Nat), (l.map f).eraseIdx j = (l.eraseIdx j).map f
  | [], _ => by simp
  | x :: l, 0 => by simp
  | x :: l, j + 1 => by simp [erase_mapG f l j]
theorem erase_permG {α : Type} : ∀ (l : List α) (j : Nat) (k : α), l[j]? = some k → (k :: l.eraseIdx j).Perm l
  | [], _, _, h => by simp at h
  | x :: l, 0, k, h => by
    simp at h
    subst h
    exact .refl _
  | x :: l, j + 1, k, h => by
    have ih := erase_permG l j k (by simpa using h)
    exact (List.Perm.swap x k _).trans (ih.cons x)
def spSh : Sp := fun vs H Q _ => ∃ (l : Addr) (v : V) (rs : List Rec), vs = [.ref l, v] ∧ StO H l ∧ Dx (hid l H) v (.tuple (rs.map encR)) ∧ rs.length ≤ 100 ∧
  ∀ (H' : Hp) (p : Addr) (rs' : List Rec), Keep l H H' → StO H' l → rs'.Perm rs → Dx (hid l H') (.ref p) (.tuple (rs'.map encR)) → Q (.ref p) H'
theorem scSh : FnScope ["stream", "items", "left", "found", "turn"] ["stream", "items"] (defScope sSh) := ⟨rfl, rfl, rfl, by decide +kernel, rfl, by decide +kernel, by decide +kernel⟩
section
variable {P : Program} {w : World} {K : PySem.W.Frag} {mg : Str → Option Value} {base : Heap}
theorem ok_sh {k : Nat} {f fD : Addr} {fd fdD : FuncData} (B : Bl mg) (D : Df K mg "_law_shuffled" sSh ["stream", "items"] f fd) (DD : Df K mg "_law_draw" sDraw ["stream", "total"] fD fdD) (GDr : FnOk P w K mg base CX0 k fD fdD ["stream", "total"] spDraw) :
    FnOk P w K mg base CX0 (k + 1) f fd ["stream", "items"] spSh := by
  refine D.F.ok scSh (fun vs H Q E h => ?_) (fun cdv A outer s H vs Q E hr h => ?_)
  · obtain ⟨l, v, rs, rfl, _⟩ := h
    rfl
  · obtain ⟨l, v, rs, rfl, st, hd, hn, q⟩ := h
    have nd := scSh.nd
    refine ⟨_, pss_cons (ps_par (i := 2) (j := 3) rfl nd rfl rfl (by decide) rfl rfl (pa_cons (pe_callTy call_lst2 (by rfl) B.list (by decide +kernel) (pa_cons (pv 1) pa_nil)) (pa_cons (pe_lst pa_nil) pa_nil)) (by rfl))
      (pss_cons (ps_for PassesOwn.never rfl (pi_range1 (by rfl) B.range (pa_cons (pe_callB (call_lenK (K := K) rfl) (by rfl) B.len PySem.boot_len (pa_cons (pv 1) pa_nil)) pa_nil)) (pg_name (i := 4) nd rfl (.inl rfl))
        (pss_one (ps_expr (pe_bm PySem.F.plainAttrs_list PySem.F.slot_list_append PySem.F.type_list_append mt_append (pv 3) (pa_cons
          (pe_bm PySem.F.plainAttrs_list PySem.F.slot_list_pop PySem.F.type_list_pop mt_popAt (pv 2) (pa_cons (pe_call GDr hr (by rfl) DD.g DD.F.kp DD.b .nil pass0 (pa_cons (pv 0) (pa_cons (pe_callB (call_lenK (K := K) rfl) (by rfl) B.len PySem.boot_len (pa_cons (pv 2) pa_nil)) pa_nil))) pa_nil)) pa_nil)))))
      (pss_one (ps_ret (pe_callTy call_tuple_of (by rfl) B.tuple (by decide +kernel) (pa_cons (pv 3) pa_nil))))), ?_⟩
    obtain ⟨a, xs, rfl, na, ea, hx⟩ := dx_tupOf hd
    have lx := hx.len
    rw [List.length_map] at lx
    obtain ⟨ps, eps⟩ : ∃ ps : List (V × Rec), ps = xs.zip rs := ⟨_, rfl⟩
    have p1 : ps.map (·.1) = xs := by rw [eps, List.map_fst_zip (by omega)]
    have p2 : ps.map (·.2) = rs := by rw [eps, List.map_snd_zip (by omega)]
    have lp : ps.length = rs.length := by rw [← p2, List.length_map]
    have each : ∀ b ∈ ps, Dx (hid l H) b.1 (encR b.2) := fun b hb => by
      rw [eps] at hb
      obtain ⟨i, hi, e⟩ := List.mem_iff_getElem.mp hb
      have e' : (xs.zip rs)[i]? = some b := by rw [List.getElem?_eq_getElem hi, e]
      rw [List.getElem?_zip_eq_some] at e'
      obtain ⟨d, ed, hd⟩ := hx.get' e'.1
      rw [List.getElem?_map, e'.2] at ed
      cases ed
      exact hd
    refine ⟨.ref a, rfl, a, xs, rfl, .inr (.inl (.inl ea)), fun L nL zL => ⟨Nat.zero_le _, fun F nF => ?_⟩⟩
    have hL : L ≠ l := st.ne nL
    have st1 := st.new (o := .lst xs) nL
    have hF : F ≠ l := st1.ne nF
    have hLF : L ≠ F := ne_of_none upd_same nF
    have st2 := st1.new (o := .lst []) nF
    have kp0 : Keep l H (upd (upd H L (.lst xs)) F (.lst [])) := ((Keep.refl l H).new nL).new nF
    have nF0 : H F = none := by rw [upd_ne hLF.symm] at nF; exact nF
    have eL0 : (upd (upd H L (.lst xs)) F (.lst [])) L = some (.lst (ps.map (·.1))) := by rw [upd_ne hLF, upd_same, p1]
    have eF0 : (upd (upd H L (.lst xs)) F (.lst [])) F = some (.lst ((([] : List (V × Rec))).map (·.1))) := upd_same
    generalize upd (upd H L (.lst xs)) F (.lst []) = H1 at st2 kp0 eL0 eF0 ⊢
    have line : (1000 : Nat) < sizeLine := by decide
    refine ⟨.ref L, .ref F, rfl, .ref a, rfl, a, xs, rfl, .inr (.inl (.inl (kp0 _ _ na ea))), _, rfl, by omega, by omega, ?_⟩
    refine for_range (lo := 0) (n := Int.toNat _) (fun i σ G => Keep l H G ∧ StO G l ∧ ∃ (rem fs : List (V × Rec)) (x4 : Option V), σ = [some (.ref l), some (.ref a), some (.ref L), some (.ref F), x4] ∧
        G L = some (.lst (rem.map (·.1))) ∧ G F = some (.lst (fs.map (·.1))) ∧ fs.length = i ∧ (rem ++ fs).Perm ps)
      ⟨kp0, st2, ps, [], none, rfl, eL0, eF0, rfl, by rw [List.append_nil]⟩ (fun i σ G hi hp => ?_) (fun σ G hp => ?_)
    · obtain ⟨kp, stG, rem, fs, x4, rfl, eL, eF, hlen, hpm⟩ := hp
      have lpm := hpm.length_eq
      rw [List.length_append] at lpm
      have hrl : 1 ≤ rem.length := by omega
      refine ⟨.ref F, rfl, .inl ⟨rfl, _, .inl (.inl eF)⟩, .ref L, rfl, .inl ⟨rfl, _, .inl (.inl eL)⟩, .ref l, rfl, .ref L, rfl, L, _, rfl, .inl (.inl (.inl eL)), l, _, rfl, stG, ?_, ?_, fun G5 d5 k5 s5 d50 d54 => ?_⟩
      · rw [List.length_map]; omega
      · rw [List.length_map]; omega
      rw [List.length_map] at d54
      have eL5 := k5 _ _ hL eL
      have eF5 := k5 _ _ hF eF
      have hd5 : d5.toNat < rem.length := by omega
      have ek : rem[d5.toNat]? = some rem[d5.toNat] := List.getElem?_eq_getElem hd5
      refine ⟨L, _, d5, d5.toNat, rem[d5.toNat].1, rfl, rfl, eL5, by omega, by omega, PySem.StrLaws.seqIndex_nonneg d50 (by rw [List.length_map]; exact d54), by rw [List.getElem?_map, ek]; rfl, ?_⟩
      refine ⟨F, fs.map (·.1), _, rfl, rfl, by rw [upd_ne hLF.symm]; exact eF5, by rw [List.length_map]; omega, ?_⟩
      refine ⟨?_, ?_, rem.eraseIdx d5.toNat, fs ++ [rem[d5.toNat]], _, rfl, ?_, ?_, ?_, ?_⟩
      · refine fun b o nb e => ?_
        rw [upd_ne (ne_of_none e nF0), upd_ne (ne_of_none e nL)]
        exact k5 _ _ nb (kp _ _ nb e)
      · obtain ⟨x, y, z, e⟩ := s5
        exact ⟨x, y, z, by rw [upd_ne hF.symm, upd_ne hL.symm]; exact e⟩
      · rw [upd_ne hLF, upd_same, erase_mapG]
      · rw [upd_same, List.map_append]
        rfl
      · rw [List.length_append, hlen]
        rfl
      · refine List.Perm.trans ?_ hpm
        have pm := erase_permG rem d5.toNat _ ek
        have a1 := pm.append_right fs
        refine List.Perm.trans ?_ a1
        rw [← List.append_assoc]
        exact List.perm_append_singleton _ _
    · obtain ⟨kp, stG, rem, fs, x4, rfl, eL, eF, hlen, hpm⟩ := hp
      have lpm := hpm.length_eq
      rw [List.length_append] at lpm
      have r0 : rem = [] := List.eq_nil_of_length_eq_zero (by omega)
      subst r0
      rw [List.nil_append] at hpm
      refine ⟨.ref F, rfl, F, _, rfl, .inl ⟨.inl (.inl eF), fun p np => ?_⟩⟩
      have hx2 := dxs_pairs fs fun b hb => each b (hpm.mem_iff.mp hb)
      refine q _ p (fs.map (·.2)) (kp.new np) (stG.new np) (by rw [← p2]; exact hpm.map _) ?_
      rw [List.map_map]
      exact dx_tup np stG (hx2.up kp.same)
end
end U1

set_option maxRecDepth 100000
set_option maxHeartbeats 4000000
namespace U1
open PySem PySem.Spec PyProof.Rows L2 KX
/-! ### _law_changed -/
abbrev sCh : Stmt := topS 50
/-- a value to be checked -/
structure VG (d : PyData) : Prop where
  f : fine (10 ^ 40) d = true
  w : wt d ≤ 4000
  p : d.depth ≤ 20
  n : ∀ ds, d = .tuple ds → ds.length ≤ 63
theorem rec_fine9 {wd : Nat} {r : Rec} (h : ROk wd r) (hw : wd ≤ 4) : fine (10 ^ 9) (encR r) = true ∧ wt (encR r) ≤ 20 ∧ (encR r).depth ≤ 50 := by
  obtain ⟨n, hn, h⟩ := h
  have l8 := (name_ok hn h.nm).2
  have hl := h.len
  have c0 := h.c0
  have c1 := h.c1
  have e0 := h.e0
  have e1 := h.e1
  obtain ⟨suf, ex, hs, hx⟩ := h.nm
  refine ⟨?_, ?_, depth_rec r⟩
  · simp only [encR, fine, fineAll, Bool.and_eq_true]
    refine ⟨?_, decide_eq_true (by omega), fine_ints _ h.vs (by decide), decide_eq_true (by omega), trivial⟩
    refine List.all_eq_true.mpr fun c hc => decide_eq_true ?_
    rw [ex] at hc
    rcases List.mem_append.mp hc with hc | hc
    · unfold baseL at hc
      rcases List.mem_append.mp hc with hc | hc
      · rcases List.mem_append.mp hc with hc | hc
        · have := List.mem_singleton.mp hc
          omega
        · split at hc
          · have := List.mem_singleton.mp hc
            omega
          · cases hc
      · split at hc
        · have := List.mem_singleton.mp hc
          omega
        · cases hc
    · have := hs c hc
      omega
  · simp only [encR, wt, wtAll, wt_ints]
    omega
theorem rows_dmi {wd : Nat} {rs : List Rec} (hr : ∀ r ∈ rs, ROk wd r) (hl : rs.length ≤ 61) (hw : wd ≤ 4) : DmI (.tuple (rs.map encR)) := by
  have hm : ∀ e ∈ rs.map encR, fine (10 ^ 9) e = true ∧ wt e ≤ 20 := fun e he => by
    obtain ⟨r, mr, rfl⟩ := List.mem_map.mp he
    exact ⟨(rec_fine9 (hr r mr) hw).1, (rec_fine9 (hr r mr) hw).2.1⟩
  have gr := wtAll_le fun e he => (hm e he).2
  rw [List.length_map] at gr
  refine ⟨by simp only [fine]; exact fineAll_mem.mpr fun e he => (hm e he).1, by simp only [wt]; omega, fun ds z => ?_⟩
  cases z
  exact ⟨by rw [List.length_map]; omega, fun e he => Nat.le_trans (hm e he).2 (by decide)⟩
theorem rec_dep (r : Rec) : (encR r).depth ≤ 2 := by
  have : ∀ ns : List Int, PyData.depthAll (ns.map PyData.int) = 0 := fun ns => by
    induction ns with
    | nil => simp [PyData.depthAll]
    | cons n ns ih => simp [PyData.depthAll, PyData.depth, ih]
  simp [encR, PyData.depth, PyData.depthAll, this]
/-- one that may stand between rows -/
structure It1 (d : PyData) : Prop where
  f : fine (10 ^ 40) d = true
  w : wt d ≤ 100
  p : d.depth ≤ 5
structure RsI (rs : List Rec) : Prop where
  f : fineAll (10 ^ 40) (rs.map encR) = true
  w : wtAll (rs.map encR) ≤ 1220
  p : PyData.depthAll (rs.map encR) ≤ 2
  n : rs.length ≤ 60
theorem rows_rsi {wd : Nat} {rs : List Rec} (hr : ∀ r ∈ rs, ROk wd r) (hl : rs.length ≤ 60) (hw : wd ≤ 4) : RsI rs := by
  have hm : ∀ e ∈ rs.map encR, fine (10 ^ 40) e = true ∧ wt e ≤ 20 ∧ e.depth ≤ 2 := fun e he => by
    obtain ⟨r, mr, rfl⟩ := List.mem_map.mp he
    exact ⟨(rec_fine (hr r mr) hw).1, (rec_fine (hr r mr) hw).2.1, rec_dep r⟩
  have gr := wtAll_le fun e he => (hm e he).2.1
  rw [List.length_map] at gr
  exact ⟨fineAll_mem.mpr fun e he => (hm e he).1, by omega, depthAll_le fun e he => (hm e he).2.2, hl⟩
theorem vg_ins {rs : List Rec} (R : RsI rs) (k : Nat) {x : PyData} (hx : It1 x) : VG (.tuple ((rs.map encR).take k ++ [x] ++ (rs.map encR).drop k)) := by
  have w := wtAll_take k (rs.map encR)
  have w0 := R.w
  have w1 := hx.w
  refine ⟨?_, ?_, ?_, fun ds z => ?_⟩
  · simp only [fine]
    refine fineAll_mem.mpr fun e he => ?_
    rcases List.mem_append.mp he with he | he
    · rcases List.mem_append.mp he with he | he
      · exact fineAll_mem.mp R.f e (List.mem_of_mem_take he)
      · rw [List.mem_singleton.mp he]
        exact hx.f
    · exact fineAll_mem.mp R.f e (List.mem_of_mem_drop he)
  · simp only [wt]
    rw [wtAll_app, wtAll_app]
    have : wtAll [x] = wt x := by simp [wtAll]
    omega
  · have := depthAll_le (k := 5) (es := (rs.map encR).take k ++ [x] ++ (rs.map encR).drop k) fun e he => by
      rcases List.mem_append.mp he with he | he
      · rcases List.mem_append.mp he with he | he
        · have := depth_mem (List.mem_of_mem_take he)
          have := R.p
          omega
        · rw [List.mem_singleton.mp he]
          exact hx.p
      · have := depth_mem (List.mem_of_mem_drop he)
        have := R.p
        omega
    simp only [PyData.depth]
    omega
  · cases z
    have := R.n
    rw [List.length_append, List.length_append, List.length_take, List.length_drop, List.length_map, List.length_singleton]
    omega
theorem vg_rows {rs : List Rec} (R : RsI rs) : VG (.tuple (rs.map encR)) :=
  ⟨by simpa only [fine] using R.f, by have := R.w; simp only [wt]; omega, by have := R.p; simp only [PyData.depth]; omega, fun ds z => by cases z; have := R.n; rw [List.length_map]; omega⟩
theorem vg_list {rs : List Rec} (R : RsI rs) : VG (.list (rs.map encR)) :=
  ⟨by simpa only [fine] using R.f, by have := R.w; simp only [wt]; omega, by have := R.p; simp only [PyData.depth]; omega, fun ds z => by cases z⟩
theorem vg_rev {rs : List Rec} (R : RsI rs) : VG (.tuple (rs.map encR).reverse) := by
  rw [← List.map_reverse]
  refine vg_rows ⟨?_, ?_, ?_, by rw [List.length_reverse]; exact R.n⟩
  · exact fineAll_mem.mpr fun e he => fineAll_mem.mp R.f e (by rw [List.map_reverse] at he; exact List.mem_reverse.mp he)
  · rw [List.map_reverse, wtAll_rev]
    exact R.w
  · exact depthAll_le fun e he => Nat.le_trans (depth_mem (by rw [List.map_reverse] at he; exact List.mem_reverse.mp he)) R.p
theorem vg_one {rs : List Rec} (R : RsI rs) : VG (.tuple [.tuple (rs.map encR)]) := by
  have h := vg_rows R
  have h1 := h.f
  have h2 := R.w
  have h3 := R.p
  refine ⟨by simp only [fine, fineAll, Bool.and_true]; simpa only [fine] using h1, by simp only [wt, wtAll]; omega, by simp only [PyData.depth, PyData.depthAll]; omega, fun ds z => by cases z; show 1 ≤ 63; decide⟩
theorem vg_it {d : PyData} (h : It1 d) (n : tln d ≤ 63) : VG d := ⟨h.f, by have := h.w; omega, by have := h.p; omega, fun ds z => by subst z; exact n⟩
theorem vg_dm {rs : List Rec} (R : RsI rs) {d : PyData} (h : DmG (.tuple (rs.map encR)) d) : VG d := by
  have h1 := R.w
  have h2 := R.p
  have h3 := h.w
  have h4 := h.p
  have h5 := R.n
  simp only [wt] at h3
  simp only [PyData.depth] at h4
  refine ⟨h.f, by omega, by omega, fun ds z => ?_⟩
  have h6 := h.n ds z
  have e : tln (.tuple (rs.map encR)) = rs.length := by show (rs.map encR).length = _; rw [List.length_map]
  rw [e] at h6
  omega
theorem un_it {d : PyData} (h : d ∈ unL) : It1 d ∧ tln d ≤ 63 := by
  obtain ⟨a, b, c, e⟩ := un_facts h
  exact ⟨⟨a, by omega, by omega⟩, by omega⟩
theorem rec_it {wd : Nat} {r : Rec} (h : ROk wd r) (hw : wd ≤ 4) : It1 (encR r) ∧ tln (encR r) ≤ 63 := by
  obtain ⟨a, b, _⟩ := rec_fine h hw
  have := rec_dep r
  exact ⟨⟨a, by omega, by omega⟩, by show 4 ≤ 63; decide⟩
theorem it_row {nm : Str} {c e : Int} {ws : List PyData} (h1 : fine (10 ^ 40) (.str nm) = true) (l1 : nm.length ≤ 12) (hc : c.natAbs ≤ 10 ^ 10) (he : e.natAbs ≤ 10 ^ 10) (h2 : fineAll (10 ^ 40) ws = true) (w2 : wtAll ws ≤ 10) (p2 : PyData.depthAll ws ≤ 1) : It1 (.tuple [.str nm, .int c, .tuple ws, .int e]) := by
  have z : (10 : Nat) ^ 10 ≤ 10 ^ 40 := by decide +kernel
  refine ⟨?_, by simp only [wt, wtAll]; omega, by simp only [PyData.depth, PyData.depthAll]; omega⟩
  simp only [fine, fineAll, Bool.and_eq_true]
  exact ⟨by simpa only [fine] using h1, decide_eq_true (Nat.le_trans hc z), h2, decide_eq_true (Nat.le_trans he z), trivial⟩
theorem rec_parts {wd : Nat} {r : Rec} (h : ROk wd r) (hw : wd ≤ 4) : fine (10 ^ 40) (.str r.nm) = true ∧ fineAll (10 ^ 40) (r.vals.map .int) = true ∧ wtAll (r.vals.map .int) ≤ 4 ∧ PyData.depthAll (r.vals.map .int) ≤ 0 := by
  have f := (rec_fine h hw).1
  obtain ⟨n, hn, o⟩ := h
  simp only [encR, fine, fineAll, Bool.and_eq_true] at f
  refine ⟨by simpa only [fine] using f.1, f.2.2.1, by rw [wt_ints, o.len]; exact hw, depthAll_le fun e he => ?_⟩
  obtain ⟨i, _, rfl⟩ := List.mem_map.mp he
  simp [PyData.depth]
def spCh : Sp := fun vs H Q _ => ∃ (l : Addr) (v : V) (rs : List Rec) (wd : Nat), vs = [.ref l, v] ∧ StO H l ∧ Dx (hid l H) v (.tuple (rs.map encR)) ∧ rs.length ≤ 60 ∧ (∀ r ∈ rs, ROk wd r) ∧ 1 ≤ wd ∧ wd ≤ 4 ∧
  ∀ H' v' d', Keep l H H' → StO H' l → Dx (hid l H') v' d' → VG d' → Q v' H'
abbrev NC : List Str := ["stream", "rows", "row", "at", "other", "wider", "some"]
theorem scCh : FnScope NC ["stream", "rows"] (defScope sCh) := ⟨rfl, rfl, rfl, by decide +kernel, rfl, by decide +kernel, by decide +kernel⟩
section
variable {P : Program} {w : World} {K : PySem.W.Frag} {mg : Str → Option Value} {base : Heap}
theorem gd_unC {l : Addr} {σ0 : L2.St} {L : List (V × PyData)} {M : List (Addr × List V × List PyData)} (h0 : σ0[0]? = some (some (.ref l))) : GD l (KX.Env l σ0 L M) (· ∈ unL) (tCall spUn [] E0 (tCons (tVar 0) tNil)) := fun σ H Q st p q =>
  ⟨.ref l, by rw [p.1]; exact h0, l, rfl, st, fun H' v d k st' m x => q H' v d m k st' x⟩
theorem gd_dmC {l : Addr} {σ0 : L2.St} {L : List (V × PyData)} {M : List (Addr × List V × List PyData)} {v : V} {d : PyData} (h0 : σ0[0]? = some (some (.ref l))) (h1 : σ0[1]? = some (some v)) (hm : (v, d) ∈ L) (hd : DmI d) :
    GD l (KX.Env l σ0 L M) (DmG d) (tCall (spDm 4) [] E0 (tCons (tVar 0) (tCons (tVar 1) (tCons (tC (.int 4)) tNil)))) := fun σ H Q st p q =>
  ⟨.ref l, by rw [p.1]; exact h0, v, by rw [p.1]; exact h1, l, v, d, rfl, st, p.2.1 _ hm, hd, fun H' v' d' k st' x g => q H' v' d' g k st' x⟩
theorem gd_oneC {l : Addr} {Pp : KX.PSt} {S : PyData → Prop} {t : TE} (kp : Kp l Pp) (h : GD l Pp S t) : GD l Pp (fun d => ∃ x, d = .tuple [x] ∧ S x) (tTup (tCons t tNil)) :=
  (gd_tup (gds_cons kp h gds_nil) fun ds z => by obtain ⟨x, y, rfl, _, rfl⟩ := z; show 1 ≤ sizeLine; decide).imp fun d e => by
    obtain ⟨ds, rfl, x, y, rfl, s, rfl⟩ := e
    exact ⟨x, rfl, s⟩
theorem gd_ins {l : Addr} {Pp : KX.PSt} {rs : List Rec} {k : Nat} {ta tk tk2 tx : TE} (kp : Kp l Pp) (R : RsI rs) (hv : GD l Pp (· = .tuple (rs.map encR)) ta) (hk : GI l Pp (· = (k : Int)) tk) (hk2 : GI l Pp (· = (k : Int)) tk2) (hx : GD l Pp It1 tx) :
    GD l Pp VG (tOp (rCatA K) (tOp (rCatA K) (L2.tSl (rSlA K) ta tNoPart (tPart tk)) (tTup (tCons tx tNil))) (L2.tSl (rSlA K) ta (tPart tk2) tNoPart)) := by
  have fit : ∀ {lo hi : Option Int}, (KX.cutD (rs.map encR) lo hi).length ≤ 60 := fun {lo hi} => Nat.le_trans (by unfold KX.cutD; rw [List.length_take, List.length_drop]; omega) (show (rs.map encR).length ≤ 60 by rw [List.length_map]; exact R.n)
  have fitS : ∀ {lo hi : Option Int} (d : PyData), d = .tuple (KX.cutD (rs.map encR) lo hi) → ∃ z, d = .tuple z ∧ z.length ≤ 1000 := fun {lo hi} d e => ⟨_, e, Nat.le_trans fit (by decide)⟩
  refine (gd_cat kp (gd_cat kp (gd_slice kp hv go_none (go_some hk)) (gd_oneC kp hx) fitS (fun d e => ?_)) (gd_slice kp hv (go_some hk2) go_none) (fun d e => ?_) fitS).imp fun d e => ?_
  · obtain ⟨x, rfl, _⟩ := e
    exact ⟨_, rfl, by show 1 ≤ 1000; decide⟩
  · obtain ⟨x, y, e1, ⟨z, e2, _⟩, rfl⟩ := e
    cases e1
    cases e2
    exact ⟨_, rfl, by rw [List.length_append, List.length_singleton]; exact Nat.le_trans (Nat.add_le_add fit (Nat.le_refl 1)) (by decide)⟩
  · obtain ⟨x, y, ⟨x2, y2, e1, ⟨z, e2, hz⟩, e4⟩, e3, rfl⟩ := e
    cases e1
    cases e2
    cases e3
    cases e4
    rw [cutD_to, cutD_from]
    exact vg_ins R k hz
theorem ok_ch {k : Nat} {f fD fU fM : Addr} {fd fdD fdU fdM : FuncData} (B : Bl mg) (D : Df K mg "_law_changed" sCh ["stream", "rows"] f fd) (DD : Df K mg "_law_draw" sDraw ["stream", "total"] fD fdD) (DU : Df K mg "_law_unrelated" sUn ["stream"] fU fdU) (DM : Df K mg "_law_damaged" sDm ["stream", "value", "deep"] fM fdM)
    (GDr : FnOk P w K mg base CX0 k fD fdD ["stream", "total"] spDraw) (GU : FnOk P w K mg base CX0 k fU fdU ["stream"] spUn) (GM : FnOk P w K mg base CX0 k fM fdM ["stream", "value", "deep"] (spDm 4)) :
    FnOk P w K mg base CX0 (k + 1) f fd ["stream", "rows"] spCh := by
  refine D.F.ok scCh (fun vs H Q E h => ?_) (fun cdv A outer s H vs Q E hr h => ?_)
  · obtain ⟨l, v, rs, wd, rfl, _⟩ := h
    rfl
  · obtain ⟨l, v, rs, wd, rfl, st, hd, hn, hrok, w1, w4, q⟩ := h
    have nd := scCh.nd
    have R := rows_rsi hrok hn w4
    have dI := rows_dmi hrok (by omega) w4
    refine ⟨_, pss_cons (ps_if (pt_cmpR (op_eq0 hr.units0) (pv 1) (pe_tup pa_nil) (nomark _))
        (pss_one (ps_ret (pe_ix ix_list (pe_lst (pa_cons pe_non (pa_cons (pe_lstS pa_nil) (pa_cons pe_dnewK (pa_cons pe_str (pa_cons pe_int (pa_cons (pe_tup (pa_cons pe_non pa_nil)) (pa_cons (pe_tup (pa_cons (pe_tup pa_nil) pa_nil))
            (pa_cons (pe_tup (pa_cons (pe_call GU hr (by rfl) DU.g DU.F.kp DU.b .nil pass0 (pa_cons (pv 0) pa_nil)) pa_nil)) pa_nil))))))))) (pe_call GDr hr (by rfl) DD.g DD.F.kp DD.b .nil pass0 (pa_cons (pv 0) (pa_cons pe_int pa_nil))) (fun _ _ => rfl)))) pss_nil)
      (pss_cons (ps_set (i := 2) nd rfl (.inl rfl) (pe_ix ix_tup (pv 1) (pe_call GDr hr (by rfl) DD.g DD.F.kp DD.b .nil pass0 (pa_cons (pv 0) (pa_cons (pe_callB (call_lenK (K := K) rfl) (by rfl) B.len PySem.boot_len (pa_cons (pv 1) pa_nil)) pa_nil))) (fun _ _ => rfl)))
      (pss_cons (ps_set (i := 3) nd rfl (.inl rfl) (pe_call GDr hr (by rfl) DD.g DD.F.kp DD.b .nil pass0 (pa_cons (pv 0) (pa_cons (pe_op op_add (pe_callB (call_lenK (K := K) rfl) (by rfl) B.len PySem.boot_len (pa_cons (pv 1) pa_nil)) pe_int) pa_nil))))
      (pss_cons (ps_set (i := 4) nd rfl (.inl rfl) (pe_tup (pa_cons (pe_ix ix_tup (pv 2) pe_int (fun _ _ => rfl)) (pa_cons (pe_op op_add (pe_op op_mod (pe_ix ix_tup (pv 2) pe_int (fun _ _ => rfl)) pe_int) pe_int) (pa_cons (pe_ix ix_tup (pv 2) pe_int (fun _ _ => rfl))
          (pa_cons (pe_op op_add pe_int (pe_op op_mod (pe_ix ix_tup (pv 2) pe_int (fun _ _ => rfl)) pe_int)) pa_nil))))))
      (pss_cons (ps_set (i := 5) nd rfl (.inl rfl) (pe_tup (pa_cons (pe_op op_add_str pe_str (pe_slice sl_str (pe_ix ix_tup (pv 2) pe_int (fun _ _ => rfl)) po_none (po_some pe_int))) (pa_cons pe_int
          (pa_cons (pe_slice sl_tupA (pe_op op_catA (pe_ix ix_tup (pv 2) pe_int (fun _ _ => rfl)) (pe_tup (pa_cons pe_int pa_nil))) po_none (po_some (pe_op op_sub pe_int (pe_callB (call_lenK (K := K) rfl) (by rfl) B.len PySem.boot_len (pa_cons (pe_ix ix_tup (pv 2) pe_int (fun _ _ => rfl)) pa_nil))))) (pa_cons pe_int pa_nil))))))
      (pss_cons (ps_set (i := 6) nd rfl (.inl rfl) (pe_lst (pa_cons (pe_op op_catA (pe_op op_catA (pe_slice sl_tupA (pv 1) po_none (po_some (pv 3))) (pe_tup (pa_cons (pv 2) pa_nil))) (pe_slice sl_tupA (pv 1) (po_some (pv 3)) po_none))
          (pa_cons (pe_op op_catA (pe_op op_catA (pe_slice sl_tupA (pv 1) po_none (po_some (pv 3))) (pe_tup (pa_cons (pv 4) pa_nil))) (pe_slice sl_tupA (pv 1) (po_some (pv 3)) po_none))
          (pa_cons (pe_op op_catA (pe_op op_catA (pe_slice sl_tupA (pv 1) po_none (po_some (pv 3))) (pe_tup (pa_cons (pv 5) pa_nil))) (pe_slice sl_tupA (pv 1) (po_some (pv 3)) po_none)) pa_nil)))))
      (pss_cons (ps_set (i := 6) nd rfl (.inl rfl) (pe_op op_cat (pv 6) (pe_lst (pa_cons (pe_callTy call_lst2 (by rfl) B.list (by decide +kernel) (pa_cons (pv 1) pa_nil))
          (pa_cons (pe_op op_catA (pe_op op_catA (pe_slice sl_tupA (pv 1) po_none (po_some (pv 3))) (pe_tup (pa_cons (pe_call GU hr (by rfl) DU.g DU.F.kp DU.b .nil pass0 (pa_cons (pv 0) pa_nil)) pa_nil))) (pe_slice sl_tupA (pv 1) (po_some (pv 3)) po_none))
          (pa_cons (pe_revT (pv 1)) (pa_cons (pv 2) (pa_cons (pe_tup (pa_cons (pv 1) pa_nil)) pa_nil))))))))
      (pss_one (ps_ret (pe_ix ix_list (pe_op op_cat (pv 6) (pe_lst (pa_cons (pe_call GM hr (by rfl) DM.g DM.F.kp DM.b .nil pass0 (pa_cons (pv 0) (pa_cons (pv 1) (pa_cons pe_int pa_nil)))) (pa_cons (pe_call GM hr (by rfl) DM.g DM.F.kp DM.b .nil pass0 (pa_cons (pv 0) (pa_cons (pv 1) (pa_cons pe_int pa_nil)))) pa_nil))))
          (pe_call GDr hr (by rfl) DD.g DD.F.kp DD.b .nil pass0 (pa_cons (pv 0) (pa_cons pe_int pa_nil))) (fun _ _ => rfl)))))))))), ?_⟩
    obtain ⟨a, xs, rfl, na, ea, hx⟩ := dx_tupOf hd
    have lx := hx.len
    rw [List.length_map] at lx
    have line : (5000 : Nat) ≤ sizeLine := by decide
    refine ⟨.ref a, rfl, Nat.zero_le _, fun p np => ?_⟩
    have s1 := st.new (o := .tup []) np
    have k1 : Keep l H (upd H p (.tup [])) := (Keep.refl l H).new np
    refine ⟨a, p, xs, rfl, rfl, .inl (.inl (k1 _ _ na ea)), .inl (.inl upd_same), _, rfl, ?_⟩
    generalize upd H p (.tup []) = H1 at s1 k1 ⊢
    have hd1 := hd.up k1.same
    cases rs with
    | nil =>
      cases hx
      refine iteT ?_
      have con : ∀ {w0 : V} {d : PyData}, (∀ H, Dx H w0 d) → VG d → GD l (KX.Env l (L2.start NC [V.ref l, V.ref a]) [] []) VG (tC w0) := fun {w0 d} h g => (gd_c h).imp fun _ e => by subst e; exact g
      have sm : ∀ {d : PyData}, fine (10 ^ 40) d = true → wt d ≤ 10 → d.depth ≤ 2 → tln d ≤ 4 → VG d := fun {d} a b c e => ⟨a, by omega, by omega, fun ds z => by subst z; have : ds.length ≤ 4 := e; omega⟩
      refine al_ix (S := VG) (P := KX.Env l _ [] []) (n := 8) (m := 8) kp_env (al_lst (al_cons kp_env (con (d := .none) (fun H => .non) (sm rfl (by decide) (by decide) (by decide)))
        (al_cons kp_env ((gd_lst gds_nil fun ds e => by subst e; exact Nat.zero_le _).imp fun d e => by
          obtain ⟨ds, rfl, rfl⟩ := e
          exact sm rfl (by decide) (by decide) (by decide))
        (al_cons kp_env (gd_dict.imp fun d e => by subst e; exact sm rfl (by decide) (by decide) (by decide))
        (al_cons kp_env (con (d := .str "") (fun H => .str _) (sm (by decide +kernel) (by decide +kernel) (by decide) (by decide)))
        (al_cons kp_env (con (d := .int 0) (fun H => .int _) (sm (by decide +kernel) (by decide) (by decide) (by decide)))
        (al_cons kp_env ((gd_oneC kp_env (gd_c (v := .non) (d := .none) fun H => .non)).imp fun d e => by
          obtain ⟨x, rfl, rfl⟩ := e
          exact sm rfl (by decide) (by decide) (by decide))
        (al_cons kp_env ((gd_oneC kp_env (gd_tup gds_nil fun ds e => by subst e; exact Nat.zero_le _)).imp fun d e => by
          obtain ⟨x, rfl, y, rfl, rfl⟩ := e
          exact sm rfl (by decide) (by decide) (by decide))
        (al_cons kp_env ((gd_oneC kp_env (gd_unC rfl)).imp fun d e => by
          obtain ⟨x, rfl, hx⟩ := e
          obtain ⟨a1, a2, a3, a4⟩ := un_facts hx
          exact ⟨by simp only [fine, fineAll, a1, Bool.and_true], by simp only [wt, wtAll]; omega, by simp only [PyData.depth, PyData.depthAll]; omega, fun ds z => by cases z; show 1 ≤ 63; decide⟩) al_nil)))))))) (by decide))
        (gi_drawS (n := 8) 0 rfl (gi_val fun σ H Q q => q) (by decide) (by decide)) rfl _ _ _ s1 ⟨rfl, alld_nil, allm_nil⟩ fun H2 v2 d2 g2 k2 st2 x2 => q H2 v2 d2 (k1.trans k2) st2 x2 g2
    | cons r0 rs0 =>
      have hxe : xs.isEmpty = false := by
        cases xs with
        | nil => simp at lx
        | cons _ _ => rfl
      rw [hxe]
      refine iteF ?_
      have hne : 0 < (r0 :: rs0).length := by simp
      generalize r0 :: rs0 = rs at hx lx R dI hn hrok q hd hd1 hne
      have ea1 := k1 _ _ na ea
      refine ⟨.ref a, rfl, .ref l, rfl, .ref a, rfl, a, xs, rfl, .inr (.inl (.inl ea1)), l, (xs.length : Int), rfl, s1, by omega, by omega, fun H2 i1 k2 st2 i10 i11 => ?_⟩
      obtain ⟨j, rfl⟩ : ∃ j : Nat, i1 = (j : Int) := ⟨i1.toNat, by omega⟩
      have hj : j < rs.length := by omega
      have k12 := k1.trans k2
      have hd2 := hd.up k12.same
      have ea2 := k12 _ _ na ea
      obtain ⟨x, ex, hdx⟩ := (hx.up k12.same).get (i := j) (d := encR rs[j]) (by rw [List.getElem?_map, List.getElem?_eq_getElem hj]; rfl)
      have hr1 := hrok _ (List.getElem_mem hj)
      generalize rs[j] = r at hdx hr1
      obtain ⟨n5, hn5, ro⟩ := id hr1
      obtain ⟨b, z, vals, rfl, eb, ez, ev⟩ := row_dx (hdx.up (hid_same l H2))
      refine ⟨a, xs, (j : Int), .ref b, rfl, rfl, .inl (.inl ea2), atI_nat ex, ?_⟩
      refine gn_to (σ' := ([some (.ref l), some (.ref a), some (.ref b), none, none, none, none] : L2.St)) rfl ?_
      dsimp only
      refine ⟨.ref l, rfl, .ref a, rfl, a, xs, rfl, .inr (.inl (.inl ea2)), (xs.length : Int), 1, rfl, rfl, l, _, rfl, st2, by omega, by omega, fun H3 i2 k3 st3 i20 i21 => ?_⟩
      obtain ⟨m, rfl⟩ : ∃ m : Nat, i2 = (m : Int) := ⟨i2.toNat, by omega⟩
      refine gn_to (σ' := ([some (.ref l), some (.ref a), some (.ref b), some (.int (m : Int)), none, none, none] : L2.St)) rfl ?_
      dsimp only
      have eb3 : H3 b = _ := k3 _ _ (fun h => by rw [h] at eb; obtain ⟨x1, x2, x3, e⟩ := st2; rw [e] at eb; cases eb) eb
      have hdr := hdx.up k3.same
      have zl : z ≠ l := fun h => by rw [h] at ez; obtain ⟨x1, x2, x3, e⟩ := st2; rw [e] at ez; cases ez
      have bl : b ≠ l := fun h => by rw [h] at eb; obtain ⟨x1, x2, x3, e⟩ := st2; rw [e] at eb; cases eb
      have ez3 := k3 _ _ zl ez
      have four : (4 : Nat) ≤ sizeLine := by decide
      refine ⟨.ref b, rfl, b, _, 0, .str r.nm, rfl, rfl, .inl (.inl eb3), rfl, .ref b, rfl, b, _, 1, .int r.cost, rfl, rfl, .inl (.inl eb3), rfl, r.cost, 7, rfl, rfl, (by show (0 : Int) < 7; decide), _, 1, rfl, rfl, .ref b, rfl, b, _, 2, .ref z, rfl, rfl, .inl (.inl eb3), rfl, .ref b, rfl, b, _, 3, .int r.exp, rfl, rfl, .inl (.inl eb3), rfl, r.exp, 5, rfl, rfl, (by show (0 : Int) < 5; decide), 1, _, rfl, rfl, four, fun p4 n4 => ?_⟩
      refine gn_to (σ' := ([some (.ref l), some (.ref a), some (.ref b), some (.int (m : Int)), some (.ref p4), none, none] : L2.St)) rfl ?_
      dsimp only
      have hvals : Dx (hid l H3) (.ref z) (.tuple (r.vals.map .int)) := .tup (by rw [hid_at zl]; exact ez3) (by rw [ev]; exact dxs_ints _)
      have do4 : Dx (hid l (upd H3 p4 (.tup [.str r.nm, .int (r.cost % 7 + 1), .ref z, .int (1 + r.exp % 5)]))) (.ref p4) (.tuple [.str r.nm, .int (r.cost % 7 + 1), .tuple (r.vals.map .int), .int (1 + r.exp % 5)]) := dx_tup n4 st3 (.cons (.str _) (.cons (.int _) (.cons hvals (.cons (.int _) .nil))))
      have st4 := st3.new (o := .tup [.str r.nm, .int (r.cost % 7 + 1), .ref z, .int (1 + r.exp % 5)]) n4
      have k4 : Keep l H3 (upd H3 p4 (.tup [.str r.nm, .int (r.cost % 7 + 1), .ref z, .int (1 + r.exp % 5)])) := (Keep.refl l H3).new n4
      have i4 : It1 (.tuple [.str r.nm, .int (r.cost % 7 + 1), .tuple (r.vals.map .int), .int (1 + r.exp % 5)]) := by
        obtain ⟨g1, g2, g3, g4⟩ := rec_parts hr1 w4
        have ln8 := (name_ok hn5 ro.nm).2
        have c0 := ro.c0
        have c1 := ro.c1
        have e0 := ro.e0
        have e1 := ro.e1
        exact it_row g1 (by omega) (by omega) (by omega) g2 (by omega) (by omega)
      generalize upd H3 p4 (.tup [.str r.nm, .int (r.cost % 7 + 1), .ref z, .int (1 + r.exp % 5)]) = H4 at do4 st4 k4 ⊢
      have eb4 := k4 _ _ bl eb3
      have ez4 := k4 _ _ zl ez3
      have ln8 : r.nm.length ≤ 8 := (name_ok hn5 ro.nm).2
      have lval : vals.length ≤ 4 := by rw [ev, List.length_map, ro.len]; exact w4
      have lc5 := cutS_length r.nm none (some 5)
      refine ⟨.ref b, rfl, b, _, 0, .str r.nm, rfl, rfl, .inl (.inl eb4), rfl, 5, rfl, r.nm, rfl, by omega, "zz", _, rfl, rfl, by have : ("zz" : Str).length = 2 := rfl; omega, ?_⟩
      refine ⟨.ref b, rfl, b, _, 2, .ref z, rfl, rfl, .inl (.inl eb4), rfl, by show 1 ≤ sizeLine; decide, fun p5 n5' => ?_⟩
      have st5 := st4.new (o := .tup [.int 0]) n5'
      have k5 : Keep l H4 (upd H4 p5 (.tup [.int 0])) := (Keep.refl l H4).new n5'
      refine cat_of (hvals.up ((k4.trans k5).same)) (dx_tup n5' st4 (.cons (.int 0) .nil)) st5 (by rw [List.length_map, List.length_singleton, ro.len]; omega) fun H6 p6 k6 st6 d6 => ?_
      have eb6 := k6 _ _ bl (k5 _ _ bl eb4)
      have ez6 := k6 _ _ zl (k5 _ _ zl ez4)
      refine (show ∀ {σ : L2.St} {H : Hp} {Q : Option Int → Hp → Prop}, Q none H → tNoPart σ H Q from fun h => h) ?_
      refine ⟨.ref b, rfl, b, _, 2, .ref z, rfl, rfl, .inl (.inl eb6), rfl, z, vals, rfl, .inr (.inl (.inl ez6)), 5, _, rfl, rfl, _, rfl, ?_⟩
      refine sl_of d6 st6 fun H7 p7 k7 st7 d7 => ⟨four, fun p8 n8 => ?_⟩
      have k27 : Keep l H2 H7 := k3.trans (k4.trans (k5.trans (k6.trans k7)))
      have do8 := do4.up ((k5.trans (k6.trans k7)).new (o := .tup [.str ("zz" ++ cutS r.nm none (some 5)), .int 1, .ref p7, .int 1]) n8).same
      have dw8 : Dx (hid l (upd H7 p8 (.tup [.str ("zz" ++ cutS r.nm none (some 5)), .int 1, .ref p7, .int 1]))) (.ref p8) (.tuple [.str ("zz" ++ cutS r.nm none (some 5)), .int 1, .tuple (KX.cutD (r.vals.map .int ++ [.int 0]) none (some (5 - (vals.length : Int)))), .int 1]) := dx_tup n8 st7 (.cons (.str _) (.cons (.int _) (.cons d7 (.cons (.int _) .nil))))
      have iw : It1 (.tuple [.str ("zz" ++ cutS r.nm none (some 5)), .int 1, .tuple (KX.cutD (r.vals.map .int ++ [.int 0]) none (some (5 - (vals.length : Int)))), .int 1]) := by
        obtain ⟨g1, g2, g3, g4⟩ := rec_parts hr1 w4
        have z0 : fineAll (10 ^ 40) (r.vals.map .int ++ [.int 0]) = true := by
          rw [fineAll_app, g2]
          decide +kernel
        refine it_row (str_app_fine (by decide +kernel) (str_cut_fine g1)) ?_ (by decide) (by decide) (fineAll_sub z0 cut_sub) ?_ (depthAll_le fun e he => ?_)
        · have : ("zz" : Str).length = 2 := rfl
          rw [strLen_append]
          omega
        · have := cut_wt (ds := r.vals.map .int ++ [.int 0]) (lo := none) (hi := some (5 - (vals.length : Int)))
          rw [wtAll_app] at this
          have z1 : wtAll [PyData.int 0] = 1 := by simp [wtAll, wt]
          omega
        · rcases List.mem_append.mp (cut_sub e he) with h | h
          · exact Nat.le_trans (depth_mem h) (Nat.le_trans g4 (by decide))
          · rw [List.mem_singleton.mp h]
            simp [PyData.depth]
      refine gn_to (σ' := ([some (.ref l), some (.ref a), some (.ref b), some (.int (m : Int)), some (.ref p4), some (.ref p8), none] : L2.St)) rfl ?_
      dsimp only
      have k28 := k27.new (o := .tup [.str ("zz" ++ cutS r.nm none (some 5)), .int 1, .ref p7, .int 1]) n8
      have st8 := st7.new (o := .tup [.str ("zz" ++ cutS r.nm none (some 5)), .int 1, .ref p7, .int 1]) n8
      generalize upd H7 p8 (.tup [.str ("zz" ++ cutS r.nm none (some 5)), .int 1, .ref p7, .int 1]) = H8 at do8 dw8 k28 st8 ⊢
      have k18 := k12.trans k28
      have da8 := hd.up k18.same
      have dr8 := hdx.up k28.same
      generalize PyData.tuple [.str r.nm, .int (r.cost % 7 + 1), .tuple (r.vals.map .int), .int (1 + r.exp % 5)] = xo at do8 i4
      generalize PyData.tuple [.str ("zz" ++ cutS r.nm none (some 5)), .int 1, .tuple (KX.cutD (r.vals.map .int ++ [.int 0]) none (some (5 - (vals.length : Int)))), .int 1] = xw at dw8 iw
      clear do4 k3 k4 k5 k6 k7 k27 d6 d7 hvals eb3 eb4 eb6 ez3 ez4 ez6
      refine gm_seq (S := Al VG 3) (P := KX.Env l _ [(.ref a, .tuple (rs.map encR)), (.ref b, encR r), (.ref p4, xo), (.ref p8, xw)] []) ?_ st8 ⟨rfl, alld_cons da8 (alld_cons dr8 (alld_cons do8 (alld_cons dw8 alld_nil))), allm_nil⟩ fun H9 p9 xs9 ds9 g9 k9 st9 n9 e9 x9 => ?_
      · have tv : GD l (KX.Env l ([some (.ref l), some (.ref a), some (.ref b), some (.int (m : Int)), some (.ref p4), some (.ref p8), none] : L2.St) [(.ref a, .tuple (rs.map encR)), (.ref b, encR r), (.ref p4, xo), (.ref p8, xw)] []) (· = .tuple (rs.map encR)) (tVar 1) := gd_env (v := .ref a) rfl (by simp)
        have ti : GI l (KX.Env l ([some (.ref l), some (.ref a), some (.ref b), some (.int (m : Int)), some (.ref p4), some (.ref p8), none] : L2.St) [(.ref a, .tuple (rs.map encR)), (.ref b, encR r), (.ref p4, xo), (.ref p8, xw)] []) (· = (m : Int)) (tVar 3) := gi_env rfl
        exact al_lst (al_cons kp_env (gd_ins kp_env R tv ti ti ((gd_env (i := 2) (v := .ref b) (d := encR r) rfl (by simp)).imp fun _ e => by subst e; exact (rec_it hr1 w4).1))
          (al_cons kp_env (gd_ins kp_env R tv ti ti ((gd_env (i := 4) (v := .ref p4) (d := xo) rfl (by simp)).imp fun _ e => by subst e; exact i4))
          (al_cons kp_env (gd_ins kp_env R tv ti ti ((gd_env (i := 5) (v := .ref p8) (d := xw) rfl (by simp)).imp fun _ e => by subst e; exact iw)) al_nil))) (by decide)
      · dsimp only [List.set]
        have L9 : ∀ p ∈ [(V.ref a, PyData.tuple (rs.map encR)), (.ref b, encR r), (.ref p4, xo), (.ref p8, xw)], Dx (hid l H9) p.1 p.2 := alld_up k9 (alld_cons da8 (alld_cons dr8 (alld_cons do8 (alld_cons dw8 alld_nil))))
        refine gm_seq (S := Al VG 8) (P := KX.Env l _ [(.ref a, .tuple (rs.map encR)), (.ref b, encR r), (.ref p4, xo), (.ref p8, xw)] [(p9, xs9, ds9)]) ?_ st9 ⟨rfl, L9, allm_one n9 e9 x9⟩ fun HA pA xsA dsA gA kA stA nA eA xA => ?_
        · have tv : GD l (KX.Env l ([some (.ref l), some (.ref a), some (.ref b), some (.int (m : Int)), some (.ref p4), some (.ref p8), some (.ref p9)] : L2.St) [(.ref a, .tuple (rs.map encR)), (.ref b, encR r), (.ref p4, xo), (.ref p8, xw)] [(p9, xs9, ds9)]) (· = .tuple (rs.map encR)) (tVar 1) := gd_env (v := .ref a) rfl (by simp)
          have ti : GI l (KX.Env l ([some (.ref l), some (.ref a), some (.ref b), some (.int (m : Int)), some (.ref p4), some (.ref p8), some (.ref p9)] : L2.St) [(.ref a, .tuple (rs.map encR)), (.ref b, encR r), (.ref p4, xo), (.ref p8, xw)] [(p9, xs9, ds9)]) (· = (m : Int)) (tVar 3) := gi_env rfl
          exact al_cat (n := 3) (m := 5) kp_env ((gm_env (xs := xs9) (ds := ds9) rfl (by simp)).imp fun _ e => by subst e; exact g9) (al_lst (al_cons kp_env ((gd_listOf tv).imp fun _ e => by subst e; exact vg_list R)
            (al_cons kp_env (gd_ins kp_env R tv ti ti ((gd_unC rfl).imp fun _ e => (un_it e).1))
            (al_cons kp_env ((gd_rev tv).imp fun _ e => by subst e; exact vg_rev R)
            (al_cons kp_env ((gd_env (i := 2) (v := .ref b) (d := encR r) rfl (by simp)).imp fun _ e => by subst e; exact vg_it (rec_it hr1 w4).1 (rec_it hr1 w4).2)
            (al_cons kp_env ((gd_oneC kp_env tv).imp fun _ e => by
              obtain ⟨x, rfl, rfl⟩ := e
              exact vg_one R) al_nil))))) (by decide)) (by decide)
        · dsimp only [List.set]
          refine al_ix (S := VG) (P := KX.Env l ([some (.ref l), some (.ref a), some (.ref b), some (.int (m : Int)), some (.ref p4), some (.ref p8), some (.ref pA)] : L2.St) [(.ref a, .tuple (rs.map encR)), (.ref b, encR r), (.ref p4, xo), (.ref p8, xw)] [(pA, xsA, dsA)]) (n := 10) (m := 10) kp_env
            (al_cat (n := 8) (m := 2) kp_env ((gm_env (xs := xsA) (ds := dsA) rfl (by simp)).imp fun _ e => by subst e; exact gA) (al_lst (al_cons kp_env ((gd_dmC (v := .ref a) rfl rfl (by simp) dI).imp fun _ e => vg_dm R e) (al_cons kp_env ((gd_dmC (v := .ref a) rfl rfl (by simp) dI).imp fun _ e => vg_dm R e) al_nil)) (by decide)) (by decide))
            (gi_drawS (n := 10) 0 rfl (gi_val fun σ H Q q => q) (by decide) (by decide)) rfl _ _ _ stA ⟨rfl, alld_up kA L9, allm_one nA eA xA⟩ fun HB vB dB gB kB stB xB => ?_
          exact q HB vB dB (k18.trans (k9.trans (kA.trans kB))) stB xB gB
end
end U1

set_option maxRecDepth 100000
set_option maxHeartbeats 4000000
namespace KX
open PySem PySem.Spec PyProof.Rows
/-! ### set(xs), xs a list of texts; of ints -/
section
variable {prog : Program} {w : World} {A : Around} {E : Value → Shared → Prop} {s : Shared}
open L2 in
theorem call_setTxtL {tp : Addr} {ys : Array Value} {ts : List Str} {Q : Value → Shared → Prop} (noh : A.handled = none) (ht : s.heap.IsList tp ys) (are : StrsAre ys.toList ts) (few : ts.length + 1 < scanBound)
    (fin : ∀ (h2 : Heap) (tk : Nat), h2.SetOf (PySem.strKind prog w) s.heap.objs.size (sawS ts ts.length) (dcnt ts ts.length) → (∀ b o, b < s.heap.objs.size → s.heap.get? b = some o → h2.get? b = some o) →
      Q (.ref s.heap.objs.size) { s with heap := h2, toks := tk }) : wpAny (model prog w) A (call (.type "set") [.ref tp]) Q E s := by
  obtain ⟨c1, tl1, gmro⟩ := PySem.F.called_set.mro
  have gmade := PySem.F.called_set.made
  have gsub := PySem.F.called_set.sub
  have g1 := PySem.F.called_set.notType
  have g2 := PySem.F.called_set.canCreate
  have gct := PySem.F.typeCall_set_1 (.ref tp)
  refine wpAny_call (codeAny_of_tree (show wpAny _ _ (callAny (.type "set") _) _ _ _ from wpAny_pure ⟨Code.quiet_builtin _ (by decide +kernel), codeAny_builtin PySem.F.entry_type_call ?_⟩))
  rw [Around.under_plain (weight_type_call_type "set" [.ref tp] []) rfl]
  repeat (any_goals (first | wp_step | assumption))
  refine codeAny_mono (code_set_new_1 (.ref tp) (E := E) (Q₁ := fun ob t1 => ∃ ld : Bool, ob = .ref s.heap.objs.size ∧ t1 = { s with heap := s.heap.push (nSet ld) }) fun ld => ⟨ld, rfl, rfl⟩) fun r1 t1 k1 => ?_
  cases r1 with
  | error e => exact k1
  | ok f1 =>
    cases f1 with
    | ret ob =>
      obtain ⟨ld, eo, et⟩ := k1
      subst eo et
      have atS : (s.heap.push (nSet ld)).get? s.heap.objs.size = some (nSet ld) := Heap.get?_push_size _ rfl
      have tyS : Shared.TypeIs { s with heap := s.heap.push (nSet ld) } (.ref s.heap.objs.size) "set" := ⟨_, atS, rfl⟩
      have gli := PySem.F.called_set.init.lookup
      have gbi := PySem.F.called_set.init.bind (.ref s.heap.objs.size)
      repeat (any_goals (first | wp_step | assumption))
      refine codeAny_mono (codeAny_call_builtin (R := wants (fun r t2 => r = .none ∧ ∃ h2 tk, t2 = { s with heap := h2, toks := tk } ∧ h2.SetOf (PySem.strKind prog w) s.heap.objs.size (sawS ts ts.length) (dcnt ts ts.length) ∧
          (∀ b o, b < s.heap.objs.size → s.heap.get? b = some o → h2.get? b = some o)) E) PySem.F.called_set.init.plain PySem.F.entry_set_init (check_set_init_1 tyS ?_)) fun r2 t2 k2 => ?_
      · obtain ⟨⟨oc, od, odat, osl⟩, eT, ec, nT, ed⟩ := ht
        simp only at ec ed
        subst ec
        subst ed
        have eT2 : (s.heap.push (nSet ld)).get? tp = some { cls := .type "list", dict := od, data := .seq ys nT, slots := osl } := Heap.get?_push_of_some _ eT
        have b1 := PySem.F.sub_list_set
        have b2 := PySem.F.sub_list_frozenset
        have b3 : (Value.type "list" == Value.type "dict") = false := by decide
        have isT : (s.heap.push (nSet ld)).IsList tp ys := ⟨_, eT2, rfl, nT, rfl⟩
        unfold Builtin.«set.__init__» noKeywords Builtin.Frozenset.updateFrom
        generalize kept : pyIter = iterF
        wp_walk
        subst kept
        refine wpAny_pyIter_list isT (wpAny_bind (wpAny_runValue ?_))
        have ltp : tp < s.heap.objs.size := Heap.lt_size eT
        have noh3 : A.in1.in1.in1.handled = none := by simp [noh]
        have szP : (s.heap.push (nSet ld)).objs.size = s.heap.objs.size + 1 := Heap.size_push ..
        have ne1 : tp ≠ (s.heap.push (nSet ld)).objs.size := by rw [szP]; exact Nat.ne_of_lt (Nat.lt_succ_of_lt ltp)
        have ne2 : s.heap.objs.size ∉ [(s.heap.push (nSet ld)).objs.size, tp] := by
          rw [szP]
          simp only [List.mem_cons, List.not_mem_nil, or_false, not_or]
          exact ⟨Nat.ne_of_lt (Nat.lt_succ_self _), Nat.ne_of_gt ltp⟩
        have lz : ts.length = ys.size := by rw [← StrsAre.len_eq are, Array.length_toList]
        refine loopTxt ((Walks.list noh3 _ tp ne1 ys).toS) s.heap.objs.size ne2 ts lz (by rw [← lz]; exact few) (fun i v hv => SS.strs_at are i v (by rw [Array.getElem?_toList]; exact hv)) (ys.size - 0) 0 _ (by omega) (Nat.zero_le _)
          ⟨⟨_, Heap.get?_push_size _ rfl, rfl, rfl⟩, (isT.push _)⟩ ?z0 ?z1
        case z0 =>
          have gg : ((s.heap.push (nSet ld)).push { cls := .type "list_iterator", data := .fields #[.ref tp, .int 0 0] }).get? s.heap.objs.size = some (nSet ld) := Heap.get?_push_of_some _ atS
          exact SetOf_congr ((setObjOf_fresh (knd := PySem.strKind prog w) ld).setOf gg (by unfold scanBound; omega)) (fun _ => rfl) rfl
        case z1 =>
          intro t3 mv so
          obtain ⟨h3, g3, d3, k3, o3⟩ := t3
          obtain rfl : g3 = s.gens := mv.gens
          obtain rfl : d3 = s.drawn := mv.drawn
          obtain rfl : o3 = s.os := mv.os
          rw [← lz] at so
          show wpAny _ _ _ _ _ _
          refine wpAny_pure (show wpAny _ _ (ret Value.none) _ _ _ from wpAny_pure ⟨rfl, h3, k3, rfl, so, fun b o hb e => ?_⟩)
          refine mv.heap b o ?_ (Heap.get?_push_of_some _ (Heap.get?_push_of_some _ e))
          rw [szP]
          simp only [List.mem_cons, List.not_mem_nil, or_false, not_or]
          exact ⟨Nat.ne_of_lt hb, Nat.ne_of_lt (Nat.lt_succ_of_lt hb)⟩
      · cases r2 with
        | error e => exact k2
        | ok f2 =>
          cases f2 with
          | ret r =>
            obtain ⟨rfl, h2, tk, rfl, so, old⟩ := k2
            repeat (any_goals (first | wp_step | assumption))
            exact fin _ _ so old
          | _ => exact k2.elim
    | _ => exact k1.elim
open L2 in
theorem call_setIntL {tp : Addr} {ys : Array Value} {ts : List Int} {Q : Value → Shared → Prop} (noh : A.handled = none) (ht : s.heap.IsList tp ys) (are : IntsAre ys.toList ts) (few : ts.length + 1 < scanBound)
    (fin : ∀ (h2 : Heap) (tk c : Nat), SetR w h2 s.heap.objs.size (fun j => decide (j ∈ ts)) c → c ≤ ts.length → (∀ b o, b < s.heap.objs.size → s.heap.get? b = some o → h2.get? b = some o) →
      Q (.ref s.heap.objs.size) { s with heap := h2, toks := tk }) : wpAny (model prog w) A (call (.type "set") [.ref tp]) Q E s := by
  obtain ⟨c1, tl1, gmro⟩ := PySem.F.called_set.mro
  have gmade := PySem.F.called_set.made
  have gsub := PySem.F.called_set.sub
  have g1 := PySem.F.called_set.notType
  have g2 := PySem.F.called_set.canCreate
  have gct := PySem.F.typeCall_set_1 (.ref tp)
  refine wpAny_call (codeAny_of_tree (show wpAny _ _ (callAny (.type "set") _) _ _ _ from wpAny_pure ⟨Code.quiet_builtin _ (by decide +kernel), codeAny_builtin PySem.F.entry_type_call ?_⟩))
  rw [Around.under_plain (weight_type_call_type "set" [.ref tp] []) rfl]
  repeat (any_goals (first | wp_step | assumption))
  refine codeAny_mono (code_set_led1 (.ref tp) (E := E) (Q₁ := fun ob t1 => ob = .ref s.heap.objs.size ∧ t1 = { s with heap := s.heap.push (nSet (!w.params.followText "set-order")) }) ⟨rfl, rfl⟩) fun r1 t1 k1 => ?_
  cases r1 with
  | error e => exact k1
  | ok f1 =>
    cases f1 with
    | ret ob =>
      obtain ⟨eo, et⟩ := k1
      subst eo et
      have atS : (s.heap.push (nSet (!w.params.followText "set-order"))).get? s.heap.objs.size = some (nSet (!w.params.followText "set-order")) := Heap.get?_push_size _ rfl
      have tyS : Shared.TypeIs { s with heap := s.heap.push (nSet (!w.params.followText "set-order")) } (.ref s.heap.objs.size) "set" := ⟨_, atS, rfl⟩
      have gli := PySem.F.called_set.init.lookup
      have gbi := PySem.F.called_set.init.bind (.ref s.heap.objs.size)
      repeat (any_goals (first | wp_step | assumption))
      refine codeAny_mono (codeAny_call_builtin (R := wants (fun r t2 => r = .none ∧ ∃ h2 tk c, t2 = { s with heap := h2, toks := tk } ∧ SetR w h2 s.heap.objs.size (fun j => decide (j ∈ ts)) c ∧ c ≤ ts.length ∧
          (∀ b o, b < s.heap.objs.size → s.heap.get? b = some o → h2.get? b = some o)) E) PySem.F.called_set.init.plain PySem.F.entry_set_init (check_set_init_1 tyS ?_)) fun r2 t2 k2 => ?_
      · obtain ⟨⟨oc, od, odat, osl⟩, eT, ec, nT, ed⟩ := ht
        simp only at ec ed
        subst ec
        subst ed
        have eT2 : (s.heap.push (nSet (!w.params.followText "set-order"))).get? tp = some { cls := .type "list", dict := od, data := .seq ys nT, slots := osl } := Heap.get?_push_of_some _ eT
        have b1 := PySem.F.sub_list_set
        have b2 := PySem.F.sub_list_frozenset
        have b3 : (Value.type "list" == Value.type "dict") = false := by decide
        have isT : (s.heap.push (nSet (!w.params.followText "set-order"))).IsList tp ys := ⟨_, eT2, rfl, nT, rfl⟩
        unfold Builtin.«set.__init__» noKeywords Builtin.Frozenset.updateFrom
        generalize kept : pyIter = iterF
        wp_walk
        subst kept
        refine wpAny_pyIter_list isT (wpAny_bind (wpAny_runValue ?_))
        have ltp : tp < s.heap.objs.size := Heap.lt_size eT
        have noh3 : A.in1.in1.in1.handled = none := by simp [noh]
        have szP : (s.heap.push (nSet (!w.params.followText "set-order"))).objs.size = s.heap.objs.size + 1 := Heap.size_push ..
        have ne1 : tp ≠ (s.heap.push (nSet (!w.params.followText "set-order"))).objs.size := by rw [szP]; exact Nat.ne_of_lt (Nat.lt_succ_of_lt ltp)
        have ne2 : s.heap.objs.size ∉ [(s.heap.push (nSet (!w.params.followText "set-order"))).objs.size, tp] := by
          rw [szP]
          simp only [List.mem_cons, List.not_mem_nil, or_false, not_or]
          exact ⟨Nat.ne_of_lt (Nat.lt_succ_self _), Nat.ne_of_gt ltp⟩
        have lz : ys.size = ts.length := by
          have q := IntsAre.length are
          rw [Array.length_toList] at q
          exact q
        have each : ∀ (i : Nat) (v : Value), ys[i]? = some v → ∃ k t, ts[i]? = some k ∧ v = .int k t := fun i v hv => by
          have hi : i < ts.length := by rw [← lz]; exact (Array.getElem?_eq_some_iff.mp hv).1
          obtain ⟨t, e⟩ := PyProof.Rows.IntsAre.int_at are i v (by rw [Array.getElem?_toList]; exact hv)
          refine ⟨ts[i], t, List.getElem?_eq_getElem hi, ?_⟩
          rw [e, List.getD_eq_getElem?_getD, List.getElem?_eq_getElem hi] <;> rfl
        refine set_update_ints ((Walks.list noh3 _ tp ne1 ys).toS) s.heap.objs.size ne2 ts lz few each (ys.size - 0) 0 _ (by omega) (Nat.zero_le _)
          ⟨⟨_, Heap.get?_push_size _ rfl, rfl, rfl⟩, (isT.push _)⟩ ?z0 ?z1
        case z0 =>
          have gg : ((s.heap.push (nSet (!w.params.followText "set-order"))).push { cls := .type "list_iterator", data := .fields #[.ref tp, .int 0 0] }).get? s.heap.objs.size = some (nSet (!w.params.followText "set-order")) := Heap.get?_push_of_some _ atS
          exact ⟨0, Nat.le_refl 0, setR_new_at gg⟩
        case z1 =>
          intro t3 cc mv lc so
          obtain ⟨h3, g3, d3, k3, o3⟩ := t3
          obtain rfl : g3 = s.gens := mv.gens
          obtain rfl : d3 = s.drawn := mv.drawn
          obtain rfl : o3 = s.os := mv.os
          rw [lz] at lc
          show wpAny _ _ _ _ _ _
          refine wpAny_pure (show wpAny _ _ (ret Value.none) _ _ _ from wpAny_pure ⟨rfl, h3, k3, cc, rfl, so, lc, fun b o hb e => ?_⟩)
          refine mv.heap b o ?_ (Heap.get?_push_of_some _ (Heap.get?_push_of_some _ e))
          rw [szP]
          simp only [List.mem_cons, List.not_mem_nil, or_false, not_or]
          exact ⟨Nat.ne_of_lt hb, Nat.ne_of_lt (Nat.lt_succ_of_lt hb)⟩
      · cases r2 with
        | error e => exact k2
        | ok f2 =>
          cases f2 with
          | ret r =>
            obtain ⟨rfl, h2, tk, c, rfl, so, lc, old⟩ := k2
            repeat (any_goals (first | wp_step | assumption))
            exact fin _ _ _ so lc old
          | _ => exact k2.elim
    | _ => exact k1.elim
end
end KX
namespace KX
open PySem PySem.Spec PyProof.Rows L2
section
variable {X : Cx} {pos : Pos}
def tLenSetL (K : PySem.W.Frag) (ta : TE) : TE := fun σ H Q => ta σ H fun x H1 => ∃ (l : Addr) (ts : List Str), x = .ref l ∧ SqL K H1 l (ts.map V.str) ∧ ts.length ≤ 1000 ∧ Q (.int (dcnt ts ts.length : Int)) H1
theorem pe_lenSetL {e0 : Expr} {ta : TE} {pa pb pc pd : Pos} (cm : X.calm = true) (gl : Gl X "len") (ml : X.mg "len" = none) (gs : Gl X "set") (ms : X.mg "set" = none) (he : PE X e0 ta)
    (se : starEach [e0] X.env = (false, eval e0 X.env) :: starEach [] X.env := by rfl) : PE X (.Call (.Name "len" pa) [.Call (.Name "set" pb) [e0] [] pc] [] pd) (tLenSetL X.K ta) := by
  refine ⟨fun pn sh σ G Qz J hyp => ?_⟩
  refine Call_ (ld_blt J gl ml boot_len ?_)
  refine callWith_builtin1 (args_cons ?_ rfl) rfl rfl
  refine Call_ (ld_blt J gs ms boot_set ?_)
  refine callWith_type1 (args_cons (thn (he.run pn sh σ G _ J hyp) fun v s1 ⟨x, H1, I1, r1, q1⟩ => args_nil ?_) se) se rfl
  obtain ⟨l, ts, rfl, hq, few, q1⟩ := q1
  cases r1
  obtain ⟨its, r, pl, hz⟩ := I1.list hq
  have hb : (1001 : Nat) < scanBound := by decide
  refine call_setTxtL (I1.ok.hd cm) pl.isList (by simpa using strsAre_of r) (by omega) fun h2 tk so old => ?_
  refine args_nil ?_
  obtain ⟨o, es, ep, t, ho, hex, hd, _, _, _, hf, hn⟩ := so
  have I2 : Inv X pn σ H1 { s1 with heap := h2, toks := tk } := I1.kept fun b o e => old b o (Heap.lt_size e) e
  have := dcnt_le ts ts.length
  exact call_len_set ho hex hd hf (by rw [hn]; have hs : (1001 : Nat) < sizeLine := (by decide); omega) ⟨.int (dcnt ts ts.length : Int), H1, I2.tok _, ⟨_, by rw [hn]⟩, q1⟩
/-- set(xs), xs a list of ints -/
def rSetIL (K : PySem.W.Frag) (w : World) : List V → Hp → VK → Prop := fun xs H Q => ∃ (l : Addr) (ns : List Int), xs = [.ref l] ∧ SqL K H l (ns.map V.int) ∧ ns.length ≤ 1000 ∧
  ∀ (p : Addr) (c : Nat), H p = none → c ≤ ns.length → Q (.ref p) (upd H p (SetO w p (fun j => decide (j ∈ ns)) c))
theorem cr_setIL (cm : X.calm = true) : CallR X (.type "set") (rSetIL X.K X.w) := by
  intro pins s σ H xs us Q I r h
  obtain ⟨l, ns, rfl, hq, few, q⟩ := h
  obtain ⟨u, rfl, ru⟩ := vals1 r
  cases ru
  obtain ⟨its, rv, pl, hz⟩ := I.list hq
  have hb : (1001 : Nat) < scanBound := by decide
  refine call_setIntL (I.ok.hd cm) pl.isList (ts := ns) (by simpa using ints_of_vals rv) (by omega) fun h2 tk c so lc old => ?_
  exact ⟨.ref _, upd H s.heap.objs.size (SetO X.w s.heap.objs.size (fun j => decide (j ∈ ns)) c), I.laid (t' := tk) (fun b o e => old b o (Heap.lt_size e) e) (Nat.le_refl _) (setO_new so), rfl, q _ c (I.hok.fresh (Nat.le_refl _)) lc⟩
end
end KX

set_option maxRecDepth 100000
set_option maxHeartbeats 4000000
namespace U1
open PySem PySem.Spec PyProof.Rows L2 KX
/-! ### _law_expected -/
abbrev sEx : Stmt := topS 51
theorem dcnt_full : ∀ (ts : List Str) (i : Nat), i ≤ ts.length → dcnt ts i = i → (ts.take i).Nodup
  | ts, 0, _, _ => by simp
  | ts, i + 1, h, e => by
    have le := dcnt_le ts i
    unfold dcnt at e
    split at e
    · omega
    · rename_i no
      have ih := dcnt_full ts i (by omega) (by omega)
      have gi : ts.getD i Str.empty = ts[i] := by
        rw [List.getD_eq_getElem?_getD, List.getElem?_eq_getElem (by omega)]
        rfl
      rw [gi] at no
      rw [List.take_add_one, List.getElem?_eq_getElem (by omega)]
      refine List.nodup_append.mpr ⟨ih, by simp, fun a ha b hb z => no ?_⟩
      simp at hb
      subst hb
      subst z
      exact List.any_eq_true.mpr ⟨_, ha, beq_iff_eq.mpr rfl⟩
theorem dupB_iff (rs : List Rec) : dupB rs = !decide (rs.map (fun r : Rec => r.nm)).Nodup := by
  unfold dupB
  by_cases h : (rs.map (fun r : Rec => r.nm)).Nodup
  · rw [dcnt_nodup _ h _ (by rw [List.length_map]; exact Nat.le_refl _), decide_eq_true h, decide_eq_false (Nat.lt_irrefl _)]
    rfl
  · have : dcnt (rs.map (fun r : Rec => r.nm)) rs.length ≠ rs.length := fun e => h (by
      have := dcnt_full (rs.map (fun r : Rec => r.nm)) rs.length (by rw [List.length_map]; exact Nat.le_refl _) e
      rwa [List.take_of_length_le (by rw [List.length_map]; exact Nat.le_refl _)] at this)
    have le := dcnt_le (rs.map (fun r : Rec => r.nm)) rs.length
    rw [decide_eq_false h, decide_eq_true (by omega)]
    rfl
theorem sort_perm (rs : List Rec) : (sortR rs).Perm rs := List.mergeSort_perm _ _
theorem dup_perm {as bs : List Rec} (h : as.Perm bs) : dupB as = dupB bs := by
  rw [dupB_iff, dupB_iff]
  congr 1
  have := (h.map (fun r : Rec => r.nm)).nodup_iff
  by_cases z : (bs.map (fun r : Rec => r.nm)).Nodup
  · rw [decide_eq_true z, decide_eq_true (this.mpr z)]
  · rw [decide_eq_false z, decide_eq_false fun y => z (this.mp y)]
theorem oneW_iff : ∀ {rs : List Rec}, oneW rs = true ↔ ∀ a ∈ rs, ∀ b ∈ rs, a.vals.length = b.vals.length
  | [] => by simp [oneW]
  | r :: rs => by
    show ((r :: rs).all fun e => decide (e.vals.length = r.vals.length)) = true ↔ _
    rw [List.all_eq_true]
    refine ⟨fun h a ha b hb => ?_, fun h e he => decide_eq_true (h e he r (by simp))⟩
    rw [of_decide_eq_true (h a ha), of_decide_eq_true (h b hb)]
theorem oneW_perm {as bs : List Rec} (h : as.Perm bs) : oneW as = oneW bs := by
  rw [Bool.eq_iff_iff, oneW_iff, oneW_iff]
  exact ⟨fun k a ha b hb => k a (h.mem_iff.mpr ha) b (h.mem_iff.mpr hb), fun k a ha b hb => k a (h.mem_iff.mp ha) b (h.mem_iff.mp hb)⟩
abbrev wds (rs : List Rec) : List Int := rs.map fun r : Rec => (r.vals.length : Int)
theorem wides_iff {rs : List Rec} {ns : List Int} (hp : ns.Pairwise (· < ·)) (hm : ∀ k : Int, k ∈ ns ↔ decide (k ∈ wds rs) = true) : decide ((1 : Int) < (ns.length : Int)) = !oneW rs := by
  have mem : ∀ r ∈ rs, (r.vals.length : Int) ∈ ns := fun r hr => (hm _).mpr (decide_eq_true (List.mem_map.mpr ⟨r, hr, rfl⟩))
  have bak : ∀ k ∈ ns, ∃ r ∈ rs, (r.vals.length : Int) = k := fun k hk => List.mem_map.mp (of_decide_eq_true ((hm k).mp hk))
  match ns, hp, mem, bak with
  | [], _, mem, _ =>
    have : oneW rs = true := oneW_iff.mpr fun a ha => by cases mem a ha
    rw [this]
    rfl
  | [x], _, mem, _ =>
    have : oneW rs = true := oneW_iff.mpr fun a ha b hb => by
      have h1 := List.mem_singleton.mp (mem a ha)
      have h2 := List.mem_singleton.mp (mem b hb)
      omega
    rw [this]
    rfl
  | x :: y :: zs, hp, _, bak =>
    have lt : x < y := (List.pairwise_cons.mp hp).1 y (by simp)
    have : oneW rs = false := by
      cases e : oneW rs with
      | false => rfl
      | true =>
        obtain ⟨a, ha, ea⟩ := bak x (by simp)
        obtain ⟨b, hb, eb⟩ := bak y (by simp)
        have := oneW_iff.mp e a ha b hb
        omega
    rw [this]
    exact decide_eq_true (by rw [List.length_cons, List.length_cons]; omega)
def recsOf : PyData → List Rec
  | .tuple ds => ds.map recD
  | _ => []
/-- the rows that are due, or none -/
def expR (d : PyData) : Option (List Rec) := if (rowsD d && !dupB (recsOf d)) = true then some (sortR (recsOf d)) else none
def spEx : Sp := fun vs H Q _ => ∃ (v : V) (d : PyData), vs = [v] ∧ Dx H v d ∧ SmR d ∧ (∀ ds, d = .tuple ds → ds.length ≤ 63) ∧
  (expR d = none → ∀ H', Same H H' → Q .non H') ∧ ∀ rs, expR d = some rs → ∀ (H' : Hp) (p : Addr), Same H H' → Dx H' (.ref p) (.tuple (rs.map encR)) → Q (.ref p) H'
abbrev NX : List Str := ["value", "found", "names", "wides", "row"]
theorem scEx : FnScope NX ["value"] (defScope sEx) := ⟨rfl, rfl, rfl, by decide +kernel, rfl, by decide +kernel, by decide +kernel⟩
/-- a list of texts out of the rows -/
theorem lc_strs {K : PySem.W.Frag} {a D : Addr} {xs : List V} {rs : List Rec} {g : TG} {tt : TT} {te : TE} {vs : List Nat} {σ : L2.St} {H1 : Hp} {Qd : Hp → Prop} (f : Rec → Str) (nD : H1 D = none) (ea : H1 a = some (.tup xs)) (hx : Dxs H1 xs (rs.map encR)) (hl : rs.length ≤ 1000)
    (hs : ∀ (r : Rec) (x : V) (G : Hp), r ∈ rs → Same H1 G → Dx G x (encR r) → ∀ (Pt : V → Hp → Prop) (Pf : Hp → Prop), Pt (.str (f r)) G → g x (wipe σ vs) G fun σ2 H2 => wipe σ2 vs = wipe σ vs ∧ tt σ2 H2 fun b H3 => if b = true then te σ2 H3 Pt else Pf H3)
    (hd : ∀ G, Same H1 G → G D = some (.lst ((rs.map f).map V.str)) → Qd G) :
    ∃ W : Nat → Nat → Hp → Prop, (∃ m, W 0 m (upd H1 D (.lst []))) ∧ ∀ i m H, W i m H →
      ((Itt K a).stop i H ∧ Qd H) ∨ ((Itt K a).go i H ∧ ∃ Nx : Hp → Prop, (∀ H', Nx H' → ∃ m', m' < m ∧ W (i + 1) m' H') ∧ ∀ x H', (Itt K a).yld i H x H' → g x (wipe σ vs) H' fun σ2 H2 => wipe σ2 vs = wipe σ vs ∧ tt σ2 H2 fun b H3 =>
        if b = true then te σ2 H3 fun y H4 => ∃ acc, H4 D = some (.lst acc) ∧ acc.length < sizeLine ∧ Nx (upd H4 D (.lst (acc ++ [y]))) else Nx H3) := by
  have lx := hx.len
  rw [List.length_map] at lx
  refine lc_tup (xs := xs) (fun i G => Same H1 G ∧ G D = some (.lst (((rs.take i).map f).map V.str))) ⟨same_new nD, upd_same⟩ (fun i G _ hG => .inl (.inl (hG.1 _ _ ea))) (fun i x G hxi hG => ?_) (fun G hG => ?_)
  · obtain ⟨sG, eD⟩ := hG
    obtain ⟨d, ed, hdx⟩ := hx.get' hxi
    rw [List.getElem?_map] at ed
    obtain ⟨r, er, rfl⟩ := Option.map_eq_some_iff.mp ed
    have ii : i < rs.length := (List.getElem?_eq_some_iff.mp er).1
    refine hs r x G (List.mem_of_getElem? er) sG (hdx.up sG) _ _ ?_
    refine ⟨_, eD, ?_, same_at sG nD, ?_⟩
    · rw [List.length_map, List.length_map, List.length_take]
      have hb : (1000 : Nat) < sizeLine := by decide
      omega
    · rw [upd_same, List.take_add_one, er, List.map_append, List.map_append]
      rfl
  · obtain ⟨sG, eD⟩ := hG
    rw [List.take_of_length_le (by omega)] at eD
    exact hd G sG eD

section
variable {P : Program} {w : World} {K : PySem.W.Frag} {mg : Str → Option Value} {base : Heap}
theorem ok_ex {k : Nat} {f fV : Addr} {fd fdV : FuncData} (B : Bl mg) (hs : mg "set" = none) (D : Df K mg "_law_expected" sEx ["value"] f fd) (DV : Df K mg "_law_valid_row" sVR ["value"] fV fdV) (GV : FnOk P w K mg base CX0 k fV fdV ["value"] spRow) : FnOk P w K mg base CX0 (k + 1) f fd ["value"] spEx := by
  refine D.F.ok scEx (fun vs H Q E h => ?_) (fun cdv A outer s H vs Q E hr h => ?_)
  · obtain ⟨v, d, rfl, _⟩ := h
    rfl
  · obtain ⟨v, d, rfl, hd, hsm, h63, qn, q⟩ := h
    have nd := scEx.nd
    refine ⟨_, pss_cons (ps_if (PW.pt (pw_or (pt_not (pt_val (pe_isD (T := "tuple") (x := "tuple") (by decide +kernel) B.isi B.tuple (by decide +kernel) (pv 0) (by rfl) (by rfl))))
        (pw_or1 (pt_cmpR (op_neP hr.units) (pe_lc (own := [("row", 4)]) (g := gName 4) rfl nd (pi_tup (pv 0)) (blkOk_by (N := NX) (sc := defScope sEx) (by decide +kernel)) (fun _ _ _ _ _ => pg_name (i := 4) nd rfl (Or.inl rfl))
          (fun _ _ _ _ _ => pts_one (pt_not (pt_val (pe_call GV hr (by rfl) DV.g DV.F.kp DV.b .nil pass0 (pa_cons (pv 4) pa_nil))))) (fun _ _ _ _ _ => pe_int)) (pe_lst pa_nil) (nomark _))))) (pss_one (ps_ret pe_non)) pss_nil)
      (pss_cons (ps_set (i := 1) nd rfl (.inl rfl) (pe_callTy call_tuple_of (by rfl) B.tuple (by decide +kernel) (pa_cons (pe_callB (cr_sortT (enc := encR) hr) (by rfl) B.sorted (by decide +kernel) (pa_cons (pv 0) pa_nil)) pa_nil)))
      (pss_cons (ps_setLc (i := 2) (own := [("row", 4)]) (g := gName 4) (by rfl) nd rfl rfl (sw_true rfl rfl rfl (by decide +kernel)) (pi_tup (pv 1)) (blkOk_by (N := NX) (sc := defScope sEx) (by decide +kernel)) (fun _ _ _ _ _ => pg_name (i := 4) nd rfl (Or.inl rfl))
          (fun _ _ _ _ _ => pts_nil) (fun _ _ _ _ _ => pe_ix (r := rIxT K) ix_tup (pv 4) pe_int (fun _ _ => rfl)))
      (pss_cons (ps_set (i := 3) nd rfl (.inl rfl) (pe_callB (cr_sortedSet rfl) (by rfl) B.sorted (by decide +kernel) (pa_cons (pe_callTy (cr_setIL rfl) (by rfl) hs (by decide +kernel) (pa_cons
          (pe_lc (own := [("row", 4)]) (g := gName 4) rfl nd (pi_tup (pv 1)) (blkOk_by (N := NX) (sc := defScope sEx) (by decide +kernel)) (fun _ _ _ _ _ => pg_name (i := 4) nd rfl (Or.inl rfl)) (fun _ _ _ _ _ => pts_nil)
            (fun _ _ _ _ _ => pe_callB (call_lenK (K := K) rfl) (by rfl) B.len PySem.boot_len (pa_cons (pe_ix (r := rIxT K) ix_tup (pv 4) pe_int (fun _ _ => rfl)) pa_nil))) pa_nil)) pa_nil)))
      (pss_one (ps_ret (pe_ifExp (PW.pt (pw_or (pt_cmpR op_ne (pe_lenSetL rfl (by rfl) B.len (by rfl) hs (pv 2)) (pe_callB (call_lenK (K := K) rfl) (by rfl) B.len PySem.boot_len (pa_cons (pv 2) pa_nil)) (nomark _))
          (pw_or1 (pt_cmpR op_gt (pe_callB (call_lenK (K := K) rfl) (by rfl) B.len PySem.boot_len (pa_cons (pv 3) pa_nil)) pe_int (nomark _))))) pe_non (pv 1))))))), ?_⟩
    refine ⟨v, rfl, rfl, d, hd, _, rfl, ?_⟩
    rw [isa_tuple]
    have no : (∀ ds, d ≠ .tuple ds) → expR d = none := fun nt => by
      unfold expR
      cases d with
      | tuple ds => exact absurd rfl (nt ds)
      | _ => rfl
    cases d with
    | tuple ds =>
      obtain ⟨hl, sm⟩ := hsm ds rfl
      have h63 := h63 ds rfl
      obtain ⟨a, xs, rfl, ea, hx⟩ := dx_tup' hd
      have lx := hx.len
      refine iteF ⟨.ref a, rfl, a, rfl, ⟨_, .inl (.inl ea)⟩, fun D0 nD => ?_⟩
      refine lc_tup (xs := xs) (fun i G => Same H G ∧ G D0 = some (.lst ((bads rowD (ds.take i)).map V.int))) ⟨same_new nD, upd_same⟩ (fun i G _ hG => .inl (.inl (hG.1 _ _ ea))) (fun i x G hx2 hG => ?_) (fun G hG => ?_)
      · obtain ⟨sG, eL⟩ := hG
        obtain ⟨e, ee, hxe⟩ := hx.get' hx2
        have hi : i < ds.length := (List.getElem?_eq_some_iff.mp ee).1
        have et : ds.take (i + 1) = ds.take i ++ [e] := by rw [List.take_add_one, ee]; rfl
        have bl := bads_len rowD (ds.take i)
        rw [List.length_take] at bl
        refine ⟨rfl, x, rfl, x, e, rfl, hxe.up sG, sm e (List.mem_of_getElem? ee), fun G2 s2 => ⟨_, rfl, ?_⟩⟩
        cases er : rowD e with
        | true =>
          refine iteF ⟨sG.trans s2, ?_⟩
          rw [et, bads_add, er, if_pos rfl, List.append_nil]
          exact s2 _ _ eL
        | false =>
          refine iteT ⟨_, s2 _ _ eL, ?_, same_at (sG.trans s2) nD, ?_⟩
          · rw [List.length_map]
            have hb : (1000 : Nat) < sizeLine := by decide
            omega
          · rw [upd_same, et, bads_add, er, if_neg (by decide), List.map_append]
            rfl
      · obtain ⟨sG, eL⟩ := hG
        rw [List.take_of_length_le (by omega)] at eL
        refine ⟨Nat.zero_le _, fun pe ne => ?_⟩
        have sn := same_new (o := .lst []) ne
        obtain ⟨f1, f2⟩ := flat_ints (bads rowD ds)
        refine ⟨.list ((bads rowD ds).map .int), .list [], .lst (.inl (.inl (sn _ _ eL))) (dp_intsL _), .lst (.inl (.inl upd_same)) .nil, by simp only [PyData.plain]; exact f1, rfl, Nat.le_trans (Nat.min_le_left _ _) (by simp only [PyData.depth]; omega), _, rfl, ?_⟩
        have e1 : ((bads rowD ds).map PyData.int).isEmpty = ds.all rowD := by
          rw [← bads_nil]
          cases bads rowD ds <;> rfl
        rw [eqvL_nil, e1]
        have s1 : Same H (upd G pe (.lst [])) := sG.trans sn
        clear eL
        generalize upd G pe (.lst []) = G1 at s1 ⊢
        cases er : ds.all rowD with
        | false =>
          have : expR (.tuple ds) = none := by
            unfold expR
            have : rowsD (.tuple ds) = false := by show (ds.all rowD && _) = false; rw [er]; rfl
            rw [this]
            rfl
          exact iteT (qn this G1 s1)
        | true =>
          obtain ⟨rs, rfl⟩ := rows_rec er
          rw [List.length_map] at lx h63
          have ex : expR (.tuple (rs.map encR)) = if (oneW rs && !dupB rs) = true then some (sortR rs) else none := by
            unfold expR
            have e1 : rowsD (.tuple (rs.map encR)) = oneW rs := by
              show ((rs.map encR).all rowD && oneW ((rs.map encR).map recD)) = oneW rs
              rw [er, recs_back]
              rfl
            have e2 : recsOf (.tuple (rs.map encR)) = rs := recs_back rs
            rw [e1, e2]
          rw [ex] at qn q
          refine iteF ?_
          have hx1 := hx.up s1
          have each : ∀ b ∈ xs.zip rs, Dx G1 b.1 (encR b.2) := fun b hb => by
            obtain ⟨i, hi, e⟩ := List.mem_iff_getElem.mp hb
            have e' : (xs.zip rs)[i]? = some b := by rw [List.getElem?_eq_getElem hi, e]
            rw [List.getElem?_zip_eq_some] at e'
            obtain ⟨d, ed, hd⟩ := hx1.get' e'.1
            rw [List.getElem?_map, e'.2] at ed
            cases ed
            exact hd
          refine ⟨.ref a, rfl, a, xs.zip rs, rfl, .inl (.inl ?_), fun b hb => dp_dx _ _ (plain_rec b.2) (each b hb), ?_, ?_, fun b _ => depth_rec b.2, fun pl npl => ?_⟩
          · rw [List.map_fst_zip (by omega)]
            exact s1 _ _ ea
          · have := alike_recs ((xs.zip rs).map (·.2))
            rwa [List.map_map] at this
          · have := tup_recs ((xs.zip rs).map (·.2))
            rwa [List.map_map] at this
          have sl := same_new (o := .lst (((xs.zip rs).mergeSort (PySem.W.dataLe false fun b => encR b.2)).map (·.1))) npl
          have hm : ∀ b ∈ (xs.zip rs).mergeSort (PySem.W.dataLe false fun b => encR b.2), Dx (upd G1 pl (.lst (((xs.zip rs).mergeSort (PySem.W.dataLe false fun b => encR b.2)).map (·.1)))) b.1 (encR b.2) := fun b hb =>
            (each b (List.mem_mergeSort.mp hb)).up sl
          have e1 : ((xs.zip rs).mergeSort (PySem.W.dataLe false fun b => encR b.2)).map (fun b => encR b.2) = (sortR rs).map encR := by
            have e2 : ((xs.zip rs).mergeSort (PySem.W.dataLe false fun b => encR b.2)).map Prod.snd = sortR rs := by
              have h := List.map_mergeSort (f := Prod.snd) (r := PySem.W.dataLe false fun b : V × Rec => encR b.2) (s := PySem.W.dataLe false encR) (l := xs.zip rs) (fun a _ b _ => rfl)
              rw [List.map_snd_zip (by omega)] at h
              exact h
            rw [← e2, List.map_map]
            rfl
          have hx2 := dxs_pairs _ hm
          rw [e1] at hx2
          refine ⟨pl, _, rfl, .inl ⟨.inl (.inl upd_same), fun p2 np2 => ?_⟩⟩
          have s3 := (s1.trans sl).trans (same_new (o := .tup (((xs.zip rs).mergeSort (PySem.W.dataLe false fun b => encR b.2)).map (·.1))) np2)
          have d3 : Dx (upd (upd G1 pl (.lst (((xs.zip rs).mergeSort (PySem.W.dataLe false fun b => encR b.2)).map (·.1)))) p2 (.tup (((xs.zip rs).mergeSort (PySem.W.dataLe false fun b => encR b.2)).map (·.1)))) (.ref p2) (.tuple ((sortR rs).map encR)) := .tup upd_same (hx2.up (same_new np2))
          generalize upd (upd G1 pl (.lst (((xs.zip rs).mergeSort (PySem.W.dataLe false fun b => encR b.2)).map (·.1)))) p2 (.tup (((xs.zip rs).mergeSort (PySem.W.dataLe false fun b => encR b.2)).map (·.1))) = G3 at s3 d3 ⊢
          clear hx2 hm e1 each
          have pm := sort_perm rs
          have ln : (sortR rs).length = rs.length := pm.length_eq
          have eo := oneW_perm pm
          have edd := dup_perm pm
          generalize sortR rs = ss at d3 pm ln eo edd q
          refine gn_to (σ' := ([some (.ref a), some (.ref p2), none, none, none] : L2.St)) rfl ?_
          dsimp only
          obtain ⟨a3, ys, e3, ea3, hy⟩ := dx_tup' d3
          cases e3
          have ly := hy.len
          rw [List.length_map] at ly
          refine ⟨.ref p2, rfl, p2, rfl, ⟨_, .inl (.inl ea3)⟩, fun DN nDN => ?_⟩
          refine lc_strs (xs := ys) (·.nm) nDN ea3 hy (by omega) (fun r x G _ sG hxG Pt Pf k => ?_) (fun G4 s4 eDN => ?_)
          · obtain ⟨b, z, zs, rfl, eb, _⟩ := row_dx hxG
            exact ⟨rfl, .ref b, rfl, b, _, 0, .str r.nm, rfl, rfl, .inl (.inl eb), rfl, k⟩
          refine gn_to (σ' := ([some (.ref a), some (.ref p2), some (.ref DN), none, none] : L2.St)) rfl ?_
          dsimp only
          refine ⟨.ref p2, rfl, p2, rfl, ⟨_, .inl (.inl (s4 _ _ ea3))⟩, fun DW nDW => ?_⟩
          refine lc_ints (xs := ys) (fun r => (r.vals.length : Int)) nDW (s4 _ _ ea3) (hy.up s4) (by omega) (fun r x G _ sG hxG Pt Pf k => ?_) (fun G5 s5 eDW => ?_)
          · obtain ⟨b, z, zs, rfl, eb, ez, ev⟩ := row_dx hxG
            refine ⟨rfl, .ref b, rfl, b, _, 2, .ref z, rfl, rfl, .inl (.inl eb), rfl, z, zs, rfl, .inr (.inl (.inl ez)), ?_⟩
            rw [ev, List.length_map]
            exact k
          have lw : (wds ss).length ≤ 63 := by rw [List.length_map]; omega
          refine ⟨DW, wds ss, rfl, .inl (.inl eDW), by omega, fun pS c nS hc => ⟨pS, _, c, rfl, upd_same, by omega, fun ns pw hpw hmem hlen npw => ?_⟩⟩
          refine gn_to (σ' := ([some (.ref a), some (.ref p2), some (.ref DN), some (.ref pw), none] : L2.St)) rfl ?_
          dsimp only
          have hpp : pw ≠ pS := fun z => by rw [z, upd_same] at npw; cases npw
          have nG5 : G5 pw = none := by rw [upd_ne hpp] at npw; exact npw
          have s6 : ∀ o : HO, Same G4 (upd (upd G5 pS o) pw (.lst (ns.map V.int))) := fun o => (s5.trans (same_new nS)).trans (same_new (by rw [upd_ne hpp]; exact nG5))
          have sAll : ∀ o : HO, Same H (upd (upd G5 pS o) pw (.lst (ns.map V.int))) := fun o => (s3.trans s4).trans (s6 o)
          refine ⟨.ref DN, rfl, DN, ss.map (fun r : Rec => r.nm), rfl, .inl (.inl (s6 _ _ _ eDN)), by rw [List.length_map]; omega, .ref DN, rfl, DN, _, rfl, .inl (.inl (.inl (s6 _ _ _ eDN))), rfl, _, rfl, ?_⟩
          have ewid := wides_iff hpw hmem
          have ed : (!decide (V.int ((dcnt (ss.map (fun r : Rec => r.nm)) (ss.map (fun r : Rec => r.nm)).length : Nat) : Int) = V.int (((ss.map (fun r : Rec => r.nm)).map V.str).length : Int))) = dupB ss := by
            have le := dcnt_le (ss.map (fun r : Rec => r.nm)) ss.length
            simp only [List.length_map]
            unfold dupB
            by_cases z : dcnt (ss.map (fun r : Rec => r.nm)) ss.length < ss.length
            · rw [decide_eq_true z, decide_eq_false (fun y => by have := V.int.inj y; omega)]
              rfl
            · rw [decide_eq_false z, decide_eq_true (by rw [show dcnt (ss.map (fun r : Rec => r.nm)) ss.length = ss.length by omega])]
              rfl
          change if (!decide (V.int ((dcnt (ss.map (fun r : Rec => r.nm)) (ss.map (fun r : Rec => r.nm)).length : Nat) : Int) = V.int (((ss.map (fun r : Rec => r.nm)).map V.str).length : Int))) = true then _ else _
          rw [ed, edd]
          cases edup : dupB rs with
          | true =>
            rw [edup] at qn
            exact iteT (qn (by rw [Bool.not_true, Bool.and_false]; rfl) _ (sAll _))
          | false =>
            refine iteF ⟨.ref pw, rfl, pw, _, rfl, .inl (.inl (.inl upd_same)), _, 1, rfl, rfl, _, rfl, ?_⟩
            rw [List.length_map, ewid, eo]
            rw [edup] at qn q
            cases eone : oneW rs with
            | false =>
              rw [eone] at qn
              exact iteT (qn rfl _ (sAll _))
            | true =>
              rw [eone] at q
              exact iteF ⟨.ref p2, rfl, q ss rfl _ p2 (sAll _) (d3.up (s4.trans (s6 _)))⟩
    | _ => exact iteT (iteT (qn (no fun ds z => by cases z) H (Same.refl H)))
end
end U1

set_option maxRecDepth 100000
set_option maxHeartbeats 2000000
namespace U1
open PySem PySem.Spec PyProof.Rows L2 KX
section
variable {X : Cx}
theorem call_reprU (hu : X.A.units + 200 < cLine) (hg : X.A.guards = some []) : CallR X (.builtin "repr") rReprD := by
  intro pins s σ H xs us Q I r h
  obtain ⟨x, d, e, hd, hs, hdp, hz, q⟩ := h
  subst e
  obtain ⟨u, rfl, rx⟩ := vals1 r
  obtain ⟨as, hrd, hn⟩ := Dx.reads I d x u hd rx
  have fin : ∀ h' u' tk, (∀ b o, s.heap.get? b = some o → h'.get? b = some o) → EP X pins σ Q (.str d.shown u') { s with heap := h', toks := tk } := fun h' u' tk hk =>
    ⟨.str d.shown, H, I.kept (t' := tk) hk, ⟨_, rfl⟩, q⟩
  cases hd with
  | non =>
    cases (show u = Value.none from rx)
    simp only [PyData.shown] at fin
    exact PySem.P.repr_of_none (fin _ _ _ fun _ _ e => e)
  | bl b =>
    cases (show u = Value.bool b from rx)
    simp only [PyData.shown] at fin
    exact PySem.P.repr_of_bool (fin _ _ _ fun _ _ e => e)
  | int i =>
    obtain ⟨t, z⟩ := (show ∃ t, u = Value.int i t from rx)
    cases z
    simp only [PyData.shown] at fin
    exact PySem.P.repr_of_int (by simpa [PyData.showable] using hs) (fin _ _ _ fun _ _ e => e)
  | str y =>
    obtain ⟨t, z⟩ := (show ∃ t, u = Value.str y t from rx)
    cases z
    simp only [PyData.shown] at fin hz
    exact PySem.P.repr_of_str (fin _ _ _ fun _ _ e => e) hz
  | lst e n h =>
    cases (show u = Value.ref _ from rx)
    exact repr_of_reads' hrd hs (fun _ => hn) hg (by omega) (fun _ _ e => e) fin hz
  | tup e h =>
    cases (show u = Value.ref _ from rx)
    exact repr_of_reads' hrd hs (fun _ => hn) hg (by omega) (fun _ _ e => e) fin hz
  | dic e =>
    cases (show u = Value.ref _ from rx)
    exact repr_of_reads' hrd hs (fun _ => hn) hg (by omega) (fun _ _ e => e) fin hz
  | dic1 e =>
    cases (show u = Value.ref _ from rx)
    exact repr_of_reads' hrd hs (fun _ => hn) hg (by omega) (fun _ _ e => e) fin hz
end
abbrev sOut : Stmt := topS 49
/-- which clause takes which error -/
structure XS (K : PySem.W.Frag) (mg : Str → Option Value) (S R U M RW : Addr) : Prop where
  gS : mg "SparesError" = some (.ref S)
  gW : mg "InvalidRow" = some (.ref RW)
  rs : PySem.W.exmOne K (.ref R) (.ref S) = some true
  us : PySem.W.exmOne K (.ref U) (.ref S) = some false
  uu : PySem.W.exmOne K (.ref U) (.ref U) = some true
  ms : PySem.W.exmOne K (.ref M) (.ref S) = some false
  mu : PySem.W.exmOne K (.ref M) (.ref U) = some false
  mm : PySem.W.exmOne K (.ref M) (.ref M) = some true
  iR : XI K R
  kR : PySem.W.kitOne K (.ref R) (.ref R) = some true
  kW : PySem.W.kitOne K (.ref R) (.ref RW) = some false
  kU : PySem.W.kitOne K (.ref U) (.type "KeyError") = some true
  kM : PySem.W.kitOne K (.ref M) (.type "OverflowError") = some true
def ErrW (R U M : Addr) (Q : VK) : XK := fun cls d G => (cls = .ref R ∧ d = none ∧ Q (.str "rowset") G) ∨
  (cls = .ref U ∧ ∃ dd v e, d = some dd ∧ G dd = some (.xd [("name", v)]) ∧ Dx G v e ∧ e.showable = true ∧ e.depth ≤ 100 ∧ e.shown.length + 5 ≤ sizeLine ∧ Q (.str ("name " ++ e.shown)) G) ∨
  (cls = .ref M ∧ ∃ dd, d = some dd ∧ G dd = some (.xd [("limit", .int 60)]) ∧ Q (.str "limit 60") G)
def TTout (R U M : Addr) : (XK → Hp → VK → Prop) → Hp → VK → Prop := fun tl H Q => ∀ (E : XK) (Q' : VK), (∀ cls d G, ErrW R U M Q cls d G → E cls d G) → (∀ v G, Q (.str "returned") G → Q' v G) → tl E H Q'
theorem scOut : FnScope ["call", "e"] ["call"] (defScope sOut) := ⟨rfl, rfl, rfl, by decide +kernel, rfl, by decide +kernel, by decide +kernel⟩
theorem lim60 : ("limit " : Str) ++ PyData.shown (.int 60) = "limit 60" := by decide +kernel
section
variable {X : Cx} {R U S M RW fU fM g : Addr} {gU gM : FuncData} {k : Nat} {cdg : Value} {q : Str}
abbrev zOut (X : Cx) (s : Shared) (H : Hp) (g : Addr) (cdg : Value) : Cx := (cxOf C8.CX0 X.prog X.w X.K X.mg X.base ["call", "e"] "_law_outcome" (defScope sOut) g cdg X.A X.stack s H C8.E0).nox
theorem out_gives (B : Bl X.mg) (TR : OC X.K X.mg "InvalidRowset" R) (TU : UN X.K X.mg U fU gU) (TT : TM X.K X.mg M fM gM) (Z : XS X.K X.mg S R U M RW)
    (hgd : ∀ s : Shared, (X.A.deeper (envOfC "_law_outcome" (defScope sOut) s.heap.objs.size g cdg)).guards = some []) :
    GivesR X k ["call", "e"] "_law_outcome" (defScope sOut) g cdg (defBody sOut) "call" q (TTout R U M) := by
  intro f c' s H Q tl hr act hc h
  have nd := scOut.nd
  have hg := hgd s
  have hu : (X.A.deeper (envOfC "_law_outcome" (defScope sOut) s.heap.objs.size g cdg)).units + 200 < cLine := by
    have := hr.un
    omega
  refine ⟨_, pss_cons (ps_try_mixD (X := zOut X s H g cdg) (tb := fun W => tDrop (fun σZ HZ Qy => σZ[0]? = some (some (.ref f)) ∧ HZ c' = some (LamX.CodeO c' q) ∧ tl (fun cls d H' => W cls d σZ H') HZ Qy)) (Wo := fun _ _ _ _ => False)
      (l := [⟨.ref S, some 1, _⟩, ⟨.ref U, some 1, _⟩, ⟨.ref M, some 1, _⟩]) rfl rfl nd takes0 (fun _ _ _ _ h => h)
      (fun W pn xe tk _ => pss_one (ps_expr (by exact act W pn xe _ _ tk)))
      (.named rfl rfl ⟨rfl, by decide, .inl Z.gS⟩ (fun a oe cls d pn hz hf => pss_one (ps_ret (by exact pe_ifExp (PW.pt (pw_and (pt_val (pe_callB (call_isN hz hf) (by rfl) B.isi (by decide +kernel) (pa_cons (pv 1) (pa_cons (pe_glob (v := .ref R) (by rfl) TR.g rfl) pa_nil))))
          (pw_and1 (pt_not (pt_val (pe_callB (call_isN hz hf) (by rfl) B.isi (by decide +kernel) (pa_cons (pv 1) (pa_cons (pe_glob (v := .ref RW) (by rfl) Z.gW rfl) pa_nil)))))))) pe_str pe_str)))
      (.named rfl rfl ⟨rfl, by decide, .inl TU.g⟩ (fun a oe cls d pn hz hf => pss_one (ps_ret (by exact pe_ifExp (pt_val (pe_callB (call_isX hz hf) (by rfl) B.isi (by decide +kernel) (pa_cons (pv 1) (pa_cons (pe_bltn (v := .ty "KeyError") (by rfl) B.kye (by decide +kernel) rfl) pa_nil)))) (pe_op op_add_str pe_str (pe_callB (call_reprU hu hg) (by rfl) B.repr (by decide +kernel) (pa_cons (pe_xf TU.i.xf TU.no hz hf (pv 1)) pa_nil))) pe_str)))
      (.named rfl rfl ⟨rfl, by decide, .inl TT.g⟩ (fun a oe cls d pn hz hf => pss_one (ps_ret (by exact pe_ifExp (pt_val (pe_callB (call_isX hz hf) (by rfl) B.isi (by decide +kernel) (pa_cons (pv 1) (pa_cons (pe_bltn (v := .ty "OverflowError") (by rfl) TT.ov (by decide +kernel) rfl) pa_nil)))) (pe_op op_add_str pe_str (pe_callB (call_reprU hu hg) (by rfl) B.repr (by decide +kernel) (pa_cons (pe_xf TT.i.xf TT.no hz hf (pv 1)) pa_nil))) pe_str))) .dead))))
    (pss_one (ps_ret pe_str)), ?_⟩
  refine ⟨rfl, hc, h _ _ (fun cls d G e => ?_) (fun v G k => k)⟩
  rcases e with ⟨rfl, rfl, k⟩ | ⟨rfl, dd, v, e, rfl, edd, hd, g1, g2, g3, k⟩ | ⟨rfl, dd, rfl, edd, k⟩
  · refine ⟨true, Z.rs, fun _ a na => ?_, fun z => by cases z⟩
    refine ⟨.ref a, rfl, R, .ref R, true, Z.iR, rfl, rfl, rfl, .inl ⟨.ref R, fun u r => r, Z.kR⟩, _, rfl, iteT ?_⟩
    exact ⟨.ref a, rfl, R, .ref RW, false, Z.iR, rfl, rfl, rfl, .inl ⟨.ref RW, fun u r => r, Z.kW⟩, _, rfl, iteT k⟩
  · refine ⟨false, Z.us, fun z => (by cases z), fun _ => ⟨true, Z.uu, fun _ a na => ?_, fun z => by cases z⟩⟩
    have l1 : List.lookup ("name" : Str) [(("name" : Str), v)] = some v := by simp [List.lookup]
    refine ⟨.ref a, rfl, U, dd, [("name", v)], .ty "KeyError", true, TU.i, rfl, rfl, edd, rfl, .inl ⟨.type "KeyError", fun u r => r, Z.kU⟩, _, rfl, iteT ?_⟩
    refine ⟨.ref a, rfl, rfl, rfl, dd, [("name", v)], v, rfl, edd, l1, v, e, rfl, hd, g1, g2, by omega, "name ", e.shown, rfl, rfl, ?_, k⟩
    have : ("name " : Str).length = 5 := by decide
    omega
  · refine ⟨false, Z.ms, fun z => (by cases z), fun _ => ⟨false, Z.mu, fun z => (by cases z), fun _ => ⟨true, Z.mm, fun _ a na => ?_, fun z => by cases z⟩⟩⟩
    have l1 : List.lookup ("limit" : Str) [(("limit" : Str), V.int 60)] = some (.int 60) := by simp [List.lookup]
    refine ⟨.ref a, rfl, M, dd, [("limit", .int 60)], .ty "OverflowError", true, TT.i, rfl, rfl, edd, rfl, .inl ⟨.type "OverflowError", fun u r => r, Z.kM⟩, _, rfl, iteT ?_⟩
    refine ⟨.ref a, rfl, rfl, rfl, dd, [("limit", .int 60)], .int 60, rfl, edd, l1, .int 60, .int 60, rfl, .int 60, by decide +kernel, by decide, by decide +kernel, "limit ", PyData.shown (.int 60), rfl, rfl, by decide +kernel, ?_⟩
    rw [lim60]
    exact k
end
end U1

set_option maxRecDepth 100000
set_option maxHeartbeats 4000000
namespace KX
open PySem PySem.Spec PyProof.Rows L2
/-! ### xs * k, the new list none of the first addresses -/
def rRepS : R2 := fun x y H Q => ∃ a m zs, x = .ref a ∧ y = .int m ∧ H a = some (.lst zs) ∧ 0 ≤ m ∧ m ≤ 1000 ∧ zs.length * m.toNat ≤ sizeLine ∧ ∀ p, H p = none → p ≠ sysModules → Q (.ref p) (L2.upd H p (.lst (List.replicate m.toNat zs).flatten))
theorem op_repS {X : Cx} : OpR X (binaryOp .Mult) rRepS := by
  intro pins s σ H x y v u Q I rx ry hyp
  obtain ⟨a, m, zs, rfl, rfl, hA, m0, m1, fit, q⟩ := hyp
  cases rx
  obtain ⟨tk, rfl⟩ := ry
  obtain ⟨_, ws, c, rw_, lw, ea⟩ := I.lstM hA
  have fit2 : ws.toArray.size * m.toNat ≤ sizeLine := by rw [List.size_toArray, ← lw]; exact fit
  have c1 : ¬ ws.toArray.size * m.toNat > (2 ^ 63 - 1) / 8 := by
    have line8 : sizeLine ≤ (2 ^ 63 - 1) / 8 := by decide
    omega
  have c2 : ¬ (!Builtin.List.listFitsIndex m) = true := by
    rw [fitsIndex_both (by omega) (by omega)]
    exact Bool.false_ne_true
  have c3 : ¬ Builtin.List.listTooLong (ws.toArray.size * m.toNat) = true := by
    rw [notLongL fit2]
    exact Bool.false_ne_true
  have made : List.foldl (fun b1 b2 => b1 ++ b2) #[] (List.replicate (if ws.toArray.isEmpty = true then 0 else m.toNat) ws.toArray) = (List.replicate m.toNat ws).flatten.toArray := by
    have each : ∀ j : Nat, List.foldl (fun b1 b2 => b1 ++ b2) #[] (List.replicate j ws.toArray) = (List.replicate j ws).flatten.toArray := fun j => by
      have r := foldl_rep ws j []
      rwa [List.nil_append] at r
    rw [each]
    cases ws with
    | nil => simp
    | cons w0 ws' => rw [if_neg (by simp)]
  refine wpAny_binaryOp_repeat_ref (U := "int") (T := "list") (by decide) ⟨_, ea, rfl⟩ (fun s2 => typeIs_int s2 m tk) noFill_list_mul F.fills_int_mul F.slot_int_rmul repeat_list F.slot_int_index.lookup
    (call_meets F.slot_int_rmul (typeIs_int s m tk) F.entry_int_rmul (F.args_int_rmul_2 _ _) (int___rmul___int_list m tk a ws.toArray c)
      ⟨ea, rfl, ⟨_, ea, rfl⟩, call_meets F.slot_list_mul ⟨_, ea, rfl⟩ F.entry_list_mul (F.args_list_mul_2 _ _) (AutoListH.list___mul___list_int_3 a ws.toArray c m tk c2 c1 c3) ⟨ea, ?_⟩⟩)
  rw [made]
  exact ⟨.ref _, _, I.lnew (t' := s.toks) (rw_.rep m.toNat) (by rw [lm_len_rep_flat, Nat.mul_comm]; exact fit), rfl, q _ I.fresh (new_big I (Nat.le_refl _))⟩
end KX

set_option maxRecDepth 100000
set_option maxHeartbeats 4000000
namespace U1
open PySem PySem.Spec PyProof.Rows L2 KX
theorem okGc {P : Program} {w : World} {K : PySem.W.Frag} {mg : Str → Option Value} {base : Heap} {x qual : Str} {st : Stmt} {f c0 : Addr} {oc kV doc pm ct : Value} {od an : Option Addr} {osl : Array (Option Value)} {N ps : List Str} {k : Nat} {sp : Sp}
    (lk : K.lookup f = some ⟨oc, od, .func (PySem.W.fnOf x qual (defArgs st) (defBody st) (defScope st) .none kV doc pm an (.ref c0) ct), osl⟩) (hcd : PySem.W.codeIn K (.ref c0) qual = true) (S : FnScope N ps (defScope st))
    (len : ∀ vs H Q E, sp vs H Q E → vs.length = ps.length)
    (hbody : ∀ (B : Around) (outs : List PySem.Env) (s : Shared) (H : Hp) (vs : List V) (Q : VK) (E : XK), (B.deeper (envOfC qual (defScope st) s.heap.objs.size f (.ref c0))).guards = some [] → Room k (B.deeper (envOfC qual (defScope st) s.heap.objs.size f (.ref c0))) →
      sp vs H Q E → ∃ t, PSs (cxOf CX0 P w K mg base N qual (defScope st) f (.ref c0) B outs s H E).nox (defBody st) t ∧ t { nx := fun _ H' => Q .non H', rt := Q } (L2.start N vs) H) :
    FnG P w K mg base CX0 (k + 1) f (PySem.W.fnOf x qual (defArgs st) (defBody st) (defScope st) .none kV doc pm an (.ref c0) ct) ps sp := by
  refine fn_ofG lk hcd S len fun B outs s H vs Q E hg hr hsp => ?_
  obtain ⟨t, h, q⟩ := hbody B outs s H vs Q E hg hr hsp
  exact ⟨t, h.nox, q⟩
theorem tabs_new {P0 : Addr} {q : Str} {H : Hp} (h : H P0 = some (.tbl #[])) : LamX.Tabs [(P0, q)] H := fun p hp => by
  cases List.mem_singleton.mp hp
  exact LamX.TabS.nil h
theorem tabs_upd {l : Addr} {T : List (Addr × Str)} {H : Hp} {xs ys : List V} (e : H l = some (.lst xs)) (t : LamX.Tabs T H) : LamX.Tabs T (upd H l (.lst ys)) := fun p hp => by
  obtain ⟨ps, h1, h2, h3⟩ := t p hp
  refine ⟨ps, ?_, h2, fun pos cv hc => ?_⟩
  · rw [upd_ne (fun z => by rw [z, e] at h1; cases h1)]
    exact h1
  · obtain ⟨c, e1, e2⟩ := h3 pos cv hc
    refine ⟨c, e1, ?_⟩
    rw [upd_ne (fun z => by rw [z, e] at e2; unfold LamX.CodeO at e2; cases e2)]
    exact e2
theorem tabs_same {T : List (Addr × Str)} {H H' : Hp} (s : Same H H') (t : LamX.Tabs T H) : LamX.Tabs T H' := t.ext fun b o e => s b o e
theorem ext_same {H H' : Hp} (s : Same H H') : LamX.ExtN H H' := LamX.ExtN.of fun b o e => s b o e
/-! ### facts of the values -/
theorem VG.sm {d : PyData} (h : VG d) : SmR d := fun ds z => by
  subst z
  have hw := h.w
  simp only [wt] at hw
  have line : (5000 : Nat) ≤ sizeLine := by decide
  refine ⟨Nat.le_trans (h.n ds rfl) (by decide), fun e he => ?_⟩
  have w1 := wt_mem he
  cases e with
  | tuple es =>
    intro x hx
    have w2 := wt_mem hx
    simp only [wt] at w1
    cases x with
    | str x =>
      simp only [wt] at w2
      show x.length ≤ sizeLine
      omega
    | _ => trivial
  | _ => trivial
theorem VG.sh {d : PyData} (h : VG d) : d.showable = true ∧ d.depth ≤ 100 ∧ d.shown.length ≤ sizeLine := by
  have h1 := shown_le (B := 10 ^ 40) (by decide) d h.f
  have h2 := h.w
  have h3 := h.p
  refine ⟨showable_fine (B := 10 ^ 40) (by decide) d h.f, by omega, ?_⟩
  rw [sizeLine_eq]
  omega
theorem wtAll_perm {as bs : List PyData} (h : as.Perm bs) : wtAll as = wtAll bs := by
  induction h with
  | nil => rfl
  | cons x _ ih => simp only [wtAll, ih]
  | swap x y l => simp only [wtAll]; omega
  | trans _ _ a b => rw [a, b]
theorem vg_perm {rs ss : List Rec} (h : VG (.tuple (rs.map encR))) (p : ss.Perm rs) : VG (.tuple (ss.map encR)) := by
  have q := p.map encR
  have f := h.f
  have w := h.w
  have pp := h.p
  simp only [fine] at f
  simp only [wt] at w
  simp only [PyData.depth] at pp
  refine ⟨?_, ?_, ?_, fun ds z => ?_⟩
  · simp only [fine]
    exact fineAll_mem.mpr fun e he => fineAll_mem.mp f e (q.mem_iff.mp he)
  · simp only [wt]
    rw [wtAll_perm q]
    exact w
  · have := depthAll_le (k := PyData.depthAll (rs.map encR)) (es := ss.map encR) fun e he => depth_mem (q.mem_iff.mp he)
    simp only [PyData.depth]
    omega
  · cases z
    rw [q.length_eq]
    exact h.n _ rfl
theorem recsOf_enc (rs : List Rec) : recsOf (.tuple (rs.map encR)) = rs := recs_back rs
theorem exp_none {d : PyData} (h : expR d = none) (hr : rowsD d = true) {rs : List Rec} (e : d = .tuple (rs.map encR)) : dupB rs = true := by
  unfold expR at h
  rw [hr, e, recsOf_enc] at h
  cases z : dupB rs with
  | true => rfl
  | false =>
    rw [z] at h
    cases h
theorem exp_some {d : PyData} {ss : List Rec} (h : expR d = some ss) : rowsD d = true ∧ ∀ rs, d = .tuple (rs.map encR) → dupB rs = false ∧ ss = sortR rs := by
  unfold expR at h
  split at h
  · rename_i c
    rw [Bool.and_eq_true] at c
    refine ⟨c.1, fun rs e => ?_⟩
    subst e
    rw [recsOf_enc] at c h
    refine ⟨?_, (Option.some.inj h).symm⟩
    cases z : dupB rs with
    | false => rfl
    | true =>
      rw [z] at c
      cases c.2
  · cases h
theorem rsok_true {rs : List Rec} (h : RsOk rs) : rowsetD (.tuple (rs.map encR)) = true := by
  show (decide ((rs.map encR).length ≤ 60) && (((rs.map encR).all rowD && oneW ((rs.map encR).map recD)) && ascS (((rs.map encR).map recD).map (·.nm)))) = true
  rw [recs_back, List.length_map, decide_eq_true h.le, h.row, h.one, h.asc]
  rfl
theorem two_bl (b : Bool) : (PyData.list [.bool b, .bool b]).showable = true ∧ (PyData.list [.bool b, .bool b]).depth ≤ 100 ∧ (PyData.list [.bool b, .bool b]).shown.length ≤ sizeLine := by
  cases b <;> refine ⟨by decide +kernel, by decide +kernel, ?_⟩ <;> rw [sizeLine_eq] <;> decide +kernel
/-! ### _law_value_right -/
abbrev sVl : Stmt := topS 52
abbrev sRr : Stmt := topS 53
abbrev lamV : Str := (envOfC "_law_value_right" (defScope sVl) 0 0 .none).qual ++ "<lambda>"
abbrev lamW : Str := (envOfC "_law_rowset_right" (defScope sRr) 0 0 .none).qual ++ "<lambda>"
abbrev TL (P0 P1 : Addr) : List (Addr × Str) := [(P0, lamV), (P1, lamW)]
abbrev NL : List Str := ["value", "kept", "due", "found"]
theorem scVl : FnScope NL ["value"] (defScope sVl) := ⟨rfl, rfl, rfl, by decide +kernel, rfl, by decide +kernel, by decide +kernel⟩
def spVl (P0 P1 : Addr) : Sp := fun vs H Q _ => ∃ (v : V) (d : PyData), vs = [v] ∧ LamX.Tabs (TL P0 P1) H ∧ Dx H v d ∧ VG d ∧ ∀ H', LamX.ExtN H H' → LamX.Tabs (TL P0 P1) H' → Q (.bl true) H'
theorem eqv_threeR : PyData.eqv (.list [.str "rowset", .str "rowset", .str "rowset"]) (.list [.str "rowset", .str "rowset", .str "rowset"]) = true := by simp [PyData.eqv, PyData.eqvAll]
section
variable {P : Program} {w : World} {K : PySem.W.Frag} {mg : Str → Option Value} {base : Heap} {R S U M RW fU fM : Addr} {gU gM : FuncData}
theorem ok_vl {k : Nat} {f c0 P0 P1 fO fE fI fV fM1 fW fN fF : Addr} {fdE fdI fdV fdM fdW fdN fdF : FuncData} {oc kV doc pm ct ocO kVO docO pmO cdO ctO : Value} {od an odO anO : Option Addr} {osl oslO : Array (Option Value)} (B : Bl mg) (TR : OC K mg "InvalidRowset" R) (TU : UN K mg U fU gU) (TT : TM K mg M fM gM) (Z : XS K mg S R U M RW)
    (lk : K.lookup f = some ⟨oc, od, .func (PySem.W.fnOf "_law_value_right" "_law_value_right" (defArgs sVl) (defBody sVl) (defScope sVl) .none kV doc pm an (.ref c0) ct), osl⟩) (hcd : PySem.W.codeIn K (.ref c0) "_law_value_right" = true) (TB : LamX.TabB base mg c0 P0) (hne : P0 ≠ P1)
    (DO : Df K mg "_law_outcome" sOut ["call"] fO (PySem.W.fnOf "_law_outcome" "_law_outcome" (defArgs sOut) (defBody sOut) (defScope sOut) .none kVO docO pmO anO cdO ctO))
    (lkO : K.lookup fO = some ⟨ocO, odO, .func (PySem.W.fnOf "_law_outcome" "_law_outcome" (defArgs sOut) (defBody sOut) (defScope sOut) .none kVO docO pmO anO cdO ctO), oslO⟩) (hcO : PySem.W.codeIn K cdO "_law_outcome" = true)
    (DE : Df K mg "_law_expected" sEx ["value"] fE fdE) (DI : Df K mg "is_rowset" sIR ["value"] fI fdI) (DV : Df K mg "_law_valid_rowset" sVS ["value"] fV fdV) (DM : Df K mg "make_rowset" sMR ["rows"] fM1 fdM) (DW : Df K mg "rowset_width" sRW ["rowset"] fW fdW) (DN : Df K mg "row_names" sRNm ["rowset"] fN fdN) (DF : Df K mg "find_row" sFR ["rowset", "name"] fF fdF)
    (GE : FnOk P w K mg base CX0 (k + 2) fE fdE ["value"] spEx) (GI : FnOk P w K mg base CX0 (k + 2) fI fdI ["value"] spIR) (GV : FnOk P w K mg base CX0 (k + 2) fV fdV ["value"] spIR) (GM : FnOk P w K mg base (L2.CX P w) k fM1 fdM ["rows"] (spMR R M))
    (GW : FnOk P w K mg base (L2.CX P w) k fW fdW ["rowset"] (spOf R fun rs x _ => x = .int (widthI rs))) (GN : FnOk P w K mg base (L2.CX P w) k fN fdN ["rowset"] (spOf R fun rs x G => Dx G x (.tuple ((rs.map (·.nm)).map .str)))) (GF : FnOk P w K mg base (L2.CX P w) k fF fdF ["rowset", "name"] (spFR R U)) :
    FnG P w K mg base CX0 (k + 3) f (PySem.W.fnOf "_law_value_right" "_law_value_right" (defArgs sVl) (defBody sVl) (defScope sVl) .none kV doc pm an (.ref c0) ct) ["value"] (spVl P0 P1) := by
  have one0 : ∀ p ∈ TL P0 P1, p.1 = P0 → p.2 = lamV := fun p hp e => by
    rcases List.mem_cons.mp hp with h | h
    · cases h
      rfl
    · cases List.mem_singleton.mp h
      exact absurd e.symm hne
  have GM2 : FnOk P w K mg base (L2.CX P w) (k + 2) fM1 fdM ["rows"] (spMR R M) := GM.mono (by omega)
  refine okGc lk hcd scVl (fun vs H Q E h => ?_) (fun A outer s H vs Q E hgd hr h => ?_)
  · obtain ⟨v, d, rfl, _⟩ := h
    rfl
  · obtain ⟨v, d, rfl, ht, hd, hv, q⟩ := h
    have nd := scVl.nd
    refine ⟨_, pss_cons (ps_par (i := 1) (j := 2) rfl nd rfl rfl (by decide) rfl rfl (pa_cons (pe_callB (call_reprD hr hgd) (by rfl) B.repr (by decide +kernel) (pa_cons (pv 0) pa_nil)) (pa_cons (pe_call GE hr (by rfl) DE.g DE.F.kp DE.b .nil pass0 (pa_cons (pv 0) pa_nil)) pa_nil)) (by rfl))
      (pss_cons (ps_if (pt_cmpR op_ne (pe_callB (call_reprD hr hgd) (by rfl) B.repr (by decide +kernel) (pa_cons (pe_lstS (pa_cons (pe_call GI hr (by rfl) DI.g DI.F.kp DI.b .nil pass0 (pa_cons (pv 0) pa_nil)) (pa_cons (pe_call GI hr (by rfl) DI.g DI.F.kp DI.b .nil pass0 (pa_cons (pv 0) pa_nil)) pa_nil))) pa_nil))
          (pe_callB (call_reprD hr hgd) (by rfl) B.repr (by decide +kernel) (pa_cons (pe_op op_repS (pe_lst (pa_cons (pe_call GV hr (by rfl) DV.g DV.F.kp DV.b .nil pass0 (pa_cons (pv 0) pa_nil)) pa_nil)) pe_int) pa_nil)) (nomark _)) (pss_one (ps_ret pe_bl)) pss_nil)
      (pss_cons (ps_if (PW.pt (pw_and (pt_cmpR op_isN (pv 2) pe_non (nomark _)) (pw_and1 (pt_cmpR op_ne (pe_lamR (T := TL P0 P1) (TT := TTout R U M) (k := k) (js := [0]) (N := ["value"]) (fr := ["value"]) (by rfl) DO.g DO.F.kp lkO hcO DO.b scOut rfl (.inl rfl) (out_gives B TR TU TT Z (fun _ => hgd)) TB rfl (List.mem_cons.mpr (.inl rfl)) one0 hr (NdefX.nscope_by (by decide +kernel)) (NdefX.ndef_free (sc := defScope sVl) (fr := ["value"]) (by decide +kernel)) (NdefX.ndef_fr (sc := defScope sVl) (by decide +kernel)) rfl rfl (fun _ _ _ _ _ => rfl)
            (fun A2 outer2 s2 H2 E2 f2 c2 hr2 => pe_callS GM hr2 (by rfl) DM.g DM.F.kp DM.b (fun σ => passAt (takes_of rfl rfl rfl rfl) σ) (pa_cons (pv 0) pa_nil))) pe_str (nomark _))))) (pss_one (ps_ret pe_bl)) pss_nil)
      (pss_cons (ps_if (PW.pt (pw_and (pt_cmpR op_notN (pv 2) pe_non (nomark _)) (pw_and (pt_cmpR op_gt (pe_callB (call_lenK (K := K) rfl) (by rfl) B.len PySem.boot_len (pa_cons (pv 2) pa_nil)) pe_int (nomark _)) (pw_and1 (pt_cmpR op_ne (pe_lamR (T := TL P0 P1) (TT := TTout R U M) (k := k) (js := [0]) (N := ["value"]) (fr := ["value"]) (by rfl) DO.g DO.F.kp lkO hcO DO.b scOut rfl (.inl rfl) (out_gives B TR TU TT Z (fun _ => hgd)) TB rfl (List.mem_cons.mpr (.inl rfl)) one0 hr (NdefX.nscope_by (by decide +kernel)) (NdefX.ndef_free (sc := defScope sVl) (fr := ["value"]) (by decide +kernel)) (NdefX.ndef_fr (sc := defScope sVl) (by decide +kernel)) rfl rfl (fun _ _ _ _ _ => rfl)
            (fun A2 outer2 s2 H2 E2 f2 c2 hr2 => pe_callS GM hr2 (by rfl) DM.g DM.F.kp DM.b (fun σ => passAt (takes_of rfl rfl rfl rfl) σ) (pa_cons (pv 0) pa_nil))) pe_str (nomark _)))))) (pss_one (ps_ret pe_bl)) pss_nil)
      (pss_cons (ps_if (PW.pt (pw_and (pt_cmpR op_notN (pv 2) pe_non (nomark _)) (pw_and (pt_cmpR op_le (pe_callB (call_lenK (K := K) rfl) (by rfl) B.len PySem.boot_len (pa_cons (pv 2) pa_nil)) pe_int (nomark _)) (pw_and1 (pt_cmpR op_ne (pe_callB (call_reprD hr hgd) (by rfl) B.repr (by decide +kernel) (pa_cons (pe_call GM2 hr (by rfl) DM.g DM.F.kp DM.b .nil passL (pa_cons (pv 0) pa_nil)) pa_nil))
          (pe_callB (call_reprD hr hgd) (by rfl) B.repr (by decide +kernel) (pa_cons (pv 2) pa_nil)) (nomark _)))))) (pss_one (ps_ret pe_bl)) pss_nil)
      (pss_cons (ps_if (pt_not (pt_val (pe_call GV hr (by rfl) DV.g DV.F.kp DV.b .nil pass0 (pa_cons (pv 0) pa_nil))))
        (pss_cons (ps_set (i := 3) nd rfl (.inl rfl) (pe_lst (pa_cons (pe_lamR (T := TL P0 P1) (TT := TTout R U M) (k := k) (js := [0]) (N := ["value"]) (fr := ["value"]) (by rfl) DO.g DO.F.kp lkO hcO DO.b scOut rfl (.inl rfl) (out_gives B TR TU TT Z (fun _ => hgd)) TB rfl (List.mem_cons.mpr (.inl rfl)) one0 hr (NdefX.nscope_by (by decide +kernel)) (NdefX.ndef_free (sc := defScope sVl) (fr := ["value"]) (by decide +kernel)) (NdefX.ndef_fr (sc := defScope sVl) (by decide +kernel)) rfl rfl (fun _ _ _ _ _ => rfl)
            (fun A2 outer2 s2 H2 E2 f2 c2 hr2 => pe_callS GW hr2 (by rfl) DW.g DW.F.kp DW.b (fun σ => passAt (takes_of rfl rfl rfl rfl) σ) (pa_cons (pv 0) pa_nil))) pa_nil)))
        (pss_cons (ps_expr (pe_bm PySem.F.plainAttrs_list PySem.F.slot_list_append PySem.F.type_list_append mt_append (pv 3) (pa_cons (pe_lamR (T := TL P0 P1) (TT := TTout R U M) (k := k) (js := [0]) (N := ["value"]) (fr := ["value"]) (by rfl) DO.g DO.F.kp lkO hcO DO.b scOut rfl (.inl rfl) (out_gives B TR TU TT Z (fun _ => hgd)) TB rfl (List.mem_cons.mpr (.inl rfl)) one0 hr (NdefX.nscope_by (by decide +kernel)) (NdefX.ndef_free (sc := defScope sVl) (fr := ["value"]) (by decide +kernel)) (NdefX.ndef_fr (sc := defScope sVl) (by decide +kernel)) rfl rfl (fun _ _ _ _ _ => rfl)
            (fun A2 outer2 s2 H2 E2 f2 c2 hr2 => pe_callS GN hr2 (by rfl) DN.g DN.F.kp DN.b (fun σ => passAt (takes_of rfl rfl rfl rfl) σ) (pa_cons (pv 0) pa_nil))) pa_nil)))
        (pss_cons (ps_expr (pe_bm PySem.F.plainAttrs_list PySem.F.slot_list_append PySem.F.type_list_append mt_append (pv 3) (pa_cons (pe_lamR (T := TL P0 P1) (TT := TTout R U M) (k := k) (js := [0]) (N := ["value"]) (fr := ["value"]) (by rfl) DO.g DO.F.kp lkO hcO DO.b scOut rfl (.inl rfl) (out_gives B TR TU TT Z (fun _ => hgd)) TB rfl (List.mem_cons.mpr (.inl rfl)) one0 hr (NdefX.nscope_by (by decide +kernel)) (NdefX.ndef_free (sc := defScope sVl) (fr := ["value"]) (by decide +kernel)) (NdefX.ndef_fr (sc := defScope sVl) (by decide +kernel)) rfl rfl (fun _ _ _ _ _ => rfl)
            (fun A2 outer2 s2 H2 E2 f2 c2 hr2 => pe_callS GF hr2 (by rfl) DF.g DF.F.kp DF.b (fun σ => passAt (takes_of rfl rfl rfl rfl) σ) (pa_cons (pv 0) (pa_cons pe_str pa_nil)))) pa_nil)))
        (pss_one (ps_if (pt_cmpR (op_neP hr.units) (pv 3) (pe_op op_rep (pe_lst (pa_cons pe_str pa_nil)) pe_int) (nomark _)) (pss_one (ps_ret pe_bl)) pss_nil))))) pss_nil)
      (pss_one (ps_ret (pe_cmpR op_eq (pe_callB (call_reprD hr hgd) (by rfl) B.repr (by decide +kernel) (pa_cons (pv 0) pa_nil)) (pv 1) (nomark _))))))))), ?_⟩
    obtain ⟨h1, h2, h3⟩ := hv.sh
    have sm := hv.sm
    have one : (1 : Nat) ≤ sizeLine := by decide
    obtain ⟨g1, g2, g3⟩ := two_bl (rowsetD d)
    refine ⟨v, rfl, v, d, rfl, hd, h1, h2, h3, v, rfl, v, d, rfl, hd, sm, hv.n, fun hx G1 s1 => ⟨_, _, rfl, ?_⟩, fun ss hx G1 p1 s1 hp => ⟨_, _, rfl, ?_⟩⟩
    · refine ⟨v, rfl, v, d, rfl, hd.up s1, sm, fun G2 s2 => ⟨v, rfl, v, d, rfl, (hd.up s1).up s2, sm, fun G3 s3 => ⟨by show 2 ≤ sizeLine; decide, fun p np zp => ?_⟩⟩⟩
      have s13 : Same H (upd G3 p (.lst [.bl (rowsetD d), .bl (rowsetD d)])) := ((s1.trans s2).trans s3).trans (same_new np)
      refine ⟨.ref p, _, rfl, .lst upd_same zp (.cons (.bl _) (.cons (.bl _) .nil)), g1, g2, g3, v, rfl, v, d, rfl, hd.up s13, sm, fun G4 s4 => ⟨one, fun p2 np2 => ⟨p2, 2, _, rfl, rfl, upd_same, by decide, by decide, by show 1 * 2 ≤ sizeLine; decide, fun p3 np3 zp3 => ?_⟩⟩⟩
      have s5 := ((s13.trans s4).trans (same_new (o := .lst [.bl (rowsetD d)]) np2)).trans (same_new (o := .lst (List.replicate (2 : Int).toNat [V.bl (rowsetD d)]).flatten) np3)
      refine ⟨.ref p3, _, rfl, .lst upd_same zp3 (.cons (.bl _) (.cons (.bl _) .nil)), g1, g2, g3, rfl, _, rfl, iteNS rfl ?_⟩
      have t5 := tabs_same s5 ht
      have u5 : Same G1 (upd (upd G4 p2 (.lst [.bl (rowsetD d)])) p3 (.lst (List.replicate (2 : Int).toNat [V.bl (rowsetD d)]).flatten)) := ((((s2.trans s3).trans (same_new np)).trans s4).trans (same_new np2)).trans (same_new np3)
      generalize upd (upd G4 p2 (.lst [.bl (rowsetD d)])) p3 (.lst (List.replicate (2 : Int).toNat [V.bl (rowsetD d)]).flatten) = G5 at s5 t5 u5 ⊢
      refine ⟨.non, rfl, rfl, _, rfl, iteT ⟨t5, fun H6 e6 t6 E6 Q6 hE6 _ => ⟨v, rfl, v, d, rfl, hd.ext ((ext_same s5).trans e6), sm, fun _ G7 s7 => hE6 _ _ _ (.inl ⟨rfl, rfl, ?_⟩), fun rs e hr => ⟨fun _ G7 s7 => hE6 _ _ _ (.inl ⟨rfl, rfl, ?_⟩), fun nd' _ => ?_, fun nd' _ => ?_⟩⟩⟩⟩
      · refine ⟨rfl, _, rfl, iteNS rfl ⟨.non, rfl, rfl, _, rfl, iteF (iteF ⟨.non, rfl, rfl, _, rfl, iteF (iteF ?_)⟩)⟩⟩
        have e7 := ((ext_same s5).trans e6).trans (ext_same s7)
        have t7 := tabs_same s7 t6
        refine ⟨v, rfl, v, d, rfl, hd.ext e7, sm, fun F1 f1 => ⟨_, rfl, ?_⟩⟩
        have eF1 := (e7).trans (ext_same f1)
        have tF1 := tabs_same f1 t7
        cases er : rowsetD d with
        | true =>
          refine iteF ⟨v, rfl, v, d, rfl, hd.ext eF1, h1, h2, h3, _, rfl, rfl, ?_⟩
          rw [decide_eq_true rfl]
          exact q F1 eF1 tF1
        | false =>
          have bad : ∀ rs : List Rec, d = .tuple (rs.map encR) → ¬ RsOk rs := fun rs e ok => by
            rw [e, rsok_true ok] at er
            cases er
          refine iteT ⟨tF1, fun I1 i1 u1 EI1 QI1 hI1 _ => ⟨v, rfl, v, d, rfl, hd.ext (eF1.trans i1), sm, fun _ J1 j1 => hI1 _ _ _ (.inl ⟨rfl, rfl, ⟨one, fun pf nf => ?_⟩⟩), fun rs e ok => absurd ok (bad rs e)⟩⟩
          have nb : ∀ b o, H b = some o → (∀ ps, o ≠ .tbl ps) → b ≠ pf := fun b o hb nt => ne_of_none (j1 _ _ ((eF1.trans i1) b o hb nt)) nf
          have e3 : LamX.ExtN H (upd J1 pf (.lst [.str "rowset"])) := (eF1.trans i1).trans (ext_same (j1.trans (same_new nf)))
          have t3 := tabs_same (j1.trans (same_new (o := .lst [.str "rowset"]) nf)) u1
          have ef : (upd J1 pf (.lst [.str "rowset"])) pf = some (.lst [.str "rowset"]) := upd_same
          generalize upd J1 pf (.lst [.str "rowset"]) = F2 at e3 t3 ef ⊢
          refine ⟨.ref pf, rfl, .inl ⟨rfl, _, .inl (.inl ef)⟩, ⟨t3, fun I2 i2 u2 EI2 QI2 hI2 _ => ⟨v, rfl, v, d, rfl, hd.ext (e3.trans i2), sm, fun _ J2 j2 => hI2 _ _ _ (.inl ⟨rfl, rfl, ?_⟩), fun rs e ok => absurd ok (bad rs e)⟩⟩⟩
          have ef3 : J2 pf = some (.lst [.str "rowset"]) := j2 _ _ (i2 _ _ ef fun ps z => by cases z)
          refine ⟨pf, [.str "rowset"], .str "rowset", rfl, rfl, ef3, by show 1 < sizeLine; decide, ?_⟩
          have e5 : LamX.ExtN H (upd J2 pf (.lst ([.str "rowset"] ++ [.str "rowset"]))) := fun b o hb nt => by
            rw [upd_ne (nb b o hb nt)]
            exact j2 _ _ (i2 _ _ (e3 _ _ hb nt) nt)
          have t5 := tabs_upd (ys := [.str "rowset"] ++ [.str "rowset"]) ef3 (tabs_same j2 u2)
          have ef5 : (upd J2 pf (.lst ([.str "rowset"] ++ [.str "rowset"]))) pf = some (.lst [.str "rowset", .str "rowset"]) := upd_same
          generalize upd J2 pf (.lst ([.str "rowset"] ++ [.str "rowset"])) = F3 at e5 t5 ef5 ⊢
          refine ⟨.ref pf, rfl, .inl ⟨rfl, _, .inl (.inl ef5)⟩, ⟨t5, fun I3 i3 u3 EI3 QI3 hI3 _ => ⟨v, rfl, v, .str "a", d, rfl, hd.ext (e5.trans i3), sm, ⟨_, .str _⟩, fun _ J3 j3 => hI3 _ _ _ (.inl ⟨rfl, rfl, ?_⟩), fun rs e ok => absurd ok (bad rs e)⟩⟩⟩
          have ef6 : J3 pf = some (.lst [.str "rowset", .str "rowset"]) := j3 _ _ (i3 _ _ ef5 fun ps z => by cases z)
          refine ⟨pf, [.str "rowset", .str "rowset"], .str "rowset", rfl, rfl, ef6, by show 2 < sizeLine; decide, ?_⟩
          have e7 : LamX.ExtN H (upd J3 pf (.lst ([.str "rowset", .str "rowset"] ++ [.str "rowset"]))) := fun b o hb nt => by
            rw [upd_ne (nb b o hb nt)]
            exact j3 _ _ (i3 _ _ (e5 _ _ hb nt) nt)
          have t7 := tabs_upd (ys := [.str "rowset", .str "rowset"] ++ [.str "rowset"]) ef6 (tabs_same j3 u3)
          have ef7 : (upd J3 pf (.lst ([.str "rowset", .str "rowset"] ++ [.str "rowset"]))) pf = some (.lst [.str "rowset", .str "rowset", .str "rowset"]) := upd_same
          generalize upd J3 pf (.lst ([.str "rowset", .str "rowset"] ++ [.str "rowset"])) = F4 at e7 t7 ef7 ⊢
          refine ⟨.ref pf, rfl, one, fun pi ni => ⟨pi, 3, _, rfl, rfl, upd_same, by decide, by decide, by show 1 * 3 ≤ sizeLine; decide, fun pj nj => ?_⟩⟩
          have w3 := same_new (o := .lst [.str "rowset"]) ni
          have w4 := same_new (o := .lst (List.replicate (3 : Int).toNat [V.str "rowset"]).flatten) nj
          have dep : (PyData.list [.str "rowset", .str "rowset", .str "rowset"]).depth ≤ 64 := by simp [PyData.depth, PyData.depthAll]
          refine ⟨.list [.str "rowset", .str "rowset", .str "rowset"], .list [.str "rowset", .str "rowset", .str "rowset"], .lst (.inl (.inl (w4 _ _ (w3 _ _ ef7)))) (.cons (.str _) (.cons (.str _) (.cons (.str _) .nil))),
            .lst (.inl (.inl upd_same)) (.cons (.str _) (.cons (.str _) (.cons (.str _) .nil))), rfl, rfl, Nat.le_trans (Nat.min_le_left _ _) dep, _, rfl, ?_⟩
          rw [eqv_threeR]
          have e8 := e7.trans (ext_same (w3.trans w4))
          have t8 := tabs_same (w3.trans w4) t7
          refine iteF ⟨v, rfl, v, d, rfl, hd.ext e8, h1, h2, h3, _, rfl, rfl, ?_⟩
          rw [decide_eq_true rfl]
          exact q _ e8 t8
      · refine ⟨rfl, _, rfl, iteNS rfl ⟨.non, rfl, rfl, _, rfl, iteF (iteF ⟨.non, rfl, rfl, _, rfl, iteF (iteF ?_)⟩)⟩⟩
        have e7 := ((ext_same s5).trans e6).trans (ext_same s7)
        have t7 := tabs_same s7 t6
        refine ⟨v, rfl, v, d, rfl, hd.ext e7, sm, fun F1 f1 => ⟨_, rfl, ?_⟩⟩
        have eF1 := (e7).trans (ext_same f1)
        have tF1 := tabs_same f1 t7
        cases er : rowsetD d with
        | true =>
          refine iteF ⟨v, rfl, v, d, rfl, hd.ext eF1, h1, h2, h3, _, rfl, rfl, ?_⟩
          rw [decide_eq_true rfl]
          exact q F1 eF1 tF1
        | false =>
          have bad : ∀ rs : List Rec, d = .tuple (rs.map encR) → ¬ RsOk rs := fun rs e ok => by
            rw [e, rsok_true ok] at er
            cases er
          refine iteT ⟨tF1, fun I1 i1 u1 EI1 QI1 hI1 _ => ⟨v, rfl, v, d, rfl, hd.ext (eF1.trans i1), sm, fun _ J1 j1 => hI1 _ _ _ (.inl ⟨rfl, rfl, ⟨one, fun pf nf => ?_⟩⟩), fun rs e ok => absurd ok (bad rs e)⟩⟩
          have nb : ∀ b o, H b = some o → (∀ ps, o ≠ .tbl ps) → b ≠ pf := fun b o hb nt => ne_of_none (j1 _ _ ((eF1.trans i1) b o hb nt)) nf
          have e3 : LamX.ExtN H (upd J1 pf (.lst [.str "rowset"])) := (eF1.trans i1).trans (ext_same (j1.trans (same_new nf)))
          have t3 := tabs_same (j1.trans (same_new (o := .lst [.str "rowset"]) nf)) u1
          have ef : (upd J1 pf (.lst [.str "rowset"])) pf = some (.lst [.str "rowset"]) := upd_same
          generalize upd J1 pf (.lst [.str "rowset"]) = F2 at e3 t3 ef ⊢
          refine ⟨.ref pf, rfl, .inl ⟨rfl, _, .inl (.inl ef)⟩, ⟨t3, fun I2 i2 u2 EI2 QI2 hI2 _ => ⟨v, rfl, v, d, rfl, hd.ext (e3.trans i2), sm, fun _ J2 j2 => hI2 _ _ _ (.inl ⟨rfl, rfl, ?_⟩), fun rs e ok => absurd ok (bad rs e)⟩⟩⟩
          have ef3 : J2 pf = some (.lst [.str "rowset"]) := j2 _ _ (i2 _ _ ef fun ps z => by cases z)
          refine ⟨pf, [.str "rowset"], .str "rowset", rfl, rfl, ef3, by show 1 < sizeLine; decide, ?_⟩
          have e5 : LamX.ExtN H (upd J2 pf (.lst ([.str "rowset"] ++ [.str "rowset"]))) := fun b o hb nt => by
            rw [upd_ne (nb b o hb nt)]
            exact j2 _ _ (i2 _ _ (e3 _ _ hb nt) nt)
          have t5 := tabs_upd (ys := [.str "rowset"] ++ [.str "rowset"]) ef3 (tabs_same j2 u2)
          have ef5 : (upd J2 pf (.lst ([.str "rowset"] ++ [.str "rowset"]))) pf = some (.lst [.str "rowset", .str "rowset"]) := upd_same
          generalize upd J2 pf (.lst ([.str "rowset"] ++ [.str "rowset"])) = F3 at e5 t5 ef5 ⊢
          refine ⟨.ref pf, rfl, .inl ⟨rfl, _, .inl (.inl ef5)⟩, ⟨t5, fun I3 i3 u3 EI3 QI3 hI3 _ => ⟨v, rfl, v, .str "a", d, rfl, hd.ext (e5.trans i3), sm, ⟨_, .str _⟩, fun _ J3 j3 => hI3 _ _ _ (.inl ⟨rfl, rfl, ?_⟩), fun rs e ok => absurd ok (bad rs e)⟩⟩⟩
          have ef6 : J3 pf = some (.lst [.str "rowset", .str "rowset"]) := j3 _ _ (i3 _ _ ef5 fun ps z => by cases z)
          refine ⟨pf, [.str "rowset", .str "rowset"], .str "rowset", rfl, rfl, ef6, by show 2 < sizeLine; decide, ?_⟩
          have e7 : LamX.ExtN H (upd J3 pf (.lst ([.str "rowset", .str "rowset"] ++ [.str "rowset"]))) := fun b o hb nt => by
            rw [upd_ne (nb b o hb nt)]
            exact j3 _ _ (i3 _ _ (e5 _ _ hb nt) nt)
          have t7 := tabs_upd (ys := [.str "rowset", .str "rowset"] ++ [.str "rowset"]) ef6 (tabs_same j3 u3)
          have ef7 : (upd J3 pf (.lst ([.str "rowset", .str "rowset"] ++ [.str "rowset"]))) pf = some (.lst [.str "rowset", .str "rowset", .str "rowset"]) := upd_same
          generalize upd J3 pf (.lst ([.str "rowset", .str "rowset"] ++ [.str "rowset"])) = F4 at e7 t7 ef7 ⊢
          refine ⟨.ref pf, rfl, one, fun pi ni => ⟨pi, 3, _, rfl, rfl, upd_same, by decide, by decide, by show 1 * 3 ≤ sizeLine; decide, fun pj nj => ?_⟩⟩
          have w3 := same_new (o := .lst [.str "rowset"]) ni
          have w4 := same_new (o := .lst (List.replicate (3 : Int).toNat [V.str "rowset"]).flatten) nj
          have dep : (PyData.list [.str "rowset", .str "rowset", .str "rowset"]).depth ≤ 64 := by simp [PyData.depth, PyData.depthAll]
          refine ⟨.list [.str "rowset", .str "rowset", .str "rowset"], .list [.str "rowset", .str "rowset", .str "rowset"], .lst (.inl (.inl (w4 _ _ (w3 _ _ ef7)))) (.cons (.str _) (.cons (.str _) (.cons (.str _) .nil))),
            .lst (.inl (.inl upd_same)) (.cons (.str _) (.cons (.str _) (.cons (.str _) .nil))), rfl, rfl, Nat.le_trans (Nat.min_le_left _ _) dep, _, rfl, ?_⟩
          rw [eqv_threeR]
          have e8 := e7.trans (ext_same (w3.trans w4))
          have t8 := tabs_same (w3.trans w4) t7
          refine iteF ⟨v, rfl, v, d, rfl, hd.ext e8, h1, h2, h3, _, rfl, rfl, ?_⟩
          rw [decide_eq_true rfl]
          exact q _ e8 t8
      · rw [exp_none hx hr e] at nd'
        cases nd'
      · rw [exp_none hx hr e] at nd'
        cases nd'
    · obtain ⟨hrows, hss⟩ := exp_some hx
      obtain ⟨rs, ers⟩ := rows_recs hrows
      obtain ⟨nodup, ess⟩ := hss rs ers
      have vs := vg_perm (ers ▸ hv) (sort_perm rs)
      rw [← ess] at vs
      obtain ⟨k1, k2, k3⟩ := vs.sh
      obtain ⟨a1, ys, ea1, e1, hy⟩ := dx_tup' hp
      cases ea1
      have ly := hy.len
      rw [List.length_map, ess, (sort_perm rs).length_eq] at ly
      refine ⟨v, rfl, v, d, rfl, hd.up s1, sm, fun G2 s2 => ⟨v, rfl, v, d, rfl, (hd.up s1).up s2, sm, fun G3 s3 => ⟨by show 2 ≤ sizeLine; decide, fun p np zp => ?_⟩⟩⟩
      have s13 : Same H (upd G3 p (.lst [.bl (rowsetD d), .bl (rowsetD d)])) := ((s1.trans s2).trans s3).trans (same_new np)
      refine ⟨.ref p, _, rfl, .lst upd_same zp (.cons (.bl _) (.cons (.bl _) .nil)), g1, g2, g3, v, rfl, v, d, rfl, hd.up s13, sm, fun G4 s4 => ⟨one, fun p2 np2 => ⟨p2, 2, _, rfl, rfl, upd_same, by decide, by decide, by show 1 * 2 ≤ sizeLine; decide, fun p3 np3 zp3 => ?_⟩⟩⟩
      have s5 := ((s13.trans s4).trans (same_new (o := .lst [.bl (rowsetD d)]) np2)).trans (same_new (o := .lst (List.replicate (2 : Int).toNat [V.bl (rowsetD d)]).flatten) np3)
      refine ⟨.ref p3, _, rfl, .lst upd_same zp3 (.cons (.bl _) (.cons (.bl _) .nil)), g1, g2, g3, rfl, _, rfl, iteNS rfl ?_⟩
      have t5 := tabs_same s5 ht
      have u5 : Same G1 (upd (upd G4 p2 (.lst [.bl (rowsetD d)])) p3 (.lst (List.replicate (2 : Int).toNat [V.bl (rowsetD d)]).flatten)) := ((((s2.trans s3).trans (same_new np)).trans s4).trans (same_new np2)).trans (same_new np3)
      generalize upd (upd G4 p2 (.lst [.bl (rowsetD d)])) p3 (.lst (List.replicate (2 : Int).toNat [V.bl (rowsetD d)]).flatten) = G5 at s5 t5 u5 ⊢
      have nn : decide (V.ref p1 = V.non) = false := decide_eq_false fun z => by cases z
      refine ⟨.ref p1, rfl, rfl, _, rfl, ?_⟩
      rw [nn]
      refine iteF (iteF ⟨.ref p1, rfl, rfl, _, rfl, ?_⟩)
      rw [nn]
      have l5 : LamX.ExtN G1 G5 := fun b o hb _ => u5 b o hb
      refine iteT ⟨.ref p1, rfl, p1, ys, rfl, .inr (.inl (.inl (u5 _ _ e1))), _, 60, rfl, rfl, _, rfl, ?_⟩
      by_cases h60 : (60 : Int) < ((ys.length : Nat) : Int)
      · rw [decide_eq_true h60]
        refine iteT ⟨t5, fun H6 e6 t6 E6 Q6 hE6 _ => ⟨v, rfl, v, d, rfl, hd.ext ((ext_same s5).trans e6), sm, fun z => ?_, fun rs2 e hr => ⟨fun z => ?_, fun _ _ G7 dd s7 edd => hE6 _ _ _ (.inr (.inr ⟨rfl, dd, rfl, edd, ?_⟩)), fun _ le => ?_⟩⟩⟩
        · rw [hrows] at z
          cases z
        · rw [(hss rs2 e).1] at z
          cases z
        · refine ⟨rfl, _, rfl, iteNS rfl ⟨.ref p1, rfl, rfl, _, rfl, ?_⟩⟩
          rw [nn]
          have ea7 : G7 p1 = some (.tup ys) := s7 _ _ (e6 _ _ (u5 _ _ e1) fun ps z => by cases z)
          refine iteT ⟨.ref p1, rfl, p1, ys, rfl, .inr (.inl (.inl ea7)), _, 60, rfl, rfl, _, rfl, ?_⟩
          rw [decide_eq_false (show ¬ ((ys.length : Nat) : Int) ≤ 60 by omega)]
          refine iteF (iteF ?_)
          have e7 := ((ext_same s5).trans e6).trans (ext_same s7)
          have t7 := tabs_same s7 t6
          refine ⟨v, rfl, v, d, rfl, hd.ext e7, sm, fun F1 f1 => ⟨_, rfl, ?_⟩⟩
          have eF1 := (e7).trans (ext_same f1)
          have tF1 := tabs_same f1 t7
          cases er : rowsetD d with
          | true =>
            refine iteF ⟨v, rfl, v, d, rfl, hd.ext eF1, h1, h2, h3, _, rfl, rfl, ?_⟩
            rw [decide_eq_true rfl]
            exact q F1 eF1 tF1
          | false =>
            have bad : ∀ rs : List Rec, d = .tuple (rs.map encR) → ¬ RsOk rs := fun rs e ok => by
              rw [e, rsok_true ok] at er
              cases er
            refine iteT ⟨tF1, fun I1 i1 u1 EI1 QI1 hI1 _ => ⟨v, rfl, v, d, rfl, hd.ext (eF1.trans i1), sm, fun _ J1 j1 => hI1 _ _ _ (.inl ⟨rfl, rfl, ⟨one, fun pf nf => ?_⟩⟩), fun rs e ok => absurd ok (bad rs e)⟩⟩
            have nb : ∀ b o, H b = some o → (∀ ps, o ≠ .tbl ps) → b ≠ pf := fun b o hb nt => ne_of_none (j1 _ _ ((eF1.trans i1) b o hb nt)) nf
            have e3 : LamX.ExtN H (upd J1 pf (.lst [.str "rowset"])) := (eF1.trans i1).trans (ext_same (j1.trans (same_new nf)))
            have t3 := tabs_same (j1.trans (same_new (o := .lst [.str "rowset"]) nf)) u1
            have ef : (upd J1 pf (.lst [.str "rowset"])) pf = some (.lst [.str "rowset"]) := upd_same
            generalize upd J1 pf (.lst [.str "rowset"]) = F2 at e3 t3 ef ⊢
            refine ⟨.ref pf, rfl, .inl ⟨rfl, _, .inl (.inl ef)⟩, ⟨t3, fun I2 i2 u2 EI2 QI2 hI2 _ => ⟨v, rfl, v, d, rfl, hd.ext (e3.trans i2), sm, fun _ J2 j2 => hI2 _ _ _ (.inl ⟨rfl, rfl, ?_⟩), fun rs e ok => absurd ok (bad rs e)⟩⟩⟩
            have ef3 : J2 pf = some (.lst [.str "rowset"]) := j2 _ _ (i2 _ _ ef fun ps z => by cases z)
            refine ⟨pf, [.str "rowset"], .str "rowset", rfl, rfl, ef3, by show 1 < sizeLine; decide, ?_⟩
            have e5 : LamX.ExtN H (upd J2 pf (.lst ([.str "rowset"] ++ [.str "rowset"]))) := fun b o hb nt => by
              rw [upd_ne (nb b o hb nt)]
              exact j2 _ _ (i2 _ _ (e3 _ _ hb nt) nt)
            have t5 := tabs_upd (ys := [.str "rowset"] ++ [.str "rowset"]) ef3 (tabs_same j2 u2)
            have ef5 : (upd J2 pf (.lst ([.str "rowset"] ++ [.str "rowset"]))) pf = some (.lst [.str "rowset", .str "rowset"]) := upd_same
            generalize upd J2 pf (.lst ([.str "rowset"] ++ [.str "rowset"])) = F3 at e5 t5 ef5 ⊢
            refine ⟨.ref pf, rfl, .inl ⟨rfl, _, .inl (.inl ef5)⟩, ⟨t5, fun I3 i3 u3 EI3 QI3 hI3 _ => ⟨v, rfl, v, .str "a", d, rfl, hd.ext (e5.trans i3), sm, ⟨_, .str _⟩, fun _ J3 j3 => hI3 _ _ _ (.inl ⟨rfl, rfl, ?_⟩), fun rs e ok => absurd ok (bad rs e)⟩⟩⟩
            have ef6 : J3 pf = some (.lst [.str "rowset", .str "rowset"]) := j3 _ _ (i3 _ _ ef5 fun ps z => by cases z)
            refine ⟨pf, [.str "rowset", .str "rowset"], .str "rowset", rfl, rfl, ef6, by show 2 < sizeLine; decide, ?_⟩
            have e7 : LamX.ExtN H (upd J3 pf (.lst ([.str "rowset", .str "rowset"] ++ [.str "rowset"]))) := fun b o hb nt => by
              rw [upd_ne (nb b o hb nt)]
              exact j3 _ _ (i3 _ _ (e5 _ _ hb nt) nt)
            have t7 := tabs_upd (ys := [.str "rowset", .str "rowset"] ++ [.str "rowset"]) ef6 (tabs_same j3 u3)
            have ef7 : (upd J3 pf (.lst ([.str "rowset", .str "rowset"] ++ [.str "rowset"]))) pf = some (.lst [.str "rowset", .str "rowset", .str "rowset"]) := upd_same
            generalize upd J3 pf (.lst ([.str "rowset", .str "rowset"] ++ [.str "rowset"])) = F4 at e7 t7 ef7 ⊢
            refine ⟨.ref pf, rfl, one, fun pi ni => ⟨pi, 3, _, rfl, rfl, upd_same, by decide, by decide, by show 1 * 3 ≤ sizeLine; decide, fun pj nj => ?_⟩⟩
            have w3 := same_new (o := .lst [.str "rowset"]) ni
            have w4 := same_new (o := .lst (List.replicate (3 : Int).toNat [V.str "rowset"]).flatten) nj
            have dep : (PyData.list [.str "rowset", .str "rowset", .str "rowset"]).depth ≤ 64 := by simp [PyData.depth, PyData.depthAll]
            refine ⟨.list [.str "rowset", .str "rowset", .str "rowset"], .list [.str "rowset", .str "rowset", .str "rowset"], .lst (.inl (.inl (w4 _ _ (w3 _ _ ef7)))) (.cons (.str _) (.cons (.str _) (.cons (.str _) .nil))),
              .lst (.inl (.inl upd_same)) (.cons (.str _) (.cons (.str _) (.cons (.str _) .nil))), rfl, rfl, Nat.le_trans (Nat.min_le_left _ _) dep, _, rfl, ?_⟩
            rw [eqv_threeR]
            have e8 := e7.trans (ext_same (w3.trans w4))
            have t8 := tabs_same (w3.trans w4) t7
            refine iteF ⟨v, rfl, v, d, rfl, hd.ext e8, h1, h2, h3, _, rfl, rfl, ?_⟩
            rw [decide_eq_true rfl]
            exact q _ e8 t8
        · have : rs2 = rs := by
            have := congrArg recsOf (e.symm.trans ers)
            rwa [recsOf_enc, recsOf_enc] at this
          subst this
          omega
      · rw [decide_eq_false h60]
        refine iteF (iteF ⟨.ref p1, rfl, rfl, _, rfl, ?_⟩)
        rw [nn]
        refine iteT ⟨.ref p1, rfl, p1, ys, rfl, .inr (.inl (.inl (u5 _ _ e1))), _, 60, rfl, rfl, _, rfl, ?_⟩
        rw [decide_eq_true (show ((ys.length : Nat) : Int) ≤ 60 by omega)]
        refine iteT ⟨v, rfl, v, d, rfl, hd.up s5, sm, fun z => ?_, fun rs2 e hr => ⟨fun z => ?_, fun _ gt => ?_, fun _ le G7 p7 s7 h7 => ?_⟩⟩
        · rw [hrows] at z
          cases z
        · rw [(hss rs2 e).1] at z
          cases z
        · have : rs2 = rs := by
            have := congrArg recsOf (e.symm.trans ers)
            rwa [recsOf_enc, recsOf_enc] at this
          subst this
          omega
        · rw [← (hss rs2 e).2] at h7
          refine ⟨.ref p7, _, rfl, h7, k1, k2, k3, .ref p1, rfl, .ref p1, _, rfl, hp.up (u5.trans s7), k1, k2, k3, rfl, _, rfl, ?_⟩
          have e7 := ext_same (s5.trans s7)
          have t7 := tabs_same s7 t5
          refine iteNS rfl ?_
          refine ⟨v, rfl, v, d, rfl, hd.ext e7, sm, fun F1 f1 => ⟨_, rfl, ?_⟩⟩
          have eF1 := (e7).trans (ext_same f1)
          have tF1 := tabs_same f1 t7
          cases er : rowsetD d with
          | true =>
            refine iteF ⟨v, rfl, v, d, rfl, hd.ext eF1, h1, h2, h3, _, rfl, rfl, ?_⟩
            rw [decide_eq_true rfl]
            exact q F1 eF1 tF1
          | false =>
            have bad : ∀ rs : List Rec, d = .tuple (rs.map encR) → ¬ RsOk rs := fun rs e ok => by
              rw [e, rsok_true ok] at er
              cases er
            refine iteT ⟨tF1, fun I1 i1 u1 EI1 QI1 hI1 _ => ⟨v, rfl, v, d, rfl, hd.ext (eF1.trans i1), sm, fun _ J1 j1 => hI1 _ _ _ (.inl ⟨rfl, rfl, ⟨one, fun pf nf => ?_⟩⟩), fun rs e ok => absurd ok (bad rs e)⟩⟩
            have nb : ∀ b o, H b = some o → (∀ ps, o ≠ .tbl ps) → b ≠ pf := fun b o hb nt => ne_of_none (j1 _ _ ((eF1.trans i1) b o hb nt)) nf
            have e3 : LamX.ExtN H (upd J1 pf (.lst [.str "rowset"])) := (eF1.trans i1).trans (ext_same (j1.trans (same_new nf)))
            have t3 := tabs_same (j1.trans (same_new (o := .lst [.str "rowset"]) nf)) u1
            have ef : (upd J1 pf (.lst [.str "rowset"])) pf = some (.lst [.str "rowset"]) := upd_same
            generalize upd J1 pf (.lst [.str "rowset"]) = F2 at e3 t3 ef ⊢
            refine ⟨.ref pf, rfl, .inl ⟨rfl, _, .inl (.inl ef)⟩, ⟨t3, fun I2 i2 u2 EI2 QI2 hI2 _ => ⟨v, rfl, v, d, rfl, hd.ext (e3.trans i2), sm, fun _ J2 j2 => hI2 _ _ _ (.inl ⟨rfl, rfl, ?_⟩), fun rs e ok => absurd ok (bad rs e)⟩⟩⟩
            have ef3 : J2 pf = some (.lst [.str "rowset"]) := j2 _ _ (i2 _ _ ef fun ps z => by cases z)
            refine ⟨pf, [.str "rowset"], .str "rowset", rfl, rfl, ef3, by show 1 < sizeLine; decide, ?_⟩
            have e5 : LamX.ExtN H (upd J2 pf (.lst ([.str "rowset"] ++ [.str "rowset"]))) := fun b o hb nt => by
              rw [upd_ne (nb b o hb nt)]
              exact j2 _ _ (i2 _ _ (e3 _ _ hb nt) nt)
            have t5 := tabs_upd (ys := [.str "rowset"] ++ [.str "rowset"]) ef3 (tabs_same j2 u2)
            have ef5 : (upd J2 pf (.lst ([.str "rowset"] ++ [.str "rowset"]))) pf = some (.lst [.str "rowset", .str "rowset"]) := upd_same
            generalize upd J2 pf (.lst ([.str "rowset"] ++ [.str "rowset"])) = F3 at e5 t5 ef5 ⊢
            refine ⟨.ref pf, rfl, .inl ⟨rfl, _, .inl (.inl ef5)⟩, ⟨t5, fun I3 i3 u3 EI3 QI3 hI3 _ => ⟨v, rfl, v, .str "a", d, rfl, hd.ext (e5.trans i3), sm, ⟨_, .str _⟩, fun _ J3 j3 => hI3 _ _ _ (.inl ⟨rfl, rfl, ?_⟩), fun rs e ok => absurd ok (bad rs e)⟩⟩⟩
            have ef6 : J3 pf = some (.lst [.str "rowset", .str "rowset"]) := j3 _ _ (i3 _ _ ef5 fun ps z => by cases z)
            refine ⟨pf, [.str "rowset", .str "rowset"], .str "rowset", rfl, rfl, ef6, by show 2 < sizeLine; decide, ?_⟩
            have e7 : LamX.ExtN H (upd J3 pf (.lst ([.str "rowset", .str "rowset"] ++ [.str "rowset"]))) := fun b o hb nt => by
              rw [upd_ne (nb b o hb nt)]
              exact j3 _ _ (i3 _ _ (e5 _ _ hb nt) nt)
            have t7 := tabs_upd (ys := [.str "rowset", .str "rowset"] ++ [.str "rowset"]) ef6 (tabs_same j3 u3)
            have ef7 : (upd J3 pf (.lst ([.str "rowset", .str "rowset"] ++ [.str "rowset"]))) pf = some (.lst [.str "rowset", .str "rowset", .str "rowset"]) := upd_same
            generalize upd J3 pf (.lst ([.str "rowset", .str "rowset"] ++ [.str "rowset"])) = F4 at e7 t7 ef7 ⊢
            refine ⟨.ref pf, rfl, one, fun pi ni => ⟨pi, 3, _, rfl, rfl, upd_same, by decide, by decide, by show 1 * 3 ≤ sizeLine; decide, fun pj nj => ?_⟩⟩
            have w3 := same_new (o := .lst [.str "rowset"]) ni
            have w4 := same_new (o := .lst (List.replicate (3 : Int).toNat [V.str "rowset"]).flatten) nj
            have dep : (PyData.list [.str "rowset", .str "rowset", .str "rowset"]).depth ≤ 64 := by simp [PyData.depth, PyData.depthAll]
            refine ⟨.list [.str "rowset", .str "rowset", .str "rowset"], .list [.str "rowset", .str "rowset", .str "rowset"], .lst (.inl (.inl (w4 _ _ (w3 _ _ ef7)))) (.cons (.str _) (.cons (.str _) (.cons (.str _) .nil))),
              .lst (.inl (.inl upd_same)) (.cons (.str _) (.cons (.str _) (.cons (.str _) .nil))), rfl, rfl, Nat.le_trans (Nat.min_le_left _ _) dep, _, rfl, ?_⟩
            rw [eqv_threeR]
            have e8 := e7.trans (ext_same (w3.trans w4))
            have t8 := tabs_same (w3.trans w4) t7
            refine iteF ⟨v, rfl, v, d, rfl, hd.ext e8, h1, h2, h3, _, rfl, rfl, ?_⟩
            rw [decide_eq_true rfl]
            exact q _ e8 t8
end
end U1

set_option maxRecDepth 100000
set_option maxHeartbeats 4000000
namespace U1
open PySem PySem.Spec PyProof.Rows L2 KX
/-! ### _law_rowset_right -/
/-- what is known of the rows of a rowset -/
structure RsG (wd : Nat) (rs : List Rec) : Prop where
  ok : RsOk rs
  vg : VG (.tuple (rs.map encR))
  wd : ∀ r ∈ rs, r.vals.length = wd
  nx : ∀ r ∈ rs, nmx r.nm.cps.toList = true ∧ r.nm.length ≤ 8 ∧ fine (10 ^ 40) (.str r.nm) = true
  nd : (rs.map (fun r : Rec => r.nm)).Nodup
theorem nms_sh {wd : Nat} {rs : List Rec} (h : RsG wd rs) : (PyData.tuple ((rs.map (fun r : Rec => r.nm)).map .str)).showable = true ∧ (PyData.tuple ((rs.map (fun r : Rec => r.nm)).map .str)).depth ≤ 100 ∧ (PyData.tuple ((rs.map (fun r : Rec => r.nm)).map .str)).shown.length ≤ sizeLine := by
  have hm : ∀ e ∈ (rs.map (fun r : Rec => r.nm)).map PyData.str, fine (10 ^ 40) e = true ∧ wt e ≤ 9 ∧ e.depth ≤ 0 := fun e he => by
    obtain ⟨m, hm, rfl⟩ := List.mem_map.mp he
    obtain ⟨r, hr, rfl⟩ := List.mem_map.mp hm
    obtain ⟨_, b, c⟩ := h.nx r hr
    exact ⟨c, by simp only [wt]; omega, by simp [PyData.depth]⟩
  have gr := wtAll_le fun e he => (hm e he).2.1
  have l60 := h.ok.le
  rw [List.length_map, List.length_map] at gr
  have v : VG (.tuple ((rs.map (fun r : Rec => r.nm)).map .str)) := by
    refine ⟨by simp only [fine]; exact fineAll_mem.mpr fun e he => (hm e he).1, by simp only [wt]; omega, ?_, fun ds z => ?_⟩
    · have := depthAll_le fun e he => (hm e he).2.2
      simp only [PyData.depth]
      omega
    · cases z
      rw [List.length_map, List.length_map]
      omega
  exact v.sh
theorem nmx_ne {s x : Str} (h : nmx s.cps.toList = true) (hx : nmx x.cps.toList = false) : s ≠ x := fun e => by rw [e, hx] at h; cases h
theorem amg_not {ns : List Str} {d : PyData} (hn : ∀ s ∈ ns, nmx s.cps.toList = true) (hd : ∀ x, d = .str x → nmx x.cps.toList = false) : amg ns d = false := by
  unfold amg
  rw [List.any_eq_false]
  intro s hs
  cases d with
  | str x =>
    have := nmx_ne (hn s hs) (hd x rfl)
    simp [isSt, this.symm]
    try exact this
  | _ => simp [isSt]
mutual
def noL : PyData → Bool
  | .none => true
  | .bool _ => true
  | .int _ => true
  | .str _ => true
  | .tuple ds => noLs ds
  | _ => false
def noLs : List PyData → Bool
  | [] => true
  | d :: ds => noL d && noLs ds
end
mutual
theorem dx_noL {l : Addr} {H : Hp} {zs : List V} (e : H l = some (.lst zs)) : ∀ (d : PyData) (v : V), noL d = true → Dx H v d → Dx (hid l H) v d
  | .none, _, _, h => by cases h; exact .non
  | .bool b, _, _, h => by cases h; exact .bl b
  | .int i, _, _, h => by cases h; exact .int i
  | .str x, _, _, h => by cases h; exact .str x
  | .list ds, _, n, _ => by simp [noL] at n
  | .dict ks, _, n, _ => by simp [noL] at n
  | .tuple ds, _, n, h => by
    cases h with
    | @tup a xs _ ea h =>
      have na : a ≠ l := fun z => by rw [z, e] at ea; cases ea
      exact .tup (by rw [hid_at na]; exact ea) (dxs_noL e ds xs (by simpa [noL] using n) h)
theorem dxs_noL {l : Addr} {H : Hp} {zs : List V} (e : H l = some (.lst zs)) : ∀ (ds : List PyData) (vs : List V), noLs ds = true → Dxs H vs ds → Dxs (hid l H) vs ds
  | [], _, _, h => by cases h; exact .nil
  | d :: ds, _, n, h => by
    simp only [noLs, Bool.and_eq_true] at n
    cases h with
    | cons h t => exact .cons (dx_noL e d _ n.1 h) (dxs_noL e ds _ n.2 t)
end
theorem noL_ints : ∀ ns : List Int, noLs (ns.map PyData.int) = true
  | [] => by simp [noLs]
  | n :: ns => by simp [noLs, noL, noL_ints ns]
theorem noL_rec (r : Rec) : noL (encR r) = true := by simp [noL, noLs, encR, noL_ints]
theorem noL_recs : ∀ rs : List Rec, noLs (rs.map encR) = true
  | [] => by simp [noLs]
  | r :: rs => by simp [noLs, noL_rec, noL_recs rs]
theorem recs_hid {l : Addr} {H : Hp} {v : V} {rs : List Rec} (st : StO H l) (h : Dx H v (.tuple (rs.map encR))) : Dx (hid l H) v (.tuple (rs.map encR)) := by
  obtain ⟨x, y, z, e⟩ := st
  exact dx_noL e _ _ (by simp only [noL]; exact noL_recs rs) h
theorem ext_hid {l : Addr} {H H' : Hp} (e : LamX.ExtN H H') : LamX.ExtN (hid l H) (hid l H') := fun b o hb nt => by
  obtain ⟨n, hb⟩ := hid_some hb
  rw [hid_at n]
  exact e _ _ hb nt
theorem keep_ext {l : Addr} {H H' : Hp} (k : Keep l H H') : LamX.ExtN (hid l H) (hid l H') := ext_same k.same
theorem tabs_keep {l : Addr} {T : List (Addr × Str)} {H H' : Hp} (k : Keep l H H') (st : StO H l) (t : LamX.Tabs T H) : LamX.Tabs T H' := fun p hp => by
  obtain ⟨x, y, z, e⟩ := st
  obtain ⟨ps, h1, h2, h3⟩ := t p hp
  refine ⟨ps, k _ _ (fun q => by rw [q, e] at h1; cases h1) h1, h2, fun pos cv hc => ?_⟩
  obtain ⟨c, e1, e2⟩ := h3 pos cv hc
  exact ⟨c, e1, k _ _ (fun q => by rw [q, e] at e2; unfold LamX.CodeO at e2; cases e2) e2⟩
theorem sto_ext {l : Addr} {H H' : Hp} (e : LamX.ExtN H H') (st : StO H l) : StO H' l := by
  obtain ⟨x, y, z, h⟩ := st
  exact ⟨x, y, z, e _ _ h fun ps q => by cases q⟩
theorem dps_recs {K : PySem.W.Frag} {H : Hp} : ∀ (rs : List Rec) {ys : List V}, Dxs H ys (rs.map encR) → DpAll K H ys (rs.map encR)
  | [], _, h => by cases h; exact .nil
  | r :: rs, _, h => by
    cases h with
    | cons h t => exact .cons (dp_dx _ _ (plain_rec r) h) (dps_recs rs t)
theorem dxs_strs {H : Hp} : ∀ ns : List Str, Dxs H (ns.map V.str) (ns.map PyData.str)
  | [] => .nil
  | n :: ns => .cons (.str n) (dxs_strs ns)
/-- a value that names no row -/
structure NoN (d : PyData) : Prop where
  b : ∀ x, d = .str x → nmx x.cps.toList = false
  s : d.showable = true
  p : d.depth ≤ 100
  n : d.shown.length + 5 ≤ sizeLine
def noB (d : PyData) : Bool := (match d with | .str x => !nmx x.cps.toList | _ => true) && d.showable && decide (d.depth ≤ 100) && decide (d.shown.length ≤ 1000)
theorem non_of {d : PyData} (h : noB d = true) : NoN d := by
  have line : (5000 : Nat) ≤ sizeLine := by decide
  unfold noB at h
  simp only [Bool.and_eq_true, decide_eq_true_eq] at h
  obtain ⟨⟨⟨h1, h2⟩, h3⟩, h4⟩ := h
  refine ⟨fun x z => ?_, h2, h3, by omega⟩
  subst z
  simpa using h1
def spRr (P0 P1 : Addr) : Sp := fun vs H Q _ => ∃ (l : Addr) (v : V) (rs : List Rec) (wd : Nat), vs = [.ref l, v, .int (wd : Int)] ∧ StO H l ∧ LamX.Tabs (TL P0 P1) H ∧ Dx (hid l H) v (.tuple (rs.map encR)) ∧ RsG wd rs ∧
  ∀ H', LamX.ExtN (hid l H) (hid l H') → StO H' l → LamX.Tabs (TL P0 P1) H' → Q (.bl true) H'
abbrev NQ : List Str := ["stream", "rows", "wide", "names", "none", "row", "name"]
theorem scRr : FnScope NQ ["stream", "rows", "wide"] (defScope sRr) := ⟨rfl, rfl, rfl, by decide +kernel, rfl, by decide +kernel, by decide +kernel⟩
section
variable {P : Program} {w : World} {K : PySem.W.Frag} {mg : Str → Option Value} {base : Heap} {R S U M RW fU fM : Addr} {gU gM : FuncData}
theorem ok_rr {k : Nat} {f c0 P0 P1 fO fD fW fN fF : Addr} {fdD fdW fdN fdF : FuncData} {oc kV doc pm ct ocO kVO docO pmO cdO ctO : Value} {od an odO anO : Option Addr} {osl oslO : Array (Option Value)} (B : Bl mg) (TR : OC K mg "InvalidRowset" R) (TU : UN K mg U fU gU) (TT : TM K mg M fM gM) (Z : XS K mg S R U M RW)
    (lk : K.lookup f = some ⟨oc, od, .func (PySem.W.fnOf "_law_rowset_right" "_law_rowset_right" (defArgs sRr) (defBody sRr) (defScope sRr) .none kV doc pm an (.ref c0) ct), osl⟩) (hcd : PySem.W.codeIn K (.ref c0) "_law_rowset_right" = true) (TB : LamX.TabB base mg c0 P1) (hne : P0 ≠ P1)
    (DO : Df K mg "_law_outcome" sOut ["call"] fO (PySem.W.fnOf "_law_outcome" "_law_outcome" (defArgs sOut) (defBody sOut) (defScope sOut) .none kVO docO pmO anO cdO ctO))
    (lkO : K.lookup fO = some ⟨ocO, odO, .func (PySem.W.fnOf "_law_outcome" "_law_outcome" (defArgs sOut) (defBody sOut) (defScope sOut) .none kVO docO pmO anO cdO ctO), oslO⟩) (hcO : PySem.W.codeIn K cdO "_law_outcome" = true)
    (DD : Df K mg "_law_draw" sDraw ["stream", "total"] fD fdD) (DW : Df K mg "rowset_width" sRW ["rowset"] fW fdW) (DN : Df K mg "row_names" sRNm ["rowset"] fN fdN) (DF : Df K mg "find_row" sFR ["rowset", "name"] fF fdF)
    (GDr : FnOk P w K mg base CX0 (k + 2) fD fdD ["stream", "total"] spDraw)
    (GW : FnOk P w K mg base (L2.CX P w) k fW fdW ["rowset"] (spOf R fun rs x _ => x = .int (widthI rs))) (GN : FnOk P w K mg base (L2.CX P w) k fN fdN ["rowset"] (spOf R fun rs x G => Dx G x (.tuple ((rs.map (·.nm)).map .str)))) (GF : FnOk P w K mg base (L2.CX P w) k fF fdF ["rowset", "name"] (spFR R U)) :
    FnG P w K mg base CX0 (k + 3) f (PySem.W.fnOf "_law_rowset_right" "_law_rowset_right" (defArgs sRr) (defBody sRr) (defScope sRr) .none kV doc pm an (.ref c0) ct) ["stream", "rows", "wide"] (spRr P0 P1) := by
  have one1 : ∀ p ∈ TL P0 P1, p.1 = P1 → p.2 = lamW := fun p hp e => by
    rcases List.mem_cons.mp hp with h | h
    · cases h
      exact absurd e hne
    · cases List.mem_singleton.mp h
      rfl
  have GW2 : FnOk P w K mg base (L2.CX P w) (k + 2) fW fdW ["rowset"] (spOf R fun rs x _ => x = .int (widthI rs)) := GW.mono (by omega)
  have GN2 : FnOk P w K mg base (L2.CX P w) (k + 2) fN fdN ["rowset"] (spOf R fun rs x G => Dx G x (.tuple ((rs.map (·.nm)).map .str))) := GN.mono (by omega)
  have GF2 : FnOk P w K mg base (L2.CX P w) (k + 2) fF fdF ["rowset", "name"] (spFR R U) := GF.mono (by omega)
  refine okGc lk hcd scRr (fun vs H Q E h => ?_) (fun A outer s H vs Q E hgd hr h => ?_)
  · obtain ⟨l, v, rs, wd, rfl, _⟩ := h
    rfl
  · obtain ⟨l, v, rs, wd, rfl, st, ht, hd, G0, q⟩ := h
    have nd := scRr.nd
    refine ⟨_, pss_cons (ps_setLc (i := 3) (own := [("row", 5)]) (g := gName 5) (by rfl) nd rfl rfl (sw_true rfl rfl rfl (by decide +kernel)) (pi_tup (pv 1)) (blkOk_by (N := NQ) (sc := defScope sRr) (by decide +kernel)) (fun _ _ _ _ _ => pg_name (i := 5) nd rfl (Or.inl rfl))
          (fun _ _ _ _ _ => pts_nil) (fun _ _ _ _ _ => pe_ix (r := rIxT K) ix_tup (pv 5) pe_int (fun _ _ => rfl)))
      (pss_cons (ps_if (PW.pt (pw_or (pt_cmpR op_ne (pe_callB (call_reprD hr hgd) (by rfl) B.repr (by decide +kernel) (pa_cons (pe_call GN2 hr (by rfl) DN.g DN.F.kp DN.b .nil passL (pa_cons (pv 1) pa_nil)) pa_nil))
            (pe_callB (call_reprD hr hgd) (by rfl) B.repr (by decide +kernel) (pa_cons (pe_callTy call_tuple_of (by rfl) B.tuple (by decide +kernel) (pa_cons (pv 3) pa_nil)) pa_nil)) (nomark _))
          (pw_or1 (pt_cmpR op_ne (pe_call GW2 hr (by rfl) DW.g DW.F.kp DW.b .nil passL (pa_cons (pv 1) pa_nil)) (pe_ifExp (pt_cmpR (op_ne0 hr.units0) (pv 1) (pe_tup pa_nil) (nomark _)) (pv 2) pe_int) (nomark _))))) (pss_one (ps_ret pe_bl)) pss_nil)
      (pss_cons (ps_if (pt_cmpR (op_neP hr.units) (pe_lc (own := [("name", 6)]) (g := gName 6) rfl nd (pi_list (pv 3)) (blkOk_by (N := NQ) (sc := defScope sRr) (by decide +kernel)) (fun _ _ _ _ _ => pg_name (i := 6) nd rfl (Or.inl rfl)) (fun _ _ _ _ _ => pts_nil)
            (fun _ _ _ _ _ => pe_call GF2 hr (by rfl) DF.g DF.F.kp DF.b .nil passL (pa_cons (pv 1) (pa_cons (pv 6) pa_nil)))) (pe_callTy call_lst2 (by rfl) B.list (by decide +kernel) (pa_cons (pv 1) pa_nil)) (nomark _)) (pss_one (ps_ret pe_bl)) pss_nil)
      (pss_cons (ps_set (i := 4) nd rfl (.inr rfl) (pe_ix ix_list (pe_lst (pa_cons pe_non (pa_cons pe_str (pa_cons pe_str (pa_cons pe_int (pa_cons pe_bl (pa_cons (pe_tup pa_nil) (pa_cons (pe_lstS pa_nil) (pa_cons pe_dnewK (pa_cons (pe_tup (pa_cons pe_str pa_nil)) (pa_cons (pe_op op_pow pe_int pe_int) (pa_cons pe_str pa_nil))))))))))))
          (pe_call GDr hr (by rfl) DD.g DD.F.kp DD.b .nil pass0 (pa_cons (pv 0) (pa_cons pe_int pa_nil))) (fun _ _ => rfl)))
      (pss_one (ps_ret (pe_cmpR op_eq (pe_lamR (T := TL P0 P1) (TT := TTout R U M) (k := k) (js := [1, 4]) (N := ["rows", "none"]) (fr := ["rows", "none"]) (by rfl) DO.g DO.F.kp lkO hcO DO.b scOut rfl (.inl rfl) (out_gives B TR TU TT Z (fun _ => hgd)) TB rfl (List.mem_cons.mpr (.inr (List.mem_singleton.mpr rfl))) one1 hr (NdefX.nscope_by (by decide +kernel)) (NdefX.ndef_free (sc := defScope sRr) (fr := ["rows", "none"]) (by decide +kernel)) (NdefX.ndef_fr (sc := defScope sRr) (by decide +kernel)) rfl rfl (fun _ _ _ _ _ => rfl)
            (fun A2 outer2 s2 H2 E2 f2 c2 hr2 => pe_callS GF hr2 (by rfl) DF.g DF.F.kp DF.b (fun σ => passAt (takes_of rfl rfl rfl rfl) σ) (pa_cons (pv 0) (pa_cons (pv 1) pa_nil))))
          (pe_op op_add_str pe_str (pe_callB (call_reprD hr hgd) (by rfl) B.repr (by decide +kernel) (pa_cons (pv 4) pa_nil))) (nomark _))))))), ?_⟩
    obtain ⟨a, xs, rfl, na, eaH, hx⟩ := dx_tupOf hd
    have hx0 : Dxs H xs (rs.map encR) := hx.up (hid_same l H)
    have hd0 : Dx H (.ref a) (.tuple (rs.map encR)) := .tup eaH hx0
    have lx := hx.len
    rw [List.length_map] at lx
    have l60 := G0.ok.le
    have sm := G0.vg.sm
    have tru := rsok_true G0.ok
    have no : rowsetD (.tuple (rs.map encR)) = false → False := fun z => by
      rw [tru] at z
      cases z
    have same_rs : ∀ {rs2 : List Rec}, PyData.tuple (rs.map encR) = .tuple (rs2.map encR) → rs2 = rs := fun {rs2} e => by
      have := congrArg recsOf e
      rw [recsOf_enc, recsOf_enc] at this
      exact this.symm
    obtain ⟨m1, m2, m3⟩ := nms_sh G0
    have line : (1000 : Nat) < sizeLine := by decide
    refine ⟨.ref a, rfl, a, rfl, ⟨_, .inl (.inl eaH)⟩, fun DN nDN => ?_⟩
    refine lc_strs (xs := xs) (·.nm) nDN eaH hx0 (by omega) (fun r x G _ sG hxG Pt Pf k => ?_) (fun G1 s1 eDN => ?_)
    · obtain ⟨b, z, zs, rfl, eb, _⟩ := row_dx hxG
      exact ⟨rfl, .ref b, rfl, b, _, 0, .str r.nm, rfl, rfl, .inl (.inl eb), rfl, k⟩
    refine gn_to (σ' := ([some (.ref l), some (.ref a), some (.int (wd : Int)), some (.ref DN), none, none, none] : L2.St)) rfl ?_
    dsimp only
    refine ⟨.ref a, rfl, .ref a, _, rfl, hd0.up s1, sm, fun z => (no z).elim, fun rs2 e ok2 G2 x s2 hx2 => ?_⟩
    cases same_rs e
    have eDN2 := s2 _ _ eDN
    refine ⟨x, _, rfl, hx2, m1, m2, m3, .ref DN, rfl, DN, _, rfl, .inl ⟨.inl (.inl eDN2), fun p np => ⟨.ref p, _, rfl, .tup upd_same (dxs_strs _), m1, m2, m3, rfl, _, rfl, iteNS rfl ?_⟩⟩⟩
    have s3 : Same H (upd G2 p (.tup ((rs.map (fun r : Rec => r.nm)).map V.str))) := (s1.trans s2).trans (same_new np)
    have eDN3 : (upd G2 p (.tup ((rs.map (fun r : Rec => r.nm)).map V.str))) DN = some (.lst ((rs.map (fun r : Rec => r.nm)).map V.str)) := same_new np _ _ eDN2
    generalize upd G2 p (.tup ((rs.map (fun r : Rec => r.nm)).map V.str)) = G3 at s3 eDN3 ⊢
    refine ⟨.ref a, rfl, .ref a, _, rfl, hd0.up s3, sm, fun z => (no z).elim, fun rs2 e ok2 G4 x s4 hx4 => ?_⟩
    cases same_rs e
    subst hx4
    have s34 := s3.trans s4
    refine ⟨.ref a, rfl, Nat.zero_le _, fun p0 n0 => ⟨a, p0, xs, rfl, rfl, .inl (.inl (same_new n0 _ _ (s34 _ _ eaH))), .inl (.inl upd_same), _, rfl, ?_⟩⟩
    have s5 := s34.trans (same_new (o := .tup []) n0)
    have eDN5 := same_new (o := .tup []) n0 _ _ (s4 _ _ eDN3)
    generalize upd G4 p0 (.tup []) = G5 at s5 eDN5 ⊢
    have key : ∀ Kq : VK, Kq (.int (widthI rs)) G5 → (if (!xs.isEmpty) = true then tVar 2 ([some (.ref l), some (.ref a), some (.int (wd : Int)), some (.ref DN), none, none, none] : L2.St) G5 Kq else tC (.int 4) ([some (.ref l), some (.ref a), some (.int (wd : Int)), some (.ref DN), none, none, none] : L2.St) G5 Kq) := fun Kq hk => by
      cases rs with
      | nil =>
        cases hx
        exact iteF hk
      | cons r rs =>
        cases hx with
        | cons _ _ =>
          refine iteT ⟨_, rfl, ?_⟩
          have e : widthI (r :: rs) = (wd : Int) := by
            show (r.vals.length : Int) = wd
            rw [G0.wd r (by simp)]
          rw [e] at hk
          exact hk
    refine key _ ⟨rfl, _, rfl, iteNS rfl ?_⟩
    refine ⟨.ref DN, rfl, DN, rfl, ⟨_, .inl (.inl eDN5)⟩, fun L nL => ?_⟩
    refine lc_list (xs := (rs.map (fun r : Rec => r.nm)).map V.str) (fun i G => Same G5 G ∧ ∃ ys, G L = some (.lst ys) ∧ Dxs (hid L G) ys ((rs.take i).map encR)) ⟨same_new nL, [], upd_same, .nil⟩ (fun i G _ hG => .inl (.inl (hG.1 _ _ eDN5))) (fun i x G hxi hG => ?_) (fun G hG => ?_)
    · obtain ⟨sG, ys, eL, hy⟩ := hG
      rw [List.getElem?_map, List.getElem?_map, Option.map_map] at hxi
      obtain ⟨r, er, rfl⟩ := Option.map_eq_some_iff.mp hxi
      have ii := (List.getElem?_eq_some_iff.mp er).1
      have ly : ys.length ≤ i := by
        rw [hy.len, List.length_map, List.length_take]
        omega
      refine ⟨rfl, .ref a, rfl, .str r.nm, rfl, .ref a, .str r.nm, _, rfl, hd0.up (s5.trans sG), sm, ⟨_, .str _⟩, fun z => (no z).elim, fun rs2 e ok2 => ?_⟩
      cases same_rs e
      refine .inr ⟨i, r, er, rfl, fun j e lt ej z => ?_, fun G6 y s6 hy6 => ⟨ys, s6 _ _ eL, by omega, same_at (sG.trans s6) nL, ys ++ [y], upd_same, ?_⟩⟩
      · have nd2 := List.nodup_iff_pairwise_ne.mp G0.nd
        rw [List.pairwise_iff_getElem] at nd2
        have hj := (List.getElem?_eq_some_iff.mp ej).1
        have z1 := nd2 j i (by rw [List.length_map]; omega) (by rw [List.length_map]; omega) lt
        rw [List.getElem_map, List.getElem_map] at z1
        obtain ⟨_, e1⟩ := List.getElem?_eq_some_iff.mp ej
        obtain ⟨_, e2⟩ := List.getElem?_eq_some_iff.mp er
        rw [e1, e2] at z1
        exact z1 z
      · have hid6 : Same (hid L G) (hid L (upd G6 L (.lst (ys ++ [y])))) := fun b o e => by
          obtain ⟨nb, e⟩ := hid_some e
          rw [hid_at nb, upd_ne nb]
          exact s6 _ _ e
        have hid7 : Same (hid L G6) (hid L (upd G6 L (.lst (ys ++ [y])))) := fun b o e => by
          obtain ⟨nb, e⟩ := hid_some e
          rw [hid_at nb, upd_ne nb]
          exact e
        rw [List.take_add_one, er, List.map_append]
        exact (hy.up hid6).app (.cons ((dx_noL (s6 _ _ eL) _ _ (noL_rec r) hy6).up hid7) .nil)
    obtain ⟨sG, ys, eL, hy⟩ := hG
    rw [List.take_of_length_le (by rw [List.length_map, List.length_map]; exact Nat.le_refl _)] at hy
    refine ⟨.ref a, rfl, a, xs, rfl, .inr (.inl (.inl ((s5.trans sG) _ _ eaH))), fun p6 n6 _ => ?_⟩
    have w6 := same_new (o := .lst xs) n6
    have dep : (PyData.list (rs.map encR)).depth ≤ 64 := by
      have := deep_rows rs
      simp only [PyData.depth]
      omega
    refine ⟨.list (rs.map encR), .list (rs.map encR), .lst (.inl (.inl (w6 _ _ eL))) (dps_recs rs ((hy.up (hid_same L G)).up w6)), .lst (.inl (.inl upd_same)) (dps_recs rs ((hx0.up (s5.trans sG)).up w6)), by simp only [PyData.plain]; exact plain_rows rs, by simp only [PyData.plain]; exact plain_rows rs, Nat.le_trans (Nat.min_le_left _ _) dep, _, rfl, ?_⟩
    have eqv1 : PyData.eqv (.list (rs.map encR)) (.list (rs.map encR)) = true := by simpa [PyData.eqv] using eqv_rows rs
    rw [eqv1]
    refine iteF ?_
    have s7 : Same H (upd G p6 (.lst xs)) := (s5.trans sG).trans w6
    clear hy
    generalize upd G p6 (.lst xs) = G7 at s7 ⊢
    have st7 := st.same s7
    have con : ∀ {w0 : V} {d : PyData}, (∀ H, Dx H w0 d) → noB d = true → GD l (KX.Env l ([some (.ref l), some (.ref a), some (.int (wd : Int)), some (.ref DN), none, none, none] : L2.St) [] []) NoN (tC w0) := fun {w0 d} h g => (gd_c h).imp fun _ e => by subst e; exact non_of g
    refine al_ix (S := NoN) (P := KX.Env l ([some (.ref l), some (.ref a), some (.int (wd : Int)), some (.ref DN), none, none, none] : L2.St) [] []) (n := 11) (m := 11) kp_env (al_lst (al_cons kp_env (con (d := .none) (fun H => .non) (by decide +kernel))
      (al_cons kp_env (con (d := .str "zzzz") (fun H => .str _) (by decide +kernel)) (al_cons kp_env (con (d := .str "") (fun H => .str _) (by decide +kernel)) (al_cons kp_env (con (d := .int 0) (fun H => .int _) (by decide +kernel)) (al_cons kp_env (con (d := .bool true) (fun H => .bl _) (by decide +kernel))
      (al_cons kp_env ((gd_tup gds_nil fun ds e => by subst e; exact Nat.zero_le _).imp fun d e => by
        obtain ⟨ds, rfl, rfl⟩ := e
        exact non_of (by decide +kernel))
      (al_cons kp_env ((gd_lst gds_nil fun ds e => by subst e; exact Nat.zero_le _).imp fun d e => by
        obtain ⟨ds, rfl, rfl⟩ := e
        exact non_of (by decide +kernel))
      (al_cons kp_env (gd_dict.imp fun d e => by subst e; exact non_of (by decide +kernel))
      (al_cons kp_env ((gd_oneC kp_env (gd_c (v := .str "a") (d := .str "a") fun H => .str _)).imp fun d e => by
        obtain ⟨x, rfl, rfl⟩ := e
        exact non_of (by decide +kernel))
      (al_cons kp_env ((gd_int (gi_val (n := 10 ^ (30 : Int).toNat) fun σ H Q q => ⟨10, 30, rfl, rfl, ⟨by decide, by decide, by decide⟩, q⟩)).imp fun d e => by
        obtain ⟨x, rfl, rfl⟩ := e
        exact non_of (by decide +kernel))
      (al_cons kp_env (con (d := .str "A") (fun H => .str _) (by decide +kernel)) al_nil))))))))))) (by decide))
      (gi_drawS (n := 11) 0 rfl (gi_val fun σ H Q q => q) (by decide) (by decide)) rfl _ _ _ st7 ⟨rfl, alld_nil, allm_nil⟩ fun G8 vn dn gn k8 st8 hn => ?_
    refine gn_to (σ' := ([some (.ref l), some (.ref a), some (.int (wd : Int)), some (.ref DN), some vn, none, none] : L2.St)) rfl ?_
    dsimp only
    have t8 := tabs_keep k8 st7 (tabs_same s7 ht)
    have d8 : Dx (hid l G8) (.ref a) (.tuple (rs.map encR)) := (hd.up (Keep.of s7).same).up k8.same
    have e08 : LamX.ExtN (hid l H) (hid l G8) := (keep_ext (Keep.of s7)).trans (keep_ext k8)
    have hn0 : Dx G8 vn dn := hn.up (hid_same l G8)
    have d80 : Dx G8 (.ref a) (.tuple (rs.map encR)) := d8.up (hid_same l G8)
    have nxs : ∀ s ∈ rs.map (fun r : Rec => r.nm), nmx s.cps.toList = true := fun s hs => by
      obtain ⟨r, hr, rfl⟩ := List.mem_map.mp hs
      exact (G0.nx r hr).1
    refine ⟨t8, fun H9 e9 t9 E9 Q9 hE9 _ => ⟨.ref a, rfl, vn, rfl, .ref a, vn, _, rfl, d80.ext e9, sm, ⟨dn, hn0.ext e9⟩, fun z => (no z).elim, fun rs2 e ok2 => ?_⟩⟩
    cases same_rs e
    refine .inl ⟨dn, hn0.ext e9, amg_not nxs gn.b, fun GA dd sA edd => hE9 _ _ _ (.inr (.inl ⟨rfl, dd, vn, dn, rfl, edd, (hn0.ext e9).up sA, gn.s, gn.p, gn.n, ?_⟩))⟩
    have eA : LamX.ExtN G8 GA := e9.trans (ext_same sA)
    have l5 : ("name " : Str).length = 5 := by decide
    have gnn := gn.n
    refine ⟨vn, rfl, vn, dn, rfl, hn0.ext eA, gn.s, gn.p, by omega, "name ", dn.shown, rfl, rfl, by omega, rfl, ?_⟩
    rw [decide_eq_true rfl]
    exact q GA (e08.trans (ext_hid eA)) (sto_ext eA st8) (tabs_same sA t9)
end
end U1

set_option maxRecDepth 100000
set_option maxHeartbeats 4000000
namespace U1
open PySem PySem.Spec PyProof.Rows L2 KX
/-! ### rows in their order -/
structure RsP (wd : Nat) (rs : List Rec) : Prop where
  pw : (rs.map (fun r : Rec => r.nm)).Pairwise (fun a b => leN a b = true)
  nd : (rs.map (fun r : Rec => r.nm)).Nodup
  ok : ∀ r ∈ rs, ROk wd r
theorem made_rsp {wd : Nat} {recs : List Rec} (h : Made wd recs) (hl : recs.length ≤ 61) : RsP wd (sortR recs) :=
  ⟨by rw [names_sort h hl]; exact List.pairwise_mergeSort le_tr le_tot _, names_nodup h hl, sort_rok h hl⟩
theorem RsP.sub {wd : Nat} {rs ss : List Rec} (h : RsP wd rs) (s : ss.Sublist rs) : RsP wd ss :=
  ⟨h.pw.sublist (s.map _), h.nd.sublist (s.map _), fun r hr => h.ok r (s.subset hr)⟩
theorem RsP.asc {wd : Nat} {rs : List Rec} (h : RsP wd rs) : ascS (rs.map (fun r : Rec => r.nm)) = true := asc_of h.pw h.nd
theorem RsP.rsok {wd : Nat} {rs : List Rec} (h : RsP wd rs) (w1 : 1 ≤ wd) (w4 : wd ≤ 4) (hl : rs.length ≤ 60) : RsOk rs := by
  refine ⟨hl, ?_, ?_, h.asc⟩
  · rw [List.all_eq_true]
    intro e he
    obtain ⟨r, hr, rfl⟩ := List.mem_map.mp he
    exact rec_rd (h.ok r hr) w1 w4
  · refine oneW_iff.mpr fun a ha b hb => ?_
    obtain ⟨_, _, o1⟩ := h.ok a ha
    obtain ⟨_, _, o2⟩ := h.ok b hb
    rw [o1.len, o2.len]
theorem RsP.dist {wd : Nat} {rs : List Rec} (h : RsP wd rs) : ∀ a ∈ rs, ∀ b ∈ rs, a.nm = b.nm → a = b := fun a ha b hb e => by
  obtain ⟨i, hi, e1⟩ := List.getElem_of_mem ha
  obtain ⟨j, hj, e2⟩ := List.getElem_of_mem hb
  have nd2 := List.nodup_iff_pairwise_ne.mp h.nd
  rw [List.pairwise_iff_getElem] at nd2
  have z : i = j := by
    rcases Nat.lt_trichotomy i j with lt | eq | gt
    · have := nd2 i j (by rw [List.length_map]; omega) (by rw [List.length_map]; omega) lt
      rw [List.getElem_map, List.getElem_map, e1, e2] at this
      exact absurd e this
    · exact eq
    · have := nd2 j i (by rw [List.length_map]; omega) (by rw [List.length_map]; omega) gt
      rw [List.getElem_map, List.getElem_map, e1, e2] at this
      exact absurd e.symm this
  subst z
  rw [← e1, ← e2]
theorem map_back {rs : List Rec} (d : ∀ a ∈ rs, ∀ b ∈ rs, a.nm = b.nm → a = b) : ∀ {as bs : List Rec}, (∀ a ∈ as, a ∈ rs) → (∀ b ∈ bs, b ∈ rs) → as.map (fun r : Rec => r.nm) = bs.map (fun r : Rec => r.nm) → as = bs
  | [], [], _, _, _ => rfl
  | a :: as, b :: bs, ha, hb, e => by
    simp only [List.map_cons, List.cons.injEq] at e
    rw [d a (ha a (by simp)) b (hb b (by simp)) e.1, map_back d (fun x hx => ha x (by simp [hx])) (fun x hx => hb x (by simp [hx])) e.2]
  | [], b :: bs, _, _, e => by simp at e
  | a :: as, [], _, _, e => by simp at e
theorem sort_back {wd : Nat} {rs ss : List Rec} (h : RsP wd rs) (p : ss.Perm rs) : sortR ss = rs := by
  have mem : ∀ a, a ∈ ss ↔ a ∈ rs := fun a => p.mem_iff
  have dist : ∀ a ∈ ss, ∀ b ∈ ss, a.nm = b.nm → a = b := fun a ha b hb => h.dist a ((mem a).mp ha) b ((mem b).mp hb)
  have e1 : (sortR ss).map (fun r : Rec => r.nm) = (ss.map (fun r : Rec => r.nm)).mergeSort leN := List.map_mergeSort fun a ha b hb => le_rec (dist a ha b hb)
  have e2 : (ss.map (fun r : Rec => r.nm)).mergeSort leN = rs.map (fun r : Rec => r.nm) := by
    refine List.Perm.eq_of_pairwise (le := fun a b => leN a b = true) (fun a b _ _ h1 h2 => ?_) (List.pairwise_mergeSort le_tr le_tot _) h.pw ((List.mergeSort_perm _ _).trans (p.map _))
    have := List.le_antisymm (of_decide_eq_true h1) (of_decide_eq_true h2)
    cases a
    cases b
    exact congrArg _ (Array.toList_inj.mp this)
  exact map_back h.dist (fun a ha => (mem a).mp (List.mem_mergeSort.mp ha)) (fun b hb => hb) (e1.trans e2)
theorem vg_any {wd : Nat} {rs : List Rec} (h : ∀ r ∈ rs, ROk wd r) (hw : wd ≤ 4) (hl : rs.length ≤ 63) : VG (.tuple (rs.map encR)) := by
  have hm : ∀ e ∈ rs.map encR, fine (10 ^ 40) e = true ∧ wt e ≤ 20 ∧ e.depth ≤ 2 := fun e he => by
    obtain ⟨r, mr, rfl⟩ := List.mem_map.mp he
    exact ⟨(rec_fine (h r mr) hw).1, (rec_fine (h r mr) hw).2.1, rec_dep r⟩
  have gr := wtAll_le fun e he => (hm e he).2.1
  have gd := depthAll_le fun e he => (hm e he).2.2
  rw [List.length_map] at gr
  exact ⟨by simp only [fine]; exact fineAll_mem.mpr fun e he => (hm e he).1, by simp only [wt]; omega, by simp only [PyData.depth]; omega, fun ds z => by cases z; rw [List.length_map]; exact hl⟩
theorem rsp_g {wd : Nat} {rs : List Rec} (h : RsP wd rs) (w1 : 1 ≤ wd) (w4 : wd ≤ 4) (hl : rs.length ≤ 60) : RsG wd rs := by
  refine ⟨h.rsok w1 w4 hl, vg_any h.ok w4 (by omega), fun r hr => ?_, fun r hr => ?_, h.nd⟩
  · obtain ⟨_, _, o⟩ := h.ok r hr
    exact o.len
  · obtain ⟨g1, _⟩ := rec_parts (h.ok r hr) w4
    obtain ⟨n, hn, o⟩ := h.ok r hr
    exact ⟨nmx_of hn o.nm, (name_ok hn o.nm).2, g1⟩
/-! ### the law -/
abbrev sLaw : Stmt := topS 54
def spLaw (K : PySem.W.Frag) (P0 P1 : Addr) : Sp := fun vs H Q _ => ∃ (a : Addr) (ns : List Int), vs = [.ref a] ∧ SqL K H a (ns.map V.int) ∧ ns.length ≤ 63 ∧ H P0 = some (.tbl #[]) ∧ H P1 = some (.tbl #[]) ∧ ∀ H', Q (.bl true) H'
abbrev NW : List Str := ["script", "at", "stream", "total", "wide", "rows", "turn", "value", "more"]
theorem scLaw : FnScope NW ["script"] (defScope sLaw) := ⟨rfl, rfl, rfl, by decide +kernel, rfl, by decide +kernel, by decide +kernel⟩
def forBody : Stmt → List Stmt
  | .For _ _ b _ _ => b
  | _ => []
abbrev bLaw : List Stmt := forBody ((defBody sLaw).getD 0 (.Pass ⟨0, 0, 0, 0⟩))
abbrev cxLaw (P : Program) (w : World) (K : PySem.W.Frag) (mg : Str → Option Value) (base : Heap) (f : Addr) (cdv : Value) (A : Around) (outer : List PySem.Env) (s : Shared) (H : Hp) (E : XK) : Cx :=
  (cxOf CX0 P w K mg base NW "law" (defScope sLaw) f cdv A outer s H E).nox
/-- what the defs promise -/
structure Ds (P : Program) (w : World) (K : PySem.W.Frag) (mg : Str → Option Value) (base : Heap) (k : Nat) (RA MA P0 P1 : Addr) (fS fD fR fU fC fH fI fV fT fM : Addr) (gS gD gR gU gC gH gI gV gT gM : FuncData) : Prop where
  S : Df K mg "_law_stream" sStream ["script", "at"] fS gS
  D : Df K mg "_law_draw" sDraw ["stream", "total"] fD gD
  R : Df K mg "_law_rowset" sRs ["stream", "total", "wide"] fR gR
  U : Df K mg "_law_unrelated" sUn ["stream"] fU gU
  C : Df K mg "_law_changed" sCh ["stream", "rows"] fC gC
  H : Df K mg "_law_shuffled" sSh ["stream", "items"] fH gH
  I : Df K mg "is_rowset" sIR ["value"] fI gI
  V : Df K mg "_law_value_right" sVl ["value"] fV gV
  T : Df K mg "_law_rowset_right" sRr ["stream", "rows", "wide"] fT gT
  M : Df K mg "make_rowset" sMR ["rows"] fM gM
  oS : FnOk P w K mg base CX0 k fS gS ["script", "at"] (spStream K)
  oD : FnOk P w K mg base CX0 k fD gD ["stream", "total"] spDraw
  oR : FnOk P w K mg base CX0 k fR gR ["stream", "total", "wide"] spRs
  oU : FnOk P w K mg base CX0 k fU gU ["stream"] spUn
  oC : FnOk P w K mg base CX0 k fC gC ["stream", "rows"] spCh
  oH : FnOk P w K mg base CX0 k fH gH ["stream", "items"] spSh
  oI : FnOk P w K mg base CX0 k fI gI ["value"] spIR
  oV : FnG P w K mg base CX0 k fV gV ["value"] (spVl P0 P1)
  oT : FnG P w K mg base CX0 k fT gT ["stream", "rows", "wide"] (spRr P0 P1)
  oM : FnOk P w K mg base (L2.CX P w) k fM gM ["rows"] (spMR RA MA)
section
variable {P : Program} {w : World} {K : PySem.W.Frag} {mg : Str → Option Value} {base : Heap} {RA MA P0 P1 : Addr}
theorem body_law {k : Nat} {fS fD fR fU fC fH fI fV fT fM : Addr} {gS gD gR gU gC gH gI gV gT gM : FuncData} (B : Bl mg) (T : Ds P w K mg base k RA MA P0 P1 fS fD fR fU fC fH fI fV fT fM gS gD gR gU gC gH gI gV gT gM)
    {f : Addr} {cdv : Value} {A : Around} {outer : List PySem.Env} {s : Shared} {H : Hp} {E : XK} (hgd : (cxLaw P w K mg base f cdv A outer s H E).A.guards = some []) (hr : Room k (cxLaw P w K mg base f cdv A outer s H E).A) {a : Addr} {ns : List Int} :
    ∃ t, PSs (cxLaw P w K mg base f cdv A outer s H E) bLaw t ∧ ∀ (D : Ends) (G : Hp) (i : Nat) (o2 o3 o4 o5 o6 o7 o8 : Option V), SqL K G a (ns.map V.int) → i ≤ 1000 → LamX.Tabs (TL P0 P1) G →
      (∀ G' o1 o2 o3 o4 o5 o6 o7 o8, LamX.ExtN G G' → LamX.Tabs (TL P0 P1) G' → D.nx [some (.ref a), o1, o2, o3, o4, o5, o6, o7, o8] G') → t D [some (.ref a), some (.int (0 + (i : Int))), o2, o3, o4, o5, o6, o7, o8] G := by
  have nd := scLaw.nd
  refine ⟨_, pss_cons (ps_set (i := 2) nd rfl (.inl rfl) (pe_call T.oS hr (by rfl) T.S.g T.S.F.kp T.S.b .nil pass0 (pa_cons (pv 0) (pa_cons (pv 1) pa_nil))))
    (pss_cons (ps_set (i := 3) nd rfl (.inl rfl) (pe_ix ix_list (pe_lst (pa_cons pe_int (pa_cons pe_int (pa_cons (pe_call T.oD hr (by rfl) T.D.g T.D.F.kp T.D.b .nil pass0 (pa_cons (pv 2) (pa_cons pe_int pa_nil))) (pa_cons (pe_call T.oD hr (by rfl) T.D.g T.D.F.kp T.D.b .nil pass0 (pa_cons (pv 2) (pa_cons pe_int pa_nil))) pa_nil)))))
        (pe_call T.oD hr (by rfl) T.D.g T.D.F.kp T.D.b .nil pass0 (pa_cons (pv 2) (pa_cons pe_int pa_nil))) (fun _ _ => rfl)))
    (pss_cons (ps_set (i := 4) nd rfl (.inl rfl) (pe_op op_add pe_int (pe_call T.oD hr (by rfl) T.D.g T.D.F.kp T.D.b .nil pass0 (pa_cons (pv 2) (pa_cons pe_int pa_nil)))))
    (pss_cons (ps_set (i := 5) nd rfl (.inl rfl) (pe_call T.oR hr (by rfl) T.R.g T.R.F.kp T.R.b .nil pass0 (pa_cons (pv 2) (pa_cons (pv 3) (pa_cons (pv 4) pa_nil)))))
    (pss_cons (ps_if (PW.pt (pw_or (pt_cmpR op_isnot_bl (pe_call T.oI hr (by rfl) T.I.g T.I.F.kp T.I.b .nil pass0 (pa_cons (pv 5) pa_nil)) pe_bl (nomark _))
        (pw_or1 (pt_cmpR op_ne (pe_callB (call_reprD hr hgd) (by rfl) B.repr (by decide +kernel) (pa_cons (pe_call T.oM hr (by rfl) T.M.g T.M.F.kp T.M.b .nil passL (pa_cons (pe_call T.oH hr (by rfl) T.H.g T.H.F.kp T.H.b .nil pass0 (pa_cons (pv 2) (pa_cons (pv 5) pa_nil))) pa_nil)) pa_nil))
          (pe_callB (call_reprD hr hgd) (by rfl) B.repr (by decide +kernel) (pa_cons (pv 5) pa_nil)) (nomark _))))) (pss_one (ps_ret pe_bl)) pss_nil)
    (pss_cons (ps_if (pt_not (pt_val (pe_callG T.oT hgd hr (by rfl) T.T.g T.T.F.kp T.T.b .nil pass0 (pa_cons (pv 2) (pa_cons (pv 5) (pa_cons (pv 4) pa_nil)))))) (pss_one (ps_ret pe_bl)) pss_nil)
    (pss_cons (ps_for PassesOwn.never rfl (pi_range1 (by rfl) B.range (pa_cons pe_int pa_nil)) (pg_name (i := 6) nd rfl (.inl rfl))
      (pss_cons (ps_set (i := 7) nd rfl (.inl rfl) (pe_call T.oC hr (by rfl) T.C.g T.C.F.kp T.C.b .nil pass0 (pa_cons (pv 2) (pa_cons (pv 5) pa_nil))))
      (pss_one (ps_if (pt_not (pt_val (pe_callG T.oV hgd hr (by rfl) T.V.g T.V.F.kp T.V.b .nil pass0 (pa_cons (pv 7) pa_nil)))) (pss_one (ps_ret pe_bl)) pss_nil))))
    (pss_one (ps_if (PW.pt (pw_or (pt_not (pt_val (pe_callG T.oV hgd hr (by rfl) T.V.g T.V.F.kp T.V.b .nil pass0 (pa_cons (pe_call T.oH hr (by rfl) T.H.g T.H.F.kp T.H.b .nil pass0 (pa_cons (pv 2) (pa_cons (pv 5) pa_nil))) pa_nil))))
        (pw_or1 (pt_not (pt_val (pe_callG T.oV hgd hr (by rfl) T.V.g T.V.F.kp T.V.b .nil pass0 (pa_cons (pe_call T.oU hr (by rfl) T.U.g T.U.F.kp T.U.b .nil pass0 (pa_cons (pv 2) pa_nil)) pa_nil))))))) (pss_one (ps_ret pe_bl)) pss_nil)))))))), fun D G i o2 o3 o4 o5 o6 o7 o8 hS hi hT q => ?_⟩
  -- stream
  refine ⟨.ref a, rfl, .int (0 + (i : Int)), rfl, a, ns, 0 + (i : Int), rfl, hS, by omega, by omega, fun H1 l s1 nl st1 => ?_⟩
  have t1 := tabs_same s1 hT
  -- total
  change tSeq _ _ _ ([some (.ref a), some (.int (0 + (i : Int))), some (.ref l), o3, o4, o5, o6, o7, o8] : L2.St) H1
  have dr : ∀ (n : Int) {σ0 : L2.St} {L : List (V × PyData)} {M : List (Addr × List V × List PyData)}, σ0[2]? = some (some (.ref l)) → 0 < n → n < 2 ^ 64 → GI l (KX.Env l σ0 L M) (fun k => 0 ≤ k ∧ k < n) (tCall spDraw [] E0 (tCons (tVar 2) (tCons (tC (.int n)) tNil))) := fun n σ0 L M h a b => gi_drawS (n := n) 2 h (gi_val fun σ H Q q => q) a b
  refine gd_seq (S := fun d => ∃ n : Int, d = .int n ∧ 0 ≤ n ∧ n ≤ 60) (P := KX.Env l _ [] []) (al_ix (n := 4) (m := 4) kp_env (al_lst (al_cons kp_env ((gd_c (v := .int 0) (d := .int 0) fun H => .int 0).imp fun d e => ⟨0, e, by decide, by decide⟩)
      (al_cons kp_env ((gd_c (v := .int 1) (d := .int 1) fun H => .int 1).imp fun d e => ⟨1, e, by decide, by decide⟩)
      (al_cons kp_env ((gd_int (dr 9 rfl (by decide) (by decide))).imp fun d e => by obtain ⟨n, ⟨h1, h2⟩, rfl⟩ := e; exact ⟨n, rfl, by omega, by omega⟩)
      (al_cons kp_env ((gd_int (dr 61 rfl (by decide) (by decide))).imp fun d e => by obtain ⟨n, ⟨h1, h2⟩, rfl⟩ := e; exact ⟨n, rfl, by omega, by omega⟩) al_nil)))) (by decide)) (dr 4 rfl (by decide) (by decide)) rfl)
    st1 ⟨rfl, alld_nil, allm_nil⟩ fun H2 tv td htd k2 st2 xt => ?_
  obtain ⟨m, rfl, m0, m60⟩ := htd
  cases xt
  -- wide
  refine ⟨.ref l, rfl, l, 4, rfl, st2, by decide, by decide, fun H3 d k3 st3 d0 d4 => ⟨1, d, rfl, rfl, ?_⟩⟩
  obtain ⟨wd, ewd⟩ : ∃ wd : Nat, 1 + d = (wd : Int) := ⟨(1 + d).toNat, by omega⟩
  obtain ⟨nr, rfl⟩ : ∃ nr : Nat, m = (nr : Int) := ⟨m.toNat, by omega⟩
  have w1 : 1 ≤ wd := by omega
  have w4 : wd ≤ 4 := by omega
  refine gn_to (v := V.int (1 + d)) (σ' := ([some (.ref a), some (.int (0 + (i : Int))), some (.ref l), some (.int (nr : Int)), some (.int (wd : Int)), o5, o6, o7, o8] : L2.St)) (by rw [ewd]; rfl) ?_
  dsimp only
  -- rows
  refine ⟨.ref l, rfl, .int (nr : Int), rfl, .int (wd : Int), rfl, l, nr, wd, rfl, st3, by omega, w1, w4, fun H4 pr recs k4 st4 hlen hmade hR => ?_⟩
  have hsl : (sortR recs).length = recs.length := List.length_mergeSort _
  have hl60 : (sortR recs).length ≤ 60 := by omega
  have sp := made_rsp hmade (by omega)
  generalize sortR recs = rs at hR hl60 sp
  clear hsl hmade hlen
  have G0 := rsp_g sp w1 w4 hl60
  have tru := rsok_true G0.ok
  obtain ⟨g1, g2, g3⟩ := G0.vg.sh
  have sm := G0.vg.sm
  have k14 : Keep l H1 H4 := (k2.trans k3).trans k4
  have t4 := tabs_keep k14 st1 t1
  refine gn_to (σ' := ([some (.ref a), some (.int (0 + (i : Int))), some (.ref l), some (.int (nr : Int)), some (.int (wd : Int)), some (.ref pr), o6, o7, o8] : L2.St)) rfl ?_
  dsimp only
  refine ⟨.ref pr, rfl, .ref pr, _, rfl, hR.up (hid_same l H4), sm, fun H5 s5 => ?_⟩
  rw [tru]
  have st5 := st4.same s5
  have hR5 := hR.up (Keep.of (l := l) s5).same
  refine ⟨true, true, rfl, rfl, _, rfl, iteF ?_⟩
  refine ⟨.ref l, rfl, .ref pr, rfl, l, .ref pr, rs, rfl, st5, hR5, by omega, fun H6 p6 ss k6 st6 hpm hS6 => ?_⟩
  have hrows : ∀ {zs : List Rec}, zs.Perm rs → rowsD (.tuple (zs.map encR)) = true ∧ dupB zs = false := fun {zs} pz => by
    refine ⟨?_, ?_⟩
    · show ((zs.map encR).all rowD && oneW ((zs.map encR).map recD)) = true
      rw [recs_back, oneW_perm pz, G0.ok.one, Bool.and_true, List.all_eq_true]
      intro e he
      have := G0.ok.row
      rw [List.all_eq_true] at this
      exact this e ((pz.map encR).mem_iff.mp he)
    · rw [dup_perm pz, dupB_iff, decide_eq_true sp.nd]
      rfl
  obtain ⟨b1, b2⟩ := hrows hpm
  have vss := vg_perm G0.vg hpm
  refine ⟨.ref p6, _, rfl, hS6.up (hid_same l H6), vss.sm, fun z => ?_, fun zs e _ => ⟨fun z => ?_, fun _ gt => ?_, fun _ _ H7 p7 s7 h7 => ?_⟩⟩
  · rw [b1] at z
    cases z
  · have := congrArg recsOf e
    rw [recsOf_enc, recsOf_enc] at this
    subst this
    rw [b2] at z
    cases z
  · have := congrArg recsOf e
    rw [recsOf_enc, recsOf_enc] at this
    subst this
    have := hpm.length_eq
    omega
  have ezs : zs = ss := by
    have := congrArg recsOf e
    rw [recsOf_enc, recsOf_enc] at this
    exact this.symm
  subst ezs
  rw [sort_back sp hpm] at h7
  have hR7 := (hR5.up k6.same).up (Keep.of (l := l) s7).same
  refine ⟨.ref p7, _, rfl, h7, g1, g2, g3, .ref pr, rfl, .ref pr, _, rfl, hR7.up (hid_same l H7), g1, g2, g3, rfl, _, rfl, iteNS rfl ?_⟩
  have st7 := st6.same s7
  have k47 : Keep l H4 H7 := ((Keep.of s5).trans k6).trans (Keep.of s7)
  have t7 := tabs_keep k47 st4 t4
  refine ⟨.ref l, rfl, .ref pr, rfl, .int (wd : Int), rfl, l, .ref pr, rs, wd, rfl, st7, t7, hR7, G0, fun H8 e8 st8 t8 => ⟨_, rfl, iteF ?_⟩⟩
  have e18 : LamX.ExtN (hid l H1) (hid l H8) := (keep_ext (k14.trans k47)).trans e8
  have hR8 := hR7.ext e8
  -- six turns
  refine ⟨6, rfl, by decide, by decide, ?_⟩
  refine for_range (lo := 0) (n := 6) (fun j σ F => LamX.ExtN (hid l H8) (hid l F) ∧ StO F l ∧ LamX.Tabs (TL P0 P1) F ∧ ∃ y6 y7 : Option V, σ = [some (.ref a), some (.int (0 + (i : Int))), some (.ref l), some (.int (nr : Int)), some (.int (wd : Int)), some (.ref pr), y6, y7, o8])
    ⟨LamX.ExtN.refl _, st8, t8, o6, o7, rfl⟩ (fun j σ F hj hF => ?_) (fun σ F hF => ?_)
  · obtain ⟨eF, sF, tF, y6, y7, rfl⟩ := hF
    have hRF := hR8.ext eF
    refine ⟨.ref l, rfl, .ref pr, rfl, l, .ref pr, rs, wd, rfl, sF, hRF, hl60, sp.ok, w1, w4, fun F2 v2 d2 kF2 sF2 hd2 vg2 => ?_⟩
    refine gn_to (σ' := ([some (.ref a), some (.int (0 + (i : Int))), some (.ref l), some (.int (nr : Int)), some (.int (wd : Int)), some (.ref pr), some (.int (0 + (j : Int))), some v2, o8] : L2.St)) rfl ?_
    dsimp only
    refine ⟨v2, rfl, v2, d2, rfl, tabs_keep kF2 sF tF, hd2.up (hid_same l F2), vg2, fun F3 e3 t3 => ⟨_, rfl, iteF ?_⟩⟩
    exact ⟨(eF.trans (keep_ext kF2)).trans (ext_hid e3), sto_ext e3 sF2, t3, _, _, rfl⟩
  · obtain ⟨eF, sF, tF, y6, y7, rfl⟩ := hF
    have hRF := hR8.ext eF
    refine ⟨.ref l, rfl, .ref pr, rfl, l, .ref pr, rs, rfl, sF, hRF, by omega, fun F2 p2 s2 kF2 sF2 hp2 hd2 => ?_⟩
    refine ⟨.ref p2, _, rfl, tabs_keep kF2 sF tF, hd2.up (hid_same l F2), vg_perm G0.vg hp2, fun F3 e3 t3 => ⟨_, rfl, iteF ?_⟩⟩
    refine ⟨.ref l, rfl, l, rfl, sto_ext e3 sF2, fun F4 v4 d4 k4' st4' m4 x4 => ?_⟩
    refine ⟨v4, d4, rfl, tabs_keep k4' (sto_ext e3 sF2) t3, x4.up (hid_same l F4), vg_it (un_it m4).1 (un_it m4).2, fun F5 e5 t5 => ⟨_, rfl, iteF ?_⟩⟩
    refine q _ _ _ _ _ _ _ _ _ (fun b o hb nt => ?_) t5
    have hb1 := s1 b o hb
    have nb : b ≠ l := ne_of_none hb nl
    have e9 := (((e18.trans eF).trans (keep_ext kF2)).trans (ext_hid e3)).trans ((keep_ext k4').trans (ext_hid e5))
    have z := e9 b o (by rw [hid_at nb]; exact hb1) nt
    rw [hid_at nb] at z
    exact z
end
end U1

set_option maxRecDepth 100000
set_option maxHeartbeats 4000000
namespace U1
open PySem PySem.Spec PyProof.Rows L2 KX
theorem tabs_two {P0 P1 : Addr} {H : Hp} (h0 : H P0 = some (.tbl #[])) (h1 : H P1 = some (.tbl #[])) : LamX.Tabs (TL P0 P1) H := fun p hp => by
  rcases List.mem_cons.mp hp with h | h
  · cases h
    exact LamX.TabS.nil h0
  · cases List.mem_singleton.mp h
    exact LamX.TabS.nil h1
theorem seq_ext {K : PySem.W.Frag} {H G : Hp} {a : Addr} {xs : List V} (h : SqL K H a xs) (e : LamX.ExtN H G) : SqL K G a xs := by
  rcases h with h | h
  · exact .inl (h.imp (fun z => e _ _ z fun ps q => by cases q) fun ⟨o, z⟩ => ⟨o, e _ _ z fun ps q => by cases q⟩)
  · exact .inr h
theorem tops_eqv : PyData.eqv (.list [.int 60, .int 4, .int 1000000, .int 1000000000, .int 1000000000]) (.list [.int 60, .int 4, .int (10 ^ (6 : Int).toNat), .int (10 ^ (9 : Int).toNat), .int (10 ^ (9 : Int).toNat)]) = true := by
  have z6 : (10 : Int) ^ (6 : Int).toNat = 1000000 := by decide
  have z9 : (10 : Int) ^ (9 : Int).toNat = 1000000000 := by decide
  rw [z6, z9]
  simp [PyData.eqv, PyData.eqvAll]
section
variable {P : Program} {w : World} {K : PySem.W.Frag} {mg : Str → Option Value} {base : Heap} {RA MA P0 P1 : Addr}
theorem ok_law {k : Nat} {fS fD fR fU fC fH fI fV fT fM f : Addr} {gS gD gR gU gC gH gI gV gT gM fd : FuncData} (B : Bl mg) (C : Cs mg) (cr : ∃ t, mg "MAX_ROWS" = some (.int 60 t)) (T : Ds P w K mg base k RA MA P0 P1 fS fD fR fU fC fH fI fV fT fM gS gD gR gU gC gH gI gV gT gM)
    (F : Fun K "law" "law" sLaw f fd) : FnG P w K mg base CX0 (k + 1) f fd ["script"] (spLaw K P0 P1) := by
  obtain ⟨t1, c1⟩ := cr
  obtain ⟨t2, c2⟩ := C.wid
  obtain ⟨t3, c3⟩ := C.cost
  obtain ⟨t4, c4⟩ := C.val
  obtain ⟨t5, c5⟩ := C.exp
  refine okG F scLaw (fun vs H Q E h => ?_) (fun cdv A outer s H vs Q E hgd hr h => ?_)
  · obtain ⟨a, ns, rfl, _⟩ := h
    rfl
  · obtain ⟨a, ns, rfl, hS, hl, hP0, hP1, q⟩ := h
    have nd := scLaw.nd
    obtain ⟨tb, hb, hq⟩ := body_law B T (base := base) (outer := outer) (s := s) (H := H) (E := E) hgd hr (a := a) (ns := ns)
    refine ⟨_, pss_cons (ps_for PassesOwn.never rfl (pi_range1 (by rfl) B.range (pa_cons (pe_callB (call_max2 rfl) (by rfl) B.max (by decide +kernel) (pa_cons pe_int (pa_cons (pe_callB (call_min2 rfl) (by rfl) B.min (by decide +kernel)
          (pa_cons pe_int (pa_cons (pe_callB call_len_seq (by rfl) B.len PySem.boot_len (pa_cons (pv 0) pa_nil)) pa_nil))) pa_nil))) pa_nil)) (pg_name (i := 1) nd rfl (.inl rfl)) hb)
      (pss_cons (ps_set (i := 8) nd rfl (.inl rfl) (pe_call T.oR hr (by rfl) T.R.g T.R.F.kp T.R.b .nil pass0 (pa_cons (pe_call T.oS hr (by rfl) T.S.g T.S.F.kp T.S.b .nil pass0 (pa_cons (pv 0) (pa_cons pe_int pa_nil))) (pa_cons pe_int (pa_cons pe_int pa_nil)))))
      (pss_cons (ps_if (PW.pt (pw_or (pt_not (pt_val (pe_callG T.oV hgd hr (by rfl) T.V.g T.V.F.kp T.V.b .nil pass0 (pa_cons (pv 8) pa_nil))))
          (pw_or (pt_not (pt_val (pe_callG T.oV hgd hr (by rfl) T.V.g T.V.F.kp T.V.b .nil pass0 (pa_cons (pe_revT (pv 8)) pa_nil))))
          (pw_or1 (pt_not (pt_val (pe_callG T.oV hgd hr (by rfl) T.V.g T.V.F.kp T.V.b .nil pass0 (pa_cons (pe_op op_catA (pv 8) (pe_slice sl_tupA (pv 8) po_none (po_some pe_int))) pa_nil)))))))) (pss_one (ps_ret pe_bl)) pss_nil)
      (pss_cons (ps_if (pt_cmpR (op_neP hr.units) (pe_lst (pa_cons (pe_glob (v := .int 60) (by rfl) c1 ⟨_, rfl⟩) (pa_cons (pe_glob (v := .int 4) (by rfl) c2 ⟨_, rfl⟩) (pa_cons (pe_glob (v := .int 1000000) (by rfl) c3 ⟨_, rfl⟩) (pa_cons (pe_glob (v := .int 1000000000) (by rfl) c4 ⟨_, rfl⟩) (pa_cons (pe_glob (v := .int 1000000000) (by rfl) c5 ⟨_, rfl⟩) pa_nil))))))
          (pe_lst (pa_cons pe_int (pa_cons pe_int (pa_cons (pe_op op_pow pe_int pe_int) (pa_cons (pe_op op_pow pe_int pe_int) (pa_cons (pe_op op_pow pe_int pe_int) pa_nil)))))) (nomark _)) (pss_one (ps_ret pe_bl)) pss_nil)
      (pss_one (ps_ret (pe_and (pe_cmpR op_is_bl (pe_call T.oI hr (by rfl) T.I.g T.I.F.kp T.I.b .nil pass0 (pa_cons (pe_slice sl_tupA (pv 8) po_none (po_some pe_int)) pa_nil)) pe_bl (nomark _))
          (pe_one (pe_cmpR (op_eqP hr.units) (pe_call T.oM hr (by rfl) T.M.g T.M.F.kp T.M.b .nil passL (pa_cons (pe_revT (pe_slice sl_tupA (pv 8) (po_some pe_int) po_none)) pa_nil)) (pe_slice sl_tupA (pv 8) (po_some pe_int) po_none) (nomark _))))))))), ?_⟩
    refine ⟨.ref a, rfl, a, _, rfl, .inl hS, 16, _, rfl, 1, _, rfl, ?_⟩
    have hj : ∃ j : Nat, j ≤ 1000 ∧ (if (if ((ns.map V.int).length : Int) < 16 then ((ns.map V.int).length : Int) else 16) > 1 then (if ((ns.map V.int).length : Int) < 16 then ((ns.map V.int).length : Int) else 16) else 1) = (j : Int) := by
      rw [List.length_map]
      by_cases h1 : (ns.length : Int) < 16
      · rw [if_pos h1]
        by_cases h2 : (ns.length : Int) > 1
        · rw [if_pos h2]
          exact ⟨ns.length, by omega, rfl⟩
        · rw [if_neg h2]
          exact ⟨1, by decide, rfl⟩
      · rw [if_neg h1]
        exact ⟨16, by decide, rfl⟩
    obtain ⟨j, hj1, ej⟩ := hj
    refine ⟨_, rfl, ?_, ?_, ?_⟩
    · show (-(2 ^ 62) : Int) ≤ _
      rw [ej]
      omega
    · show (_ : Int) < 2 ^ 62
      rw [ej]
      omega
    · refine for_range (lo := 0) (n := Int.toNat _) (fun i σ G => LamX.ExtN H G ∧ LamX.Tabs (TL P0 P1) G ∧ ∃ o1 o2 o3 o4 o5 o6 o7 o8, σ = [some (.ref a), o1, o2, o3, o4, o5, o6, o7, o8]) ⟨LamX.ExtN.refl H, tabs_two hP0 hP1, none, none, none, none, none, none, none, none, rfl⟩ (fun i σ G hi hp => ?_) (fun σ G hp => ?_)
      · obtain ⟨sm, tm, o1, o2, o3, o4, o5, o6, o7, o8, rfl⟩ := hp
        have hi3 : i < j := by
          have h := hi
          rw [show Int.toNat _ = j from congrArg Int.toNat ej] at h
          exact h
        exact hq _ G i o2 o3 o4 o5 o6 o7 o8 (seq_ext hS sm) (by omega) tm fun G' p1 p2 p3 p4 p5 p6 p7 p8 s' t' => ⟨sm.trans s', t', p1, p2, p3, p4, p5, p6, p7, p8, rfl⟩
      · obtain ⟨e0, tm, o1, o2, o3, o4, o5, o6, o7, o8, rfl⟩ := hp
        have hS1 := seq_ext hS e0
        refine ⟨.ref a, rfl, a, ns, 17, rfl, hS1, by decide, by decide, fun G1 l s1 nl st1 => ?_⟩
        have m1 := tabs_same s1 tm
        refine ⟨l, 61, 2, rfl, st1, by decide, by decide, by decide, fun G2 pm recs k2 st2 hlen hmade hM => ?_⟩
        have hsl : (sortR recs).length = 61 := by rw [show (sortR recs).length = recs.length from List.length_mergeSort _]; exact hlen
        have sp := made_rsp hmade (by omega)
        generalize sortR recs = rs at hM hsl sp
        clear hmade hlen
        have m2 := tabs_keep k2 st1 m1
        refine gn_to (σ' := ([some (.ref a), o1, o2, o3, o4, o5, o6, o7, some (.ref pm)] : L2.St)) rfl ?_
        dsimp only
        have v1 := vg_any sp.ok (by decide) (by omega : rs.length ≤ 63)
        refine ⟨.ref pm, rfl, .ref pm, _, rfl, m2, hM.up (hid_same l G2), v1, fun G3 e3 m3 => ⟨_, rfl, iteF ?_⟩⟩
        have st3 := sto_ext e3 st2
        have hM3 := hM.ext (ext_hid e3)
        obtain ⟨pm', xs, ep, na3, em3, hx3⟩ := dx_tupOf hM3
        cases ep
        refine ⟨.ref pm, rfl, pm, xs, rfl, .inl (.inl em3), fun p4 n4 => ?_⟩
        have s4 := same_new (o := .tup xs.reverse) n4
        have d4 : Dx (upd G3 p4 (.tup xs.reverse)) (.ref p4) (.tuple (rs.reverse.map encR)) := by
          rw [List.map_reverse]
          exact .tup upd_same ((hx3.up (hid_same l G3)).up s4).rev
        refine ⟨.ref p4, _, rfl, tabs_same s4 m3, d4, vg_perm v1 (List.reverse_perm rs), fun G5 e5 m5 => ⟨_, rfl, iteF ?_⟩⟩
        have st5 := sto_ext e5 (st3.same s4)
        have hM5 := (hM3.up (Keep.of (l := l) s4).same).ext (ext_hid e5)
        refine ⟨.ref pm, rfl, .ref pm, rfl, 1, rfl, sl_of hM5 st5 fun G6 p6 k6 st6 d6 => ?_⟩
        have e1 : KX.cutD (rs.map encR) none (some 1) = (rs.take 1).map encR := by
          have := cutD_to (rs.map encR) 1
          rw [List.map_take]
          exact this
        rw [e1] at d6
        refine cat_of (hM5.up k6.same) d6 st6 (by rw [List.length_map, List.length_map, List.length_take]; have hb : (100 : Nat) ≤ sizeLine := (by decide); omega) fun G7 p7 k7 st7 d7 => ?_
        rw [← List.map_append] at d7
        have v7 : VG (.tuple ((rs ++ rs.take 1).map encR)) := vg_any (fun r hr => by
          rcases List.mem_append.mp hr with h | h
          · exact sp.ok r h
          · exact sp.ok r (List.mem_of_mem_take h)) (by decide) (by rw [List.length_append, List.length_take]; omega)
        have m7 := tabs_keep (k6.trans k7) st5 m5
        refine ⟨.ref p7, _, rfl, m7, d7.up (hid_same l G7), v7, fun G8 e8 m8 => ⟨_, rfl, iteF ?_⟩⟩
        have st8 := sto_ext e8 st7
        have hM8 : Dx G8 (.ref pm) (.tuple (rs.map encR)) := ((hM5.up (k6.trans k7).same).ext (ext_hid e8)).up (hid_same l G8)
        have five : (5 : Nat) ≤ sizeLine := by decide
        refine ⟨five, fun q1 n1 => ?_⟩
        have w1 := same_new (o := .lst [.int 60, .int 4, .int 1000000, .int 1000000000, .int 1000000000]) n1
        refine ⟨10, 6, rfl, rfl, ⟨by decide, by decide, by decide⟩, 10, 9, rfl, rfl, ⟨by decide, by decide, by decide⟩, 10, 9, rfl, rfl, ⟨by decide, by decide, by decide⟩, five, fun q2 n2 => ?_⟩
        have w2 := same_new (o := .lst [.int 60, .int 4, .int (10 ^ (6 : Int).toNat), .int (10 ^ (9 : Int).toNat), .int (10 ^ (9 : Int).toNat)]) n2
        have dep : (PyData.list [.int 60, .int 4, .int 1000000, .int 1000000000, .int 1000000000]).depth ≤ 64 := by simp [PyData.depth, PyData.depthAll]
        refine ⟨_, _, .lst (.inl (.inl (w2 _ _ upd_same))) (.cons (.int _) (.cons (.int _) (.cons (.int _) (.cons (.int _) (.cons (.int _) .nil))))), .lst (.inl (.inl upd_same)) (.cons (.int _) (.cons (.int _) (.cons (.int _) (.cons (.int _) (.cons (.int _) .nil))))), rfl, rfl, Nat.le_trans (Nat.min_le_left _ _) dep, _, rfl, ?_⟩
        rw [tops_eqv]
        refine iteF ?_
        have hM9 := hM8.up (w1.trans w2)
        generalize upd (upd G8 q1 (.lst [.int 60, .int 4, .int 1000000, .int 1000000000, .int 1000000000])) q2 (.lst [.int 60, .int 4, .int (10 ^ (6 : Int).toNat), .int (10 ^ (9 : Int).toNat), .int (10 ^ (9 : Int).toNat)]) = G9 at hM9 ⊢
        refine ⟨.ref pm, rfl, 60, rfl, sl_same hM9 fun GA pA sA dA => ?_⟩
        have e60 : KX.cutD (rs.map encR) none (some 60) = (rs.take 60).map encR := by
          have := cutD_to (rs.map encR) 60
          rw [List.map_take]
          exact this
        rw [e60] at dA
        have sp60 := sp.sub (List.take_sublist 60 rs)
        have v60 := vg_any sp60.ok (by decide) (by rw [List.length_take]; omega : (rs.take 60).length ≤ 63)
        refine ⟨.ref pA, _, rfl, dA, v60.sm, fun GB sB => ?_⟩
        rw [rsok_true (sp60.rsok (by decide) (by decide) (by rw [List.length_take]; omega))]
        refine ⟨true, true, rfl, rfl, _, rfl, iteT ?_⟩
        have hMB := (hM9.up sA).up sB
        refine ⟨.ref pm, rfl, 1, rfl, ?_⟩
        refine (show ∀ {σ : L2.St} {H : Hp} {Q : Option Int → Hp → Prop}, Q none H → tNoPart σ H Q from fun h => h) (sl_same hMB fun GC pC sC dC => ?_)
        have e1' : KX.cutD (rs.map encR) (some 1) none = (rs.drop 1).map encR := by
          have := cutD_from (rs.map encR) 1
          rw [List.map_drop]
          exact this
        rw [e1'] at dC
        have spD := sp.sub (List.drop_sublist 1 rs)
        have lD : (rs.drop 1).length = 60 := by rw [List.length_drop]; omega
        have vD := vg_any spD.ok (by decide) (by omega : (rs.drop 1).length ≤ 63)
        obtain ⟨pC', ys, ec, eaC, hyC⟩ := dx_tup' dC
        cases ec
        refine ⟨pC, ys, rfl, .inl (.inl eaC), fun pE nE => ?_⟩
        have sE := same_new (o := .tup ys.reverse) nE
        have dE : Dx (upd GC pE (.tup ys.reverse)) (.ref pE) (.tuple ((rs.drop 1).reverse.map encR)) := by
          rw [List.map_reverse]
          exact .tup upd_same (hyC.up sE).rev
        have pr := List.reverse_perm (rs.drop 1)
        have okD := spD.rsok (by decide) (by decide) (by omega)
        have b1 : rowsD (.tuple ((rs.drop 1).reverse.map encR)) = true := by
          show (((rs.drop 1).reverse.map encR).all rowD && oneW (((rs.drop 1).reverse.map encR).map recD)) = true
          rw [recs_back, oneW_perm pr, okD.one, Bool.and_true, List.all_eq_true]
          intro e he
          have := okD.row
          rw [List.all_eq_true] at this
          exact this e ((pr.map encR).mem_iff.mp he)
        have b2 : dupB (rs.drop 1).reverse = false := by
          rw [dup_perm pr, dupB_iff, decide_eq_true spD.nd]
          rfl
        have hMC := hMB.up sC
        refine ⟨.ref pE, _, rfl, dE, (vg_perm vD pr).sm, fun z => ?_, fun zs e _ => ?_⟩
        · rw [b1] at z
          cases z
        have ezs : zs = (rs.drop 1).reverse := by
          have := congrArg recsOf e
          rw [recsOf_enc, recsOf_enc] at this
          exact this.symm
        subst ezs
        refine ⟨fun z => ?_, fun _ gt => ?_, fun _ _ GF pF sF dF => ?_⟩
        · rw [b2] at z
          cases z
        · rw [List.length_reverse] at gt
          omega
        rw [sort_back spD pr] at dF
        refine ⟨.ref pm, rfl, 1, rfl, ?_⟩
        refine (show ∀ {σ : L2.St} {H : Hp} {Q : Option Int → Hp → Prop}, Q none H → tNoPart σ H Q from fun h => h) (sl_same ((hMC.up sE).up sF) fun GG pG sG dG => ?_)
        rw [e1'] at dG
        refine ⟨_, _, dp_tup (dF.up sG), dp_tup dG, plain_tup _, plain_tup _, Nat.le_trans (Nat.min_le_left _ _) (deep_tup _), ?_⟩
        rw [eqv_tup]
        exact q _
end
end U1

set_option maxRecDepth 100000
set_option maxHeartbeats 8000000
namespace U1
open PySem PySem.Spec PyProof.Rows L2 KX
/-! ### what the top has written -/
theorem df_mk {K : PySem.W.Frag} {h : Heap} {mg : Str → Option Value} {x : String} {st : Stmt} {ps : List Str} {f : Addr} {oc : Value} {od an : Option Addr} {sl : Array (Option Value)} {kV doc pm cd ct : Value} (X : K.In h) (G : h.Ns mainGlobals mg)
    (a : PySem.W.nsIn K mainGlobals x = some (some (.ref f))) (l : K.lookup f = some ⟨oc, od, .func (PySem.W.fnOf x x (defArgs st) (defBody st) (defScope st) .none kV doc pm an cd ct), sl⟩) (c : PySem.W.codeIn K cd x = true)
    (k : PySem.W.keepIn K (.ref f) = true) (hb : ∀ (kV doc pm : Value) (an : Option Addr) (cdv ct : Value) (us : List Value), us.length = ps.length → bindArgs (PySem.W.fnOf x x (defArgs st) (defBody st) (defScope st) .none kV doc pm an cdv ct) ⟨us, []⟩ = pure (ps.zip us)) :
    Df K mg x st ps f (PySem.W.fnOf x x (defArgs st) (defBody st) (defScope st) .none kV doc pm an cd ct) :=
  ⟨fun_mk l c k, (fun_mk l c k).binds hb, PySem.W.mg_of X G a⟩
theorem all_mk {l : PySem.W.OpenLaw} {w : World} {K : PySem.W.Frag} {h : Heap} {mg : Str → Option Value} {fa : Addr} {S R U fU M fM RW : Addr} {ocU ocM : Value} {odU anU odM anM : Option Addr} {slU slM : Array (Option Value)} {kVU docU pmU cdU ctU kVM docM pmM cdM ctM : Value} {PL0 : Addr} {eL0 : Value} {ddL0 : Option Addr} {vsL0 : Array Value} {slL0 : Array (Option Value)} {PL1 : Addr} {eL1 : Value} {ddL1 : Option Addr} {vsL1 : Array Value} {slL1 : Array (Option Value)} (X : K.In h) (G : h.Ns mainGlobals mg) (hfa : mg "law" = some (.ref fa))
    {f0 : Addr} {oc0 : Value} {od0 an0 : Option Addr} {sl0 : Array (Option Value)} {kV0 doc0 pm0 cd0 ct0 : Value} (a0 : PySem.W.nsIn K mainGlobals "is_between" = some (some (.ref f0))) (l0 : K.lookup f0 = some ⟨oc0, od0, .func (PySem.W.fnOf "is_between" "is_between" (defArgs sBetween) (defBody sBetween) (defScope sBetween) .none kV0 doc0 pm0 an0 cd0 ct0), sl0⟩) (c0 : PySem.W.codeIn K cd0 "is_between" = true) (k0 : PySem.W.keepIn K (.ref f0) = true)
    {f1 : Addr} {oc1 : Value} {od1 an1 : Option Addr} {sl1 : Array (Option Value)} {kV1 doc1 pm1 cd1 ct1 : Value} (a1 : PySem.W.nsIn K mainGlobals "is_tuple_between" = some (some (.ref f1))) (l1 : K.lookup f1 = some ⟨oc1, od1, .func (PySem.W.fnOf "is_tuple_between" "is_tuple_between" (defArgs sTupB) (defBody sTupB) (defScope sTupB) .none kV1 doc1 pm1 an1 cd1 ct1), sl1⟩) (c1 : PySem.W.codeIn K cd1 "is_tuple_between" = true) (k1 : PySem.W.keepIn K (.ref f1) = true)
    {f2 : Addr} {oc2 : Value} {od2 an2 : Option Addr} {sl2 : Array (Option Value)} {kV2 doc2 pm2 cd2 ct2 : Value} (a2 : PySem.W.nsIn K mainGlobals "is_ascending" = some (some (.ref f2))) (l2 : K.lookup f2 = some ⟨oc2, od2, .func (PySem.W.fnOf "is_ascending" "is_ascending" (defArgs sAsc) (defBody sAsc) (defScope sAsc) .none kV2 doc2 pm2 an2 cd2 ct2), sl2⟩) (c2 : PySem.W.codeIn K cd2 "is_ascending" = true) (k2 : PySem.W.keepIn K (.ref f2) = true)
    {f3 : Addr} {oc3 : Value} {od3 an3 : Option Addr} {sl3 : Array (Option Value)} {kV3 doc3 pm3 cd3 ct3 : Value} (a3 : PySem.W.nsIn K mainGlobals "check_among" = some (some (.ref f3))) (l3 : K.lookup f3 = some ⟨oc3, od3, .func (PySem.W.fnOf "check_among" "check_among" (defArgs sAmg) (defBody sAmg) (defScope sAmg) .none kV3 doc3 pm3 an3 cd3 ct3), sl3⟩) (c3 : PySem.W.codeIn K cd3 "check_among" = true) (k3 : PySem.W.keepIn K (.ref f3) = true)
    {f4 : Addr} {oc4 : Value} {od4 an4 : Option Addr} {sl4 : Array (Option Value)} {kV4 doc4 pm4 cd4 ct4 : Value} (a4 : PySem.W.nsIn K mainGlobals "is_name" = some (some (.ref f4))) (l4 : K.lookup f4 = some ⟨oc4, od4, .func (PySem.W.fnOf "is_name" "is_name" (defArgs sName) (defBody sName) (defScope sName) .none kV4 doc4 pm4 an4 cd4 ct4), sl4⟩) (c4 : PySem.W.codeIn K cd4 "is_name" = true) (k4 : PySem.W.keepIn K (.ref f4) = true)
    {f5 : Addr} {oc5 : Value} {od5 an5 : Option Addr} {sl5 : Array (Option Value)} {kV5 doc5 pm5 cd5 ct5 : Value} (a5 : PySem.W.nsIn K mainGlobals "is_row" = some (some (.ref f5))) (l5 : K.lookup f5 = some ⟨oc5, od5, .func (PySem.W.fnOf "is_row" "is_row" (defArgs sRow) (defBody sRow) (defScope sRow) .none kV5 doc5 pm5 an5 cd5 ct5), sl5⟩) (c5 : PySem.W.codeIn K cd5 "is_row" = true) (k5 : PySem.W.keepIn K (.ref f5) = true)
    {f6 : Addr} {oc6 : Value} {od6 an6 : Option Addr} {sl6 : Array (Option Value)} {kV6 doc6 pm6 cd6 ct6 : Value} (a6 : PySem.W.nsIn K mainGlobals "are_row_values" = some (some (.ref f6))) (l6 : K.lookup f6 = some ⟨oc6, od6, .func (PySem.W.fnOf "are_row_values" "are_row_values" (defArgs sVals) (defBody sVals) (defScope sVals) .none kV6 doc6 pm6 an6 cd6 ct6), sl6⟩) (c6 : PySem.W.codeIn K cd6 "are_row_values" = true) (k6 : PySem.W.keepIn K (.ref f6) = true)
    {f7 : Addr} {oc7 : Value} {od7 an7 : Option Addr} {sl7 : Array (Option Value)} {kV7 doc7 pm7 cd7 ct7 : Value} (a7 : PySem.W.nsIn K mainGlobals "are_rows_of_one_width" = some (some (.ref f7))) (l7 : K.lookup f7 = some ⟨oc7, od7, .func (PySem.W.fnOf "are_rows_of_one_width" "are_rows_of_one_width" (defArgs sOW) (defBody sOW) (defScope sOW) .none kV7 doc7 pm7 an7 cd7 ct7), sl7⟩) (c7 : PySem.W.codeIn K cd7 "are_rows_of_one_width" = true) (k7 : PySem.W.keepIn K (.ref f7) = true)
    {f8 : Addr} {oc8 : Value} {od8 an8 : Option Addr} {sl8 : Array (Option Value)} {kV8 doc8 pm8 cd8 ct8 : Value} (a8 : PySem.W.nsIn K mainGlobals "have_one_width" = some (some (.ref f8))) (l8 : K.lookup f8 = some ⟨oc8, od8, .func (PySem.W.fnOf "have_one_width" "have_one_width" (defArgs sHW) (defBody sHW) (defScope sHW) .none kV8 doc8 pm8 an8 cd8 ct8), sl8⟩) (c8 : PySem.W.codeIn K cd8 "have_one_width" = true) (k8 : PySem.W.keepIn K (.ref f8) = true)
    {f9 : Addr} {oc9 : Value} {od9 an9 : Option Addr} {sl9 : Array (Option Value)} {kV9 doc9 pm9 cd9 ct9 : Value} (a9 : PySem.W.nsIn K mainGlobals "width_of" = some (some (.ref f9))) (l9 : K.lookup f9 = some ⟨oc9, od9, .func (PySem.W.fnOf "width_of" "width_of" (defArgs sWO) (defBody sWO) (defScope sWO) .none kV9 doc9 pm9 an9 cd9 ct9), sl9⟩) (c9 : PySem.W.codeIn K cd9 "width_of" = true) (k9 : PySem.W.keepIn K (.ref f9) = true)
    {f10 : Addr} {oc10 : Value} {od10 an10 : Option Addr} {sl10 : Array (Option Value)} {kV10 doc10 pm10 cd10 ct10 : Value} (a10 : PySem.W.nsIn K mainGlobals "is_rowset" = some (some (.ref f10))) (l10 : K.lookup f10 = some ⟨oc10, od10, .func (PySem.W.fnOf "is_rowset" "is_rowset" (defArgs sIR) (defBody sIR) (defScope sIR) .none kV10 doc10 pm10 an10 cd10 ct10), sl10⟩) (c10 : PySem.W.codeIn K cd10 "is_rowset" = true) (k10 : PySem.W.keepIn K (.ref f10) = true)
    {f11 : Addr} {oc11 : Value} {od11 an11 : Option Addr} {sl11 : Array (Option Value)} {kV11 doc11 pm11 cd11 ct11 : Value} (a11 : PySem.W.nsIn K mainGlobals "names_of" = some (some (.ref f11))) (l11 : K.lookup f11 = some ⟨oc11, od11, .func (PySem.W.fnOf "names_of" "names_of" (defArgs sNO) (defBody sNO) (defScope sNO) .none kV11 doc11 pm11 an11 cd11 ct11), sl11⟩) (c11 : PySem.W.codeIn K cd11 "names_of" = true) (k11 : PySem.W.keepIn K (.ref f11) = true)
    {f12 : Addr} {oc12 : Value} {od12 an12 : Option Addr} {sl12 : Array (Option Value)} {kV12 doc12 pm12 cd12 ct12 : Value} (a12 : PySem.W.nsIn K mainGlobals "check_rowset" = some (some (.ref f12))) (l12 : K.lookup f12 = some ⟨oc12, od12, .func (PySem.W.fnOf "check_rowset" "check_rowset" (defArgs sCR) (defBody sCR) (defScope sCR) .none kV12 doc12 pm12 an12 cd12 ct12), sl12⟩) (c12 : PySem.W.codeIn K cd12 "check_rowset" = true) (k12 : PySem.W.keepIn K (.ref f12) = true)
    {f13 : Addr} {oc13 : Value} {od13 an13 : Option Addr} {sl13 : Array (Option Value)} {kV13 doc13 pm13 cd13 ct13 : Value} (a13 : PySem.W.nsIn K mainGlobals "check_names" = some (some (.ref f13))) (l13 : K.lookup f13 = some ⟨oc13, od13, .func (PySem.W.fnOf "check_names" "check_names" (defArgs sCN) (defBody sCN) (defScope sCN) .none kV13 doc13 pm13 an13 cd13 ct13), sl13⟩) (c13 : PySem.W.codeIn K cd13 "check_names" = true) (k13 : PySem.W.keepIn K (.ref f13) = true)
    {f14 : Addr} {oc14 : Value} {od14 an14 : Option Addr} {sl14 : Array (Option Value)} {kV14 doc14 pm14 cd14 ct14 : Value} (a14 : PySem.W.nsIn K mainGlobals "make_rowset" = some (some (.ref f14))) (l14 : K.lookup f14 = some ⟨oc14, od14, .func (PySem.W.fnOf "make_rowset" "make_rowset" (defArgs sMR) (defBody sMR) (defScope sMR) .none kV14 doc14 pm14 an14 cd14 ct14), sl14⟩) (c14 : PySem.W.codeIn K cd14 "make_rowset" = true) (k14 : PySem.W.keepIn K (.ref f14) = true)
    {f15 : Addr} {oc15 : Value} {od15 an15 : Option Addr} {sl15 : Array (Option Value)} {kV15 doc15 pm15 cd15 ct15 : Value} (a15 : PySem.W.nsIn K mainGlobals "rowset_width" = some (some (.ref f15))) (l15 : K.lookup f15 = some ⟨oc15, od15, .func (PySem.W.fnOf "rowset_width" "rowset_width" (defArgs sRW) (defBody sRW) (defScope sRW) .none kV15 doc15 pm15 an15 cd15 ct15), sl15⟩) (c15 : PySem.W.codeIn K cd15 "rowset_width" = true) (k15 : PySem.W.keepIn K (.ref f15) = true)
    {f16 : Addr} {oc16 : Value} {od16 an16 : Option Addr} {sl16 : Array (Option Value)} {kV16 doc16 pm16 cd16 ct16 : Value} (a16 : PySem.W.nsIn K mainGlobals "row_names" = some (some (.ref f16))) (l16 : K.lookup f16 = some ⟨oc16, od16, .func (PySem.W.fnOf "row_names" "row_names" (defArgs sRNm) (defBody sRNm) (defScope sRNm) .none kV16 doc16 pm16 an16 cd16 ct16), sl16⟩) (c16 : PySem.W.codeIn K cd16 "row_names" = true) (k16 : PySem.W.keepIn K (.ref f16) = true)
    {f17 : Addr} {oc17 : Value} {od17 an17 : Option Addr} {sl17 : Array (Option Value)} {kV17 doc17 pm17 cd17 ct17 : Value} (a17 : PySem.W.nsIn K mainGlobals "find_row" = some (some (.ref f17))) (l17 : K.lookup f17 = some ⟨oc17, od17, .func (PySem.W.fnOf "find_row" "find_row" (defArgs sFR) (defBody sFR) (defScope sFR) .none kV17 doc17 pm17 an17 cd17 ct17), sl17⟩) (c17 : PySem.W.codeIn K cd17 "find_row" = true) (k17 : PySem.W.keepIn K (.ref f17) = true)
    {f18 : Addr} {oc18 : Value} {od18 an18 : Option Addr} {sl18 : Array (Option Value)} {kV18 doc18 pm18 cd18 ct18 : Value} (a18 : PySem.W.nsIn K mainGlobals "_law_stream" = some (some (.ref f18))) (l18 : K.lookup f18 = some ⟨oc18, od18, .func (PySem.W.fnOf "_law_stream" "_law_stream" (defArgs sStream) (defBody sStream) (defScope sStream) .none kV18 doc18 pm18 an18 cd18 ct18), sl18⟩) (c18 : PySem.W.codeIn K cd18 "_law_stream" = true) (k18 : PySem.W.keepIn K (.ref f18) = true)
    {f19 : Addr} {oc19 : Value} {od19 an19 : Option Addr} {sl19 : Array (Option Value)} {kV19 doc19 pm19 cd19 ct19 : Value} (a19 : PySem.W.nsIn K mainGlobals "_law_draw" = some (some (.ref f19))) (l19 : K.lookup f19 = some ⟨oc19, od19, .func (PySem.W.fnOf "_law_draw" "_law_draw" (defArgs sDraw) (defBody sDraw) (defScope sDraw) .none kV19 doc19 pm19 an19 cd19 ct19), sl19⟩) (c19 : PySem.W.codeIn K cd19 "_law_draw" = true) (k19 : PySem.W.keepIn K (.ref f19) = true)
    {f20 : Addr} {oc20 : Value} {od20 an20 : Option Addr} {sl20 : Array (Option Value)} {kV20 doc20 pm20 cd20 ct20 : Value} (a20 : PySem.W.nsIn K mainGlobals "_law_name" = some (some (.ref f20))) (l20 : K.lookup f20 = some ⟨oc20, od20, .func (PySem.W.fnOf "_law_name" "_law_name" (defArgs sNm) (defBody sNm) (defScope sNm) .none kV20 doc20 pm20 an20 cd20 ct20), sl20⟩) (c20 : PySem.W.codeIn K cd20 "_law_name" = true) (k20 : PySem.W.keepIn K (.ref f20) = true)
    {f21 : Addr} {oc21 : Value} {od21 an21 : Option Addr} {sl21 : Array (Option Value)} {kV21 doc21 pm21 cd21 ct21 : Value} (a21 : PySem.W.nsIn K mainGlobals "_law_rowset" = some (some (.ref f21))) (l21 : K.lookup f21 = some ⟨oc21, od21, .func (PySem.W.fnOf "_law_rowset" "_law_rowset" (defArgs sRs) (defBody sRs) (defScope sRs) .none kV21 doc21 pm21 an21 cd21 ct21), sl21⟩) (c21 : PySem.W.codeIn K cd21 "_law_rowset" = true) (k21 : PySem.W.keepIn K (.ref f21) = true)
    {f22 : Addr} {oc22 : Value} {od22 an22 : Option Addr} {sl22 : Array (Option Value)} {kV22 doc22 pm22 cd22 ct22 : Value} (a22 : PySem.W.nsIn K mainGlobals "_law_unrelated" = some (some (.ref f22))) (l22 : K.lookup f22 = some ⟨oc22, od22, .func (PySem.W.fnOf "_law_unrelated" "_law_unrelated" (defArgs sUn) (defBody sUn) (defScope sUn) .none kV22 doc22 pm22 an22 cd22 ct22), sl22⟩) (c22 : PySem.W.codeIn K cd22 "_law_unrelated" = true) (k22 : PySem.W.keepIn K (.ref f22) = true)
    {f23 : Addr} {oc23 : Value} {od23 an23 : Option Addr} {sl23 : Array (Option Value)} {kV23 doc23 pm23 cd23 ct23 : Value} (a23 : PySem.W.nsIn K mainGlobals "_law_damaged" = some (some (.ref f23))) (l23 : K.lookup f23 = some ⟨oc23, od23, .func (PySem.W.fnOf "_law_damaged" "_law_damaged" (defArgs sDm) (defBody sDm) (defScope sDm) .none kV23 doc23 pm23 an23 cd23 ct23), sl23⟩) (c23 : PySem.W.codeIn K cd23 "_law_damaged" = true) (k23 : PySem.W.keepIn K (.ref f23) = true)
    {f24 : Addr} {oc24 : Value} {od24 an24 : Option Addr} {sl24 : Array (Option Value)} {kV24 doc24 pm24 cd24 ct24 : Value} (a24 : PySem.W.nsIn K mainGlobals "_law_whole_between" = some (some (.ref f24))) (l24 : K.lookup f24 = some ⟨oc24, od24, .func (PySem.W.fnOf "_law_whole_between" "_law_whole_between" (defArgs sWB) (defBody sWB) (defScope sWB) .none kV24 doc24 pm24 an24 cd24 ct24), sl24⟩) (c24 : PySem.W.codeIn K cd24 "_law_whole_between" = true) (k24 : PySem.W.keepIn K (.ref f24) = true)
    {f25 : Addr} {oc25 : Value} {od25 an25 : Option Addr} {sl25 : Array (Option Value)} {kV25 doc25 pm25 cd25 ct25 : Value} (a25 : PySem.W.nsIn K mainGlobals "_law_valid_name" = some (some (.ref f25))) (l25 : K.lookup f25 = some ⟨oc25, od25, .func (PySem.W.fnOf "_law_valid_name" "_law_valid_name" (defArgs sVN) (defBody sVN) (defScope sVN) .none kV25 doc25 pm25 an25 cd25 ct25), sl25⟩) (c25 : PySem.W.codeIn K cd25 "_law_valid_name" = true) (k25 : PySem.W.keepIn K (.ref f25) = true)
    {f26 : Addr} {oc26 : Value} {od26 an26 : Option Addr} {sl26 : Array (Option Value)} {kV26 doc26 pm26 cd26 ct26 : Value} (a26 : PySem.W.nsIn K mainGlobals "_law_valid_row" = some (some (.ref f26))) (l26 : K.lookup f26 = some ⟨oc26, od26, .func (PySem.W.fnOf "_law_valid_row" "_law_valid_row" (defArgs sVR) (defBody sVR) (defScope sVR) .none kV26 doc26 pm26 an26 cd26 ct26), sl26⟩) (c26 : PySem.W.codeIn K cd26 "_law_valid_row" = true) (k26 : PySem.W.keepIn K (.ref f26) = true)
    {f27 : Addr} {oc27 : Value} {od27 an27 : Option Addr} {sl27 : Array (Option Value)} {kV27 doc27 pm27 cd27 ct27 : Value} (a27 : PySem.W.nsIn K mainGlobals "_law_valid_rowset" = some (some (.ref f27))) (l27 : K.lookup f27 = some ⟨oc27, od27, .func (PySem.W.fnOf "_law_valid_rowset" "_law_valid_rowset" (defArgs sVS) (defBody sVS) (defScope sVS) .none kV27 doc27 pm27 an27 cd27 ct27), sl27⟩) (c27 : PySem.W.codeIn K cd27 "_law_valid_rowset" = true) (k27 : PySem.W.keepIn K (.ref f27) = true)
    {f28 : Addr} {oc28 : Value} {od28 an28 : Option Addr} {sl28 : Array (Option Value)} {kV28 doc28 pm28 cd28 ct28 : Value} (a28 : PySem.W.nsIn K mainGlobals "_law_shuffled" = some (some (.ref f28))) (l28 : K.lookup f28 = some ⟨oc28, od28, .func (PySem.W.fnOf "_law_shuffled" "_law_shuffled" (defArgs sSh) (defBody sSh) (defScope sSh) .none kV28 doc28 pm28 an28 cd28 ct28), sl28⟩) (c28 : PySem.W.codeIn K cd28 "_law_shuffled" = true) (k28 : PySem.W.keepIn K (.ref f28) = true)
    {f29 : Addr} {oc29 : Value} {od29 an29 : Option Addr} {sl29 : Array (Option Value)} {kV29 doc29 pm29 cd29 ct29 : Value} (a29 : PySem.W.nsIn K mainGlobals "_law_outcome" = some (some (.ref f29))) (l29 : K.lookup f29 = some ⟨oc29, od29, .func (PySem.W.fnOf "_law_outcome" "_law_outcome" (defArgs sOut) (defBody sOut) (defScope sOut) .none kV29 doc29 pm29 an29 cd29 ct29), sl29⟩) (c29 : PySem.W.codeIn K cd29 "_law_outcome" = true) (k29 : PySem.W.keepIn K (.ref f29) = true)
    {f30 : Addr} {oc30 : Value} {od30 an30 : Option Addr} {sl30 : Array (Option Value)} {kV30 doc30 pm30 cd30 ct30 : Value} (a30 : PySem.W.nsIn K mainGlobals "_law_changed" = some (some (.ref f30))) (l30 : K.lookup f30 = some ⟨oc30, od30, .func (PySem.W.fnOf "_law_changed" "_law_changed" (defArgs sCh) (defBody sCh) (defScope sCh) .none kV30 doc30 pm30 an30 cd30 ct30), sl30⟩) (c30 : PySem.W.codeIn K cd30 "_law_changed" = true) (k30 : PySem.W.keepIn K (.ref f30) = true)
    {f31 : Addr} {oc31 : Value} {od31 an31 : Option Addr} {sl31 : Array (Option Value)} {kV31 doc31 pm31 cd31 ct31 : Value} (a31 : PySem.W.nsIn K mainGlobals "_law_expected" = some (some (.ref f31))) (l31 : K.lookup f31 = some ⟨oc31, od31, .func (PySem.W.fnOf "_law_expected" "_law_expected" (defArgs sEx) (defBody sEx) (defScope sEx) .none kV31 doc31 pm31 an31 cd31 ct31), sl31⟩) (c31 : PySem.W.codeIn K cd31 "_law_expected" = true) (k31 : PySem.W.keepIn K (.ref f31) = true)
    {f32 : Addr} {oc32 : Value} {od32 an32 : Option Addr} {sl32 : Array (Option Value)} {kV32 doc32 pm32 ct32 : Value} {cL0 : Addr} (a32 : PySem.W.nsIn K mainGlobals "_law_value_right" = some (some (.ref f32))) (l32 : K.lookup f32 = some ⟨oc32, od32, .func (PySem.W.fnOf "_law_value_right" "_law_value_right" (defArgs sVl) (defBody sVl) (defScope sVl) .none kV32 doc32 pm32 an32 (.ref cL0) ct32), sl32⟩) (c32 : PySem.W.codeIn K (.ref cL0) "_law_value_right" = true) (k32 : PySem.W.keepIn K (.ref f32) = true)
    {f33 : Addr} {oc33 : Value} {od33 an33 : Option Addr} {sl33 : Array (Option Value)} {kV33 doc33 pm33 ct33 : Value} {cL1 : Addr} (a33 : PySem.W.nsIn K mainGlobals "_law_rowset_right" = some (some (.ref f33))) (l33 : K.lookup f33 = some ⟨oc33, od33, .func (PySem.W.fnOf "_law_rowset_right" "_law_rowset_right" (defArgs sRr) (defBody sRr) (defScope sRr) .none kV33 doc33 pm33 an33 (.ref cL1) ct33), sl33⟩) (c33 : PySem.W.codeIn K (.ref cL1) "_law_rowset_right" = true) (k33 : PySem.W.keepIn K (.ref f33) = true)
    {f34 : Addr} {oc34 : Value} {od34 an34 : Option Addr} {sl34 : Array (Option Value)} {kV34 doc34 pm34 cd34 ct34 : Value} (a34 : PySem.W.nsIn K mainGlobals "law" = some (some (.ref f34))) (l34 : K.lookup f34 = some ⟨oc34, od34, .func (PySem.W.fnOf "law" "law" (defArgs sLaw) (defBody sLaw) (defScope sLaw) .none kV34 doc34 pm34 an34 cd34 ct34), sl34⟩) (c34 : PySem.W.codeIn K cd34 "law" = true) (k34 : PySem.W.keepIn K (.ref f34) = true)
    (b0 : PySem.W.nsIn K mainGlobals "isinstance" = some none)
    (b1 : PySem.W.nsIn K mainGlobals "bool" = some none)
    (b2 : PySem.W.nsIn K mainGlobals "int" = some none)
    (b3 : PySem.W.nsIn K mainGlobals "str" = some none)
    (b4 : PySem.W.nsIn K mainGlobals "tuple" = some none)
    (b5 : PySem.W.nsIn K mainGlobals "list" = some none)
    (b6 : PySem.W.nsIn K mainGlobals "len" = some none)
    (b7 : PySem.W.nsIn K mainGlobals "all" = some none)
    (b8 : PySem.W.nsIn K mainGlobals "range" = some none)
    (b9 : PySem.W.nsIn K mainGlobals "max" = some none)
    (b10 : PySem.W.nsIn K mainGlobals "min" = some none)
    (b11 : PySem.W.nsIn K mainGlobals "abs" = some none)
    (b12 : PySem.W.nsIn K mainGlobals "repr" = some none)
    (b13 : PySem.W.nsIn K mainGlobals "sorted" = some none)
    (b14 : PySem.W.nsIn K mainGlobals "IndexError" = some none)
    (b15 : PySem.W.nsIn K mainGlobals "ValueError" = some none)
    (b16 : PySem.W.nsIn K mainGlobals "zip" = some none)
    (b17 : PySem.W.nsIn K mainGlobals "KeyError" = some none)
    (b18 : PySem.W.nsIn K mainGlobals "sum" = some none)
    {t0 : Tok} (v0 : PySem.W.nsIn K mainGlobals "MAX_WIDTH" = some (some (.int 4 t0)))
    {t1 : Tok} (v1 : PySem.W.nsIn K mainGlobals "MAX_COST" = some (some (.int 1000000 t1)))
    {t2 : Tok} (v2 : PySem.W.nsIn K mainGlobals "MAX_VALUE" = some (some (.int 1000000000 t2)))
    {t3 : Tok} (v3 : PySem.W.nsIn K mainGlobals "MAX_EXPIRY" = some (some (.int 1000000000 t3)))
    {t4 : Tok} (v4 : PySem.W.nsIn K mainGlobals "MAX_LETTERS" = some (some (.int 8 t4)))
    {t5 : Tok} (v5 : PySem.W.nsIn K mainGlobals "LETTERS" = some (some (.str "abcdefghijklmnopqrstuvwxyz" t5)))
    {t6 : Tok} (v6 : PySem.W.nsIn K mainGlobals "VALUES" = some (some (.int 2 t6)))
    {t7 : Tok} (v7 : PySem.W.nsIn K mainGlobals "NAME" = some (some (.int 0 t7)))
    {t8 : Tok} (v8 : PySem.W.nsIn K mainGlobals "MAX_ROWS" = some (some (.int 60 t8)))
    (aS : PySem.W.nsIn K mainGlobals "SparesError" = some (some (.ref S)))
    (s1 : PySem.W.subIn K (.ref S) (.type "BaseException") = some true)
    (s2 : PySem.W.hasDictIn K S = true)
    (s3 : PySem.W.typeIn K (.ref S) = some (.type "type"))
    (aW : PySem.W.nsIn K mainGlobals "InvalidRow" = some (some (.ref RW)))
    (aR : PySem.W.nsIn K mainGlobals "InvalidRowset" = some (some (.ref R)))
    (q1 : PySem.W.excIn K R [.type "ValueError", .type "Exception", .type "BaseException", .type "object"] "ValueError.__new__" = true)
    (q2 : PySem.W.keepIn K (.ref R) = true)
    (q3 : PySem.W.subIn K (.ref R) (.type "BaseException") = some true)
    (q4 : PySem.W.typeIn K (.ref R) = some (.type "type"))
    (q5 : PySem.W.hasDictIn K R = true)
    (i1 : PySem.W.findIn K (.ref R) "__getattribute__" = some (some (.builtin "BaseException.__getattribute__")))
    (i2 : PySem.W.findIn K (.ref R) "__getattr__" = some none)
    (i3 : PySem.W.findIn K (.ref R) "__class__" = some (some (.builtin "object.__class__")))
    (i6 : PySem.W.mroIn K R (.type "object") = some true)
    (y4 : PySem.W.specialIn K (.builtin "object.__class__") "__get__" = some (some (.builtin "getset_descriptor.__get__")))
    (y5 : PySem.W.takesIn K (.builtin "object.__class__") = some true)
    (aU : PySem.W.nsIn K mainGlobals "UnknownName" = some (some (.ref U)))
    (u1 : PySem.W.excInitIn K U kyTl "LookupError.__new__" = true)
    (u2 : PySem.W.excOver K U kyTl = true)
    (u3 : PySem.W.findIn K (.ref U) "__setattr__" = some (some (.builtin "object.__setattr__")))
    (u4 : PySem.W.hasDictIn K U = true)
    (u5 : PySem.W.subIn K (.ref U) (.type "BaseException") = some true)
    (u6 : PySem.W.typeIn K (.ref U) = some (.type "type"))
    (u7 : PySem.W.keepIn K (.ref U) = true)
    (j1 : PySem.W.findIn K (.ref U) "__getattribute__" = some (some (.builtin "BaseException.__getattribute__")))
    (j2 : PySem.W.findIn K (.ref U) "__getattr__" = some none)
    (j3 : PySem.W.findIn K (.ref U) "__class__" = some (some (.builtin "object.__class__")))
    (j6 : PySem.W.mroIn K U (.type "object") = some true)
    (w1 : PySem.W.findIn K (.ref U) "name" = some none)
    (w2 : PySem.W.findIn K (.ref U) "__init__" = some (some (.ref fU)))
    (w3 : PySem.W.typeIn K (.ref fU) = some (.type "function"))
    (w4 : PySem.W.findCls K (.type "KeyError") (.type "type") "__init__" = some (.val (.builtin "KeyError.__init__")))
    (w5 : K.lookup fU = some ⟨ocU, odU, .func (PySem.W.fnOf "__init__" "UnknownName.__init__" (defArgs sIniU) (defBody sIniU) (defScope sIniU) .none kVU docU pmU anU cdU ctU), slU⟩)
    (w6 : PySem.W.codeIn K cdU "UnknownName.__init__" = true)
    (w7 : PySem.W.keepIn K (.ref fU) = true)
    (aM : PySem.W.nsIn K mainGlobals "TooMany" = some (some (.ref M)))
    (m1 : PySem.W.excInitIn K M ovTl "OverflowError.__new__" = true)
    (m2 : PySem.W.excOver K M ovTl = true)
    (m3 : PySem.W.findIn K (.ref M) "__setattr__" = some (some (.builtin "object.__setattr__")))
    (m4 : PySem.W.hasDictIn K M = true)
    (m5 : PySem.W.subIn K (.ref M) (.type "BaseException") = some true)
    (m6 : PySem.W.typeIn K (.ref M) = some (.type "type"))
    (m7 : PySem.W.keepIn K (.ref M) = true)
    (n1 : PySem.W.findIn K (.ref M) "__getattribute__" = some (some (.builtin "BaseException.__getattribute__")))
    (n2 : PySem.W.findIn K (.ref M) "__getattr__" = some none)
    (n3 : PySem.W.findIn K (.ref M) "__class__" = some (some (.builtin "object.__class__")))
    (n6 : PySem.W.mroIn K M (.type "object") = some true)
    (o1 : PySem.W.findIn K (.ref M) "limit" = some none)
    (o2 : PySem.W.findIn K (.ref M) "__init__" = some (some (.ref fM)))
    (o3 : PySem.W.typeIn K (.ref fM) = some (.type "function"))
    (o4 : PySem.W.findCls K (.type "OverflowError") (.type "type") "__init__" = some (.val (.builtin "OverflowError.__init__")))
    (o5 : K.lookup fM = some ⟨ocM, odM, .func (PySem.W.fnOf "__init__" "TooMany.__init__" (defArgs sIniM) (defBody sIniM) (defScope sIniM) .none kVM docM pmM anM cdM ctM), slM⟩)
    (o6 : PySem.W.codeIn K cdM "TooMany.__init__" = true)
    (o7 : PySem.W.keepIn K (.ref fM) = true)
    (e1 : PySem.W.subIn K (.ref R) (.ref S) = some true)
    (e2 : PySem.W.subIn K (.ref U) (.ref S) = some false)
    (e6 : PySem.W.subIn K (.ref U) (.ref U) = some true)
    (e3 : PySem.W.subIn K (.ref M) (.ref S) = some false)
    (e4 : PySem.W.subIn K (.ref M) (.ref U) = some false)
    (e5 : PySem.W.subIn K (.ref M) (.ref M) = some true)
    (r1 : PySem.W.kitOne K (.ref R) (.ref R) = some true)
    (r2 : PySem.W.kitOne K (.ref R) (.ref RW) = some false)
    (r3 : PySem.W.kitOne K (.ref U) (.type "KeyError") = some true)
    (r4 : PySem.W.kitOne K (.ref M) (.type "OverflowError") = some true)
    (bs : PySem.W.nsIn K mainGlobals "set" = some none)
    (bo : PySem.W.nsIn K mainGlobals "OverflowError" = some none)
    (g01 : K.lookup cL0 = some ⟨eL0, ddL0, .fields vsL0, slL0⟩)
    (g02 : vsL0[11]? = some (.ref PL0))
    (g03 : PySem.W.codeHdIn K cL0 PL0 = true)
    (g04 : K.lookup PL0 = none)
    (g05 : h.get? PL0 = some { cls := .none, data := .fields #[] })
    (g11 : K.lookup cL1 = some ⟨eL1, ddL1, .fields vsL1, slL1⟩)
    (g12 : vsL1[11]? = some (.ref PL1))
    (g13 : PySem.W.codeHdIn K cL1 PL1 = true)
    (g14 : K.lookup PL1 = none)
    (g15 : h.get? PL1 = some { cls := .none, data := .fields #[] })
    (h01 : PL0 ≠ PL1)
    : ∃ (fd : FuncData) (cs : List (Addr × Addr)) (sp : Sp), (∀ p ∈ cs, h.get? p.2 = some { cls := .none, data := .fields #[] }) ∧ (∀ p ∈ cs, K.lookup p.2 = none) ∧ (∀ p ∈ cs, PySem.W.CodeHd h p.1 p.2) ∧ (∀ (s : Shared) (u : Value), BindsTo s fd ⟨[u], []⟩ [("script", u)]) ∧
        (∀ (H : Hp) (a : Addr) (ns : List Int), ns.length ≤ 63 → (∀ p ∈ cs, H p.2 = some (.tbl #[])) → SqL K H a (ns.map V.int) → sp [.ref a] H (fun v _ => v = .bl true) fun _ _ _ => False) ∧
        ∀ base : Heap, K.In base → base.Ns mainGlobals mg → (∀ p ∈ cs, LamX.TabB base mg p.1 p.2) → FnG l.prog w K mg base CX0 11 fa fd ["script"] sp := by
  have e := hfa.symm.trans (PySem.W.mg_of X G a34)
  cases e
  have E0 := df_mk (ps := ["value", "low", "high"]) X G a0 l0 c0 k0 (fun _ _ _ _ _ _ us hl => match us, hl with | [_, _, _], _ => rfl)
  have E1 := df_mk (ps := ["value", "low", "high"]) X G a1 l1 c1 k1 (fun _ _ _ _ _ _ us hl => match us, hl with | [_, _, _], _ => rfl)
  have E2 := df_mk (ps := ["names"]) X G a2 l2 c2 k2 (fun _ _ _ _ _ _ us hl => match us, hl with | [_], _ => rfl)
  have E3 := df_mk (ps := ["known", "names"]) X G a3 l3 c3 k3 (fun _ _ _ _ _ _ us hl => match us, hl with | [_, _], _ => rfl)
  have E4 := df_mk (ps := ["value"]) X G a4 l4 c4 k4 (fun _ _ _ _ _ _ us hl => match us, hl with | [_], _ => rfl)
  have E5 := df_mk (ps := ["value"]) X G a5 l5 c5 k5 (fun _ _ _ _ _ _ us hl => match us, hl with | [_], _ => rfl)
  have E6 := df_mk (ps := ["value"]) X G a6 l6 c6 k6 (fun _ _ _ _ _ _ us hl => match us, hl with | [_], _ => rfl)
  have E7 := df_mk (ps := ["value"]) X G a7 l7 c7 k7 (fun _ _ _ _ _ _ us hl => match us, hl with | [_], _ => rfl)
  have E8 := df_mk (ps := ["rows"]) X G a8 l8 c8 k8 (fun _ _ _ _ _ _ us hl => match us, hl with | [_], _ => rfl)
  have E9 := df_mk (ps := ["rows"]) X G a9 l9 c9 k9 (fun _ _ _ _ _ _ us hl => match us, hl with | [_], _ => rfl)
  have E10 := df_mk (ps := ["value"]) X G a10 l10 c10 k10 (fun _ _ _ _ _ _ us hl => match us, hl with | [_], _ => rfl)
  have E11 := df_mk (ps := ["rows"]) X G a11 l11 c11 k11 (fun _ _ _ _ _ _ us hl => match us, hl with | [_], _ => rfl)
  have E12 := df_mk (ps := ["rowset"]) X G a12 l12 c12 k12 (fun _ _ _ _ _ _ us hl => match us, hl with | [_], _ => rfl)
  have E13 := df_mk (ps := ["rowset", "names"]) X G a13 l13 c13 k13 (fun _ _ _ _ _ _ us hl => match us, hl with | [_, _], _ => rfl)
  have E14 := df_mk (ps := ["rows"]) X G a14 l14 c14 k14 (fun _ _ _ _ _ _ us hl => match us, hl with | [_], _ => rfl)
  have E15 := df_mk (ps := ["rowset"]) X G a15 l15 c15 k15 (fun _ _ _ _ _ _ us hl => match us, hl with | [_], _ => rfl)
  have E16 := df_mk (ps := ["rowset"]) X G a16 l16 c16 k16 (fun _ _ _ _ _ _ us hl => match us, hl with | [_], _ => rfl)
  have E17 := df_mk (ps := ["rowset", "name"]) X G a17 l17 c17 k17 (fun _ _ _ _ _ _ us hl => match us, hl with | [_, _], _ => rfl)
  have E18 := df_mk (ps := ["script", "at"]) X G a18 l18 c18 k18 (fun _ _ _ _ _ _ us hl => match us, hl with | [_, _], _ => rfl)
  have E19 := df_mk (ps := ["stream", "total"]) X G a19 l19 c19 k19 (fun _ _ _ _ _ _ us hl => match us, hl with | [_, _], _ => rfl)
  have E20 := df_mk (ps := ["stream", "at"]) X G a20 l20 c20 k20 (fun _ _ _ _ _ _ us hl => match us, hl with | [_, _], _ => rfl)
  have E21 := df_mk (ps := ["stream", "total", "wide"]) X G a21 l21 c21 k21 (fun _ _ _ _ _ _ us hl => match us, hl with | [_, _, _], _ => rfl)
  have E22 := df_mk (ps := ["stream"]) X G a22 l22 c22 k22 (fun _ _ _ _ _ _ us hl => match us, hl with | [_], _ => rfl)
  have E23 := df_mk (ps := ["stream", "value", "deep"]) X G a23 l23 c23 k23 (fun _ _ _ _ _ _ us hl => match us, hl with | [_, _, _], _ => rfl)
  have E24 := df_mk (ps := ["value", "low", "high"]) X G a24 l24 c24 k24 (fun _ _ _ _ _ _ us hl => match us, hl with | [_, _, _], _ => rfl)
  have E25 := df_mk (ps := ["value"]) X G a25 l25 c25 k25 (fun _ _ _ _ _ _ us hl => match us, hl with | [_], _ => rfl)
  have E26 := df_mk (ps := ["value"]) X G a26 l26 c26 k26 (fun _ _ _ _ _ _ us hl => match us, hl with | [_], _ => rfl)
  have E27 := df_mk (ps := ["value"]) X G a27 l27 c27 k27 (fun _ _ _ _ _ _ us hl => match us, hl with | [_], _ => rfl)
  have E28 := df_mk (ps := ["stream", "items"]) X G a28 l28 c28 k28 (fun _ _ _ _ _ _ us hl => match us, hl with | [_, _], _ => rfl)
  have E29 := df_mk (ps := ["call"]) X G a29 l29 c29 k29 (fun _ _ _ _ _ _ us hl => match us, hl with | [_], _ => rfl)
  have E30 := df_mk (ps := ["stream", "rows"]) X G a30 l30 c30 k30 (fun _ _ _ _ _ _ us hl => match us, hl with | [_, _], _ => rfl)
  have E31 := df_mk (ps := ["value"]) X G a31 l31 c31 k31 (fun _ _ _ _ _ _ us hl => match us, hl with | [_], _ => rfl)
  have E32 := df_mk (ps := ["value"]) X G a32 l32 c32 k32 (fun _ _ _ _ _ _ us hl => match us, hl with | [_], _ => rfl)
  have E33 := df_mk (ps := ["stream", "rows", "wide"]) X G a33 l33 c33 k33 (fun _ _ _ _ _ _ us hl => match us, hl with | [_, _, _], _ => rfl)
  have B : Bl mg := ⟨PySem.W.mg_none_of X G b0, PySem.W.mg_none_of X G b1, PySem.W.mg_none_of X G b2, PySem.W.mg_none_of X G b3, PySem.W.mg_none_of X G b4, PySem.W.mg_none_of X G b5, PySem.W.mg_none_of X G b6, PySem.W.mg_none_of X G b7, PySem.W.mg_none_of X G b8, PySem.W.mg_none_of X G b9, PySem.W.mg_none_of X G b10, PySem.W.mg_none_of X G b11, PySem.W.mg_none_of X G b12, PySem.W.mg_none_of X G b13, PySem.W.mg_none_of X G b14, PySem.W.mg_none_of X G b15, PySem.W.mg_none_of X G b16, PySem.W.mg_none_of X G b17, PySem.W.mg_none_of X G b18⟩
  have Ck : Cs mg := ⟨⟨_, PySem.W.mg_of X G v0⟩, ⟨_, PySem.W.mg_of X G v1⟩, ⟨_, PySem.W.mg_of X G v2⟩, ⟨_, PySem.W.mg_of X G v3⟩, ⟨_, PySem.W.mg_of X G v4⟩, ⟨_, PySem.W.mg_of X G v5⟩⟩
  have cv : ∃ t, mg "VALUES" = some (.int 2 t) := ⟨_, PySem.W.mg_of X G v6⟩
  have cn : ∃ t, mg "NAME" = some (.int 0 t) := ⟨_, PySem.W.mg_of X G v7⟩
  have cw : ∃ t, mg "MAX_WIDTH" = some (.int 4 t) := ⟨_, PySem.W.mg_of X G v0⟩
  have cr : ∃ t, mg "MAX_ROWS" = some (.int 60 t) := ⟨_, PySem.W.mg_of X G v8⟩
  have hs : mg "set" = none := PySem.W.mg_none_of X G bs
  have ho : mg "OverflowError" = none := PySem.W.mg_none_of X G bo
  have FU := fun_mk (st := sIniU) w5 w6 w7
  have FM := fun_mk (st := sIniM) o5 o6 o7
  have TU : UN K mg U fU _ := ⟨PySem.W.mg_of X G aU, ⟨KY.kyB, u1, u2, u3, u4, u5, u6, u7⟩, ⟨j1, j2, u5, u4, j3, y4, y5, j6⟩, w1, w2, w3, w4, FU, FU.binds (ps := ["self", "name"]) fun _ _ _ _ _ _ us hl => match us, hl with | [_, _], _ => rfl⟩
  have TM1 : TM K mg M fM _ := ⟨PySem.W.mg_of X G aM, ⟨ovB, m1, m2, m3, m4, m5, m6, m7⟩, ⟨n1, n2, m5, m4, n3, y4, y5, n6⟩, o1, o2, o3, o4, FM, FM.binds (ps := ["self", "limit"]) fun _ _ _ _ _ _ us hl => match us, hl with | [_, _], _ => rfl, ho⟩
  have OR : OC K mg "InvalidRowset" R := ⟨PySem.W.mg_of X G aR, q1, q2, q3, q4⟩
  have Z : XS K mg S R U M RW := ⟨PySem.W.mg_of X G aS, PySem.W.mg_of X G aW, PySem.W.exm_ref s1 s2 s3 e1, PySem.W.exm_ref s1 s2 s3 e2, PySem.W.exm_ref u5 u4 u6 e6, PySem.W.exm_ref s1 s2 s3 e3, PySem.W.exm_ref u5 u4 u6 e4, PySem.W.exm_ref m5 m4 m6 e5, ⟨i1, i2, q3, q5, i3, y4, y5, i6⟩, r1, r2, r3, r4⟩
  refine ⟨PySem.W.fnOf "law" "law" (defArgs sLaw) (defBody sLaw) (defScope sLaw) .none kV34 doc34 pm34 an34 cd34 ct34, [(cL0, PL0), (cL1, PL1)], spLaw K PL0 PL1, fun p hp => ?_, fun p hp => ?_, fun p hp => ?_, fun s v => .of_eq rfl, fun H a ns hl hP hS => ⟨a, ns, rfl, hS, hl, hP (cL0, PL0) (List.mem_cons.mpr (.inl rfl)), hP (cL1, PL1) (List.mem_cons.mpr (.inr (List.mem_singleton.mpr rfl))), fun _ => rfl⟩, fun base _ _ hT => ?_⟩
  · rcases List.mem_cons.mp hp with hp | hp
    · cases hp
      exact g05
    cases List.mem_singleton.mp hp
    exact g15
  · rcases List.mem_cons.mp hp with hp | hp
    · cases hp
      exact g04
    cases List.mem_singleton.mp hp
    exact g14
  · rcases List.mem_cons.mp hp with hp | hp
    · cases hp
      exact PySem.W.codeHd_of_K X g03
    cases List.mem_singleton.mp hp
    exact PySem.W.codeHd_of_K X g13
  have TB0 := hT (cL0, PL0) (List.mem_cons.mpr (.inl rfl))
  have TB1 := hT (cL1, PL1) (List.mem_cons.mpr (.inr (List.mem_singleton.mpr rfl)))
  have oRow := ok_row (P := l.prog) (w := w) (base := base) B Ck E5 E0 E1 E4 E6
  have oOW := ok_ow (P := l.prog) (w := w) (base := base) (k := 3) B E7 E5 E8 (oRow.mono (by decide)) ((ok_hw B cv E8).mono (by decide))
  have oIR := ok_ir (P := l.prog) (w := w) (base := base) (k := 4) B cr E10 E1 E7 E2 E11 ((ok_tupB B E1).mono (by decide)) oOW ((ok_asc B E2).mono (by decide)) ((ok_no B cn E11).mono (by decide))
  have oCR := ok_cr (P := l.prog) (w := w) (base := base) OR E12 E10 oIR
  have oCN := ok_cn (P := l.prog) (w := w) (base := base) B cn TU E13 E3 E11
  have oRW := ok_rw (P := l.prog) (w := w) (base := base) (k := 6) E15 E12 E9 oCR ((ok_wo B cv cw E9).mono (by decide))
  have oRN := ok_rnm (P := l.prog) (w := w) (base := base) (k := 6) E16 E12 E11 oCR ((ok_no B cn E11).mono (by decide))
  have oFR := ok_fr (P := l.prog) (w := w) (base := base) (k := 6) B E17 E12 E13 E11 oCR (oCN.mono (by decide)) ((ok_nof B cn E11).mono (by decide))
  have oMR := ok_mr (P := l.prog) (w := w) (base := base) (k := 1) B cr OR TM1 hs E14 E7 E11 oOW ((ok_no B cn E11).mono (by decide))
  have oVR := ok_vr (P := l.prog) (w := w) (base := base) B E26 E24 E25
  have oVS := ok_vs (P := l.prog) (w := w) (base := base) (k := 5) B E27 E26 (oVR.mono (by decide))
  have oEx := ok_ex (P := l.prog) (w := w) (base := base) (k := 5) B hs E31 E26 (oVR.mono (by decide))
  have oD := ok_draw (P := l.prog) (w := w) (base := base) B E19
  have oVl := ok_vl (P := l.prog) (w := w) (base := base) (k := 7) B OR TU TM1 Z l32 c32 TB0 h01 E29 l29 c29 E31 E10 E27 E14 E15 E16 E17 (oEx.mono (by decide)) (oIR.mono (by decide)) (oVS.mono (by decide)) (oMR.mono (by decide)) oRW oRN oFR
  have oRr := ok_rr (P := l.prog) (w := w) (base := base) (k := 7) B OR TU TM1 Z l33 c33 TB1 h01 E29 l29 c29 E19 E15 E16 E17 (oD.mono (by decide)) oRW oRN oFR
  have oUn := ok_un (P := l.prog) (w := w) (base := base) (k := 1) B E22 E19 oD
  have oDm := ok_dm (P := l.prog) (w := w) (base := base) B E23 E19 E22 4
  have oCh := ok_ch (P := l.prog) (w := w) (base := base) (k := 7) B E30 E19 E22 E23 (oD.mono (by decide)) (oUn.mono (by decide)) oDm
  have oSh := ok_sh (P := l.prog) (w := w) (base := base) (k := 1) B E28 E19 oD
  exact ok_law (k := 10) B Ck cr (T := ⟨E18, E19, E21, E22, E30, E28, E10, E32, E33, E14, (ok_stream B E18).mono (by decide), oD.mono (by decide), (ok_rs B E21 E19 E20).mono (by decide), oUn.mono (by decide), oCh.mono (by decide), oSh.mono (by decide), oIR.mono (by decide), oVl, oRr, oMR.mono (by decide)⟩) (fun_mk l34 c34 k34)
end U1
open PySem PySem.W PyProof.Rows
set_option maxHeartbeats 0 in
theorem PySem.Challenge.cw_spareskept_k02_rowsets_validated_holds : PySem.Challenge.rw_spareskept_k02_rowsets_validated.Holds := by
  w_on; o_law; k_head; (case hw => w_witness2)
  k_fill
  refine KX.walkGY (l := PySem.Challenge.rw_spareskept_k02_rowsets_validated) (n := 63) (k := 11) (x := "script") rfl (by decide) rfl ⟨rfl, by decide, by decide⟩ (fun w h Y => PySem.W.km_in_of Y) ?F
  case F =>
    intro w mg fa h KX G hmg Y
    refine' U1.all_mk KX G hmg ?a0 ?l0 ?c0 ?k0 ?a1 ?l1 ?c1 ?k1 ?a2 ?l2 ?c2 ?k2 ?a3 ?l3 ?c3 ?k3 ?a4 ?l4 ?c4 ?k4 ?a5 ?l5 ?c5 ?k5 ?a6 ?l6 ?c6 ?k6 ?a7 ?l7 ?c7 ?k7 ?a8 ?l8 ?c8 ?k8 ?a9 ?l9 ?c9 ?k9 ?a10 ?l10 ?c10 ?k10 ?a11 ?l11 ?c11 ?k11 ?a12 ?l12 ?c12 ?k12 ?a13 ?l13 ?c13 ?k13 ?a14 ?l14 ?c14 ?k14 ?a15 ?l15 ?c15 ?k15 ?a16 ?l16 ?c16 ?k16 ?a17 ?l17 ?c17 ?k17 ?a18 ?l18 ?c18 ?k18 ?a19 ?l19 ?c19 ?k19 ?a20 ?l20 ?c20 ?k20 ?a21 ?l21 ?c21 ?k21 ?a22 ?l22 ?c22 ?k22 ?a23 ?l23 ?c23 ?k23 ?a24 ?l24 ?c24 ?k24 ?a25 ?l25 ?c25 ?k25 ?a26 ?l26 ?c26 ?k26 ?a27 ?l27 ?c27 ?k27 ?a28 ?l28 ?c28 ?k28 ?a29 ?l29 ?c29 ?k29 ?a30 ?l30 ?c30 ?k30 ?a31 ?l31 ?c31 ?k31 ?a32 ?l32 ?c32 ?k32 ?a33 ?l33 ?c33 ?k33 ?a34 ?l34 ?c34 ?k34 ?b0 ?b1 ?b2 ?b3 ?b4 ?b5 ?b6 ?b7 ?b8 ?b9 ?b10 ?b11 ?b12 ?b13 ?b14 ?b15 ?b16 ?b17 ?b18 ?v0 ?v1 ?v2 ?v3 ?v4 ?v5 ?v6 ?v7 ?v8 ?aS ?s1 ?s2 ?s3 ?aW ?aR ?q1 ?q2 ?q3 ?q4 ?q5 ?i1 ?i2 ?i3 ?i6 ?y4 ?y5 ?aU ?u1 ?u2 ?u3 ?u4 ?u5 ?u6 ?u7 ?j1 ?j2 ?j3 ?j6 ?w1 ?w2 ?w3 ?w4 ?w5 ?w6 ?w7 ?aM ?m1 ?m2 ?m3 ?m4 ?m5 ?m6 ?m7 ?n1 ?n2 ?n3 ?n6 ?o1 ?o2 ?o3 ?o4 ?o5 ?o6 ?o7 ?e1 ?e2 ?e6 ?e3 ?e4 ?e5 ?r1 ?r2 ?r3 ?r4 ?bs ?bo ?g01 ?g02 ?g03 ?g04 ?g05 ?g11 ?g12 ?g13 ?g14 ?g15 ?h01
    (case a0 => k_is); (case l0 => k_is); (case c0 => k_is); (case k0 => k_is)
    (case a1 => k_is); (case l1 => k_is); (case c1 => k_is); (case k1 => k_is)
    (case a2 => k_is); (case l2 => k_is); (case c2 => k_is); (case k2 => k_is)
    (case a3 => k_is); (case l3 => k_is); (case c3 => k_is); (case k3 => k_is)
    (case a4 => k_is); (case l4 => k_is); (case c4 => k_is); (case k4 => k_is)
    (case a5 => k_is); (case l5 => k_is); (case c5 => k_is); (case k5 => k_is)
    (case a6 => k_is); (case l6 => k_is); (case c6 => k_is); (case k6 => k_is)
    (case a7 => k_is); (case l7 => k_is); (case c7 => k_is); (case k7 => k_is)
    (case a8 => k_is); (case l8 => k_is); (case c8 => k_is); (case k8 => k_is)
    (case a9 => k_is); (case l9 => k_is); (case c9 => k_is); (case k9 => k_is)
    (case a10 => k_is); (case l10 => k_is); (case c10 => k_is); (case k10 => k_is)
    (case a11 => k_is); (case l11 => k_is); (case c11 => k_is); (case k11 => k_is)
    (case a12 => k_is); (case l12 => k_is); (case c12 => k_is); (case k12 => k_is)
    (case a13 => k_is); (case l13 => k_is); (case c13 => k_is); (case k13 => k_is)
    (case a14 => k_is); (case l14 => k_is); (case c14 => k_is); (case k14 => k_is)
    (case a15 => k_is); (case l15 => k_is); (case c15 => k_is); (case k15 => k_is)
    (case a16 => k_is); (case l16 => k_is); (case c16 => k_is); (case k16 => k_is)
    (case a17 => k_is); (case l17 => k_is); (case c17 => k_is); (case k17 => k_is)
    (case a18 => k_is); (case l18 => k_is); (case c18 => k_is); (case k18 => k_is)
    (case a19 => k_is); (case l19 => k_is); (case c19 => k_is); (case k19 => k_is)
    (case a20 => k_is); (case l20 => k_is); (case c20 => k_is); (case k20 => k_is)
    (case a21 => k_is); (case l21 => k_is); (case c21 => k_is); (case k21 => k_is)
    (case a22 => k_is); (case l22 => k_is); (case c22 => k_is); (case k22 => k_is)
    (case a23 => k_is); (case l23 => k_is); (case c23 => k_is); (case k23 => k_is)
    (case a24 => k_is); (case l24 => k_is); (case c24 => k_is); (case k24 => k_is)
    (case a25 => k_is); (case l25 => k_is); (case c25 => k_is); (case k25 => k_is)
    (case a26 => k_is); (case l26 => k_is); (case c26 => k_is); (case k26 => k_is)
    (case a27 => k_is); (case l27 => k_is); (case c27 => k_is); (case k27 => k_is)
    (case a28 => k_is); (case l28 => k_is); (case c28 => k_is); (case k28 => k_is)
    (case a29 => k_is); (case l29 => k_is); (case c29 => k_is); (case k29 => k_is)
    (case a30 => k_is); (case l30 => k_is); (case c30 => k_is); (case k30 => k_is)
    (case a31 => k_is); (case l31 => k_is); (case c31 => k_is); (case k31 => k_is)
    (case a32 => k_is); (case l32 => k_is); (case c32 => k_is); (case k32 => k_is)
    (case a33 => k_is); (case l33 => k_is); (case c33 => k_is); (case k33 => k_is)
    (case a34 => k_is); (case l34 => k_is); (case c34 => k_is); (case k34 => k_is)
    (case b0 => k_is); (case b1 => k_is); (case b2 => k_is); (case b3 => k_is); (case b4 => k_is); (case b5 => k_is); (case b6 => k_is); (case b7 => k_is); (case b8 => k_is); (case b9 => k_is); (case b10 => k_is); (case b11 => k_is); (case b12 => k_is); (case b13 => k_is); (case b14 => k_is); (case b15 => k_is); (case b16 => k_is); (case b17 => k_is); (case b18 => k_is)
    (case v0 => k_is); (case v1 => k_is); (case v2 => k_is); (case v3 => k_is); (case v4 => k_is); (case v5 => k_is); (case v6 => k_is); (case v7 => k_is); (case v8 => k_is)
    (case aS => first | k_is | rfl | k_exc)
    (case aW => first | k_is | rfl | k_exc)
    (case aR => first | k_is | rfl | k_exc)
    (case aU => first | k_is | rfl | k_exc)
    (case w2 => first | k_is | rfl | k_exc)
    (case aM => first | k_is | rfl | k_exc)
    (case o2 => first | k_is | rfl | k_exc)
    (case g01 => first | k_is | rfl | k_exc)
    (case g11 => first | k_is | rfl | k_exc)
    (case g02 => first | k_is | rfl | k_exc)
    (case g12 => first | k_is | rfl | k_exc)
    (case s1 => first | k_is | rfl | k_exc)
    (case s2 => first | k_is | rfl | k_exc)
    (case s3 => first | k_is | rfl | k_exc)
    (case q1 => first | k_is | rfl | k_exc)
    (case q2 => first | k_is | rfl | k_exc)
    (case q3 => first | k_is | rfl | k_exc)
    (case q4 => first | k_is | rfl | k_exc)
    (case q5 => first | k_is | rfl | k_exc)
    (case i1 => first | k_is | rfl | k_exc)
    (case i2 => first | k_is | rfl | k_exc)
    (case i3 => first | k_is | rfl | k_exc)
    (case i6 => first | k_is | rfl | k_exc)
    (case y4 => first | k_is | rfl | k_exc)
    (case y5 => first | k_is | rfl | k_exc)
    (case u1 => first | k_is | rfl | k_exc)
    (case u2 => first | k_is | rfl | k_exc)
    (case u3 => first | k_is | rfl | k_exc)
    (case u4 => first | k_is | rfl | k_exc)
    (case u5 => first | k_is | rfl | k_exc)
    (case u6 => first | k_is | rfl | k_exc)
    (case u7 => first | k_is | rfl | k_exc)
    (case j1 => first | k_is | rfl | k_exc)
    (case j2 => first | k_is | rfl | k_exc)
    (case j3 => first | k_is | rfl | k_exc)
    (case j6 => first | k_is | rfl | k_exc)
    (case w1 => first | k_is | rfl | k_exc)
    (case w3 => first | k_is | rfl | k_exc)
    (case w4 => first | k_is | rfl | k_exc)
    (case w5 => first | k_is | rfl | k_exc)
    (case w6 => first | k_is | rfl | k_exc)
    (case w7 => first | k_is | rfl | k_exc)
    (case m1 => first | k_is | rfl | k_exc)
    (case m2 => first | k_is | rfl | k_exc)
    (case m3 => first | k_is | rfl | k_exc)
    (case m4 => first | k_is | rfl | k_exc)
    (case m5 => first | k_is | rfl | k_exc)
    (case m6 => first | k_is | rfl | k_exc)
    (case m7 => first | k_is | rfl | k_exc)
    (case n1 => first | k_is | rfl | k_exc)
    (case n2 => first | k_is | rfl | k_exc)
    (case n3 => first | k_is | rfl | k_exc)
    (case n6 => first | k_is | rfl | k_exc)
    (case o1 => first | k_is | rfl | k_exc)
    (case o3 => first | k_is | rfl | k_exc)
    (case o4 => first | k_is | rfl | k_exc)
    (case o5 => first | k_is | rfl | k_exc)
    (case o6 => first | k_is | rfl | k_exc)
    (case o7 => first | k_is | rfl | k_exc)
    (case e1 => first | k_is | rfl | k_exc)
    (case e2 => first | k_is | rfl | k_exc)
    (case e6 => first | k_is | rfl | k_exc)
    (case e3 => first | k_is | rfl | k_exc)
    (case e4 => first | k_is | rfl | k_exc)
    (case e5 => first | k_is | rfl | k_exc)
    (case r1 => first | k_is | rfl | k_exc)
    (case r2 => first | k_is | rfl | k_exc)
    (case r3 => first | k_is | rfl | k_exc)
    (case r4 => first | k_is | rfl | k_exc)
    (case bs => first | k_is | rfl | k_exc)
    (case bo => first | k_is | rfl | k_exc)
    (case g03 => first | k_is | rfl | k_exc)
    (case g04 => first | k_is | rfl | k_exc)
    (case g13 => first | k_is | rfl | k_exc)
    (case g14 => first | k_is | rfl | k_exc)
    (case g05 => exact PySem.W.km_tabs_of Y _ (by first | k_mem | simp))
    (case g15 => exact PySem.W.km_tabs_of Y _ (by first | k_mem | simp))
    (case h01 => first | decide | omega | simp)
