import PyProof.Rows.All
import Wide.All
import OpenK.AllK
import Wide.FinOn
import HandS.ForMost
import HandS.Wide
import HandS.TupAny
import HandS.TupMul
import HandS.IsInst
import HandS.Style
import PyProof.ReprRoads
import KE.DataEq
import HandS.Walk
import PyProof.StrLawsRepr
import PyProof.FitsInt
import KE.SortData
import KE.KExcInit
import KE.KExcIs
import KE.KIsAll
import HandS.ExcInit
import HandS.ExcField
import HandS.TryOnly
import HandS.Strs
import HandS.SetBool
import HandS.Conv
import HandS.Dict
import HandS.SetFor
import HandS.Zip
import KE.GoesZip
import KE.GoesMore
import KE.KEqDict
import KE.DataCmp
import HandS.Lambda
import HandS.Nested
import HandS.EndTab
import HandS.EndOwn
import HandS.ForExc
import HandS.TryMany
import HandS.CallLocal
import PyProof.RulesRaise
import PyProof.FactsTree
import PyProof.ExcClass
import PyProof.ExcBaseAll.LookupError
import HandS.ExcIs
import KE.DatumOrd
import KE.SortKeyHeap
import HandS.Exc
import KE.SortCalls
import KE.SortLaws
import HandS.More
import KE.KNestM
import PySem.Challenge.RW_spareskept_k08_sorted_names
set_option Elab.async false
set_option linter.all false
set_option maxRecDepth 100000
set_option maxHeartbeats 2000000
namespace KX
open PySem PySem.Spec PyProof.Rows L2

/-! ### data: what a value holds, through the tracked heap -/
mutual
inductive Dx (H : Hp) : V → PyData → Prop
  | non : Dx H .non .none
  | bl (b : Bool) : Dx H (.bl b) (.bool b)
  | int (i : Int) : Dx H (.int i) (.int i)
  | str (x : Str) : Dx H (.str x) (.str x)
  | lst {a : Addr} {xs : List V} {ds : List PyData} (e : H a = some (.lst xs)) (n : a ≠ sysModules) (h : Dxs H xs ds) : Dx H (.ref a) (.list ds)
  | tup {a : Addr} {xs : List V} {ds : List PyData} (e : H a = some (.tup xs)) (h : Dxs H xs ds) : Dx H (.ref a) (.tuple ds)
  | dic {a : Addr} (e : H a = some (.dK [])) : Dx H (.ref a) (.dict [])
  | dic1 {a : Addr} {x : Str} {i : Int} (e : H a = some (.dK [(.inr x, .int i)])) : Dx H (.ref a) (.dict [(.str x, .int i)])
inductive Dxs (H : Hp) : List V → List PyData → Prop
  | nil : Dxs H [] []
  | cons {v : V} {vs : List V} {d : PyData} {ds : List PyData} (h : Dx H v d) (t : Dxs H vs ds) : Dxs H (v :: vs) (d :: ds)
end

mutual
theorem Dx.mono {H H' : Hp} (s : Same H H') : ∀ (d : PyData) (v : V), Dx H v d → Dx H' v d
  | .none, _, h => by cases h; exact .non
  | .bool b, _, h => by cases h; exact .bl b
  | .int i, _, h => by cases h; exact .int i
  | .str x, _, h => by cases h; exact .str x
  | .list ds, _, h => by
    cases h with
    | lst e n h => exact .lst (s _ _ e) n (Dxs.mono s ds _ h)
  | .tuple ds, _, h => by
    cases h with
    | tup e h => exact .tup (s _ _ e) (Dxs.mono s ds _ h)
  | .dict ks, _, h => by
    cases h with
    | dic e => exact .dic (s _ _ e)
    | dic1 e => exact .dic1 (s _ _ e)
theorem Dxs.mono {H H' : Hp} (s : Same H H') : ∀ (ds : List PyData) (vs : List V), Dxs H vs ds → Dxs H' vs ds
  | [], _, h => by cases h; exact .nil
  | d :: ds, _, h => by
    cases h with
    | cons h t => exact .cons (Dx.mono s d _ h) (Dxs.mono s ds _ t)
end
theorem Dx.up {H H' : Hp} {v : V} {d : PyData} (h : Dx H v d) (s : Same H H') : Dx H' v d := Dx.mono s d v h
theorem Dxs.up {H H' : Hp} {v : List V} {d : List PyData} (h : Dxs H v d) (s : Same H H') : Dxs H' v d := Dxs.mono s d v h
theorem Dxs.len {H : Hp} : ∀ {vs : List V} {ds : List PyData}, Dxs H vs ds → vs.length = ds.length
  | _, _, .nil => rfl
  | _, _, .cons _ t => by simp [Dxs.len t]
theorem Dxs.get {H : Hp} : ∀ {vs : List V} {ds : List PyData} {i : Nat} {d : PyData}, Dxs H vs ds → ds[i]? = some d → ∃ v, vs[i]? = some v ∧ Dx H v d
  | _, _, i, d, .nil, e => by simp at e
  | _, _, 0, d, .cons h _, e => by simp at e; subst e; exact ⟨_, rfl, h⟩
  | _, _, i + 1, d, .cons _ t, e => by
    obtain ⟨v, e1, h⟩ := Dxs.get (i := i) t (by simpa using e)
    exact ⟨v, by simpa using e1, h⟩
theorem Dxs.get' {H : Hp} : ∀ {vs : List V} {ds : List PyData} {i : Nat} {v : V}, Dxs H vs ds → vs[i]? = some v → ∃ d, ds[i]? = some d ∧ Dx H v d
  | _, _, i, d, .nil, e => by simp at e
  | _, _, 0, d, .cons h _, e => by simp at e; subst e; exact ⟨_, rfl, h⟩
  | _, _, i + 1, d, .cons _ t, e => by
    obtain ⟨v, e1, h⟩ := Dxs.get' (i := i) t (by simpa using e)
    exact ⟨v, by simpa using e1, h⟩
theorem Dxs.app {H : Hp} : ∀ {vs : List V} {ds : List PyData} {ws : List V} {es : List PyData}, Dxs H vs ds → Dxs H ws es → Dxs H (vs ++ ws) (ds ++ es)
  | _, _, _, _, .nil, h => h
  | _, _, _, _, .cons h t, k => .cons h (Dxs.app t k)
theorem Dxs.take {H : Hp} : ∀ {vs : List V} {ds : List PyData} (n : Nat), Dxs H vs ds → Dxs H (vs.take n) (ds.take n)
  | _, _, 0, _ => .nil
  | _, _, _ + 1, .nil => .nil
  | _, _, n + 1, .cons h t => .cons h (Dxs.take n t)
theorem Dxs.drop {H : Hp} : ∀ {vs : List V} {ds : List PyData} (n : Nat), Dxs H vs ds → Dxs H (vs.drop n) (ds.drop n)
  | _, _, 0, h => h
  | _, _, _ + 1, .nil => .nil
  | _, _, n + 1, .cons _ t => Dxs.drop n t
theorem Dxs.rev {H : Hp} : ∀ {vs : List V} {ds : List PyData}, Dxs H vs ds → Dxs H vs.reverse ds.reverse
  | _, _, .nil => .nil
  | _, _, .cons h t => by
    rw [List.reverse_cons, List.reverse_cons]
    exact (Dxs.rev t).app (.cons h .nil)

section
variable {X : Cx} {pins : List (Addr × Obj)} {σ : L2.St} {H : Hp} {s : Shared}
mutual
theorem Dx.reads (I : Inv X pins σ H s) : ∀ (d : PyData) (v : V) (u : Value), Dx H v d → RelV v u → ∃ as, Reads s.heap u d as ∧ sysModules ∉ as
  | .none, _, _, h, r => by
    cases h
    cases r
    exact ⟨_, Reads.none, by simp⟩
  | .bool b, _, _, h, r => by
    cases h
    cases r
    exact ⟨_, Reads.bool b, by simp⟩
  | .int i, _, _, h, r => by
    cases h
    obtain ⟨t, rfl⟩ := r
    exact ⟨_, Reads.int i t, by simp⟩
  | .str x, _, _, h, r => by
    cases h
    obtain ⟨t, rfl⟩ := r
    exact ⟨_, Reads.str x t, by simp⟩
  | .list ds, _, _, h, r => by
    cases h with
    | @lst a xs _ e ne h =>
      cases r
      have hs : SqL X.K H a xs := .inl (.inl e)
      obtain ⟨its, rv, ⟨o, n, ho, hc, _, hd⟩, _⟩ := I.list hs
      obtain ⟨as, hr, hn⟩ := Dxs.reads I ds _ its h rv
      refine ⟨_, Reads.list ho hc hd hr, fun z => ?_⟩
      rcases List.mem_cons.mp z with z | z
      · exact ne z.symm
      · exact hn z
  | .tuple ds, _, _, h, r => by
    cases h with
    | @tup a xs _ e h =>
      cases r
      have hs : SqT X.K H a xs := .inl (.inl e)
      obtain ⟨its, rv, ⟨o, ho, hc, n, hd⟩, _⟩ := I.tuple hs
      obtain ⟨as, hr, hn⟩ := Dxs.reads I ds _ its h rv
      exact ⟨_, Reads.tuple ho hc hd hr, hn⟩
  | .dict ks, _, _, h, r => by
    cases h with
    | @dic a e =>
      cases r
      obtain ⟨z, y, vs, r, o, es, ep, e1, ex, ed, hm⟩ := (show ObjOk X.prog X.w H s.heap a (.dK []) from I.hok a _ e)
      cases r
      have hes : es = #[] := by
        obtain ⟨es⟩ := es
        have hl := hm.2.1.length
        cases es with
        | nil => rfl
        | cons x l => simp at hl
      subst hes
      refine ⟨_, Reads.dict (kvs := []) e1 ex.1 ed .nil .nil, fun z => ?_⟩
      have z : sysModules = a := by simpa using z
      rw [z] at y
      simp at y
    | @dic1 a x i e =>
      cases r
      obtain ⟨z, y, vs, r, o, es, ep, e1, ex, ed, hm⟩ := (show ObjOk X.prog X.w H s.heap a (.dK [(.inr x, .int i)]) from I.hok a _ e)
      obtain ⟨es⟩ := es
      obtain ⟨_, hp, _⟩ := hm
      match vs, r, hp with
      | [(k, u)], .cons ⟨hk, tk, hu⟩ .nil, hp =>
        dsimp only at hk hu
        subst hk hu
        match es, hp, ed with
        | [en], .cons a1 a2 .nil, ed =>
          have a1' : keyIs (Sum.inr x) en.key = true := a1
          obtain ⟨q, t, hq1, hq2⟩ := (keyIs_shape a1').resolve_left (fun z => by obtain ⟨_, _, z, _⟩ := z; cases z)
          cases hq1
          refine ⟨_, Reads.dict (kvs := [(.str x, .int i)]) (as := []) (bs := []) e1 ex.1 ed ?_ ?_, fun z => ?_⟩
          · show ReadsAll s.heap [en.key] [PyData.str x] _
            rw [hq2]
            exact ReadsAll.cons (as := []) (bs := []) (.str x t) .nil
          · show ReadsAll s.heap [en.val] [PyData.int i] _
            rw [a2]
            exact ReadsAll.cons (as := []) (bs := []) (.int i tk) .nil
          · have z : sysModules = a := by simpa using z
            rw [z] at y
            simp at y
theorem Dxs.reads (I : Inv X pins σ H s) : ∀ (ds : List PyData) (vs : List V) (us : List Value), Dxs H vs ds → Vals vs us → ∃ as, ReadsAll s.heap us ds as ∧ sysModules ∉ as
  | [], _, _, h, r => by
    cases h
    cases r
    exact ⟨_, ReadsAll.nil, by simp⟩
  | d :: ds, _, _, h, r => by
    cases h with
    | cons h1 h2 =>
      cases r with
      | cons r1 r2 =>
        obtain ⟨as, q1, n1⟩ := Dx.reads I d _ _ h1 r1
        obtain ⟨bs, q2, n2⟩ := Dxs.reads I ds _ _ h2 r2
        exact ⟨_, ReadsAll.cons q1 q2, by simp [n1, n2]⟩
end
/-- a new address is none of the first ones -/
theorem new_big (I : Inv X pins σ H s) {p : Addr} (h : s.heap.objs.size ≤ p) : p ≠ sysModules := by
  intro z
  have h1 : mainGlobals < X.base.objs.size := I.ok.mod.glob.lt
  have h2 := I.ok.bsz
  have h3 := I.sz
  have h4 : sysModules < mainGlobals := by decide
  rw [z] at h
  exact absurd (Nat.lt_of_lt_of_le h4 (Nat.le_trans (Nat.le_of_lt h1) (Nat.le_trans h2 (Nat.le_trans h3 h)))) (Nat.lt_irrefl _)
end

section
variable {X : Cx}
/-- a list that is written, its address none of the first -/
def tLstS (t : TA) : TE := fun σ H Q => t σ H fun xs H1 => xs.length ≤ sizeLine ∧ ∀ p, H1 p = none → p ≠ sysModules → Q (.ref p) (upd H1 p (.lst xs))
theorem pe_lstS {es : List Expr} {t : TA} {pos : Pos} (ha : PA X es t) : PE X (.List es pos) (tLstS t) := by
  constructor
  intro pins s σ H Q I hq
  refine wpAny_List_spliced (thn (ha.run pos pins s σ H _ I hq) fun us s1 hh => ?_)
  obtain ⟨xs, H1, I1, r, z, q⟩ := hh
  have nf : H1 s1.heap.objs.size = none := I1.hok.fresh (Nat.le_refl _)
  refine ⟨by rw [← r.length]; exact z, .ref s1.heap.objs.size, upd H1 s1.heap.objs.size (.lst xs), ?_, rfl, q _ nf (new_big I1 (Nat.le_refl _))⟩
  exact I1.laid (t' := s1.toks) (fun b u e => Heap.get?_push_of_some _ e) (Nat.le_refl _) ⟨z, us, 0, r, Heap.get?_push_size _ rfl⟩
/-- list(t), t a tuple or a list of data -/
theorem call_listS : CallR X (.type "list") (fun xs H Q => ∃ p ys, xs = [.ref p] ∧ (SqL X.K H p ys ∨ SqT X.K H p ys) ∧ ∀ l, H l = none → l ≠ sysModules → Q (.ref l) (upd H l (.lst ys))) := by
  intro pins s σ H xs us Q I r h
  obtain ⟨p, ys, e, hq, q⟩ := h
  subst e
  obtain ⟨u, rfl, rx⟩ := vals1 r
  cases rx
  have nf : H s.heap.objs.size = none := I.hok.fresh (Nat.le_refl _)
  have fin : ∀ (its : List Value), Vals ys its → ys.length ≤ sizeLine → ∀ (g : Heap) (c : Nat), (∀ b o', s.heap.get? b = some o' → g.get? b = some o') →
      g.get? s.heap.objs.size = some { cls := .type "list", dict := none, data := .seq its.toArray c, slots := #[] } → EP X pins σ Q (.ref s.heap.objs.size) { s with heap := g } := by
    intro its rv hz g c kp e
    refine ⟨.ref s.heap.objs.size, _, I.laid (t' := s.toks) kp (Nat.le_refl _) (o := .lst ys) ⟨hz, its, c, rv, e⟩, rfl, q _ nf (new_big I (Nat.le_refl _))⟩
  rcases hq with hq | hq
  · obtain ⟨its, rv, pl, hz⟩ := I.list hq
    have hlen := rv.length
    obtain ⟨o, ho, hc, n, hd⟩ := pl.isList
    exact call_list_seq p (.inl rfl) ho hc hd (fun g c kp e => fin its rv hz g c kp e) (by simp only [List.size_toArray] <;> omega)
  · obtain ⟨its, rv, pl, hz⟩ := I.tuple hq
    have hlen := rv.length
    obtain ⟨o, ho, hc, n, hd⟩ := pl
    exact call_list_seq p (.inr rfl) ho hc hd (fun g c kp e => fin its rv hz g c kp e) (by simp only [List.size_toArray] <;> omega)
/-- repr(x), x data -/
def rReprD : List V → Hp → VK → Prop := fun xs H Q => ∃ x d, xs = [x] ∧ Dx H x d ∧ d.showable = true ∧ d.depth ≤ 100 ∧ d.shown.length ≤ sizeLine ∧ Q (.str d.shown) H
theorem call_reprD {k : Nat} (hr : Room k X.A) (hg : X.A.guards = some []) : CallR X (.builtin "repr") rReprD := by
  intro pins s σ H xs us Q I r h
  obtain ⟨x, d, e, hd, hs, hdp, hz, q⟩ := h
  subst e
  obtain ⟨u, rfl, rx⟩ := vals1 r
  obtain ⟨as, hrd, hn⟩ := Dx.reads I d x u hd rx
  have hu := hr.un
  have fin : ∀ h' u' tk, (∀ b o, s.heap.get? b = some o → h'.get? b = some o) → EP X pins σ Q (.str d.shown u') { s with heap := h', toks := tk } := fun h' u' tk hk =>
    ⟨.str d.shown, H, I.kept (t' := tk) hk, ⟨_, rfl⟩, q⟩
  cases hd with
  | non =>
    cases (show u = Value.none from rx)
    simp only [PyData.shown] at fin
    exact PySem.P.repr_of_none (fin _ _ _ fun _ _ e => e)
  | bl b =>
    cases (show u = Value.bool b from rx)
    simp only [PyData.shown] at fin
    exact PySem.P.repr_of_bool (fin _ _ _ fun _ _ e => e)
  | int i =>
    obtain ⟨t, z⟩ := (show ∃ t, u = Value.int i t from rx)
    cases z
    simp only [PyData.shown] at fin
    exact PySem.P.repr_of_int (by simpa [PyData.showable] using hs) (fin _ _ _ fun _ _ e => e)
  | str y =>
    obtain ⟨t, z⟩ := (show ∃ t, u = Value.str y t from rx)
    cases z
    simp only [PyData.shown] at fin hz
    exact PySem.P.repr_of_str (fin _ _ _ fun _ _ e => e) hz
  | lst e n h =>
    cases (show u = Value.ref _ from rx)
    exact repr_of_reads' hrd hs (fun _ => hn) hg (by omega) (fun _ _ e => e) fin hz
  | tup e h =>
    cases (show u = Value.ref _ from rx)
    exact repr_of_reads' hrd hs (fun _ => hn) hg (by omega) (fun _ _ e => e) fin hz
  | dic e =>
    cases (show u = Value.ref _ from rx)
    exact repr_of_reads' hrd hs (fun _ => hn) hg (by omega) (fun _ _ e => e) fin hz
  | dic1 e =>
    cases (show u = Value.ref _ from rx)
    exact repr_of_reads' hrd hs (fun _ => hn) hg (by omega) (fun _ _ e => e) fin hz
end
end KX

set_option maxRecDepth 100000
set_option maxHeartbeats 4000000
namespace KX
open PySem PySem.Spec PyProof.Rows L2 HT
section
variable {prog : Program} {w : World} {A : Around} {E : Value → Shared → Prop} {s : Shared}
theorem rev_adjust (n : Nat) : Builtin.Slice.sliceAdjust none none (-1) (n : Int) = ((n : Int) - 1, -1) := by
  unfold Builtin.Slice.sliceAdjust
  simp
theorem rev_places (n : Nat) : Builtin.Slice.slicePlaces ((n : Int) - 1) (-1) (-1) = n := by
  unfold Builtin.Slice.slicePlaces
  rw [if_neg (by decide)]
  by_cases h : (n : Int) - 1 > -1
  · rw [if_pos h]
    have : ((n : Int) - 1 - -1 - 1) / (- -1) + 1 = (n : Int) := by
      rw [show (- -1 : Int) = 1 by decide, Int.ediv_one]
      omega
    rw [this, Int.toNat_natCast]
  · rw [if_neg h]
    have : n = 0 := by omega
    subst this
    rfl
theorem rev_pick (xs : Array Value) : ((List.range xs.size).filterMap fun (k : Nat) => xs[(((xs.size : Nat) : Int) - 1 + (k : Int) * (-1)).toNat]?).toArray = xs.toList.reverse.toArray := by
  have e : (fun (k : Nat) => xs[(((xs.size : Nat) : Int) - 1 + (k : Int) * (-1)).toNat]?) = fun (k : Nat) => xs[xs.size - 1 - k]? := by
    funext k
    have : (((xs.size : Nat) : Int) - 1 + (k : Int) * (-1)).toNat = xs.size - 1 - k := by omega
    rw [this]
  rw [e]
  have e2 : (fun (k : Nat) => xs[xs.size - 1 - k]?) = (fun i => xs[i]?) ∘ fun k => xs.size - 1 - k := rfl
  rw [e2, ← List.filterMap_map, PySem.W.krv_range, List.filterMap_reverse, PySem.W.krv_all]
theorem applied_rev {sl : Addr} {vs : Value} {n : Nat} {Q : Int × Int × Nat → Shared → Prop} (hs : s.heap.IsSliceOf sl .none .none vs) (ps : IsPart vs (some (-1)))
    (h : Q ((n : Int) - 1, -1, n) s) : wpAny (model prog w) A (Builtin.Slice.sliceApplied (.ref sl) (pure (n : Int))) Q E s := by
  obtain ⟨os, hos, hcs, hds⟩ := id hs
  unfold Builtin.Slice.sliceApplied Builtin.Slice.sliceFields
  refine wpAny_bind (wpAny_bind (wpAny_field hos hds (x := .none) rfl (wpAny_bind (wpAny_field hos hds (x := .none) rfl (wpAny_bind (wpAny_field hos hds (x := vs) rfl (wpAny_pure ?_)))))))
  refine wpAny_bind (slicePart_ ps ?_)
  show wpAny _ _ (if ((-1 : Int) == 0) = true then _ else _) _ _ s
  rw [if_neg (by decide)]
  refine wpAny_bind (slicePart_none (wpAny_bind (slicePart_none (wpAny_bind (wpAny_pure ?_)))))
  show wpAny _ _ (match Builtin.Slice.sliceAdjust none none (-1) (n : Int) with | (lo, hi) => pure (lo, (-1 : Int), Builtin.Slice.slicePlaces lo hi (-1))) _ _ s
  rw [rev_adjust n]
  show wpAny _ _ (pure ((n : Int) - 1, (-1 : Int), Builtin.Slice.slicePlaces ((n : Int) - 1) (-1) (-1))) _ _ s
  rw [rev_places]
  exact wpAny_pure h
theorem getItem_tuple_rev {t sl : Addr} {items : Array Value} {vs : Value} {Q : Value → Shared → Prop} (ht : IsTup s.heap t items) (hs : s.heap.IsSliceOf sl .none .none vs) (ps : IsPart vs (some (-1)))
    (h : Q (.ref s.heap.objs.size) { s with heap := s.heap.push { cls := .type "tuple", data := .seq items.toList.reverse.toArray } })
    (hsz : items.size ≤ sizeLine) : wpAny (model prog w) A (getItem (.ref t) (.ref sl)) Q E s := by
  have htk : sizeOk (.seq items.toList.reverse.toArray) := by
    show items.toList.reverse.toArray.size ≤ sizeLine
    rw [List.size_toArray, List.length_reverse, Array.length_toList]
    exact hsz
  obtain ⟨os, hos, hcs, hds⟩ := id hs
  have hTs : s.TypeIs (.ref sl) "slice" := ⟨os, hos, hcs⟩
  unfold getItem
  try with_reducible refine wpAny_holding ?_
  first | refine wpAny_bind (wpAny_pure ?_) | skip
  refine wpAny_bind (wpAny_sequenceKey ht.typeIs (by decide) ?_)
  refine wpAny_bind (wpAny_callSpecial?_slot (name := Str.ofString "__getitem__") ht.typeIs PyProof.Rows.slot_tuple_getitem
    (wpAny_call_entry PyProof.Rows.slot_tuple_getitem ht.typeIs entry_tuple_getitem ?_ (args_tuple_getitem _ _)))
  show wpAny _ _ (Builtin.Tuple.tupleItemsOf (.ref t) >>= _) _ _ s
  refine wpAny_bind (tupleItemsOf_ ht ?_)
  refine wpAny_bind (wpAny_typeOf hTs ?_)
  rw [if_pos (by decide)]
  refine wpAny_bind (applied_rev hs ps ?_)
  have hno : ¬ ((((items.size : Nat) : Int) - 1 == 0 && (-1 : Int) == 1 && items.size == items.size) = true) := by
    intro q
    rw [Bool.and_eq_true, Bool.and_eq_true] at q
    exact absurd q.1.2 (by decide)
  show wpAny _ _ (if (((items.size : Nat) : Int) - 1 == 0 && (-1 : Int) == 1 && items.size == items.size) = true then _ else _) _ _ s
  rw [if_neg hno, rev_pick]
  first
    | exact wpAny_bind (m := Builtin.Tuple.tupleExact _) (wpAny_newObj_type (wpAny_pure ⟨_, rfl, wpAny_pure h⟩) htk)
    | exact wpAny_bind (m := Builtin.Tuple.tupleExact _) (wpAny_newObj_type (wpAny_bind (wpAny_pure (wpAny_pure ⟨_, rfl, wpAny_pure h⟩))) htk)
    | exact wpAny_bind (wpAny_bind (m := Builtin.Tuple.tupleExact _) (wpAny_newObj_type (wpAny_pure (wpAny_pure ⟨_, rfl, wpAny_pure h⟩)) htk))
    | exact wpAny_bind (wpAny_bind (m := Builtin.Tuple.tupleExact _) (wpAny_newObj_type (wpAny_pure ⟨_, rfl, wpAny_pure h⟩) htk))
end
section
variable {X : Cx}
/-- t[::-1], t a tuple: a new tuple -/
def tRevT (K : PySem.W.Frag) (te : TE) : TE := fun σ H Q => te σ H fun x H1 => ∃ a xs, x = .ref a ∧ SqT K H1 a xs ∧ ∀ p, H1 p = none → Q (.ref p) (upd H1 p (.tup xs.reverse))
theorem pe_revT {e : Expr} {te : TE} {k : Nat} {p1 p2 p3 pos : Pos} (he : PE X e te) : PE X (.Subscript e (.Slice none none (some (.UnaryOp .USub (.Constant (.int 1) k p1) p2)) p3) pos) (tRevT X.K te) := by
  constructor
  intro pins s σ H Q I h
  refine Subscript_ (thn (he.run pins s σ H _ I h) fun v s1 hh => ?_)
  obtain ⟨x, H1, I1, r1, a, xs, ex, hx, q⟩ := hh
  subst ex
  cases r1
  have hst : PO X (some (.UnaryOp .USub (.Constant (.int 1) k p1) p2)) (tPart (tUn (rU fun i => .int (-i)) (tC (.int 1)))) := po_some (pe_un un_neg pe_int)
  refine wpAny_Slice (thn (po_none.run pins s1 σ H1 (fun o H2 => o = none ∧ H2 = H1) I1 ⟨rfl, rfl⟩) fun vl s2 hh2 => ?_)
  obtain ⟨l, H2, I2, pl, el, e2⟩ := hh2
  subst el e2
  refine thn (po_none.run pins s2 σ H2 (fun o H3 => o = none ∧ H3 = H2) I2 ⟨rfl, rfl⟩) fun vu s3 hh3 => ?_
  obtain ⟨u, H3, I3, pu, eu, e3⟩ := hh3
  subst eu e3
  refine thn (hst.run pins s3 σ H3 (fun o H4 => o = some (-1) ∧ H4 = H3) I3 ⟨1, rfl, -1, rfl, rfl, rfl⟩) fun vs s4 hh4 => ?_
  obtain ⟨o, H4, I4, ps, eo, e4⟩ := hh4
  subst eo e4
  cases pl
  cases pu
  have I5 : Inv X pins σ H4 { s4 with heap := s4.heap.push { cls := .type "slice", data := .fields #[.none, .none, vs] } } := I4.kept (t' := s4.toks) fun b ob q => Heap.get?_push_of_some _ q
  obtain ⟨its, r, ht, hz⟩ := I5.tuple hx
  have hlen := r.length
  show wpAny (model X.prog X.w) X.A (subscriptTail e (.Slice none none (some (.UnaryOp .USub (.Constant (.int 1) k p1) p2)) p3) (.ref a) (.ref s4.heap.objs.size)) (EP X pins σ Q) X.xe { s4 with heap := s4.heap.push { cls := .type "slice", data := .fields #[.none, .none, vs] } }
  refine tail_any (ops := [.ref a, .ref s4.heap.objs.size]) ht.typeIs (PyProof.Rows.slot_tuple_getitem.lookup) ?_ (by with_unfolding_all rfl)
  refine getItem_tuple_rev ht (Heap.IsSliceOf.new _ .none .none vs) ps ?_ (by rw [List.size_toArray]; omega)
  refine ⟨.ref _, _, I5.laid (t' := s4.toks) (o := .tup xs.reverse) (fun b ob q => Heap.get?_push_of_some _ q) (Nat.le_refl _) ?_, rfl, q _ (I5.hok.fresh (Nat.le_refl _))⟩
  exact ⟨by rw [List.length_reverse]; exact hz, _, r.reverse, IsTup.new _ _⟩
/-- a power, great -/
theorem op_powW : OpR X (binaryOp .Pow) (rI (fun i j => 0 ≤ j ∧ (Builtin.Int.intBits i : Int) * j ≤ 2 ^ 27) fun i j => .int (i ^ j.toNat)) := opI fun _ _ _ _ _ _ _ hc q => pow_int hc.1 hc.2 q
end
end KX

set_option maxRecDepth 100000
set_option maxHeartbeats 4000000
namespace KX
open PySem PySem.Spec PyProof.Rows L2
/-! ### a def that shows data (repr): its promise where no repr runs around it -/
structure FnG (P : Program) (w : World) (K : PySem.W.Frag) (mg : Str → Option Value) (base : Heap) (CX : CXT) (k : Nat) (f : Addr) (fd : FuncData) (ps : List Str) (sp : Sp) : Prop where
  len : ∀ vs H Q E, sp vs H Q E → vs.length = ps.length
  run : ∀ (B : Around) (outs : List Env) (t : Shared) (H : Hp) (given : Args) (us : List Value) (vs : List V) (Q : VK) (E : XK), B.guards = some [] → Room k B → Env0 P w K mg base B outs t H →
    BindsTo t fd given (ps.zip us) → Vals vs us → sp vs H Q E → codeAny (model P w) B (.call (.ref f) given) (CR CX outs P w H t Q E) t
theorem FnG.mono {P : Program} {w : World} {K : PySem.W.Frag} {mg : Str → Option Value} {base : Heap} {CX : CXT} {j k : Nat} {f : Addr} {fd : FuncData} {ps : List Str} {sp : Sp} (F : FnG P w K mg base CX j f fd ps sp) (h : j ≤ k) :
    FnG P w K mg base CX k f fd ps sp := ⟨F.len, fun B outs t H given us vs Q E hg hr => F.run B outs t H given us vs Q E hg (hr.mono h)⟩
section
variable {X : Cx} {CX : CXT} {k : Nat} {f : Addr} {fd : FuncData} {ps : List Str} {sp : Sp} {dvs : List V} {ds : List Value} {E : XK} {x : Str} {p pos : Pos} {e : Expr} {es : List Expr} {t : TA}
theorem run_fnG {pins : List (Addr × Obj)} {σ : L2.St} {H : Hp} {s : Shared} {Q : VK} {us : List Value} {vs : List V} (F : FnG X.prog X.w X.K X.mg X.base CX k f fd ps sp) (hg : X.A.guards = some []) (hr : Room k X.A) (hb : Binds X.K fd ps ds)
    (hd : Vals dvs ds) (hx : Passes CX X E) (I : Inv X pins σ H s) (r : Vals vs us) (h : sp (vs ++ dvs) H Q E) : wpAny (model X.prog X.w) X.A (call (.ref f) us) (EP X pins σ Q) X.xe s := by
  have r2 : Vals (vs ++ dvs) (us ++ ds) := r.append hd
  have hl : (us ++ ds).length = ps.length := by
    rw [← r2.length]
    exact F.len _ _ _ _ h
  refine wpAny_call (codeAny_mono (F.run X.A X.stack s H ⟨us, []⟩ (us ++ ds) (vs ++ dvs) Q E hg hr I.env0 (hb s us I.kIn hl) r2 h) fun r s' hq => ?_)
  match r, hq with
  | .error e, hq => exact hx pins σ H s e s' I hq
  | .ok (.ret u), hq => exact I.after hq
theorem pe_callG (F : FnG X.prog X.w X.K X.mg X.base CX k f fd ps sp) (hgd : X.A.guards = some []) (hr : Room k X.A) (hg : Gl X x) (hm : X.mg x = some (.ref f)) (hk : PySem.W.keepIn X.K (.ref f) = true) (hb : Binds X.K fd ps ds)
    (hd : Vals dvs ds) (hx : Passes CX X E) (ha : PA X (e :: es) t) (hdb : (x == ("__debug__" : Str)) = false := by decide) (he : starEach (e :: es) X.env = (false, eval e X.env) :: starEach es X.env := by rfl)
    (hpl : (backTo pos (starEach es X.env)).any (·.1) = false := by rfl) : PE X (.Call (.Name x p) (e :: es) [] pos) (tCall sp dvs E t) := by
  constructor
  intro pins s σ H Q I h
  refine wpAny_Call_Name_kw (ld_glob I hg hm ?_ hdb)
  refine PySem.W.callWith_K (h₀ := X.base) I.ok.mod.kin hk (thn (ha.run pos pins s σ H _ I h) fun us s1 hh => ?_) he hpl
  obtain ⟨vs, H1, I1, r, q⟩ := hh
  exact ⟨I1.kIn, run_fnG F hgd hr hb hd hx I1 r q⟩
end
/-- a def of the text, where no repr runs around it -/
theorem fn_ofG {CX : CXT} {P : Program} {w : World} {K : PySem.W.Frag} {mg : Str → Option Value} {base : Heap} {k : Nat} {f : Addr} {name qual : Str} {params : Arguments} {body : List Stmt} {scope : Scope} {dV kV doc pm cdv ct oc : Value}
    {an od : Option Addr} {osl : Array (Option Value)} {N ps : List Str} {sp : Sp} (lk : K.lookup f = some ⟨oc, od, .func (PySem.W.fnOf name qual params body scope dV kV doc pm an cdv ct), osl⟩) (hcd : PySem.W.codeIn K cdv qual = true)
    (S : FnScope N ps scope) (len : ∀ vs H Q E, sp vs H Q E → vs.length = ps.length)
    (hbody : ∀ (B : Around) (outs : List Env) (s : Shared) (H : Hp) (vs : List V) (Q : VK) (E : XK), (B.deeper (envOfC qual scope s.heap.objs.size f cdv)).guards = some [] → Room k (B.deeper (envOfC qual scope s.heap.objs.size f cdv)) → sp vs H Q E →
      ∃ t, PSs (cxOf CX P w K mg base N qual scope f cdv B outs s H E) body t ∧ t { nx := fun _ H' => Q .non H', rt := Q } (start N vs) H) :
    FnG P w K mg base CX (k + 1) f (PySem.W.fnOf name qual params body scope dV kV doc pm an cdv ct) ps sp := by
  refine ⟨len, fun B outs s H given us vs Q E hg hr e0 hb r hsp => ?_⟩
  have hl := len _ _ _ _ hsp
  have KX : K.In s.heap := e0.mod.kin.keeps fun b o e => (e0.bs b o e).1
  have lim : s.heap.NoLimit := e0.mod.nolimit.keeps fun b o e => (e0.bs b o e).1
  have hkind : ∀ y ∈ ps.zip us, scope.names.lookup y.1 = some .local ∨ (scope.names.lookup y.1 = some .cell ∧ ((cellsFrom (s.heap.objs.size + 1) scope.names []).lookup y.1).isSome = true) := by
    rintro ⟨n, v⟩ hy
    rcases S.par n (List.of_mem_zip hy).1 with q | q
    · exact .inl q
    · exact .inr ⟨q, PySem.W.cellsFrom_some _ _ _ (.inl q)⟩
  refine codeAny_call_function hr.depth (KX _ _ lk) rfl S.co S.gen rfl (PySem.W.codeRec_of KX hcd) (hb _ _ _ _ ?_)
  refine wpAny_newFunctionEnv_cells S.kind hkind fun env he s1 x => ?_
  subst he
  refine ⟨lim.keeps x.toInCall.keep, codeAny_func ?_⟩
  obtain ⟨t, ht, hq⟩ := hbody B outs s H vs Q E hg (hr.deeper _) hsp
  have I : Inv (cxOf CX P w K mg base N qual scope f cdv B outs s H E) [] (start N vs) H s1 := inv_start S hr.hd e0 hl r x
  refine wpAny_mono (ht.run [] s1 (start N vs) H _ I hq) (fun fl s' hs => ?_) fun e s' hs => hs
  match fl, hs with
  | .ret u, hs =>
    obtain ⟨v, σ', H', J, rv, q⟩ := hs
    exact ⟨v, H', J.os, J.bare, J.base, J.hok, rv, q⟩
  | .next, hs =>
    obtain ⟨σ', H', J, q⟩ := hs
    exact ⟨V.non, H', J.os, J.bare, J.base, J.hok, rfl, q⟩
  | .brk, hs =>
    obtain ⟨_, _, _, q⟩ := hs
    exact False.elim q
  | .cont, hs =>
    obtain ⟨_, _, _, q⟩ := hs
    exact False.elim q
theorem okG {P : Program} {w : World} {K : PySem.W.Frag} {mg : Str → Option Value} {base : Heap} {x qual : Str} {st : Stmt} {f : Addr} {fd : FuncData} {N ps : List Str} {k : Nat} {sp : Sp} (F : Fun K x qual st f fd) (S : FnScope N ps (defScope st))
    (len : ∀ vs H Q E, sp vs H Q E → vs.length = ps.length)
    (hbody : ∀ (cdv : Value) (B : Around) (outs : List Env) (s : Shared) (H : Hp) (vs : List V) (Q : VK) (E : XK), (B.deeper (envOfC qual (defScope st) s.heap.objs.size f cdv)).guards = some [] → Room k (B.deeper (envOfC qual (defScope st) s.heap.objs.size f cdv)) →
      sp vs H Q E → ∃ t, PSs (cxOf CX0 P w K mg base N qual (defScope st) f cdv B outs s H E).nox (defBody st) t ∧ t { nx := fun _ H' => Q .non H', rt := Q } (start N vs) H) : FnG P w K mg base CX0 (k + 1) f fd ps sp := by
  obtain ⟨oc, od, kV, doc, pm, an, cdv, ct, osl, rfl, lk, hcd⟩ := F.ex
  refine fn_ofG lk hcd S len fun B outs s H vs Q E hg hr hsp => ?_
  obtain ⟨t, h, q⟩ := hbody cdv B outs s H vs Q E hg hr hsp
  exact ⟨t, h.nox, q⟩

/-! ### the law's call -/
theorem lawG {P : Program} {w : World} {K : PySem.W.Frag} {mg mb : Str → Option Value} {k : Nat} {fa a : Addr} {fd : FuncData} {x : Str} {sp : Sp} {s1 : Shared} {vs : List Value} {ns : List Int}
    (KX : K.In s1.heap) (hns : s1.heap.Ns mainGlobals mg) (hb : s1.heap.Ns builtinsNs mb) (hbb : ∀ x : Str, x ≠ "__name__" → mb x = bootBuiltins x) (hlim : s1.heap.NoLimit) (hg : s1.gens = #[])
    (ha : s1.heap.get? a = some { cls := .type "list", data := .seq vs.toArray }) (hi : IntsAre vs ns) (hl : ns.length ≤ sizeLine) (hr : Room k callerA)
    (F : ∀ base : Heap, K.In base → base.Ns mainGlobals mg → FnG P w K mg base CX0 k fa fd [x] sp) (hbind : ∀ (s : Shared) (u : Value), BindsTo s fd ⟨[u], []⟩ [(x, u)])
    (hsp : ∀ H : Hp, SqL K H a (ns.map V.int) → (∀ b o, H b = some o → ∃ ob u, o = .frz ob u) → sp [.ref a] H (fun v _ => v = .bl true) fun _ _ _ => False) :
    codeAny (model P w) callerA (.call (.ref fa) ⟨[.ref a], []⟩) (fun r s' => r = .ok (.ret (.bool true)) ∧ OldK s1.heap s'.heap ∧ s'.os = s1.os ∧ AllBare s'.gens) s1 := by
  have rv := vals_ints hi
  have lenV := hi.length
  -- the script at a, known to the object, where it is no object of the module; nothing else
  have main : ∀ H : Hp, (∀ b o, H b = some o → b = a ∧ K.lookup a = none ∧ o = .frz { cls := .type "list", data := .seq vs.toArray } (.lst (ns.map V.int))) → SqL K H a (ns.map V.int) →
      codeAny (model P w) callerA (.call (.ref fa) ⟨[.ref a], []⟩) (fun r s' => r = .ok (.ret (.bool true)) ∧ OldK s1.heap s'.heap ∧ s'.os = s1.os ∧ AllBare s'.gens) s1 := by
    intro H hO hS
    have hok : HOk P w H s1.heap := fun b o e => by
      obtain ⟨e1, _, e2⟩ := hO b o e
      subst e1 e2
      exact ⟨ha, by rw [List.length_map]; exact hl, vs, _, rv, ha⟩
    have keep : ∀ {b : Addr} {o : Obj}, s1.heap.get? b = some o → (b = a → False) → (hidT s1.heap H).get? b = some o := fun {b o} e n => hidT_get e (by
      cases q : H b with
      | none => rfl
      | some u => exact (n (hO b u q).1).elim)
    have nsK : ∀ {b : Addr} {m : Str → Option Value}, s1.heap.Ns b m → (hidT s1.heap H).Ns b m := fun {b m} hn => by
      obtain ⟨o, es, ep, e, d, r⟩ := hn
      refine ⟨o, es, ep, keep e fun z => ?_, d, r⟩
      subst z
      rw [ha] at e
      cases e
      cases d
    have hKb : K.In (hidT s1.heap H) := fun b o e => hidT_get (KX b o e) (by
      cases q : H b with
      | none => rfl
      | some u =>
        obtain ⟨e1, e2, _⟩ := hO b u q
        rw [e1, e2] at e
        cases e)
    have hM : Mod K mg (hidT s1.heap H) := ⟨hKb, nsK hns, ⟨mb, nsK hb, hbb⟩, let ⟨mc, h1, h2⟩ := hlim; ⟨mc, nsK h1, h2⟩⟩
    have e0 : Env0 P w K mg (hidT s1.heap H) callerA [] s1 H := ⟨rfl, hM, fun b o e => of_hidT e, Nat.le_of_eq (hidT_size _ _), trivial, fun b hb => absurd (show b ∈ ([] : List Addr) from hb) (by simp), hok, .of_eq hg⟩
    have fr : ∀ b o, H b = some o → ∃ ob u, o = .frz ob u := fun b o e => ⟨_, _, (hO b o e).2.2⟩
    refine codeAny_mono ((F _ hKb (nsK hns)).run callerA [] s1 H ⟨[.ref a], []⟩ [.ref a] [.ref a] _ _ rfl hr e0 (hbind s1 (.ref a)) (.cons rfl .nil) (hsp H hS fr)) fun r s' h => ?_
    match r, h with
    | .error e, h => exact h.elim
    | .ok (.ret u), h =>
      obtain ⟨v, H', os, bare, un, hok', r', q⟩ := h
      have q' : v = .bl true := q
      subst q'
      obtain rfl : u = Value.bool true := r'
      refine ⟨rfl, OldK.of_keep fun b o e => ?_, os, bare⟩
      cases q : H b with
      | none => exact un.keep b o e q (fun z => absurd (show b ∈ ([] : List Addr) from z) (by simp)) (by simp)
      | some u =>
        obtain ⟨e1, _, e2⟩ := hO b u q
        rw [e2] at q
        obtain ⟨f1, _⟩ := hok b _ q
        obtain ⟨f2, _⟩ := hok' b _ (un.frzs b _ _ q)
        rw [e] at f1
        cases f1
        exact f2
  cases hk : K.lookup a with
  | some o =>
    have e := KX a o hk
    rw [ha] at e
    cases e
    exact main (fun _ => none) (fun b u z => by cases (show (none : Option HO) = some u from z)) (.inr ⟨_, vs.toArray, _, hk, rfl, rfl, rfl, by rw [List.size_toArray, lenV]; exact hl, by simpa using rv⟩)
  | none =>
    refine main (fun b => if b = a then some (.frz { cls := .type "list", data := .seq vs.toArray } (.lst (ns.map V.int))) else none) (fun b u z => ?_) (.inl (.inr ⟨_, if_pos rfl⟩))
    by_cases hb : b = a
    · have z' := (if_pos hb).symm.trans z
      cases z'
      exact ⟨hb, hk, rfl⟩
    · have z' := (if_neg hb).symm.trans z
      cases z'
theorem walkG {l : PySem.W.OpenLaw} {n k : Nat} {q : Program} {loose : List Str} {XP : (Str → Option Value) → Heap → Prop} {YP : World → Heap → Prop} {d : DefRec} {K : Params → PySem.W.Frag} {sp : PySem.W.Frag → Sp} {x : Str}
    (hn : l.most = some n) (hn2 : n ≤ sizeLine) (hdf : d.params.defaults = []) (hr : Room k callerA) (hY : ∀ (w : World) (h : Heap), YP w h → (K w.params).In h)
    (F : ∀ (w : World) (mg : Str → Option Value) (fa : Addr) (h : Heap), (K w.params).In h → h.Ns mainGlobals mg → mg d.name = some (.ref fa) →
      ∃ fd : FuncData, (∀ (s : Shared) (u : Value), BindsTo s fd ⟨[u], []⟩ [(x, u)]) ∧ ∀ base : Heap, (K w.params).In base → base.Ns mainGlobals mg → FnG l.prog w (K w.params) mg base CX0 k fa fd [x] (sp (K w.params)))
    (hsp : ∀ (K : PySem.W.Frag) (H : Hp) (a : Addr) (ns : List Int), ns.length ≤ n → SqL K H a (ns.map V.int) → (∀ b o, H b = some o → ∃ ob u, o = .frz ob u) → sp K [.ref a] H (fun v _ => v = .bl true) fun _ _ _ => False) :
    PySem.W.WalkO q loose XP YP l.row.toRowW d [] (fun f vs => PySem.call f vs) := by
  refine Att.attach_call hn hdf fun w s₀ s1 mg mb fa o pm cd doc a vs ns G Y ho hd hcd hmg hobj hints hlen hg => ?_
  have KX := hY w _ Y
  obtain ⟨fd, hb, hF⟩ := F w mg fa _ KX G.T.g hmg
  exact lawG KX G.T.g G.T.b G.T.builtins G.T.nolimit hg hobj hints (Nat.le_trans hlen hn2) hr hF hb fun H hS hO => hsp (K w.params) H a ns hlen hS hO
end KX

set_option maxRecDepth 100000
set_option maxHeartbeats 4000000
namespace KX
open PySem PySem.Spec PyProof.Rows L2
section
variable {X : Cx}
/-- == and != of data without dicts -/
def rEqP (K : PySem.W.Frag) (f : Bool → Bool) : R2 := fun x y H Q => ∃ d e, Dp K H x d ∧ Dp K H y e ∧ d.plain = true ∧ e.plain = true ∧ min d.depth e.depth ≤ 64 ∧ Q (.bl (f (PyData.eqv d e))) H
theorem op_eqP (hu : X.A.units + 64 < cLine) : OpR X (compareOp .Eq) (rEqP X.K id) := by
  intro pins s σ H x y v u Q I rx ry h
  obtain ⟨d, e, hd, he, pd, pe, hm, q⟩ := h
  obtain ⟨as, r1⟩ := Dp.reads I d x v hd rx
  obtain ⟨bs, r2⟩ := Dp.reads I e y u he ry
  exact SeqAt.eq_plain r1 r2 pd pe (by omega) ⟨.bl _, H, I, rfl, q⟩
theorem op_neP (hu : X.A.units + 64 < cLine) : OpR X (compareOp .NotEq) (rEqP X.K not) := by
  intro pins s σ H x y v u Q I rx ry h
  obtain ⟨d, e, hd, he, pd, pe, hm, q⟩ := h
  obtain ⟨as, r1⟩ := Dp.reads I d x v hd rx
  obtain ⟨bs, r2⟩ := Dp.reads I e y u he ry
  exact SeqAt.ne_plain r1 r2 pd pe (by omega) ⟨.bl _, H, I, rfl, q⟩
end
/-- a list of ones against the empty list -/
theorem dp_ints {K : PySem.W.Frag} {H : Hp} : ∀ (ns : List Int), DpAll K H (ns.map V.int) (ns.map PyData.int)
  | [] => .nil
  | n :: ns => .cons (.int n) (dp_ints ns)
theorem dp_strs {K : PySem.W.Frag} {H : Hp} : ∀ (ns : List Str), DpAll K H (ns.map V.str) (ns.map PyData.str)
  | [] => .nil
  | n :: ns => .cons (.str n) (dp_strs ns)
theorem pl_ints : ∀ ns : List Int, PyData.plainAll (ns.map PyData.int) = true
  | [] => rfl
  | n :: ns => by simp [PyData.plainAll, PyData.plain, pl_ints ns]
theorem pl_strs : ∀ ns : List Str, PyData.plainAll (ns.map PyData.str) = true
  | [] => rfl
  | n :: ns => by simp [PyData.plainAll, PyData.plain, pl_strs ns]
theorem eqv_nil (ds : List PyData) : PyData.eqv (.list ds) (.list []) = ds.isEmpty := by
  cases ds <;> simp [PyData.eqv, PyData.eqvAll]
theorem min_nil (d : PyData) : min d.depth (PyData.list []).depth ≤ 64 := by
  have : (PyData.list []).depth ≤ 64 := by decide
  omega
end KX

set_option maxRecDepth 100000
set_option maxHeartbeats 4000000
namespace KX
open PySem PySem.Spec PyProof.Rows L2
/-! ### how great data are -/
/-- {} and {text: int} -/
def fineK (B : Nat) : List (PyData × PyData) → Bool
  | [] => true
  | [(.str x, .int i)] => (x.cps.toList.all fun c => decide (c < 128)) && decide (x.length ≤ 20) && decide (i.natAbs ≤ B)
  | _ => false
theorem fineK_is {B : Nat} {kvs : List (PyData × PyData)} (h : fineK B kvs = true) : kvs = [] ∨ ∃ x i, kvs = [(.str x, .int i)] ∧ (∀ c ∈ x.cps.toList, c < 128) ∧ x.length ≤ 20 ∧ i.natAbs ≤ B := by
  unfold fineK at h
  split at h
  · exact .inl rfl
  · rename_i x i
    simp only [Bool.and_eq_true, decide_eq_true_eq, List.all_eq_true] at h
    exact .inr ⟨x, i, rfl, h.1.1, h.1.2, h.2⟩
  · cases h
mutual
/-- ints within B, texts of plain signs, no dict but {} and {text: int} -/
def fine (B : Nat) : PyData → Bool
  | .none => true
  | .bool _ => true
  | .int i => decide (i.natAbs ≤ B)
  | .str x => x.cps.toList.all fun c => decide (c < 128)
  | .list xs => fineAll B xs
  | .tuple xs => fineAll B xs
  | .dict kvs => fineK B kvs
def fineAll (B : Nat) : List PyData → Bool
  | [] => true
  | x :: xs => fine B x && fineAll B xs
end
mutual
def wt : PyData → Nat
  | .str x => x.length + 1
  | .list xs => wtAll xs + 1
  | .tuple xs => wtAll xs + 1
  | _ => 1
def wtAll : List PyData → Nat
  | [] => 0
  | x :: xs => wt x + wtAll xs
end
theorem fineAll_app (B : Nat) : ∀ xs ys, fineAll B (xs ++ ys) = (fineAll B xs && fineAll B ys)
  | [], ys => by simp [fineAll]
  | x :: xs, ys => by simp [fineAll, fineAll_app B xs ys, Bool.and_assoc]
theorem wtAll_app : ∀ xs ys, wtAll (xs ++ ys) = wtAll xs + wtAll ys
  | [], ys => by simp [wtAll]
  | x :: xs, ys => by simp [wtAll, wtAll_app xs ys, Nat.add_assoc]
theorem fineAll_mem {B : Nat} : ∀ {xs : List PyData}, fineAll B xs = true ↔ ∀ x ∈ xs, fine B x = true
  | [] => by simp [fineAll]
  | x :: xs => by simp [fineAll, fineAll_mem (xs := xs)]
theorem wt_mem : ∀ {xs : List PyData} {x : PyData}, x ∈ xs → wt x ≤ wtAll xs
  | y :: xs, x, h => by
    rcases List.mem_cons.mp h with rfl | h
    · simp [wtAll]
    · have := wt_mem h
      simp [wtAll]
      omega
theorem wtAll_take (n : Nat) : ∀ xs, wtAll (xs.take n) + wtAll (xs.drop n) = wtAll xs := fun xs => by
  rw [← wtAll_app, List.take_append_drop]
theorem wtAll_rev : ∀ xs, wtAll xs.reverse = wtAll xs
  | [] => rfl
  | x :: xs => by
    rw [List.reverse_cons, wtAll_app, wtAll_rev xs]
    simp [wtAll]
    omega
theorem len_wt : ∀ xs : List PyData, xs.length ≤ wtAll xs
  | [] => Nat.zero_le _
  | x :: xs => by
    have := len_wt xs
    have h : 1 ≤ wt x := by cases x <;> simp [wt]
    simp [wtAll]
    omega
mutual
theorem fine_le {B C : Nat} (h : B ≤ C) : ∀ d : PyData, fine B d = true → fine C d = true
  | .none, _ => by simp [fine]
  | .bool _, _ => by simp [fine]
  | .int i, q => by simp [fine] at q ⊢; omega
  | .str x, q => by simpa [fine] using q
  | .list xs, q => by simp only [fine] at q ⊢; exact fineAll_le h xs q
  | .tuple xs, q => by simp only [fine] at q ⊢; exact fineAll_le h xs q
  | .dict kvs, q => by
    rcases fineK_is (show fineK B kvs = true from q) with rfl | ⟨x, i, rfl, h1, h2, h3⟩
    · rfl
    · show fineK C [(.str x, .int i)] = true
      simp only [fineK, Bool.and_eq_true, decide_eq_true_eq, List.all_eq_true]
      exact ⟨⟨h1, h2⟩, by omega⟩
theorem fineAll_le {B C : Nat} (h : B ≤ C) : ∀ ds : List PyData, fineAll B ds = true → fineAll C ds = true
  | [], _ => by simp [fineAll]
  | x :: xs, q => by
    simp only [fineAll, Bool.and_eq_true] at q ⊢
    exact ⟨fine_le h x q.1, fineAll_le h xs q.2⟩
end
theorem piled_cons' (t : Str) (r : List Str) : piled (t :: r) = t.length + 2 + piled r := by
  rw [piled_cons]
theorem listText_le (ts : List Str) : (listText ts).length ≤ piled ts + 2 := by
  unfold listText
  rw [strLen_append]
  cases ts with
  | nil => show 1 + 1 ≤ _; simp [piled]
  | cons t r =>
    show (textFrom 1 ((("[" : Str) ++ ("" : Str)) ++ t) r).length + 1 ≤ _
    rw [textFrom_length_pos _ _ _ (by decide), strLen_append, strLen_append, piled_cons']
    show 1 + 0 + t.length + piled r + 1 ≤ _
    omega
theorem tupleText_le (ts : List Str) : (tupleText ts).length ≤ piled ts + 3 := by
  unfold tupleText
  rw [strLen_append, strLen_append]
  have h2 : ((if ts.length == 1 then ",)" else ")" : String) : Str).length ≤ 2 := by
    split <;> decide
  have h1 : (("(" : Str)).length = 1 := rfl
  by_cases h : ts = []
  · subst h
    have : (Str.join ", " ([] : List Str)).length = 0 := rfl
    omega
  · have := join_length_add ts h
    omega
mutual
theorem shown_le {B : Nat} (hB : B < 10 ^ 400) : ∀ d : PyData, fine B d = true → d.shown.length + 10 ≤ 1000 * wt d
  | .none, _ => by simp only [PyData.shown]; show 4 + 10 ≤ 1000 * 1; decide
  | .bool b, _ => by cases b <;> simp only [PyData.shown] <;> decide
  | .int i, q => by
    have q : i.natAbs ≤ B := by simpa [fine] using q
    have h : (toString i).length ≤ 400 + 1 := PySem.int_text_length_le10 (a := i) (k := 400) (by decide) (by omega)
    simp only [PyData.shown, wt]
    have e : (Str.ofString (toString i)).length = (toString i).length := PySem.ofString_length _
    show (Str.ofString (toString i)).length + 10 ≤ _
    omega
  | .str x, q => by
    have q : ∀ c ∈ x.cps.toList, c < 128 := by
      have q : (x.cps.toList.all fun c => decide (c < 128)) = true := q
      intro c hc
      exact of_decide_eq_true (List.all_eq_true.mp q c hc)
    have h := PySem.StrLaws.reprText_len x fun c hc => Nat.lt_trans (q c hc) (by decide)
    simp only [PyData.shown, wt]
    omega
  | .list xs, q => by
    have q : fineAll B xs = true := by simpa only [fine] using q
    have h1 := listText_le (PyData.shownAll xs)
    have h2 := shownAll_le hB xs q
    simp only [PyData.shown, wt]
    omega
  | .tuple xs, q => by
    have q : fineAll B xs = true := by simpa only [fine] using q
    have h1 := tupleText_le (PyData.shownAll xs)
    have h2 := shownAll_le hB xs q
    simp only [PyData.shown, wt]
    omega
  | .dict kvs, q => by
    rcases fineK_is (show fineK B kvs = true from q) with rfl | ⟨x, i, rfl, h1, h2, h3⟩
    · simp only [PyData.shown, PyData.shownKv]
      show (2 : Nat) + 10 ≤ 1000 * 1
      decide
    · have h := PySem.StrLaws.reprText_len x fun c hc => Nat.lt_trans (h1 c hc) (by decide)
      have h5 : (toString i).length ≤ 400 + 1 := PySem.int_text_length_le10 (a := i) (k := 400) (by decide) (by omega)
      have e : (Str.ofString (toString i)).length = (toString i).length := PySem.ofString_length _
      have h6 := dictText_len_le (PyData.shownKv [(.str x, .int i)])
      simp only [PyData.shown, PyData.shownKv, wt, List.map_cons, List.map_nil, List.sum_cons, List.sum_nil, List.length_cons, List.length_nil, strLen_append] at h6 ⊢
      have e2 : ((": " : Str)).length = 2 := rfl
      have e3 : (Str.ofString (toString i)).length ≤ 401 := by omega
      change _ ≤ (reprText x).length + (": " : Str).length + (Str.ofString (toString i)).length + 0 + 2 * (0 + 1) + 3 at h6
      omega
theorem shownAll_le {B : Nat} (hB : B < 10 ^ 400) : ∀ ds : List PyData, fineAll B ds = true → piled (PyData.shownAll ds) ≤ 1000 * wtAll ds
  | [], _ => by simp [PyData.shownAll, piled]
  | x :: xs, q => by
    simp only [fineAll, Bool.and_eq_true] at q
    have h1 := shown_le hB x q.1
    have h2 := shownAll_le hB xs q.2
    simp only [PyData.shownAll, wtAll]
    rw [piled_cons']
    have h : 1 ≤ wt x := by cases x <;> simp [wt]
    omega
end
end KX
namespace KX
open PySem PySem.Spec PyProof.Rows L2
theorem log_of_fine {B : Nat} (hB : B < 10 ^ 400) {i : Int} (h : i.natAbs ≤ B) : i.natAbs.log2 < 1920 := by
  by_cases z : i.natAbs = 0
  · rw [z]; decide
  · refine (Nat.log2_lt z).mpr ?_
    have : (10 : Nat) ^ 400 < 2 ^ 1920 := by decide +kernel
    omega
mutual
theorem showable_fine {B : Nat} (hB : B < 10 ^ 400) : ∀ d : PyData, fine B d = true → d.showable = true
  | .none, _ => by simp only [PyData.showable]
  | .bool b, _ => by simp only [PyData.showable]
  | .int i, q => by
    have q : i.natAbs ≤ B := by simpa [fine] using q
    simp only [PyData.showable]
    exact decide_eq_true (log_of_fine hB q)
  | .str x, _ => by simp only [PyData.showable]
  | .list xs, q => by
    simp only [PyData.showable]
    exact showableAll_fine hB xs (by simpa only [fine] using q)
  | .tuple xs, q => by
    simp only [PyData.showable]
    exact showableAll_fine hB xs (by simpa only [fine] using q)
  | .dict kvs, q => by
    rcases fineK_is (show fineK B kvs = true from q) with rfl | ⟨x, i, rfl, h1, h2, h3⟩
    · simp only [PyData.showable, PyData.showableKv]
    · simp only [PyData.showable, PyData.showableKv, Bool.and_true, Bool.true_and]
      exact decide_eq_true (log_of_fine hB h3)
theorem showableAll_fine {B : Nat} (hB : B < 10 ^ 400) : ∀ ds : List PyData, fineAll B ds = true → PyData.showableAll ds = true
  | [], _ => by simp only [PyData.showableAll]
  | x :: xs, q => by
    simp only [fineAll, Bool.and_eq_true] at q
    simp only [PyData.showableAll, showable_fine hB x q.1, showableAll_fine hB xs q.2, Bool.and_self]
end
mutual
theorem depth_wt {B : Nat} : ∀ d : PyData, fine B d = true → d.depth ≤ wt d
  | .none, _ => by simp [PyData.depth]
  | .bool b, _ => by simp [PyData.depth]
  | .int i, _ => by simp [PyData.depth]
  | .str x, _ => by simp [PyData.depth]
  | .list xs, q => by
    have := depthAll_wt xs (B := B) (by simpa only [fine] using q)
    simp only [PyData.depth, wt]
    omega
  | .tuple xs, q => by
    have := depthAll_wt xs (B := B) (by simpa only [fine] using q)
    simp only [PyData.depth, wt]
    omega
  | .dict kvs, q => by
    rcases fineK_is (show fineK B kvs = true from q) with rfl | ⟨x, i, rfl, h1, h2, h3⟩ <;> simp [PyData.depth, PyData.depthKv, wt]
theorem depthAll_wt {B : Nat} : ∀ ds : List PyData, fineAll B ds = true → PyData.depthAll ds ≤ wtAll ds
  | [], _ => by simp [PyData.depthAll]
  | x :: xs, q => by
    simp only [fineAll, Bool.and_eq_true] at q
    have h1 := depth_wt x q.1
    have h2 := depthAll_wt xs q.2
    simp only [PyData.depthAll, wtAll]
    omega
end
/-- data that can be shown -/
structure Good (B n : Nat) (d : PyData) : Prop where
  f : fine B d = true
  w : wt d ≤ n
theorem Good.show {B n : Nat} {d : PyData} (g : Good B n d) (hB : B < 10 ^ 400) (hn : n ≤ 100) : d.showable = true ∧ d.depth ≤ 100 ∧ d.shown.length ≤ sizeLine := by
  have h1 := depth_wt d g.f
  have h2 := shown_le hB d g.f
  have h3 := g.w
  refine ⟨showable_fine hB d g.f, by omega, ?_⟩
  rw [sizeLine_eq]
  omega
theorem Good.mono {B n B' n' : Nat} {d : PyData} (g : Good B n d) (h : B ≤ B') (h' : n ≤ n') : Good B' n' d := ⟨fine_le h d g.f, Nat.le_trans g.w h'⟩
/-- new objects beside a stream -/
def hid (l : Addr) (H : Hp) : Hp := fun b => if b = l then none else H b
theorem hid_at {l b : Addr} {H : Hp} (h : b ≠ l) : hid l H b = H b := if_neg h
theorem hid_some {l b : Addr} {H : Hp} {o : HO} (h : hid l H b = some o) : b ≠ l ∧ H b = some o := by
  unfold hid at h
  split at h
  · cases h
  · exact ⟨by assumption, h⟩
/-- all but what stands at l is as it was -/
def Keep (l : Addr) (H H' : Hp) : Prop := ∀ b o, b ≠ l → H b = some o → H' b = some o
theorem Keep.same {l : Addr} {H H' : Hp} (k : Keep l H H') : Same (hid l H) (hid l H') := fun b o e => by
  obtain ⟨n, e⟩ := hid_some e
  rw [hid_at n]
  exact k b o n e
theorem Keep.refl (l : Addr) (H : Hp) : Keep l H H := fun _ _ _ e => e
theorem Keep.trans {l : Addr} {H H1 H2 : Hp} (a : Keep l H H1) (b : Keep l H1 H2) : Keep l H H2 := fun c o n e => b c o n (a c o n e)
theorem Keep.of {l : Addr} {H H' : Hp} (s : Same H H') : Keep l H H' := fun b o _ e => s b o e
theorem Keep.at {l : Addr} {H : Hp} {o : HO} : Keep l H (upd H l o) := fun b u n e => by rw [upd_ne n]; exact e
theorem Keep.new {l p : Addr} {H H' : Hp} {o : HO} (k : Keep l H H') (n : H' p = none) : Keep l H (upd H' p o) := k.trans (Keep.of fun b u e => by rw [upd_ne (ne_of_none e n)]; exact e)
theorem Keep.upd {l : Addr} {H H' : Hp} {o : HO} (k : Keep l H H') : Keep l H (upd H' l o) := k.trans Keep.at
theorem hid_same (l : Addr) (H : Hp) : Same (hid l H) H := fun b o e => (hid_some e).2
/-- a stream stands at l -/
def StO (H : Hp) (l : Addr) : Prop := ∃ a b c : Int, H l = some (.lst [.int a, .int b, .int c])
theorem StO.ne {l p : Addr} {H : Hp} (h : StO H l) (n : H p = none) : p ≠ l := by
  obtain ⟨a, b, c, e⟩ := h
  exact (ne_of_none e n).symm
theorem StO.new {l p : Addr} {H : Hp} {o : HO} (h : StO H l) (n : H p = none) : StO (upd H p o) l := by
  obtain ⟨a, b, c, e⟩ := id h
  exact ⟨a, b, c, by rw [upd_ne (h.ne n).symm]; exact e⟩
theorem StO.same {l : Addr} {H H' : Hp} (h : StO H l) (s : Same H H') : StO H' l := by
  obtain ⟨a, b, c, e⟩ := h
  exact ⟨a, b, c, s _ _ e⟩
theorem hnew {l p : Addr} {H : Hp} {o : HO} (n : H p = none) : Same (hid l H) (hid l (L2.upd H p o)) := ((Keep.refl l H).new n).same
theorem dx_tup {l p : Addr} {H : Hp} {xs : List V} {ds : List PyData} (n : H p = none) (st : StO H l) (h : Dxs (hid l H) xs ds) : Dx (hid l (L2.upd H p (.tup xs))) (.ref p) (.tuple ds) :=
  .tup (by rw [hid_at (st.ne n)]; exact upd_same) (h.up (hnew n))
theorem dx_lst {l p : Addr} {H : Hp} {xs : List V} {ds : List PyData} (n : H p = none) (z : p ≠ sysModules) (st : StO H l) (h : Dxs (hid l H) xs ds) : Dx (hid l (L2.upd H p (.lst xs))) (.ref p) (.list ds) :=
  .lst (by rw [hid_at (st.ne n)]; exact upd_same) z (h.up (hnew n))
theorem dx_dic1 {l p : Addr} {H : Hp} {x : Str} {i : Int} (n : H p = none) (st : StO H l) : Dx (hid l (L2.upd H p (.dK [(.inr x, .int i)]))) (.ref p) (.dict [(.str x, .int i)]) :=
  .dic1 (by rw [hid_at (st.ne n)]; exact upd_same)
theorem dx_dic {l p : Addr} {H : Hp} (n : H p = none) (st : StO H l) : Dx (hid l (L2.upd H p (.dK []))) (.ref p) (.dict []) :=
  .dic (by rw [hid_at (st.ne n)]; exact upd_same)
end KX

set_option maxRecDepth 100000
set_option maxHeartbeats 4000000
namespace KX
open PySem PySem.Spec PyProof.Rows L2
open PySem.W (AllAlike Sortable EachIs dataLe)
theorem each_pairs {β : Type} {R : Value → β → Prop} : ∀ {us : List Value} {bs : List β}, (us.length = bs.length) → (∀ (i : Nat) u b, us[i]? = some u → bs[i]? = some b → R u b) → EachIs R us bs
  | [], [], _, _ => .nil
  | u :: us, b :: bs, hl, h => .cons (h 0 u b rfl rfl) (each_pairs (by simpa using hl) fun i u b e f => h (i + 1) u b (by simpa using e) (by simpa using f))
  | [], _ :: _, hl, _ => by simp at hl
  | _ :: _, [], hl, _ => by simp at hl
section
variable {X : Cx}
/-- sorted(xs), xs alike data -/
def rSortE {β : Type} (K : PySem.W.Frag) (enc : β → PyData) : List V → Hp → VK → Prop := fun vs H Q => ∃ (a : Addr) (bs : List (V × β)), vs = [.ref a] ∧ SqL K H a (bs.map (·.1)) ∧ (∀ b ∈ bs, Dp K H b.1 (enc b.2)) ∧ AllAlike (bs.map fun b => enc b.2) ∧ Sortable (bs.map fun b => enc b.2) ∧
  (∀ b ∈ bs, (enc b.2).depth ≤ 50) ∧ ∀ p, H p = none → Q (.ref p) (L2.upd H p (.lst ((bs.mergeSort (dataLe false fun b => enc b.2)).map (·.1))))
theorem cr_sortE {β : Type} {enc : β → PyData} {k : Nat} (hr : Room k X.A) : CallR X (.builtin "sorted") (rSortE X.K enc) := by
  intro pins s σ H vs us Q I r h
  obtain ⟨a, bs, e, hS, hd, hal, hk, hu, q⟩ := h
  subst e
  obtain ⟨u, rfl, ru⟩ := vals1 r
  cases ru
  obtain ⟨its, rv, pl, hz⟩ := I.list hS
  have hlen := rv.length
  rw [List.length_map] at hlen hz
  have er : EachIs (fun v (b : V × β) => ∃ as, Reads s.heap v (enc b.2) as) its bs := each_pairs (by omega) fun i u b e f => by
    obtain ⟨u', e', ru⟩ := rv.get (i := i) (x := b.1) (by rw [List.getElem?_map, f]; rfl)
    rw [e] at e'
    cases e'
    exact Dp.reads I (enc b.2) b.1 u (hd b (List.mem_of_getElem? f)) ru
  have eR : EachIs (fun v (b : V × β) => RelV b.1 v) its bs := each_pairs (by omega) fun i u b e f => by
    obtain ⟨u', e', ru⟩ := rv.get (i := i) (x := b.1) (by rw [List.getElem?_map, f]; rfl)
    rw [e] at e'
    cases e'
    exact ru
  have hun := hr.un
  refine PySem.W.sorted_data (enc := fun b : V × β => enc b.2) pl.isList eR er hal hk (by omega) (fun b hb => by have := hu b hb; omega) fun out hl he => ?_
  obtain ⟨c, hc⟩ := PyProof.Rows.sortedAll_at s.heap its out.toArray
  have rel : ∀ {ws : List Value} {ps : List (V × β)}, EachIs (fun v (b : V × β) => RelV b.1 v) ws ps → Vals (ps.map (·.1)) ws := by
    intro ws ps e
    induction e with
    | nil => exact .nil
    | cons h t ih => exact .cons h ih
  have keep : ∀ b o, s.heap.get? b = some o → (PyProof.Rows.sortedAll s.heap its out.toArray).get? b = some o := fun _ _ => PyProof.Rows.sortedAll_old
  refine ⟨.ref (s.heap.objs.size + 1), _, I.laid (t' := s.toks) keep (Nat.le_succ _) (o := .lst ((bs.mergeSort (dataLe false fun b => enc b.2)).map (·.1))) ⟨?_, out, c, rel he, hc⟩, rfl, q _ (I.hok.fresh (Nat.le_succ _))⟩
  rw [List.length_map, List.length_mergeSort]
  omega
end
mutual
/-- without dicts: the layer's own data -/
theorem dp_dx {K : PySem.W.Frag} {H : Hp} : ∀ (d : PyData) (v : V), d.plain = true → Dx H v d → Dp K H v d
  | .none, _, _, h => by cases h; exact .non
  | .bool b, _, _, h => by cases h; exact .bl b
  | .int i, _, _, h => by cases h; exact .int i
  | .str x, _, _, h => by cases h; exact .str x
  | .list ds, _, p, h => by
    cases h with
    | lst e n h => exact .lst (.inl (.inl e)) (dps_dx ds _ (by simpa [PyData.plain] using p) h)
  | .tuple ds, _, p, h => by
    cases h with
    | tup e h => exact .tup (.inl (.inl e)) (dps_dx ds _ (by simpa [PyData.plain] using p) h)
  | .dict ks, _, p, _ => by simp [PyData.plain] at p
theorem dps_dx {K : PySem.W.Frag} {H : Hp} : ∀ (ds : List PyData) (vs : List V), PyData.plainAll ds = true → Dxs H vs ds → DpAll K H vs ds
  | [], _, _, h => by cases h; exact .nil
  | d :: ds, _, p, h => by
    have p' : d.plain = true ∧ PyData.plainAll ds = true := by simpa [PyData.plainAll] using p
    cases h with
    | cons h t => exact .cons (dp_dx d _ p'.1 h) (dps_dx ds _ p'.2 t)
end
end KX

set_option maxRecDepth 100000
set_option maxHeartbeats 4000000
namespace KX
open PySem PySem.Spec PyProof.Rows L2
section
variable {X : Cx}
/-- text * 0, text * 1 -/
theorem op_mul_s : OpR X (binaryOp .Mult) (fun x y H Q => ∃ (z : Str) (n : Int), x = .str z ∧ y = .int n ∧ (n = 0 ∨ n = 1) ∧ Q (.str (if n = 1 then z else "")) H) := by
  intro pins s σ H x y v u Q I rx ry h
  obtain ⟨z, n, rfl, rfl, hn, q⟩ := h
  obtain ⟨t, rfl⟩ := rx
  obtain ⟨t', rfl⟩ := ry
  have ok : MulOk z n := by
    rcases hn with rfl | rfl
    · exact ⟨by decide, fun h => absurd (by decide) h, fun h => absurd (by decide) h⟩
    · exact ⟨by decide, fun _ h => by simp at h, fun _ h => by simp at h⟩
  have e : Txt.mul z n = (if n = 1 then z else "") := by
    rcases hn with rfl | rfl
    · rfl
    · simp [Txt.mul]
  refine SB.mul ok fun t1 k => ?_
  rw [e]
  exact ⟨.str _, H, I.tok _, ⟨_, rfl⟩, q⟩
end
end KX

set_option maxRecDepth 100000
set_option maxHeartbeats 4000000
namespace KX
open PySem PySem.Spec PyProof.Rows L2
section
variable {X : Cx}
/-- t != (), t any tuple -/
def rNe0 (K : PySem.W.Frag) : R2 := fun x y H Q => ∃ a b xs, x = .ref a ∧ y = .ref b ∧ SqT K H a xs ∧ SqT K H b [] ∧ Q (.bl (!xs.isEmpty)) H
theorem op_ne0 (hu : X.A.units < cLine) : OpR X (compareOp .NotEq) (rNe0 X.K) := by
  intro pins s σ H x y v u Q I rx ry h
  obtain ⟨a, b, xs, rfl, rfl, ha, hb, q⟩ := h
  cases rx
  cases ry
  obtain ⟨its, r1, p1, _⟩ := I.tuple ha
  obtain ⟨its2, r2, p2, _⟩ := I.tuple hb
  cases r2
  have e : (!((List.range (min its.toArray.size ([] : List Value).toArray.size)).all (fun _ => true) && its.toArray.size == ([] : List Value).toArray.size)) = !xs.isEmpty := by
    have := r1.length
    cases xs with
    | nil =>
      cases its with
      | nil => rfl
      | cons _ _ => simp at this
    | cons _ _ =>
      cases its with
      | nil => simp at this
      | cons _ _ => simp
  refine SeqAt.RcNeAt.tuples (e := fun _ => true) p1 p2 hu (fun j h1 h2 => absurd h2 (by simp)) X.prog X.w X.xe (EP X pins σ Q) ?_
  rw [e]
  exact ⟨.bl _, H, I, rfl, q⟩
end
/-! ### tuples of data, whatever object holds them -/
def cutD (ds : List PyData) (lo hi : Option Int) : List PyData := (ds.drop (HT.sIx ds.length 0 lo)).take (HT.sIx ds.length ds.length hi - HT.sIx ds.length 0 lo)
theorem cutD_to (ds : List PyData) (k : Nat) : cutD ds none (some (k : Int)) = ds.take k := by
  unfold cutD
  rw [HT.sIx_none, HT.sIx_nat, List.drop_zero, Nat.sub_zero]
  by_cases h : k ≤ ds.length
  · rw [Nat.min_eq_left h]
  · rw [Nat.min_eq_right (by omega), List.take_length, List.take_of_length_le (by omega)]
theorem cutD_from (ds : List PyData) (k : Nat) : cutD ds (some (k : Int)) none = ds.drop k := by
  unfold cutD
  rw [HT.sIx_none, HT.sIx_nat]
  by_cases h : k ≤ ds.length
  · rw [Nat.min_eq_left h]
    exact List.take_of_length_le (by rw [List.length_drop]; exact Nat.le_refl _)
  · rw [Nat.min_eq_right (by omega), Nat.sub_self, List.take_zero, List.drop_of_length_le (by omega)]
theorem cutD_one (ds : List PyData) (k : Nat) : cutD ds (some (k : Int)) (some ((k : Int) + 1)) = (ds.drop k).take 1 := by
  unfold cutD
  rw [show ((k : Int) + 1) = ((k + 1 : Nat) : Int) by omega, HT.sIx_nat, HT.sIx_nat]
  by_cases h : k < ds.length
  · rw [Nat.min_eq_left (by omega), Nat.min_eq_left (by omega), Nat.add_sub_cancel_left]
  · rw [Nat.min_eq_right (by omega), Nat.min_eq_right (by omega), Nat.sub_self, List.take_zero, List.drop_of_length_le (by omega)]
    rfl
theorem dxs_cut {H : Hp} {xs : List V} {ds : List PyData} (h : Dxs H xs ds) (lo hi : Option Int) : Dxs H (cutV xs lo hi) (cutD ds lo hi) := by
  unfold cutV cutD
  rw [h.len]
  exact (h.drop _).take _
theorem dx_sqT {K : PySem.W.Frag} {H : Hp} {l a : Addr} {ds : List PyData} (h : Dx (hid l H) (.ref a) (.tuple ds)) : ∃ xs, SqT K H a xs ∧ Dxs (hid l H) xs ds := by
  cases h with
  | @tup a xs _ e h => exact ⟨xs, .inl (.inl (hid_some e).2), h⟩
theorem dx_tupOf {H : Hp} {l : Addr} {v : V} {ds : List PyData} (h : Dx (hid l H) v (.tuple ds)) : ∃ a xs, v = .ref a ∧ a ≠ l ∧ H a = some (.tup xs) ∧ Dxs (hid l H) xs ds := by
  cases h with
  | @tup a xs _ e h => exact ⟨a, xs, rfl, (hid_some e).1, (hid_some e).2, h⟩
section
variable {K : PySem.W.Frag} {H : Hp} {l a b : Addr} {ds es : List PyData} {Q : VK}
theorem sl_of {lo hi : Option Int} {v : V} (hd : Dx (hid l H) v (.tuple ds)) (st : StO H l) (q : ∀ H' p, Keep l H H' → StO H' l → Dx (hid l H') (.ref p) (.tuple (cutD ds lo hi)) → Q (.ref p) H') : rSlA K v lo hi H Q := by
  obtain ⟨a, xs, rfl, na, ea, h⟩ := dx_tupOf hd
  refine ⟨a, xs, rfl, .inl (.inl ea), fun hw => q H a (Keep.refl l H) st ?_, fun _ p np => q _ p ((Keep.refl l H).new np) (st.new np) (dx_tup np st (dxs_cut h lo hi))⟩
  have : cutD ds lo hi = ds := by
    unfold cutD
    rw [← h.len, hw.1, hw.2, List.drop_zero, Nat.sub_zero, List.take_of_length_le (by rw [h.len]; exact Nat.le_refl _)]
  rw [this]
  exact hd
theorem cat_of {v u : V} (hd : Dx (hid l H) v (.tuple ds)) (he : Dx (hid l H) u (.tuple es)) (st : StO H l) (hz : ds.length + es.length ≤ sizeLine)
    (q : ∀ H' p, Keep l H H' → StO H' l → Dx (hid l H') (.ref p) (.tuple (ds ++ es)) → Q (.ref p) H') : rCatA K v u H Q := by
  obtain ⟨a, xs, rfl, na, ea, h⟩ := dx_tupOf hd
  obtain ⟨b, ys, rfl, nb, eb, h2⟩ := dx_tupOf he
  have l1 := h.len
  have l2 := h2.len
  refine ⟨a, b, xs, ys, rfl, rfl, .inl (.inl ea), .inl (.inl eb), by omega, fun z => ?_, fun _ z => ?_, fun _ _ p np => q _ p ((Keep.refl l H).new np) (st.new np) (dx_tup np st (h.app h2))⟩
  · subst z
    have : ds = [] := List.eq_nil_of_length_eq_zero (by simpa using l1.symm)
    subst this
    exact q H b (Keep.refl l H) st he
  · subst z
    have : es = [] := List.eq_nil_of_length_eq_zero (by simpa using l2.symm)
    subst this
    rw [List.append_nil] at q
    exact q H a (Keep.refl l H) st hd
end
end KX

set_option maxRecDepth 100000
set_option maxHeartbeats 4000000
namespace KX
open PySem PySem.Spec PyProof.Rows L2
/-! ### expressions that make data -/
def tD (d : PyData) : TE := fun _ H Q => ∀ H' v, Same H H' → Dx H' v d → Q v H'
def tDs (ds : List PyData) : TA := fun _ H Q => ∀ H' vs, Same H H' → Dxs H' vs ds → Q vs H'
/-- a new list of data -/
def tL (ds : List PyData) : TE := fun _ H Q => ∀ H' p xs, Same H H' → H p = none → H' p = some (.lst xs) → Dxs H' xs ds → Q (.ref p) H'
section
variable {X : Cx} {e : Expr} {es : List Expr} {pos : Pos} {d : PyData} {ds : List PyData}
theorem PE.imp {t t' : TE} (h : PE X e t) (i : ∀ σ H Q, t' σ H Q → t σ H Q) : PE X e t' := ⟨fun pins s σ H Q I q => h.run pins s σ H Q I (i σ H Q q)⟩
theorem PA.imp {t t' : TA} (h : PA X es t) (i : ∀ σ H Q, t' σ H Q → t σ H Q) : PA X es t' := ⟨fun pos pins s σ H Q I q => h.run pos pins s σ H Q I (i σ H Q q)⟩
theorem pd_int {i : Int} {j} : PE X (.Constant (.int i) j pos) (tD (.int i)) := PE.imp pe_int fun _ H Q q => q H _ (Same.refl H) (.int i)
theorem pd_str {x : Str} {j} : PE X (.Constant (.str x) j pos) (tD (.str x)) := PE.imp pe_str fun _ H Q q => q H _ (Same.refl H) (.str x)
theorem pd_bl {b : Bool} {j} : PE X (.Constant (.bool b) j pos) (tD (.bool b)) := PE.imp pe_bl fun _ H Q q => q H _ (Same.refl H) (.bl b)
theorem pd_val {t : TE} {i : Int} (h : PE X e t) (hv : ∀ (σ : L2.St) (H : Hp) (Q : VK), Q (.int i) H → t σ H Q) : PE X e (tD (.int i)) := PE.imp h fun σ H Q q => hv σ H Q (q H _ (Same.refl H) (.int i))
theorem pd_nil : PA X [] (tDs []) := PA.imp pa_nil fun _ H Q q => q H _ (Same.refl H) .nil
theorem pd_cons (h : PE X e (tD d)) (t : PA X es (tDs ds)) (hs : starEach (e :: es) X.env = (false, eval e X.env) :: starEach es X.env := by rfl) : PA X (e :: es) (tDs (d :: ds)) :=
  PA.imp (pa_cons h t hs) fun _ H Q q H1 v s1 dv H2 vs s2 dvs => q H2 (v :: vs) (s1.trans s2) (.cons (dv.up s2) dvs)
theorem pd_tup {x1} (h : PA X es (tDs ds)) (hz : ds.length ≤ sizeLine := by decide) : PE X (.Tuple es x1 pos) (tD (.tuple ds)) :=
  PE.imp (pe_tup h) fun _ H Q q H1 vs s1 dvs => ⟨by rw [dvs.len]; exact hz, fun p np => q _ _ (s1.trans fun b x e => by rw [upd_ne (ne_of_none e np)]; exact e) (.tup upd_same (dvs.up fun b x e => by rw [upd_ne (ne_of_none e np)]; exact e))⟩
theorem pd_lstS (h : PA X es (tDs ds)) (hz : ds.length ≤ sizeLine := by decide) : PE X (.List es pos) (tD (.list ds)) :=
  PE.imp (pe_lstS h) fun _ H Q q H1 vs s1 dvs => ⟨by rw [dvs.len]; exact hz, fun p np zp => q _ _ (s1.trans fun b x e => by rw [upd_ne (ne_of_none e np)]; exact e) (.lst upd_same zp (dvs.up fun b x e => by rw [upd_ne (ne_of_none e np)]; exact e))⟩
theorem pd_lst (h : PA X es (tDs ds)) (hz : ds.length ≤ sizeLine := by decide) : PE X (.List es pos) (tL ds) :=
  PE.imp (pe_lst h) fun _ H Q q H1 vs s1 dvs => ⟨by rw [dvs.len]; exact hz, fun p np => q _ p vs (s1.trans fun b x e => by rw [upd_ne (ne_of_none e np)]; exact e) (s1.free np) upd_same (dvs.up fun b x e => by rw [upd_ne (ne_of_none e np)]; exact e)⟩
theorem dxs_rep {H : Hp} {xs : List V} {es : List PyData} (h : Dxs H xs es) : ∀ n : Nat, Dxs H (List.replicate n xs).flatten (List.replicate n es).flatten
  | 0 => .nil
  | n + 1 => by
    rw [List.replicate_succ, List.replicate_succ, List.flatten_cons, List.flatten_cons]
    exact h.app (dxs_rep h n)
/-- t * k -/
theorem pd_rep {b : Expr} {k : Int} {tb : TE} (h : PE X e (tD (.tuple ds))) (hb : PE X b tb) (hk : ∀ (σ : L2.St) (H : Hp) (Q : VK), Q (.int k) H → tb σ H Q) (k2 : 2 ≤ k) (k1 : k ≤ 1000) (hn : ds ≠ []) (hz : ds.length ≤ 1000) :
    PE X (.BinOp e .Mult b pos) (tD (.tuple (List.replicate k.toNat ds).flatten)) :=
  PE.imp (pe_op op_repT h hb) fun σ H Q q H1 v s1 dv => hk σ H1 _ (by
    cases dv with
    | @tup a xs _ ea hx =>
      have hl := hx.len
      refine ⟨a, k, xs, rfl, rfl, .inl (.inl ea), ?_, k2, k1, by omega, fun p np => q _ _ (s1.trans fun b x e => by rw [upd_ne (ne_of_none e np)]; exact e) (.tup upd_same ((dxs_rep hx k.toNat).up fun b x e => by rw [upd_ne (ne_of_none e np)]; exact e))⟩
      intro z
      subst z
      exact hn (List.eq_nil_of_length_eq_zero (by simpa using hl.symm)))
end
end KX

set_option maxRecDepth 100000
set_option maxHeartbeats 4000000
/-! an own exception class right over a built-in one, whose __init__ says B.__init__(self, x) and then stores -/
namespace KX
open PySem PySem.Spec PyProof.Rows L2
/-- what the library knows of the built-in class B -/
structure XB (B newI iniI : String) (tl : List Value) : Prop where
  fb : PySem.ExcBaseFacts B newI iniI tl
  sf : PySem.StoreFacts B tl "object.__setattr__" "object"
/-- what the written part says of the class at C -/
structure XC (K : PySem.W.Frag) (B newI iniI : String) (tl : List Value) (C : Addr) : Prop where
  b : XB B newI iniI tl
  ini : PySem.W.excInitIn K C tl newI = true
  ovr : PySem.W.excOver K C tl = true
  sa : PySem.W.findIn K (.ref C) "__setattr__" = some (some (.builtin "object.__setattr__"))
  hd : PySem.W.hasDictIn K C = true
  sub : PySem.W.subIn K (.ref C) (.type "BaseException") = some true
  ty : PySem.W.typeIn K (.ref C) = some (.type "type")
  kp : PySem.W.keepIn K (.ref C) = true
section
open PySem.W PySem.Calls PySem.HandSPX Builtin Builtin.ObjectAttr
variable {prog : Program} {w : World} {A : Around} {E : Value → Shared → Prop} {R : Result → Shared → Prop} {hp : Heap} {g : Array GenState} {d : Drawn} {t : Nat} {os : OsState}
/-- the first store into such an exception -/
theorem osa_first {K : PySem.W.Frag} {nm : Str} {tk : Tok} {v : Value} {x C : Addr} {fv : Array Value} {B newI iniI : String} {tl : List Value} (T : XC K B newI iniI tl C)
    (X : K.In hp) (hx : hp.get? x = some { cls := .ref C, data := .fields fv }) (ha : PySem.W.findIn K (.ref C) nm = some none)
    (done : ∀ h2 tk2 dx, (∀ b o, b ≠ x → hp.get? b = some o → h2.get? b = some o) → hp.objs.size ≤ dx → dx ≠ x → h2.get? x = some { cls := .ref C, dict := some dx, data := .fields fv } →
      h2.Ns1 dx (fun y => if y = nm then some v else none) → R (.ok (.ret .none)) ⟨h2, g, d, tk2, os⟩) :
    codeAny (model prog w) A (.call (.builtin "object.__setattr__") ⟨[.ref x, .str nm tk, v], []⟩) R ⟨hp, g, d, t, os⟩ := by
  have tkr : PySem.W.takerIn K C nm = some none := by unfold PySem.W.takerIn; rw [ha]; rfl
  refine PySem.W.osa_openX (s := ⟨hp, g, d, t, os⟩) (od := none) T.b.sf X ⟨hx, rfl, rfl, trivial⟩ T.ovr tkr fun b => ?_
  obtain ⟨cd, hc, hdd⟩ := PySem.W.any_some T.hd
  have hcls : PySem.W.Looks (model prog w) hp (classData C) cd := PySem.W.looks_clsIn X hc
  have far : x ≠ hp.objs.size := Nat.ne_of_lt (Heap.lt_size hx)
  obtain ⟨nm', bs, mro, ns, qn, hd', sn, sb, ab, col, del⟩ := cd
  dsimp only at hdd
  subst hdd
  dsimp only
  unfold storeInOwnDict ownDictForStores
  repeat (first | with_reducible refine store_in_new ?_ ?_ | with_reducible refine wpAny_loadPart_at hx ?_ | with_reducible refine hcls.at ?_ | wp_step)
  · exact ⟨_, #[], _, (Heap.get?_update_ne _ _ _ _ far.symm).trans (Heap.get?_push_at rfl rfl), rfl, fun e he => absurd he (by simp), fun _ => rfl⟩
  · intro h2 tk2 hn2 hs
    have hx1 : (hp.push { cls := .type "dict", data := .dict #[] }).get? x = some { cls := .ref C, data := .fields fv } := Heap.get?_push_of_some _ hx
    refine done h2 tk2 hp.objs.size (fun b o hb ho => ?_) (Nat.le_refl _) far.symm ?_ hn2
    · have z := Heap.get?_push_of_some { cls := .type "dict", data := .dict #[] } ho
      exact (hs.2 b (Nat.ne_of_lt (Heap.lt_size ho))).trans ((Heap.get?_update_ne _ _ _ _ hb).trans z)
    · have z := Heap.get?_update_self (fun o => { o with dict := some hp.objs.size }) hx1 rfl
      exact (hs.2 x far).trans z
end
section
variable {X : Cx} {pins : List (Addr × Obj)} {σ : L2.St} {H : Hp} {s : Shared} {a C dx : Addr} {f : Str} {y : V} {u : Value} {E : Value → Shared → Prop} {A : Around} {B newI iniI : String} {tl : List Value}
/-- self.f = y, the first store -/
theorem store_first {Q : Unit → Shared → Prop} (T : XC X.K B newI iniI tl C) (I : Inv X pins σ H s) (e : H a = some (exo a C none)) (hno : PySem.W.findIn X.K (.ref C) f = some none) (ry : RelV y u)
    (go : ∀ dx s2, H dx = none → dx ≠ a → Inv X pins σ (upd (upd H dx (exd dx [(f, y)])) a (exo a C (some dx))) s2 → Q () s2) :
    wpAny (model X.prog X.w) A (setAttr (.ref a) f u) Q E s := by
  obtain ⟨t1, ho⟩ := exo_at I.hok e
  obtain ⟨hp, g, d, t, os⟩ := s
  refine PySem.W.set_plain I.kIn (ox := { cls := .ref C, dict := none, data := .fields #[.ref t1, .none, .none, .none, .bool false, .none] })
    (od := none) ⟨ho, rfl, rfl, trivial⟩ T.sa (osa_first T I.kIn ho hno (fun h2 tk2 dx k dn dne hx hn => ?_))
  have hnd : H dx = none := I.hok.fresh dn
  have new : ∀ {b : Addr} {o : Obj}, hp.get? b = some o → b ≠ dx := fun {b o} q => Nat.ne_of_lt (Nat.lt_of_lt_of_le (Heap.lt_size q) dn)
  have notA : ∀ {b : Addr}, H b = none → b ≠ a := fun {b} n z => by
    rw [z, e] at n
    cases n
  have U : Un X.fs [] H (upd (upd H dx (exd dx [(f, y)])) a (exo a C (some dx))) hp h2 := {
    keep := fun b o q n _ _ => k b o (notA n) q
    slot := fun b o q n _ _ => ⟨o.slots, k b o (notA n) q⟩
    free := fun b o q n _ => by rw [upd_ne (notA n), upd_ne (new q)]; exact n
    there := fun b o q _ => by
      by_cases hb : b = a
      · exact ⟨_, by rw [hb]; exact hx⟩
      · exact ⟨o, k b o hb q⟩
    tups := fun b xs q => by rw [upd_ne (at_ne e q exo_tup), upd_ne (ne_of_none q hnd)]; exact q
    frzs := fun b o v q => by rw [upd_ne (at_ne e q exo_frz), upd_ne (ne_of_none q hnd)]; exact q
    tbls := fun b ps q => ⟨#[], by rw [upd_ne (at_ne e q exo_tbl), upd_ne (ne_of_none q hnd), q]; simp⟩ }
  refine go dx _ hnd dne (I.un (t' := tk2) U fun b o q => ?_)
  by_cases hb : b = a
  · subst hb
    rw [upd_same] at q
    cases q
    exact exo_ok hx
  · rw [upd_ne hb] at q
    by_cases hd : b = dx
    · subst hd
      rw [upd_same] at q
      cases q
      exact exd_ok hn (relO_put (fs := []) ry fun g => True.intro)
    · rw [upd_ne hd] at q
      refine (I.hok b o q).stay (fun c v hc z => k c v ?_ z) (fun c hc => ?_) (fun c xs hc => ?_)
      · rcases hc with hc | hc
        · rw [hc]
          exact hb
        · exact at_ne e hc exo_own
      · rw [upd_ne (at_ne e hc exo_own), upd_ne (ne_of_none hc hnd)]
        exact hc
      · rw [upd_ne (at_ne e hc exo_tup), upd_ne (ne_of_none hc hnd)]
        exact hc
/-- B.__init__(self, ..): nothing of it is told -/
theorem init_told {us : List Value} {Q : Value → Shared → Prop} (T : XC X.K B newI iniI tl C) (I : Inv X pins σ H s) (e : H a = some (exo a C none)) (hl : us.length ≤ sizeLine) (go : ∀ s2, Inv X pins σ H s2 → Q .none s2) :
    wpAny (model X.prog X.w) A (call (.builtin iniI) (.ref a :: us)) Q E s := by
  obtain ⟨nm, N, qn, bs, bm, hdct, sn, sub, ab, col, dd, k0, k1, k2, k3, k5, hC, hT⟩ := PySem.W.excInit_of I.kIn T.ini
  obtain ⟨t1, ho⟩ := exo_at I.hok e
  obtain ⟨hp, g, d, t, os⟩ := s
  refine wpAny_call (PySem.HandSPX.init_base T.b.fb hT hC ho hl fun h2 t2 k hx => go _ ?_)
  have J := I.write (t' := t) (x := a) (e := a) (o := exo a C none) (by rw [e]; exact True.intro) (.inl rfl) k ⟨_, hx⟩ (exo_ok hx)
  have same : upd H a (exo a C none) = H := by
    funext b
    by_cases hb : b = a
    · rw [hb, upd_same, e]
    · rw [upd_ne hb]
  rw [same] at J
  exact J
end
/-- B.__init__(self, ..) -/
def tBini (K : PySem.W.Frag) (B newI iniI : String) (tl : List Value) (ta : TA) : TE := fun σ H Q => ta σ H fun vs H1 =>
  ∃ (a C : Addr) (ws : List V), vs = .ref a :: ws ∧ ws.length ≤ 1000 ∧ XC K B newI iniI tl C ∧ H1 a = some (exo a C none) ∧ Q .non H1
/-- self.f = e, the first store -/
def tFst (K : PySem.W.Frag) (B newI iniI : String) (tl : List Value) (f : Str) (to te : TE) : TS := fun D σ H => te σ H fun y H1 => to σ H1 fun x H2 =>
  ∃ a C : Addr, x = .ref a ∧ XC K B newI iniI tl C ∧ PySem.W.findIn K (.ref C) f = some none ∧ H2 a = some (exo a C none) ∧
    ∀ dx, H2 dx = none → dx ≠ a → D.nx σ (upd (upd H2 dx (exd dx [(f, y)])) a (exo a C (some dx)))
section
variable {X : Cx} {o e : Expr} {es : List Expr} {to te : TE} {ta : TA} {f : Str} {p p' p1 p2 pos : Pos} {B newI iniI : String} {tl : List Value}
theorem ps_fst (ho : PE X o to) (he : PE X e te) (hs : swapsWith e (some (.Attribute o f p')) pos.line X.env = pure false := by rfl) : PS X (.Assign [.Attribute o f p'] e pos) (tFst X.K B newI iniI tl f to te) := by
  refine ⟨fun pins s σ H D I h => ?_⟩
  refine plainObj_wpAny_Assign_Attribute (thn (he.run pins s σ H _ I h) fun v s1 z1 => ?_) hs
  obtain ⟨y, H1, I1, r1, q1⟩ := z1
  refine thn (ho.run pins s1 σ H1 _ I1 q1) fun u s2 z2 => ?_
  obtain ⟨x, H2, I2, r2, a, C, ex, T, hno, ea, q⟩ := z2
  subst ex
  obtain rfl : u = Value.ref a := r2
  exact store_first T I2 ea hno r1 fun dx s3 n ne J => ⟨σ, _, J, q dx n ne⟩
theorem pe_bini {pl : Sem Bool} (hg : Gl X "IndexError") (hm : X.mg "IndexError" = none) (vV : PySem.W.findCls X.K (.type "IndexError") (.type "type") "__init__" = some (.val (.builtin "IndexError.__init__"))) (ha : PA X (e :: es) ta)
    (hc : eval (.Call (.Attribute (.Name "IndexError" p1) "__init__" p2) (e :: es) [] pos) X.env = (do
      let cv ← eval (.Name "IndexError" p1) X.env
      standAt p2.atName
      let (fn, ahead) ← holding [cv] (getMethod cv "__init__" pl)
      callWith pos fn ahead (backTo pos (starEach (e :: es) X.env)) (backToKw pos (keywordEach [] X.env))) := by rfl)
    (he : starEach (e :: es) X.env = (false, eval e X.env) :: starEach es X.env := by rfl) (hpl : (backTo pos (starEach es X.env)).any (·.1) = false := by rfl) :
    PE X (.Call (.Attribute (.Name "IndexError" p1) "__init__" p2) (e :: es) [] pos) (tBini X.K "IndexError" newI "IndexError.__init__" tl ta) := by
  refine ⟨fun pins s σ H Q I h => ?_⟩
  have ty : typeOf (.type "IndexError") = pure (.type "type") := by kernel_rfl
  refine PySem.W.methodCall_KW (ld_blt I hg hm PyProof.Rows.Boot.«IndexError» ?_ (by decide) (by decide)) hc
  obtain ⟨m, fr⟩ := I.fr
  refine PySem.W.method_type fr I.ok.mod.kin ty (by decide +kernel) vV (by decide +kernel) ?_
  show wpAny _ _ (callWith pos (Value.builtin "IndexError.__init__") [] (backTo pos (starEach (e :: es) X.env)) []) _ _ _
  refine PyProof.Rows.callWith_method1 (thn (ha.run pos pins _ σ H _ (I.tok _) h) fun us s1 z => ?_) he hpl
  obtain ⟨vs, H1, I1, r1, a, C, ws, ev, hl, T, ea, q⟩ := z
  subst ev
  cases r1 with
  | @cons _ u0 _ ur ra rw' =>
    obtain rfl : u0 = Value.ref a := ra
    have hlen : ur.length ≤ sizeLine := by
      rw [← Paired.length rw', sizeLine_eq]
      omega
    exact init_told T I1 ea hlen fun s2 J => ⟨.non, H1, J, rfl, q⟩
/-- C(e, ..) -/
theorem pmk_x {CX : CXT} {x : Str} {C fI : Addr} {k : Nat} {fd : FuncData} {ps : List Str} {sp : Sp} (T : XC X.K B newI iniI tl C) (iC : PySem.W.findIn X.K (.ref C) "__init__" = some (some (.ref fI)))
    (tI : PySem.W.typeIn X.K (.ref fI) = some (.type "function")) (F1 : FnOk X.prog X.w X.K X.mg X.base CX k fI fd ps sp) (hr : Room (k + 1) X.A) (hb : Binds X.K fd ps []) (hx : Passes CX X (fun _ _ _ => False)) (hg : Gl X x)
    (hm : X.mg x = some (.ref C)) (ha : PA X (e :: es) ta) (hdb : (x == ("__debug__" : Str)) = false := by decide) (he : starEach (e :: es) X.env = (false, eval e X.env) :: starEach es X.env := by rfl)
    (hpl : (backTo pos (starEach es X.env)).any (·.1) = false := by rfl) : PMk X (.Call (.Name x p) (e :: es) [] pos) (tMkO C sp [] ta) := by
  intro pins s σ H Q I h
  obtain ⟨nm, N, qn, bs, bm, hdct, sn, sub, ab, col, dd, k0, k1, k2, k3, k5, hC, hT⟩ := PySem.W.excInit_of I.kIn T.ini
  refine wpAny_Call_Name_kw (ld_glob I hg hm ?_ hdb)
  refine PySem.W.callWith_K (h₀ := X.base) I.ok.mod.kin T.kp (thn (ha.run pos pins s σ H _ I h) fun us s1 z => ?_) he hpl
  obtain ⟨vs, H1, I1, r1, hz, q1⟩ := z
  have X1 := I1.kIn
  refine ⟨X1, ?_⟩
  obtain ⟨nm, N, qn, bs, bm, hdct, sn, sub, ab, col, dd, k0, k1, k2, k3, k5, hC, hT⟩ := PySem.W.excInit_of X1 T.ini
  show wpAny _ _ (call (.ref C) us) _ _ _
  obtain ⟨hp, g, dr, tk, os⟩ := s1
  have up : hp.objs.size ≤ hp.objs.size + 1 := Nat.le_succ _
  have hq := q1 (hp.objs.size + 1) (I1.hok.fresh up)
  have kk : ∀ b o, hp.get? b = some o → ((hp.push (PySem.W.kdv_tup us)).push (PySem.HandSPX.excO C hp.objs.size)).get? b = some o :=
    fun b o e => Heap.get?_push_of_some _ (Heap.get?_push_of_some _ e)
  have hget : ((hp.push (PySem.W.kdv_tup us)).push (PySem.HandSPX.excO C hp.objs.size)).get? (hp.objs.size + 1) = some (PySem.HandSPX.excO C hp.objs.size) := by heap_get
  have I2 : Inv X pins σ (upd H1 (hp.objs.size + 1) (exo (hp.objs.size + 1) C none)) ⟨(hp.push (PySem.W.kdv_tup us)).push (PySem.HandSPX.excO C hp.objs.size), g, dr, tk, os⟩ :=
    I1.laid (t' := tk) (a := hp.objs.size + 1) (o := exo (hp.objs.size + 1) C none) (h' := (hp.push (PySem.W.kdv_tup us)).push (PySem.HandSPX.excO C hp.objs.size)) kk up (exo_ok hget)
  have r2 : Vals (V.ref (hp.objs.size + 1) :: (vs ++ [])) (Value.ref (hp.objs.size + 1) :: us) := .cons rfl (by rw [List.append_nil]; exact r1)
  have hl : (Value.ref (hp.objs.size + 1) :: us).length = ps.length := by
    rw [← r2.length]
    exact F1.len _ _ _ _ hq
  have hus : us.length ≤ sizeLine := by
    rw [← Paired.length r1, sizeLine_eq]
    omega
  have hbd := hb ⟨(hp.push (PySem.W.kdv_tup us)).push (PySem.HandSPX.excO C hp.objs.size), g, dr, tk, os⟩ (Value.ref (hp.objs.size + 1) :: us) I2.kIn (by rw [List.append_nil]; exact hl)
  rw [List.append_nil] at hbd
  have go := F1.run _ X.stack _ _ ⟨Value.ref (hp.objs.size + 1) :: us, []⟩ (Value.ref (hp.objs.size + 1) :: us) _ _ (fun _ _ _ => False) (hr.make C us []) (I2.env0.make C us []) hbd r2 hq
  refine wpAny_call (PySem.HandSPX.call_own T.b.fb hT hC (PySem.W.looks_findIn X1 iC) (fun self => PySem.W.bind_fn X1 self tI) hus (codeAny_mono go fun r s2 z => ?_))
  cases r with
  | error er => exact hx pins σ _ _ er s2 I2 z
  | ok fl =>
    cases fl with
    | ret u =>
      obtain ⟨v, H2, os2, bare2, un2, hok2, rv, ev, d, fs, ea, ed, hd1, q2⟩ := z
      subst ev
      obtain ⟨h2, g2, d2, t2, os'⟩ := s2
      exact ⟨rv, mk_end (raises_own T.sub T.ty) I1 up kk un2 hok2 os2 bare2 ea ed hd1 q2⟩
    | next => exact False.elim z
    | brk => exact False.elim z
    | cont => exact False.elim z
end
end KX

set_option maxRecDepth 100000
set_option maxHeartbeats 4000000
namespace KX
open PySem PySem.Spec PyProof.Rows L2
/-- isinstance(e, T), isinstance(e, (T, U)): e the exception that the suite holds, an instance of a class of the program with fields of its own -/
structure XI (K : PySem.W.Frag) (C : Addr) : Prop where
  ga : PySem.W.findIn K (.ref C) "__getattribute__" = some (some (.builtin "BaseException.__getattribute__"))
  gg : PySem.W.findIn K (.ref C) "__getattr__" = some none
  sub : PySem.W.subIn K (.ref C) (.type "BaseException") = some true
  hd : PySem.W.hasDictIn K C = true
  hcl : PySem.W.findIn K (.ref C) "__class__" = some (some (.builtin "object.__class__"))
  sp : PySem.W.specialIn K (.builtin "object.__class__") "__get__" = some (some (.builtin "getset_descriptor.__get__"))
  tk : PySem.W.takesIn K (.builtin "object.__class__") = some true
  mro : PySem.W.mroIn K C (.type "object") = some true
theorem XI.xf {K : PySem.W.Frag} {C : Addr} (T : XI K C) : XfC K C := ⟨T.ga, T.gg, T.sub, T.hd⟩
def rIsX (K : PySem.W.Frag) (a : Addr) (cls : Value) (d : Option Addr) : List V → Hp → VK → Prop := fun xs H Q =>
  ∃ (C dd : Addr) (fs : List (Str × V)) (c : V) (b : Bool), XI K C ∧ cls = .ref C ∧ d = some dd ∧ H dd = some (.xd fs) ∧ xs = [.ref a, c] ∧
    ((∃ cv, (∀ u, RelV c u → u = cv) ∧ PySem.W.kitOne K (.ref C) cv = some b) ∨
      ∃ (tp : Addr) (ys : List V) (its : List Value), c = .ref tp ∧ H tp = some (.tup ys) ∧ (∀ us, Vals ys us → us = its) ∧ PySem.W.kitAny K (.ref C) its = some b) ∧ Q (.bl b) H
theorem call_isX {X : Cx} {a : Addr} {oe : Obj} {cls : Value} {d : Option Addr} {pn : List (Addr × Obj)} (hz : Zc cls d oe) (hf : ∃ vs, oe.data = .fields vs) :
    CallR (X.suite a ((a, oe) :: pn)) (.builtin "isinstance") (rIsX X.K a cls d) := by
  intro pins s σ H xs us Q I r h
  obtain ⟨C, dd, fs, c, b, T, ec, ed, eH, rfl, hc, q⟩ := h
  subst ec ed
  obtain ⟨hget, _⟩ := I.pin (a, oe) (List.mem_append.mpr (.inl List.mem_cons_self))
  obtain ⟨vs, hv⟩ := hf
  have hx : ObjOk X.prog X.w H s.heap dd (.xd fs) := I.hok dd _ eH
  obtain ⟨mA, hns, _⟩ := hx
  obtain ⟨od, ho, _⟩ := lookIn_ns hns
  have J : PySem.W.InstAt s.heap a oe C (some od) := ⟨hget, hz.1, by unfold PySem.W.notCls; rw [hv] <;> rfl, by rw [hz.2]; exact ho⟩
  have hcl : (PySem.W.clsIn X.K C).isSome = true := by
    obtain ⟨cd, hc, _⟩ := PySem.W.any_some T.hd
    rw [hc]; rfl
  have Z : PySem.W.KitX X.K (.ref a) (.ref C) (fun h => PySem.W.InstAt h a oe C (some od)) := PySem.W.kitx_exc hcl T.ga T.gg T.sub T.hcl T.sp T.tk T.mro
  obtain ⟨u, rfl, ru, uc, rc⟩ : ∃ u2, us = [.ref a, u2] ∧ RelV c u2 ∧ True ∧ True := by
    cases r with
    | cons r1 r2 =>
      cases r2 with
      | cons r3 r4 =>
        cases r4
        cases r1
        exact ⟨_, rfl, r3, trivial, trivial⟩
  rcases hc with ⟨cv, hcv, e⟩ | ⟨tp, ys, its, rfl, hH, hits, e⟩
  · have eu := hcv _ ru
    subst eu
    exact PySem.W.kia_one Z I.kIn J e (fun z => nomatch z) fun tk => ⟨.bl b, H, I.kept (t' := tk) fun _ _ z => z, rfl, q⟩
  · obtain rfl : u = Value.ref tp := ru
    obtain ⟨_, us2, r2, o, h1, h2, n, h3⟩ := (show ObjOk X.prog X.w H s.heap tp (.tup ys) from I.hok tp _ hH)
    have eu := hits us2 r2
    subst eu
    obtain ⟨oc, od2, oda, osl⟩ := o
    dsimp only at h2 h3
    subst h2 h3
    exact PySem.W.kia_tup Z I.kIn J h1 e (fun z => nomatch z) fun tk => ⟨.bl b, H, I.kept (t' := tk) fun _ _ z => z, rfl, q⟩
end KX

set_option maxRecDepth 100000
set_option maxHeartbeats 4000000
namespace KX
open PySem PySem.Spec PyProof.Rows L2
section
variable {X : Cx}
/-- x in t, x not in t: t a tuple of data, x data, no dicts -/
def rInT (K : PySem.W.Frag) (f : Bool → Bool) : R2 := fun x y H Q => ∃ d ds, Dp K H x d ∧ Dp K H y (.tuple ds) ∧ d.plain = true ∧ PyData.plainAll ds = true ∧ PyData.depthAll ds ≤ 60 ∧ Q (.bl (f (ds.any fun z => PyData.eqv z d))) H
theorem op_inTD (hu : X.A.units + 64 < cLine) : OpR X (compareOp .In) (rInT X.K id) := by
  intro pins s σ H x y v u Q I rx ry h
  obtain ⟨d, ds, hd, he, pd, pe, hm, q⟩ := h
  obtain ⟨as, r1⟩ := Dp.reads I d x v hd rx
  obtain ⟨bs, r2⟩ := Dp.reads I (.tuple ds) y u he ry
  exact SeqAt.in_tuple_data r2 r1 pe pd (by omega) ⟨.bl _, H, I, rfl, q⟩
theorem op_ninTD (hu : X.A.units + 64 < cLine) : OpR X (compareOp .NotIn) (rInT X.K not) := by
  intro pins s σ H x y v u Q I rx ry h
  obtain ⟨d, ds, hd, he, pd, pe, hm, q⟩ := h
  obtain ⟨as, r1⟩ := Dp.reads I d x v hd rx
  obtain ⟨bs, r2⟩ := Dp.reads I (.tuple ds) y u he ry
  exact SeqAt.notIn_tuple_data r2 r1 pe pd (by omega) ⟨.bl _, H, I, rfl, q⟩
/-- len(s), s a set of numbers -/
theorem call_lenZ : CallR X (.builtin "len") (fun xs H Q => ∃ (a : Addr) (S : Int → Bool) (n : Nat), xs = [.ref a] ∧ H a = some (SetO X.w a S n) ∧ Q (.int n) H) := by
  intro pins s σ H xs us Q I r h
  obtain ⟨a, S, n, rfl, ha, q⟩ := h
  obtain ⟨u, rfl, ru⟩ := vals1 r
  obtain rfl : u = Value.ref a := ru
  obtain ⟨o, es, ep, t, ho, hex, hd, _, _, _, hb, hf, hn, _⟩ := setO_get I ha
  have hb' : (scanBound : Nat) < 2 ^ 63 := by decide
  exact call_len_set ho hex hd hf (by omega) ⟨.int n, H, I.tok _, ⟨_, by rw [hn]⟩, q⟩
/-- what a turn of {k for x in t} leaves -/
def addS (w : World) (D : Addr) (S : Int → Bool) (n : Nat) (k : Int) (H : Hp) : Hp := upd H D (SetO w D (fun j => S j || decide (j = k)) (if S k = true then n else n + 1))
theorem into_set {pins : List (Addr × Obj)} {σ : L2.St} {H : Hp} {s : Shared} {E : Value → Shared → Prop} {D : Addr} {S : Int → Bool} {n : Nat} {k : Int} {tk : Tok} {Q : Value → Shared → Prop} (I : Inv X pins σ H s)
    (hD : H D = some (SetO X.w D S n)) (room : n + 1 < scanBound) (go : ∀ s2, Inv X pins σ (addS X.w D S n k H) s2 → Q .none s2) : wpAny (model X.prog X.w) X.A (call (.builtin "set.add") [.ref D, .int k tk]) Q E s := by
  refine setR_add (setO_get I hD) room fun h2 sb new => go _ ?_
  have ex : ∃ u, h2.get? D = some u := by
    obtain ⟨o, _, _, _, ho, _⟩ := new
    exact ⟨o, ho⟩
  exact I.write (e := D) (t' := s.toks + 1) (by rw [hD]; trivial) (.inl rfl) (fun b u hb hu => (sb.2 b hb).trans hu) ex (setO_new new)
/-- {e for x in t}, no ifs, e a number: D the new set -/
def tSetI (w : World) (wi : TI) (g : TG) (te : TE) (vs : List Nat) : TE := fun σ H Q => wi σ H fun J H1 => ∀ D, H1 D = none → ∃ W : Nat → Nat → Hp → Prop, (∃ m, W 0 m (upd H1 D (SetO w D (fun _ => false) 0))) ∧
  ∀ i m G, W i m G → (J.stop i G ∧ Q (.ref D) G) ∨ (J.go i G ∧ ∀ x G1, J.yld i G x G1 → g x (wipe σ vs) G1 fun σ2 G2 => wipe σ2 vs = wipe σ vs ∧
    te σ2 G2 fun y G3 => ∃ (k : Int) (S : Int → Bool) (n : Nat), y = .int k ∧ G3 D = some (SetO w D S n) ∧ n + 1 < scanBound ∧ ∃ m2, m2 < m ∧ W (i + 1) m2 (addS w D S n k G3))
abbrev freshSet (w : World) : Obj := { cls := .type "set", dict := none, data := .set #[] 0 (.fresh 0 0 (!w.params.followText "set-order")) }
theorem pe_setI {elt tg iter : Expr} {scope : Scope} {own : List (PySem.Str × Nat)} {pos : Pos} {wi : TI} {g : TG} {te : TE} (hc : X.calm = true) (hN : X.N.Nodup) (hi : PI X tg iter wi) (ok : BlkOk X.N X.env.scope scope own)
    (hg : ∀ (s : Shared) (H : Hp) (C : Addr) (cl : List (PySem.Str × Addr)) (fp : List Addr), PG (X.blk s H scope (compEnvC scope cl C X.env) fp) tg g)
    (he : ∀ (s : Shared) (H : Hp) (C : Addr) (cl : List (PySem.Str × Addr)) (fp : List Addr), PE (X.blk s H scope (compEnvC scope cl C X.env) fp) elt te)
    (hs : ∀ x, foldedSetIterable iter X.env x = pure x := by intro _; rfl) :
    PE X (.SetComp elt [⟨tg, iter, [], 0⟩] scope pos) (tSetI X.w wi g te (own.map (·.2))) := by
  refine ⟨fun pins s σ H Q I h => ?_⟩
  rw [PpSet.eval_SetComp]
  have cap : ∀ y ∈ scope.names, y.2 = .free → ∃ c, X.env.cells.lookup y.1 = some c := fun y hy e => (ok.free y hy e).elim (fun k => I.ok.has _ (.inl k)) fun k => I.ok.has _ (.inr k)
  refine wpAny_comprehension_free rfl hs (closure_ok cap) ok.kind (fun y hy e => by rw [ok.uniq y hy, e]) (thn (hi.run pins s σ H _ I h) fun xv s1 hx => thn hx fun itv s2 z => ?_)
  obtain ⟨it, fp, tn, J, H2, rfl, I2, T, at0, own2, q⟩ := z
  refine PpSet.newSet_ok (newEnv_comp ?_)
  obtain ⟨D, hD⟩ : ∃ D, D = s2.heap.objs.size := ⟨_, rfl⟩
  rw [← hD]
  obtain ⟨W, ⟨m0, w0⟩, turn⟩ := q D (I2.hok.fresh (Nat.le_of_eq hD.symm))
  obtain ⟨s3, es3⟩ : ∃ s3 : Shared, s3 = { s2 with heap := s2.heap.push (freshSet X.w) } := ⟨_, rfl⟩
  obtain ⟨H3, eH3⟩ : ∃ H3, H3 = upd H2 D (SetO X.w D (fun _ => false) 0) := ⟨_, rfl⟩
  have I3 : Inv X pins σ H3 s3 := by
    rw [es3, eH3]
    refine I2.laid (t' := s2.toks) (fun b o e => Heap.get?_push_of_some _ e) (Nat.le_of_eq hD.symm) ?_
    rw [hD]
    exact setO_new (setR_fresh X.w)
  have kp3 : ∀ b o, s2.heap.get? b = some o → s3.heap.get? b = some o := fun b o e => by rw [es3]; exact Heap.get?_push_of_some _ e
  have own3 : ∀ b ∈ fp, FpOk X pins H3 b ∧ b < s3.heap.objs.size := fun b hb => by
    obtain ⟨o, eo, _⟩ := T.obj _ _ at0 b hb
    have lt := Heap.lt_size eo
    refine ⟨⟨?_, (own2 b hb).2⟩, Heap.lt_size (kp3 b o eo)⟩
    rw [eH3, upd_ne (by rw [hD]; exact Nat.ne_of_lt lt)]
    exact (own2 b hb).1
  have I4 := block_start I3 ok hN own3
  obtain ⟨C, eC⟩ : ∃ C, C = s3.heap.objs.size := ⟨_, rfl⟩
  obtain ⟨cl, ecl⟩ : ∃ cl, cl = cellsFrom (s3.heap.objs.size + 1) scope.names (cloFrom X.env.cells scope.names []) := ⟨_, rfl⟩
  have at3 : tn 0 s3.heap := T.keep _ _ _ at0 fun b _ o e => kp3 b o e
  rw [← es3, ← ecl, ← eC]
  rw [← ecl, ← eC] at I4
  obtain ⟨s4, es4⟩ : ∃ s4 : Shared, s4 = { s3 with heap := pushCells (s3.heap.push { cls := .type "dict", data := .dict #[] }) scope.names } := ⟨_, rfl⟩
  rw [← es4] at I4 ⊢
  have at4 : tn 0 s4.heap := T.keep _ _ _ at3 fun b _ o e => by rw [es4]; exact pushCells_keeps _ _ _ _ (Heap.get?_push_of_some _ e)
  obtain ⟨Y, eY⟩ : ∃ Y, Y = X.blk s3 H3 scope (compEnvC scope cl C X.env) fp := ⟨_, rfl⟩
  have pg := hg s3 H3 C cl fp
  have pe := he s3 H3 C cl fp
  rw [← eY] at pg pe I4
  have calmY : Y.calm = true := by rw [eY]; exact hc
  have still : ∀ {σ' : L2.St} {H' : Hp} {s' : Shared}, Inv Y [] σ' H' s' → (∀ b ∈ fp, H' b = none) → ∀ b ∈ fp, FpOk Y [] H' b := fun {σ' H' s'} I' hn b hb => by
    subst eY
    exact ⟨hn b hb, (I'.ok.exf b hb).1, I'.ok.exfs b hb, .inl hb, fun x c e => (I'.ok.exf b hb).2 x c e, fun p hp => absurd (show p ∈ ([] : List (Addr × Obj)) ++ [] from hp) (by simp)⟩
  have loop : codeAny (model X.prog X.w) X.A (.compLoop (.SetComp elt [⟨tg, iter, [], 0⟩] scope pos) 0 (.ref it) (.ref D) (compEnvC scope cl C X.env)) (compPost (model X.prog X.w) X.A X.xe none (EP X pins σ Q) (.ref D) C) s4 := by
    refine PpSet.compLoopS_any (fun m s' => ∃ i G, Inv Y [] (wipe σ (own.map (·.2))) G s' ∧ tn i s'.heap ∧ (∀ b ∈ fp, G b = none) ∧ W i m G) ?_ m0
      ⟨0, H3, I4, at4, fun b hb => (own3 b hb).1.1, by rw [eH3]; exact w0⟩
    rintro m s5 ⟨i, G, I5, at5, n5, w5⟩
    rcases turn i m G w5 with ⟨stop, qq⟩ | ⟨go, step⟩
    · have td := T.done Y (by rw [eY]) (by rw [eY]) (by rw [eY]) calmY i [] s5 _ G (fun _ _ => False) I5 (still I5 n5) at5 stop
      have cL : (compEnvC scope cl C X.env).locals = C := rfl
      subst eY
      refine thnF td fun r s6 z => ?_
      obtain ⟨hr, I6⟩ := z
      subst hr
      have back : ∀ b ∈ fp, (b ∈ X.ex ∨ X.s_0.heap.objs.size ≤ b) ∧ b ≠ X.env.locals ∧ (∀ x c, X.env.cells.lookup x = some c → c ≠ b) ∧ ∀ p ∈ X.pn ++ pins, p.1 ≠ b := fun b hb => by
        obtain ⟨_, a1, _, a3, a4, a5⟩ := (own3 b hb).1
        exact ⟨a3, a1, a4, a5⟩
      have I7 : Inv X pins σ G s6 := I3.call' (ch := fp) I6.os I6.base I6.hok I6.bare back
      have nC : G C = none := I6.free
      obtain ⟨mm, hn, _⟩ := I6.loc
      refine ⟨mm, hn, fun h2 sb => ?_⟩
      obtain ⟨f0, f1, f2, f3, f4, f5⟩ := I3.fpOk (Nat.le_of_eq eC.symm) nC
      exact ⟨.ref D, G, I7.turned (t' := s6.toks) (fun b o hb e => (sb.2 b hb).trans e) f0 f1 f3 f4 f5, rfl, qq⟩
    · have ti := T.item Y (by rw [eY]) (by rw [eY]) (by rw [eY]) calmY i [] s5 _ G (fun _ _ => False) I5 (still I5 n5) at5 go
      have xeY : Y.xe = fun _ _ => False := by rw [eY]
      have AY : Y.A = X.A := by rw [eY]
      have pY : Y.prog = X.prog := by rw [eY]
      have wY : Y.w = X.w := by rw [eY]
      subst eY
      refine thnF ti fun r s6 z => ?_
      obtain ⟨u, hr, h6⟩ := z
      subst hr
      refine thnF h6 fun _ s7 z => ?_
      obtain ⟨x, G7, I7, r7, y7, at7, n7⟩ := z
      have I7p := I7.pinned (still I7 n7) (T.obj _ _ at7)
      refine thnF (pg.run _ s7 _ G7 x u _ I7p r7 (step x G7 y7)) fun _ s8 z => ?_
      obtain ⟨σ8, G8, I8, hw8, q8⟩ := z
      show wpAny _ _ (forIn [] true _) _ _ s8
      refine wpAny_pure ?_
      rw [if_pos rfl]
      refine thnF (pe.run _ s8 σ8 G8 _ I8 q8) fun v s9 z => ?_
      obtain ⟨yv, G9, I9, r9, k, S, n, ey, hD9, room, m2, lt2, w2⟩ := z
      subst ey
      obtain ⟨tk, rfl⟩ := r9
      refine into_set (X := X.blk s3 H3 scope (compEnvC scope cl C X.env) fp) I9 hD9 room fun s10 I10 => ?_
      have pinned : ∀ b ∈ fp, ∀ o, s7.heap.get? b = some o → s10.heap.get? b = some o ∧ addS X.w D S n k G9 b = none := fun b hb o e =>
        have z := I10.pin (b, o) (List.mem_append_right _ (List.mem_append_right _ (mem_pinsAt hb e)))
        ⟨z.1, z.2.1⟩
      have hl : (wipe σ (own.map (·.2))).length = σ8.length := by rw [← hw8, wipe_length]
      refine ⟨m2, lt2, i + 1, _, (I10.unpinned (pins := [])).weak hl (fun j v e => ?_), T.keep _ _ _ at7 fun b hb o e => (pinned b hb o e).1, fun b hb => ?_, w2⟩
      · rw [← hw8] at e
        exact (wipe_some e).1
      · obtain ⟨o, e, _⟩ := T.obj _ _ at7 b hb
        exact (pinned b hb o e).2
  exact PpSet.codeAny_compStart_set loop (T.self X.A 0 _ _ _ at4 loop)
end
end KX
namespace KX
open PySem PySem.Spec PyProof.Rows L2
/-- {e for x in t}, t a tuple that stays -/
theorem setI_tup {w : World} {K : PySem.W.Frag} {a D : Addr} {xs : List V} {g : TG} {te : TE} {vs : List Nat} {σ : L2.St} {H1 : Hp} {Qd : Hp → Prop} (Pv : Nat → Hp → Prop) (h0 : Pv 0 (upd H1 D (SetO w D (fun _ => false) 0)))
    (hl : ∀ i G, i ≤ xs.length → Pv i G → SqT K G a xs)
    (hs : ∀ i x G, xs[i]? = some x → Pv i G → g x (wipe σ vs) G fun σ2 G2 => wipe σ2 vs = wipe σ vs ∧ te σ2 G2 fun y G3 => ∃ (k : Int) (S : Int → Bool) (n : Nat), y = .int k ∧ G3 D = some (SetO w D S n) ∧ n + 1 < scanBound ∧ Pv (i + 1) (addS w D S n k G3))
    (hd : ∀ G, Pv xs.length G → Qd G) :
    ∃ W : Nat → Nat → Hp → Prop, (∃ m, W 0 m (upd H1 D (SetO w D (fun _ => false) 0))) ∧ ∀ i m G, W i m G → ((Itt K a).stop i G ∧ Qd G) ∨ ((Itt K a).go i G ∧ ∀ x G1, (Itt K a).yld i G x G1 → g x (wipe σ vs) G1 fun σ2 G2 => wipe σ2 vs = wipe σ vs ∧
      te σ2 G2 fun y G3 => ∃ (k : Int) (S : Int → Bool) (n : Nat), y = .int k ∧ G3 D = some (SetO w D S n) ∧ n + 1 < scanBound ∧ ∃ m2, m2 < m ∧ W (i + 1) m2 (addS w D S n k G3)) := by
  refine ⟨fun i m G => m = xs.length - i ∧ i ≤ xs.length ∧ Pv i G, ⟨xs.length, by simp, Nat.zero_le _, h0⟩, fun i m G hw => ?_⟩
  obtain ⟨rfl, hi, p⟩ := hw
  have q := hl i G hi p
  by_cases lt : i < xs.length
  · refine .inr ⟨⟨xs, xs[i], q, List.getElem?_eq_getElem lt⟩, fun x G1 y => ?_⟩
    obtain ⟨rfl, y⟩ := y
    have z := hs i x G1 (y xs q) p
    have mono : ∀ {σ2 : L2.St} {G2 : Hp} {y : V} {G3 : Hp}, (∃ (k : Int) (S : Int → Bool) (n : Nat), y = .int k ∧ G3 D = some (SetO w D S n) ∧ n + 1 < scanBound ∧ Pv (i + 1) (addS w D S n k G3)) →
        ∃ (k : Int) (S : Int → Bool) (n : Nat), y = .int k ∧ G3 D = some (SetO w D S n) ∧ n + 1 < scanBound ∧ ∃ m2, m2 < xs.length - i ∧ m2 = xs.length - (i + 1) ∧ i + 1 ≤ xs.length ∧ Pv (i + 1) (addS w D S n k G3) :=
      fun {σ2 G2 y G3} h => by
        obtain ⟨k, S, n, e1, e2, e3, e4⟩ := h
        exact ⟨k, S, n, e1, e2, e3, _, by omega, rfl, by omega, e4⟩
    have key : (fun (y : V) (G3 : Hp) => ∃ (k : Int) (S : Int → Bool) (n : Nat), y = .int k ∧ G3 D = some (SetO w D S n) ∧ n + 1 < scanBound ∧ ∃ m2, m2 < xs.length - i ∧ m2 = xs.length - (i + 1) ∧ i + 1 ≤ xs.length ∧ Pv (i + 1) (addS w D S n k G3)) =
        fun (y : V) (G3 : Hp) => ∃ (k : Int) (S : Int → Bool) (n : Nat), y = .int k ∧ G3 D = some (SetO w D S n) ∧ n + 1 < scanBound ∧ Pv (i + 1) (addS w D S n k G3) := by
      funext y G3
      refine propext ⟨fun h => ?_, fun h => mono (σ2 := []) (G2 := G3) h⟩
      obtain ⟨k, S, n, e1, e2, e3, m2, _, _, _, e4⟩ := h
      exact ⟨k, S, n, e1, e2, e3, e4⟩
    rw [key]
    exact z
  · have e : i = xs.length := by omega
    subst e
    exact .inl ⟨⟨xs, q, Nat.le_refl _⟩, hd G p⟩
end KX

set_option maxRecDepth 100000
set_option maxHeartbeats 4000000
namespace KX
open PySem PySem.Spec PyProof.Rows L2
/-! ### what an expression of a law's generator makes, its stream at l: S is what is known of the data, P of the names -/
abbrev PSt := L2.St → Hp → Prop
def Kp (l : Addr) (P : PSt) : Prop := ∀ σ H H', Keep l H H' → StO H' l → P σ H → P σ H'
def GD (l : Addr) (P : PSt) (S : PyData → Prop) (t : TE) : Prop := ∀ σ H Q, StO H l → P σ H → (∀ H' v d, S d → Keep l H H' → StO H' l → Dx (hid l H') v d → Q v H') → t σ H Q
def GDs (l : Addr) (P : PSt) (S : List PyData → Prop) (t : TA) : Prop := ∀ σ H Q, StO H l → P σ H → (∀ H' vs ds, S ds → Keep l H H' → StO H' l → Dxs (hid l H') vs ds → Q vs H') → t σ H Q
def GI (l : Addr) (P : PSt) (S : Int → Prop) (t : TE) : Prop := ∀ σ H Q, StO H l → P σ H → (∀ H' i, S i → Keep l H H' → StO H' l → Q (.int i) H') → t σ H Q
/-- a new list, read by its items only -/
def GM (l : Addr) (P : PSt) (S : List PyData → Prop) (t : TE) : Prop := ∀ σ H Q, StO H l → P σ H → (∀ H' p xs ds, S ds → Keep l H H' → StO H' l → p ≠ l → H' p = some (.lst xs) → Dxs (hid l H') xs ds → Q (.ref p) H') → t σ H Q
def GO (l : Addr) (P : PSt) (o : Option Int) (t : TO) : Prop := ∀ σ H Q, StO H l → P σ H → (∀ H', Keep l H H' → StO H' l → Q o H') → t σ H Q
section
variable {l : Addr} {P : PSt} {K : PySem.W.Frag} {S S2 : PyData → Prop} {Ss Ss2 : List PyData → Prop} {N : Int → Prop} {t ta tb : TE} {ts : TA} {d : PyData} {ds : List PyData}
theorem GD.imp (h : GD l P S t) (i : ∀ d, S d → S2 d) : GD l P S2 t := fun σ H Q st p q => h σ H Q st p fun H' v d s => q H' v d (i d s)
theorem GDs.imp (h : GDs l P Ss ts) (i : ∀ d, Ss d → Ss2 d) : GDs l P Ss2 ts := fun σ H Q st p q => h σ H Q st p fun H' v d s => q H' v d (i d s)
theorem GM.imp (h : GM l P Ss t) (i : ∀ d, Ss d → Ss2 d) : GM l P Ss2 t := fun σ H Q st p q => h σ H Q st p fun H' v xs d s => q H' v xs d (i d s)
theorem gd_var {i : Nat} (h : ∀ σ H, P σ H → ∃ v d, σ[i]? = some (some v) ∧ S d ∧ Dx (hid l H) v d) : GD l P S (tVar i) := fun σ H Q st p q => by
  obtain ⟨v, d, e, s, x⟩ := h σ H p
  exact ⟨v, e, q H v d s (Keep.refl l H) st x⟩
theorem gd_c {v : V} (h : ∀ H, Dx H v d) : GD l P (· = d) (tC v) := fun σ H Q st p q => q H v d rfl (Keep.refl l H) st (h _)
theorem gi_val {n : Int} (h : ∀ (σ : L2.St) (H : Hp) (Q : VK), Q (.int n) H → t σ H Q) : GI l P (· = n) t := fun σ H Q st p q => h σ H Q (q H n rfl (Keep.refl l H) st)
theorem gi_var {i : Nat} (h : ∀ σ H, P σ H → ∃ n, σ[i]? = some (some (.int n)) ∧ N n) : GI l P N (tVar i) := fun σ H Q st p q => by
  obtain ⟨n, e, s⟩ := h σ H p
  exact ⟨.int n, e, q H n s (Keep.refl l H) st⟩
theorem gd_int (h : GI l P N t) : GD l P (fun d => ∃ i, N i ∧ d = .int i) t := fun σ H Q st p q => h σ H Q st p fun H' i s k st' => q H' _ _ ⟨i, s, rfl⟩ k st' (.int i)
theorem gds_nil : GDs l P (· = []) tNil := fun σ H Q st p q => q H _ _ rfl (Keep.refl l H) st .nil
theorem gds_cons (kp : Kp l P) (h : GD l P S t) (hs : GDs l P Ss ts) : GDs l P (fun x => ∃ d ds, x = d :: ds ∧ S d ∧ Ss ds) (tCons t ts) := fun σ H Q st p q =>
  h σ H _ st p fun H1 v d s k st1 x => hs σ H1 _ st1 (kp _ _ _ k st1 p) fun H2 vs ds ss k2 st2 xs => q H2 _ _ ⟨d, ds, rfl, s, ss⟩ (k.trans k2) st2 (.cons (x.up k2.same) xs)
theorem gd_tup (h : GDs l P Ss ts) (hz : ∀ ds, Ss ds → ds.length ≤ sizeLine) : GD l P (fun d => ∃ ds, d = .tuple ds ∧ Ss ds) (tTup ts) := fun σ H Q st p q =>
  h σ H _ st p fun H1 vs ds s k st1 x => ⟨by rw [x.len]; exact hz ds s, fun a na => q _ _ _ ⟨ds, rfl, s⟩ (k.new na) (st1.new na) (dx_tup na st1 x)⟩
theorem gd_lst (h : GDs l P Ss ts) (hz : ∀ ds, Ss ds → ds.length ≤ sizeLine) : GD l P (fun d => ∃ ds, d = .list ds ∧ Ss ds) (tLstS ts) := fun σ H Q st p q =>
  h σ H _ st p fun H1 vs ds s k st1 x => ⟨by rw [x.len]; exact hz ds s, fun a na za => q _ _ _ ⟨ds, rfl, s⟩ (k.new na) (st1.new na) (dx_lst na za st1 x)⟩
theorem gm_lst (h : GDs l P Ss ts) (hz : ∀ ds, Ss ds → ds.length ≤ sizeLine) : GM l P Ss (tLst ts) := fun σ H Q st p q =>
  h σ H _ st p fun H1 vs ds s k st1 x => ⟨by rw [x.len]; exact hz ds s, fun a na => q _ a vs ds s (k.new na) (st1.new na) (st1.ne na) upd_same (x.up (hnew na))⟩
theorem gm_var {i : Nat} (h : ∀ σ H, P σ H → ∃ p xs ds, σ[i]? = some (some (.ref p)) ∧ Ss ds ∧ p ≠ l ∧ H p = some (.lst xs) ∧ Dxs (hid l H) xs ds) : GM l P Ss (tVar i) := fun σ H Q st p q => by
  obtain ⟨a, xs, ds, e, s, na, ea, x⟩ := h σ H p
  exact ⟨.ref a, e, q H a xs ds s (Keep.refl l H) st na ea x⟩
theorem gm_cat (kp : Kp l P) (h : GM l P Ss ta) (h2 : GM l P Ss2 tb) (hz : ∀ x y, Ss x → Ss2 y → x.length + y.length ≤ sizeLine) : GM l P (fun z => ∃ x y, z = x ++ y ∧ Ss x ∧ Ss2 y) (tOp rCat ta tb) := fun σ H Q st p q =>
  h σ H _ st p fun H1 a xs ds s k st1 na ea x => h2 σ H1 _ st1 (kp _ _ _ k st1 p) fun H2 b ys es s2 k2 st2 nb eb y =>
    ⟨a, b, xs, ys, rfl, rfl, k2 _ _ na ea, eb, by rw [x.len, y.len]; exact hz _ _ s s2, fun c nc => q _ c _ _ ⟨ds, es, rfl, s, s2⟩ ((k.trans k2).new nc) (st2.new nc) (st2.ne nc) upd_same (((x.up k2.same).app y).up (hnew nc))⟩
theorem gd_ixM {n : Int} (kp : Kp l P) (h : GM l P Ss ta) (hi : GI l P (fun k => 0 ≤ k ∧ k < n) tb) (hn : ∀ ds, Ss ds → (ds.length : Int) = n) : GD l P (fun d => ∃ ds, Ss ds ∧ d ∈ ds) (tOp (rIxL K) ta tb) := fun σ H Q st p q =>
  h σ H _ st p fun H1 a xs ds s k st1 na ea x => hi σ H1 _ st1 (kp _ _ _ k st1 p) fun H2 i hb k2 st2 => by
    have hl := hn ds s
    have hx := x.len
    have lt : i.toNat < xs.length := by omega
    obtain ⟨d, ed, hd⟩ := x.get' (List.getElem?_eq_getElem lt)
    have ix : atI xs i = some xs[i.toNat] := by
      have z := atI_nat (xs := xs) (j := i.toNat) (List.getElem?_eq_getElem lt)
      rwa [show ((i.toNat : Nat) : Int) = i by omega] at z
    exact ⟨a, xs, i, _, rfl, rfl, .inl (.inl (k2 _ _ na ea)), ix, q H2 _ d ⟨ds, s, List.mem_of_getElem? ed⟩ (k.trans k2) st2 (hd.up k2.same)⟩
/-- t[k], t a tuple that is known -/
theorem gd_ixT {k : Nat} (kp : Kp l P) (h : GD l P (· = .tuple ds) ta) (hi : GI l P (· = (k : Int)) tb) (hk : ds[k]? = some d) : GD l P (· = d) (tOp (rIxT K) ta tb) := fun σ H Q st p q =>
  h σ H _ st p fun H1 v e s k1 st1 x => hi σ H1 _ st1 (kp _ _ _ k1 st1 p) fun H2 i hb k2 st2 => by
    subst s hb
    obtain ⟨a, xs, rfl, na, ea, hx⟩ := dx_tupOf x
    have lt : k < ds.length := by
      rcases Nat.lt_or_ge k ds.length with z | z
      · exact z
      · rw [List.getElem?_eq_none z] at hk; cases hk
    have lt2 : k < xs.length := by rw [hx.len]; exact lt
    obtain ⟨d2, ed, hd⟩ := hx.get' (List.getElem?_eq_getElem lt2)
    rw [hk] at ed
    cases ed
    exact ⟨a, xs, k, _, rfl, rfl, .inl (.inl (k2 _ _ na ea)), atI_nat (List.getElem?_eq_getElem lt2), q H2 _ d rfl (k1.trans k2) st2 (hd.up k2.same)⟩
theorem go_none : GO l P none tNoPart := fun σ H Q st p q => q H (Keep.refl l H) st
theorem go_some {n : Int} (h : GI l P (· = n) t) : GO l P (some n) (tPart t) := fun σ H Q st p q => h σ H _ st p fun H' i s k st' => ⟨i, rfl, by subst s; exact q H' k st'⟩
theorem gd_slice {lo hi : Option Int} {tl th : TO} (kp : Kp l P) (h : GD l P (· = .tuple ds) ta) (hl : GO l P lo tl) (hh : GO l P hi th) : GD l P (· = .tuple (cutD ds lo hi)) (L2.tSl (rSlA K) ta tl th) := fun σ H Q st p q =>
  h σ H _ st p fun H1 v e s k1 st1 x => hl σ H1 _ st1 (kp _ _ _ k1 st1 p) fun H2 k2 st2 => hh σ H2 _ st2 (kp _ _ _ (k1.trans k2) st2 p) fun H3 k3 st3 => by
    subst s
    exact sl_of ((x.up k2.same).up k3.same) st3 fun H4 a k4 st4 y => q H4 _ _ rfl (((k1.trans k2).trans k3).trans k4) st4 y
theorem gd_cat (kp : Kp l P) (h : GD l P S ta) (h2 : GD l P S2 tb) (t1 : ∀ d, S d → ∃ ds, d = .tuple ds ∧ ds.length ≤ 1000) (t2 : ∀ d, S2 d → ∃ ds, d = .tuple ds ∧ ds.length ≤ 1000) :
    GD l P (fun d => ∃ x y, S (.tuple x) ∧ S2 (.tuple y) ∧ d = .tuple (x ++ y)) (tOp (rCatA K) ta tb) := fun σ H Q st p q =>
  h σ H _ st p fun H1 v e s k1 st1 x => h2 σ H1 _ st1 (kp _ _ _ k1 st1 p) fun H2 u e2 s2 k2 st2 y => by
    obtain ⟨ds, rfl, z1⟩ := t1 e s
    obtain ⟨es, rfl, z2⟩ := t2 e2 s2
    have hb : (2000 : Nat) ≤ sizeLine := by decide
    exact cat_of (x.up k2.same) y st2 (by omega) fun H3 a k3 st3 z => q H3 _ _ ⟨ds, es, s, s2, rfl⟩ ((k1.trans k2).trans k3) st3 z
def rLst2 (K : PySem.W.Frag) : List V → Hp → VK → Prop := fun xs H Q => ∃ p ys, xs = [.ref p] ∧ (SqL K H p ys ∨ SqT K H p ys) ∧ ∀ l, H l = none → l ≠ sysModules → Q (.ref l) (upd H l (.lst ys))
theorem call_lst2 {X : Cx} : CallR X (.type "list") (rLst2 X.K) := call_listS
theorem gd_listOf (h : GD l P (· = .tuple ds) t) : GD l P (· = .list ds) (tCB (rLst2 K) (tCons t tNil)) := fun σ H Q st p q =>
  h σ H _ st p fun H1 v e s k1 st1 x => by
    subst s
    obtain ⟨a, xs, rfl, na, ea, hx⟩ := dx_tupOf x
    exact ⟨a, xs, rfl, .inr (.inl (.inl ea)), fun b nb zb => q _ _ _ rfl (k1.new nb) (st1.new nb) (dx_lst nb zb st1 hx)⟩
theorem gd_rep {k : Int} (kp : Kp l P) (h : GD l P (· = .tuple ds) ta) (hb : GI l P (· = k) tb) (k2 : 2 ≤ k) (k1 : k ≤ 1000) (hn : ds ≠ []) (hz : ds.length ≤ 1000) :
    GD l P (· = .tuple (List.replicate k.toNat ds).flatten) (tOp (rRepT K) ta tb) := fun σ H Q st p q =>
  h σ H _ st p fun H1 v e s k1' st1 x => hb σ H1 _ st1 (kp _ _ _ k1' st1 p) fun H2 i hb k2' st2 => by
    subst s hb
    obtain ⟨a, xs, rfl, na, ea, hx⟩ := dx_tupOf (x.up k2'.same)
    have hl := hx.len
    refine ⟨a, i, xs, rfl, rfl, .inl (.inl ea), fun z => ?_, k2, k1, by omega, fun b nb => q _ _ _ rfl ((k1'.trans k2').new nb) (st2.new nb) (dx_tup nb st2 (dxs_rep hx _))⟩
    subst z
    exact hn (List.eq_nil_of_length_eq_zero (by simpa using hl.symm))
theorem gd_dict : GD l P (· = .dict []) tDNewK := fun σ H Q st p q b nb => q _ _ _ rfl ((Keep.refl l H).new nb) (st.new nb) (dx_dic nb st)
end
end KX

set_option maxRecDepth 100000
set_option maxHeartbeats 4000000
namespace KX
open PySem PySem.Spec PyProof.Rows L2
/-! ### known names, and data of a bounded weight -/
def Env (l : Addr) (σ0 : L2.St) (L : List (V × PyData)) (M : List (Addr × List V × List PyData)) : PSt := fun σ H =>
  σ = σ0 ∧ (∀ p ∈ L, Dx (hid l H) p.1 p.2) ∧ ∀ m ∈ M, m.1 ≠ l ∧ H m.1 = some (.lst m.2.1) ∧ Dxs (hid l H) m.2.1 m.2.2
theorem kp_env {l : Addr} {σ0 : L2.St} {L : List (V × PyData)} {M : List (Addr × List V × List PyData)} : Kp l (Env l σ0 L M) := fun σ H H' k st h =>
  ⟨h.1, fun p hp => (h.2.1 p hp).up k.same, fun m hm => by
    obtain ⟨h1, h2, h3⟩ := h.2.2 m hm
    exact ⟨h1, k _ _ h1 h2, h3.up k.same⟩⟩
def Gp (n : Nat) (d : PyData) : Prop := fine (10 ^ 40) d = true ∧ wt d ≤ n ∧ d.plain = true
def Lp (n : Nat) (ds : List PyData) : Prop := fineAll (10 ^ 40) ds = true ∧ wtAll ds ≤ n ∧ PyData.plainAll ds = true
def TpS (n : Nat) (d : PyData) : Prop := ∃ ds, d = .tuple ds ∧ Lp n ds
def Al (S : PyData → Prop) (n : Nat) (ds : List PyData) : Prop := ds.length = n ∧ ∀ d ∈ ds, S d
theorem plainAll_app : ∀ xs ys : List PyData, PyData.plainAll (xs ++ ys) = (PyData.plainAll xs && PyData.plainAll ys)
  | [], ys => by simp [PyData.plainAll]
  | x :: xs, ys => by simp [PyData.plainAll, plainAll_app xs ys, Bool.and_assoc]
theorem Lp.nil : Lp 0 [] := ⟨rfl, Nat.le_refl _, rfl⟩
theorem Lp.cons {a b : Nat} {d : PyData} {ds : List PyData} (h : Gp a d) (t : Lp b ds) : Lp (a + b) (d :: ds) := by
  refine ⟨by simp [fineAll, h.1, t.1], ?_, by simp [PyData.plainAll, h.2.2, t.2.2]⟩
  have h1 := h.2.1
  have h2 := t.2.1
  simp [wtAll]
  omega
theorem Lp.app {a b : Nat} {x y : List PyData} (h : Lp a x) (t : Lp b y) : Lp (a + b) (x ++ y) := by
  refine ⟨by rw [fineAll_app, h.1, t.1]; rfl, ?_, by rw [plainAll_app, h.2.2, t.2.2]; rfl⟩
  have h1 := h.2.1
  have h2 := t.2.1
  rw [wtAll_app]
  omega
theorem Lp.mono {a b : Nat} {x : List PyData} (h : Lp a x) (le : a ≤ b) : Lp b x := ⟨h.1, Nat.le_trans h.2.1 le, h.2.2⟩
theorem Gp.mono {a b : Nat} {x : PyData} (h : Gp a x) (le : a ≤ b) : Gp b x := ⟨h.1, Nat.le_trans h.2.1 le, h.2.2⟩
theorem Lp.split {n k : Nat} {x : List PyData} (h : Lp n x) : Lp n (x.take k) ∧ Lp n (x.drop k) := by
  obtain ⟨h1, h2, h3⟩ := h
  rw [← List.take_append_drop k x, fineAll_app, Bool.and_eq_true] at h1
  rw [← List.take_append_drop k x, wtAll_app] at h2
  rw [← List.take_append_drop k x, plainAll_app, Bool.and_eq_true] at h3
  exact ⟨⟨h1.1, by omega, h3.1⟩, ⟨h1.2, by omega, h3.2⟩⟩
theorem Lp.cut {n : Nat} {x : List PyData} (h : Lp n x) (lo hi : Option Int) : Lp n (cutD x lo hi) := (h.split.2).split.1
theorem Lp.len {n : Nat} {x : List PyData} (h : Lp n x) : x.length ≤ n := Nat.le_trans (len_wt x) h.2.1
theorem Lp.tup {n : Nat} {x : List PyData} (h : Lp n x) : Gp (n + 1) (.tuple x) := ⟨by simpa [fine] using h.1, by have := h.2.1; simp [wt]; omega, by simpa [PyData.plain] using h.2.2⟩
theorem Lp.lst {n : Nat} {x : List PyData} (h : Lp n x) : Gp (n + 1) (.list x) := ⟨by simpa [fine] using h.1, by have := h.2.1; simp [wt]; omega, by simpa [PyData.plain] using h.2.2⟩
theorem TpS.gp {n : Nat} {d : PyData} (h : TpS n d) : Gp (n + 1) d := by
  obtain ⟨ds, rfl, h⟩ := h
  exact h.tup
theorem TpS.mono {a b : Nat} {d : PyData} (h : TpS a d) (le : a ≤ b) : TpS b d := by
  obtain ⟨ds, rfl, h⟩ := h
  exact ⟨ds, rfl, h.mono le⟩
theorem big_line : (1000 : Nat) ≤ sizeLine := by decide
section
variable {l : Addr} {P : PSt} {K : PySem.W.Frag} {S : PyData → Prop} {t ta tb : TE} {ts : TA} {ds : List PyData} {a b n : Nat} {σ0 : L2.St} {L : List (V × PyData)} {M : List (Addr × List V × List PyData)}
theorem gd_env {i : Nat} {v : V} {d : PyData} (h : σ0[i]? = some (some v)) (hm : (v, d) ∈ L) : GD l (Env l σ0 L M) (· = d) (tVar i) :=
  gd_var fun σ H p => ⟨v, d, by rw [p.1]; exact h, rfl, p.2.1 _ hm⟩
theorem gi_env {i : Nat} {k : Int} (h : σ0[i]? = some (some (.int k))) : GI l (Env l σ0 L M) (· = k) (tVar i) := gi_var fun σ H p => ⟨k, by rw [p.1]; exact h, rfl⟩
theorem gm_env {i : Nat} {p : Addr} {xs : List V} (h : σ0[i]? = some (some (.ref p))) (hm : (p, xs, ds) ∈ M) : GM l (Env l σ0 L M) (· = ds) (tVar i) :=
  gm_var fun σ H q => ⟨p, xs, ds, by rw [q.1]; exact h, rfl, (q.2.2 _ hm).1, (q.2.2 _ hm).2.1, (q.2.2 _ hm).2.2⟩
theorem gl_nil : GDs l P (Lp 0) tNil := gds_nil.imp fun _ e => by subst e; exact Lp.nil
theorem gl_cons (kp : Kp l P) (h : GD l P (Gp a) t) (hs : GDs l P (Lp b) ts) : GDs l P (Lp (a + b)) (tCons t ts) := (gds_cons kp h hs).imp fun _ z => by
  obtain ⟨d, ds, rfl, z1, z2⟩ := z
  exact Lp.cons z1 z2
theorem gl_tup (h : GDs l P (Lp n) ts) (hn : n ≤ 1000) : GD l P (TpS n) (tTup ts) := (gd_tup h fun ds z => Nat.le_trans z.len (Nat.le_trans hn big_line)).imp fun _ z => by
  obtain ⟨ds, rfl, z⟩ := z
  exact ⟨ds, rfl, z⟩
theorem gl_cat (kp : Kp l P) (h : GD l P (TpS a) ta) (h2 : GD l P (TpS b) tb) (ha : a ≤ 1000) (hb : b ≤ 1000) : GD l P (TpS (a + b)) (tOp (rCatA K) ta tb) :=
  (gd_cat kp h h2 (fun d z => by obtain ⟨ds, rfl, z⟩ := z; exact ⟨ds, rfl, Nat.le_trans z.len ha⟩) fun d z => by obtain ⟨ds, rfl, z⟩ := z; exact ⟨ds, rfl, Nat.le_trans z.len hb⟩).imp fun d z => by
    obtain ⟨x, y, ⟨x', e1, h1⟩, ⟨y', e2, h2⟩, rfl⟩ := z
    cases e1
    cases e2
    exact ⟨_, rfl, h1.app h2⟩
theorem gl_slice {lo hi : Option Int} {tl th : TO} (kp : Kp l P) (h : GD l P (· = .tuple ds) ta) (z : Lp n ds) (hl : GO l P lo tl) (hh : GO l P hi th) : GD l P (TpS n) (L2.tSl (rSlA K) ta tl th) :=
  (gd_slice kp h hl hh).imp fun d e => ⟨_, e, z.cut lo hi⟩
theorem al_nil : GDs l P (Al S 0) tNil := gds_nil.imp fun _ e => by subst e; exact ⟨rfl, fun d h => by cases h⟩
theorem al_cons (kp : Kp l P) (h : GD l P S t) (hs : GDs l P (Al S n) ts) : GDs l P (Al S (n + 1)) (tCons t ts) := (gds_cons kp h hs).imp fun _ z => by
  obtain ⟨d, ds, rfl, z1, z2, z3⟩ := z
  refine ⟨by simp [z2], fun x hx => ?_⟩
  rcases List.mem_cons.mp hx with e | hx
  · rw [e]; exact z1
  · exact z3 x hx
theorem al_lst (h : GDs l P (Al S n) ts) (hn : n ≤ 1000) : GM l P (Al S n) (tLst ts) := gm_lst h fun ds z => by rw [z.1]; exact Nat.le_trans hn big_line
theorem al_cat {m : Nat} (kp : Kp l P) (h : GM l P (Al S n) ta) (h2 : GM l P (Al S m) tb) (hn : n + m ≤ 1000) : GM l P (Al S (n + m)) (tOp rCat ta tb) :=
  (gm_cat kp h h2 fun x y z1 z2 => by rw [z1.1, z2.1]; exact Nat.le_trans hn big_line).imp fun z w => by
    obtain ⟨x, y, rfl, w1, w2⟩ := w
    refine ⟨by rw [List.length_append, w1.1, w2.1], fun d hd => ?_⟩
    rcases List.mem_append.mp hd with q | q
    · exact w1.2 d q
    · exact w2.2 d q
/-- one of a list, by a number within it -/
theorem al_ix {m : Int} (kp : Kp l P) (h : GM l P (Al S n) ta) (hi : GI l P (fun k => 0 ≤ k ∧ k < m) tb) (hn : (n : Int) = m) : GD l P S (tOp (rIxL K) ta tb) :=
  (gd_ixM kp h hi fun ds z => by rw [z.1]; exact hn).imp fun d z => by
    obtain ⟨ds, z1, z2⟩ := z
    exact z1.2 d z2
end
theorem GI.imp {l : Addr} {P : PSt} {N N2 : Int → Prop} {t : TE} (h : GI l P N t) (i : ∀ d, N d → N2 d) : GI l P N2 t := fun σ H Q st p q => h σ H Q st p fun H' v s => q H' v (i v s)
theorem gp_int {i : Int} (h : i.natAbs ≤ 10 ^ 40) {n : Nat} (hn : 1 ≤ n) : Gp n (.int i) := ⟨by simpa [fine] using h, by simpa [wt] using hn, rfl⟩
theorem gcn {l : Addr} {P : PSt} {n : Nat} {v : V} {d : PyData} (h : ∀ H, Dx H v d) (g : Gp n d) : GD l P (Gp n) (tC v) := (gd_c h).imp fun _ e => by subst e; exact g
theorem gin {l : Addr} {P : PSt} {n : Nat} {k : Int} {t : TE} (h : GI l P (· = k) t) (hk : k.natAbs ≤ 10 ^ 40) (hn : 1 ≤ n) : GD l P (Gp n) t := (gd_int h).imp fun d e => by
  obtain ⟨i, rfl, rfl⟩ := e
  exact gp_int hk hn
theorem alld_nil {l : Addr} {H : Hp} : ∀ p ∈ ([] : List (V × PyData)), Dx (hid l H) p.1 p.2 := fun p h => by cases h
theorem alld_cons {l : Addr} {H : Hp} {v : V} {d : PyData} {L : List (V × PyData)} (h : Dx (hid l H) v d) (t : ∀ p ∈ L, Dx (hid l H) p.1 p.2) : ∀ p ∈ (v, d) :: L, Dx (hid l H) p.1 p.2 := fun p hp => by
  rcases List.mem_cons.mp hp with e | hp
  · rw [e]; exact h
  · exact t p hp
theorem alld_up {l : Addr} {H H' : Hp} {L : List (V × PyData)} (k : Keep l H H') (t : ∀ p ∈ L, Dx (hid l H) p.1 p.2) : ∀ p ∈ L, Dx (hid l H') p.1 p.2 := fun p hp => (t p hp).up k.same
theorem allm_nil {l : Addr} {H : Hp} : ∀ m ∈ ([] : List (Addr × List V × List PyData)), m.1 ≠ l ∧ H m.1 = some (.lst m.2.1) ∧ Dxs (hid l H) m.2.1 m.2.2 := fun p h => by cases h
theorem allm_one {l : Addr} {H : Hp} {p : Addr} {xs : List V} {ds : List PyData} (n : p ≠ l) (e : H p = some (.lst xs)) (x : Dxs (hid l H) xs ds) :
    ∀ m ∈ [(p, xs, ds)], m.1 ≠ l ∧ H m.1 = some (.lst m.2.1) ∧ Dxs (hid l H) m.2.1 m.2.2 := fun q h => by
  obtain rfl := List.mem_singleton.mp h
  exact ⟨n, e, x⟩
/-- a name gets data; a name gets a list -/
theorem gd_seq {l : Addr} {P : PSt} {S : PyData → Prop} {t : TE} {u : TS} {i : Nat} {D : Ends} {σ : L2.St} {H : Hp} (h : GD l P S t) (st : StO H l) (p : P σ H) (k : ∀ H' v d, S d → Keep l H H' → StO H' l → Dx (hid l H') v d → u D (σ.set i (some v)) H') :
    tSeq (tAsg t (gName i)) u D σ H := h σ H _ st p fun H' v d s k1 st1 x => k H' v d s k1 st1 x
theorem gm_seq {l : Addr} {P : PSt} {S : List PyData → Prop} {t : TE} {u : TS} {i : Nat} {D : Ends} {σ : L2.St} {H : Hp} (h : GM l P S t) (st : StO H l) (p : P σ H)
    (k : ∀ H' a xs ds, S ds → Keep l H H' → StO H' l → a ≠ l → H' a = some (.lst xs) → Dxs (hid l H') xs ds → u D (σ.set i (some (.ref a))) H') :
    tSeq (tAsg t (gName i)) u D σ H := h σ H _ st p fun H' a xs ds s k1 st1 n e x => k H' a xs ds s k1 st1 n e x
end KX

set_option maxRecDepth 100000
set_option maxHeartbeats 4000000
namespace Z1
open PySem PySem.Spec PyProof.Rows L2 KX
/-! ### the text -/
def topS (i : Nat) : Stmt := PySem.Challenge.pw_spareskept_k08_sorted_names.main.body.getD i (.Pass ⟨0, 0, 0, 0⟩)
abbrev sBetween : Stmt := topS 7
abbrev sTupB : Stmt := topS 9
/-- a def of the text as it stands behind the top -/
structure Df (K : PySem.W.Frag) (mg : Str → Option Value) (x : String) (st : Stmt) (ps : List Str) (f : Addr) (fd : FuncData) : Prop where
  F : Fun K x x st f fd
  b : Binds K fd ps []
  g : mg x = some (.ref f)
/-- the built-in names that the text uses -/
structure Bl (mg : Str → Option Value) : Prop where
  isi : mg "isinstance" = none
  bool : mg "bool" = none
  int : mg "int" = none
  str : mg "str" = none
  tuple : mg "tuple" = none
  list : mg "list" = none
  len : mg "len" = none
  all : mg "all" = none
  range : mg "range" = none
  max : mg "max" = none
  min : mg "min" = none
  abs : mg "abs" = none
  repr : mg "repr" = none
  sorted : mg "sorted" = none
  ixe : mg "IndexError" = none
  vae : mg "ValueError" = none
  zip : mg "zip" = none

/-! ### kinds of data -/
def tyN : PyData → String
  | .none => "NoneType" | .bool _ => "bool" | .int _ => "int" | .str _ => "str" | .list _ => "list" | .tuple _ => "tuple" | .dict _ => "dict"
def isaN (T : String) : PyData → Bool := fun d => (kitB (tyN d) T).getD false
theorem Dx.ty {K : PySem.W.Frag} {H : Hp} {v : V} {d : PyData} (h : Dx H v d) : TyX K H v (.type (tyN d)) := by
  cases h with
  | non => exact .base .non
  | bl b => exact .base (.bl b)
  | int i => exact .base (.int i)
  | str x => exact .base (.str x)
  | lst e n h => exact .base (.lst e)
  | tup e h => exact .base (.tup e)
  | dic e => exact .base (.dK e)
  | dic1 e => exact .base (.dK e)
def okT (T : String) : Bool := (["NoneType", "bool", "int", "str", "list", "tuple", "dict"].all fun a => (kitB a T).isSome)
section
variable {X : Cx}
/-- isinstance(x, T), x data, T a built-in class -/
def rIsD (T : String) : List V → Hp → VK → Prop := fun xs H Q => match xs with
  | [x, c] => c = .ty T ∧ ∃ d, Dx H x d ∧ Q (.bl (isaN T d)) H
  | _ => False
theorem call_isD {T : String} (hT : okT T = true) : CallR X (.builtin "isinstance") (rIsD T) := by
  intro pins s σ H xs us Q I r h
  match xs, h with
  | [x, c], h =>
  obtain ⟨e, d, hd, q⟩ := h
  subst e
  have ha := List.all_eq_true.mp hT
  have hs : (kitB (tyN d) T).isSome = true := ha (tyN d) (by cases d <;> simp [tyN])
  obtain ⟨b, hb⟩ := Option.isSome_iff_exists.mp hs
  have q2 : Q (.bl b) H := by
    have : isaN T d = b := by unfold isaN; rw [hb]; rfl
    rw [← this]; exact q
  exact call_isi pins s σ H _ us Q I r ⟨x, .ty T, .type (tyN d), .type T, b, rfl, .ty T, Dx.ty hd, kit_ty hb, q2⟩
/-- isinstance(x, T) as an expression -/
theorem pe_isD {T x : String} {e : Expr} {te : TE} {p p2 pos : Pos} (hT : okT T = true) (mi : X.mg "isinstance" = none) (hm : X.mg x = none) (hv : bootBuiltins x = some (.type T)) (he : PE X e te) (hg0 : Gl X "isinstance") (hg : Gl X x)
    (hn : (x : Str) ≠ "__name__" := by decide) (hd : ((x : Str) == ("__debug__" : Str)) = false := by decide)
    (h1 : starEach [e, .Name x p2] X.env = (false, eval e X.env) :: starEach [.Name x p2] X.env := by rfl) (h2 : starEach [.Name x p2] X.env = (false, eval (.Name x p2) X.env) :: starEach [] X.env := by rfl)
    (hpl : (backTo pos (starEach [.Name x p2] X.env)).any (·.1) = false := by rfl) :
    PE X (.Call (.Name "isinstance" p) [e, .Name x p2] [] pos) (tCB (rIsD T) (tCons te (tCons (tC (.ty T)) tNil))) := by
  refine ⟨fun pins s σ H Q I h => ?_⟩
  refine (pe_callB (call_isD hT) hg0 mi (by decide +kernel) (pa_cons he (pa_cons (pe_bltn (v := .ty T) hg hm hv rfl hn hd) pa_nil h2) h1) (by decide) (by decide) h1 hpl).run pins s σ H Q I ?_
  exact h
end
/-! ### is_between -/
def betw (lo hi : Int) : PyData → Bool
  | .int i => decide (lo ≤ i) && decide (i ≤ hi)
  | _ => false
def spBetween : Sp := fun vs H Q _ => ∃ v d lo hi, vs = [v, .int lo, .int hi] ∧ Dx H v d ∧ Q (.bl (betw lo hi d)) H
theorem scBetween : FnScope ["value", "low", "high"] ["value", "low", "high"] (defScope sBetween) := ⟨rfl, rfl, rfl, by decide +kernel, rfl, by decide +kernel, by decide +kernel⟩
section
variable {P : Program} {w : World} {K : PySem.W.Frag} {mg : Str → Option Value} {base : Heap}
theorem ok_between {f : Addr} {fd : FuncData} (B : Bl mg) (D : Df K mg "is_between" sBetween ["value", "low", "high"] f fd) : FnOk P w K mg base CX0 1 f fd ["value", "low", "high"] spBetween := by
  refine D.F.ok scBetween (fun vs H Q E h => ?_) (fun cdv A outer s H vs Q E hr h => ?_)
  · obtain ⟨v, d, lo, hi, rfl, _⟩ := h
    rfl
  · obtain ⟨v, d, lo, hi, rfl, hd, q⟩ := h
    refine ⟨_, pss_cons (ps_if (PW.pt (pw_or (pt_val (pe_isD (T := "bool") (x := "bool") (by decide +kernel) B.isi B.bool (by decide +kernel) (pv 0) (by rfl) (by rfl)))
        (pw_or1 (pt_not (pt_val (pe_isD (T := "int") (x := "int") (by decide +kernel) B.isi B.int (by decide +kernel) (pv 0) (by rfl) (by rfl))))))) (pss_one (ps_ret pe_bl)) pss_nil)
      (pss_one (ps_ret (pe_chain op_le op_le (pv 1) (pv 0) (pv 2)))), ?_⟩
    refine ⟨v, rfl, rfl, d, hd, _, rfl, ?_⟩
    cases d with
    | bool b => exact q
    | int i =>
      refine iteF ⟨v, rfl, rfl, _, hd, _, rfl, ?_⟩
      refine iteF ⟨_, rfl, v, rfl, ?_⟩
      cases hd
      refine ⟨lo, i, rfl, rfl, _, rfl, ?_⟩
      have e : betw lo hi (.int i) = (decide (lo ≤ i) && decide (i ≤ hi)) := rfl
      rw [e] at q
      by_cases h : lo ≤ i
      · rw [decide_eq_true h] at q ⊢
        exact iteT ⟨_, rfl, _, _, rfl, rfl, q⟩
      · rw [decide_eq_false h] at q ⊢
        exact iteF q
    | _ => exact iteF ⟨v, rfl, rfl, _, hd, _, rfl, q⟩
end
end Z1

namespace Z1
open PySem PySem.Spec PyProof.Rows L2 KX
abbrev sName : Stmt := topS 23
abbrev sRow : Stmt := topS 24
abbrev sVals : Stmt := topS 25
/-- the constants of the text -/
structure Cs (mg : Str → Option Value) : Prop where
  wid : ∃ t, mg "MAX_WIDTH" = some (.int 4 t)
  cost : ∃ t, mg "MAX_COST" = some (.int 1000000 t)
  val : ∃ t, mg "MAX_VALUE" = some (.int 1000000000 t)
  exp : ∃ t, mg "MAX_EXPIRY" = some (.int 1000000000 t)
  lets : ∃ t, mg "MAX_LETTERS" = some (.int 8 t)
  abc : ∃ t, mg "LETTERS" = some (.str "abcdefghijklmnopqrstuvwxyz" t)
/-! ### is_tuple_between -/
def tupB (lo hi : Int) : PyData → Bool
  | .tuple ds => decide (lo ≤ (ds.length : Int)) && decide ((ds.length : Int) ≤ hi)
  | _ => false
def spTupB : Sp := fun vs H Q _ => ∃ v d lo hi, vs = [v, .int lo, .int hi] ∧ Dx H v d ∧ Q (.bl (tupB lo hi d)) H
theorem scTupB : FnScope ["value", "low", "high"] ["value", "low", "high"] (defScope sTupB) := ⟨rfl, rfl, rfl, by decide +kernel, rfl, by decide +kernel, by decide +kernel⟩
theorem isa_tuple {d : PyData} : isaN "tuple" d = match d with | .tuple _ => true | _ => false := by
  cases d <;> (simp only [isaN, tyN]; decide +kernel)
theorem isa_str {d : PyData} : isaN "str" d = match d with | .str _ => true | _ => false := by
  cases d <;> (simp only [isaN, tyN]; decide +kernel)
theorem isa_int {d : PyData} : isaN "int" d = match d with | .int _ => true | .bool _ => true | _ => false := by
  cases d <;> (simp only [isaN, tyN]; decide +kernel)
theorem isa_bool {d : PyData} : isaN "bool" d = match d with | .bool _ => true | _ => false := by
  cases d <;> (simp only [isaN, tyN]; decide +kernel)
section
variable {P : Program} {w : World} {K : PySem.W.Frag} {mg : Str → Option Value} {base : Heap}
theorem ok_tupB {f : Addr} {fd : FuncData} (B : Bl mg) (D : Df K mg "is_tuple_between" sTupB ["value", "low", "high"] f fd) : FnOk P w K mg base CX0 1 f fd ["value", "low", "high"] spTupB := by
  refine D.F.ok scTupB (fun vs H Q E h => ?_) (fun cdv A outer s H vs Q E hr h => ?_)
  · obtain ⟨v, d, lo, hi, rfl, _⟩ := h
    rfl
  · obtain ⟨v, d, lo, hi, rfl, hd, q⟩ := h
    refine ⟨_, pss_one (ps_ret (pe_and (pe_isD (T := "tuple") (x := "tuple") (by decide +kernel) B.isi B.tuple (by decide +kernel) (pv 0) (by rfl) (by rfl))
      (pe_one (pe_chain op_le op_le (pv 1) (pe_callB call_len_seq (by rfl) B.len PySem.boot_len (pa_cons (pv 0) pa_nil)) (pv 2))))), ?_⟩
    refine ⟨v, rfl, rfl, d, hd, _, rfl, ?_⟩
    rw [isa_tuple]
    cases d with
    | tuple ds =>
      cases hd with
      | @tup a xs _ e h =>
        refine iteT ⟨_, rfl, _, rfl, a, xs, rfl, .inr (.inl (.inl e)), _, _, rfl, rfl, _, rfl, ?_⟩
        rw [h.len]
        have e : tupB lo hi (.tuple ds) = (decide (lo ≤ (ds.length : Int)) && decide ((ds.length : Int) ≤ hi)) := rfl
        rw [e] at q
        by_cases h : lo ≤ (ds.length : Int)
        · rw [decide_eq_true h] at q ⊢
          exact iteT ⟨_, rfl, _, _, rfl, rfl, q⟩
        · rw [decide_eq_false h] at q ⊢
          exact iteF q
    | _ => exact iteF q
end
/-! ### is_name -/
def abc : Str := "abcdefghijklmnopqrstuvwxyz"
def letD (x : Str) : Bool := x.cps.toList.all fun c => decide (c ∈ abc.cps.toList)
def nameD : PyData → Bool
  | .str x => (decide (1 ≤ (x.length : Int)) && decide ((x.length : Int) ≤ 8)) && letD x
  | _ => false
/-- texts are not too long -/
def smS : PyData → Prop
  | .str x => x.length ≤ sizeLine
  | _ => True
def spName : Sp := fun vs H Q _ => ∃ v d, vs = [v] ∧ Dx H v d ∧ smS d ∧ ∀ H', Same H H' → Q (.bl (nameD d)) H'
theorem scName : FnScope ["value", "letter"] ["value"] (defScope sName) := ⟨rfl, rfl, rfl, by decide +kernel, rfl, by decide +kernel, by decide +kernel⟩
theorem same_new {H : Hp} {p : Addr} {o : HO} (h : H p = none) : Same H (upd H p o) := fun b x e => by
  rw [upd_ne (ne_of_none e h)]
  exact e
theorem same_at {H H' : Hp} {p : Addr} {o : HO} (h : Same H H') (n : H p = none) : Same H (upd H' p o) := fun b x e => by
  rw [upd_ne (ne_of_none e n)]
  exact h _ _ e
section
variable {P : Program} {w : World} {K : PySem.W.Frag} {mg : Str → Option Value} {base : Heap}
theorem ok_name {f : Addr} {fd : FuncData} (B : Bl mg) (C : Cs mg) (D : Df K mg "is_name" sName ["value"] f fd) : FnOk P w K mg base CX0 1 f fd ["value"] spName := by
  obtain ⟨t8, m8⟩ := C.lets
  obtain ⟨ta, ma⟩ := C.abc
  refine D.F.ok scName (fun vs H Q E h => ?_) (fun cdv A outer s H vs Q E hr h => ?_)
  · obtain ⟨v, d, rfl, _⟩ := h
    rfl
  · obtain ⟨v, d, rfl, hd, hsm, q⟩ := h
    refine ⟨_, pss_cons (ps_if (PW.pt (pw_or (pt_not (pt_val (pe_isD (T := "str") (x := "str") (by decide +kernel) B.isi B.str (by decide +kernel) (pv 0) (by rfl) (by rfl))))
        (pw_or1 (pt_not (pt_chain op_le op_le pe_int (pe_callB call_len_str (by rfl) B.len PySem.boot_len (pa_cons (pv 0) pa_nil)) (pe_glob (v := .int 8) (by rfl) m8 ⟨_, rfl⟩)))))) (pss_one (ps_ret pe_bl)) pss_nil)
      (pss_one (ps_ret (pe_callB (cr_all rfl) (by rfl) B.all (by decide +kernel) (pa_cons (pe_lc (own := [("letter", 1)]) (g := gName 1) rfl scName.nd (pi_str (pv 0)) (blkOk_by (N := ["value", "letter"]) (sc := defScope sName) (by decide +kernel))
        (fun _ _ _ _ _ => pg_name (i := 1) scName.nd rfl (Or.inl rfl)) (fun _ _ _ _ _ => pts_nil) (fun _ _ _ _ _ => pe_cmpR op_in_sign (pv 1) (pe_glob (v := .str abc) (by rfl) ma ⟨_, rfl⟩) (by rfl))) pa_nil)))), ?_⟩
    refine ⟨v, rfl, rfl, d, hd, _, rfl, ?_⟩
    rw [isa_str]
    cases d with
    | str x =>
      cases hd
      refine iteF ⟨.str x, rfl, x, rfl, hsm, 1, _, rfl, rfl, _, rfl, ?_⟩
      have en : nameD (.str x) = ((decide (1 ≤ (x.length : Int)) && decide ((x.length : Int) ≤ 8)) && letD x) := rfl
      rw [en] at q
      by_cases h1 : 1 ≤ (x.length : Int)
      · rw [decide_eq_true h1] at q ⊢
        refine iteT ⟨_, _, rfl, rfl, _, rfl, ?_⟩
        by_cases h2 : (x.length : Int) ≤ 8
        · rw [decide_eq_true h2] at q ⊢
          refine iteF ⟨_, rfl, x, rfl, fun D nD => ?_⟩
          refine lc_it walk_str (fun i G => Same H G ∧ G D = some (.lst (((x.cps.toList.take i).map fun c => decide (c ∈ abc.cps.toList)).map V.bl))) ⟨same_at (Same.refl H) nD, upd_same⟩ (fun _ _ _ _ => trivial) (fun i c G G' hi hp hy => ?_) (fun G hp => ?_)
          · obtain ⟨rfl, cc, ec, rfl⟩ := hy
            refine ⟨rfl, _, rfl, cc, abc, rfl, rfl, _, hp.2, ?_, same_at hp.1 nD, ?_⟩
            · rw [List.length_map, List.length_map, List.length_take]
              have hx : x.cps.toList.length = x.length := by simp [Str.length]
              have hb : (8 : Nat) < sizeLine := by decide
              omega
            · rw [upd_same, List.take_add_one, show x.cps.toList[i]? = some cc by simpa using ec]
              simp
          · have hx : x.cps.toList.take x.cps.size = x.cps.toList := List.take_of_length_le (by simp)
            rw [hx] at hp
            refine ⟨D, _, rfl, .inl (.inl hp.2), ?_⟩
            have := q G hp.1
            rw [List.all_map]
            exact this
        · rw [decide_eq_false h2] at q ⊢
          exact iteT (q H (Same.refl H))
      · rw [decide_eq_false h1] at q ⊢
        exact iteF ⟨_, rfl, iteT (q H (Same.refl H))⟩
    | _ => exact iteT (q H (Same.refl H))
end
end Z1

namespace Z1
open PySem PySem.Spec PyProof.Rows L2 KX
/-! ### are_row_values -/
def valsD : PyData → Bool
  | .tuple ds => (decide (1 ≤ (ds.length : Int)) && decide ((ds.length : Int) ≤ 4)) && ds.all (betw (-1000000000) 1000000000)
  | _ => false
def spVals : Sp := fun vs H Q _ => ∃ v d, vs = [v] ∧ Dx H v d ∧ ∀ H', Same H H' → Q (.bl (valsD d)) H'
theorem scVals : FnScope ["value", "number"] ["value"] (defScope sVals) := ⟨rfl, rfl, rfl, by decide +kernel, rfl, by decide +kernel, by decide +kernel⟩
section
variable {P : Program} {w : World} {K : PySem.W.Frag} {mg : Str → Option Value} {base : Heap}
theorem ok_vals {f fB fT : Addr} {fd fdB fdT : FuncData} (B : Bl mg) (C : Cs mg) (D : Df K mg "are_row_values" sVals ["value"] f fd) (DB : Df K mg "is_between" sBetween ["value", "low", "high"] fB fdB)
    (DT : Df K mg "is_tuple_between" sTupB ["value", "low", "high"] fT fdT) : FnOk P w K mg base CX0 2 f fd ["value"] spVals := by
  obtain ⟨tw, mw⟩ := C.wid
  obtain ⟨tv, mv⟩ := C.val
  have GB : FnOk P w K mg base CX0 1 fB fdB _ spBetween := ok_between B DB
  have GT : FnOk P w K mg base CX0 1 fT fdT _ spTupB := ok_tupB B DT
  refine D.F.ok scVals (fun vs H Q E h => ?_) (fun cdv A outer s H vs Q E hr h => ?_)
  · obtain ⟨v, d, rfl, _⟩ := h
    rfl
  · obtain ⟨v, d, rfl, hd, q⟩ := h
    refine ⟨_, pss_cons (ps_if (pt_not (pt_val (pe_call GT hr (by rfl) DT.g DT.F.kp DT.b .nil pass0 (pa_cons (pv 0) (pa_cons pe_int (pa_cons (pe_glob (v := .int 4) (by rfl) mw ⟨_, rfl⟩) pa_nil)))))) (pss_one (ps_ret pe_bl)) pss_nil)
      (pss_one (ps_ret (pe_callB (cr_all rfl) (by rfl) B.all (by decide +kernel) (pa_cons (pe_lc (own := [("number", 1)]) (g := gName 1) rfl scVals.nd (pi_tup (pv 0)) (blkOk_by (N := ["value", "number"]) (sc := defScope sVals) (by decide +kernel))
        (fun _ _ _ _ _ => pg_name (i := 1) scVals.nd rfl (Or.inl rfl)) (fun _ _ _ _ _ => pts_nil)
        (fun _ _ _ _ _ => pe_call GB hr (by rfl) DB.g DB.F.kp DB.b .nil pass0 (pa_cons (pv 1) (pa_cons (pe_un un_neg (pe_glob (v := .int 1000000000) (by rfl) mv ⟨_, rfl⟩)) (pa_cons (pe_glob (v := .int 1000000000) (by rfl) mv ⟨_, rfl⟩) pa_nil))))) pa_nil)))), ?_⟩
    refine ⟨v, rfl, v, d, 1, 4, rfl, hd, _, rfl, ?_⟩
    cases d with
    | tuple ds =>
      cases hd with
      | @tup a xs _ ea h =>
        have et : tupB 1 4 (.tuple ds) = (decide (1 ≤ (ds.length : Int)) && decide ((ds.length : Int) ≤ 4)) := rfl
        have en : valsD (.tuple ds) = ((decide (1 ≤ (ds.length : Int)) && decide ((ds.length : Int) ≤ 4)) && ds.all (betw (-1000000000) 1000000000)) := rfl
        rw [en] at q
        rw [et]
        cases eb : (decide (1 ≤ (ds.length : Int)) && decide ((ds.length : Int) ≤ 4)) with
        | false =>
          rw [eb] at q
          exact iteT (q H (Same.refl H))
        | true =>
          rw [eb] at q
          have hlen : ds.length ≤ 4 := by
            rw [Bool.and_eq_true] at eb
            have := of_decide_eq_true eb.2
            omega
          refine iteF ⟨.ref a, rfl, a, rfl, ⟨_, .inl (.inl ea)⟩, fun D nD => ?_⟩
          refine lc_tup (xs := xs) (fun i G => Same H G ∧ G D = some (.lst (((ds.take i).map (betw (-1000000000) 1000000000)).map V.bl))) ⟨same_at (Same.refl H) nD, upd_same⟩
            (fun i G hi hp => .inl (.inl (hp.1 _ _ ea))) (fun i x G hx hp => ?_) (fun G hp => ?_)
          · obtain ⟨d, ed, hd⟩ := h.get' hx
            refine ⟨rfl, x, rfl, _, rfl, x, d, -1000000000, 1000000000, rfl, hd.up hp.1, _, hp.2, ?_, same_at hp.1 nD, ?_⟩
            · rw [List.length_map, List.length_map, List.length_take]
              have hb : (4 : Nat) < sizeLine := by decide
              omega
            · rw [upd_same, List.take_add_one, ed]
              simp
          · have hx : ds.take xs.length = ds := List.take_of_length_le (by rw [h.len]; exact Nat.le_refl _)
            rw [hx] at hp
            refine ⟨D, _, rfl, .inl (.inl hp.2), ?_⟩
            have := q G hp.1
            rw [List.all_map]
            exact this
    | _ => exact iteT (q H (Same.refl H))
end
/-! ### is_row -/
def rowD : PyData → Bool
  | .tuple [n, c, vs, e] => nameD n && betw 1 1000000 c && (valsD vs && betw 1 1000000000 e)
  | _ => false
/-- all texts are not too long -/
def smA : PyData → Prop
  | .tuple ds => ∀ d ∈ ds, smS d
  | _ => True
def spRow : Sp := fun vs H Q _ => ∃ v d, vs = [v] ∧ Dx H v d ∧ smA d ∧ ∀ H', Same H H' → Q (.bl (rowD d)) H'
theorem scRow : FnScope ["value", "name", "cost", "values", "expiry"] ["value"] (defScope sRow) := ⟨rfl, rfl, rfl, by decide +kernel, rfl, by decide +kernel, by decide +kernel⟩
theorem tupB_four {d : PyData} : tupB 4 4 d = true → ∃ a b c e, d = .tuple [a, b, c, e] := by
  intro h
  cases d with
  | tuple ds =>
    have e : (decide (4 ≤ (ds.length : Int)) && decide ((ds.length : Int) ≤ 4)) = true := h
    rw [Bool.and_eq_true] at e
    have h1 := of_decide_eq_true e.1
    have h2 := of_decide_eq_true e.2
    match ds, h1, h2 with
    | [a, b, c, e], _, _ => exact ⟨a, b, c, e, rfl⟩
    | [], h1, _ => simp at h1
    | [_], h1, _ => simp at h1
    | [_, _], h1, _ => simp at h1
    | [_, _, _], h1, _ => simp at h1
    | _ :: _ :: _ :: _ :: _ :: _, _, h2 => simp at h2; omega
  | _ => cases h
theorem rowD_not {d : PyData} (h : tupB 4 4 d = false) : rowD d = false := by
  unfold rowD
  split
  · simp [tupB] at h
  · rfl
section
variable {P : Program} {w : World} {K : PySem.W.Frag} {mg : Str → Option Value} {base : Heap}
theorem ok_row {f fB fT fN fV : Addr} {fd fdB fdT fdN fdV : FuncData} (B : Bl mg) (C : Cs mg) (D : Df K mg "is_row" sRow ["value"] f fd) (DB : Df K mg "is_between" sBetween ["value", "low", "high"] fB fdB)
    (DT : Df K mg "is_tuple_between" sTupB ["value", "low", "high"] fT fdT) (DN : Df K mg "is_name" sName ["value"] fN fdN) (DV : Df K mg "are_row_values" sVals ["value"] fV fdV) : FnOk P w K mg base CX0 3 f fd ["value"] spRow := by
  obtain ⟨tc, mc⟩ := C.cost
  obtain ⟨te, me⟩ := C.exp
  have GB : FnOk P w K mg base CX0 2 fB fdB _ spBetween := (ok_between B DB).mono (by decide)
  have GT : FnOk P w K mg base CX0 2 fT fdT _ spTupB := (ok_tupB B DT).mono (by decide)
  have GN : FnOk P w K mg base CX0 2 fN fdN _ spName := (ok_name B C DN).mono (by decide)
  have GV : FnOk P w K mg base CX0 2 fV fdV _ spVals := ok_vals B C DV DB DT
  refine D.F.ok scRow (fun vs H Q E h => ?_) (fun cdv A outer s H vs Q E hr h => ?_)
  · obtain ⟨v, d, rfl, _⟩ := h
    rfl
  · obtain ⟨v, d, rfl, hd, hsm, q⟩ := h
    have nd := scRow.nd
    refine ⟨_, pss_cons (ps_if (pt_not (pt_val (pe_call GT hr (by rfl) DT.g DT.F.kp DT.b .nil pass0 (pa_cons (pv 0) (pa_cons pe_int (pa_cons pe_int pa_nil)))))) (pss_one (ps_ret pe_bl)) pss_nil)
      (pss_cons (ps_asg (pv 0) (pg_tup (by rfl) (pgs_cons (pg_name (i := 1) nd rfl (.inl rfl)) (pgs_cons (pg_name (i := 2) nd rfl (.inl rfl)) (pgs_cons (pg_name (i := 3) nd rfl (.inl rfl)) (pgs_cons (pg_name (i := 4) nd rfl (.inl rfl)) pgs_nil))))))
      (pss_cons (ps_if (PW.pt (pw_or (pt_not (pt_val (pe_call GN hr (by rfl) DN.g DN.F.kp DN.b .nil pass0 (pa_cons (pv 1) pa_nil))))
        (pw_or1 (pt_not (pt_val (pe_call GB hr (by rfl) DB.g DB.F.kp DB.b .nil pass0 (pa_cons (pv 2) (pa_cons pe_int (pa_cons (pe_glob (v := .int 1000000) (by rfl) mc ⟨_, rfl⟩) pa_nil))))))))) (pss_one (ps_ret pe_bl)) pss_nil)
      (pss_one (ps_ret (pe_and (pe_call GV hr (by rfl) DV.g DV.F.kp DV.b .nil pass0 (pa_cons (pv 3) pa_nil))
        (pe_one (pe_call GB hr (by rfl) DB.g DB.F.kp DB.b .nil pass0 (pa_cons (pv 4) (pa_cons pe_int (pa_cons (pe_glob (v := .int 1000000000) (by rfl) me ⟨_, rfl⟩) pa_nil)))))))))), ?_⟩
    refine ⟨v, rfl, v, d, 4, 4, rfl, hd, _, rfl, ?_⟩
    cases eb : tupB 4 4 d with
    | false =>
      rw [rowD_not eb] at q
      exact iteT (q H (Same.refl H))
    | true =>
      obtain ⟨n, c, vs, e, rfl⟩ := tupB_four eb
      cases hd with
      | @tup a xs _ ea h =>
        match xs, h, ea with
        | [vn, vc, vv, ve], .cons hn (.cons hc (.cons hv (.cons he .nil))), ea =>
          have sn : smS n := hsm n (by simp)
          refine iteF ⟨.ref a, rfl, a, _, rfl, .inl (.inl ea), rfl, _, _, rfl, _, _, rfl, _, _, rfl, _, _, rfl, rfl, ?_⟩
          refine ⟨vn, rfl, vn, n, rfl, hn, sn, fun H1 s1 => ⟨_, rfl, ?_⟩⟩
          have er : rowD (.tuple [n, c, vs, e]) = (nameD n && betw 1 1000000 c && (valsD vs && betw 1 1000000000 e)) := rfl
          rw [er] at q
          cases en : nameD n with
          | false =>
            rw [en] at q
            exact iteT (iteT (q H1 s1))
          | true =>
            rw [en] at q
            refine iteF ⟨vc, rfl, vc, c, 1, 1000000, rfl, hc.up s1, _, rfl, ?_⟩
            cases ec : betw 1 1000000 c with
            | false =>
              rw [ec] at q
              exact iteT (q H1 s1)
            | true =>
              rw [ec] at q
              refine iteF ⟨vv, rfl, vv, vs, rfl, hv.up s1, fun H2 s2 => ⟨_, rfl, ?_⟩⟩
              cases ev : valsD vs with
              | false =>
                rw [ev] at q
                exact iteF (q H2 (s1.trans s2))
              | true =>
                rw [ev] at q
                exact iteT ⟨ve, rfl, ve, e, 1, 1000000000, rfl, (he.up s1).up s2, q H2 (s1.trans s2)⟩
end
end Z1

set_option maxRecDepth 100000
set_option maxHeartbeats 4000000
namespace KX
open PySem PySem.Spec PyProof.Rows L2
theorem countP_eqU {x : V} : ∀ {xs : List V} {us : List Value}, Vals xs us → xs.all flatV = true → us.countP (eqU x) = xs.countP fun y => eqV y x
  | _, _, .nil, _ => rfl
  | y :: xs, u :: us, .cons r t, f => by
    rw [List.all_cons, Bool.and_eq_true] at f
    rw [List.countP_cons, List.countP_cons, eqU_of r f.1, countP_eqU t f.2]
section
variable {X : Cx}
/-- xs.count(y), flat items -/
def rCntF (K : PySem.W.Frag) : V → List V → Hp → VK → Prop := fun x xs H Q => ∃ (p : Addr) (ys : List V) (y : V), x = .ref p ∧ xs = [y] ∧ SqL K H p ys ∧ flatV y = true ∧ ys.all flatV = true ∧ Q (.int (ys.countP fun z => eqV z y : Nat)) H
theorem mt_countF : MtR X "list.count" (rCntF X.K) := by
  intro pins s σ H x xs v us Q I rx rxs h
  obtain ⟨p, ys, y, rfl, rfl, hs, fy, fs, q⟩ := h
  cases rx
  obtain ⟨u, rfl, ru⟩ := rxs.one
  obtain ⟨its, rv, ⟨⟨cls, dd, data, sl⟩, n, ho, hc, hdn, hd⟩, hlen⟩ := I.list hs
  dsimp only at hc hd
  subst hc hd
  have same : its.toArray.toList.countP (eqU y) = ys.countP fun z => eqV z y := countP_eqU rv fs
  refine call_meets PySem.F.slot_list_count ⟨_, ho, rfl⟩ PySem.F.entry_list_count (PySem.F.args_list_count_2 _ _) (SeqAt.list_countAt p its.toArray n dd sl u (eqU y)) ⟨ho, fun z hz => mem_eqAt ru fy rv fs z (by simpa using hz), ?_⟩
  refine ⟨.int (ys.countP fun z => eqV z y : Nat), H, I.tok _, ⟨s.toks, ?_⟩, q⟩
  rw [same]
end
/-- isinstance(e, T), isinstance(e, (T, ..)): e a caught error without fields of its own -/
def rIsN (K : PySem.W.Frag) (a : Addr) (cls : Value) (d : Option Addr) : List V → Hp → VK → Prop := fun xs H Q =>
  ∃ (C : Addr) (c : V) (b : Bool), XI K C ∧ cls = .ref C ∧ d = none ∧ xs = [.ref a, c] ∧
    ((∃ cv, (∀ u, RelV c u → u = cv) ∧ PySem.W.kitOne K (.ref C) cv = some b) ∨
      ∃ (tp : Addr) (ys : List V) (its : List Value), c = .ref tp ∧ H tp = some (.tup ys) ∧ (∀ us, Vals ys us → us = its) ∧ PySem.W.kitAny K (.ref C) its = some b) ∧ Q (.bl b) H
theorem call_isN {X : Cx} {a : Addr} {oe : Obj} {cls : Value} {d : Option Addr} {pn : List (Addr × Obj)} (hz : Zc cls d oe) (hf : ∃ vs, oe.data = .fields vs) :
    CallR (X.suite a ((a, oe) :: pn)) (.builtin "isinstance") (rIsN X.K a cls d) := by
  intro pins s σ H xs us Q I r h
  obtain ⟨C, c, b, T, ec, ed, rfl, hc, q⟩ := h
  subst ec ed
  obtain ⟨hget, _⟩ := I.pin (a, oe) (List.mem_append.mpr (.inl List.mem_cons_self))
  obtain ⟨vs, hv⟩ := hf
  have J : PySem.W.InstAt s.heap a oe C none := ⟨hget, hz.1, by unfold PySem.W.notCls; rw [hv] <;> rfl, by rw [hz.2]; trivial⟩
  have hcl : (PySem.W.clsIn X.K C).isSome = true := by
    obtain ⟨cd, hc, _⟩ := PySem.W.any_some T.hd
    rw [hc]; rfl
  have Z : PySem.W.KitX X.K (.ref a) (.ref C) (fun h => PySem.W.InstAt h a oe C none) := PySem.W.kitx_exc hcl T.ga T.gg T.sub T.hcl T.sp T.tk T.mro
  obtain ⟨u, rfl, ru⟩ : ∃ u2, us = [.ref a, u2] ∧ RelV c u2 := by
    cases r with
    | cons r1 r2 =>
      cases r2 with
      | cons r3 r4 =>
        cases r4
        cases r1
        exact ⟨_, rfl, r3⟩
  rcases hc with ⟨cv, hcv, e⟩ | ⟨tp, ys, its, rfl, hH, hits, e⟩
  · have eu := hcv _ ru
    subst eu
    exact PySem.W.kia_one Z I.kIn J e (fun z => nomatch z) fun tk => ⟨.bl b, H, I.kept (t' := tk) fun _ _ z => z, rfl, q⟩
  · obtain rfl : u = Value.ref tp := ru
    obtain ⟨_, us2, r2, o, h1, h2, n, h3⟩ := (show ObjOk X.prog X.w H s.heap tp (.tup ys) from I.hok tp _ hH)
    have eu := hits us2 r2
    subst eu
    obtain ⟨oc, od2, oda, osl⟩ := o
    dsimp only at h2 h3
    subst h2 h3
    exact PySem.W.kia_tup Z I.kIn J h1 e (fun z => nomatch z) fun tk => ⟨.bl b, H, I.kept (t' := tk) fun _ _ z => z, rfl, q⟩
end KX

set_option maxRecDepth 100000
set_option maxHeartbeats 4000000
/-! zip of a list and a tuple -/
namespace KX
open PySem PySem.Spec PyProof.Rows L2
def ItM (K : PySem.W.Frag) (a b : Addr) : It :=
  ⟨fun i H => ∃ (xs ys : List V) (x y : V), SqL K H a xs ∧ SqT K H b ys ∧ xs[i]? = some x ∧ ys[i]? = some y,
    fun i H v G => ∃ T x y, v = .ref T ∧ H T = none ∧ G = upd H T (.tup [x, y]) ∧ (∀ xs, SqL K H a xs → xs[i]? = some x) ∧ ∀ ys, SqT K H b ys → ys[i]? = some y,
    fun i H => ∃ xs ys : List V, SqL K H a xs ∧ SqT K H b ys ∧ xs.length = i ∧ ys.length = i⟩
theorem sep_of {z TI TO i1 i2 a b : Addr} (D : ZipApart z TI TO i1 i2 a b) : ZipSep2 z TI TO i1 i2 [i1, a] [i2, b] := by
  have e1 := D.TIz
  refine ⟨D.TIz, D.TOz, D.TITO, D.TIi1, by simp, ?_, ?_, D.TIi2, by simp, ?_, ?_, ?_, ?_⟩
  · simp [D.i1z.symm, D.l1z.symm]
  · simp [D.TOi1, D.l1TO.symm]
  · simp [D.i2z.symm, D.l2z.symm]
  · simp [D.TOi2, D.l2TO.symm]
  · simp [D.i12, D.l2i1.symm]
  · simp [D.i12.symm, D.l1i2.symm]
theorem turn_m {P : Program} {w : World} {K : PySem.W.Frag} {elts : List Expr} {kk : Nat} {tpos : Pos} {a b z TI TO i1 i2 : Addr} (D : ZipApart z TI TO i1 i2 a b) :
    Turn P w K (.Tuple elts kk tpos) (ItM K a b) [z, TI, TO, i1, i2] z (fun i h => IsZip h z TI TO .none ∧ IsPair h TI (.ref i1) (.ref i2) ∧ (∃ x y, IsPair h TO x y) ∧ h.IsListIter i1 a i ∧ h.IsTupleIter i2 b i) where
  mem := by simp
  obj := fun i h st c hc => by
    obtain ⟨hz, hTI, ⟨x, y, hTO⟩, ⟨o1, e1, _, d1⟩, ⟨o2, e2, _, d2⟩⟩ := st
    simp only [List.mem_cons, List.not_mem_nil, or_false] at hc
    rcases hc with rfl | rfl | rfl | rfl | rfl
    · exact ⟨_, hz, fun v q => nomatch q⟩
    · exact ⟨_, hTI, fun v q => nomatch q⟩
    · exact ⟨_, hTO, fun v q => nomatch q⟩
    · exact ⟨o1, e1, fun v q => by rw [d1] at q; cases q⟩
    · exact ⟨o2, e2, fun v q => by rw [d2] at q; cases q⟩
  keep := fun i h h' st k => by
    obtain ⟨hz, hTI, ⟨x, y, hTO⟩, t1, t2⟩ := st
    exact ⟨k z (by simp) _ hz, k TI (by simp) _ hTI, ⟨x, y, k TO (by simp) _ hTO⟩, t1.at fun o q => k i1 (by simp) o q, t2.at fun o q => k i2 (by simp) o q⟩
  item := by
    intro X hP hw hK hc i pins s σ H E I hf st hg
    subst hP hw hK
    obtain ⟨hz, hTI, ⟨x0, y0, hTO⟩, t1, t2⟩ := st
    obtain ⟨xs, ys, x, y, hqx, hqy, hx, hy⟩ := hg
    obtain ⟨its, rv, pl, _⟩ := I.list hqx
    obtain ⟨its2, rv2, pt, _⟩ := I.tuple hqy
    obtain ⟨u, hu, ru⟩ := rv.get hx
    obtain ⟨u2, hu2, ru2⟩ := rv2.get hy
    have zl : z < s.heap.objs.size := Heap.lt_size hz
    have hh : X.A.in1.handled = none := I.ok.hd hc
    have li : i < its.toArray.size := by simpa using (List.getElem?_eq_some_iff.mp hu).1
    have li2 : i < its2.toArray.size := by simpa using (List.getElem?_eq_some_iff.mp hu2).1
    refine wpAny_pyNext_zipD2_item (sep_of D) (Draws.list hh i1 a D.l1i1 its.toArray) (Draws.tuple hh i2 b D.l2i2 its2.toArray) hz hTI hTO ⟨t1, pl.isList⟩ ⟨t2, pt⟩ li li2 fun x1 x2 h' tk q1 q2 z' TO' s1' s2' hT hsz hk => ?_
    have e1 : x1 = u := Option.some.inj (q1.symm.trans (by simpa using hu))
    have e2 : x2 = u2 := Option.some.inj (q2.symm.trans (by simpa using hu2))
    subst e1 e2
    refine ⟨_, rfl, wpAny_letOwnedTupleGo_zip (s := { s with heap := h', toks := tk }) z' fun h'' z'' sb => ?_⟩
    have hT2 : h''.get? s.heap.objs.size = some { cls := .type "tuple", data := .seq #[x1, x2] } := (sb.2 _ (Nat.ne_of_gt zl)).trans hT
    have new : ObjOk X.prog X.w (upd H s.heap.objs.size (.tup [x, y])) h'' s.heap.objs.size (.tup [x, y]) := ⟨by show 2 ≤ sizeLine; decide, [x1, x2], .cons ru (.cons ru2 .nil), ⟨_, hT2, rfl, _, rfl⟩⟩
    have moved : ∀ c o, c ∉ [z, TI, TO, i1, i2] → s.heap.get? c = some o → h''.get? c = some o := fun c o hb q => by
      simp only [List.mem_cons, List.not_mem_nil, or_false, not_or] at hb
      exact (sb.2 c hb.1).trans (hk c o hb.1 hb.2.2.1 hb.2.2.2.1 hb.2.2.2.2 q)
    have I1 : Inv X pins σ (upd H s.heap.objs.size (.tup [x, y])) { s with heap := h'', toks := tk } := I.turnedNew (t' := tk) (ch := [z, TI, TO, i1, i2]) moved hf (Nat.le_refl _) new
    refine ⟨.ref s.heap.objs.size, _, I1, rfl, ⟨_, x, y, rfl, I.hok.fresh (Nat.le_refl _), rfl, fun l hl => by rw [I.list_inj hl hqx]; exact hx, fun l hl => by rw [I.tuple_inj hl hqy]; exact hy⟩,
      ⟨z'', (sb.2 _ D.TIz).trans (hk _ _ D.TIz D.TITO D.TIi1 D.TIi2 hTI), ⟨x1, x2, (sb.2 _ D.TOz).trans TO'⟩, s1'.1.at fun o q => (sb.2 _ D.i1z).trans q, s2'.1.at fun o q => (sb.2 _ D.i2z).trans q⟩, fun c hcm => ?_⟩
    have lt : c < s.heap.objs.size := by
      simp only [List.mem_cons, List.not_mem_nil, or_false] at hcm
      rcases hcm with rfl | rfl | rfl | rfl | rfl
      · exact zl
      · exact Heap.lt_size hTI
      · exact Heap.lt_size hTO
      · obtain ⟨_, q, _⟩ := t1; exact Heap.lt_size q
      · obtain ⟨_, q, _⟩ := t2; exact Heap.lt_size q
    rw [upd_ne (Nat.ne_of_lt lt)]
    exact (hf c hcm).1
  done := by
    intro X hP hw hK hc i pins s σ H E I hf st hg
    subst hP hw hK
    obtain ⟨hz, hTI, ⟨x0, y0, hTO⟩, t1, t2⟩ := st
    obtain ⟨xs, ys, hqx, hqy, e1, e2⟩ := hg
    obtain ⟨its, rv, pl, _⟩ := I.list hqx
    obtain ⟨its2, rv2, pt, _⟩ := I.tuple hqy
    have l1 := rv.length
    have l2 := rv2.length
    have hh : X.A.in1.handled = none := I.ok.hd hc
    have s1 : its.toArray.size = i := by simp; omega
    have s2 : its2.toArray.size = i := by simp; omega
    refine wpAny_pyNext_zipD2_end (sep_of D) (Draws.list hh i1 a D.l1i1 its.toArray) (Draws.tuple hh i2 b D.l2i2 its2.toArray) hz hTI hTO ⟨t1, pl.isList⟩ ⟨t2, pt⟩ (by omega) (by omega) (.inl s1.symm) fun h' tk hk => ⟨rfl, ?_⟩
    refine I.turnedL (t' := tk) (ch := [z, TI, TO, i1, i2]) (fun c o hb q => ?_) hf
    simp only [List.mem_cons, List.not_mem_nil, or_false, not_or] at hb
    exact hk c o hb.1 hb.2.2.1 hb.2.2.2.1 hb.2.2.2.2 q
  self := fun A i s Q E st h => wpAny_pyIter_zip st.1 h
/-! the call -/
abbrev zm1 (h : Heap) (a : Addr) : Heap := h.push { cls := .type "list_iterator", data := .fields #[.ref a, .int 0 0] }
abbrev zm2 (h : Heap) (a b : Addr) : Heap := (zm1 h a).push { cls := .type "tuple_iterator", data := .fields #[.ref b, .int 0 0] }
abbrev zm3 (h : Heap) (a b : Addr) : Heap := (zm2 h a b).push { cls := .type "tuple", data := .seq #[.ref h.objs.size, .ref (zm1 h a).objs.size] }
abbrev zm4 (h : Heap) (a b : Addr) : Heap := (zm3 h a b).push { cls := .type "tuple", data := .seq #[.none, .none] }
abbrev zm5 (h : Heap) (a b : Addr) : Heap := (zm4 h a b).push { cls := .type "zip", data := .fields #[.none, .bool false, .bool false, .ref (zm2 h a b).objs.size, .ref (zm3 h a b).objs.size] }
theorem meets_zm (a b : Addr) (xs ys : Array Value) :
    Meets (Builtin.«zip.__new__» ⟨[.type "zip", .ref a, .ref b], []⟩) (fun _ R s => s.heap.IsList a xs ∧ s.heap.IsTuple b ys ∧ R (.ok (.ret (.ref (zm4 s.heap a b).objs.size))) { s with heap := zm5 s.heap a b }) :=
  .of_wp fun prog w A R s h => by
    obtain ⟨hp, g, d, tk, os⟩ := s
    obtain ⟨ha, hb, h⟩ := h
    have hsub := sub_zip
    have La : Heap.IsList (Shared.heap ⟨hp, g, d, tk, os⟩) a xs := ha
    have Lb : Heap.IsTuple (Shared.heap ⟨hp.push { cls := .type "list_iterator", data := .fields #[.ref a, .int 0 0] }, g, d, tk, os⟩) b ys := Heap.IsTuple.push hb _
    wp_walk using wpAny_pyIter_list La, wpAny_pyIter_tuple Lb
    exact ⟨_, rfl, h⟩
section
variable {prog : Program} {w : World} {A : Around} {E : Value → Shared → Prop} {s : Shared}
theorem call_zm {a b : Addr} {xs ys : Array Value} {Q : Value → Shared → Prop} (ha : s.heap.IsList a xs) (hb : s.heap.IsTuple b ys)
    (go : ∀ h', IsZip h' (s.heap.objs.size + 4) (s.heap.objs.size + 2) (s.heap.objs.size + 3) .none → IsPair h' (s.heap.objs.size + 2) (.ref s.heap.objs.size) (.ref (s.heap.objs.size + 1)) → IsPair h' (s.heap.objs.size + 3) .none .none →
      h'.IsListIter s.heap.objs.size a 0 → h'.IsTupleIter (s.heap.objs.size + 1) b 0 → (∀ c o, s.heap.get? c = some o → h'.get? c = some o) → Q (.ref (s.heap.objs.size + 4)) { s with heap := h' }) :
    wpAny (model prog w) A (call (.type "zip") [.ref a, .ref b]) Q E s := by
  refine callType_new F.called_zip (by decide) (F.typeCall_zip_2 _ _) (F.newCall_zip_2 _ _) (fun obj => F.args_object_init_3 obj _ _) F.entry_zip_new (meets_zm a b xs ys) ⟨ha, hb, ?_⟩
  have n1 : (zm1 s.heap a).objs.size = s.heap.objs.size + 1 := by rw [Heap.size_push]
  have n2 : (zm2 s.heap a b).objs.size = s.heap.objs.size + 2 := by rw [Heap.size_push, n1]
  have n3 : (zm3 s.heap a b).objs.size = s.heap.objs.size + 3 := by rw [Heap.size_push, n2]
  have n4 : (zm4 s.heap a b).objs.size = s.heap.objs.size + 4 := by rw [Heap.size_push, n3]
  have k45 : ∀ {c o}, (zm4 s.heap a b).get? c = some o → (zm5 s.heap a b).get? c = some o := fun e => Heap.get?_push_of_some _ e
  have k35 : ∀ {c o}, (zm3 s.heap a b).get? c = some o → (zm5 s.heap a b).get? c = some o := fun e => k45 (Heap.get?_push_of_some _ e)
  have k25 : ∀ {c o}, (zm2 s.heap a b).get? c = some o → (zm5 s.heap a b).get? c = some o := fun e => k35 (Heap.get?_push_of_some _ e)
  have k15 : ∀ {c o}, (zm1 s.heap a).get? c = some o → (zm5 s.heap a b).get? c = some o := fun e => k25 (Heap.get?_push_of_some _ e)
  have o5 : (zm5 s.heap a b).get? (zm4 s.heap a b).objs.size = some _ := Heap.get?_push_size _ rfl
  have o4 := k45 (c := (zm3 s.heap a b).objs.size) (Heap.get?_push_size _ rfl)
  have o3 := k35 (c := (zm2 s.heap a b).objs.size) (Heap.get?_push_size _ rfl)
  have o2 := k25 (c := (zm1 s.heap a).objs.size) (Heap.get?_push_size _ rfl)
  have o1 := k15 (c := s.heap.objs.size) (Heap.get?_push_size _ rfl)
  show _ ∧ _
  rw [n2, n3, n4] at o5
  rw [n3] at o4
  rw [n1, n2] at o3
  rw [n1] at o2
  rw [n4]
  exact ⟨⟨_, o5, rfl⟩, go _ o5 o3 o4 ⟨_, o1, rfl, rfl⟩ ⟨_, o2, rfl, rfl⟩ fun c o x => k15 (Heap.get?_push_of_some _ x)⟩
end
def iZipM (K : PySem.W.Frag) (ta : TA) : TI := fun σ H R => ta σ H fun vs H1 => ∃ a b xs ys, vs = [.ref a, .ref b] ∧ SqL K H1 a xs ∧ SqT K H1 b ys ∧ R (ItM K a b) H1
theorem pi_zipM {X : Cx} {e e2 : Expr} {ta : TA} {p pos tpos : Pos} {elts : List Expr} {kk : Nat} (hg : Gl X "zip") (hm : X.mg "zip" = none) (ha : PA X [e, e2] ta)
    (hs : starEach [e, e2] X.env = (false, eval e X.env) :: starEach [e2] X.env := by rfl) (hpl : (backTo pos (starEach [e2] X.env)).any (·.1) = false := by rfl) :
    PI X (.Tuple elts kk tpos) (.Call (.Name "zip" p) [e, e2] [] pos) (iZipM X.K ta) := by
  refine ⟨fun pins s σ H R I h => ?_⟩
  refine Call_ (ld_blt I hg hm PyProof.Rows.boot_zip (PyProof.Rows.callWith_type1 (thn (ha.run pos pins s σ H _ I h) fun us s1 z => ?_) hs hpl))
  obtain ⟨vs, H1, I1, r1, a, b, xs, ys, ex, hqx, hqy, q⟩ := z
  subst ex
  obtain rfl : us = [.ref a, .ref b] := by
    cases r1 with
    | cons r rr =>
      cases rr with
      | cons r' rr =>
        cases rr
        cases r
        cases r'
        rfl
  obtain ⟨its, rv, pl, _⟩ := I1.list hqx
  obtain ⟨its2, rv2, pt, _⟩ := I1.tuple hqy
  have ltb : b < s1.heap.objs.size := by
    obtain ⟨o, ho, _⟩ := id pt
    exact Heap.lt_size ho
  refine call_zm pl.isList (show s1.heap.IsTuple b its2.toArray from pt) fun h' hz hTI hTO t1 t2 hk => wpAny_pyIter_zip hz ?_
  have I2 : Inv X pins σ H1 { s1 with heap := h' } := I1.kept (t' := s1.toks) hk
  refine ⟨s1.heap.objs.size + 4, [s1.heap.objs.size + 4, s1.heap.objs.size + 2, s1.heap.objs.size + 3, s1.heap.objs.size, s1.heap.objs.size + 1], _, _, H1, rfl, I2, turn_m (PySem.W.ktu_apart s1.heap.objs.size a b pl.lt ltb), ⟨hz, hTI, ⟨_, _, hTO⟩, t1, t2⟩, fun c hcm => ?_, q⟩
  have le : s1.heap.objs.size ≤ c := by
    simp only [List.mem_cons, List.not_mem_nil, or_false] at hcm
    rcases hcm with rfl | rfl | rfl | rfl | rfl <;> omega
  exact I1.fpOk le (I1.hok.fresh le)
/-- [e for x, y in zip(l, t)] -/
theorem lc_zipM {K : PySem.W.Frag} {a b : Addr} {xs ys : List V} {g : TG} {tt : TT} {te : TE} {vs : List Nat} {σ : L2.St} {H1 : Hp} {D : Addr} {Qd : Hp → Prop} (hl : xs.length = ys.length) (Pv : Nat → Hp → Prop) (h0 : Pv 0 (upd H1 D (.lst [])))
    (hq : ∀ i G, i ≤ xs.length → Pv i G → SqL K G a xs ∧ SqT K G b ys)
    (hs : ∀ (i : Nat) (x y : V) (T : Addr) (G : Hp), xs[i]? = some x → ys[i]? = some y → Pv i G → G T = none → g (.ref T) (wipe σ vs) (upd G T (.tup [x, y])) fun σ2 H2 => wipe σ2 vs = wipe σ vs ∧ tt σ2 H2 fun b H3 =>
      if b = true then te σ2 H3 fun y H4 => ∃ zs, H4 D = some (.lst zs) ∧ zs.length < sizeLine ∧ Pv (i + 1) (upd H4 D (.lst (zs ++ [y]))) else Pv (i + 1) H3) (hd : ∀ G, Pv xs.length G → Qd G) :
    ∃ W : Nat → Nat → Hp → Prop, (∃ m, W 0 m (upd H1 D (.lst []))) ∧ ∀ i m H, W i m H → ((ItM K a b).stop i H ∧ Qd H) ∨ ((ItM K a b).go i H ∧ ∃ Nx : Hp → Prop, (∀ H', Nx H' → ∃ m', m' < m ∧ W (i + 1) m' H') ∧ ∀ x H', (ItM K a b).yld i H x H' →
      g x (wipe σ vs) H' fun σ2 H2 => wipe σ2 vs = wipe σ vs ∧ tt σ2 H2 fun b H3 => if b = true then te σ2 H3 fun y H4 => ∃ zs, H4 D = some (.lst zs) ∧ zs.length < sizeLine ∧ Nx (upd H4 D (.lst (zs ++ [y]))) else Nx H3) := by
  refine ⟨fun i m H => m = xs.length - i ∧ i ≤ xs.length ∧ Pv i H, ⟨xs.length, by simp, Nat.zero_le _, h0⟩, fun i m H hw => ?_⟩
  obtain ⟨rfl, hi, p⟩ := hw
  obtain ⟨qx, qy⟩ := hq i H hi p
  by_cases lt : i < xs.length
  · refine .inr ⟨⟨xs, ys, xs[i], ys[i], qx, qy, List.getElem?_eq_getElem lt, List.getElem?_eq_getElem (by omega)⟩, Pv (i + 1), fun H' p' => ⟨xs.length - (i + 1), by omega, rfl, lt, p'⟩, fun v H' y => ?_⟩
    obtain ⟨T, x, y, rfl, nT, rfl, e1, e2⟩ := y
    exact hs i x y T H (e1 xs qx) (e2 ys qy) p nT
  · have e : i = xs.length := by omega
    subst e
    exact .inl ⟨⟨xs, ys, qx, qy, rfl, hl.symm⟩, hd H p⟩
end KX

set_option maxRecDepth 100000
set_option maxHeartbeats 4000000
/-! == of a text and a dict; x in t where x may be a dict -/
namespace KX
open PySem PySem.Spec PyProof.Rows L2
theorem str_eq_declines_dict (b : Str) (u : Tok) (l : Addr) (es : Array DictEntry) (ep : Nat) (dd : Option Addr) (sl : Array (Option Value)) :
    Meets (Builtin.«str.__eq__» ⟨[.str b u, .ref l], []⟩) (fun _ R s => s.heap.get? l = some { cls := .type "dict", dict := dd, data := .dict es ep, slots := sl } ∧ R (.ok (.ret .notImplemented)) s) :=
  .of_wp fun prog w A R s h => by obtain ⟨hp, g, d, tk, os⟩ := s; obtain ⟨hl, h⟩ := h; wp_walk using AutoSeq1.wpAny_loadPart' hl, wpAny_load hl; exact ⟨_, rfl, h⟩
theorem dict_eq_declines_str (b : Str) (u : Tok) (l : Addr) (es : Array DictEntry) (ep : Nat) (dd : Option Addr) (sl : Array (Option Value)) :
    Meets (Builtin.«dict.__eq__» ⟨[.ref l, .str b u], []⟩) (fun _ R s => s.heap.get? l = some { cls := .type "dict", dict := dd, data := .dict es ep, slots := sl } ∧ R (.ok (.ret .notImplemented)) s) :=
  .of_wp fun prog w A R s h => by obtain ⟨hp, g, d, tk, os⟩ := s; obtain ⟨hl, h⟩ := h; have f1 : isSubtype (.type "str") (.type "dict") = pure false := by rw [isSubtype_type]; kernel_rfl
                                  wp_walk using AutoSeq1.wpAny_loadPart' hl, wpAny_load hl; exact ⟨_, rfl, h⟩
section
open MeetsSeq MeetsSeq2 MeetsSeq3 SeqRoads2 SeqAt
variable {A : Around} {s : Shared}
theorem rc_str_dict {l : Addr} {o : Obj} {es : Array DictEntry} {ep : Nat} (b : Str) (u : Tok) (ho : s.heap.get? l = some o) (hc : o.cls = .type "dict") (hd : o.data = .dict es ep) (hu : A.units < cLine) : SeqAt.RcAt A s (.str b u) (.ref l) false := fun prog w E Q h => by
  obtain ⟨cls, dd, data, sl⟩ := o
  simp only at hc hd
  subst hc hd
  exact rc_eq_decline_or (k := false) (typeIs_str s b u) ⟨_, ho, rfl⟩ (by decide) PySem.F.sub_dict_str PySem.F.slot_str_eq PySem.F.slot_dict_eq_refl
    (fun _ hq => call_meets PySem.F.slot_str_eq (typeIs_str s b u) PySem.F.entry_str_eq (PySem.F.args_str_eq_2 _ _) (str_eq_declines_dict b u l es ep dd sl) ⟨ho, hq⟩)
    (fun _ hq => call_meets PySem.F.slot_dict_eq_refl ⟨_, ho, rfl⟩ PySem.F.entry_dict_eq (PySem.F.args_dict_eq_2 _ _) (dict_eq_declines_str b u l es ep dd sl) ⟨ho, hq⟩)
    (fun _ hq => wpAny_of_eq (rfl : isSame (.str b u) (.ref l) = pure false) hq) (.inr hu) h
theorem eq_str_dict {l : Addr} {o : Obj} {es : Array DictEntry} {ep : Nat} (b : Str) (u : Tok) (ho : s.heap.get? l = some o) (hc : o.cls = .type "dict") (hd : o.data = .dict es ep) (hu : A.units < cLine) : SeqAt.EqAt A s (.str b u) (.ref l) false := fun prog w E Q h => by
  unfold eqBool
  refine wpAny_holding ?_
  refine wpAny_ite_split (fun hab => absurd (eq_of_beq hab) nofun) (fun _ => ?_)
  exact wpAny_bind (rc_str_dict b u ho hc hd hu prog w E _ (wpAny_truthy_bool h))
end
/-- data without dicts, or a dict -/
def okP (d : PyData) : Prop := d.plain = true ∨ ∃ kvs, d = .dict kvs
section
variable {X : Cx}
/-- x in t: t a tuple of texts, x data, or a dict -/
def rInX (K : PySem.W.Frag) (f : Bool → Bool) : R2 := fun x y H Q => ∃ (d : PyData) (t : Addr) (ns : List Str), Dx H x d ∧ okP d ∧ y = .ref t ∧ SqT K H t (ns.map V.str) ∧ Q (.bl (f ((ns.map PyData.str).any fun z => PyData.eqv z d))) H
theorem dp_strsX {K : PySem.W.Frag} {H : Hp} : ∀ ns : List Str, DpAll K H (ns.map V.str) (ns.map PyData.str)
  | [] => .nil
  | n :: ns => .cons (.str n) (dp_strsX ns)
theorem strs_plain : ∀ ns : List Str, PyData.plainAll (ns.map PyData.str) = true ∧ PyData.depthAll (ns.map PyData.str) = 0
  | [] => ⟨rfl, by simp [PyData.depthAll]⟩
  | n :: ns => by
    obtain ⟨h1, h2⟩ := strs_plain ns
    exact ⟨by simp [PyData.plainAll, PyData.plain, h1], by simp [PyData.depthAll, PyData.depth, h2]⟩
theorem op_inX (hu : X.A.units + 64 < cLine) : OpR X (compareOp .In) (rInX X.K id) := by
  intro pins s σ H x y v u Q I rx ry h
  obtain ⟨d, t, ns, hd, od, rfl, ht, q⟩ := h
  rcases od with pd | ⟨kvs, rfl⟩
  · exact op_inTD hu pins s σ H x (.ref t) v u Q I rx ry ⟨d, ns.map PyData.str, dp_dx d x pd hd, .tup ht (dp_strsX ns), pd, (strs_plain ns).1, by rw [(strs_plain ns).2]; omega, q⟩
  · have hq : ((ns.map PyData.str).any fun z => PyData.eqv z (.dict kvs)) = false := List.any_eq_false.mpr fun z hz => by
      obtain ⟨n, _, rfl⟩ := List.mem_map.mp hz
      simp [PyData.eqv]
    rw [hq] at q
    obtain ⟨a, rfl⟩ : ∃ a, x = .ref a := by
      cases hd with
      | dic e => exact ⟨_, rfl⟩
      | dic1 e => exact ⟨_, rfl⟩
    cases ry
    cases rx
    obtain ⟨its, rv, ⟨o, ho, hc, n, hdat⟩, _⟩ := I.tuple ht
    have hdic : ∃ o es ep, s.heap.get? a = some o ∧ o.cls = .type "dict" ∧ o.data = .dict es ep := by
      cases hd with
      | dic e =>
        obtain ⟨_, _, _, _, o, es, ep, e1, ex, ed, _⟩ := (show ObjOk X.prog X.w H s.heap a (.dK []) from I.hok a _ e)
        exact ⟨o, es, ep, e1, ex.1, ed⟩
      | dic1 e =>
        obtain ⟨_, _, _, _, o, es, ep, e1, ex, ed, _⟩ := (show ObjOk X.prog X.w H s.heap a (.dK _) from I.hok a _ e)
        exact ⟨o, es, ep, e1, ex.1, ed⟩
    obtain ⟨o2, es, ep, h1, h2, h3⟩ := hdic
    refine SeqAt.in_tupleAt (e := fun _ => false) (hl := ⟨o, ho, hc, n, hdat⟩) (he := fun y hy => ?_) (h := ?_)
    · have hm : ∃ n t, y = Value.str n t := by
        have : ∀ (ns : List Str) (us : List Value), Vals (ns.map V.str) us → ∀ z ∈ us, ∃ n t, z = Value.str n t := fun ns => by
          induction ns with
          | nil => intro us r z hz; cases r; cases hz
          | cons n ns ih =>
            intro us r z hz
            cases r with
            | cons r1 r2 =>
              rcases List.mem_cons.mp hz with rfl | hz
              · obtain ⟨t, rfl⟩ := r1
                exact ⟨n, t, rfl⟩
              · exact ih _ r2 z hz
        exact this ns its rv y (by simpa using hy)
      obtain ⟨n, t, rfl⟩ := hm
      exact eq_str_dict n t h1 h2 h3 (by have : X.A.units + 64 < cLine := hu; show X.A.in1.units < cLine; exact Nat.lt_of_le_of_lt (by show X.A.units + 1 ≤ X.A.units + 64; omega) this)
    · have : (its.toArray.any fun _ => false) = false := by
        rw [← Array.any_toList]
        exact List.any_eq_false.mpr fun _ _ => by simp
      rw [this]
      exact ⟨.bl false, H, I, rfl, q⟩
end
end KX

set_option maxRecDepth 100000
set_option maxHeartbeats 4000000
/-! < of data that are alike -/
namespace KX
open PySem PySem.Spec PyProof.Rows L2
section
variable {X : Cx}
def rLtD (K : PySem.W.Frag) : R2 := fun x y H Q => ∃ d e, Dp K H x d ∧ Dp K H y e ∧ PySem.W.alike d e = true ∧ d ≠ .none ∧ min d.depth e.depth ≤ 60 ∧ Q (.bl (PySem.W.dataLt d e)) H
theorem op_ltD (hu : X.A.units + 64 < cLine) : OpR X (compareOp .Lt) (rLtD X.K) := by
  intro pins s σ H x y v u Q I rx ry h
  obtain ⟨d, e, hd, he, ha, hn, hm, q⟩ := h
  obtain ⟨as, r1⟩ := Dp.reads I d x v hd rx
  obtain ⟨bs, r2⟩ := Dp.reads I e y u he ry
  exact PySem.W.lt_data r1 r2 ha hn (by omega) ⟨.bl _, H, I, rfl, q⟩
end
end KX

set_option maxRecDepth 100000
set_option maxHeartbeats 4000000
/-! l != [], l any list -/
namespace KX
open PySem PySem.Spec PyProof.Rows L2
section
variable {X : Cx}
def rNeL0 (K : PySem.W.Frag) : R2 := fun x y H Q => ∃ a b xs, x = .ref a ∧ y = .ref b ∧ SqL K H a xs ∧ SqL K H b [] ∧ Q (.bl (!xs.isEmpty)) H
theorem op_neL0 (hu : X.A.units < cLine) : OpR X (compareOp .NotEq) (rNeL0 X.K) := by
  intro pins s σ H x y v u Q I rx ry h
  obtain ⟨a, b, xs, rfl, rfl, ha, hb, q⟩ := h
  cases rx
  cases ry
  obtain ⟨its, r1, p1, _⟩ := I.list ha
  obtain ⟨its2, r2, p2, _⟩ := I.list hb
  cases r2
  cases xs with
  | nil =>
    cases r1
    refine SeqAt.RcNeAt.lists (e := fun _ => true) p1.isList p2.isList rfl hu (fun j h1 h2 => absurd h2 (by simp)) X.prog X.w X.xe (EP X pins σ Q) ?_
    exact ⟨.bl _, H, I, rfl, q⟩
  | cons x xs =>
    cases r1
    exact SeqAt.RcNeAt.lists_lengths p1.isList p2.isList (by simp) hu X.prog X.w X.xe (EP X pins σ Q) ⟨.bl _, H, I, rfl, q⟩
end
end KX

set_option maxRecDepth 100000
set_option maxHeartbeats 400000
namespace KX
open PySem PySem.Spec PyProof.Rows L2 LamX NdefX
/-! ### a lambda with one parameter, captured names, handed to a def and called there -/
abbrev lamF (q : Str) (params : Arguments) (scope : Scope) (cl : List (Str × Addr)) (c : Addr) : NF := ⟨"<lambda>", q, params, [], scope, cl, c⟩
theorem cells_later {cl : List (Str × Addr)} {fr : List Str} {ws : List (Option V)} {fs : List Addr} {h h2 : Heap} {H H2 : Hp} (C : CellsAt cl fr ws h H) (un : Un fs [] H H2 h h2) : CellsAt cl fr ws h2 H2 := by
  have kp : ∀ y c, cl.lookup y = some c → ∀ v, h.IsCell c v → h2.IsCell c v := fun y c e v ⟨o, ho, hd⟩ => by
    obtain ⟨sl, q⟩ := un.any ho (C.all y c e).1 (by simp)
    exact ⟨_, q, hd⟩
  refine ⟨C.len, fun y c e => ?_, C.inj, fun i y e => ?_⟩
  · obtain ⟨n, v, z⟩ := C.all y c e
    refine ⟨?_, v, kp y c e v z⟩
    obtain ⟨o, ho, _⟩ := z
    exact un.free c o ho n (by simp)
  · obtain ⟨c, hc, hv⟩ := C.has i y e
    refine ⟨c, hc, fun v ev => ?_⟩
    obtain ⟨u, r, z⟩ := hv v ev
    exact ⟨u, r, kp y c hc _ z⟩
theorem vals_one {v : V} {us : List Value} (r : Vals [v] us) : ∃ u0, us = [u0] := by
  cases r with
  | cons r0 rr =>
    cases rr
    exact ⟨_, rfl⟩
/-- it runs -/
theorem lam_run {CX : CXT} {P : Program} {w : World} {K : PySem.W.Frag} {mg : Str → Option Value} {base : Heap} {N ps fr : List Str} {q : Str} {params : Arguments} {scope : Scope} {cl : List (Str × Addr)} {c' f : Addr} {body : Expr} {k : Nat} {A : Around} {outer : List PySem.Env} {s : Shared} {H : Hp}
    {us : List Value} {vs : List V} {ws : List (Option V)} {Q : VK} {E : XK} {pm ctv : Value} {t : TE} (S : NScope N ps fr scope) (hb : bindArgs (PySem.W.kla_fn "<lambda>" q params body scope cl pm (.ref c') ctv) ⟨us, []⟩ = pure (ps.zip us)) (hr : Room (k + 1) A)
    (e0 : Env0 P w K mg base A outer s H) (ho : s.heap.get? f = some (PySem.W.kla_obj "<lambda>" q params body scope cl pm c' ctv)) (hc : H c' = some (CodeO c' q)) (C : CellsAt cl fr ws s.heap H) (r : Vals vs us) (hl : vs.length = ps.length)
    (hbody : Room k (A.deeper (envF (lamF q params scope cl c') f s.heap.objs.size)) → PE (ncx CX P w K mg base N (lamF q params scope cl c') f A outer s H E) body t) (ht : t (startF N vs ws) H Q) : codeAny (model P w) A (.call (.ref f) ⟨us, []⟩) (CR CX outer P w H s Q E) s := by
  have lim : s.heap.NoLimit := e0.mod.nolimit.keeps fun b o e => (e0.bs b o e).1
  refine PySem.W.kla_callFunE hr.depth ho rfl S.co S.gen rfl (codeO_at e0.hok hc) ?_
  rw [hb]
  refine wpAny_pure (wpAny_newFunctionEnv S.nocell (fun ⟨n, _⟩ hy => S.par n (List.of_mem_zip hy).1) (fun h₁ hns hsb => ⟨lim.fresh _ hsb, ?_⟩) S.kind)
  show codeAny _ _ (.expr body (envF (lamF q params scope cl c') f s.heap.objs.size)) _ _
  have kp : ∀ b o, s.heap.get? b = some o → h₁.get? b = some o := fun b o e => hsb.extBut b o (Nat.ne_of_lt (Heap.lt_size e)) (Heap.get?_push_of_some _ e)
  have I : Inv (ncx CX P w K mg base N (lamF q params scope cl c') f A outer s H E) [] (startF N vs ws) H { s with heap := h₁, toks := s.toks + (ps.zip us).length } := inv_startN S hr.hd e0 hl r C hns kp
  refine PySem.W.kla_codeExpr (wpAny_mono ((hbody (hr.deeper _)).run [] _ _ H Q I ht) (fun v s' hq => ?_) fun e s' hq => hq)
  obtain ⟨w', H', J', rv, q⟩ := hq
  exact ⟨w', H', J'.os, J'.bare, J'.base, J'.hok, rv, q⟩
section
variable {X : Cx} {pins : List (Addr × Obj)} {σ : L2.St} {H : Hp} {s : Shared}
/-- a(e), in the def that got the lambda as a -/
theorem pe_act1 {CXg : CXT} {Eg : XK} {Ng : List Str} {qg : Str} {sg : Scope} {g f c' : Addr} {cdg pm ctv : Value} {q : Str} {params : Arguments} {body : Expr} {scope : Scope} {cl : List (Str × Addr)} {k i : Nat} {a p : Str} {pn : List (Addr × Obj)} {xe : Value → Shared → Prop} {W : WX} {tb : XK → TE} {te : TE} {e : Expr} {p1 p2 : Pos} {N fr : List Str} {ws : List (Option V)}
    (S : NScope N [p] fr scope) (C : CellsAt cl fr ws s.heap H) (hf : s.heap.get? f = some (PySem.W.kla_obj "<lambda>" q params body scope cl pm c' ctv)) (hfn : H f = none) (hfr : f ∉ frs X.stack)
    (hbind : ∀ u, bindArgs (PySem.W.kla_fn "<lambda>" q params body scope cl pm (.ref c') ctv) ⟨[u], []⟩ = pure [(p, u)])
    (tk : Takes ((cxOf CXg X.prog X.w X.K X.mg X.base Ng qg sg g cdg X.A X.stack s H Eg).tr pn xe) W) (hr : Room (k + 1) (X.A.deeper (envOfC qg sg s.heap.objs.size g cdg)))
    (hbody : ∀ (A : Around) (outer : List PySem.Env) (s : Shared) (H : Hp) (E : XK), Room k (A.deeper (envF (lamF q params scope cl c') f s.heap.objs.size)) → PE (ncx (L2.CX X.prog X.w) X.prog X.w X.K X.mg X.base N (lamF q params scope cl c') f A outer s H E) body (tb E))
    (ha : PE ((cxOf CXg X.prog X.w X.K X.mg X.base Ng qg sg g cdg X.A X.stack s H Eg).tr pn xe) e te) (he : ∀ env, starEach [e] env = (false, eval e env) :: starEach [] env)
    (hN : Ng[i]? = some a) (hv : Vis sg a) (hd : (a == ("__debug__" : Str)) = false := by decide) (hcd : (a == ("__classdict__" : Str)) = false := by decide) :
    PE ((cxOf CXg X.prog X.w X.K X.mg X.base Ng qg sg g cdg X.A X.stack s H Eg).tr pn xe) (.Call (.Name a p1) [e] [] p2)
      (fun σZ HZ Q => σZ[i]? = some (some (.ref f)) ∧ te σZ HZ fun v H1 => H1 c' = some (CodeO c' q) ∧ tb (fun cls d H' => W cls d σZ H') (startF N [v] ws) H1 Q) := by
  refine ⟨fun pinsZ sZ σZ HZ Q IZ h => ?_⟩
  obtain ⟨hs, ht⟩ := h
  refine wpAny_Call_Name_kw (thn ((pe_var (pos := p1) (i := i) hN hv hd hcd).run pinsZ sZ σZ HZ (fun v H1 => v = .ref f ∧ H1 = HZ) IZ ⟨.ref f, hs, rfl, rfl⟩) fun u s1 ⟨v, H1, I1, r1, q1⟩ => ?_)
  obtain ⟨ev, eH⟩ := q1
  subst ev
  rw [eH] at I1
  obtain rfl : u = Value.ref f := r1
  have of1 : s1.heap.get? f = some (PySem.W.kla_obj "<lambda>" q params body scope cl pm c' ctv) := I1.base.keep f _ hf hfn hfr (fun z => nomatch (show f ∈ ([] : List Addr) from z))
  refine PySem.W.callWith_F (first := []) ⟨_, _, _, _, of1⟩ (thn ((pa_cons ha pa_nil (he _)).run p2 pinsZ s1 σZ HZ (fun vs H' => ∃ v, vs = [v] ∧ H' c' = some (CodeO c' q) ∧ tb (fun cls d H' => W cls d σZ H') (startF N [v] ws) H' Q) I1 ?_) fun us s2 ⟨vs, H2, I2, r, q2⟩ => ?_) (he _) (by rfl)
  · show te σZ HZ fun v H1 => _
    have : (fun v H1 => H1 c' = some (CodeO c' q) ∧ tb (fun cls d H' => W cls d σZ H') (startF N [v] ws) H1 Q) = (fun v H1 => ∃ v', [v] = [v'] ∧ H1 c' = some (CodeO c' q) ∧ tb (fun cls d H' => W cls d σZ H') (startF N [v'] ws) H1 Q) := by
      funext v H1
      refine propext ⟨fun h => ⟨v, rfl, h⟩, fun ⟨v', e, h⟩ => ?_⟩
      cases e
      exact h
    rw [this] at ht
    exact ht
  obtain ⟨v, ev, hc, hb⟩ := q2
  subst ev
  have of2 : s2.heap.get? f = some (PySem.W.kla_obj "<lambda>" q params body scope cl pm c' ctv) := I2.base.keep f _ hf hfn hfr (fun z => nomatch (show f ∈ ([] : List Addr) from z))
  refine ⟨⟨_, _, _, _, of2⟩, ?_⟩
  show wpAny _ _ (call (.ref f) us) _ _ _
  have un : Un (frs X.stack) [] H H2 s.heap s2.heap := I2.base
  obtain ⟨u0, eu⟩ := vals_one r
  subst eu
  have rc : codeAny (model X.prog X.w) (X.A.deeper (envOfC qg sg s.heap.objs.size g cdg)) (.call (.ref f) ⟨[u0], []⟩) (CR (L2.CX X.prog X.w) (envOfC qg sg s.heap.objs.size g cdg :: X.stack) X.prog X.w H2 s2 Q (fun cls d H' => W cls d σZ H')) s2 :=
    lam_run (k := k) S (hbind u0) hr I2.env0 of2 hc (cells_later C un) r rfl (fun hr2 => hbody _ _ _ _ _ hr2) hb
  refine wpAny_call (codeAny_mono rc fun r s' hq => ?_)
  cases r with
  | error e => exact tk e s' (XE.of_call I2 (fun cls d H' h => h) hq)
  | ok fl =>
    cases fl with
    | ret u => exact I2.after hq
    | next => exact False.elim hq
    | brk => exact False.elim hq
    | cont => exact False.elim hq
end
/-- the def g (two parameters, the second is called): TT is what it makes of the lambda's reading -/
def GivesTo1 (X : Cx) (k : Nat) (Ng : List Str) (x : Str) (sg : Scope) (g : Addr) (cdg : Value) (bg : List Stmt) (a : Str) (q : Str) (TT : (XK → V → Hp → VK → Prop) → V → Hp → VK → Prop) : Prop :=
  ∀ (f c' : Addr) (s : Shared) (H : Hp) (v0 : V) (Q : VK) (tl : XK → V → Hp → VK → Prop), Room k (X.A.deeper (envOfC x sg s.heap.objs.size g cdg)) →
    (∀ (W : WX) (pn : List (Addr × Obj)) (xe : Value → Shared → Prop) (e : Expr) (te : TE) (p1 p2 : Pos), Takes ((cxOf C8.CX0 X.prog X.w X.K X.mg X.base Ng x sg g cdg X.A X.stack s H C8.E0).tr pn xe) W →
      PE ((cxOf C8.CX0 X.prog X.w X.K X.mg X.base Ng x sg g cdg X.A X.stack s H C8.E0).tr pn xe) e te → (∀ env, starEach [e] env = (false, eval e env) :: starEach [] env) →
      PE ((cxOf C8.CX0 X.prog X.w X.K X.mg X.base Ng x sg g cdg X.A X.stack s H C8.E0).tr pn xe) (.Call (.Name a p1) [e] [] p2) (fun σZ HZ Q => σZ[1]? = some (some (.ref f)) ∧ te σZ HZ fun v H1 => H1 c' = some (CodeO c' q) ∧ tl (fun cls d H' => W cls d σZ H') v H1 Q)) →
    H c' = some (CodeO c' q) → TT tl v0 H Q →
    ∃ t, PSs (cxOf C8.CX0 X.prog X.w X.K X.mg X.base Ng x sg g cdg X.A X.stack s H C8.E0).nox bg t ∧ t { nx := fun _ H' => Q .non H', rt := Q } (L2.start Ng [v0, .ref f]) H
def tLam1 (T : List (Addr × Str)) (TT : (XK → V → Hp → VK → Prop) → V → Hp → VK → Prop) (t0 : TE) (t : XK → L2.St → V → Hp → VK → Prop) : TE := fun σ H Q => t0 σ H fun v0 H0 => Tabs T H0 ∧ ∀ H1, ExtN H0 H1 → Tabs T H1 → TT (fun E v H' Q' => t E σ v H' Q') v0 H1 Q
section
variable {X : Cx}
/-- x(e, lambda p: body) -/
theorem pe_lamcall1 {T : List (Addr × Str)} {TT : (XK → V → Hp → VK → Prop) → V → Hp → VK → Prop} {x a a0 p : Str} {g c P : Addr} {k : Nat} {pg : Arguments} {bg : List Stmt} {sg : Scope} {dV kV doc pm cdv ct oc : Value} {an od : Option Addr} {osl : Array (Option Value)} {Ng N fr : List Str} {js : List Nat}
    {params : Arguments} {body e : Expr} {scope : Scope} {t : XK → TE} {t0 : TE} {pp lpos pos : Pos} (hg : Gl X x) (hm : X.mg x = some (.ref g)) (hk : PySem.W.keepIn X.K (.ref g) = true)
    (lk : X.K.lookup g = some ⟨oc, od, .func (PySem.W.fnOf x x pg bg sg dV kV doc pm an cdv ct), osl⟩) (hcg : PySem.W.codeIn X.K cdv x = true) (hb : L2.Binds X.K (PySem.W.fnOf x x pg bg sg dV kV doc pm an cdv ct) [a0, a] []) (Sg : FnScope Ng [a0, a] sg) (hNg : Ng[1]? = some a) (hva : Vis sg a)
    (hG : GivesTo1 X (k + 1) Ng x sg g cdv bg a (X.env.qual ++ "<lambda>") TT)
    (TB : TabB X.base X.mg c P) (hcode : X.env.code = .ref c) (hmT : (P, X.env.qual ++ "<lambda>") ∈ T) (hu : ∀ p ∈ T, p.1 = P → p.2 = X.env.qual ++ "<lambda>") (hr : Room (k + 2) X.A) (S : NScope N [p] fr scope)
    (hfree : ∀ y ∈ scope.names, y.2 = .free → X.env.scope.names.lookup y.1 = some .cell ∨ X.env.scope.names.lookup y.1 = some .free) (hfr : ∀ y ∈ fr, (y, NameKind.free) ∈ scope.names) (hjs : js.map (fun j => X.N[j]?) = fr.map some)
    (hdef : defaultsOf params X.env = ([], []))
    (hbind : ∀ (q : Str) (cl : List (Str × Addr)) (pm cv ctv u : Value), bindArgs (PySem.W.kla_fn "<lambda>" q params body scope cl pm cv ctv) ⟨[u], []⟩ = pure [(p, u)])
    (hbody : ∀ (A : Around) (outer : List PySem.Env) (s : Shared) (H : Hp) (E : XK) (f c' : Addr), Room k (A.deeper (envF (lamF (X.env.qual ++ "<lambda>") params scope (cloFrom X.env.cells scope.names []) c') f s.heap.objs.size)) →
      PE (ncx (L2.CX X.prog X.w) X.prog X.w X.K X.mg X.base N (lamF (X.env.qual ++ "<lambda>") params scope (cloFrom X.env.cells scope.names []) c') f A outer s H E) body (t E))
    (he : PE X e t0) (hse : ∀ env, starEach [e, .Lambda params body scope lpos] env = (false, eval e env) :: starEach [.Lambda params body scope lpos] env)
    (hdb : (x == ("__debug__" : Str)) = false := by decide) (hd : (a == ("__debug__" : Str)) = false := by decide) (hcd : (a == ("__classdict__" : Str)) = false := by decide) :
    PE X (.Call (.Name x pp) [e, .Lambda params body scope lpos] [] pos) (tLam1 T TT t0 fun E σ v H Q => t E (startF N [v] (js.map (slotAt σ))) H Q) := by
  refine ⟨fun pins s σ H Q I h => ?_⟩
  refine wpAny_Call_Name_kw (ld_glob I hg hm ?_ hdb)
  refine PySem.W.callWith_K (h₀ := X.base) I.ok.mod.kin hk ?_ (hse _) (by rfl)
  rw [hse]
  show wpAny _ _ (spliced ((false, eval e X.env) :: (false, eval (.Lambda params body scope lpos) X.env) :: backTo pos (starEach [] X.env))) _ _ s
  refine Calls.spliced_cons (thn (he.run pins s σ H _ I h) fun u0 s0 ⟨v0, H0, I0, r0, q0⟩ => ?_)
  obtain ⟨hT, h⟩ := q0
  have hfr2 : ∀ y ∈ scope.names, y.2 = .free → ∃ c, X.env.cells.lookup y.1 = some c := fun y hy e => (hfree y hy e).elim (fun z => I0.ok.has _ (.inl z)) fun z => I0.ok.has _ (.inr z)
  refine Calls.spliced_cons (lam_make2 I0 TB hcode hmT hu hT hdef hfr2 fun f c' pm' ctv H1 s' I1 eN T1 hf hfn hfr' hco => ?_)
  refine Calls.spliced_nil ⟨I1.kIn, ?_⟩
  have cp := cells_of I1 (Caps.made I1.ok hfree hfr hjs)
  have rc : codeAny (model X.prog X.w) X.A (.call (.ref g) ⟨[u0, .ref f], []⟩) (CR C8.CX0 X.stack X.prog X.w H1 s' Q C8.E0) s' := by
    refine run_ofS (N := Ng) (ps := [a0, a]) (us := [u0, .ref f]) (vs := [v0, .ref f]) lk hcg Sg hr I1.env0 (hb s' [u0, .ref f] I1.kIn rfl) (.cons r0 (.cons rfl .nil)) rfl fun hr' => ?_
    obtain ⟨t', ht', hq'⟩ := hG f c' s' H1 v0 Q (fun E v H' Q' => t E (startF N [v] (js.map (slotAt σ))) H' Q') hr' (fun W pn xe e te p1 p2 tk ha he => pe_act1 (i := 1) S cp hf hfn hfr' (hbind _ _ _ _ _) tk hr' (fun A outer s H E hr2 => hbody A outer s H E f c' hr2) ha he hNg hva hd hcd) hco (h H1 eN T1)
    exact ⟨t', ht'.nox, hq'⟩
  refine wpAny_call (codeAny_mono rc fun r s2 hq => ?_)
  cases r with
  | error e => exact (show False from hq).elim
  | ok fl =>
    cases fl with
    | ret u => exact I1.after hq
    | next => exact False.elim hq
    | brk => exact False.elim hq
    | cont => exact False.elim hq
end
end KX

set_option maxRecDepth 100000
set_option maxHeartbeats 1000000
namespace KX
open PySem PySem.Spec PyProof.Rows L2 LamX
/-! ### the law's call where defs make lambdas, and repr shows data -/
theorem lawGT {P : Program} {w : World} {K : PySem.W.Frag} {mg mb : Str → Option Value} {k : Nat} {fa a : Addr} {cs : List (Addr × Addr)} {fd : FuncData} {x : Str} {sp : Sp} {s1 : Shared} {vs : List Value} {ns : List Int}
    (KX : K.In s1.heap) (hns : s1.heap.Ns mainGlobals mg) (hb : s1.heap.Ns builtinsNs mb) (hbb : ∀ x : Str, x ≠ "__name__" → mb x = bootBuiltins x) (hlim : s1.heap.NoLimit) (hg : s1.gens = #[])
    (hT : ∀ p ∈ cs, s1.heap.get? p.2 = some { cls := .none, data := .fields #[] }) (nT : ∀ p ∈ cs, K.lookup p.2 = none) (C : ∀ p ∈ cs, PySem.W.CodeHd s1.heap p.1 p.2)
    (hbm : ∃ (bm : Addr) (ob : Obj), mg "__builtins__" = some (.ref bm) ∧ bm ≠ builtinsNs ∧ s1.heap.get? bm = some ob ∧ ob.cls = .type "module" ∧ ob.dict = some builtinsNs ∧ ob.data = .plain)
    (ha : s1.heap.get? a = some { cls := .type "list", data := .seq vs.toArray }) (hi : IntsAre vs ns) (hl : ns.length ≤ sizeLine) (hr : Room k callerA)
    (F : ∀ base : Heap, K.In base → base.Ns mainGlobals mg → (∀ p ∈ cs, TabB base mg p.1 p.2) → FnG P w K mg base CX0 k fa fd [x] sp) (hbind : ∀ (s : Shared) (u : Value), BindsTo s fd ⟨[u], []⟩ [(x, u)])
    (hsp : ∀ H : Hp, (∀ p ∈ cs, H p.2 = some (.tbl #[])) → SqL K H a (ns.map V.int) → sp [.ref a] H (fun v _ => v = .bl true) fun _ _ _ => False) :
    codeAny (model P w) callerA (.call (.ref fa) ⟨[.ref a], []⟩) (fun r s' => r = .ok (.ret (.bool true)) ∧ OldK s1.heap s'.heap ∧ s'.os = s1.os ∧ AllBare s'.gens) s1 := by
  have rv := vals_ints hi
  have lenV := hi.length
  have neA : ∀ p ∈ cs, p.2 ≠ a := fun p hp z => by
    have e := hT p hp
    rw [z, ha] at e
    cases e
  have main : ∀ H : Hp, (∀ b o, H b = some o → (b = a ∧ K.lookup a = none ∧ o = .frz { cls := .type "list", data := .seq vs.toArray } (.lst (ns.map V.int))) ∨ ∃ p ∈ cs, b = p.2 ∧ o = .tbl #[]) → (∀ p ∈ cs, H p.2 = some (.tbl #[])) → SqL K H a (ns.map V.int) →
      codeAny (model P w) callerA (.call (.ref fa) ⟨[.ref a], []⟩) (fun r s' => r = .ok (.ret (.bool true)) ∧ OldK s1.heap s'.heap ∧ s'.os = s1.os ∧ AllBare s'.gens) s1 := by
    intro H hO hH hS
    have hok : HOk P w H s1.heap := fun b o e => by
      rcases hO b o e with ⟨e1, _, e2⟩ | ⟨p, hp, e1, e2⟩
      · subst e1 e2
        exact ⟨ha, by rw [List.length_map]; exact hl, vs, _, rv, ha⟩
      · subst e1 e2
        exact hT p hp
    have none_of : ∀ {b : Addr} {o : Obj}, s1.heap.get? b = some o → (∀ vs n, o.data ≠ .seq vs n) → o.data ≠ .fields #[] → H b = none := fun {b o} e n1 n2 => by
      cases q : H b with
      | none => rfl
      | some u =>
        rcases hO b u q with ⟨e1, _, _⟩ | ⟨p, hp, e1, _⟩
        · rw [e1, ha] at e
          cases e
          exact (n1 _ _ rfl).elim
        · rw [e1, hT p hp] at e
          cases e
          exact (n2 rfl).elim
    have keep : ∀ {b : Addr} {o : Obj}, s1.heap.get? b = some o → (∀ vs n, o.data ≠ .seq vs n) → o.data ≠ .fields #[] → (hidT s1.heap H).get? b = some o := fun e n1 n2 => hidT_get e (none_of e n1 n2)
    have nsK : ∀ {b : Addr} {m : Str → Option Value}, s1.heap.Ns b m → (hidT s1.heap H).Ns b m := fun {b m} hn => by
      obtain ⟨o, es, ep, e, d, r⟩ := hn
      exact ⟨o, es, ep, keep e (fun vs n z => by rw [d] at z; cases z) (fun z => by rw [d] at z; cases z), d, r⟩
    have hKb : K.In (hidT s1.heap H) := fun b o e => hidT_get (KX b o e) (by
      cases q : H b with
      | none => rfl
      | some u =>
        rcases hO b u q with ⟨e1, e2, _⟩ | ⟨p, hp, e1, _⟩
        · rw [e1, e2] at e
          cases e
        · rw [e1, nT p hp] at e
          cases e)
    have hM : Mod K mg (hidT s1.heap H) := ⟨hKb, nsK hns, ⟨mb, nsK hb, hbb⟩, let ⟨mc, h1, h2⟩ := hlim; ⟨mc, nsK h1, h2⟩⟩
    have e0 : Env0 P w K mg (hidT s1.heap H) callerA [] s1 H := ⟨rfl, hM, fun b o e => of_hidT e, Nat.le_of_eq (hidT_size _ _), trivial, fun b hb => absurd (show b ∈ ([] : List Addr) from hb) (by simp), hok, .of_eq hg⟩
    have TB : ∀ p ∈ cs, TabB (hidT s1.heap H) mg p.1 p.2 := fun p hp => by
      refine ⟨?_, ?_, fun z => ?_⟩
      · obtain ⟨o, us, file, tf, flags, tg, inF, text, tt, e1, r1, r2, r3, rest⟩ := C p hp
        refine ⟨o, us, file, tf, flags, tg, inF, text, tt, keep e1 (fun vs n z => by rw [r2] at z; cases z) (fun z => ?_), r1, r2, r3, rest⟩
        rw [r2] at z
        cases z
        simp at r3
      · obtain ⟨bm, ob, b1, b2, b3, b4, b5, b6⟩ := hbm
        have n1 : ∀ vs n, ob.data ≠ .seq vs n := fun vs n z => by rw [b6] at z; cases z
        have n2 : ob.data ≠ .fields #[] := fun z => by rw [b6] at z; cases z
        refine ⟨bm, ob, b1, b2, fun q => ?_, fun q => ?_, keep b3 n1 n2, b4, b5, b6⟩
        · obtain ⟨o, es, ep, e, hd, _⟩ := hns
          rw [q, e] at b3
          cases b3
          rw [hd] at b6
          cases b6
        · rw [q, hT p hp] at b3
          cases b3
          cases b6
      · obtain ⟨o, es, ep, e, hd, _⟩ := hns
        rw [z, hT p hp] at e
        cases e
        cases hd
    refine codeAny_mono ((F _ hKb (nsK hns) TB).run callerA [] s1 H ⟨[.ref a], []⟩ [.ref a] [.ref a] _ _ rfl hr e0 (hbind s1 (.ref a)) (.cons rfl .nil) (hsp H hH hS)) fun r s' h => ?_
    match r, h with
    | .error e, h => exact h.elim
    | .ok (.ret u), h =>
      obtain ⟨v, H', os, bare, un, hok', r', q⟩ := h
      have q' : v = .bl true := q
      subst q'
      obtain rfl : u = Value.bool true := r'
      have key : ∀ b o, (∀ p ∈ cs, b ≠ p.2) → s1.heap.get? b = some o → s'.heap.get? b = some o := fun b o nb e => by
        cases q : H b with
        | none => exact un.keep b o e q (fun z => absurd (show b ∈ ([] : List Addr) from z) (by simp)) (by simp)
        | some u =>
          rcases hO b u q with ⟨e1, _, e2⟩ | ⟨p, hp, e1, _⟩
          · rw [e2] at q
            obtain ⟨f1, _⟩ := hok b _ q
            obtain ⟨f2, _⟩ := hok' b _ (un.frzs b _ _ q)
            rw [e] at f1
            cases f1
            exact f2
          · exact (nb p hp e1).elim
      have grown : ∀ p ∈ cs, ∃ more : Array Value, s'.heap.get? p.2 = some { cls := .none, data := .fields more } := fun p hp => by
        obtain ⟨more, z⟩ := un.tbls p.2 #[] (hH p hp)
        exact ⟨_, hok' p.2 _ z⟩
      refine ⟨rfl, ⟨fun b o e => ?_, fun b o e => ?_⟩, os, bare⟩
      · by_cases hb : ∃ p ∈ cs, b = p.2
        · obtain ⟨p, hp, ep⟩ := hb
          obtain ⟨more, hm⟩ := grown p hp
          rw [ep] at e ⊢
          rw [hT p hp] at e
          cases e
          exact .inr (.inl ⟨((C p hp).tab (hT p hp)).isCodeTable, rfl, #[], more, rfl, by rw [Array.empty_append]; exact hm⟩)
        · exact .inl (key b o (fun p hp z => hb ⟨p, hp, z⟩) e)
      · by_cases hb : ∃ p ∈ cs, b = p.2
        · obtain ⟨p, hp, ep⟩ := hb
          obtain ⟨more, hm⟩ := grown p hp
          rw [ep]
          exact ⟨_, hm⟩
        · exact ⟨o, key b o (fun p hp z => hb ⟨p, hp, z⟩) e⟩
  cases hk : K.lookup a with
  | some o =>
    have e := KX a o hk
    rw [ha] at e
    cases e
    refine main (fun b => if ∃ p ∈ cs, b = p.2 then some (.tbl #[]) else none) (fun b u z => ?_) (fun p hp => if_pos ⟨p, hp, rfl⟩) (.inr ⟨_, vs.toArray, _, hk, rfl, rfl, rfl, by rw [List.size_toArray, lenV]; exact hl, by simpa using rv⟩)
    by_cases hb : ∃ p ∈ cs, b = p.2
    · have z' := (if_pos hb).symm.trans z
      cases z'
      obtain ⟨p, hp, e⟩ := hb
      exact .inr ⟨p, hp, e, rfl⟩
    · have z' := (if_neg hb).symm.trans z
      cases z'
  | none =>
    refine main (fun b => if b = a then some (.frz { cls := .type "list", data := .seq vs.toArray } (.lst (ns.map V.int))) else if ∃ p ∈ cs, b = p.2 then some (.tbl #[]) else none) (fun b u z => ?_) (fun p hp => (if_neg (neA p hp)).trans (if_pos ⟨p, hp, rfl⟩)) (.inl (.inr ⟨_, if_pos rfl⟩))
    by_cases hb : b = a
    · have z' := (if_pos hb).symm.trans z
      cases z'
      exact .inl ⟨hb, hk, rfl⟩
    · have z1 := (if_neg hb).symm.trans z
      by_cases hb2 : ∃ p ∈ cs, b = p.2
      · have z' := (if_pos hb2).symm.trans z1
        cases z'
        obtain ⟨p, hp, e⟩ := hb2
        exact .inr ⟨p, hp, e, rfl⟩
      · have z' := (if_neg hb2).symm.trans z1
        cases z'
/-- the table of the def that stands at f is empty -/
def EmptyTab (K : PySem.W.Frag) (f : Addr) (h : Heap) : Prop := OwnTab K f h
theorem walkGT {l : PySem.W.OpenLaw} {n k : Nat} {q : Program} {loose : List Str} {XP : (Str → Option Value) → Heap → Prop} {YP : World → Heap → Prop} {d : DefRec} {K : Params → PySem.W.Frag} {x : Str}
    (hn : l.most = some n) (hn2 : n ≤ sizeLine) (hdf : d.params.defaults = []) (hr : Room k callerA) (hY : ∀ (w : World) (h : Heap), YP w h → (K w.params).In h)
    (F : ∀ (w : World) (mg : Str → Option Value) (fa : Addr) (h : Heap), (K w.params).In h → h.Ns mainGlobals mg → mg d.name = some (.ref fa) → (∀ y : Str, ((recsOf q).any fun e => e.name == y) = true → ∀ f : Addr, mg y = some (.ref f) → OwnTab (K w.params) f h) →
      ∃ (fd : FuncData) (cs : List (Addr × Addr)) (sp : Sp), (∀ p ∈ cs, h.get? p.2 = some { cls := .none, data := .fields #[] }) ∧ (∀ p ∈ cs, (K w.params).lookup p.2 = none) ∧ (∀ p ∈ cs, PySem.W.CodeHd h p.1 p.2) ∧ (∀ (s : Shared) (u : Value), BindsTo s fd ⟨[u], []⟩ [(x, u)]) ∧
        (∀ (H : Hp) (a : Addr) (ns : List Int), ns.length ≤ n → (∀ p ∈ cs, H p.2 = some (.tbl #[])) → SqL (K w.params) H a (ns.map V.int) → sp [.ref a] H (fun v _ => v = .bl true) fun _ _ _ => False) ∧
        ∀ base : Heap, (K w.params).In base → base.Ns mainGlobals mg → (∀ p ∈ cs, TabB base mg p.1 p.2) → FnG l.prog w (K w.params) mg base CX0 k fa fd [x] sp) :
    PySem.W.WalkO q loose XP YP l.row.toRowW d [] (fun f vs => PySem.call f vs) := by
  refine Att.attach_callB hn hdf fun w s₀ s₁ mg mb fa o pm cd doc a vs ns G Y ho hd hcd hmg hobj hints hlen hbits hg => ?_
  have KX := hY w _ Y
  have own : ∀ y : Str, ((recsOf q).any fun e => e.name == y) = true → ∀ f : Addr, mg y = some (.ref f) → OwnTab (K w.params) f s₁.heap := fun y hrec f hf c P o1 fd1 e dd vs1 sl k1 k2 k3 k4 k5 => by
    obtain ⟨dL, hm, hn1⟩ := List.any_eq_true.mp hrec
    have hn2 : dL.name = y := beq_iff_eq.mp hn1
    obtain ⟨a', o', fd', c', P', h1, h2, h3, h4, h5, h6⟩ := G.T.tab dL hm
    rw [hn2, hf] at h1
    cases h1
    have g1 := KX _ _ k1
    rw [g1] at h2
    cases h2
    rw [k2] at h3
    cases h3
    rw [k3] at h4
    cases h4
    obtain ⟨⟨oc, vc, e1, _, e3, e4⟩, hP⟩ := h6
    have g2 := KX _ _ k4
    rw [g2] at e1
    cases e1
    cases e3
    rw [k5] at e4
    cases e4
    exact hP
  obtain ⟨fd, cs, sp, hT, nT, C, hb, hsp, hF⟩ := F w mg fa _ KX G.T.g hmg own
  exact lawGT KX G.T.g G.T.b G.T.builtins G.T.nolimit hg hT nT C G.T.bmain hobj hints (Nat.le_trans hlen hn2) hr hF hb fun H hH hS => hsp H a ns hlen hH hS
end KX

set_option maxRecDepth 100000
set_option maxHeartbeats 1000000
namespace KX
open PySem PySem.Spec PyProof.Rows L2 LamX
/-! ### tables beside the stream; data where tables grow -/
theorem tabs_keep {l : Addr} {T : List (Addr × Str)} {H H' : Hp} (k : Keep l H H') (st : StO H l) (t : Tabs T H) : Tabs T H' := fun p hp => by
  obtain ⟨ps, h1, h2, h3⟩ := t p hp
  obtain ⟨x, y, z, el⟩ := st
  refine ⟨ps, k _ _ (fun e => ?_) h1, h2, fun pos cv hc => ?_⟩
  · rw [e, el] at h1
    cases h1
  · obtain ⟨c, e1, e2⟩ := h3 pos cv hc
    refine ⟨c, e1, k _ _ (fun e => ?_) e2⟩
    rw [e, el] at e2
    unfold CodeO at e2
    cases e2
/-- without the tables -/
def noT (H : Hp) : Hp := fun b => match H b with
  | some (.tbl _) => none
  | o => o
theorem noT_same {H : Hp} : Same (noT H) H := fun b o e => by
  unfold noT at e
  cases h : H b with
  | none => rw [h] at e; cases e
  | some u =>
    rw [h] at e
    cases u <;> first | exact e | cases e
theorem noT_at {H : Hp} {b : Addr} {o : HO} (h : H b = some o) (n : ∀ ps, o ≠ .tbl ps) : noT H b = some o := by
  unfold noT
  rw [h]
  cases o <;> first | rfl | exact (n _ rfl).elim
theorem noT_ext {H H' : Hp} (e : ExtN H H') : Same (noT H) (noT H') := fun b o h => by
  have n : ∀ ps, o ≠ .tbl ps := fun ps z => by
    subst z
    unfold noT at h
    cases q : H b with
    | none => rw [q] at h; cases h
    | some u =>
      rw [q] at h
      cases u <;> cases h
  exact noT_at (e b o (noT_same b o h) n) n
mutual
theorem Dx.noT {H : Hp} {v : V} {d : PyData} : Dx H v d → Dx (KX.noT H) v d
  | .non => .non
  | .bl b => .bl b
  | .int i => .int i
  | .str x => .str x
  | .tup e h => .tup (noT_at e fun _ z => by cases z) (Dxs.noT h)
  | .lst e n h => .lst (noT_at e fun _ z => by cases z) n (Dxs.noT h)
  | .dic e => .dic (noT_at e fun _ z => by cases z)
  | .dic1 e => .dic1 (noT_at e fun _ z => by cases z)
theorem Dxs.noT {H : Hp} {vs : List V} {ds : List PyData} : Dxs H vs ds → Dxs (KX.noT H) vs ds
  | .nil => .nil
  | .cons h hs => .cons (Dx.noT h) (Dxs.noT hs)
end
theorem Dx.ext {H H' : Hp} {v : V} {d : PyData} (h : Dx H v d) (e : ExtN H H') : Dx H' v d := (h.noT.up (noT_ext e)).up noT_same
theorem sto_ext {l : Addr} {H H' : Hp} (st : StO H l) (e : ExtN H H') : StO H' l := by
  obtain ⟨x, y, z, el⟩ := st
  exact ⟨x, y, z, e _ _ el fun ps q => by cases q⟩
theorem seq_ext {K : PySem.W.Frag} {H H' : Hp} {a : Addr} {xs : List V} (h : SqL K H a xs) (e : ExtN H H') : SqL K H' a xs := by
  rcases h with (h | ⟨o, h⟩) | h
  · exact .inl (.inl (e _ _ h fun ps q => by cases q))
  · exact .inl (.inr ⟨o, e _ _ h fun ps q => by cases q⟩)
  · exact .inr h
end KX

set_option maxRecDepth 100000
set_option maxHeartbeats 1000000
namespace KX
open PySem PySem.Spec PyProof.Rows L2 LamX
/-! ### a callee that doesn't get the list at p: it leaves it, and what it makes doesn't hold it -/
def frameL (sp : Sp) : Sp := fun vs H Q E => ∃ p xs, H p = some (.lst xs) ∧ sp vs (hid p H) (fun v H' => H' p = none → Q v (upd H' p (.lst xs))) E
section
variable {P : Program} {w : World} {K : PySem.W.Frag} {mg : Str → Option Value} {base : Heap} {k : Nat} {f : Addr} {fd : FuncData} {ps : List Str} {sp : Sp}
theorem hok_hid {H : Hp} {h : Heap} {p : Addr} {xs : List V} (ok : HOk P w H h) (e : H p = some (.lst xs)) : HOk P w (hid p H) h := fun b o q => by
  obtain ⟨n, q⟩ := hid_some q
  refine (ok b o q).stay (fun _ _ _ z => z) (fun c z => ?_) fun c ys z => ?_
  · rw [hid_at (fun y => by rw [y, e] at z; cases z)]
    exact z
  · rw [hid_at (fun y => by rw [y, e] at z; cases z)]
    exact z
theorem hok_back {H : Hp} {h : Heap} {p : Addr} {xs : List V} (ok : HOk P w H h) (n : H p = none) (x : ObjOk P w H h p (.lst xs)) : HOk P w (upd H p (.lst xs)) h := fun b o q => by
  by_cases hb : b = p
  · subst hb
    rw [upd_same] at q
    cases q
    exact x
  · rw [upd_ne hb] at q
    refine (ok b o q).stay (fun _ _ _ z => z) (fun c z => ?_) fun c ys z => ?_
    · rw [upd_ne (ne_of_none z n)]
      exact z
    · rw [upd_ne (ne_of_none z n)]
      exact z
theorem FnOk.frame (F : FnOk P w K mg base CX0 k f fd ps sp) : FnOk P w K mg base CX0 k f fd ps (frameL sp) := by
  refine ⟨fun vs H Q E h => ?_, fun A outer s H args us vs Q E hr e0 hb hv h => ?_⟩
  · obtain ⟨p, xs, _, h⟩ := h
    exact F.len _ _ _ _ h
  · obtain ⟨p, xs, e, h⟩ := h
    have nf : p ∉ frs outer := fun z => by
      rw [e0.frf p z] at e
      cases e
    have e1 : Env0 P w K mg base A outer s (hid p H) := ⟨e0.frames, e0.mod, fun b o z => ⟨(e0.bs b o z).1, by
      unfold hid
      split
      · rfl
      · exact (e0.bs b o z).2⟩, e0.bsz, e0.funs, fun b z => by
      unfold hid
      split
      · rfl
      · exact e0.frf b z, hok_hid e0.hok e, e0.bare⟩
    refine codeAny_mono (F.run A outer s (hid p H) args us vs _ E hr e1 hb hv h) fun r s' hq => ?_
    match r, hq with
    | .ok (.ret u), hq =>
      obtain ⟨v, H', os, bare, un, hok, r, q⟩ := hq
      have hn : hid p H p = none := if_pos rfl
      have x0 := e0.hok p _ e
      obtain ⟨ob, ho⟩ : ∃ ob, s.heap.get? p = some ob := by
        obtain ⟨_, its, n, _, z⟩ := x0
        exact ⟨_, z⟩
      have hp : H' p = none := un.free p ob ho hn (by simp)
      have kp := un.keep p ob ho hn nf (by simp)
      have x1 : ObjOk P w H' s'.heap p (.lst xs) := by
        obtain ⟨z, its, n, r, z2⟩ := x0
        rw [ho] at z2
        cases z2
        exact ⟨z, its, n, r, kp⟩
      have cs : ∀ {b : Addr} {o : HO}, H b = some o → (∀ ys, o ≠ .lst ys) → hid p H b = some o ∧ b ≠ p := fun {b o} z n => by
        have ne : b ≠ p := fun y => by
          rw [y, e] at z
          cases z
          exact n _ rfl
        exact ⟨by rw [hid_at ne]; exact z, ne⟩
      refine ⟨v, upd H' p (.lst xs), os, bare, ⟨fun b o z n => un.keep b o z (by unfold hid; split <;> first | rfl | exact n), fun b o z n => un.slot b o z (by unfold hid; split <;> first | rfl | exact n), fun b o z n nx => ?_, un.there, fun b ys z => ?_, fun b o u z => ?_, fun b us z => ?_⟩, hok_back hok hp x1, r, q hp⟩
      · have ne : b ≠ p := fun y => by
          rw [y, e] at n
          cases n
        rw [upd_ne ne]
        exact un.free b o z (by rw [hid_at ne]; exact n) nx
      · obtain ⟨c1, c2⟩ := cs z (fun _ y => by cases y)
        rw [upd_ne c2]
        exact un.tups b ys c1
      · obtain ⟨c1, c2⟩ := cs z (fun _ y => by cases y)
        rw [upd_ne c2]
        exact un.frzs b o u c1
      · obtain ⟨c1, c2⟩ := cs z (fun _ y => by cases y)
        rw [upd_ne c2]
        exact un.tbls b us c1
    | .error e, hq => exact (show False from hq).elim
end
/-- the values that a comprehension has made so far, beside the stream -/
theorem hid_comm {a b : Addr} {H : Hp} : hid a (hid b H) = hid b (hid a H) := by
  funext c
  unfold hid
  by_cases h1 : c = a <;> by_cases h2 : c = b <;> simp [h1, h2]
theorem hid_upd {p : Addr} {H : Hp} {o : HO} (n : H p = none) : hid p (upd H p o) = H := by
  funext c
  by_cases h : c = p
  · subst h
    unfold hid
    rw [if_pos rfl, n]
  · rw [hid_at h, upd_ne h]
/-- the law's call, the tables by what the top says -/
theorem walkGY {l : PySem.W.OpenLaw} {n k : Nat} {q : Program} {loose : List Str} {XP : (Str → Option Value) → Heap → Prop} {YP : World → Heap → Prop} {d : DefRec} {K : Params → PySem.W.Frag} {x : Str}
    (hn : l.most = some n) (hn2 : n ≤ sizeLine) (hdf : d.params.defaults = []) (hr : Room k callerA) (hY : ∀ (w : World) (h : Heap), YP w h → (K w.params).In h)
    (F : ∀ (w : World) (mg : Str → Option Value) (fa : Addr) (h : Heap), (K w.params).In h → h.Ns mainGlobals mg → mg d.name = some (.ref fa) → YP w h →
      ∃ (fd : FuncData) (cs : List (Addr × Addr)) (sp : Sp), (∀ p ∈ cs, h.get? p.2 = some { cls := .none, data := .fields #[] }) ∧ (∀ p ∈ cs, (K w.params).lookup p.2 = none) ∧ (∀ p ∈ cs, PySem.W.CodeHd h p.1 p.2) ∧ (∀ (s : Shared) (u : Value), BindsTo s fd ⟨[u], []⟩ [(x, u)]) ∧
        (∀ (H : Hp) (a : Addr) (ns : List Int), ns.length ≤ n → (∀ p ∈ cs, H p.2 = some (.tbl #[])) → SqL (K w.params) H a (ns.map V.int) → sp [.ref a] H (fun v _ => v = .bl true) fun _ _ _ => False) ∧
        ∀ base : Heap, (K w.params).In base → base.Ns mainGlobals mg → (∀ p ∈ cs, TabB base mg p.1 p.2) → FnG l.prog w (K w.params) mg base CX0 k fa fd [x] sp) :
    PySem.W.WalkO q loose XP YP l.row.toRowW d [] (fun f vs => PySem.call f vs) := by
  refine Att.attach_callB hn hdf fun w s₀ s₁ mg mb fa o pm cd doc a vs ns G Y ho hd hcd hmg hobj hints hlen hbits hg => ?_
  have KX := hY w _ Y
  obtain ⟨fd, cs, sp, hT, nT, C, hb, hsp, hF⟩ := F w mg fa _ KX G.T.g hmg Y
  exact lawGT KX G.T.g G.T.b G.T.builtins G.T.nolimit hg hT nT C G.T.bmain hobj hints (Nat.le_trans hlen hn2) hr hF hb fun H hH hS => hsp H a ns hlen hH hS
end KX

set_option maxRecDepth 100000
set_option maxHeartbeats 1000000
/-! any data against a text: ==, and in a tuple of texts -/
namespace KX
open PySem PySem.Spec PyProof.Rows L2
section
open MeetsSeq MeetsSeq2 MeetsSeq3 SeqRoads2 SeqAt
variable {A : Around} {s : Shared}
theorem rc_dict_str {l : Addr} {o : Obj} {es : Array DictEntry} {ep : Nat} (b : Str) (u : Tok) (ho : s.heap.get? l = some o) (hc : o.cls = .type "dict") (hd : o.data = .dict es ep) (hu : A.units < cLine) : SeqAt.RcAt A s (.ref l) (.str b u) false := fun prog w E Q h => by
  obtain ⟨cls, dd, data, sl⟩ := o
  simp only at hc hd
  subst hc hd
  exact rc_eq_decline_or (k := false) ⟨_, ho, rfl⟩ (typeIs_str s b u) (by decide) PySem.F.sub_str_dict PySem.F.slot_dict_eq PySem.F.slot_str_eq_refl
    (fun _ hq => call_meets PySem.F.slot_dict_eq ⟨_, ho, rfl⟩ PySem.F.entry_dict_eq (PySem.F.args_dict_eq_2 _ _) (dict_eq_declines_str b u l es ep dd sl) ⟨ho, hq⟩)
    (fun _ hq => call_meets PySem.F.slot_str_eq_refl (typeIs_str s b u) PySem.F.entry_str_eq (PySem.F.args_str_eq_2 _ _) (str_eq_declines_dict b u l es ep dd sl) ⟨ho, hq⟩)
    (fun _ hq => wpAny_of_eq (rfl : isSame (.ref l) (.str b u) = pure false) hq) (.inr hu) h
end
section
variable {X : Cx}
theorem dic_at {pins : List (Addr × Obj)} {σ : L2.St} {H : Hp} {s : Shared} {a : Addr} {kvs : List (Key × V)} (I : Inv X pins σ H s) (e : H a = some (.dK kvs)) : ∃ o es ep, s.heap.get? a = some o ∧ o.cls = .type "dict" ∧ o.data = .dict es ep := by
  obtain ⟨_, _, _, _, o, es, ep, e1, ex, ed, _⟩ := (show ObjOk X.prog X.w H s.heap a (.dK kvs) from I.hok a _ e)
  exact ⟨o, es, ep, e1, ex.1, ed⟩
/-- the data d is the text n -/
def isSt (n : Str) : PyData → Bool
  | .str m => decide (m = n)
  | _ => false
theorem isSt_is {n : Str} {d : PyData} (h : isSt n d = true) : d = .str n := by
  cases d with
  | str m => rw [of_decide_eq_true h]
  | _ => cases h
theorem rc_data_str {pins : List (Addr × Obj)} {σ : L2.St} {H : Hp} {s : Shared} {A : Around} {x : V} {d : PyData} {v : Value} {n : Str} {u : Tok} (I : Inv X pins σ H s) (hd : Dx H x d) (r : RelV x v) (hu : A.units < cLine) : SeqAt.RcAt A s v (.str n u) (isSt n d) := by
  cases hd with
  | non =>
    cases r
    exact SeqAt.RcAt.none_str n u
  | bl b =>
    cases r
    exact SeqAt.RcAt.bool_str b n u
  | int i =>
    obtain ⟨t, rfl⟩ := (show ∃ t, v = Value.int i t from r)
    exact SeqAt.RcAt.int_str i t n u
  | str y =>
    obtain ⟨t, rfl⟩ := (show ∃ t, v = Value.str y t from r)
    rw [show isSt n (.str y) = (y == n) by
      show decide (y = n) = (y == n)
      by_cases h : y = n
      · subst h; simp
      · rw [decide_eq_false h]; symm; simpa using h]
    exact SeqAt.RcAt.str_str y t n u
  | @tup a xs ds e h =>
    cases (show v = Value.ref a from r)
    obtain ⟨its, r1, p1, _⟩ := I.tuple (show SqT X.K H a xs from .inl (.inl e))
    exact SeqAt.RcAt.tuple_str n u p1 hu
  | @lst a xs ds e _ h =>
    cases (show v = Value.ref a from r)
    obtain ⟨_, its, k, _, z⟩ := (show ObjOk X.prog X.w H s.heap a (.lst xs) from I.hok a _ e)
    exact SeqAt.RcAt.list_str n u ⟨_, z, rfl, _, rfl⟩ hu
  | @dic a e =>
    cases (show v = Value.ref a from r)
    obtain ⟨o, es, ep, h1, h2, h3⟩ := dic_at I e
    exact rc_dict_str n u h1 h2 h3 hu
  | @dic1 a _ _ e =>
    cases (show v = Value.ref a from r)
    obtain ⟨o, es, ep, h1, h2, h3⟩ := dic_at I e
    exact rc_dict_str n u h1 h2 h3 hu
theorem eq_str_data {pins : List (Addr × Obj)} {σ : L2.St} {H : Hp} {s : Shared} {A : Around} {x : V} {d : PyData} {v : Value} {n : Str} {u : Tok} (I : Inv X pins σ H s) (hd : Dx H x d) (r : RelV x v) (hu : A.units < cLine) : SeqAt.EqAt A s (.str n u) v (isSt n d) := by
  cases hd with
  | non =>
    cases r
    exact SeqAt.EqAt.str_none n u
  | bl b =>
    cases r
    exact SeqAt.EqAt.str_bool n u b
  | int i =>
    obtain ⟨t, rfl⟩ := (show ∃ t, v = Value.int i t from r)
    exact SeqAt.EqAt.str_int n u i t
  | str y =>
    obtain ⟨t, rfl⟩ := (show ∃ t, v = Value.str y t from r)
    rw [show isSt n (.str y) = (n == y) by
      show decide (y = n) = (n == y)
      by_cases h : y = n
      · subst h; simp
      · rw [decide_eq_false h]; symm; simpa using fun z : n = y => h z.symm]
    exact SeqAt.EqAt.str_str n u y t
  | @tup a xs ds e h =>
    cases (show v = Value.ref a from r)
    obtain ⟨its, r1, p1, _⟩ := I.tuple (show SqT X.K H a xs from .inl (.inl e))
    exact SeqAt.EqAt.str_tuple n u p1 hu
  | @lst a xs ds e _ h =>
    cases (show v = Value.ref a from r)
    obtain ⟨_, its, k, _, z⟩ := (show ObjOk X.prog X.w H s.heap a (.lst xs) from I.hok a _ e)
    exact SeqAt.EqAt.str_list n u ⟨_, z, rfl, _, rfl⟩ hu
  | @dic a e =>
    cases (show v = Value.ref a from r)
    obtain ⟨o, es, ep, h1, h2, h3⟩ := dic_at I e
    exact eq_str_dict n u h1 h2 h3 hu
  | @dic1 a _ _ e =>
    cases (show v = Value.ref a from r)
    obtain ⟨o, es, ep, h1, h2, h3⟩ := dic_at I e
    exact eq_str_dict n u h1 h2 h3 hu
/-- x == 'n', x any data -/
def rEqS : R2 := fun x y H Q => ∃ d n, Dx H x d ∧ y = .str n ∧ Q (.bl (isSt n d)) H
theorem op_eqS (hu : X.A.units < cLine) : OpR X (compareOp .Eq) rEqS := by
  intro pins s σ H x y v u Q I rx ry h
  obtain ⟨d, n, hd, rfl, q⟩ := h
  obtain ⟨t, rfl⟩ := (show ∃ t, u = Value.str n t from ry)
  exact rc_data_str I hd rx hu X.prog X.w X.xe _ ⟨.bl _, H, I, rfl, q⟩
/-- x in t, x not in t: t a tuple of texts, x any data -/
def rInA (K : PySem.W.Frag) (f : Bool → Bool) : R2 := fun x y H Q => ∃ (d : PyData) (t : Addr) (ns : List Str), Dx H x d ∧ y = .ref t ∧ SqT K H t (ns.map V.str) ∧ Q (.bl (f (ns.any fun n => isSt n d))) H
theorem vals_strs : ∀ (ns : List Str) (us : List Value), Vals (ns.map V.str) us → ∀ z ∈ us, ∃ n t, z = Value.str n t := fun ns => by
  induction ns with
  | nil => intro us r z hz; cases r; cases hz
  | cons n ns ih =>
    intro us r z hz
    cases r with
    | cons r1 r2 =>
      rcases List.mem_cons.mp hz with rfl | hz
      · obtain ⟨t, rfl⟩ := r1
        exact ⟨n, t, rfl⟩
      · exact ih _ r2 z hz
def isS (d : PyData) : Value → Bool
  | .str m _ => isSt m d
  | _ => false
theorem any_isS {d : PyData} : ∀ (ns : List Str) (us : List Value), Vals (ns.map V.str) us → us.any (isS d) = ns.any fun n => isSt n d := fun ns => by
  induction ns with
  | nil => intro us r; cases r; rfl
  | cons n ns ih =>
    intro us r
    cases r with
    | cons r1 r2 =>
      obtain ⟨t, rfl⟩ := r1
      rw [List.any_cons, List.any_cons, ih _ r2]
      rfl
theorem op_inA (hu : X.A.units + 64 < cLine) : OpR X (compareOp .In) (rInA X.K id) := by
  intro pins s σ H x y v u Q I rx ry h
  obtain ⟨d, t, ns, hd, rfl, ht, q⟩ := h
  cases ry
  obtain ⟨its, rv, ⟨o, ho, hc, n, hdat⟩, _⟩ := I.tuple ht
  refine SeqAt.in_tupleAt (e := isS d) (hl := ⟨o, ho, hc, n, hdat⟩) (he := fun y hy => ?_) (h := ?_)
  · obtain ⟨m, t, rfl⟩ := vals_strs ns its rv y (by simpa using hy)
    exact eq_str_data I hd rx (by have : X.A.units + 64 < cLine := hu; show X.A.in1.units < cLine; exact Nat.lt_of_le_of_lt (by show X.A.units + 1 ≤ X.A.units + 64; omega) this)
  · have e : its.toArray.any (isS d) = ns.any fun n => isSt n d := by
      rw [← Array.any_toList]
      exact any_isS ns its rv
    rw [e]
    exact ⟨.bl _, H, I, rfl, q⟩
theorem op_ninA (hu : X.A.units + 64 < cLine) : OpR X (compareOp .NotIn) (rInA X.K not) := by
  intro pins s σ H x y v u Q I rx ry h
  obtain ⟨d, t, ns, hd, rfl, ht, q⟩ := h
  cases ry
  obtain ⟨its, rv, ⟨o, ho, hc, n, hdat⟩, _⟩ := I.tuple ht
  refine SeqAt.notIn_tupleAt (e := isS d) (hl := ⟨o, ho, hc, n, hdat⟩) (he := fun y hy => ?_) (h := ?_)
  · obtain ⟨m, t, rfl⟩ := vals_strs ns its rv y (by simpa using hy)
    exact eq_str_data I hd rx (by have : X.A.units + 64 < cLine := hu; show X.A.in1.units < cLine; exact Nat.lt_of_le_of_lt (by show X.A.units + 1 ≤ X.A.units + 64; omega) this)
  · have e : its.toArray.any (isS d) = ns.any fun n => isSt n d := by
      rw [← Array.any_toList]
      exact any_isS ns its rv
    rw [e]
    exact ⟨.bl _, H, I, rfl, q⟩
/-- t == (), t any tuple -/
def rEq0 (K : PySem.W.Frag) : R2 := fun x y H Q => ∃ a b xs, x = .ref a ∧ y = .ref b ∧ SqT K H a xs ∧ SqT K H b [] ∧ Q (.bl xs.isEmpty) H
theorem op_eq0 (hu : X.A.units < cLine) : OpR X (compareOp .Eq) (rEq0 X.K) := by
  intro pins s σ H x y v u Q I rx ry h
  obtain ⟨a, b, xs, rfl, rfl, ha, hb, q⟩ := h
  cases rx
  cases ry
  obtain ⟨its, r1, p1, _⟩ := I.tuple ha
  obtain ⟨its2, r2, p2, _⟩ := I.tuple hb
  cases r2
  have e : ((List.range (min its.toArray.size ([] : List Value).toArray.size)).all (fun _ => true) && its.toArray.size == ([] : List Value).toArray.size) = xs.isEmpty := by
    have := r1.length
    cases xs with
    | nil =>
      cases its with
      | nil => rfl
      | cons _ _ => simp at this
    | cons _ _ =>
      cases its with
      | nil => simp at this
      | cons _ _ => simp
  refine SeqAt.RcAt.tuples (e := fun _ => true) p1 p2 hu (fun j h1 h2 => absurd h2 (by simp)) X.prog X.w X.xe (EP X pins σ Q) ?_
  rw [e]
  exact ⟨.bl _, H, I, rfl, q⟩
end
end KX

set_option maxRecDepth 100000
set_option maxHeartbeats 4000000
namespace Z1
open PySem PySem.Spec PyProof.Rows L2 KX
def clsB : Stmt → List Stmt
  | .ClassDef (body := b) .. => b
  | _ => []
end Z1

set_option maxRecDepth 100000
set_option maxHeartbeats 4000000
namespace Z1
open PySem PySem.Spec PyProof.Rows L2 KX
abbrev sDraw : Stmt := topS 42
abbrev sStream : Stmt := topS 41
def spDraw : Sp := fun vs H Q _ => ∃ (l : Addr) (t : Int), vs = [.ref l, .int t] ∧ StO H l ∧ 0 < t ∧ t < 2 ^ 64 ∧ ∀ H' n, Keep l H H' → StO H' l → 0 ≤ n → n < t → Q (.int n) H'
theorem scDraw : FnScope ["stream", "total", "found", "one", "stir", "two"] ["stream", "total"] (defScope sDraw) := ⟨rfl, rfl, rfl, by decide +kernel, rfl, by decide +kernel, by decide +kernel⟩
theorem i63 {a b c : Int} : atI [V.int a, V.int b, V.int c] 0 = some (V.int a) ∧ atI [V.int a, V.int b, V.int c] 1 = some (V.int b) ∧ atI [V.int a, V.int b, V.int c] 2 = some (V.int c) := ⟨rfl, rfl, rfl⟩
theorem mod_bd {x m : Int} (h : 0 < m) (h2 : m < 2 ^ 64) : -(2 ^ 64) < x % m ∧ x % m < 2 ^ 64 := by
  have a := Int.emod_nonneg x (show m ≠ 0 by omega)
  have b := Int.emod_lt_of_pos x h
  omega
section
variable {P : Program} {w : World} {K : PySem.W.Frag} {mg : Str → Option Value} {base : Heap}
theorem ok_draw {f : Addr} {fd : FuncData} (B : Bl mg) (D : Df K mg "_law_draw" sDraw ["stream", "total"] f fd) : FnOk P w K mg base CX0 1 f fd ["stream", "total"] spDraw := by
  refine D.F.ok scDraw (fun vs H Q E h => ?_) (fun cdv A outer s H vs Q E hr h => ?_)
  · obtain ⟨l, t, rfl, _⟩ := h
    rfl
  · obtain ⟨l, t, rfl, ⟨a, b, c, el⟩, t0, t1, q⟩ := h
    have nd := scDraw.nd
    refine ⟨_, pss_cons (ps_if (pt_cmpR op_gt (pe_ix ix_list (pv 0) pe_int (fun _ _ => rfl)) pe_int (nomark _))
        (pss_cons (ps_set (i := 2) nd rfl (.inl rfl) (pe_op op_mod (pe_ix ix_list (pv 0) pe_int (fun _ _ => rfl)) (pv 1)))
        (pss_cons (ps_asg (pe_op op_fdivW (pe_ix ix_list (pv 0) pe_int (fun _ _ => rfl)) (pv 1)) (pg_sub (pv 0) pe_int set_list))
        (pss_one (ps_ret (pv 2))))) pss_nil)
      (pss_cons (ps_asg (pe_op op_add (pe_ix ix_list (pv 0) pe_int (fun _ _ => rfl)) pe_int) (pg_sub (pv 0) pe_int set_list))
      (pss_cons (ps_set (i := 3) nd rfl (.inl rfl) (pe_op op_mod (pe_op op_add (pe_ix ix_list (pv 0) pe_int (fun _ _ => rfl)) (pe_op op_mul pe_int (pe_ix ix_list (pv 0) pe_int (fun _ _ => rfl)))) pe_int))
      (pss_cons (ps_set (i := 4) nd rfl (.inl rfl) (pe_op op_add (pe_op op_mul (pe_op op_mod (pe_op op_mul (pv 3) (pv 3)) pe_int) (pv 3)) (pe_op op_mul pe_int (pe_ix ix_list (pv 0) pe_int (fun _ _ => rfl)))))
      (pss_cons (ps_set (i := 5) nd rfl (.inl rfl) (pe_op op_mod (pe_op op_add (pv 4) (pe_op op_mod (pe_ix ix_list (pv 0) pe_int (fun _ _ => rfl)) pe_int)) pe_int))
      (pss_one (ps_ret (pe_op op_mod (pe_op op_add (pe_op op_fdiv (pe_op op_mod (pe_op op_mul (pv 5) (pv 5)) pe_int) pe_int)
        (pe_op op_mul (pe_op op_mul (pv 3) pe_int) (pe_callTy call_int1 (by rfl) B.int (by decide +kernel) (pa_cons (pe_cmpR op_gt (pv 1) (pe_op op_pow pe_int pe_int) (nomark _)) pa_nil)))) (pv 1)))))))), ?_⟩
    refine ⟨.ref l, rfl, l, _, 0, .int a, rfl, rfl, .inl (.inl el), rfl, a, 0, rfl, rfl, _, rfl, ite2 (fun h => ?_) fun h => ?_⟩
    · refine ⟨.ref l, rfl, l, _, 0, .int a, rfl, rfl, .inl (.inl el), rfl, .int t, rfl, a, t, rfl, rfl, t0, ?_⟩
      refine ⟨.ref l, rfl, l, _, 0, .int a, rfl, rfl, .inl (.inl el), rfl, .int t, rfl, a, t, rfl, rfl, wide_div (b := 64) t0 (by omega) (by decide) (by decide), ?_⟩
      refine ⟨.ref l, rfl, l, _, 0, 0, rfl, rfl, el, rfl, .int (a % t), rfl, ?_⟩
      exact q _ _ Keep.at ⟨_, _, _, upd_same⟩ (Int.emod_nonneg a (by omega)) (Int.emod_lt_of_pos a t0)
    · refine ⟨.ref l, rfl, l, _, 2, .int c, rfl, rfl, .inl (.inl el), rfl, c, 1, rfl, rfl, .ref l, rfl, l, _, 2, 2, rfl, rfl, el, rfl, ?_⟩
      have e2 : (upd H l (.lst [.int a, .int b, .int (c + 1)])) l = some (.lst [.int a, .int b, .int (c + 1)]) := upd_same
      refine ⟨.ref l, rfl, l, _, 1, .int b, rfl, rfl, .inl (.inl e2), rfl, .ref l, rfl, l, _, 2, .int (c + 1), rfl, rfl, .inl (.inl e2), rfl, 1500450271, c + 1, rfl, rfl, .inl ⟨by decide, by decide⟩,
        b, _, rfl, rfl, _, 4294967279, rfl, rfl, (show (0 : Int) < 4294967279 by decide), ?_⟩
      have o1 := mod_bd (x := b + 1500450271 * (c + 1)) (m := 4294967279) (by decide) (by decide)
      refine ⟨_, rfl, _, rfl, _, _, rfl, rfl, .inl o1, _, 4294967231, rfl, rfl, (show (0 : Int) < 4294967231 by decide), _, rfl, _, _, rfl, rfl, .inr o1,
        .ref l, rfl, l, _, 2, .int (c + 1), rfl, rfl, .inl (.inl e2), rfl, 10007, c + 1, rfl, rfl, .inl ⟨by decide, by decide⟩, _, _, rfl, rfl, ?_⟩
      refine ⟨_, rfl, .ref l, rfl, l, _, 1, .int b, rfl, rfl, .inl (.inl e2), rfl, b, 65537, rfl, rfl, (show (0 : Int) < 65537 by decide), _, _, rfl, rfl, _, 4294967197, rfl, rfl, (show (0 : Int) < 4294967197 by decide), ?_⟩
      have o2 : ∀ x : Int, -(2 ^ 64) < x % 4294967197 ∧ x % 4294967197 < 2 ^ 64 := fun x => mod_bd (x := x) (m := 4294967197) (by decide) (by decide)
      refine ⟨_, rfl, _, rfl, _, _, rfl, rfl, .inl (o2 _), _, 4294967189, rfl, rfl, (show (0 : Int) < 4294967189 by decide), _, 64, rfl, rfl, (show (0 : Int) < 64 ∧ (64 : Int) < 1073741824 by decide), ?_⟩
      refine ⟨_, rfl, _, 67108864, rfl, rfl, .inl o1, .int t, rfl, 10, 6, rfl, rfl, ⟨by decide, by decide, by decide⟩, t, _, rfl, rfl, .inr ⟨_, rfl, ?_⟩⟩
      refine ⟨_, _, rfl, rfl, .inr ?_, _, _, rfl, rfl, .int t, rfl, _, t, rfl, rfl, t0, ?_⟩
      · split <;> decide
      · exact q _ _ Keep.at ⟨_, _, _, upd_same⟩ (Int.emod_nonneg _ (by omega)) (Int.emod_lt_of_pos _ t0)
end
/-! ### _law_stream -/
def spStream (K : PySem.W.Frag) : Sp := fun vs H Q _ => ∃ (a : Addr) (ns : List Int) (k : Int), vs = [.ref a, .int k] ∧ SqL K H a (ns.map V.int) ∧ 0 ≤ k ∧ k ≤ 1000 ∧ ∀ H' p, Same H H' → H p = none → StO H' p → Q (.ref p) H'
theorem scStream : FnScope ["script", "at", "cell", "great"] ["script", "at"] (defScope sStream) := ⟨rfl, rfl, rfl, by decide +kernel, rfl, by decide +kernel, by decide +kernel⟩
section
variable {P : Program} {w : World} {K : PySem.W.Frag} {mg : Str → Option Value} {base : Heap}
theorem ok_stream {f : Addr} {fd : FuncData} (B : Bl mg) (D : Df K mg "_law_stream" sStream ["script", "at"] f fd) : FnOk P w K mg base CX0 1 f fd ["script", "at"] (spStream K) := by
  refine D.F.ok scStream (fun vs H Q E h => ?_) (fun cdv A outer s H vs Q E hr h => ?_)
  · obtain ⟨a, ns, k, rfl, _⟩ := h
    rfl
  · obtain ⟨a, ns, k, rfl, hS, k0, k1, q⟩ := h
    have nd := scStream.nd
    refine ⟨_, pss_cons (ps_set (i := 2) nd rfl (.inl rfl) (pe_op op_add (pe_op op_mul pe_int (pv 1)) pe_int))
      (pss_cons (ps_if (pt_cmpR op_lt (pv 1) (pe_callB call_len_seq (by rfl) B.len PySem.boot_len (pa_cons (pv 0) pa_nil)) (nomark _))
        (pss_one (ps_set (i := 2) nd rfl (.inl rfl) (pe_ix ix_list (pv 0) (pv 1) (fun _ _ => rfl)))) pss_nil)
      (pss_cons (ps_set (i := 3) nd rfl (.inl rfl) (pe_op op_mod (pe_callB call_abs (by rfl) B.abs (by decide +kernel) (pa_cons (pv 2) pa_nil)) (pe_op op_powW (pe_op op_pow pe_int pe_int) pe_int)))
      (pss_one (ps_ret (pe_lst (pa_cons (pe_callB (call_max2 rfl) (by rfl) B.max (by decide +kernel) (pa_cons pe_int (pa_cons (pe_op op_sub (pv 3) (pe_op op_pow pe_int pe_int)) pa_nil)))
        (pa_cons (pe_op op_mod (pe_op op_add (pe_op op_add (pe_op op_add (pe_op op_mul (pv 3) pe_int) (pe_op op_mul pe_int (pv 1))) (pe_op op_mul pe_int (pe_callTy call_int1 (by rfl) B.int (by decide +kernel) (pa_cons (pe_cmpR op_lt (pv 2) pe_int (nomark _)) pa_nil)))) pe_int) pe_int)
        (pa_cons pe_int pa_nil)))))))), ?_⟩
    refine ⟨.int k, rfl, 5, k, rfl, rfl, .inl ⟨by decide, by decide⟩, _, 3, rfl, rfl, ?_⟩
    have c1 : (0 : Int) ≤ 60 ∧ (60 : Int) ≤ 1000000 ∧ (10 : Int).natAbs < 2 ^ 64 := by decide
    have c2 : (0 : Int) ≤ 12 ∧ ((Builtin.Int.intBits ((10 : Int) ^ (60 : Int).toNat) : Nat) : Int) * 12 ≤ 2 ^ 27 := by decide +kernel
    have c3 : (0 : Int) < ((10 : Int) ^ (60 : Int).toNat) ^ (12 : Int).toNat := by decide +kernel
    have c4 : (0 : Int) ≤ 17 ∧ (17 : Int) ≤ 1000000 ∧ (10 : Int).natAbs < 2 ^ 64 := by decide
    have c5 : (0 : Int) < 4294967291 := by decide
    refine ⟨.int k, rfl, .ref a, rfl, a, _, rfl, .inl hS, k, _, rfl, rfl, _, rfl, ite2 (fun h => ?_) (fun h => ?_)⟩
    · have hk : k < (ns.map V.int).length := of_decide_eq_true h
      rw [List.length_map] at hk
      have hk2 : k.toNat < ns.length := by omega
      refine ⟨.ref a, rfl, .int k, rfl, a, _, k, .int ns[k.toNat], rfl, rfl, hS, ?_, ?_⟩
      · have e : ((k.toNat : Nat) : Int) = k := by omega
        have z : atI (ns.map V.int) ((k.toNat : Nat) : Int) = some (.int ns[k.toNat]) := atI_nat (by
          rw [List.getElem?_map, List.getElem?_eq_getElem hk2]
          rfl)
        rw [e] at z
        exact z
      · refine ⟨_, rfl, _, rfl, 10, 60, rfl, rfl, c1, _, 12, rfl, rfl, c2, _, _, rfl, rfl, c3, ?_⟩
        refine ⟨_, rfl, 10, 17, rfl, rfl, c4, _, _, rfl, rfl, _, _, rfl, ?_⟩
        refine ⟨_, rfl, _, 9576890767, rfl, rfl, .inr ⟨by decide, by decide⟩, .int k, rfl, 611953, k, rfl, rfl, .inl ⟨by decide, by decide⟩, _, _, rfl, rfl, ?_⟩
        refine ⟨_, rfl, _, 0, rfl, rfl, .inr ⟨_, rfl, 2, _, rfl, rfl, .inl ⟨by decide, by decide⟩, _, _, rfl, rfl, _, 7, rfl, rfl, _, _, rfl, rfl, c5, ?_⟩⟩
        refine ⟨by show 3 ≤ sizeLine; decide, fun p np => ?_⟩
        exact q _ p (same_new np) np ⟨_, _, _, upd_same⟩
    · refine ⟨_, rfl, _, rfl, 10, 60, rfl, rfl, c1, _, 12, rfl, rfl, c2, _, _, rfl, rfl, c3, ?_⟩
      refine ⟨_, rfl, 10, 17, rfl, rfl, c4, _, _, rfl, rfl, _, _, rfl, ?_⟩
      refine ⟨_, rfl, _, 9576890767, rfl, rfl, .inr ⟨by decide, by decide⟩, .int k, rfl, 611953, k, rfl, rfl, .inl ⟨by decide, by decide⟩, _, _, rfl, rfl, ?_⟩
      refine ⟨_, rfl, _, 0, rfl, rfl, .inr ⟨_, rfl, 2, _, rfl, rfl, .inl ⟨by decide, by decide⟩, _, _, rfl, rfl, _, 7, rfl, rfl, _, _, rfl, rfl, c5, ?_⟩⟩
      refine ⟨by show 3 ≤ sizeLine; decide, fun p np => ?_⟩
      exact q _ p (same_new np) np ⟨_, _, _, upd_same⟩
end
end Z1

namespace Z1
open PySem PySem.Spec PyProof.Rows L2 KX
abbrev sNm : Stmt := topS 43
/-! ### _law_name -/
def baseL (n : Nat) : List Nat := [97 + n / 2 % 26] ++ (if n % 2 = 1 then [97] else []) ++ (if n > 51 then [97 + n / 52] else [])
def Lets (l : List Nat) : Prop := ∀ c ∈ l, 97 ≤ c ∧ c ≤ 122
def NameOf (n : Nat) (x : Str) : Prop := ∃ suf : List Nat, x.cps.toList = baseL n ++ suf ∧ Lets suf ∧ (suf.length = 0 ∨ (n % 2 = 1 ∧ n < 52 ∧ (suf.length = 2 ∨ suf.length = 6)))
theorem abc_at : ∀ i : Nat, i < 26 → abc.cps.toList[i]? = some (97 + i) := by decide +kernel
theorem abc_has : ∀ c : Nat, 97 ≤ c → c ≤ 122 → c ∈ abc.cps.toList := fun c h1 h2 => by
  have h := abc_at (c - 97) (by omega)
  rw [show 97 + (c - 97) = c by omega] at h
  exact List.mem_of_getElem? h
theorem abc_len : abc.length ≤ sizeLine := by decide +kernel
theorem app_cps (x y : Str) : (x ++ y).cps.toList = x.cps.toList ++ y.cps.toList := by
  show (x.cps ++ y.cps).toList = _
  simp
theorem base_cps (a b : Nat) (p q : Prop) [Decidable p] [Decidable q] : (((⟨#[a]⟩ : Str) ++ (if p then ("a" : Str) else "")) ++ (if q then (⟨#[b]⟩ : Str) else "")).cps.toList = [a] ++ (if p then [97] else []) ++ (if q then [b] else []) := by
  rw [app_cps, app_cps]
  by_cases hp : p
  · rw [if_pos hp, if_pos hp]
    by_cases hq : q
    · rw [if_pos hq, if_pos hq]; rfl
    · rw [if_neg hq, if_neg hq]; rfl
  · rw [if_neg hp, if_neg hp]
    by_cases hq : q
    · rw [if_pos hq, if_pos hq]; rfl
    · rw [if_neg hq, if_neg hq]; rfl
theorem b2i_one {c : Prop} [Decidable c] : ((if decide c = true then (1 : Int) else 0) = 1) ↔ c := by
  by_cases h : c
  · rw [decide_eq_true h, if_pos rfl]; simp [h]
  · rw [decide_eq_false h, if_neg (by decide)]; simp [h]
theorem len_cps (x : Str) : x.length = x.cps.toList.length := by simp [Str.length]
def spNm : Sp := fun vs H Q _ => ∃ (l : Addr) (n : Nat), vs = [.ref l, .int (n : Int)] ∧ StO H l ∧ n < 61 ∧ ∀ H' x, Keep l H H' → StO H' l → NameOf n x → Q (.str x) H'
theorem scNm : FnScope ["stream", "at", "letters", "name", "turn"] ["stream", "at"] (defScope sNm) := ⟨rfl, rfl, rfl, by decide +kernel, rfl, by decide +kernel, by decide +kernel⟩
section
variable {P : Program} {w : World} {K : PySem.W.Frag} {mg : Str → Option Value} {base : Heap}
theorem ok_nm {f fD : Addr} {fd fdD : FuncData} (B : Bl mg) (D : Df K mg "_law_name" sNm ["stream", "at"] f fd) (DD : Df K mg "_law_draw" sDraw ["stream", "total"] fD fdD) : FnOk P w K mg base CX0 2 f fd ["stream", "at"] spNm := by
  have GD : FnOk P w K mg base CX0 1 fD fdD _ spDraw := ok_draw B DD
  refine D.F.ok scNm (fun vs H Q E h => ?_) (fun cdv A outer s H vs Q E hr h => ?_)
  · obtain ⟨l, n, rfl, _⟩ := h
    rfl
  · obtain ⟨l, n, rfl, hs, hn, q⟩ := h
    have nd := scNm.nd
    refine ⟨_, pss_cons (ps_set (i := 2) nd rfl (.inl rfl) pe_str)
      (pss_cons (ps_set (i := 3) nd rfl (.inl rfl) (pe_op op_add_str (pe_op op_add_str (pe_ix ix_str (pv 2) (pe_op op_mod (pe_op op_fdiv (pv 1) pe_int) pe_int) (fun _ _ => rfl))
          (pe_ix ix_list (pe_lst (pa_cons pe_str (pa_cons pe_str pa_nil))) (pe_op op_mod (pv 1) pe_int) (fun _ _ => rfl)))
          (pe_op op_mul_s (pe_ix ix_str (pv 2) (pe_op op_fdiv (pv 1) pe_int) (fun _ _ => rfl)) (pe_callTy call_int1 (by rfl) B.int (by decide +kernel) (pa_cons (pe_cmpR op_gt (pv 1) pe_int (nomark _)) pa_nil)))))
      (pss_cons (ps_for PassesOwn.never rfl (pi_range1 (by rfl) B.range (pa_cons (pe_op op_mul (pe_op op_mul (pe_ix ix_list (pe_lst (pa_cons pe_int (pa_cons pe_int (pa_cons pe_int (pa_cons pe_int pa_nil)))))
              (pe_call GD hr (by rfl) DD.g DD.F.kp DD.b .nil pass0 (pa_cons (pv 0) (pa_cons pe_int pa_nil))) (fun _ _ => rfl))
              (pe_callTy call_int1 (by rfl) B.int (by decide +kernel) (pa_cons (pe_op op_mod (pv 1) pe_int) pa_nil)))
              (pe_callTy call_int1 (by rfl) B.int (by decide +kernel) (pa_cons (pe_cmpR op_lt (pv 1) pe_int (nomark _)) pa_nil))) pa_nil))
          (pg_name (i := 4) nd rfl (.inl rfl))
          (pss_one (ps_set (i := 3) nd rfl (.inl rfl) (pe_op op_add_str (pv 3) (pe_ix ix_str (pv 2) (pe_call GD hr (by rfl) DD.g DD.F.kp DD.b .nil pass0 (pa_cons (pv 0) (pa_cons pe_int pa_nil))) (fun _ _ => rfl))))))
      (pss_one (ps_ret (pv 3))))), ?_⟩
    have c26 : (0 : Int) < 26 := by decide
    have c2 : (0 : Int) < 2 ∧ (2 : Int) < 1073741824 := by decide
    have c52 : (0 : Int) < 52 ∧ (52 : Int) < 1073741824 := by decide
    have e1 : atI abc.cps.toList (((n : Int) / 2) % 26) = some (97 + n / 2 % 26) := by
      have := atI_nat (abc_at (n / 2 % 26) (by omega))
      rw [show (((n / 2 % 26 : Nat)) : Int) = ((n : Int) / 2) % 26 by omega] at this
      exact this
    have e2 : atI abc.cps.toList ((n : Int) / 52) = some (97 + n / 52) := by
      have := atI_nat (abc_at (n / 52) (by omega))
      rw [show (((n / 52 : Nat)) : Int) = (n : Int) / 52 by omega] at this
      exact this
    refine ⟨_, rfl, .int (n : Int), rfl, n, 2, rfl, rfl, c2, _, 26, rfl, rfl, c26, abc, _, _, rfl, rfl, abc_len, e1, ?_⟩
    refine ⟨by show 2 ≤ sizeLine; decide, fun p np => ?_⟩
    have h1 := hs.new (o := .lst [.str "", .str "a"]) np
    have e3 : atI [V.str "", V.str "a"] ((n : Int) % 2) = some (.str (if n % 2 = 1 then "a" else "")) := by
      rcases Nat.mod_two_eq_zero_or_one n with z | z
      · rw [if_neg (by omega), show (n : Int) % 2 = ((0 : Nat) : Int) by omega]
        rfl
      · rw [if_pos z, show (n : Int) % 2 = ((1 : Nat) : Int) by omega]
        rfl
    refine ⟨.int (n : Int), rfl, n, 2, rfl, rfl, (show (0 : Int) < 2 by decide), p, _, _, _, rfl, rfl, .inl (.inl upd_same), e3, _, _, rfl, rfl, ?_, ?_⟩
    · have : ((if n % 2 = 1 then ("a" : Str) else "") : Str).length ≤ 1 := by split <;> decide
      have h2 : (⟨#[97 + n / 2 % 26]⟩ : Str).length = 1 := rfl
      have hb : (2 : Nat) < sizeLine := by decide
      omega
    · refine ⟨_, rfl, .int (n : Int), rfl, n, 52, rfl, rfl, c52, abc, _, _, rfl, rfl, abc_len, e2, ?_⟩
      refine ⟨.int (n : Int), rfl, n, 51, rfl, rfl, .inr ⟨_, rfl, _, _, rfl, rfl, ?_, ?_⟩⟩
      · split <;> simp
      · have eb : (((⟨#[97 + n / 2 % 26]⟩ : Str) ++ (if n % 2 = 1 then ("a" : Str) else "")) ++ (if (if decide ((51 : Int) < (n : Int)) = true then (1 : Int) else 0) = 1 then (⟨#[97 + n / 52]⟩ : Str) else "")).cps.toList = baseL n := by
          rw [base_cps]
          unfold baseL
          congr 1
          by_cases z : n > 51
          · rw [if_pos z, if_pos (b2i_one.mpr (by omega))]
          · rw [if_neg z, if_neg (fun h => z (by have := b2i_one.mp h; omega))]
        have lb : (baseL n).length ≤ 3 := by
          unfold baseL
          split <;> split <;> simp
        refine ⟨_, _, rfl, rfl, ?_, ?_⟩
        · have k1 := len_cps ((((⟨#[97 + n / 2 % 26]⟩ : Str) ++ (if n % 2 = 1 then ("a" : Str) else "")) ++ (if (if decide ((51 : Int) < (n : Int)) = true then (1 : Int) else 0) = 1 then (⟨#[97 + n / 52]⟩ : Str) else "")))
          rw [eb, strLen_append] at k1
          have hb : (3 : Nat) < sizeLine := by decide
          omega
        · generalize hX : (((⟨#[97 + n / 2 % 26]⟩ : Str) ++ (if n % 2 = 1 then ("a" : Str) else "")) ++ (if (if decide ((51 : Int) < (n : Int)) = true then (1 : Int) else 0) = 1 then (⟨#[97 + n / 52]⟩ : Str) else "")) = X0 at eb ⊢
          refine ⟨by show 4 ≤ sizeLine; decide, fun p2 np2 => ?_⟩
          have h2 := h1.new (o := .lst [.int 0, .int 0, .int 2, .int 6]) np2
          refine ⟨.ref l, rfl, l, 4, rfl, h2, by decide, by decide, fun H2 d kd sd d0 d4 => ?_⟩
          have e4 : ∃ m : Nat, atI [V.int 0, V.int 0, V.int 2, V.int 6] d = some (.int (m : Int)) ∧ (m = 0 ∨ m = 2 ∨ m = 6) := by
            have : d = 0 ∨ d = 1 ∨ d = 2 ∨ d = 3 := by omega
            rcases this with rfl | rfl | rfl | rfl
            · exact ⟨0, rfl, by simp⟩
            · exact ⟨0, rfl, by simp⟩
            · exact ⟨2, rfl, by simp⟩
            · exact ⟨6, rfl, by simp⟩
          obtain ⟨m, em, hm⟩ := e4
          have pl : H2 p2 = some _ := kd _ _ (h1.ne np2) upd_same
          refine ⟨p2, _, d, _, rfl, rfl, .inl (.inl pl), em, .int (n : Int), rfl, n, 2, rfl, rfl, (show (0 : Int) < 2 by decide), .inl ⟨_, rfl, m, _, rfl, rfl, .inl ?_, ?_⟩⟩
          · omega
          · refine ⟨.int (n : Int), rfl, n, 52, rfl, rfl, .inr ⟨_, rfl, _, _, rfl, rfl, .inr ?_, ?_⟩⟩
            · split <;> decide
            · have hj : ∃ j : Nat, ((m : Int) * ((n : Int) % 2)) * (if decide ((n : Int) < 52) = true then (1 : Int) else 0) = (j : Int) ∧ (j = 0 ∨ (n % 2 = 1 ∧ n < 52 ∧ (j = 2 ∨ j = 6))) := by
                by_cases z : (n : Int) < 52
                · rw [decide_eq_true z, if_pos rfl, Int.mul_one]
                  rcases Nat.mod_two_eq_zero_or_one n with y | y
                  · exact ⟨0, by rw [show (n : Int) % 2 = 0 by omega]; simp, .inl rfl⟩
                  · refine ⟨m, by rw [show (n : Int) % 2 = 1 by omega]; simp, ?_⟩
                    rcases hm with h | h | h
                    · exact .inl h
                    · exact .inr ⟨y, by omega, .inl h⟩
                    · exact .inr ⟨y, by omega, .inr h⟩
                · rw [decide_eq_false z, if_neg (by decide), Int.mul_zero]
                  exact ⟨0, rfl, .inl rfl⟩
              obtain ⟨j, ej, hj⟩ := hj
              refine ⟨_, rfl, ?_, ?_, ?_⟩
              · show (-(2 ^ 62) : Int) ≤ _
                rw [ej]
                omega
              · show (_ : Int) < 2 ^ 62
                rw [ej]
                omega
              · have st1 : StO H2 l := sd
                have kp1 : Keep l H H2 := (((Keep.refl l H).new np).new np2).trans kd
                refine for_range (lo := 0) (n := Int.toNat _) (fun i σ G => Keep l H G ∧ StO G l ∧ ∃ (x : Str) (suf : List Nat) (tv : Option V), σ = [some (.ref l), some (.int n), some (.str abc), some (.str x), tv] ∧ x.cps.toList = baseL n ++ suf ∧ Lets suf ∧ suf.length = i)
                  ⟨kp1, st1, X0, [], none, rfl, by rw [eb, List.append_nil], fun c hc => absurd hc (by simp), rfl⟩ (fun i σ G hi hp => ?_) (fun σ G hp => ?_)
                · obtain ⟨kp, st, x, suf, tv, rfl, ex, hl, hi2⟩ := hp
                  have hi3 : i < j := by
                    have h := hi
                    rw [show Int.toNat _ = j from congrArg Int.toNat ej] at h
                    exact h
                  refine ⟨.str x, rfl, _, rfl, .ref l, rfl, l, 26, rfl, st, by decide, by decide, fun G2 d2 kd2 sd2 d20 d26 => ?_⟩
                  have e5 : atI abc.cps.toList d2 = some (97 + d2.toNat) := by
                    have := atI_nat (abc_at d2.toNat (by omega))
                    rw [show ((d2.toNat : Nat) : Int) = d2 by omega] at this
                    exact this
                  refine ⟨abc, _, _, rfl, rfl, abc_len, e5, x, _, rfl, rfl, ?_, kp.trans kd2, sd2, _, suf ++ [97 + d2.toNat], _, rfl, ?_, ?_, ?_⟩
                  · have k1 := len_cps x
                    rw [ex, List.length_append] at k1
                    have k2 : (⟨#[97 + d2.toNat]⟩ : Str).length = 1 := rfl
                    have hb : (20 : Nat) < sizeLine := by decide
                    omega
                  · rw [app_cps, ex, List.append_assoc]
                  · intro c hc
                    rcases List.mem_append.mp hc with hc | hc
                    · exact hl c hc
                    · have : c = 97 + d2.toNat := by simpa using hc
                      omega
                  · rw [List.length_append, hi2]
                    rfl
                · obtain ⟨kp, st, x, suf, tv, rfl, ex, hl, hi2⟩ := hp
                  have hi3 : suf.length = j := hi2.trans (congrArg Int.toNat ej)
                  refine ⟨_, rfl, q G x kp st ⟨suf, ex, hl, ?_⟩⟩
                  rw [hi3]
                  exact hj
end
theorem name_ok {n : Nat} {x : Str} (hn : n < 61) (h : NameOf n x) : nameD (.str x) = true ∧ x.length ≤ 8 := by
  obtain ⟨suf, ex, hl, hs⟩ := h
  have hb : (baseL n).length = 1 + (if n % 2 = 1 then 1 else 0) + (if n > 51 then 1 else 0) := by
    unfold baseL
    split <;> split <;> simp
  have lx := len_cps x
  rw [ex, List.length_append, hb] at lx
  have h8 : 1 ≤ x.length ∧ x.length ≤ 8 := by
    split at lx <;> split at lx <;> omega
  refine ⟨?_, h8.2⟩
  have all : letD x = true := by
    unfold letD
    rw [ex, List.all_eq_true]
    intro c hc
    refine decide_eq_true (abc_has c ?_ ?_)
    all_goals
      rcases List.mem_append.mp hc with hc | hc
      · unfold baseL at hc
        split at hc <;> split at hc <;> simp at hc <;> omega
      · have := hl c hc
        omega
  show ((decide (1 ≤ (x.length : Int)) && decide ((x.length : Int) ≤ 8)) && letD x) = true
  rw [all, decide_eq_true (by omega), decide_eq_true (by omega)]
  rfl
end Z1

set_option maxRecDepth 100000
set_option maxHeartbeats 4000000
namespace KX
open PySem PySem.Spec PyProof.Rows L2
/-- what is seen but for two addresses -/
def view (l q : Addr) (H : Hp) : Hp := hid q (hid l H)
theorem view_at {l q b : Addr} {H : Hp} (h : b ≠ l) (h' : b ≠ q) : view l q H b = H b := by
  unfold view
  rw [hid_at h', hid_at h]
theorem view_same {l q : Addr} {H H' : Hp} (k : ∀ b o, b ≠ l → b ≠ q → H b = some o → H' b = some o) : Same (view l q H) (view l q H') := fun b o e => by
  obtain ⟨n, e⟩ := hid_some e
  obtain ⟨n', e⟩ := hid_some e
  rw [view_at n' n]
  exact k b o n' n e
theorem view_keep {l q : Addr} {H H' : Hp} (k : Keep l H H') : Same (view l q H) (view l q H') := view_same fun b o n _ e => k b o n e
theorem view_tup {l q p : Addr} {H : Hp} {xs : List V} {ds : List PyData} (n : H p = none) (hl : p ≠ l) (hq : p ≠ q) (h : Dxs (view l q H) xs ds) : Dx (view l q (L2.upd H p (.tup xs))) (.ref p) (.tuple ds) :=
  .tup (by rw [view_at hl hq]; exact upd_same) (h.up (view_keep ((Keep.refl l H).new n)))
theorem Keep.to {l : Addr} {H H' : Hp} {b : Addr} {o : HO} (k : Keep l H H') (n : b ≠ l) (e : H b = some o) : H' b = some o := k b o n e
end KX
namespace Z1
open PySem PySem.Spec PyProof.Rows L2 KX
abbrev sRs : Stmt := topS 44
/-! ### _law_rowset -/
structure Rec where
  nm : Str
  cost : Int
  vals : List Int
  exp : Int
def encR (r : Rec) : PyData := .tuple [.str r.nm, .int r.cost, .tuple (r.vals.map .int), .int r.exp]
structure RecOk (w n : Nat) (r : Rec) : Prop where
  nm : NameOf n r.nm
  c0 : 1 ≤ r.cost
  c1 : r.cost ≤ 1000000
  len : r.vals.length = w
  vs : ∀ v ∈ r.vals, -1000000000 ≤ v ∧ v ≤ 1000000000
  e0 : 1 ≤ r.exp
  e1 : r.exp ≤ 1000000000
/-- the rows as they are made, one for each number -/
def Made (w : Nat) (recs : List Rec) : Prop := ∀ (i : Nat) (r : Rec), recs[i]? = some r → RecOk w i r
def sortR (recs : List Rec) : List Rec := recs.mergeSort (PySem.W.dataLe false encR)
def spRs : Sp := fun vs H Q _ => ∃ (l : Addr) (n w : Nat), vs = [.ref l, .int (n : Int), .int (w : Int)] ∧ StO H l ∧ n ≤ 61 ∧ 1 ≤ w ∧ w ≤ 4 ∧
  ∀ H' p recs, Keep l H H' → StO H' l → recs.length = n → Made w recs → Dx (hid l H') (.ref p) (.tuple ((sortR recs).map encR)) → Q (.ref p) H'
theorem scRs : FnScope ["stream", "total", "wide", "top", "dear", "last", "rows", "at", "worths", "col"] ["stream", "total", "wide"] (defScope sRs) := ⟨rfl, rfl, rfl, by decide +kernel, rfl, by decide +kernel, by decide +kernel⟩
theorem dxs_ints {H : Hp} : ∀ (ns : List Int), Dxs H (ns.map V.int) (ns.map PyData.int)
  | [] => .nil
  | n :: ns => .cons (.int n) (dxs_ints ns)
theorem menu {ns : List Int} {d : Int} (h0 : 0 ≤ d) (h1 : d < (ns.length : Int)) : ∃ t, t ∈ ns ∧ atI (ns.map V.int) d = some (.int t) := by
  have hl : d.toNat < ns.length := by omega
  refine ⟨ns[d.toNat], List.getElem_mem hl, ?_⟩
  have := atI_nat (xs := ns.map V.int) (j := d.toNat) (v := .int ns[d.toNat]) (by rw [List.getElem?_map, List.getElem?_eq_getElem hl]; rfl)
  rw [show ((d.toNat : Nat) : Int) = d by omega] at this
  exact this
theorem alike_recs (rs : List Rec) : PySem.W.AllAlike (rs.map encR) := PySem.W.AllAlike.of fun a b => by
  simp [encR, PySem.W.alike, PySem.W.alikeAll, PySem.W.alike_ints]
theorem tup_recs (rs : List Rec) : PySem.W.Sortable (rs.map encR) := PySem.W.Sortable.tuples fun b => ⟨_, _, rfl⟩
theorem depth_rec (r : Rec) : (encR r).depth ≤ 50 := by
  simp [encR, PyData.depth, PyData.depthAll, PySem.W.depth_ints]
theorem plain_rec (r : Rec) : (encR r).plain = true := by
  simp [encR, PyData.plain, PyData.plainAll, pl_ints]
theorem dxs_pairs {H : Hp} : ∀ (bs : List (V × Rec)), (∀ b ∈ bs, Dx H b.1 (encR b.2)) → Dxs H (bs.map (·.1)) (bs.map fun b => encR b.2)
  | [], _ => .nil
  | b :: bs, h => .cons (h b (by simp)) (dxs_pairs bs fun c hc => h c (by simp [hc]))
section
variable {P : Program} {w : World} {K : PySem.W.Frag} {mg : Str → Option Value} {base : Heap}
theorem ok_rs {f fD fN : Addr} {fd fdD fdN : FuncData} (B : Bl mg) (D : Df K mg "_law_rowset" sRs ["stream", "total", "wide"] f fd) (DD : Df K mg "_law_draw" sDraw ["stream", "total"] fD fdD) (DN : Df K mg "_law_name" sNm ["stream", "at"] fN fdN) :
    FnOk P w K mg base CX0 3 f fd ["stream", "total", "wide"] spRs := by
  have GD : FnOk P w K mg base CX0 2 fD fdD _ spDraw := (ok_draw B DD).mono (by decide)
  have GN : FnOk P w K mg base CX0 2 fN fdN _ spNm := ok_nm B DN DD
  refine D.F.ok scRs (fun vs H Q E h => ?_) (fun cdv A outer s H vs Q E hr h => ?_)
  · obtain ⟨l, n, w, rfl, _⟩ := h
    rfl
  · obtain ⟨l, n, wd, rfl, hs, hn, hw1, hw4, q⟩ := h
    have nd := scRs.nd
    refine ⟨_, pss_cons (ps_set (i := 3) nd rfl (.inr rfl) (pe_ix ix_list (pe_lst (pa_cons pe_int (pa_cons pe_int (pa_cons pe_int (pa_cons (pe_op op_pow pe_int pe_int) pa_nil)))))
          (pe_call GD hr (by rfl) DD.g DD.F.kp DD.b .nil pass0 (pa_cons (pv 0) (pa_cons pe_int pa_nil))) (fun _ _ => rfl)))
      (pss_cons (ps_par (i := 4) (j := 5) rfl nd rfl rfl (by decide) rfl rfl (pa_cons (pe_ix ix_list (pe_lst (pa_cons pe_int (pa_cons pe_int (pa_cons pe_int (pa_cons (pe_op op_pow pe_int pe_int) pa_nil)))))
          (pe_call GD hr (by rfl) DD.g DD.F.kp DD.b .nil pass0 (pa_cons (pv 0) (pa_cons pe_int pa_nil))) (fun _ _ => rfl))
          (pa_cons (pe_ix ix_list (pe_lst (pa_cons pe_int (pa_cons pe_int (pa_cons (pe_op op_pow pe_int pe_int) pa_nil))))
          (pe_call GD hr (by rfl) DD.g DD.F.kp DD.b .nil pass0 (pa_cons (pv 0) (pa_cons pe_int pa_nil))) (fun _ _ => rfl)) pa_nil)) (by rfl))
      (pss_cons (ps_set (i := 6) nd rfl (.inl rfl) (pe_lst pa_nil))
      (pss_cons (ps_for PassesOwn.never rfl (pi_range1 (by rfl) B.range (pa_cons (pv 1) pa_nil)) (pg_name (i := 7) nd rfl (.inl rfl))
        (pss_cons (ps_set (i := 8) nd rfl (.inl rfl) (pe_callTy call_tuple_of (by rfl) B.tuple (by decide +kernel) (pa_cons (pe_lc (own := [("col", 9)]) (g := gName 9) rfl nd (pi_range1 (by rfl) B.range (pa_cons (pv 2) pa_nil))
            (blkOk_by (N := ["stream", "total", "wide", "top", "dear", "last", "rows", "at", "worths", "col"]) (sc := defScope sRs) (by decide +kernel)) (fun _ _ _ _ _ => pg_name (i := 9) nd rfl (Or.inl rfl)) (fun _ _ _ _ _ => pts_nil)
            (fun _ _ _ _ _ => pe_op op_sub (pe_call GD hr (by rfl) DD.g DD.F.kp DD.b .nil pass0 (pa_cons (pv 0) (pa_cons (pe_op op_add (pe_op op_mul pe_int (pv 3)) pe_int) pa_nil))) (pv 3))) pa_nil)))
        (pss_one (ps_expr (pe_bm PySem.F.plainAttrs_list PySem.F.slot_list_append PySem.F.type_list_append mt_append (pv 6) (pa_cons (pe_tup (pa_cons (pe_call GN hr (by rfl) DN.g DN.F.kp DN.b .nil pass0 (pa_cons (pv 0) (pa_cons (pv 7) pa_nil)))
            (pa_cons (pe_op op_add pe_int (pe_call GD hr (by rfl) DD.g DD.F.kp DD.b .nil pass0 (pa_cons (pv 0) (pa_cons (pv 4) pa_nil)))) (pa_cons (pv 8)
            (pa_cons (pe_op op_add pe_int (pe_call GD hr (by rfl) DD.g DD.F.kp DD.b .nil pass0 (pa_cons (pv 0) (pa_cons (pv 5) pa_nil)))) pa_nil))))) pa_nil))))))
      (pss_one (ps_ret (pe_callTy call_tuple_of (by rfl) B.tuple (by decide +kernel) (pa_cons (pe_callB (cr_sortE (enc := encR) hr) (by rfl) B.sorted (by decide +kernel) (pa_cons (pv 6) pa_nil)) pa_nil))))))), ?_⟩
    -- top = [1, 2, 4, 10 ** 9][draw]
    refine ⟨10, 9, rfl, rfl, ⟨by decide, by decide, by decide⟩, by show 4 ≤ sizeLine; decide, fun p1 n1 => ?_⟩
    refine ⟨.ref l, rfl, l, 4, rfl, hs.new n1, by decide, by decide, fun H1 d1 k1 s1 d10 d14 => ?_⟩
    have a1 : H1 p1 = some _ := k1.to (hs.ne n1) upd_same
    obtain ⟨top, mt, et⟩ := menu (ns := [1, 2, 4, 10 ^ (9 : Int).toNat]) d10 d14
    have ht : 1 ≤ top ∧ top ≤ 1000000000 := by
      have : ∀ t ∈ [1, 2, 4, (10 : Int) ^ (9 : Int).toNat], 1 ≤ t ∧ t ≤ 1000000000 := by decide
      exact this top mt
    refine ⟨p1, _, d1, _, rfl, rfl, .inl (.inl a1), et, ?_⟩
    -- dear, last
    refine ⟨10, 6, rfl, rfl, ⟨by decide, by decide, by decide⟩, by show 4 ≤ sizeLine; decide, fun p2 n2 => ?_⟩
    refine ⟨.ref l, rfl, l, 4, rfl, s1.new n2, by decide, by decide, fun H2 d2 k2 s2 d20 d24 => ?_⟩
    have a2 : H2 p2 = some _ := k2.to (s1.ne n2) upd_same
    obtain ⟨dear, md, ed⟩ := menu (ns := [1, 3, 9, 10 ^ (6 : Int).toNat]) d20 d24
    have hd : 1 ≤ dear ∧ dear ≤ 1000000 := by
      have : ∀ t ∈ [1, 3, 9, (10 : Int) ^ (6 : Int).toNat], 1 ≤ t ∧ t ≤ 1000000 := by decide
      exact this dear md
    refine ⟨p2, _, d2, _, rfl, rfl, .inl (.inl a2), ed, ?_⟩
    refine ⟨10, 9, rfl, rfl, ⟨by decide, by decide, by decide⟩, by show 3 ≤ sizeLine; decide, fun p3 n3 => ?_⟩
    refine ⟨.ref l, rfl, l, 3, rfl, s2.new n3, by decide, by decide, fun H3 d3 k3 s3 d30 d34 => ?_⟩
    have a3 : H3 p3 = some _ := k3.to (s2.ne n3) upd_same
    obtain ⟨last, ml, el⟩ := menu (ns := [1, 3, 10 ^ (9 : Int).toNat]) d30 d34
    have hl : 1 ≤ last ∧ last ≤ 1000000000 := by
      have : ∀ t ∈ [1, 3, (10 : Int) ^ (9 : Int).toNat], 1 ≤ t ∧ t ≤ 1000000000 := by decide
      exact this last ml
    refine ⟨p3, _, d3, _, rfl, rfl, .inl (.inl a3), el, _, _, rfl, ?_⟩
    -- rows = []
    refine ⟨Nat.zero_le _, fun r nr => ?_⟩
    have hrl : r ≠ l := s3.ne nr
    have kk : Keep l H (L2.upd H3 r (.lst [])) := ((((((Keep.refl l H).new n1).trans k1).new n2).trans k2).new n3).trans k3 |>.new nr
    have s4 : StO (L2.upd H3 r (.lst [])) l := s3.new nr
    have hHr : H r = none := by
      cases e : H r with
      | none => rfl
      | some o =>
        have := ((((((Keep.refl l H).new n1).trans k1).new n2).trans k2).new n3).trans k3 r o hrl e
        rw [nr] at this
        cases this
    refine ⟨.int (n : Int), rfl, n, rfl, by omega, by omega, ?_⟩
    refine for_range (lo := 0) (n := n) (fun i σ G => Keep l H G ∧ StO G l ∧ ∃ (vs : List V) (recs : List Rec) (ta tw tc : Option V), σ = [some (.ref l), some (.int n), some (.int wd), some (.int top), some (.int dear), some (.int last), some (.ref r), ta, tw, tc] ∧
        G r = some (.lst vs) ∧ Dxs (view l r G) vs (recs.map encR) ∧ recs.length = i ∧ Made wd recs)
      ⟨kk, s4, [], [], none, none, none, rfl, upd_same, .nil, rfl, fun i r h => by simp at h⟩ (fun i σ G hi hp => ?_) (fun σ G hp => ?_)
    · obtain ⟨kp, st, vs, recs, ta, tw, tc, rfl, gr, hx, hlen, hmade⟩ := hp
      refine ⟨.int (wd : Int), rfl, wd, rfl, by omega, by omega, fun D0 nD => ?_⟩
      have hDl : D0 ≠ l := st.ne nD
      refine lc_range (lo := 0) (n := wd) (fun j F => Keep l G F ∧ StO F l ∧ ∃ ns : List Int, ns.length = j ∧ (∀ v ∈ ns, -1000000000 ≤ v ∧ v ≤ 1000000000) ∧ F D0 = some (.lst (ns.map V.int)))
        ⟨(Keep.refl l G).new nD, st.new nD, [], rfl, fun v h => absurd h (by simp), upd_same⟩ (fun j F hj hF => ?_) (fun F hF => ?_)
      · obtain ⟨kF, sF, ns, hns, hv, eD⟩ := hF
        refine ⟨rfl, .ref l, rfl, .int top, rfl, 2, top, rfl, rfl, .inl ⟨by decide, by decide⟩, _, 1, rfl, rfl, l, 2 * top + 1, rfl, sF, by omega, by omega, fun F2 d kd sd d0 d1 => ?_⟩
        have eD2 : F2 D0 = some _ := kd.to hDl eD
        refine ⟨.int top, rfl, d, top, rfl, rfl, _, eD2, ?_, ?_⟩
        · rw [List.length_map]
          have hb : (4 : Nat) < sizeLine := by decide
          omega
        · refine ⟨fun b o nb eb => by rw [upd_ne (ne_of_none eb nD)]; exact kd b o nb (kF b o nb eb), ?_, ns ++ [d - top], ?_, ?_, ?_⟩
          · obtain ⟨x, y, z, e⟩ := sd
            exact ⟨x, y, z, by rw [upd_ne hDl.symm]; exact e⟩
          · rw [List.length_append, hns]
            rfl
          · intro v hv'
            rcases List.mem_append.mp hv' with hv' | hv'
            · exact hv v hv'
            · have : v = d - top := by simpa using hv'
              omega
          · rw [upd_same, List.map_append]
            rfl
      · obtain ⟨kF, sF, ns, hns, hv, eD⟩ := hF
        refine ⟨D0, _, rfl, .inl ⟨.inl (.inl eD), fun t nt => ?_⟩⟩
        have htl : t ≠ l := sF.ne nt
        have gr1 : F r = some (.lst vs) := kF.to hrl gr
        have htr : t ≠ r := (ne_of_none gr1 nt).symm
        have s5 : StO (L2.upd F t (.tup (ns.map V.int))) l := sF.new nt
        have dt : Dx (view l r (L2.upd F t (.tup (ns.map V.int)))) (.ref t) (.tuple (ns.map PyData.int)) := view_tup nt htl htr (dxs_ints ns)
        have k5 : Keep l G (L2.upd F t (.tup (ns.map V.int))) := kF.new nt
        refine ⟨.ref r, rfl, .inl ⟨rfl, _, .inl (.inl (k5.to hrl gr))⟩, .ref l, rfl, _, rfl, l, i, by simp, s5, by omega, fun G2 x k6 s6 hnm => ?_⟩
        refine ⟨.ref l, rfl, .int dear, rfl, l, dear, rfl, s6, by omega, by omega, fun G3 dc k7 s7 c0 c1 => ⟨1, dc, rfl, rfl, .ref t, rfl, ?_⟩⟩
        refine ⟨.ref l, rfl, .int last, rfl, l, last, rfl, s7, by omega, by omega, fun G4 de k8 s8 e0 e1 => ⟨1, de, rfl, rfl, by show 4 ≤ sizeLine; decide, fun u nu => ?_⟩⟩
        have hul : u ≠ l := s8.ne nu
        have kk4 : Keep l G G4 := ((k5.trans k6).trans k7).trans k8
        have gr4 : G4 r = some (.lst vs) := kk4.to hrl gr
        have hur : u ≠ r := (ne_of_none gr4 nu).symm
        have dt4 : Dx (view l r G4) (.ref t) (.tuple (ns.map PyData.int)) := dt.up (view_keep ((k6.trans k7).trans k8))
        have du : Dx (view l r (L2.upd G4 u (.tup [.str x, .int (1 + dc), .ref t, .int (1 + de)]))) (.ref u) (encR ⟨x, 1 + dc, ns, 1 + de⟩) :=
          view_tup nu hul hur (.cons (.str x) (.cons (.int _) (.cons dt4 (.cons (.int _) .nil))))
        have ku : Keep l G (L2.upd G4 u (.tup [.str x, .int (1 + dc), .ref t, .int (1 + de)])) := kk4.new nu
        have vlen : vs.length = recs.length := by
          have := hx.len
          rwa [List.length_map] at this
        refine ⟨r, vs, .ref u, rfl, rfl, by rw [upd_ne hur.symm]; exact gr4, ?_, ?_⟩
        · have hb : (61 : Nat) < sizeLine := by decide
          omega
        · have sup : Same (view l r (L2.upd G4 u (.tup [.str x, .int (1 + dc), .ref t, .int (1 + de)]))) (view l r (L2.upd (L2.upd G4 u (.tup [.str x, .int (1 + dc), .ref t, .int (1 + de)])) r (.lst (vs ++ [.ref u])))) :=
            view_same fun b o _ nb e => by rw [upd_ne nb]; exact e
          refine ⟨fun b o nb eb => by rw [upd_ne (ne_of_none eb hHr)]; exact ku b o nb (kp b o nb eb), ?_, vs ++ [.ref u], recs ++ [⟨x, 1 + dc, ns, 1 + de⟩], _, _, _, rfl, upd_same, ?_, ?_, ?_⟩
          · obtain ⟨y1, y2, y3, e⟩ := s8.new (o := .tup [.str x, .int (1 + dc), .ref t, .int (1 + de)]) nu
            exact ⟨y1, y2, y3, by rw [upd_ne hrl.symm]; exact e⟩
          · rw [List.map_append]
            exact ((hx.up (view_keep ku)).up sup).app (.cons (du.up sup) .nil)
          · rw [List.length_append, hlen]
            rfl
          · intro j r' hj
            by_cases hjl : j < recs.length
            · exact hmade j r' (by rw [List.getElem?_append_left hjl] at hj; exact hj)
            · rw [List.getElem?_append_right (by omega)] at hj
              have hj0 : j - recs.length = 0 := by
                have := (List.getElem?_eq_some_iff.mp hj).1
                simp at this
                omega
              rw [hj0] at hj
              cases hj
              have hji : j = i := by omega
              rw [hji]
              exact ⟨hnm, by show 1 ≤ 1 + dc; omega, by show 1 + dc ≤ _; omega, hns, hv, by show 1 ≤ 1 + de; omega, by show 1 + de ≤ _; omega⟩
    · obtain ⟨kp, st, vs, recs, ta, tw, tc, rfl, gr, hx, hlen, hmade⟩ := hp
      have vlen : vs.length = recs.length := by
        have := hx.len
        rwa [List.length_map] at this
      have eachH : ∀ b ∈ vs.zip recs, Dx (hid l G) b.1 (encR b.2) := fun b hb => by
        obtain ⟨i, hi, e⟩ := List.mem_iff_getElem.mp hb
        have e' : (vs.zip recs)[i]? = some b := by rw [List.getElem?_eq_getElem hi, e]
        rw [List.getElem?_zip_eq_some] at e'
        obtain ⟨d, ed, hd⟩ := hx.get' e'.1
        rw [List.getElem?_map, e'.2] at ed
        cases ed
        exact hd.up (hid_same r (hid l G))
      have each : ∀ b ∈ vs.zip recs, Dx G b.1 (encR b.2) := fun b hb => (eachH b hb).up (hid_same l G)
      refine ⟨.ref r, rfl, r, vs.zip recs, rfl, .inl (.inl ?_), ?_, ?_, ?_, ?_, fun p np => ?_⟩
      · rw [List.map_fst_zip (by omega)]
        exact gr
      · intro b hb
        exact dp_dx _ _ (plain_rec b.2) (each b hb)
      · have := alike_recs ((vs.zip recs).map (·.2))
        rwa [List.map_map] at this
      · have := tup_recs ((vs.zip recs).map (·.2))
        rwa [List.map_map] at this
      · exact fun b _ => depth_rec b.2
      · have hm : ∀ b ∈ (vs.zip recs).mergeSort (PySem.W.dataLe false fun b => encR b.2), Dx (hid l (L2.upd G p (.lst (((vs.zip recs).mergeSort (PySem.W.dataLe false fun b => encR b.2)).map (·.1))))) b.1 (encR b.2) := fun b hb =>
          ((eachH b (List.mem_mergeSort.mp hb)).up (hnew np))
        have e1 : ((vs.zip recs).mergeSort (PySem.W.dataLe false fun b => encR b.2)).map (fun b => encR b.2) = (sortR recs).map encR := by
          have e2 : ((vs.zip recs).mergeSort (PySem.W.dataLe false fun b => encR b.2)).map Prod.snd = sortR recs := by
            have h := List.map_mergeSort (f := Prod.snd) (r := PySem.W.dataLe false fun b : V × Rec => encR b.2) (s := PySem.W.dataLe false encR) (l := vs.zip recs) (fun a _ b _ => rfl)
            rw [List.map_snd_zip (by omega)] at h
            exact h
          rw [← e2, List.map_map]
          rfl
        have hx2 := dxs_pairs _ hm
        rw [e1] at hx2
        have sp := st.new (o := .lst (((vs.zip recs).mergeSort (PySem.W.dataLe false fun b => encR b.2)).map (·.1))) np
        refine ⟨p, _, rfl, .inl ⟨.inl (.inl upd_same), fun p2 np2 => ?_⟩⟩
        exact q _ p2 recs ((kp.new np).new np2) (sp.new np2) hlen hmade (dx_tup np2 sp hx2)
end
end Z1

namespace Z1
open PySem PySem.Spec PyProof.Rows L2 KX
theorem nm_len {r : Rec} {w : Nat} (h : RecOk w 0 r) : r.nm.length = 1 := by
  obtain ⟨suf, ex, hl, hs⟩ := h.nm
  have lx := len_cps r.nm
  rw [ex, List.length_append] at lx
  have hb : (baseL 0).length = 1 := rfl
  rcases hs with hs | ⟨z, _⟩
  · omega
  · omega
theorem fine_ints {B : Nat} : ∀ ns : List Int, (∀ v ∈ ns, -1000000000 ≤ v ∧ v ≤ 1000000000) → 1000000000 ≤ B → fineAll B (ns.map PyData.int) = true
  | [], _, _ => rfl
  | n :: ns, h, hB => by
    have := h n (by simp)
    simp only [List.map_cons, fineAll, fine, Bool.and_eq_true]
    exact ⟨decide_eq_true (by omega), fine_ints ns (fun v hv => h v (by simp [hv])) hB⟩
theorem wt_ints : ∀ ns : List Int, wtAll (ns.map PyData.int) = ns.length
  | [] => rfl
  | n :: ns => by
    simp only [List.map_cons, wtAll, wt_ints ns, List.length_cons]
    rw [show wt (.int n) = 1 by simp [wt]]
    omega
theorem rec_good {r : Rec} {w : Nat} (h : RecOk w 0 r) (hw : w ≤ 4) : Good (10 ^ 40) 10 (encR r) := by
  have l1 := nm_len h
  have hl := h.len
  have c0 := h.c0
  have c1 := h.c1
  have e0 := h.e0
  have e1 := h.e1
  obtain ⟨suf, ex, hs, hx⟩ := h.nm
  refine ⟨?_, ?_⟩
  · simp only [encR, fine, fineAll, Bool.and_eq_true]
    refine ⟨?_, decide_eq_true (by omega), fine_ints _ h.vs (by decide), decide_eq_true (by omega), trivial⟩
    refine List.all_eq_true.mpr fun c hc => decide_eq_true ?_
    rw [ex] at hc
    rcases List.mem_append.mp hc with hc | hc
    · have : c = 97 := by simpa [baseL] using hc
      omega
    · have := hs c hc
      omega
  · simp only [encR, wt, wtAll, wt_ints]
    omega
theorem betw_int {lo hi i : Int} (h0 : lo ≤ i) (h1 : i ≤ hi) : betw lo hi (.int i) = true := by
  show (decide (lo ≤ i) && decide (i ≤ hi)) = true
  rw [decide_eq_true h0, decide_eq_true h1]
  rfl
theorem rec_row {r : Rec} {w n : Nat} (hn : n < 61) (h : RecOk w n r) (h1 : 1 ≤ w) (hw : w ≤ 4) : rowD (encR r) = true := by
  show (nameD (.str r.nm) && betw 1 1000000 (.int r.cost) && (valsD (.tuple (r.vals.map .int)) && betw 1 1000000000 (.int r.exp))) = true
  rw [(name_ok hn h.nm).1, betw_int h.c0 h.c1, betw_int h.e0 h.e1]
  have hl := h.len
  have ev : valsD (.tuple (r.vals.map .int)) = true := by
    show ((decide (1 ≤ (((r.vals.map PyData.int).length : Nat) : Int)) && decide ((((r.vals.map PyData.int).length : Nat) : Int) ≤ 4)) && (r.vals.map PyData.int).all (betw (-1000000000) 1000000000)) = true
    rw [List.length_map, decide_eq_true (by omega), decide_eq_true (by omega)]
    simp only [Bool.true_and, List.all_eq_true]
    intro d hd
    obtain ⟨v, hv, rfl⟩ := List.mem_map.mp hd
    exact betw_int (h.vs v hv).1 (h.vs v hv).2
  rw [ev]
  rfl
def okEnt : PyData → Bool
  | .tuple [.tuple [.str n, c, v, e], .bool b] => (rowD (.tuple [.str n, c, v, e]) == b) && decide (n.length ≤ 100) && !(tyN c == "str") && !(tyN v == "str") && !(tyN e == "str")
  | _ => false

end Z1

set_option maxRecDepth 100000
set_option maxHeartbeats 1000000
namespace KX
open PySem PySem.Spec PyProof.Rows L2 RZ
/-! ### [e for x, y in zip(s, t)], s and t tuples, t the shorter one -/
theorem lc_zipS {K : PySem.W.Frag} {a b : Addr} {xs ys : List V} {g : TG} {tt : TT} {te : TE} {vs : List Nat} {σ : L2.St} {H1 : Hp} {D : Addr} {Qd : Hp → Prop} (hl : ys.length ≤ xs.length) (Pv : Nat → Hp → Prop) (h0 : Pv 0 (upd H1 D (.lst [])))
    (hq : ∀ i G, i ≤ ys.length → Pv i G → SqT K G a xs ∧ SqT K G b ys)
    (hs : ∀ (i : Nat) (x y : V) (T : Addr) (G : Hp), xs[i]? = some x → ys[i]? = some y → Pv i G → G T = none → g (.ref T) (wipe σ vs) (upd G T (.tup [x, y])) fun σ2 H2 => wipe σ2 vs = wipe σ vs ∧ tt σ2 H2 fun b H3 =>
      if b = true then te σ2 H3 fun y H4 => ∃ zs, H4 D = some (.lst zs) ∧ zs.length < sizeLine ∧ Pv (i + 1) (upd H4 D (.lst (zs ++ [y]))) else Pv (i + 1) H3) (hd : ∀ G, Pv ys.length G → Qd G) :
    ∃ W : Nat → Nat → Hp → Prop, (∃ m, W 0 m (upd H1 D (.lst []))) ∧ ∀ i m H, W i m H → ((ItzT K a b).stop i H ∧ Qd H) ∨ ((ItzT K a b).go i H ∧ ∃ Nx : Hp → Prop, (∀ H', Nx H' → ∃ m', m' < m ∧ W (i + 1) m' H') ∧ ∀ x H', (ItzT K a b).yld i H x H' →
      g x (wipe σ vs) H' fun σ2 H2 => wipe σ2 vs = wipe σ vs ∧ tt σ2 H2 fun b H3 => if b = true then te σ2 H3 fun y H4 => ∃ zs, H4 D = some (.lst zs) ∧ zs.length < sizeLine ∧ Nx (upd H4 D (.lst (zs ++ [y]))) else Nx H3) := by
  refine ⟨fun i m G => m = ys.length - i ∧ i ≤ ys.length ∧ Pv i G, ⟨ys.length, by simp, Nat.zero_le _, h0⟩, fun i m G hw => ?_⟩
  obtain ⟨rfl, hi, p⟩ := hw
  obtain ⟨qx, qy⟩ := hq i G hi p
  by_cases lt : i < ys.length
  · refine .inr ⟨⟨xs, ys, xs[i]'(by omega), ys[i], qx, qy, List.getElem?_eq_getElem (by omega), List.getElem?_eq_getElem lt⟩, Pv (i + 1), fun G' p' => ⟨ys.length - (i + 1), by omega, rfl, lt, p'⟩, fun v G' r => ?_⟩
    obtain ⟨T, x, y, rfl, nT, rfl, e1, e2⟩ := r
    exact hs i x y T G (e1 xs qx) (e2 ys qy) p nT
  · have e : i = ys.length := by omega
    subst e
    exact .inl ⟨⟨xs, ys, qx, qy, .inr (Nat.le_refl _)⟩, hd G p⟩
/-! ### except clauses, with names and without -/
/-- a clause: its class, the slot of its name if it has one, its suite -/
structure Cls where
  c : Value
  i : Option Nat
  ts : Addr → Value → Option Addr → TS
def endsAt (D : Ends) : Option Nat → Ends
  | none => D
  | some i => { nx := fun σ' G => D.nx (σ'.set i none) G, rt := D.rt, bk := fun σ' G => D.bk (σ'.set i none) G, ct := fun σ' G => D.ct (σ'.set i none) G }
def slotIn (σ : L2.St) (a : Addr) : Option Nat → L2.St
  | none => σ
  | some i => σ.set i (some (.ref a))
def wMix (K : PySem.W.Frag) (Wo : WX) (D : Ends) : List Cls → WX
  | [] => Wo
  | q :: r => fun cls d σ G => ∃ b, PySem.W.exmOne K cls q.c = some b ∧ (b = true → ∀ a, G a = none → q.ts a cls d (endsAt D q.i) (slotIn σ a q.i) G) ∧ (b = false → wMix K Wo D r cls d σ G)
inductive MixOk (X : Cx) : List ExceptHandler → List Cls → Prop
  | nil : MixOk X [] []
  | plain {x : Str} {c : Value} {ts : Addr → Value → Option Addr → TS} {b0 : Stmt} {bs : List Stmt} {p1 p2 : Pos} {hds : List ExceptHandler} {l : List Cls} (hc : Names X x c)
      (hb : ∀ (a : Addr) (oe : Obj) (cls : Value) (d : Option Addr) (pn : List (Addr × Obj)), Zc cls d oe → (∃ vs, oe.data = .fields vs) → PSs (X.suite a ((a, oe) :: pn)) (b0 :: bs) (ts a cls d)) (r : MixOk X hds l) :
      MixOk X (.ExceptHandler (some (.Name x p1)) none (b0 :: bs) p2 :: hds) (⟨c, none, ts⟩ :: l)
  | named {x n : Str} {i : Nat} {c : Value} {ts : Addr → Value → Option Addr → TS} {b0 : Stmt} {bs : List Stmt} {p1 p2 : Pos} {hds : List ExceptHandler} {l : List Cls} (hi : X.N[i]? = some n) (hn : X.env.kindOf n = some .local) (hc : Names X x c)
      (hb : ∀ (a : Addr) (oe : Obj) (cls : Value) (d : Option Addr) (pn : List (Addr × Obj)), Zc cls d oe → (∃ vs, oe.data = .fields vs) → PSs (X.suite a ((a, oe) :: pn)) (b0 :: bs) (ts a cls d)) (r : MixOk X hds l) :
      MixOk X (.ExceptHandler (some (.Name x p1)) (some n) (b0 :: bs) p2 :: hds) (⟨c, some i, ts⟩ :: l)
section
variable {X : Cx} {body : List Stmt} {hd0 : ExceptHandler} {hds : List ExceptHandler} {l : List Cls} {pos : Pos} {tb : WX → TS} {Wo : WX}
theorem ps_try_mix (hs : X.stack = X.env :: X.outer) (hf : X.env.frame = some X.env.locals) (nd : X.N.Nodup) (tk : Takes X Wo)
    (hb : ∀ (W : WX) (pn : List (Addr × Obj)) (xe : Value → Shared → Prop), Takes (X.tr pn xe) W → PassesOwn (model X.prog X.w) X.A X.env xe → PSs (X.tr pn xe) body (tb W))
    (hh : MixOk X (hd0 :: hds) l) : PS X (.Try body (hd0 :: hds) [] [] pos) (fun D σ G => tb (wMix X.K Wo D l) D σ G) := by
  refine ⟨fun pins s σ G D I h => wpAny_Try_except ?_⟩
  have ok := I.ok
  have frm : X.A.frames = some (X.env :: X.outer) := ok.frames.trans (by rw [hs])
  refine wpAny_mono ((hb (wMix X.K Wo D l) (X.pn ++ pins) (fun e t1 => wpAny (model X.prog X.w) X.A (noteFrame e X.env) (fun _ t2 => wpAny (model X.prog X.w) X.A (setFlight e none) (fun _ t3 =>
    wpAny (model X.prog X.w) X.A (handleBy e X.env (hd0 :: hds)) (SP X pins D) X.xe t3) X.xe t2) X.xe t1) (fun u s1 caught => ?_) PassesOwn.looking).run [] s σ G D (I.toTry _) h) (fun fl s1 fin => ?_) (fun _ _ z => z)
  · obtain ⟨ea, B0, sI, pins1, σ1, G1, cls, d, rfl, IT, nb, up, sky, na, os, ag, wish⟩ := caught
    have I1 : Inv X pins σ1 G1 sI := IT.ofTry ok
    refine Sky.land Zc.steady frm hf (show Sky B0 (X.env :: X.outer) ea (Zc cls d) X.env.locals s1.heap by rw [← hs]; exact sky) fun h3 lands up3 => ?_
    have I3 : Inv X pins σ1 G1 { s1 with heap := h3 } := I1.landed nb lands.1 (up.trans up3) os ag
    obtain ⟨oe3, fv3, at3, z3, dat3⟩ := lands.there
    have off : ea ∉ frs (X.env :: X.outer) := fun hm => by
      obtain ⟨_, o1, e1, nf⟩ := lands.2.2.1.mem hm
      rw [at3] at e1
      cases e1
      exact nf _ dat3
    have offL : ea ≠ X.env.locals := fun z => off (List.mem_filterMap.mpr ⟨X.env, List.mem_cons_self, by rw [hf, z]⟩)
    have offF : ea ∉ X.fs := fun hm => by
      obtain ⟨en, hen, q⟩ := List.mem_filterMap.mp hm
      exact off (List.mem_filterMap.mpr ⟨en, List.mem_cons_of_mem _ hen, q⟩)
    have S3 := I3.suite at3 dat3 na offL offF
    have looks : PySem.W.Looks (model X.prog X.w) h3 (typeOf (.ref ea)) cls := fun A Q E t k q => wpAny_typeOf_ref (k _ _ at3) (by rw [z3.1]; exact q)
    have reads : ∀ {x : Str} {c : Value} {p1 : Pos} {Q : Value → Shared → Prop} {E : Value → Shared → Prop}, Names X x c → Q c { s1 with heap := h3 } → wpAny (model X.prog X.w) (X.A.mark (some (.ref ea))) (eval (.Name x p1) X.env) Q E { s1 with heap := h3 } := fun {x c p1 Q E} hc q => by
      obtain ⟨hg, hdb, hm | ⟨hm, hv, hnn⟩⟩ := hc
      · exact ld_glob (X := X.suite ea ((ea, oe3) :: (X.pn ++ pins))) S3 hg hm q hdb
      · exact ld_blt (X := X.suite ea ((ea, oe3) :: (X.pn ++ pins))) S3 hg hm hv q hnn hdb
    have each : ∀ {hl : List ExceptHandler} {cl : List Cls}, MixOk X hl cl → wMix X.K Wo D cl cls d σ1 G1 → wpAny (model X.prog X.w) X.A (handleBy (.ref ea) X.env hl) (SP X pins D) X.xe { s1 with heap := h3 } := by
      intro hl cl mk
      induction mk with
      | nil =>
        intro wo
        refine wpAny_handleBy_nil ?_
        obtain ⟨_, _, _, ox, fx, T, _, _, atx, _, datx, tl1, _⟩ := id lands
        unfold PySem.passOn
        refine wpAny_bind (wpAny_field atx datx tl1 ?_)
        rw [if_neg (by simp)]
        have out : wpAny (model X.prog X.w) X.A (setFlight (.ref ea) X.env.frame) (fun _ t4 => wpAny (model X.prog X.w) X.A (throw (.ref ea) : Sem Flow) (SP X pins D) X.xe t4) X.xe { s1 with heap := h3 } := by
          rw [hf]
          refine HandSPX.setFlight_upZ lands fun h4 hx4 up4 => wpAny_throw (tk _ _ ⟨ea, B0, sI, pins, σ1, G1, cls, d, rfl, I1, nb, (up.trans up3).trans up4, .inr (.inr (by rw [hs]; exact hx4)), na, os, ag, wo⟩)
        first | exact wpAny_bind (wpAny_pure (wpAny_bind out)) | exact wpAny_bind out
      | @plain x c ts b0 bs p1 p2 hds2 l2 hc hb r ih =>
        intro wq
        obtain ⟨b, e1, yes, no⟩ := wq
        refine wpAny_handleBy_cons (codeAny_handlers_test (reads hc ((PySem.W.exm_one (M := model X.prog X.w) I3.kIn looks e1).here ?_))) (by intro q; cases q)
        cases b with
        | false => exact ih (no rfl)
        | true =>
          refine codeAny_handlers_suite (HandSPX.lands_againZ lands fun h4 lands4 up4 => ?_)
          obtain ⟨oe4, fv4, at4, z4, dat4⟩ := lands4.there
          have I4 : Inv X pins σ1 G1 { s1 with heap := h4 } := I1.landed nb lands4.1 ((up.trans up3).trans up4) os ag
          refine wpAny_mono ((hb ea oe4 cls d (X.pn ++ pins) z4 ⟨_, dat4⟩).run [] _ _ G1 _ (I4.suite at4 dat4 na offL offF) (yes rfl ea na)) (fun fl t6 fin => ?_) (fun _ _ z => z.elim)
          cases fl with
          | ret u =>
            obtain ⟨v6, σ6, G6, S6, r6, q6⟩ := fin
            exact ⟨v6, σ6, G6, S6.unsuite ok, r6, q6⟩
          | _ =>
            obtain ⟨σ6, G6, S6, q6⟩ := fin
            exact ⟨σ6, G6, S6.unsuite ok, q6⟩
      | @named x n i c ts b0 bs p1 p2 hds2 l2 hi hn hc hb r ih =>
        intro wq
        obtain ⟨b, e1, yes, no⟩ := wq
        refine wpAny_handleBy_cons (codeAny_handlers_test (reads hc ((PySem.W.exm_one (M := model X.prog X.w) I3.kIn looks e1).here ?_))) (by intro q; cases q)
        cases b with
        | false => exact ih (no rfl)
        | true =>
          refine codeAny_handlers_suite_as (HandSPX.lands_againZ lands fun h4 lands4 up4 => ?_)
          obtain ⟨oe4, fv4, at4, z4, dat4⟩ := lands4.there
          have I4 : Inv X pins σ1 G1 { s1 with heap := h4 } := I1.landed nb lands4.1 ((up.trans up3).trans up4) os ag
          refine store_ok (X := X.suite ea ((ea, oe4) :: (X.pn ++ pins))) (v := .ref ea) (I4.suite at4 dat4 na offL offF) nd hi (.inl hn) rfl (fun t5 S5 => ?_) (.inr hn)
          refine wpAny_mono ((hb ea oe4 cls d (X.pn ++ pins) z4 ⟨_, dat4⟩).run [] t5 _ G1 _ S5 (yes rfl ea na)) (fun fl t6 fin => ?_) (fun _ _ z => z.elim)
          have gone : ∀ {σ6 : L2.St} {G6 : Hp} {R : Shared → Prop}, Inv (X.suite ea ((ea, oe4) :: (X.pn ++ pins))) [] σ6 G6 t6 → (∀ t7, Inv X pins (σ6.set i none) G6 t7 → R t7) →
              wpAny (model X.prog X.w) X.A (do bindName X.env n .none; unbindBehindTheSuite X.env n p2) (fun _ t7 => R t7) X.xe t6 := fun {σ6 G6 R} S6 k => gone_ok (S6.unsuite ok) nd hi hn k
          cases fl with
          | ret u =>
            obtain ⟨v6, σ6, G6, S6, r6, q6⟩ := fin
            exact gone S6 fun t7 I7 => ⟨v6, _, _, I7, r6, q6⟩
          | _ =>
            obtain ⟨σ6, G6, S6, q6⟩ := fin
            exact gone S6 fun t7 I7 => ⟨_, _, I7, q6⟩
    exact each hh wish
  · cases fl with
    | next =>
      obtain ⟨σ6, G6, I6, q6⟩ := fin
      exact wpAny_execs_nil ⟨σ6, G6, I6.ofTry ok, q6⟩
    | ret u =>
      obtain ⟨v6, σ6, G6, I6, r6, q6⟩ := fin
      exact ⟨v6, σ6, G6, I6.ofTry ok, r6, q6⟩
    | _ =>
      obtain ⟨σ6, G6, I6, q6⟩ := fin
      exact ⟨σ6, G6, I6.ofTry ok, q6⟩
end
end KX

set_option maxRecDepth 100000
set_option maxHeartbeats 4000000
namespace Z1
open PySem PySem.Spec PyProof.Rows L2 KX
abbrev sAsc : Stmt := topS 12
abbrev sOW : Stmt := topS 26
abbrev sHW : Stmt := topS 27
abbrev sIR : Stmt := topS 29
abbrev sNO : Stmt := topS 30
/-! ### is_ascending -/
def ltS (a b : Str) : Bool := decide (a.cps.toList < b.cps.toList)
def ascS : List Str → Bool
  | a :: b :: r => ltS a b && ascS (b :: r)
  | _ => true
theorem asc_pairs : ∀ ns : List Str, ((ns.zip (ns.drop 1)).map fun q => ltS q.1 q.2).all id = ascS ns
  | [] => rfl
  | [_] => rfl
  | a :: b :: r => by
    have ih := asc_pairs (b :: r)
    have e : ((a :: b :: r).zip ((a :: b :: r).drop 1)) = (a, b) :: ((b :: r).zip ((b :: r).drop 1)) := rfl
    rw [e, List.map_cons, List.all_cons, ih]
    rfl
theorem vals_strsD {H : Hp} : ∀ {xs : List V} {ns : List Str}, Dxs H xs (ns.map PyData.str) → xs = ns.map V.str
  | [], [], _ => rfl
  | x :: xs, n :: ns, .cons h t => by
    cases h
    rw [vals_strsD t]
    rfl
theorem sl_same {K : PySem.W.Frag} {H : Hp} {ds : List PyData} {Q : VK} {lo hi : Option Int} {v : V} (hd : Dx H v (.tuple ds)) (q : ∀ H' p, Same H H' → Dx H' (.ref p) (.tuple (KX.cutD ds lo hi)) → Q (.ref p) H') : rSlA K v lo hi H Q := by
  cases hd with
  | @tup a xs _ ea h =>
    refine ⟨a, xs, rfl, .inl (.inl ea), fun hw => q H a (Same.refl H) ?_, fun _ p np => q _ p (same_new np) (.tup upd_same ((dxs_cut h lo hi).up (same_new np)))⟩
    have : KX.cutD ds lo hi = ds := by
      unfold KX.cutD
      rw [← h.len, hw.1, hw.2, List.drop_zero, Nat.sub_zero, List.take_of_length_le (by rw [h.len]; exact Nat.le_refl _)]
    rw [this]
    exact .tup ea h
def spAsc : Sp := fun vs H Q _ => ∃ (v : V) (ns : List Str), vs = [v] ∧ Dx H v (.tuple (ns.map .str)) ∧ ns.length ≤ 1000 ∧ ∀ H', Same H H' → Q (.bl (ascS ns)) H'
theorem scAsc : FnScope ["names", "first", "second"] ["names"] (defScope sAsc) := ⟨rfl, rfl, rfl, by decide +kernel, rfl, by decide +kernel, by decide +kernel⟩
section
variable {P : Program} {w : World} {K : PySem.W.Frag} {mg : Str → Option Value} {base : Heap}
theorem ok_asc {f : Addr} {fd : FuncData} (B : Bl mg) (D : Df K mg "is_ascending" sAsc ["names"] f fd) : FnOk P w K mg base CX0 1 f fd ["names"] spAsc := by
  refine D.F.ok scAsc (fun vs H Q E h => ?_) (fun cdv A outer s H vs Q E hr h => ?_)
  · obtain ⟨v, ns, rfl, _⟩ := h
    rfl
  · obtain ⟨v, ns, rfl, hd, hl, q⟩ := h
    have nd := scAsc.nd
    refine ⟨_, pss_one (ps_ret (pe_callB (cr_all rfl) (by rfl) B.all (by decide +kernel) (pa_cons (pe_lc (own := [("first", 1), ("second", 2)]) (g := gTup K 2 (gCons (gName 1) (gCons (gName 2) gNil))) rfl nd (RZ.pi_zipA (by rfl) B.zip (pa_cons (pv 0) (pa_cons (pe_slice sl_tupA (pv 0) (po_some pe_int) po_none) pa_nil)))
        (blkOk_by (N := ["names", "first", "second"]) (sc := defScope sAsc) (by decide +kernel)) (fun _ _ _ _ _ => pg_tup rfl (pgs_cons (pg_name (i := 1) nd rfl (Or.inl rfl)) (pgs_cons (pg_name (i := 2) nd rfl (Or.inl rfl)) pgs_nil))) (fun _ _ _ _ _ => pts_nil)
        (fun _ _ _ _ _ => pe_cmpR op_lt_str (pv 1) (pv 2) (nomark _))) pa_nil))), ?_⟩
    refine ⟨v, rfl, v, rfl, 1, rfl, ?_⟩
    refine (show ∀ {σ : L2.St} {H : Hp} {Q : Option Int → Hp → Prop}, Q none H → tNoPart σ H Q from fun h => h) (sl_same hd fun H2 p s2 dp => ?_)
    rw [show (1 : Int) = ((1 : Nat) : Int) from rfl, cutD_from, ← List.map_drop] at dp
    cases hd with
    | @tup a xs _ ea h =>
    cases dp with
    | @tup _ ys _ ep hp =>
    have exs := vals_strsD h
    have eys := vals_strsD hp
    have lx : xs.length = ns.length := by rw [exs, List.length_map]
    have ly : ys.length = ns.length - 1 := by rw [eys, List.length_map, List.length_drop]
    refine ⟨a, p, xs, ys, rfl, .inr ⟨.inl (.inl (s2 _ _ ea)), .inl (.inl ep), fun D nD => ?_⟩⟩
    refine lc_zipS (xs := xs) (ys := ys) (by omega) (fun i G => Same H2 G ∧ G D = some (.lst ((((ns.zip (ns.drop 1)).take i).map fun q => ltS q.1 q.2).map V.bl))) ⟨same_new nD, upd_same⟩ (fun i G _ hG => ⟨.inl (.inl (hG.1 _ _ (s2 _ _ ea))), .inl (.inl (hG.1 _ _ ep))⟩) (fun i x y T G hx hy hG nT => ?_) (fun G hG => ?_)
    · obtain ⟨sG, eD⟩ := hG
      rw [exs, List.getElem?_map] at hx
      rw [eys, List.getElem?_map] at hy
      obtain ⟨n1, e1, rfl⟩ := Option.map_eq_some_iff.mp hx
      obtain ⟨n2, e2, rfl⟩ := Option.map_eq_some_iff.mp hy
      have ez : (ns.zip (ns.drop 1))[i]? = some (n1, n2) := by rw [List.getElem?_zip_eq_some]; exact ⟨e1, e2⟩
      have sT : Same G (upd G T (.tup [.str n1, .str n2])) := same_new nT
      refine ⟨T, _, rfl, .inl (.inl upd_same), rfl, _, _, rfl, _, _, rfl, rfl, rfl, ?_⟩
      refine ⟨.str n1, rfl, .str n2, rfl, n1, n2, rfl, rfl, _, sT _ _ eD, ?_, same_at (sG.trans sT) nD, ?_⟩
      · rw [List.length_map, List.length_map, List.length_take, List.length_zip, List.length_drop]
        have hb : (1000 : Nat) < sizeLine := by decide
        omega
      · rw [upd_same, List.take_add_one, ez, List.map_append, List.map_append]
        rfl
    · obtain ⟨sG, eD⟩ := hG
      rw [List.take_of_length_le (by rw [List.length_zip, List.length_drop]; omega)] at eD
      refine ⟨D, _, rfl, .inl (.inl eD), ?_⟩
      rw [asc_pairs]
      exact q G (s2.trans sG)
/-! ### names_of -/
def spNO : Sp := fun vs H Q _ => ∃ (v : V) (rs : List Rec), vs = [v] ∧ Dx H v (.tuple (rs.map encR)) ∧ rs.length ≤ 1000 ∧ ∀ H' p, Same H H' → Dx H' (.ref p) (.tuple ((rs.map (·.nm)).map .str)) → Q (.ref p) H'
theorem scNO : FnScope ["rows", "row"] ["rows"] (defScope sNO) := ⟨rfl, rfl, rfl, by decide +kernel, rfl, by decide +kernel, by decide +kernel⟩
theorem row_dx {H : Hp} {v : V} {r : Rec} (h : Dx H v (encR r)) : ∃ a z vs, v = .ref a ∧ H a = some (.tup [.str r.nm, .int r.cost, .ref z, .int r.exp]) ∧ H z = some (.tup vs) ∧ vs = r.vals.map V.int := by
  unfold encR at h
  cases h with
  | @tup a xs _ ea h =>
    match xs, h, ea with
    | [v1, v2, v3, v4], .cons h1 (.cons h2 (.cons h3 (.cons h4 .nil))), ea =>
      cases h1
      cases h2
      cases h4
      cases h3 with
      | @tup z vs _ ez hz =>
        refine ⟨a, z, vs, rfl, ea, ez, ?_⟩
        have : ∀ {xs : List V} {ns : List Int}, Dxs H xs (ns.map PyData.int) → xs = ns.map V.int := fun {xs ns} => by
          induction ns generalizing xs with
          | nil => intro h; cases h; rfl
          | cons n ns ih =>
            intro h
            cases h with
            | cons h t =>
              cases h
              rw [ih t]
              rfl
        exact this hz
theorem ok_no {f : Addr} {fd : FuncData} (B : Bl mg) (cn : ∃ t, mg "NAME" = some (.int 0 t)) (D : Df K mg "names_of" sNO ["rows"] f fd) : FnOk P w K mg base CX0 1 f fd ["rows"] spNO := by
  obtain ⟨tn, mn⟩ := cn
  refine D.F.ok scNO (fun vs H Q E h => ?_) (fun cdv A outer s H vs Q E hr h => ?_)
  · obtain ⟨v, ns, rfl, _⟩ := h
    rfl
  · obtain ⟨v, rs, rfl, hd, hl, q⟩ := h
    have nd := scNO.nd
    refine ⟨_, pss_one (ps_ret (pe_callTy call_tuple_of (by rfl) B.tuple (by decide +kernel) (pa_cons (pe_lc (own := [("row", 1)]) (g := gName 1) rfl nd (pi_tup (pv 0))
        (blkOk_by (N := ["rows", "row"]) (sc := defScope sNO) (by decide +kernel)) (fun _ _ _ _ _ => pg_name (i := 1) nd rfl (Or.inl rfl)) (fun _ _ _ _ _ => pts_nil)
        (fun _ _ _ _ _ => pe_ix (r := rIxT K) ix_tup (pv 1) (pe_glob (v := .int 0) (by rfl) mn ⟨_, rfl⟩) (fun _ _ => rfl))) pa_nil))), ?_⟩
    cases hd with
    | @tup a xs _ ea h =>
    have lx := h.len
    rw [List.length_map] at lx
    refine ⟨.ref a, rfl, a, rfl, ⟨_, .inl (.inl ea)⟩, fun D nD => ?_⟩
    refine lc_tup (xs := xs) (fun i G => Same H G ∧ G D = some (.lst (((rs.take i).map (·.nm)).map V.str))) ⟨same_new nD, upd_same⟩ (fun i G _ hG => .inl (.inl (hG.1 _ _ ea))) (fun i x G hx hG => ?_) (fun G hG => ?_)
    · obtain ⟨sG, eD⟩ := hG
      obtain ⟨d, ed, hdx⟩ := h.get' hx
      rw [List.getElem?_map] at ed
      obtain ⟨r, er, rfl⟩ := Option.map_eq_some_iff.mp ed
      obtain ⟨b, z, vs, rfl, eb, _⟩ := row_dx (hdx.up sG)
      refine ⟨rfl, .ref b, rfl, b, _, 0, .str r.nm, rfl, rfl, .inl (.inl eb), rfl, _, eD, ?_, same_at sG nD, ?_⟩
      · rw [List.length_map, List.length_map, List.length_take]
        have hb : (1000 : Nat) < sizeLine := by decide
        omega
      · rw [upd_same, List.take_add_one, er, List.map_append, List.map_append]
        rfl
    · obtain ⟨sG, eD⟩ := hG
      rw [List.take_of_length_le (by omega)] at eD
      refine ⟨D, _, rfl, .inl ⟨.inl (.inl eD), fun p np => ?_⟩⟩
      have : ∀ (ns : List Str) (G : Hp), Dxs G (ns.map V.str) (ns.map PyData.str) := fun ns G => by
        induction ns with
        | nil => exact .nil
        | cons n ns ih => exact .cons (.str n) ih
      exact q _ p (sG.trans (same_new np)) (.tup upd_same (this _ _))
/-! ### have_one_width, for rows of one width -/
theorem call_lenK {X : Cx} {K : PySem.W.Frag} (h : X.K = K) : CallR X (.builtin "len") (fun xs H Q => ∃ p ys, xs = [V.ref p] ∧ (SqL K H p ys ∨ SqT K H p ys) ∧ Q (.int (ys.length : Int)) H) := by
  subst h
  exact call_len_seq
theorem scHW : FnScope ["rows", "row"] ["rows"] (defScope sHW) := ⟨rfl, rfl, rfl, by decide +kernel, rfl, by decide +kernel, by decide +kernel⟩
/-- the rows have one width -/
def oneW : List Rec → Bool
  | [] => true
  | r :: rs => (r :: rs).all fun e => decide (e.vals.length = r.vals.length)
def spHW : Sp := fun vs H Q _ => ∃ (v : V) (rs : List Rec), vs = [v] ∧ Dx H v (.tuple (rs.map encR)) ∧ rs.length ≤ 1000 ∧ ∀ H', Same H H' → Q (.bl (oneW rs)) H'
theorem ok_hw {f : Addr} {fd : FuncData} (B : Bl mg) (cv : ∃ t, mg "VALUES" = some (.int 2 t)) (D : Df K mg "have_one_width" sHW ["rows"] f fd) : FnOk P w K mg base CX0 1 f fd ["rows"] spHW := by
  obtain ⟨tv, mv⟩ := cv
  refine D.F.ok scHW (fun vs H Q E h => ?_) (fun cdv A outer s H vs Q E hr h => ?_)
  · obtain ⟨v, rs, rfl, _⟩ := h
    rfl
  · obtain ⟨v, rs, rfl, hd, hl, q⟩ := h
    have nd := scHW.nd
    refine ⟨_, pss_one (ps_ret (pe_callB (cr_all rfl) (by rfl) B.all (by decide +kernel) (pa_cons (pe_lc (own := [("row", 1)]) (g := gName 1) rfl nd (pi_tup (pv 0))
        (blkOk_by (N := ["rows", "row"]) (sc := defScope sHW) (by decide +kernel)) (fun _ _ _ _ _ => pg_name (i := 1) nd rfl (Or.inl rfl)) (fun _ _ _ _ _ => pts_nil)
        (fun _ _ _ _ _ => pe_cmpR op_eq (pe_callB (call_lenK (K := K) rfl) (by rfl) B.len PySem.boot_len (pa_cons (pe_ix (r := rIxT K) ix_tup (pv 1) (pe_glob (v := .int 2) (by rfl) mv ⟨_, rfl⟩) (fun _ _ => rfl)) pa_nil))
          (pe_callB (call_lenK (K := K) rfl) (by rfl) B.len PySem.boot_len (pa_cons (pe_ix (r := rIxT K) ix_tup (pe_ix (r := rIxT K) ix_tup (pv 0) pe_int (fun _ _ => rfl)) (pe_glob (v := .int 2) (by rfl) mv ⟨_, rfl⟩) (fun _ _ => rfl)) pa_nil)) (nomark _))) pa_nil))), ?_⟩
    cases hd with
    | @tup a xs _ ea h =>
    have lx := h.len
    rw [List.length_map] at lx
    refine ⟨.ref a, rfl, a, rfl, ⟨_, .inl (.inl ea)⟩, fun D nD => ?_⟩
    refine lc_tup (xs := xs) (fun i G => Same H G ∧ G D = some (.lst (((rs.take i).map fun r => decide (r.vals.length = (rs.headD ⟨"", 0, [], 0⟩).vals.length)).map V.bl))) ⟨same_new nD, upd_same⟩ (fun i G _ hG => .inl (.inl (hG.1 _ _ ea))) (fun i x G hx hG => ?_) (fun G hG => ?_)
    · obtain ⟨sG, eD⟩ := hG
      have hi : i < xs.length := (List.getElem?_eq_some_iff.mp hx).1
      obtain ⟨d, ed, hdx⟩ := h.get' hx
      rw [List.getElem?_map] at ed
      obtain ⟨r, er, rfl⟩ := Option.map_eq_some_iff.mp ed
      obtain ⟨b, z, vs, rfl, eb, ez, ev⟩ := row_dx (hdx.up sG)
      have h0 : 0 < rs.length := by omega
      obtain ⟨x0, e0, hd0⟩ := h.get (i := 0) (d := encR rs[0]) (by rw [List.getElem?_map, List.getElem?_eq_getElem h0]; rfl)
      obtain ⟨b0, z0, vs0, rfl, eb0, ez0, ev0⟩ := row_dx (hd0.up sG)
      have eh : rs.headD ⟨"", 0, [], 0⟩ = rs[0] := by
        cases rs with
        | nil => exact absurd h0 (by simp)
        | cons r rs => rfl
      refine ⟨rfl, .ref b, rfl, b, _, 2, .ref z, rfl, rfl, .inl (.inl eb), rfl, z, vs, rfl, .inr (.inl (.inl ez)), ?_⟩
      refine ⟨.ref a, rfl, a, xs, 0, .ref b0, rfl, rfl, .inl (.inl (sG _ _ ea)), atI_nat (j := 0) e0, b0, _, 2, .ref z0, rfl, rfl, .inl (.inl eb0), rfl, z0, vs0, rfl, .inr (.inl (.inl ez0)), rfl, _, eD, ?_, same_at sG nD, ?_⟩
      · rw [List.length_map, List.length_map, List.length_take]
        have hb : (1000 : Nat) < sizeLine := by decide
        omega
      · rw [upd_same, List.take_add_one, er, List.map_append, List.map_append, eh, ev, ev0, List.length_map, List.length_map]
        have eb : decide (V.int (r.vals.length : Int) = V.int (rs[0].vals.length : Int)) = decide (r.vals.length = rs[0].vals.length) := by
          by_cases z : r.vals.length = rs[0].vals.length
          · rw [decide_eq_true z, decide_eq_true (by rw [z])]
          · rw [decide_eq_false z, decide_eq_false (fun e => z (by have := V.int.inj e; omega))]
        rw [eb]
        rfl
    · obtain ⟨sG, eD⟩ := hG
      rw [List.take_of_length_le (by omega)] at eD
      refine ⟨D, _, rfl, .inl (.inl eD), ?_⟩
      have : (rs.map fun r => decide (r.vals.length = (rs.headD ⟨"", 0, [], 0⟩).vals.length)).all id = oneW rs := by
        rw [List.all_map]
        cases rs with
        | nil => rfl
        | cons r rs => rfl
      rw [this]
      exact q G sG
end
end Z1

set_option maxRecDepth 100000
set_option maxHeartbeats 4000000
namespace Z1
open PySem PySem.Spec PyProof.Rows L2 KX
/-! ### are_rows_of_one_width, is_rowset: any data -/
def intD' : PyData → Option Int
  | .int i => some i
  | _ => none
def recD : PyData → Rec
  | .tuple [.str n, .int c, .tuple vs, .int e] => ⟨n, c, vs.filterMap intD', e⟩
  | _ => ⟨"", 0, [], 0⟩
theorem ints_back : ∀ ns : List Int, (ns.map PyData.int).filterMap intD' = ns
  | [] => rfl
  | n :: ns => by
    rw [List.map_cons, List.filterMap_cons]
    show n :: (ns.map PyData.int).filterMap intD' = n :: ns
    rw [ints_back ns]
theorem recD_enc (r : Rec) : recD (encR r) = r := by
  show (⟨r.nm, r.cost, (r.vals.map PyData.int).filterMap intD', r.exp⟩ : Rec) = r
  rw [ints_back]
theorem ints_rec {lo hi : Int} : ∀ {ds : List PyData}, ds.all (betw lo hi) = true → ∃ ns : List Int, ds = ns.map .int
  | [], _ => ⟨[], rfl⟩
  | d :: ds, h => by
    rw [List.all_cons, Bool.and_eq_true] at h
    obtain ⟨ns, e⟩ := ints_rec h.2
    cases d with
    | int i => exact ⟨i :: ns, by rw [e]; rfl⟩
    | _ => exact absurd h.1 (by simp [betw])
theorem row_rec {d : PyData} (h : rowD d = true) : ∃ r, d = encR r := by
  match d, h with
  | .tuple [n, c, vs, e], h =>
    change (nameD n && betw 1 1000000 c && (valsD vs && betw 1 1000000000 e)) = true at h
    simp only [Bool.and_eq_true] at h
    obtain ⟨⟨h1, h2⟩, h3, h4⟩ := h
    cases n with
    | str n =>
      cases c with
      | int c =>
        cases e with
        | int e =>
          cases vs with
          | tuple ws =>
            simp only [valsD, Bool.and_eq_true] at h3
            obtain ⟨ns, rfl⟩ := ints_rec h3.2
            exact ⟨⟨n, c, ns, e⟩, rfl⟩
          | _ => simp [valsD] at h3
        | _ => simp [betw] at h4
      | _ => simp [betw] at h2
    | _ => simp [nameD] at h1
theorem rows_rec : ∀ {ds : List PyData}, ds.all rowD = true → ∃ rs : List Rec, ds = rs.map encR
  | [], _ => ⟨[], rfl⟩
  | d :: ds, h => by
    rw [List.all_cons, Bool.and_eq_true] at h
    obtain ⟨rs, e⟩ := rows_rec h.2
    obtain ⟨r, rfl⟩ := row_rec h.1
    exact ⟨r :: rs, by rw [e]; rfl⟩
theorem recs_back (rs : List Rec) : (rs.map encR).map recD = rs := by
  rw [List.map_map]
  have : recD ∘ encR = id := funext recD_enc
  rw [this, List.map_id]
def rowsD : PyData → Bool
  | .tuple ds => ds.all rowD && oneW (ds.map recD)
  | _ => false
def rowsetD : PyData → Bool
  | .tuple ds => decide (ds.length ≤ 60) && (rowsD (.tuple ds) && ascS ((ds.map recD).map (·.nm)))
  | _ => false
/-- its texts are not too long, it has not too many items -/
def SmR (d : PyData) : Prop := ∀ ds, d = .tuple ds → ds.length ≤ 1000 ∧ ∀ e ∈ ds, smA e
def spOW : Sp := fun vs H Q _ => ∃ (v : V) (d : PyData), vs = [v] ∧ Dx H v d ∧ SmR d ∧ ∀ H', Same H H' → Q (.bl (rowsD d)) H'
def spIR : Sp := fun vs H Q _ => ∃ (v : V) (d : PyData), vs = [v] ∧ Dx H v d ∧ SmR d ∧ ∀ H', Same H H' → Q (.bl (rowsetD d)) H'
theorem scOW : FnScope ["value", "row"] ["value"] (defScope sOW) := ⟨rfl, rfl, rfl, by decide +kernel, rfl, by decide +kernel, by decide +kernel⟩
theorem scIR : FnScope ["value"] ["value"] (defScope sIR) := ⟨rfl, rfl, rfl, by decide +kernel, rfl, by decide +kernel, by decide +kernel⟩
theorem isa_tupleT {ds : List PyData} : isaN "tuple" (.tuple ds) = true := isa_tuple
section
variable {P : Program} {w : World} {K : PySem.W.Frag} {mg : Str → Option Value} {base : Heap}
theorem ok_ow {k : Nat} {f fR fW : Addr} {fd fdR fdW : FuncData} (B : Bl mg) (D : Df K mg "are_rows_of_one_width" sOW ["value"] f fd) (DR : Df K mg "is_row" sRow ["value"] fR fdR) (DW : Df K mg "have_one_width" sHW ["rows"] fW fdW)
    (GR : FnOk P w K mg base CX0 k fR fdR ["value"] spRow) (GW : FnOk P w K mg base CX0 k fW fdW ["rows"] spHW) : FnOk P w K mg base CX0 (k + 1) f fd ["value"] spOW := by
  refine D.F.ok scOW (fun vs H Q E h => ?_) (fun cdv A outer s H vs Q E hr h => ?_)
  · obtain ⟨v, d, rfl, _⟩ := h
    rfl
  · obtain ⟨v, d, rfl, hd, hsm, q⟩ := h
    have nd := scOW.nd
    refine ⟨_, pss_cons (ps_if (PW.pt (pw_or (pt_not (pt_val (pe_isD (T := "tuple") (x := "tuple") (by decide +kernel) B.isi B.tuple (by decide +kernel) (pv 0) (by rfl) (by rfl))))
        (pw_or1 (pt_not (pt_val (pe_callB (cr_all rfl) (by rfl) B.all (by decide +kernel) (pa_cons (pe_lc (own := [("row", 1)]) (g := gName 1) rfl nd (pi_tup (pv 0)) (blkOk_by (N := ["value", "row"]) (sc := defScope sOW) (by decide +kernel))
          (fun _ _ _ _ _ => pg_name (i := 1) nd rfl (Or.inl rfl)) (fun _ _ _ _ _ => pts_nil) (fun _ _ _ _ _ => pe_call GR hr (by rfl) DR.g DR.F.kp DR.b .nil pass0 (pa_cons (pv 1) pa_nil))) pa_nil))))))) (pss_one (ps_ret pe_bl)) pss_nil)
      (pss_one (ps_ret (pe_call GW hr (by rfl) DW.g DW.F.kp DW.b .nil pass0 (pa_cons (pv 0) pa_nil)))), ?_⟩
    refine ⟨v, rfl, rfl, d, hd, _, rfl, ?_⟩
    rw [isa_tuple]
    cases d with
    | tuple ds =>
      obtain ⟨hl, sm⟩ := hsm ds rfl
      refine iteF ?_
      obtain ⟨a, xs, rfl, ea, hx⟩ : ∃ a xs, v = .ref a ∧ H a = some (.tup xs) ∧ Dxs H xs ds := by
        cases hd with
        | @tup a xs _ ea h => exact ⟨a, xs, rfl, ea, h⟩
      have lx := hx.len
      refine ⟨.ref a, rfl, a, rfl, ⟨_, .inl (.inl ea)⟩, fun L nL => ?_⟩
      refine lc_tup (xs := xs) (fun i G => Same H G ∧ G L = some (.lst (((ds.take i).map rowD).map V.bl))) ⟨same_new nL, upd_same⟩ (fun i G _ hG => .inl (.inl (hG.1 _ _ ea))) (fun i x G hx2 hG => ?_) (fun G hG => ?_)
      · obtain ⟨sG, eL⟩ := hG
        obtain ⟨e, ee, hxe⟩ := hx.get' hx2
        have hi : i < ds.length := (List.getElem?_eq_some_iff.mp ee).1
        refine ⟨rfl, x, rfl, x, e, rfl, hxe.up sG, sm e (List.mem_of_getElem? ee), fun G2 s2 => ⟨_, s2 _ _ eL, ?_, same_at (sG.trans s2) nL, ?_⟩⟩
        · rw [List.length_map, List.length_map, List.length_take]
          have hb : (1000 : Nat) < sizeLine := by decide
          omega
        · rw [upd_same, List.take_add_one, ee]
          simp
      · obtain ⟨sG, eL⟩ := hG
        rw [List.take_of_length_le (by omega)] at eL
        refine ⟨L, _, rfl, .inl (.inl eL), _, rfl, ?_⟩
        have e1 : (ds.map rowD).all id = ds.all rowD := by rw [List.all_map]; rfl
        rw [e1]
        change ∀ H', Same H H' → Q (.bl (ds.all rowD && oneW (ds.map recD))) H' at q
        cases er : ds.all rowD with
        | false =>
          rw [er] at q
          exact iteT (q G sG)
        | true =>
          rw [er] at q
          obtain ⟨rs, rfl⟩ := rows_rec er
          rw [recs_back] at q
          rw [List.length_map] at hl
          exact iteF ⟨.ref a, rfl, .ref a, rs, rfl, (Dx.tup ea hx).up sG, hl, fun G2 s2 => q G2 (sG.trans s2)⟩
    | _ => exact iteT (iteT (q H (Same.refl H)))
theorem ok_ir {k : Nat} {f fT fO fA fN : Addr} {fd fdT fdO fdA fdN : FuncData} (B : Bl mg) (cr : ∃ t, mg "MAX_ROWS" = some (.int 60 t)) (D : Df K mg "is_rowset" sIR ["value"] f fd) (DT : Df K mg "is_tuple_between" sTupB ["value", "low", "high"] fT fdT) (DO : Df K mg "are_rows_of_one_width" sOW ["value"] fO fdO)
    (DA : Df K mg "is_ascending" sAsc ["names"] fA fdA) (DN : Df K mg "names_of" sNO ["rows"] fN fdN) (GT : FnOk P w K mg base CX0 k fT fdT ["value", "low", "high"] spTupB) (GO : FnOk P w K mg base CX0 k fO fdO ["value"] spOW) (GA : FnOk P w K mg base CX0 k fA fdA ["names"] spAsc) (GN : FnOk P w K mg base CX0 k fN fdN ["rows"] spNO) :
    FnOk P w K mg base CX0 (k + 1) f fd ["value"] spIR := by
  obtain ⟨tr, mr⟩ := cr
  refine D.F.ok scIR (fun vs H Q E h => ?_) (fun cdv A outer s H vs Q E hr h => ?_)
  · obtain ⟨v, d, rfl, _⟩ := h
    rfl
  · obtain ⟨v, d, rfl, hd, hsm, q⟩ := h
    refine ⟨_, pss_cons (ps_if (PW.pt (pw_or (pt_not (pt_val (pe_call GT hr (by rfl) DT.g DT.F.kp DT.b .nil pass0 (pa_cons (pv 0) (pa_cons pe_int (pa_cons (pe_glob (v := .int 60) (by rfl) mr ⟨_, rfl⟩) pa_nil))))))
        (pw_or1 (pt_not (pt_val (pe_call GO hr (by rfl) DO.g DO.F.kp DO.b .nil pass0 (pa_cons (pv 0) pa_nil))))))) (pss_one (ps_ret pe_bl)) pss_nil)
      (pss_one (ps_ret (pe_call GA hr (by rfl) DA.g DA.F.kp DA.b .nil pass0 (pa_cons (pe_call GN hr (by rfl) DN.g DN.F.kp DN.b .nil pass0 (pa_cons (pv 0) pa_nil)) pa_nil)))), ?_⟩
    refine ⟨v, rfl, v, d, 0, 60, rfl, hd, _, rfl, ?_⟩
    cases d with
    | tuple ds =>
      have et : tupB 0 60 (.tuple ds) = (decide ((0 : Int) ≤ (ds.length : Int)) && decide ((ds.length : Int) ≤ 60)) := rfl
      change ∀ H', Same H H' → Q (.bl (decide (ds.length ≤ 60) && (rowsD (.tuple ds) && ascS ((ds.map recD).map (·.nm))))) H' at q
      rw [et, decide_eq_true (by omega)]
      by_cases h60 : ds.length ≤ 60
      · rw [decide_eq_true h60] at q
        rw [decide_eq_true (show (ds.length : Int) ≤ 60 by omega)]
        refine iteF ⟨v, rfl, v, _, rfl, hd, hsm, fun G sG => ⟨_, rfl, ?_⟩⟩
        cases er : rowsD (.tuple ds) with
        | false =>
          rw [er] at q
          exact iteT (q G sG)
        | true =>
          rw [er] at q
          have ea : ds.all rowD = true := by
            have : (ds.all rowD && oneW (ds.map recD)) = true := er
            rw [Bool.and_eq_true] at this
            exact this.1
          obtain ⟨rs, rfl⟩ := rows_rec ea
          rw [recs_back] at q
          rw [List.length_map] at h60
          refine iteF ⟨v, rfl, v, rs, rfl, hd.up sG, by omega, fun G2 p s2 hp => ?_⟩
          exact ⟨.ref p, rs.map (fun r : Rec => r.nm), rfl, hp, by rw [List.length_map]; omega, fun G3 s3 => q G3 ((sG.trans s2).trans s3)⟩
      · rw [decide_eq_false h60] at q
        rw [decide_eq_false (show ¬ (ds.length : Int) ≤ 60 by omega)]
        exact iteT (iteT (q H (Same.refl H)))
    | _ => exact iteT (iteT (q H (Same.refl H)))
end
end Z1

set_option maxRecDepth 100000
set_option maxHeartbeats 1000000
/-! KeyError as a base of an own exception class: __new__ is LookupError's, __init__ its own -/
namespace KX
open PySem PySem.F PySem.Spec PyProof.Rows L2 HandSPX
def kyTl : List Value := [.type "KeyError", .type "LookupError", .type "Exception", .type "BaseException", .type "object"]
/-- what is known of the __init__ of a built-in exception class -/
structure IniB (B iniI : String) : Prop where
  slot : Slot B "__init__" iniI
  ent : entryFor table iniI = some Builtin.«BaseException.__init__»
  spl : splitId iniI = some (B, "__init__")
  knd : builtinKind iniI = some .slot
  row : Manifest.signature? iniI = some ⟨.positional, "*", B, .self, [⟨"args", .varPos, false⟩]⟩
theorem kyIni : IniB "KeyError" "KeyError.__init__" :=
  ⟨.of (owner := "KeyError") (n := "__init__") (by rw [typeLookup_type, builtinLookup_eq_fast]; kernel_rfl) (by decide +kernel) (by decide +kernel) (by decide +kernel) (by first | exact .inl (by decide +kernel) | exact .inr (by decide +kernel)) (by rw [isSubtype_type]; kernel_rfl),
   entryFor_alias (id' := "BaseException.__init__") (by rw [fastTable_eq_tree]; kernel_rfl) (by first | rfl | decide +kernel) (by decide +kernel) (by rw [fastTable_eq_tree]; kernel_rfl), by kernel_rfl, by kernel_rfl, by kernel_rfl⟩
theorem kyStore : StoreFacts "KeyError" kyTl "object.__setattr__" "object" := by
  have i := PySem.F.store_IndexError
  refine ⟨by kernel_rfl, ?_, i.entry, i.kind, i.split, by decide +kernel, i.args, fun z => by kernel_rfl⟩
  exact .of (owner := "object") (n := "__setattr__") (by rw [typeLookup_type, builtinLookup_eq_fast]; kernel_rfl) (by decide +kernel) (by decide +kernel) (by decide +kernel) (by first | exact .inl (by decide +kernel) | exact .inr (by decide +kernel)) (by rw [isSubtype_type]; kernel_rfl)
/-- of the class at C, whose tail is bm: the built-in class B makes it, D's __init__ fits it -/
structure Tl (B D : String) (bm : List Value) : Prop where
  b : bm.contains (.type B) = true
  d : bm.contains (.type D) = true
  a : bm.contains (.type "AttributeError") = false
  n : bm.contains (.type "NameError") = false
section
variable {M : Model} {prog : Program} {w : World} {A : Around} {E : Value → Shared → Prop} {R : Result → Shared → Prop} {hp : Heap} {g : Array GenState} {dr : Drawn} {tk : Nat} {os : OsState}
variable {nm q : Str} {C N : Addr} {bs bm bB : List Value} {hdct : Bool} {sn : List Str} {sub : List Value} {ab : Bool} {col : Option Bool} {dd : Option Addr} {k0 k1 k2 k3 k5 : Option Value} {B D newI oldI iniI : String} {rest : List Value}
theorem new_ok2 (L : ExcBaseFacts B newI oldI bB) (T : Tl B D bm) {Q : Unit → Shared → Prop} (at' : hp.get? C = some (excClassObj nm q C N bs bm hdct sn sub ab col dd k0 k1 k2 k3 k5 newI)) (k : Q () ⟨hp, g, dr, tk, os⟩) :
    wpAny M A (checkBuiltinCall newI ⟨.ref C :: rest, []⟩) Q E ⟨hp, g, dr, tk, os⟩ := by
  have inB : (Value.ref C :: bm).contains (.type B) = true := by rw [List.contains_cons, T.b, Bool.or_true]
  have star := L.noStar
  simp only [checkBuiltinCall, L.newKind, L.newSplit, L.newRow]
  repeat (first | refine wpAny_loadPart_at at' ?_ | (refine wpAny_isSubtype_exc at' ?_; rw [inB]) | refine wpAny_staticBase_exc at' ?_ | refine wpAny_madeBy_exc at' ?_ | simp only [bne_self_eq_false, Bool.false_eq_true, if_false] | wp_step)
  exact k
theorem ini_ok2 (J : IniB D iniI) (nst : (D != "*") = true) (T : Tl B D bm) {e : Addr} {oe : Obj} {Q : Unit → Shared → Prop} (at' : hp.get? C = some (excClassObj nm q C N bs bm hdct sn sub ab col dd k0 k1 k2 k3 k5 newI)) (ae : hp.get? e = some oe) (ce : oe.cls = .ref C) (k : Q () ⟨hp, g, dr, tk, os⟩) :
    wpAny M A (checkBuiltinCall iniI ⟨.ref e :: rest, []⟩) Q E ⟨hp, g, dr, tk, os⟩ := by
  have inD : (Value.ref C :: bm).contains (.type D) = true := by rw [List.contains_cons, T.d, Bool.or_true]
  simp only [checkBuiltinCall, J.knd, J.spl, J.row]
  repeat (first | (with_reducible refine wpAny_loadPart_at ae ?_; rw [ce]) | with_reducible refine wpAny_loadPart_at at' ?_ | (with_reducible refine wpAny_isSubtype_exc at' ?_; rw [inD]) | wp_step)
  refine wpAny_onRaise ?_
  rw [show ∀ (x y : String) (m : Nat), Bind.check ⟨.positional, "*", D, .self, [⟨"args", .varPos, false⟩]⟩ x y m (List.map (fun z => z.fst) ({ pos := Value.ref e :: rest } : Args).kw) = pure () from fun x y m => check_star_args _ _ _ _ _ _]
  exact wpAny_pure k
theorem made2 (L : ExcBaseFacts B newI oldI bB) (T : Tl B D bm) (at' : hp.get? C = some (excClassObj nm q C N bs bm hdct sn sub ab col dd k0 k1 k2 k3 k5 newI))
    (k : R (.ok (.ret (.ref (hp.objs.size + 1)))) ⟨(hp.push (W.kdv_tup rest)).push (excO C hp.objs.size), g, dr, tk, os⟩) (hl : rest.length ≤ sizeLine) : codeAny (model prog w) A (.builtin newI ⟨.ref C :: rest, []⟩) R ⟨hp, g, dr, tk, os⟩ := by
  have en := L.ends
  have inB : (Value.ref C :: bm).contains (.type B) = true := by rw [List.contains_cons, T.b, Bool.or_true]
  have noA : (Value.ref C :: bm).contains (.type "AttributeError") = false := by rw [List.contains_cons, T.a]; rfl
  have noN : (Value.ref C :: bm).contains (.type "NameError") = false := by rw [List.contains_cons, T.n]; rfl
  refine codeAny_builtinAt L.entry ?_
  unfold Builtin.«BaseException.__new__»
  refine PyProof.Rows.wpAt_bind (show PyProof.Rows.wpAt _ _ _ (stack >>= _) _ _ _ from PyProof.Rows.wpAt_bind (PyProof.Rows.wpAt_stack fun p below => wpAt_of_wpAny ?_))
  wp_walk
  refine wpAt_of_wpAny ?_
  rw [L.owner]
  repeat (first | with_reducible refine wpAny_madeHere_exc L.canon at' ?_ | with_reducible refine wpAny_loadPart_at at' ?_ | (with_reducible refine wpAny_isSubtype_exc at' ?_; first | rw [inB] | rw [noA] | rw [noN]) | wp_step)
  show R _ _
  rw [Heap.size_push]
  exact k
theorem tcall2 (L : ExcBaseFacts B newI oldI bB) (T : Tl B D bm) {fI : Addr} {Q : Fin → Shared → Prop} (at' : hp.get? C = some (excClassObj nm q C N bs bm hdct sn sub ab col dd k0 k1 k2 k3 k5 newI))
    (li : W.Looks (model prog w) hp (typeLookup (.ref C) "__init__") (some (.ref fI))) (lb : ∀ z, W.Looks (model prog w) hp (bindSpecial (.ref fI) z) (.ref fI, [z])) (hl : rest.length ≤ sizeLine)
    (k : codeAny (model prog w) A (.call (.ref fI) ⟨.ref (hp.objs.size + 1) :: rest, []⟩) (fun r s' => match r with | .ok (.ret v) => v = .none ∧ Q (.done (.ret (.ref (hp.objs.size + 1)))) s' | .ok _ => False | .error e => E e s')
      ⟨(hp.push (W.kdv_tup rest)).push (excO C hp.objs.size), g, dr, tk, os⟩) : wpAny (model prog w) A (Builtin.«type.__call__» ⟨.ref C :: rest, []⟩) Q E ⟨hp, g, dr, tk, os⟩ := by
  repeat (first | with_reducible refine wpAny_loadPart_at at' ?_ | with_reducible refine wpAny_madeBy_exc at' ?_ | wp_step)
  refine codeAny_call_builtin_code (Code.quiet_builtin _ L.quiet) (new_ok2 L T at' (made2 L T at' ?_ hl))
  show wpAny _ _ _ _ _ _
  have old : ∀ b o, hp.get? b = some o → ((hp.push (W.kdv_tup rest)).push (excO C hp.objs.size)).get? b = some o := fun b o z => Heap.get?_push_of_some _ (Heap.get?_push_of_some _ z)
  have at1 := old _ _ at'
  have new1 : ((hp.push (W.kdv_tup rest)).push (excO C hp.objs.size)).get? (hp.objs.size + 1) = some (excO C hp.objs.size) := by heap_get
  have self1 : (Value.ref C :: bm).contains (.ref C) = true := by simp
  unfold isInstance
  repeat (first | with_reducible refine wpAny_loadPart_at new1 ?_ | (with_reducible refine wpAny_isSubtype_exc at1 ?_; rw [self1]) | wp_step)
  show wpAny _ _ (typeLookup (.ref C) _) _ _ _
  refine (li.keeps old).at (wpAny_holding (wpAny_bind (((lb (.ref (hp.objs.size + 1))).keeps old).at (wpAny_bind (wpAny_call (codeAny_mono k fun r s' z => ?_))))))
  rcases r with e | (v | _ | _ | _) <;> first | exact z | exact z.elim | skip
  obtain ⟨rfl, z⟩ := z
  first | exact wpAny_pure (wpAny_pure z) | (wp_walk; exact z)
theorem own2 (L : ExcBaseFacts B newI oldI bB) (T : Tl B D bm) {fI : Addr} (at' : hp.get? C = some (excClassObj nm q C N bs bm hdct sn sub ab col dd k0 k1 k2 k3 k5 newI))
    (li : W.Looks (model prog w) hp (typeLookup (.ref C) "__init__") (some (.ref fI))) (lb : ∀ z, W.Looks (model prog w) hp (bindSpecial (.ref fI) z) (.ref fI, [z])) (hl : rest.length ≤ sizeLine)
    (k : codeAny (model prog w) (A.under (.builtin "type.__call__" ⟨.ref C :: rest, []⟩)) (.call (.ref fI) ⟨.ref (hp.objs.size + 1) :: rest, []⟩) (W.InitBack (hp.objs.size + 1) R)
      ⟨(hp.push (W.kdv_tup rest)).push (excO C hp.objs.size), g, dr, tk, os⟩) : codeAny (model prog w) A (.call (.ref C) ⟨rest, []⟩) R ⟨hp, g, dr, tk, os⟩ := by
  have c1 := tc_lookup
  have c2 := tc_bind (.ref C)
  have c3 : (⟨hp, g, dr, tk, os⟩ : Shared).TypeIs (.ref C) "type" := ⟨_, at', rfl⟩
  refine codeAny_of_tree (show wpAny _ _ (callAny (.ref C) _) _ _ _ from ?_)
  repeat (any_goals (first | assumption | with_reducible refine wpAny_loadPart_at at' ?_ | wp_step))
  refine ⟨rfl, ?_⟩
  refine codeAny_call_builtin_at (Code.quiet_builtin _ (by decide +kernel)) entry_typeCall (wpAny_check_type_call_sub at' (tcall2 L T at' li lb hl (codeAny_mono k fun r s' z => ?_)))
  rcases r with e | (v | _ | _ | _) <;> exact z
/-- D.__init__(e, ..): the args are laid anew -/
theorem inib2 (J : IniB D iniI) (nst : (D != "*") = true) (T : Tl B D bm) {e t0 : Addr} (at' : hp.get? C = some (excClassObj nm q C N bs bm hdct sn sub ab col dd k0 k1 k2 k3 k5 newI)) (ae : hp.get? e = some (excO C t0)) (hl : rest.length ≤ sizeLine)
    (k : ∀ h' t1, (∀ b o, b ≠ e → hp.get? b = some o → h'.get? b = some o) → h'.get? e = some (excO C t1) → R (.ok (.ret .none)) ⟨h', g, dr, tk, os⟩) : codeAny (model prog w) A (.call (.builtin iniI) ⟨.ref e :: rest, []⟩) R ⟨hp, g, dr, tk, os⟩ := by
  refine codeAny_call_builtin J.slot.plain J.ent (ini_ok2 J nst T at' ae rfl ?_)
  wp_walk
  refine k _ hp.objs.size (fun b o hb ho => ?_) ?_
  · rw [Heap.get?_update_other _ _ hb.symm]
    exact Heap.get?_push_of_some _ ho
  · rw [Heap.get?_update_self _ (Heap.get?_push_of_some _ ae) rfl]
    rfl
end
end KX

set_option maxRecDepth 100000
set_option maxHeartbeats 4000000
/-! an own exception class right over KeyError, whose __init__ says KeyError.__init__(self, x) and then stores -/
namespace KY
open PySem PySem.Spec PyProof.Rows L2 KX
/-- what the library knows of the built-in class B, whose __new__ may be another class's -/
structure XB2 (B newI iniI : String) (tl : List Value) : Prop where
  sf : PySem.StoreFacts B tl "object.__setattr__" "object"
  j : IniB B iniI
  ns : (B != "*") = true
  mks : ∃ (LB oldI : String) (bB : List Value), PySem.ExcBaseFacts LB newI oldI bB ∧ Tl LB B tl
theorem XB2.tl {B newI iniI : String} {tl bm : List Value} (T : XB2 B newI iniI tl) (h : ∀ X : String, bm.contains (.type X) = tl.contains (.type X)) : ∃ (LB oldI : String) (bB : List Value), PySem.ExcBaseFacts LB newI oldI bB ∧ Tl LB B bm := by
  obtain ⟨LB, oldI, bB, L, t⟩ := T.mks
  exact ⟨LB, oldI, bB, L, by rw [h]; exact t.b, by rw [h]; exact t.d, by rw [h]; exact t.a, by rw [h]; exact t.n⟩
/-- what the written part says of the class at C -/
structure XC2 (K : PySem.W.Frag) (B newI iniI : String) (tl : List Value) (C : Addr) : Prop where
  b : XB2 B newI iniI tl
  ini : PySem.W.excInitIn K C tl newI = true
  ovr : PySem.W.excOver K C tl = true
  sa : PySem.W.findIn K (.ref C) "__setattr__" = some (some (.builtin "object.__setattr__"))
  hd : PySem.W.hasDictIn K C = true
  sub : PySem.W.subIn K (.ref C) (.type "BaseException") = some true
  ty : PySem.W.typeIn K (.ref C) = some (.type "type")
  kp : PySem.W.keepIn K (.ref C) = true
section
open PySem.W PySem.Calls PySem.HandSPX Builtin Builtin.ObjectAttr
variable {prog : Program} {w : World} {A : Around} {E : Value → Shared → Prop} {R : Result → Shared → Prop} {hp : Heap} {g : Array GenState} {d : Drawn} {t : Nat} {os : OsState}
/-- the first store into such an exception -/
theorem osa_first {K : PySem.W.Frag} {nm : Str} {tk : Tok} {v : Value} {x C : Addr} {fv : Array Value} {B newI iniI : String} {tl : List Value} (T : XC2 K B newI iniI tl C)
    (X : K.In hp) (hx : hp.get? x = some { cls := .ref C, data := .fields fv }) (ha : PySem.W.findIn K (.ref C) nm = some none)
    (done : ∀ h2 tk2 dx, (∀ b o, b ≠ x → hp.get? b = some o → h2.get? b = some o) → hp.objs.size ≤ dx → dx ≠ x → h2.get? x = some { cls := .ref C, dict := some dx, data := .fields fv } →
      h2.Ns1 dx (fun y => if y = nm then some v else none) → R (.ok (.ret .none)) ⟨h2, g, d, tk2, os⟩) :
    codeAny (model prog w) A (.call (.builtin "object.__setattr__") ⟨[.ref x, .str nm tk, v], []⟩) R ⟨hp, g, d, t, os⟩ := by
  have tkr : PySem.W.takerIn K C nm = some none := by unfold PySem.W.takerIn; rw [ha]; rfl
  refine PySem.W.osa_openX (s := ⟨hp, g, d, t, os⟩) (od := none) T.b.sf X ⟨hx, rfl, rfl, trivial⟩ T.ovr tkr fun b => ?_
  obtain ⟨cd, hc, hdd⟩ := PySem.W.any_some T.hd
  have hcls : PySem.W.Looks (model prog w) hp (classData C) cd := PySem.W.looks_clsIn X hc
  have far : x ≠ hp.objs.size := Nat.ne_of_lt (Heap.lt_size hx)
  obtain ⟨nm', bs, mro, ns, qn, hd', sn, sb, ab, col, del⟩ := cd
  dsimp only at hdd
  subst hdd
  dsimp only
  unfold storeInOwnDict ownDictForStores
  repeat (first | with_reducible refine store_in_new ?_ ?_ | with_reducible refine wpAny_loadPart_at hx ?_ | with_reducible refine hcls.at ?_ | wp_step)
  · exact ⟨_, #[], _, (Heap.get?_update_ne _ _ _ _ far.symm).trans (Heap.get?_push_at rfl rfl), rfl, fun e he => absurd he (by simp), fun _ => rfl⟩
  · intro h2 tk2 hn2 hs
    have hx1 : (hp.push { cls := .type "dict", data := .dict #[] }).get? x = some { cls := .ref C, data := .fields fv } := Heap.get?_push_of_some _ hx
    refine done h2 tk2 hp.objs.size (fun b o hb ho => ?_) (Nat.le_refl _) far.symm ?_ hn2
    · have z := Heap.get?_push_of_some { cls := .type "dict", data := .dict #[] } ho
      exact (hs.2 b (Nat.ne_of_lt (Heap.lt_size ho))).trans ((Heap.get?_update_ne _ _ _ _ hb).trans z)
    · have z := Heap.get?_update_self (fun o => { o with dict := some hp.objs.size }) hx1 rfl
      exact (hs.2 x far).trans z
end
section
variable {X : Cx} {pins : List (Addr × Obj)} {σ : L2.St} {H : Hp} {s : Shared} {a C dx : Addr} {f : Str} {y : V} {u : Value} {E : Value → Shared → Prop} {A : Around} {B newI iniI : String} {tl : List Value}
/-- self.f = y, the first store -/
theorem store_first {Q : Unit → Shared → Prop} (T : XC2 X.K B newI iniI tl C) (I : Inv X pins σ H s) (e : H a = some (exo a C none)) (hno : PySem.W.findIn X.K (.ref C) f = some none) (ry : RelV y u)
    (go : ∀ dx s2, H dx = none → dx ≠ a → Inv X pins σ (upd (upd H dx (exd dx [(f, y)])) a (exo a C (some dx))) s2 → Q () s2) :
    wpAny (model X.prog X.w) A (setAttr (.ref a) f u) Q E s := by
  obtain ⟨t1, ho⟩ := exo_at I.hok e
  obtain ⟨hp, g, d, t, os⟩ := s
  refine PySem.W.set_plain I.kIn (ox := { cls := .ref C, dict := none, data := .fields #[.ref t1, .none, .none, .none, .bool false, .none] })
    (od := none) ⟨ho, rfl, rfl, trivial⟩ T.sa (osa_first T I.kIn ho hno (fun h2 tk2 dx k dn dne hx hn => ?_))
  have hnd : H dx = none := I.hok.fresh dn
  have new : ∀ {b : Addr} {o : Obj}, hp.get? b = some o → b ≠ dx := fun {b o} q => Nat.ne_of_lt (Nat.lt_of_lt_of_le (Heap.lt_size q) dn)
  have notA : ∀ {b : Addr}, H b = none → b ≠ a := fun {b} n z => by
    rw [z, e] at n
    cases n
  have U : Un X.fs [] H (upd (upd H dx (exd dx [(f, y)])) a (exo a C (some dx))) hp h2 := {
    keep := fun b o q n _ _ => k b o (notA n) q
    slot := fun b o q n _ _ => ⟨o.slots, k b o (notA n) q⟩
    free := fun b o q n _ => by rw [upd_ne (notA n), upd_ne (new q)]; exact n
    there := fun b o q _ => by
      by_cases hb : b = a
      · exact ⟨_, by rw [hb]; exact hx⟩
      · exact ⟨o, k b o hb q⟩
    tups := fun b xs q => by rw [upd_ne (at_ne e q exo_tup), upd_ne (ne_of_none q hnd)]; exact q
    frzs := fun b o v q => by rw [upd_ne (at_ne e q exo_frz), upd_ne (ne_of_none q hnd)]; exact q
    tbls := fun b ps q => ⟨#[], by rw [upd_ne (at_ne e q exo_tbl), upd_ne (ne_of_none q hnd), q]; simp⟩ }
  refine go dx _ hnd dne (I.un (t' := tk2) U fun b o q => ?_)
  by_cases hb : b = a
  · subst hb
    rw [upd_same] at q
    cases q
    exact exo_ok hx
  · rw [upd_ne hb] at q
    by_cases hd : b = dx
    · subst hd
      rw [upd_same] at q
      cases q
      exact exd_ok hn (relO_put (fs := []) ry fun g => True.intro)
    · rw [upd_ne hd] at q
      refine (I.hok b o q).stay (fun c v hc z => k c v ?_ z) (fun c hc => ?_) (fun c xs hc => ?_)
      · rcases hc with hc | hc
        · rw [hc]
          exact hb
        · exact at_ne e hc exo_own
      · rw [upd_ne (at_ne e hc exo_own), upd_ne (ne_of_none hc hnd)]
        exact hc
      · rw [upd_ne (at_ne e hc exo_tup), upd_ne (ne_of_none hc hnd)]
        exact hc
/-- B.__init__(self, ..): nothing of it is told -/
theorem init_told {us : List Value} {Q : Value → Shared → Prop} (T : XC2 X.K B newI iniI tl C) (I : Inv X pins σ H s) (e : H a = some (exo a C none)) (hl : us.length ≤ sizeLine) (go : ∀ s2, Inv X pins σ H s2 → Q .none s2) :
    wpAny (model X.prog X.w) A (call (.builtin iniI) (.ref a :: us)) Q E s := by
  obtain ⟨nm, N, qn, bs, bm, hdct, sn, sub, ab, col, dd, k0, k1, k2, k3, k5, hC, hT⟩ := PySem.W.excInit_of I.kIn T.ini
  obtain ⟨t1, ho⟩ := exo_at I.hok e
  obtain ⟨hp, g, d, t, os⟩ := s
  obtain ⟨LB, oldI, bB, L, tlb⟩ := T.b.tl hT
  refine wpAny_call (inib2 T.b.j T.b.ns tlb hC ho hl fun h2 t2 k hx => go _ ?_)
  have J := I.write (t' := t) (x := a) (e := a) (o := exo a C none) (by rw [e]; exact True.intro) (.inl rfl) k ⟨_, hx⟩ (exo_ok hx)
  have same : upd H a (exo a C none) = H := by
    funext b
    by_cases hb : b = a
    · rw [hb, upd_same, e]
    · rw [upd_ne hb]
  rw [same] at J
  exact J
end
/-- B.__init__(self, ..) -/
def tBini (K : PySem.W.Frag) (B newI iniI : String) (tl : List Value) (ta : TA) : TE := fun σ H Q => ta σ H fun vs H1 =>
  ∃ (a C : Addr) (ws : List V), vs = .ref a :: ws ∧ ws.length ≤ 1000 ∧ XC2 K B newI iniI tl C ∧ H1 a = some (exo a C none) ∧ Q .non H1
/-- self.f = e, the first store -/
def tFst (K : PySem.W.Frag) (B newI iniI : String) (tl : List Value) (f : Str) (to te : TE) : TS := fun D σ H => te σ H fun y H1 => to σ H1 fun x H2 =>
  ∃ a C : Addr, x = .ref a ∧ XC2 K B newI iniI tl C ∧ PySem.W.findIn K (.ref C) f = some none ∧ H2 a = some (exo a C none) ∧
    ∀ dx, H2 dx = none → dx ≠ a → D.nx σ (upd (upd H2 dx (exd dx [(f, y)])) a (exo a C (some dx)))
section
variable {X : Cx} {o e : Expr} {es : List Expr} {to te : TE} {ta : TA} {f : Str} {p p' p1 p2 pos : Pos} {B newI iniI : String} {tl : List Value}
theorem ps_fst (ho : PE X o to) (he : PE X e te) (hs : swapsWith e (some (.Attribute o f p')) pos.line X.env = pure false := by rfl) : PS X (.Assign [.Attribute o f p'] e pos) (tFst X.K B newI iniI tl f to te) := by
  refine ⟨fun pins s σ H D I h => ?_⟩
  refine plainObj_wpAny_Assign_Attribute (thn (he.run pins s σ H _ I h) fun v s1 z1 => ?_) hs
  obtain ⟨y, H1, I1, r1, q1⟩ := z1
  refine thn (ho.run pins s1 σ H1 _ I1 q1) fun u s2 z2 => ?_
  obtain ⟨x, H2, I2, r2, a, C, ex, T, hno, ea, q⟩ := z2
  subst ex
  obtain rfl : u = Value.ref a := r2
  exact store_first T I2 ea hno r1 fun dx s3 n ne J => ⟨σ, _, J, q dx n ne⟩
theorem pe_bini {pl : Sem Bool} (hg : Gl X "KeyError") (hm : X.mg "KeyError" = none) (vV : PySem.W.findCls X.K (.type "KeyError") (.type "type") "__init__" = some (.val (.builtin "KeyError.__init__"))) (ha : PA X (e :: es) ta)
    (hc : eval (.Call (.Attribute (.Name "KeyError" p1) "__init__" p2) (e :: es) [] pos) X.env = (do
      let cv ← eval (.Name "KeyError" p1) X.env
      standAt p2.atName
      let (fn, ahead) ← holding [cv] (getMethod cv "__init__" pl)
      callWith pos fn ahead (backTo pos (starEach (e :: es) X.env)) (backToKw pos (keywordEach [] X.env))) := by rfl)
    (he : starEach (e :: es) X.env = (false, eval e X.env) :: starEach es X.env := by rfl) (hpl : (backTo pos (starEach es X.env)).any (·.1) = false := by rfl) :
    PE X (.Call (.Attribute (.Name "KeyError" p1) "__init__" p2) (e :: es) [] pos) (tBini X.K "KeyError" newI "KeyError.__init__" tl ta) := by
  refine ⟨fun pins s σ H Q I h => ?_⟩
  have ty : typeOf (.type "KeyError") = pure (.type "type") := by kernel_rfl
  refine PySem.W.methodCall_KW (ld_blt I hg hm PyProof.Rows.Boot.«KeyError» ?_ (by decide) (by decide)) hc
  obtain ⟨m, fr⟩ := I.fr
  refine PySem.W.method_type fr I.ok.mod.kin ty (by decide +kernel) vV (by decide +kernel) ?_
  show wpAny _ _ (callWith pos (Value.builtin "KeyError.__init__") [] (backTo pos (starEach (e :: es) X.env)) []) _ _ _
  refine PyProof.Rows.callWith_method1 (thn (ha.run pos pins _ σ H _ (I.tok _) h) fun us s1 z => ?_) he hpl
  obtain ⟨vs, H1, I1, r1, a, C, ws, ev, hl, T, ea, q⟩ := z
  subst ev
  cases r1 with
  | @cons _ u0 _ ur ra rw' =>
    obtain rfl : u0 = Value.ref a := ra
    have hlen : ur.length ≤ sizeLine := by
      rw [← Paired.length rw', sizeLine_eq]
      omega
    exact init_told T I1 ea hlen fun s2 J => ⟨.non, H1, J, rfl, q⟩
/-- C(e, ..) -/
theorem pmk_x {CX : CXT} {x : Str} {C fI : Addr} {k : Nat} {fd : FuncData} {ps : List Str} {sp : Sp} (T : XC2 X.K B newI iniI tl C) (iC : PySem.W.findIn X.K (.ref C) "__init__" = some (some (.ref fI)))
    (tI : PySem.W.typeIn X.K (.ref fI) = some (.type "function")) (F1 : FnOk X.prog X.w X.K X.mg X.base CX k fI fd ps sp) (hr : Room (k + 1) X.A) (hb : Binds X.K fd ps []) (hx : Passes CX X (fun _ _ _ => False)) (hg : Gl X x)
    (hm : X.mg x = some (.ref C)) (ha : PA X (e :: es) ta) (hdb : (x == ("__debug__" : Str)) = false := by decide) (he : starEach (e :: es) X.env = (false, eval e X.env) :: starEach es X.env := by rfl)
    (hpl : (backTo pos (starEach es X.env)).any (·.1) = false := by rfl) : PMk X (.Call (.Name x p) (e :: es) [] pos) (tMkO C sp [] ta) := by
  intro pins s σ H Q I h
  obtain ⟨nm, N, qn, bs, bm, hdct, sn, sub, ab, col, dd, k0, k1, k2, k3, k5, hC, hT⟩ := PySem.W.excInit_of I.kIn T.ini
  refine wpAny_Call_Name_kw (ld_glob I hg hm ?_ hdb)
  refine PySem.W.callWith_K (h₀ := X.base) I.ok.mod.kin T.kp (thn (ha.run pos pins s σ H _ I h) fun us s1 z => ?_) he hpl
  obtain ⟨vs, H1, I1, r1, hz, q1⟩ := z
  have X1 := I1.kIn
  refine ⟨X1, ?_⟩
  obtain ⟨nm, N, qn, bs, bm, hdct, sn, sub, ab, col, dd, k0, k1, k2, k3, k5, hC, hT⟩ := PySem.W.excInit_of X1 T.ini
  show wpAny _ _ (call (.ref C) us) _ _ _
  obtain ⟨hp, g, dr, tk, os⟩ := s1
  have up : hp.objs.size ≤ hp.objs.size + 1 := Nat.le_succ _
  have hq := q1 (hp.objs.size + 1) (I1.hok.fresh up)
  have kk : ∀ b o, hp.get? b = some o → ((hp.push (PySem.W.kdv_tup us)).push (PySem.HandSPX.excO C hp.objs.size)).get? b = some o :=
    fun b o e => Heap.get?_push_of_some _ (Heap.get?_push_of_some _ e)
  have hget : ((hp.push (PySem.W.kdv_tup us)).push (PySem.HandSPX.excO C hp.objs.size)).get? (hp.objs.size + 1) = some (PySem.HandSPX.excO C hp.objs.size) := by heap_get
  have I2 : Inv X pins σ (upd H1 (hp.objs.size + 1) (exo (hp.objs.size + 1) C none)) ⟨(hp.push (PySem.W.kdv_tup us)).push (PySem.HandSPX.excO C hp.objs.size), g, dr, tk, os⟩ :=
    I1.laid (t' := tk) (a := hp.objs.size + 1) (o := exo (hp.objs.size + 1) C none) (h' := (hp.push (PySem.W.kdv_tup us)).push (PySem.HandSPX.excO C hp.objs.size)) kk up (exo_ok hget)
  have r2 : Vals (V.ref (hp.objs.size + 1) :: (vs ++ [])) (Value.ref (hp.objs.size + 1) :: us) := .cons rfl (by rw [List.append_nil]; exact r1)
  have hl : (Value.ref (hp.objs.size + 1) :: us).length = ps.length := by
    rw [← r2.length]
    exact F1.len _ _ _ _ hq
  have hus : us.length ≤ sizeLine := by
    rw [← Paired.length r1, sizeLine_eq]
    omega
  have hbd := hb ⟨(hp.push (PySem.W.kdv_tup us)).push (PySem.HandSPX.excO C hp.objs.size), g, dr, tk, os⟩ (Value.ref (hp.objs.size + 1) :: us) I2.kIn (by rw [List.append_nil]; exact hl)
  rw [List.append_nil] at hbd
  have go := F1.run _ X.stack _ _ ⟨Value.ref (hp.objs.size + 1) :: us, []⟩ (Value.ref (hp.objs.size + 1) :: us) _ _ (fun _ _ _ => False) (hr.make C us []) (I2.env0.make C us []) hbd r2 hq
  obtain ⟨LB, oldI, bB, L, tlb⟩ := T.b.tl hT
  refine wpAny_call (own2 L tlb hC (PySem.W.looks_findIn X1 iC) (fun self => PySem.W.bind_fn X1 self tI) hus (codeAny_mono go fun r s2 z => ?_))
  cases r with
  | error er => exact hx pins σ _ _ er s2 I2 z
  | ok fl =>
    cases fl with
    | ret u =>
      obtain ⟨v, H2, os2, bare2, un2, hok2, rv, ev, d, fs, ea, ed, hd1, q2⟩ := z
      subst ev
      obtain ⟨h2, g2, d2, t2, os'⟩ := s2
      exact ⟨rv, mk_end (raises_own T.sub T.ty) I1 up kk un2 hok2 os2 bare2 ea ed hd1 q2⟩
    | next => exact False.elim z
    | brk => exact False.elim z
    | cont => exact False.elim z
end
theorem kyB : XB2 "KeyError" "LookupError.__new__" "KeyError.__init__" kyTl := ⟨kyStore, kyIni, by decide +kernel, _, _, _, PySem.F.excBase_LookupError, by decide +kernel, by decide +kernel, by decide +kernel, by decide +kernel⟩
end KY

set_option maxRecDepth 100000
set_option maxHeartbeats 2000000
open PySem PySem.Spec PyProof.Rows L2 KX
/-! ### a method of a made tuple: its object is remembered -/
namespace KX
section
variable {X : Cx}
/-- tuple(list): a new tuple, whose object has no dict -/
theorem call_tupleF : CallR X (.type "tuple") (fun xs H Q => ∃ p ys, xs = [.ref p] ∧ SqL X.K H p ys ∧ ∀ l o, H l = none → o.cls = .type "tuple" → o.dict = none → Q (.ref l) (upd H l (.frz o (.tup ys)))) := by
  intro pins s σ H xs us Q I r h
  obtain ⟨p, ys, rfl, hq, q⟩ := h
  obtain ⟨u, rfl, rx⟩ := vals1 r
  cases rx
  obtain ⟨its, rv, pl, hz⟩ := I.list hq
  have hn := rv.length
  refine call_tuple_list pl.isList (fun hp2 kp => ?_) (by simp only [List.size_toArray] <;> omega)
  have J : Inv X pins σ H { s with heap := hp2 } := I.kept (t' := s.toks) kp
  have J2 : Inv X pins σ (upd H hp2.objs.size (.frz { cls := .type "tuple", data := .seq its.toArray } (.tup ys))) { s with heap := hp2.push { cls := .type "tuple", data := .seq its.toArray } } :=
    J.laid (t' := s.toks) (fun b o e => Heap.get?_push_of_some _ e) (Nat.le_refl _) (show ObjOk X.prog X.w _ _ _ (.frz _ (.tup ys)) from ⟨Heap.get?_push_size _ rfl, hz, its, rv, IsTup.new _ _⟩)
  exact ⟨.ref hp2.objs.size, _, J2, rfl, q _ _ (J.hok.fresh (Nat.le_refl _)) rfl rfl⟩
def tBMF (T : String) (r : V → List V → Hp → VK → Prop) (to : TE) (t : TA) : TE := fun σ H Q => to σ H fun x H1 => (∃ p o u, x = .ref p ∧ H1 p = some (.frz o u) ∧ o.cls = .type T ∧ o.dict = none) ∧ t σ H1 fun xs H2 => r x xs H2 Q
variable {o e : Expr} {es : List Expr} {to : TE} {t : TA} {name : Str} {apos cpos : Pos} {T id : String} {r : V → List V → Hp → VK → Prop}
theorem pe_bmF (pa : PlainAttrs T) (slot : Slot T name id) (hty : typeOf (.builtin id) = pure (.type "method_descriptor")) (hm : MtR X id r) (ho : PE X o to) (ha : PA X (e :: es) t)
    (hbase : attributeBase o name X.env (eval o X.env) = eval o X.env := by rfl)
    (hfew : ((backTo cpos (starEach (e :: es) X.env)).all (fun x => !x.1) && (backToKw cpos (keywordEach [] X.env)).all (fun x => x.1.isSome)
      && decide ((e :: es).length + ([] : List Keyword).length + (if ([] : List Keyword).isEmpty then 0 else 1) < 30)) = true := by rfl)
    (hline : (apos.endLine == cpos.line) = true := by rfl) (hs : starEach (e :: es) X.env = (false, eval e X.env) :: starEach es X.env := by rfl) (hplain : (backTo cpos (starEach es X.env)).any (·.1) = false := by rfl) :
    PE X (.Call (.Attribute o name apos) (e :: es) [] cpos) (tBMF T r to t) := by
  refine ⟨fun pins s σ H Q I h => ?_⟩
  refine wpAny_Call_method_late hbase hfew hline rfl (thn (ho.run pins s σ H _ I h) fun v s1 ⟨x, H1, I1, r1, ty, q1⟩ => ?_)
  obtain ⟨p, ob, u, rfl, ef, hc, hd⟩ := ty
  cases r1
  obtain ⟨eg, _⟩ := (show ObjOk X.prog X.w H1 s1.heap p (.frz ob u) from I1.hok p _ ef)
  refine ⟨T, id, pa, slot, hty, ⟨ob, eg, hc⟩, fun a e => ?_, ?_⟩
  · cases e
    exact ⟨ob, eg, hd⟩
  · have hA := ha.run cpos pins s1 σ H1 _ I1 q1
    rw [hs] at hA ⊢
    refine Calls.callWith_builtin (by show (false || (backTo cpos (starEach es X.env)).any (·.1)) = false; rw [hplain] <;> rfl) (Calls.evalArgs_plain ?_)
    exact thn hA fun us s2 ⟨vs, H2, I2, r2, q2⟩ => hm pins s2 σ H2 (.ref p) vs (.ref p) us Q I2 rfl r2 q2
end
end KX

set_option maxRecDepth 100000
set_option maxHeartbeats 2000000
namespace KX
open PySem PySem.Spec PyProof.Rows L2 RZ
inductive MixD (X : Cx) : List ExceptHandler → List Cls → Prop
  | nil : MixD X [] []
  | dead {hds : List ExceptHandler} : MixD X hds []
  | plain {x : Str} {c : Value} {ts : Addr → Value → Option Addr → TS} {b0 : Stmt} {bs : List Stmt} {p1 p2 : Pos} {hds : List ExceptHandler} {l : List Cls} (hc : Names X x c)
      (hb : ∀ (a : Addr) (oe : Obj) (cls : Value) (d : Option Addr) (pn : List (Addr × Obj)), Zc cls d oe → (∃ vs, oe.data = .fields vs) → PSs (X.suite a ((a, oe) :: pn)) (b0 :: bs) (ts a cls d)) (r : MixD X hds l) :
      MixD X (.ExceptHandler (some (.Name x p1)) none (b0 :: bs) p2 :: hds) (⟨c, none, ts⟩ :: l)
  | named {x n : Str} {i : Nat} {c : Value} {ts : Addr → Value → Option Addr → TS} {b0 : Stmt} {bs : List Stmt} {p1 p2 : Pos} {hds : List ExceptHandler} {l : List Cls} (hi : X.N[i]? = some n) (hn : X.env.kindOf n = some .local) (hc : Names X x c)
      (hb : ∀ (a : Addr) (oe : Obj) (cls : Value) (d : Option Addr) (pn : List (Addr × Obj)), Zc cls d oe → (∃ vs, oe.data = .fields vs) → PSs (X.suite a ((a, oe) :: pn)) (b0 :: bs) (ts a cls d)) (r : MixD X hds l) :
      MixD X (.ExceptHandler (some (.Name x p1)) (some n) (b0 :: bs) p2 :: hds) (⟨c, some i, ts⟩ :: l)
section
variable {X : Cx} {body : List Stmt} {hd0 : ExceptHandler} {hds : List ExceptHandler} {l : List Cls} {pos : Pos} {tb : WX → TS} {Wo : WX}
theorem ps_try_mixD (hs : X.stack = X.env :: X.outer) (hf : X.env.frame = some X.env.locals) (nd : X.N.Nodup) (tk : Takes X Wo) (hWo : ∀ cls d σ G, ¬ Wo cls d σ G)
    (hb : ∀ (W : WX) (pn : List (Addr × Obj)) (xe : Value → Shared → Prop), Takes (X.tr pn xe) W → PassesOwn (model X.prog X.w) X.A X.env xe → PSs (X.tr pn xe) body (tb W))
    (hh : MixD X (hd0 :: hds) l) : PS X (.Try body (hd0 :: hds) [] [] pos) (fun D σ G => tb (wMix X.K Wo D l) D σ G) := by
  refine ⟨fun pins s σ G D I h => wpAny_Try_except ?_⟩
  have ok := I.ok
  have frm : X.A.frames = some (X.env :: X.outer) := ok.frames.trans (by rw [hs])
  refine wpAny_mono ((hb (wMix X.K Wo D l) (X.pn ++ pins) (fun e t1 => wpAny (model X.prog X.w) X.A (noteFrame e X.env) (fun _ t2 => wpAny (model X.prog X.w) X.A (setFlight e none) (fun _ t3 =>
    wpAny (model X.prog X.w) X.A (handleBy e X.env (hd0 :: hds)) (SP X pins D) X.xe t3) X.xe t2) X.xe t1) (fun u s1 caught => ?_) PassesOwn.looking).run [] s σ G D (I.toTry _) h) (fun fl s1 fin => ?_) (fun _ _ z => z)
  · obtain ⟨ea, B0, sI, pins1, σ1, G1, cls, d, rfl, IT, nb, up, sky, na, os, ag, wish⟩ := caught
    have I1 : Inv X pins σ1 G1 sI := IT.ofTry ok
    refine Sky.land Zc.steady frm hf (show Sky B0 (X.env :: X.outer) ea (Zc cls d) X.env.locals s1.heap by rw [← hs]; exact sky) fun h3 lands up3 => ?_
    have I3 : Inv X pins σ1 G1 { s1 with heap := h3 } := I1.landed nb lands.1 (up.trans up3) os ag
    obtain ⟨oe3, fv3, at3, z3, dat3⟩ := lands.there
    have off : ea ∉ frs (X.env :: X.outer) := fun hm => by
      obtain ⟨_, o1, e1, nf⟩ := lands.2.2.1.mem hm
      rw [at3] at e1
      cases e1
      exact nf _ dat3
    have offL : ea ≠ X.env.locals := fun z => off (List.mem_filterMap.mpr ⟨X.env, List.mem_cons_self, by rw [hf, z]⟩)
    have offF : ea ∉ X.fs := fun hm => by
      obtain ⟨en, hen, q⟩ := List.mem_filterMap.mp hm
      exact off (List.mem_filterMap.mpr ⟨en, List.mem_cons_of_mem _ hen, q⟩)
    have S3 := I3.suite at3 dat3 na offL offF
    have looks : PySem.W.Looks (model X.prog X.w) h3 (typeOf (.ref ea)) cls := fun A Q E t k q => wpAny_typeOf_ref (k _ _ at3) (by rw [z3.1]; exact q)
    have reads : ∀ {x : Str} {c : Value} {p1 : Pos} {Q : Value → Shared → Prop} {E : Value → Shared → Prop}, Names X x c → Q c { s1 with heap := h3 } → wpAny (model X.prog X.w) (X.A.mark (some (.ref ea))) (eval (.Name x p1) X.env) Q E { s1 with heap := h3 } := fun {x c p1 Q E} hc q => by
      obtain ⟨hg, hdb, hm | ⟨hm, hv, hnn⟩⟩ := hc
      · exact ld_glob (X := X.suite ea ((ea, oe3) :: (X.pn ++ pins))) S3 hg hm q hdb
      · exact ld_blt (X := X.suite ea ((ea, oe3) :: (X.pn ++ pins))) S3 hg hm hv q hnn hdb
    have each : ∀ {hl : List ExceptHandler} {cl : List Cls}, MixD X hl cl → wMix X.K Wo D cl cls d σ1 G1 → wpAny (model X.prog X.w) X.A (handleBy (.ref ea) X.env hl) (SP X pins D) X.xe { s1 with heap := h3 } := by
      intro hl cl mk
      induction mk with
      | dead =>
        intro wo
        exact absurd wo (hWo _ _ _ _)
      | nil =>
        intro wo
        refine wpAny_handleBy_nil ?_
        obtain ⟨_, _, _, ox, fx, T, _, _, atx, _, datx, tl1, _⟩ := id lands
        unfold PySem.passOn
        refine wpAny_bind (wpAny_field atx datx tl1 ?_)
        rw [if_neg (by simp)]
        have out : wpAny (model X.prog X.w) X.A (setFlight (.ref ea) X.env.frame) (fun _ t4 => wpAny (model X.prog X.w) X.A (throw (.ref ea) : Sem Flow) (SP X pins D) X.xe t4) X.xe { s1 with heap := h3 } := by
          rw [hf]
          refine HandSPX.setFlight_upZ lands fun h4 hx4 up4 => wpAny_throw (tk _ _ ⟨ea, B0, sI, pins, σ1, G1, cls, d, rfl, I1, nb, (up.trans up3).trans up4, .inr (.inr (by rw [hs]; exact hx4)), na, os, ag, wo⟩)
        first | exact wpAny_bind (wpAny_pure (wpAny_bind out)) | exact wpAny_bind out
      | @plain x c ts b0 bs p1 p2 hds2 l2 hc hb r ih =>
        intro wq
        obtain ⟨b, e1, yes, no⟩ := wq
        refine wpAny_handleBy_cons (codeAny_handlers_test (reads hc ((PySem.W.exm_one (M := model X.prog X.w) I3.kIn looks e1).here ?_))) (by intro q; cases q)
        cases b with
        | false => exact ih (no rfl)
        | true =>
          refine codeAny_handlers_suite (HandSPX.lands_againZ lands fun h4 lands4 up4 => ?_)
          obtain ⟨oe4, fv4, at4, z4, dat4⟩ := lands4.there
          have I4 : Inv X pins σ1 G1 { s1 with heap := h4 } := I1.landed nb lands4.1 ((up.trans up3).trans up4) os ag
          refine wpAny_mono ((hb ea oe4 cls d (X.pn ++ pins) z4 ⟨_, dat4⟩).run [] _ _ G1 _ (I4.suite at4 dat4 na offL offF) (yes rfl ea na)) (fun fl t6 fin => ?_) (fun _ _ z => z.elim)
          cases fl with
          | ret u =>
            obtain ⟨v6, σ6, G6, S6, r6, q6⟩ := fin
            exact ⟨v6, σ6, G6, S6.unsuite ok, r6, q6⟩
          | _ =>
            obtain ⟨σ6, G6, S6, q6⟩ := fin
            exact ⟨σ6, G6, S6.unsuite ok, q6⟩
      | @named x n i c ts b0 bs p1 p2 hds2 l2 hi hn hc hb r ih =>
        intro wq
        obtain ⟨b, e1, yes, no⟩ := wq
        refine wpAny_handleBy_cons (codeAny_handlers_test (reads hc ((PySem.W.exm_one (M := model X.prog X.w) I3.kIn looks e1).here ?_))) (by intro q; cases q)
        cases b with
        | false => exact ih (no rfl)
        | true =>
          refine codeAny_handlers_suite_as (HandSPX.lands_againZ lands fun h4 lands4 up4 => ?_)
          obtain ⟨oe4, fv4, at4, z4, dat4⟩ := lands4.there
          have I4 : Inv X pins σ1 G1 { s1 with heap := h4 } := I1.landed nb lands4.1 ((up.trans up3).trans up4) os ag
          refine store_ok (X := X.suite ea ((ea, oe4) :: (X.pn ++ pins))) (v := .ref ea) (I4.suite at4 dat4 na offL offF) nd hi (.inl hn) rfl (fun t5 S5 => ?_) (.inr hn)
          refine wpAny_mono ((hb ea oe4 cls d (X.pn ++ pins) z4 ⟨_, dat4⟩).run [] t5 _ G1 _ S5 (yes rfl ea na)) (fun fl t6 fin => ?_) (fun _ _ z => z.elim)
          have gone : ∀ {σ6 : L2.St} {G6 : Hp} {R : Shared → Prop}, Inv (X.suite ea ((ea, oe4) :: (X.pn ++ pins))) [] σ6 G6 t6 → (∀ t7, Inv X pins (σ6.set i none) G6 t7 → R t7) →
              wpAny (model X.prog X.w) X.A (do bindName X.env n .none; unbindBehindTheSuite X.env n p2) (fun _ t7 => R t7) X.xe t6 := fun {σ6 G6 R} S6 k => gone_ok (S6.unsuite ok) nd hi hn k
          cases fl with
          | ret u =>
            obtain ⟨v6, σ6, G6, S6, r6, q6⟩ := fin
            exact gone S6 fun t7 I7 => ⟨v6, _, _, I7, r6, q6⟩
          | _ =>
            obtain ⟨σ6, G6, S6, q6⟩ := fin
            exact gone S6 fun t7 I7 => ⟨_, _, I7, q6⟩
    exact each hh wish
  · cases fl with
    | next =>
      obtain ⟨σ6, G6, I6, q6⟩ := fin
      exact wpAny_execs_nil ⟨σ6, G6, I6.ofTry ok, q6⟩
    | ret u =>
      obtain ⟨v6, σ6, G6, I6, r6, q6⟩ := fin
      exact ⟨v6, σ6, G6, I6.ofTry ok, r6, q6⟩
    | _ =>
      obtain ⟨σ6, G6, I6, q6⟩ := fin
      exact ⟨σ6, G6, I6.ofTry ok, q6⟩
end
/-! ### a lambda without parameters that captures names, handed to a def and called there -/
section
open LamX NdefX
variable {X : Cx} {pins : List (Addr × Obj)} {σ : L2.St} {H : Hp} {s : Shared}
/-- az(), in the def that got the lambda as az -/
theorem pe_act0 {CXg : CXT} {Eg : XK} {Nz : List Str} {qz : Str} {sz : Scope} {g fl cl : Addr} {cdz pmz ctz : Value} {q : Str} {pars : Arguments} {bd : Expr} {scp : Scope} {cs : List (Str × Addr)} {k : Nat} {az : Str} {pn : List (Addr × Obj)} {xe : Value → Shared → Prop} {W : WX} {tb : XK → TE} {p1 p2 : Pos} {N fr : List Str} {ws : List (Option V)}
    (S : NScope N [] fr scp) (C : CellsAt cs fr ws s.heap H) (hf : s.heap.get? fl = some (PySem.W.kla_obj "<lambda>" q pars bd scp cs pmz cl ctz)) (hfn : H fl = none) (hfr : fl ∉ frs X.stack)
    (hbind : bindArgs (PySem.W.kla_fn "<lambda>" q pars bd scp cs pmz (.ref cl) ctz) ⟨[], []⟩ = pure [])
    (tk : Takes ((cxOf CXg X.prog X.w X.K X.mg X.base Nz qz sz g cdz X.A X.stack s H Eg).tr pn xe) W) (hr : Room (k + 1) (X.A.deeper (envOfC qz sz s.heap.objs.size g cdz)))
    (hbody : ∀ (A : Around) (outer : List PySem.Env) (s : Shared) (H : Hp) (E : XK), Room k (A.deeper (envF (lamF q pars scp cs cl) fl s.heap.objs.size)) → PE (ncx (L2.CX X.prog X.w) X.prog X.w X.K X.mg X.base N (lamF q pars scp cs cl) fl A outer s H E) bd (tb E))
    (hN : Nz[0]? = some az) (hv : Vis sz az) (hd : (az == ("__debug__" : Str)) = false := by decide) (hcd : (az == ("__classdict__" : Str)) = false := by decide) :
    PE ((cxOf CXg X.prog X.w X.K X.mg X.base Nz qz sz g cdz X.A X.stack s H Eg).tr pn xe) (.Call (.Name az p1) [] [] p2)
      (fun σZ HZ Qy => σZ[0]? = some (some (.ref fl)) ∧ HZ cl = some (CodeO cl q) ∧ tb (fun cls d H' => W cls d σZ H') (startF N [] ws) HZ Qy) := by
  refine ⟨fun pinsZ sZ σZ HZ Qy IZ h => ?_⟩
  obtain ⟨hs, hc, hb⟩ := h
  refine wpAny_Call_Name_kw (thn ((pe_var (pos := p1) (i := 0) hN hv hd hcd).run pinsZ sZ σZ HZ (fun v H1 => v = .ref fl ∧ H1 = HZ) IZ ⟨.ref fl, hs, rfl, rfl⟩) fun u s1 ⟨v, H1, I1, r1, q1⟩ => ?_)
  obtain ⟨ev, eH⟩ := q1
  subst ev
  rw [eH] at I1
  obtain rfl : u = Value.ref fl := r1
  have of1 : s1.heap.get? fl = some (PySem.W.kla_obj "<lambda>" q pars bd scp cs pmz cl ctz) := I1.base.keep fl _ hf hfn hfr (fun z => nomatch (show fl ∈ ([] : List Addr) from z))
  refine PySem.W.callWith_F0 (first := []) ⟨_, _, _, _, of1⟩ ?_
  show wpAny _ _ (call (.ref fl) []) _ _ _
  have un : Un (frs X.stack) [] H HZ s.heap s1.heap := I1.base
  have rc : codeAny (model X.prog X.w) (X.A.deeper (envOfC qz sz s.heap.objs.size g cdz)) (.call (.ref fl) ⟨[], []⟩) (CR (L2.CX X.prog X.w) (envOfC qz sz s.heap.objs.size g cdz :: X.stack) X.prog X.w HZ s1 Qy (fun cls d H' => W cls d σZ H')) s1 :=
    lam_run (k := k) S hbind hr I1.env0 of1 hc (cells_later C un) .nil rfl (fun hr2 => hbody _ _ _ _ _ hr2) hb
  refine wpAny_call (codeAny_mono rc fun r s' hq => ?_)
  cases r with
  | error e => exact tk e s' (XE.of_call I1 (fun cls d H' h => h) hq)
  | ok fw =>
    cases fw with
    | ret u => exact I1.after hq
    | next => exact False.elim hq
    | brk => exact False.elim hq
    | cont => exact False.elim hq
/-- the def g (one parameter, called in it): TT is what it makes of the lambda's reading -/
def GivesR (X : Cx) (k : Nat) (Nz : List Str) (xg : Str) (sz : Scope) (g : Addr) (cdz : Value) (bz : List Stmt) (az : Str) (qz : Str) (TT : (XK → Hp → VK → Prop) → Hp → VK → Prop) : Prop :=
  ∀ (fl cl : Addr) (sz0 : Shared) (Hz : Hp) (Qz : VK) (tl : XK → Hp → VK → Prop), Room k (X.A.deeper (envOfC xg sz sz0.heap.objs.size g cdz)) →
    (∀ (W : WX) (pn : List (Addr × Obj)) (xe : Value → Shared → Prop) (p1 p2 : Pos), Takes ((cxOf C8.CX0 X.prog X.w X.K X.mg X.base Nz xg sz g cdz X.A X.stack sz0 Hz C8.E0).tr pn xe) W →
      PE ((cxOf C8.CX0 X.prog X.w X.K X.mg X.base Nz xg sz g cdz X.A X.stack sz0 Hz C8.E0).tr pn xe) (.Call (.Name az p1) [] [] p2) (fun σZ HZ Qy => σZ[0]? = some (some (.ref fl)) ∧ HZ cl = some (CodeO cl qz) ∧ tl (fun cls d H' => W cls d σZ H') HZ Qy)) →
    Hz cl = some (CodeO cl qz) → TT tl Hz Qz →
    ∃ t, PSs (cxOf C8.CX0 X.prog X.w X.K X.mg X.base Nz xg sz g cdz X.A X.stack sz0 Hz C8.E0).nox bz t ∧ t { nx := fun _ H' => Qz .non H', rt := Qz } (L2.start Nz [.ref fl]) Hz
def tLamR (T : List (Addr × Str)) (TT : (XK → Hp → VK → Prop) → Hp → VK → Prop) (t : XK → TE) (js : List Nat) (N : List Str) : TE := fun σ H Q => Tabs T H ∧ ∀ H1, ExtN H H1 → Tabs T H1 → TT (fun E H' Q' => t E (startF N [] (js.map (slotAt σ))) H' Q') H1 Q
/-- the call xg(lambda: bd) -/
theorem pe_lamR {T : List (Addr × Str)} {TT : (XK → Hp → VK → Prop) → Hp → VK → Prop} {xg az : Str} {g cc Pz : Addr} {k : Nat} {pz : Arguments} {bz : List Stmt} {sz : Scope} {dVz kVz docz pmz cdz ctz ocz : Value} {anz odz : Option Addr} {slz : Array (Option Value)} {Nz N fr : List Str} {js : List Nat}
    {pars : Arguments} {bd : Expr} {scp : Scope} {tz : XK → TE} {pp lp ps : Pos} (hg : Gl X xg) (hm : X.mg xg = some (.ref g)) (hkp : PySem.W.keepIn X.K (.ref g) = true)
    (lk : X.K.lookup g = some ⟨ocz, odz, .func (PySem.W.fnOf xg xg pz bz sz dVz kVz docz pmz anz cdz ctz), slz⟩) (hcz : PySem.W.codeIn X.K cdz xg = true) (hbz : L2.Binds X.K (PySem.W.fnOf xg xg pz bz sz dVz kVz docz pmz anz cdz ctz) [az] []) (Sz : FnScope Nz [az] sz) (hNz : Nz[0]? = some az) (hvz : Vis sz az)
    (hG : GivesR X (k + 1) Nz xg sz g cdz bz az (X.env.qual ++ "<lambda>") TT)
    (TB : TabB X.base X.mg cc Pz) (hcd : X.env.code = .ref cc) (hmT : (Pz, X.env.qual ++ "<lambda>") ∈ T) (hone : ∀ p ∈ T, p.1 = Pz → p.2 = X.env.qual ++ "<lambda>") (hr : Room (k + 2) X.A) (S : NScope N [] fr scp)
    (hfree : ∀ y ∈ scp.names, y.2 = .free → X.env.scope.names.lookup y.1 = some .cell ∨ X.env.scope.names.lookup y.1 = some .free) (hfr : ∀ y ∈ fr, (y, NameKind.free) ∈ scp.names) (hjs : js.map (fun j => X.N[j]?) = fr.map some)
    (hdef : defaultsOf pars X.env = ([], []))
    (hbind : ∀ (q : Str) (cl : List (Str × Addr)) (pm cv ctv : Value), bindArgs (PySem.W.kla_fn "<lambda>" q pars bd scp cl pm cv ctv) ⟨[], []⟩ = pure [])
    (hbd : ∀ (A : Around) (outer : List PySem.Env) (s : Shared) (H : Hp) (E : XK) (fl cl : Addr), Room k (A.deeper (envF (lamF (X.env.qual ++ "<lambda>") pars scp (cloFrom X.env.cells scp.names []) cl) fl s.heap.objs.size)) →
      PE (ncx (L2.CX X.prog X.w) X.prog X.w X.K X.mg X.base N (lamF (X.env.qual ++ "<lambda>") pars scp (cloFrom X.env.cells scp.names []) cl) fl A outer s H E) bd (tz E))
    (hdb : (xg == ("__debug__" : Str)) = false := by decide) (hda : (az == ("__debug__" : Str)) = false := by decide) (hdc : (az == ("__classdict__" : Str)) = false := by decide) :
    PE X (.Call (.Name xg pp) [.Lambda pars bd scp lp] [] ps) (tLamR T TT tz js N) := by
  refine ⟨fun pn sh σ G Qz J hyp => ?_⟩
  obtain ⟨tabs, hyp⟩ := hyp
  refine wpAny_Call_Name_kw (ld_glob J hg hm ?_ hdb)
  refine PySem.W.callWith_K (h₀ := X.base) J.ok.mod.kin hkp ?_ (by rfl) (by rfl)
  show wpAny _ _ (spliced ((false, eval (.Lambda pars bd scp lp) X.env) :: backTo ps (starEach [] X.env))) _ _ sh
  have hfr2 : ∀ y ∈ scp.names, y.2 = .free → ∃ c, X.env.cells.lookup y.1 = some c := fun y hy e => (hfree y hy e).elim (fun z => J.ok.has _ (.inl z)) fun z => J.ok.has _ (.inr z)
  refine Calls.spliced_cons (lam_make2 J TB hcd hmT hone tabs hdef hfr2 fun fl cl pm2 ct2 G1 sh1 J1 eN T1 hfl hfn hfr' hco => ?_)
  refine Calls.spliced_nil ⟨J1.kIn, ?_⟩
  have cp := cells_of J1 (Caps.made J1.ok hfree hfr hjs)
  have ran : codeAny (model X.prog X.w) X.A (.call (.ref g) ⟨[.ref fl], []⟩) (CR C8.CX0 X.stack X.prog X.w G1 sh1 Qz C8.E0) sh1 := by
    refine run_ofS (N := Nz) (ps := [az]) (us := [.ref fl]) (vs := [.ref fl]) lk hcz Sz hr J1.env0 (hbz sh1 [.ref fl] J1.kIn rfl) (.cons rfl .nil) rfl fun hr2 => ?_
    obtain ⟨t', ht', hq'⟩ := hG fl cl sh1 G1 Qz (fun E H' Q' => tz E (startF N [] (js.map (slotAt σ))) H' Q') hr2 (fun W pn2 xe p1 p2 tk => pe_act0 S cp hfl hfn hfr' (hbind _ _ _ _ _) tk hr2 (fun A outer s H E hr3 => hbd A outer s H E fl cl hr3) hNz hvz hda hdc) hco (hyp G1 eN T1)
    exact ⟨t', ht'.nox, hq'⟩
  refine wpAny_call (codeAny_mono ran fun res sh2 hq => ?_)
  cases res with
  | error e => exact (show False from hq).elim
  | ok fw =>
    cases fw with
    | ret u => exact J1.after hq
    | next => exact False.elim hq
    | brk => exact False.elim hq
    | cont => exact False.elim hq
end
end KX

set_option maxRecDepth 100000
set_option maxHeartbeats 4000000
namespace KX
open PySem PySem.Spec PyProof.Rows L2
/-! ### tuple * number, the empty tuple too -/
theorem tuple_mul0 (l : Addr) (n : Nat) (dd : Option Addr) (sl : Array (Option Value)) (x : Int) (u : Tok) (c0 : (decide (x < -(2 ^ 63)) || decide (x ≥ 2 ^ 63)) = false) :
    Meets (Builtin.«tuple.__mul__» ⟨[.ref l, .int x u], []⟩) (fun _ R s => s.heap.get? l = some { cls := .type "tuple", dict := dd, data := .seq #[] n, slots := sl } ∧ R (.ok (.ret (Value.ref l))) s) :=
  .of_wp fun prog w A R s h => by
    obtain ⟨hp, g, d, tk, os⟩ := s
    obtain ⟨hl, h⟩ := h
    have c1 : ((#[] : Array Value).isEmpty || x == 1) = true := rfl
    have f1 := AutoSeq1.idx_int
    wp_walk using wpAny_loadPart' hl
    refine wpAny_ite_false (decide_eq_false (by rw [c0]; exact Bool.false_ne_true)) ?_
    wp_walk using wpAny_loadPart' hl
    exact ⟨_, rfl, h⟩
def rRepE (K : PySem.W.Frag) : R2 := fun x y H Q => ∃ l k xs, x = .ref l ∧ y = .int k ∧ SqT K H l xs ∧ 2 ≤ k ∧ k ≤ 1000 ∧ xs.length ≤ 1000 ∧ (xs = [] → Q (.ref l) H) ∧ (xs ≠ [] → ∀ p, H p = none → Q (.ref p) (upd H p (.tup (List.replicate k.toNat xs).flatten)))
theorem op_repE {X : Cx} : OpR X (binaryOp .Mult) (rRepE X.K) := by
  intro pins s σ H x y v u Q I rx ry h
  obtain ⟨l, k, xs, rfl, rfl, hT, h1, h2, hz, q0, q1⟩ := h
  by_cases hne : xs = []
  · subst hne
    cases rx
    obtain ⟨t, rfl⟩ := ry
    obtain ⟨its, r, ⟨⟨cls, dd, data, sl⟩, ho, hc, n, hd⟩, hs⟩ := I.tuple hT
    simp only at hc hd
    subst hc hd
    cases r
    have c0 : (decide (k < -(2 ^ 63)) || decide (k ≥ 2 ^ 63)) = false := by
      rw [decide_eq_false (by omega), decide_eq_false (by omega)] <;> rfl
    exact wpAny_binaryOp_repeat_ref (T := "tuple") (U := "int") (by decide) ⟨_, ho, rfl⟩ (fun s' => typeIs_int s' k t) noFill_tuple_mul F.fills_int_mul F.slot_int_rmul repeat_tuple F.slot_int_index.lookup
      (call_meets F.slot_int_rmul (typeIs_int s k t) F.entry_int_rmul (F.args_int_rmul_2 _ _) (int_rmul_tuple k t l #[] n dd sl)
        ⟨ho, rfl, ⟨_, ho, rfl⟩, call_meets F.slot_tuple_mul ⟨_, ho, rfl⟩ F.entry_tuple_mul (F.args_tuple_mul_2 _ _) (tuple_mul0 l n dd sl k t c0) ⟨ho, ⟨.ref l, H, I, rfl, q0 rfl⟩⟩⟩)
  · exact op_repT pins s σ H (.ref l) (.int k) v u Q I rx ry ⟨l, k, xs, rfl, rfl, hT, hne, h1, h2, hz, q1 hne⟩
section
variable {l : Addr} {P : PSt} {K : PySem.W.Frag} {ta tb : TE} {ds : List PyData}
theorem gd_repE {k : Int} (kp : Kp l P) (h : GD l P (· = .tuple ds) ta) (hb : GI l P (· = k) tb) (k2 : 2 ≤ k) (k1 : k ≤ 1000) (hz : ds.length ≤ 1000) :
    GD l P (· = .tuple (List.replicate k.toNat ds).flatten) (tOp (rRepE K) ta tb) := fun σ H Q st p q =>
  h σ H _ st p fun H1 v e s k1' st1 x => hb σ H1 _ st1 (kp _ _ _ k1' st1 p) fun H2 i hb k2' st2 => by
    subst s hb
    obtain ⟨a, xs, rfl, na, ea, hx⟩ := dx_tupOf (x.up k2'.same)
    have hl := hx.len
    refine ⟨a, i, xs, rfl, rfl, .inl (.inl ea), k2, k1, by omega, fun z => ?_, fun _ b nb => q _ _ _ rfl ((k1'.trans k2').new nb) (st2.new nb) (dx_tup nb st2 (dxs_rep hx _))⟩
    subst z
    have e : ds = [] := List.eq_nil_of_length_eq_zero (by simpa using hl.symm)
    subst e
    have e2 : (List.replicate i.toNat ([] : List PyData)).flatten = [] := by simp
    rw [e2] at q
    exact q _ _ _ rfl (k1'.trans k2') st2 (x.up k2'.same)
end
end KX

set_option maxRecDepth 100000
set_option maxHeartbeats 4000000
namespace KX
open PySem PySem.Spec PyProof.Rows L2 PySem.W
/-! ### sorted(t), t a tuple of alike data -/
section
variable {prog : Program} {w : World} {A : Around} {E : Value → Shared → Prop} {s : Shared} {β : Type} {us : List Value} {ps : List β} {code : β → PyData} {Rz : Value → β → Prop}
theorem each_later {h h' : Heap} (kp : ∀ b o, h.get? b = some o → h'.get? b = some o) (er : EachIs (fun v b => ∃ as, Reads h v (code b) as) us ps) : EachIs (fun v b => ∃ as, Reads h' v (code b) as) us ps :=
  er.mono fun _ _ ⟨as, r⟩ => ⟨as, PyProof.Rows.Reads.keeps kp r⟩
theorem sorted_tupD {tp : Addr} {ob : Obj} {n : Nat} {Qz : Value → Shared → Prop} (ho : s.heap.get? tp = some ob) (hc : ob.cls = .type "tuple") (hd : ob.data = .seq us.toArray n) (e : EachIs Rz us ps) (er : EachIs (fun v b => ∃ as, Reads s.heap v (code b) as) us ps)
    (hal : AllAlike (ps.map code)) (hk : Sortable (ps.map code)) (hL : ps.length ≤ sizeLine) (hu : ∀ b, b ∈ ps → A.units + 2 + (code b).depth < cLine)
    (hq : ∀ (h' : Heap) (out : List Value), (∀ b o, s.heap.get? b = some o → h'.get? b = some o) → out.length = ps.length → EachIs Rz out (ps.mergeSort (dataLe false code)) →
      Qz (.ref h'.objs.size) { s with heap := sortedHeap (h'.push (seqObj "list" us.toArray 0)) h'.objs.size us (List.toArray out) }) :
    wpAny (model prog w) A (call (.builtin "sorted") [.ref tp]) Qz E s := by
  have hlen : us.length ≤ sizeLine := by rw [e.length]; exact hL
  refine call_function_entry_kw kind_sorted plain_sorted entry_sorted (args_sorted1 _) ?_
  unfold Builtin.«sorted»
  refine wpAny_bind (m := checkCount "sorted" 1 1 _) (wpAny_pure ?_)
  refine wpAny_bind (wpAny_collect_seq tp (.inr rfl) ho hc hd (fun h1 kp => ?_) (by rw [List.size_toArray]; exact hlen))
  rw [List.toList_toArray]
  refine wpAny_bind (wpAny_newList ?_ hlen)
  have at1 : (h1.push (seqObj "list" us.toArray 0)).get? h1.objs.size = some (seqObj "list" us.toArray 0) := Heap.get?_push_size _ rfl
  have old1 : ∀ b o, s.heap.get? b = some o → (h1.push (seqObj "list" us.toArray 0)).get? b = some o := fun b o q => Heap.get?_push_of_some _ (kp b o q)
  refine wpAny_bind (wpAny_holding (wpAny_call_entry_kw slot_list_sort ⟨_, at1, rfl⟩ entry_list_sort ?body (args_list_sort _)))
  case body =>
    show wpAny (model prog w) A.in1.in1 (Builtin.«list.sort» ⟨[.ref h1.objs.size], []⟩) _ _ { s with heap := h1.push (seqObj "list" us.toArray 0) }
    have er' : EachIs (fun v b => ∃ as, Reads (sortingHeap (h1.push (seqObj "list" us.toArray 0)) h1.objs.size us) v (code b) as) us ps :=
      each_later (fun b o q => sortingHeap_old (Nat.ne_of_lt (Heap.lt_size (kp b o q))) (old1 b o q)) er
    refine list_sort_vals (s := { s with heap := h1.push (seqObj "list" us.toArray 0) }) at1 (SortsAt.data (s := { s with heap := sortingHeap (h1.push (seqObj "list" us.toArray 0)) h1.objs.size us }) (each_map (R := fun v d => ∃ as, Reads (sortingHeap (h1.push (seqObj "list" us.toArray 0)) h1.objs.size us) v d as) code er') hal hk (bound_map hu)) hlen ?_
    exact ⟨.none, rfl, wpAny_pure ⟨_, rfl, hq h1 _ kp (by rw [sortVals_length false rfl]; exact e.length) (sortVals_data false e er' hal)⟩⟩
end
section
variable {X : Cx}
/-- sorted(t), t a tuple of alike data -/
def rSortT {β : Type} (K : PySem.W.Frag) (enc : β → PyData) : List V → Hp → VK → Prop := fun vs H Q => ∃ (a : Addr) (bs : List (V × β)), vs = [.ref a] ∧ SqT K H a (bs.map (·.1)) ∧ (∀ b ∈ bs, Dp K H b.1 (enc b.2)) ∧ AllAlike (bs.map fun b => enc b.2) ∧ Sortable (bs.map fun b => enc b.2) ∧
  (∀ b ∈ bs, (enc b.2).depth ≤ 50) ∧ ∀ p, H p = none → Q (.ref p) (L2.upd H p (.lst ((bs.mergeSort (dataLe false fun b => enc b.2)).map (·.1))))
theorem cr_sortT {β : Type} {enc : β → PyData} {k : Nat} (hr : Room k X.A) : CallR X (.builtin "sorted") (rSortT X.K enc) := by
  intro pins s σ H vs us Q I r h
  obtain ⟨a, bs, e, hS, hd, hal, hk, hu, q⟩ := h
  subst e
  obtain ⟨u, rfl, ru⟩ := vals1 r
  cases ru
  obtain ⟨its, rv, ⟨ob, ho, hc, n, hdat⟩, hz⟩ := I.tuple hS
  have hlen := rv.length
  rw [List.length_map] at hlen hz
  have er : EachIs (fun v (b : V × β) => ∃ as, Reads s.heap v (enc b.2) as) its bs := each_pairs (by omega) fun i u b e f => by
    obtain ⟨u', e', ru⟩ := rv.get (i := i) (x := b.1) (by rw [List.getElem?_map, f]; rfl)
    rw [e] at e'
    cases e'
    exact Dp.reads I (enc b.2) b.1 u (hd b (List.mem_of_getElem? f)) ru
  have eR : EachIs (fun v (b : V × β) => RelV b.1 v) its bs := each_pairs (by omega) fun i u b e f => by
    obtain ⟨u', e', ru⟩ := rv.get (i := i) (x := b.1) (by rw [List.getElem?_map, f]; rfl)
    rw [e] at e'
    cases e'
    exact ru
  have hun := hr.un
  refine sorted_tupD (code := fun b : V × β => enc b.2) ho hc hdat eR er hal hk (by omega) (fun b hb => by have := hu b hb; omega) fun h1 out kp hl he => ?_
  have rel : ∀ {ws : List Value} {ps : List (V × β)}, EachIs (fun v (b : V × β) => RelV b.1 v) ws ps → Vals (ps.map (·.1)) ws := by
    intro ws ps e
    induction e with
    | nil => exact .nil
    | cons h t ih => exact .cons h ih
  have at1 : (h1.push (seqObj "list" its.toArray 0)).get? h1.objs.size = some (seqObj "list" its.toArray 0) := Heap.get?_push_size _ rfl
  obtain ⟨ep, hep⟩ := sortedHeap_at (out := out.toArray) at1
  have J : Inv X pins σ H { s with heap := h1 } := I.kept (t' := s.toks) kp
  have old : ∀ b o, h1.get? b = some o → (sortedHeap (h1.push (seqObj "list" its.toArray 0)) h1.objs.size its out.toArray).get? b = some o := fun b o q => by
    have lt := Heap.lt_size q
    rw [sortedHeap_old (Nat.ne_of_lt lt) (by rw [size_push']; exact Nat.lt_succ_of_lt lt)]
    exact Heap.get?_push_of_some _ q
  refine ⟨.ref h1.objs.size, _, J.laid (t' := s.toks) old (Nat.le_refl _) (o := .lst ((bs.mergeSort (dataLe false fun b => enc b.2)).map (·.1))) ⟨?_, out, ep, rel he, hep⟩, rfl, q _ (J.hok.fresh (Nat.le_refl _))⟩
  rw [List.length_map, List.length_mergeSort]
  omega
end
end KX

set_option maxRecDepth 100000
set_option maxHeartbeats 4000000
namespace Z1
open PySem PySem.Spec PyProof.Rows L2 KX
/-- an own class over ValueError without an __init__ -/
structure OC (K : PySem.W.Frag) (mg : Str → Option Value) (x : Str) (R : Addr) : Prop where
  g : mg x = some (.ref R)
  q : PySem.W.excIn K R [.type "ValueError", .type "Exception", .type "BaseException", .type "object"] "ValueError.__new__" = true
  kp : PySem.W.keepIn K (.ref R) = true
  sub : PySem.W.subIn K (.ref R) (.type "BaseException") = some true
  ty : PySem.W.typeIn K (.ref R) = some (.type "type")
abbrev sCR : Stmt := topS 31
abbrev sWO : Stmt := topS 28
abbrev sRW : Stmt := topS 33
structure RsOk (rs : List Rec) : Prop where
  le : rs.length ≤ 60
  row : (rs.map encR).all rowD = true
  one : oneW rs = true
  asc : ascS (rs.map (·.nm)) = true
theorem rowset_rec {d : PyData} (h : rowsetD d = true) : ∃ rs, d = .tuple (rs.map encR) ∧ RsOk rs := by
  cases d with
  | tuple ds =>
    have h : (decide (ds.length ≤ 60) && ((ds.all rowD && oneW (ds.map recD)) && ascS ((ds.map recD).map (·.nm)))) = true := h
    simp only [Bool.and_eq_true] at h
    obtain ⟨h1, ⟨h2, h3⟩, h4⟩ := h
    obtain ⟨rs, rfl⟩ := rows_rec h2
    rw [recs_back] at h3 h4
    rw [List.length_map] at h1
    exact ⟨rs, rfl, of_decide_eq_true h1, h2, h3, h4⟩
  | _ => cases h
def spCR (R : Addr) : Sp := fun vs H Q E => ∃ (v : V) (d : PyData), vs = [v] ∧ Dx H v d ∧ SmR d ∧ (rowsetD d = true → ∀ H', Same H H' → Q .non H') ∧ (rowsetD d = false → ∀ H', Same H H' → E (.ref R) none H')
theorem scCR : FnScope ["rowset"] ["rowset"] (defScope sCR) := ⟨rfl, rfl, rfl, by decide +kernel, rfl, by decide +kernel, by decide +kernel⟩
theorem scWO : FnScope ["rows"] ["rows"] (defScope sWO) := ⟨rfl, rfl, rfl, by decide +kernel, rfl, by decide +kernel, by decide +kernel⟩
theorem scRW : FnScope ["rowset"] ["rowset"] (defScope sRW) := ⟨rfl, rfl, rfl, by decide +kernel, rfl, by decide +kernel, by decide +kernel⟩
section
variable {P : Program} {w : World} {K : PySem.W.Frag} {mg : Str → Option Value} {base : Heap} {R : Addr}
theorem ok_cr {k : Nat} {f fI : Addr} {fd fdI : FuncData} (T : OC K mg "InvalidRowset" R) (D : Df K mg "check_rowset" sCR ["rowset"] f fd) (DI : Df K mg "is_rowset" sIR ["value"] fI fdI) (GI' : FnOk P w K mg base CX0 k fI fdI ["value"] spIR) :
    FnOk P w K mg base (L2.CX P w) (k + 1) f fd ["rowset"] (spCR R) := by
  refine D.F.okX scCR (fun vs H Q E h => ?_) (fun cdv A outer s H vs Q E hr h => ?_)
  · obtain ⟨v, d, rfl, _⟩ := h
    rfl
  · obtain ⟨v, d, rfl, hd, sm, q1, q2⟩ := h
    refine ⟨_, pss_one (ps_if (pt_not (pt_val (pe_call GI' hr (by rfl) DI.g DI.F.kp DI.b .nil pass0 (pa_cons (pv 0) pa_nil))))
        (pss_one (ps_raise rfl (takes_of rfl rfl rfl rfl) (pmk_own PySem.F.excBase_ValueError T.q T.g T.kp (raises_own T.sub T.ty) (by rfl)))) pss_nil), ?_⟩
    refine ⟨v, rfl, v, d, rfl, hd, sm, fun G sG => ⟨_, rfl, ?_⟩⟩
    cases e : rowsetD d with
    | true => exact iteF (q1 e G sG)
    | false => exact iteT (q2 e G sG)
def widthI : List Rec → Int
  | [] => 4
  | r :: _ => (r.vals.length : Int)
def spWO : Sp := fun vs H Q _ => ∃ (v : V) (rs : List Rec), vs = [v] ∧ Dx H v (.tuple (rs.map encR)) ∧ ∀ H', Same H H' → Q (.int (widthI rs)) H'
theorem ok_wo {f : Addr} {fd : FuncData} (B : Bl mg) (cv : ∃ t, mg "VALUES" = some (.int 2 t)) (cw : ∃ t, mg "MAX_WIDTH" = some (.int 4 t)) (D : Df K mg "width_of" sWO ["rows"] f fd) : FnOk P w K mg base CX0 1 f fd ["rows"] spWO := by
  obtain ⟨tv, mv⟩ := cv
  obtain ⟨tw, mw⟩ := cw
  refine D.F.ok scWO (fun vs H Q E h => ?_) (fun cdv A outer s H vs Q E hr h => ?_)
  · obtain ⟨v, rs, rfl, _⟩ := h
    rfl
  · obtain ⟨v, rs, rfl, hd, q⟩ := h
    refine ⟨_, pss_one (ps_ret (pe_ifExp (pt_truth (pv 0) (fun _ => rfl)) (pe_callB (call_lenK (K := K) rfl) (by rfl) B.len PySem.boot_len (pa_cons (pe_ix (r := rIxT K) ix_tup (pe_ix (r := rIxT K) ix_tup (pv 0) pe_int (fun _ _ => rfl)) (pe_glob (v := .int 2) (by rfl) mv ⟨_, rfl⟩) (fun _ _ => rfl)) pa_nil)) (pe_glob (v := .int 4) (by rfl) mw ⟨_, rfl⟩))), ?_⟩
    cases hd with
    | @tup a xs _ ea h =>
    refine ⟨.ref a, rfl, _, .inr (.inl ⟨xs, .inl (.inl ea), rfl⟩), ?_⟩
    cases rs with
    | nil =>
      cases h
      exact iteF (q H (Same.refl H))
    | cons r rs =>
      cases h with
      | @cons v vs _ _ h1 t =>
        obtain ⟨b, z, zs, rfl, eb, ez, ev⟩ := row_dx h1
        refine iteT ⟨.ref a, rfl, a, _, 0, .ref b, rfl, rfl, .inl (.inl ea), atI_nat (j := 0) rfl, b, _, 2, .ref z, rfl, rfl, .inl (.inl eb), rfl, z, zs, rfl, .inr (.inl (.inl ez)), ?_⟩
        rw [ev, List.length_map]
        exact q H (Same.refl H)
/-- a function of a checked rowset -/
def spOf (R : Addr) (val : List Rec → V → Hp → Prop) : Sp := fun vs H Q E => ∃ (v : V) (d : PyData), vs = [v] ∧ Dx H v d ∧ SmR d ∧ (rowsetD d = false → ∀ H', Same H H' → E (.ref R) none H') ∧ ∀ rs, d = .tuple (rs.map encR) → RsOk rs → ∀ H' x, Same H H' → val rs x H' → Q x H'
theorem ok_rw {k : Nat} {f fC fW : Addr} {fd fdC fdW : FuncData} (D : Df K mg "rowset_width" sRW ["rowset"] f fd) (DC : Df K mg "check_rowset" sCR ["rowset"] fC fdC) (DW : Df K mg "width_of" sWO ["rows"] fW fdW)
    (GC : FnOk P w K mg base (L2.CX P w) k fC fdC ["rowset"] (spCR R)) (GW : FnOk P w K mg base CX0 k fW fdW ["rows"] spWO) : FnOk P w K mg base (L2.CX P w) (k + 1) f fd ["rowset"] (spOf R fun rs x _ => x = .int (widthI rs)) := by
  refine D.F.okX scRW (fun vs H Q E h => ?_) (fun cdv A outer s H vs Q E hr h => ?_)
  · obtain ⟨v, d, rfl, _⟩ := h
    rfl
  · obtain ⟨v, d, rfl, hd, sm, qe, q⟩ := h
    refine ⟨_, pss_cons (ps_expr (pe_callS GC hr (by rfl) DC.g DC.F.kp DC.b (fun σ => passAt (takes_of rfl rfl rfl rfl) σ) (pa_cons (pv 0) pa_nil)))
      (pss_one (ps_ret (pe_call GW hr (by rfl) DW.g DW.F.kp DW.b .nil pass0 (pa_cons (pv 0) pa_nil)))), ?_⟩
    refine ⟨v, rfl, v, d, rfl, hd, sm, fun e G sG => ?_, qe⟩
    obtain ⟨rs, rfl, ok⟩ := rowset_rec e
    exact ⟨v, rfl, v, rs, rfl, hd.up sG, fun G2 s2 => q rs rfl ok G2 _ (sG.trans s2) rfl⟩
end
end Z1

set_option maxRecDepth 100000
set_option maxHeartbeats 2000000
namespace Z1
open PySem PySem.Spec PyProof.Rows L2 KX
theorem sm_name {n : Nat} {x : Str} (hn : n < 61) (h : NameOf n x) : smS (.str x) := by
  have hb : (8 : Nat) ≤ sizeLine := by decide
  exact Nat.le_trans (name_ok hn h).2 hb
def ROk (wd : Nat) (r : Rec) : Prop := ∃ n, n < 61 ∧ RecOk wd n r
theorem rec_sm {wd : Nat} {r : Rec} (h : ROk wd r) : smA (encR r) := fun d hd => by
  obtain ⟨n, hn, o⟩ := h
  simp at hd
  rcases hd with rfl | rfl | rfl | rfl
  · exact sm_name hn o.nm
  all_goals trivial
theorem rec_rd {wd : Nat} {r : Rec} (h : ROk wd r) (w1 : 1 ≤ wd) (w4 : wd ≤ 4) : rowD (encR r) = true := by
  obtain ⟨n, hn, o⟩ := h
  exact rec_row hn o w1 w4
theorem wtAll_le {W : Nat} : ∀ {es : List PyData}, (∀ e ∈ es, wt e ≤ W) → wtAll es ≤ es.length * W
  | [], _ => by simp [wtAll]
  | e :: es, h => by
    have h1 := h e (by simp)
    have h2 := wtAll_le (es := es) fun x hx => h x (by simp [hx])
    simp only [wtAll, List.length_cons, Nat.succ_mul]
    omega
theorem depthAll_le {k : Nat} : ∀ {es : List PyData}, (∀ e ∈ es, e.depth ≤ k) → PyData.depthAll es ≤ k
  | [], _ => by simp [PyData.depthAll]
  | e :: es, h => by
    have h1 := h e (by simp)
    have h2 := depthAll_le (es := es) fun x hx => h x (by simp [hx])
    simp only [PyData.depthAll]
    omega
theorem rec_fine {wd : Nat} {r : Rec} (h : ROk wd r) (hw : wd ≤ 4) : fine (10 ^ 40) (encR r) = true ∧ wt (encR r) ≤ 20 ∧ (encR r).depth ≤ 50 := by
  obtain ⟨n, hn, h⟩ := h
  have l8 := (name_ok hn h.nm).2
  have hl := h.len
  have c0 := h.c0
  have c1 := h.c1
  have e0 := h.e0
  have e1 := h.e1
  obtain ⟨suf, ex, hs, hx⟩ := h.nm
  refine ⟨?_, ?_, depth_rec r⟩
  · simp only [encR, fine, fineAll, Bool.and_eq_true]
    refine ⟨?_, decide_eq_true (by omega), fine_ints _ h.vs (by decide), decide_eq_true (by omega), trivial⟩
    refine List.all_eq_true.mpr fun c hc => decide_eq_true ?_
    rw [ex] at hc
    rcases List.mem_append.mp hc with hc | hc
    · unfold baseL at hc
      rcases List.mem_append.mp hc with hc | hc
      · rcases List.mem_append.mp hc with hc | hc
        · have := List.mem_singleton.mp hc
          omega
        · split at hc
          · have := List.mem_singleton.mp hc
            omega
          · cases hc
      · split at hc
        · have := List.mem_singleton.mp hc
          omega
        · cases hc
    · have := hs c hc
      omega
  · simp only [encR, wt, wtAll, wt_ints]
    omega
theorem big_show {d : PyData} (f : fine (10 ^ 40) d = true) (h2 : wt d ≤ 2000) (h3 : d.depth ≤ 100) : d.showable = true ∧ d.depth ≤ 100 ∧ d.shown.length ≤ sizeLine := by
  have h1 := shown_le (B := 10 ^ 40) (by decide) d f
  refine ⟨showable_fine (B := 10 ^ 40) (by decide) d f, h3, ?_⟩
  rw [sizeLine_eq]
  omega
/-! ### names up to number 60 -/
theorem base_cases (n : Nat) (hn : n < 61) : (n < 52 ∧ baseL n = (97 + n / 2) :: (if n % 2 = 1 then [97] else [])) ∨ (52 ≤ n ∧ baseL n = (97 + (n / 2 - 26)) :: ((if n % 2 = 1 then [97] else []) ++ [98])) := by
  by_cases h : n < 52
  · refine .inl ⟨h, ?_⟩
    have m26 : n / 2 % 26 = n / 2 := Nat.mod_eq_of_lt (by omega)
    have g51 : ¬ n > 51 := by omega
    simp [baseL, m26, g51]
  · refine .inr ⟨by omega, ?_⟩
    have m26 : n / 2 % 26 = n / 2 - 26 := by omega
    have g51 : n > 51 := by omega
    have d52 : n / 52 = 1 := by omega
    simp [baseL, m26, g51, d52]
theorem name_inj {n m : Nat} {x : Str} (hn : n < 61) (hm : m < 61) (h1 : NameOf n x) (h2 : NameOf m x) : n = m := by
  obtain ⟨s1, e1, _, k1⟩ := h1
  obtain ⟨s2, e2, _, k2⟩ := h2
  rw [e1] at e2
  rcases base_cases n hn with ⟨a1, b1⟩ | ⟨a1, b1⟩ <;> rcases base_cases m hm with ⟨a2, b2⟩ | ⟨a2, b2⟩ <;> rw [b1, b2] at e2 <;> simp only [List.cons_append, List.cons.injEq] at e2 <;> obtain ⟨e3, e4⟩ := e2 <;>
    rcases Nat.mod_two_eq_zero_or_one n with z | z <;> rcases Nat.mod_two_eq_zero_or_one m with y | y <;> simp [z, y] at e4 <;> have l := congrArg List.length e4 <;> (try simp at l) <;> (try omega)
/-- a text that may be a name's: a letter first, a or b second -/
def nmx : List Nat → Bool
  | [] => false
  | [c] => decide (97 ≤ c)
  | c :: d :: _ => decide (97 ≤ c) && decide (d ≤ 98)
theorem nmx_of {n : Nat} {x : Str} (hn : n < 61) (h : NameOf n x) : nmx x.cps.toList = true := by
  obtain ⟨s, e, _, k⟩ := h
  rw [e]
  rcases base_cases n hn with ⟨a1, b1⟩ | ⟨a1, b1⟩ <;> rw [b1] <;> rcases Nat.mod_two_eq_zero_or_one n with z | z <;> simp [z]
  · have : s = [] := List.eq_nil_of_length_eq_zero (by omega)
    subst this
    simp [nmx]
  · simp [nmx]
  · simp [nmx]
  · simp [nmx]
def leN (a b : Str) : Bool := decide (a.cps.toList ≤ b.cps.toList)
theorem le_rec {a b : Rec} (h : a.nm = b.nm → a = b) : PySem.W.dataLe false encR a b = leN a.nm b.nm := by
  show (!PySem.W.dataLt (encR b) (encR a)) = _
  by_cases e : a.nm = b.nm
  · have := h e
    subst this
    have z : PySem.W.dataLt (encR a) (encR a) = false := lex_irrefl _
    rw [z]
    exact (decide_eq_true (List.le_refl _)).symm
  · have ne : PyData.eqv (.str b.nm) (.str a.nm) = false := by
      simp [PyData.eqv]
      exact fun z => e z.symm
    unfold encR
    rw [PySem.W.dataLt_tuple, PySem.W.dataLt_cons (by simp [PySem.W.alike]), ne, if_neg (by decide), PySem.W.dataLt_str]
    exact PySem.W.not_lt_str _ _
theorem made_dist {wd : Nat} {recs : List Rec} (h : Made wd recs) (hl : recs.length ≤ 61) : ∀ a ∈ recs, ∀ b ∈ recs, a.nm = b.nm → a = b := fun r1 h1 r2 h2 e => by
  obtain ⟨i, hi, e1⟩ := List.getElem_of_mem h1
  obtain ⟨j, hj, e2⟩ := List.getElem_of_mem h2
  have a := (h i r1 (by rw [List.getElem?_eq_getElem hi, e1])).nm
  have b := (h j r2 (by rw [List.getElem?_eq_getElem hj, e2])).nm
  rw [e] at a
  have := name_inj (by omega) (by omega) a b
  subst this
  rw [← e1, ← e2]
theorem made_nodup {wd : Nat} {recs : List Rec} (h : Made wd recs) (hl : recs.length ≤ 61) : (recs.map (·.nm)).Nodup := by
  rw [List.nodup_iff_pairwise_ne, List.pairwise_iff_getElem]
  intro i j hi hj lt e
  rw [List.length_map] at hi hj
  rw [List.getElem_map, List.getElem_map] at e
  have a := (h i _ (List.getElem?_eq_getElem hi)).nm
  have b := (h j _ (List.getElem?_eq_getElem hj)).nm
  rw [e] at a
  have := name_inj (by omega) (by omega) a b
  omega
theorem names_sort {wd : Nat} {recs : List Rec} (h : Made wd recs) (hl : recs.length ≤ 61) : (sortR recs).map (·.nm) = (recs.map (·.nm)).mergeSort leN :=
  List.map_mergeSort fun a ha b hb => le_rec (made_dist h hl a ha b hb)
theorem le_tot (a b : Str) : (leN a b || leN b a) = true := by
  unfold leN
  rcases List.le_total a.cps.toList b.cps.toList with h | h
  · rw [decide_eq_true h]; rfl
  · rw [decide_eq_true h]; simp
theorem le_tr (a b c : Str) (h1 : leN a b = true) (h2 : leN b c = true) : leN a c = true :=
  decide_eq_true (List.le_trans (of_decide_eq_true h1) (of_decide_eq_true h2))
theorem asc_of : ∀ {ns : List Str}, ns.Pairwise (fun a b => leN a b = true) → ns.Nodup → ascS ns = true
  | [], _, _ => rfl
  | [_], _, _ => rfl
  | a :: b :: r, hp, nd => by
    have le : a.cps.toList ≤ b.cps.toList := of_decide_eq_true ((List.pairwise_cons.mp hp).1 b (by simp))
    have ne : a ≠ b := fun z => (List.nodup_cons.mp nd).1 (by rw [z]; simp)
    have lt : a.cps.toList < b.cps.toList := by
      rcases List.le_iff_lt_or_eq.mp le with h | h
      · exact h
      · exact absurd (by
          cases a with
          | mk x =>
            cases b with
            | mk y =>
              have : x = y := Array.toList_inj.mp h
              rw [this]) ne
    show (ltS a b && ascS (b :: r)) = true
    rw [asc_of (List.pairwise_cons.mp hp).2 (List.nodup_cons.mp nd).2]
    show (decide _ && true) = true
    rw [decide_eq_true lt]
    rfl
theorem asc_sort {wd : Nat} {recs : List Rec} (h : Made wd recs) (hl : recs.length ≤ 61) : ascS ((sortR recs).map (·.nm)) = true := by
  rw [names_sort h hl]
  exact asc_of (List.pairwise_mergeSort le_tr le_tot _) ((List.mergeSort_perm _ _).nodup_iff.mpr (made_nodup h hl))
theorem names_nodup {wd : Nat} {recs : List Rec} (h : Made wd recs) (hl : recs.length ≤ 61) : ((sortR recs).map (·.nm)).Nodup := by
  rw [names_sort h hl]
  exact (List.mergeSort_perm _ _).nodup_iff.mpr (made_nodup h hl)
theorem sort_rok {wd : Nat} {recs : List Rec} (h : Made wd recs) (hl : recs.length ≤ 61) : ∀ r ∈ sortR recs, ROk wd r := fun r hr => by
  have hr : r ∈ recs := List.mem_mergeSort.mp hr
  obtain ⟨i, hi, e⟩ := List.getElem_of_mem hr
  exact ⟨i, by omega, h i r (by rw [List.getElem?_eq_getElem hi, e])⟩
theorem eqv_ints : ∀ xs ys : List Int, PyData.eqvAll (xs.map .int) (ys.map .int) = decide (xs = ys)
  | [], [] => by simp [PyData.eqvAll]
  | [], y :: ys => by simp [PyData.eqvAll]
  | x :: xs, [] => by simp [PyData.eqvAll]
  | x :: xs, y :: ys => by
    rw [List.map_cons, List.map_cons, PySem.W.eqv_all_cons, eqv_ints xs ys]
    by_cases h : x = y <;> by_cases h2 : xs = ys <;> simp [PyData.eqv, h, h2]
/-! ### [row for row in rows if ..] -/
theorem filter_at (f : Rec → Bool) {rs : List Rec} {i : Nat} {r : Rec} (h : rs[i]? = some r) : (rs.take (i + 1)).filter f = (rs.take i).filter f ++ (if f r = true then [r] else []) := by
  rw [List.take_add_one, h, List.filter_append]
  by_cases z : f r = true
  · simp [z]
  · simp [z]
theorem lc_filter {K : PySem.W.Frag} {a D : Addr} {xs : List V} {rs : List Rec} {g : TG} {tt : TT} {te : TE} {vs : List Nat} {σ : L2.St} {H1 : Hp} {Qd : Hp → Prop} (f : Rec → Bool) (nD : H1 D = none) (ea : H1 a = some (.tup xs)) (hx : Dxs H1 xs (rs.map encR)) (hl : rs.length ≤ 1000)
    (hs : ∀ (r : Rec) (x : V) (G : Hp), r ∈ rs → Same H1 G → Dx G x (encR r) → ∀ (Pt : V → Hp → Prop) (Pf : Hp → Prop), (if f r = true then Pt x G else Pf G) → g x (wipe σ vs) G fun σ2 H2 => wipe σ2 vs = wipe σ vs ∧ tt σ2 H2 fun b H3 => if b = true then te σ2 H3 Pt else Pf H3)
    (hd : ∀ G ys, Same H1 G → G D = some (.lst ys) → Dxs (hid D G) ys ((rs.filter f).map encR) → Qd G) :
    ∃ W : Nat → Nat → Hp → Prop, (∃ m, W 0 m (upd H1 D (.lst []))) ∧ ∀ i m H, W i m H →
      ((Itt K a).stop i H ∧ Qd H) ∨ ((Itt K a).go i H ∧ ∃ Nx : Hp → Prop, (∀ H', Nx H' → ∃ m', m' < m ∧ W (i + 1) m' H') ∧ ∀ x H', (Itt K a).yld i H x H' → g x (wipe σ vs) H' fun σ2 H2 => wipe σ2 vs = wipe σ vs ∧ tt σ2 H2 fun b H3 =>
        if b = true then te σ2 H3 fun y H4 => ∃ acc, H4 D = some (.lst acc) ∧ acc.length < sizeLine ∧ Nx (upd H4 D (.lst (acc ++ [y]))) else Nx H3) := by
  have lx := hx.len
  rw [List.length_map] at lx
  refine lc_tup (xs := xs) (fun i G => Same H1 G ∧ ∃ ys, G D = some (.lst ys) ∧ Dxs (hid D G) ys (((rs.take i).filter f).map encR)) ⟨same_new nD, [], upd_same, .nil⟩ (fun i G _ hG => .inl (.inl (hG.1 _ _ ea))) (fun i x G hxi hG => ?_) (fun G hG => ?_)
  · obtain ⟨sG, ys, eD, hy⟩ := hG
    obtain ⟨d, ed, hdx⟩ := hx.get' hxi
    rw [List.getElem?_map] at ed
    obtain ⟨r, er, rfl⟩ := Option.map_eq_some_iff.mp ed
    have el := filter_at f er
    have ly : ys.length ≤ i := by
      rw [hy.len, List.length_map]
      exact Nat.le_trans (List.length_filter_le _ _) (by rw [List.length_take]; omega)
    have ii : i < rs.length := (List.getElem?_eq_some_iff.mp er).1
    refine hs r x G (List.mem_of_getElem? er) sG (hdx.up sG) _ _ ?_
    by_cases lt : f r = true
    · rw [if_pos lt] at el ⊢
      refine ⟨ys, eD, ?_, same_at sG nD, ys ++ [x], upd_same, ?_⟩
      · have hb : (1000 : Nat) < sizeLine := by decide
        omega
      · rw [el, List.map_append]
        refine (hy.up fun c u e => ?_).app (.cons ((hdx.up (H' := hid D (upd G D (.lst (ys ++ [x])))) fun c u e => ?_)) .nil)
        · obtain ⟨nc, e⟩ := hid_some e
          rw [hid_at nc, upd_ne nc]
          exact e
        · have nc : c ≠ D := ne_of_none e nD
          rw [hid_at nc, upd_ne nc]
          exact sG _ _ e
    · rw [if_neg lt] at el ⊢
      rw [List.append_nil] at el
      exact ⟨sG, ys, eD, by rw [el]; exact hy⟩
  · obtain ⟨sG, ys, eD, hy⟩ := hG
    rw [List.take_of_length_le (by omega)] at hy
    exact hd G ys sG eD hy
/-- a list of ints out of the rows -/
theorem lc_ints {K : PySem.W.Frag} {a D : Addr} {xs : List V} {rs : List Rec} {g : TG} {tt : TT} {te : TE} {vs : List Nat} {σ : L2.St} {H1 : Hp} {Qd : Hp → Prop} (f : Rec → Int) (nD : H1 D = none) (ea : H1 a = some (.tup xs)) (hx : Dxs H1 xs (rs.map encR)) (hl : rs.length ≤ 1000)
    (hs : ∀ (r : Rec) (x : V) (G : Hp), r ∈ rs → Same H1 G → Dx G x (encR r) → ∀ (Pt : V → Hp → Prop) (Pf : Hp → Prop), Pt (.int (f r)) G → g x (wipe σ vs) G fun σ2 H2 => wipe σ2 vs = wipe σ vs ∧ tt σ2 H2 fun b H3 => if b = true then te σ2 H3 Pt else Pf H3)
    (hd : ∀ G, Same H1 G → G D = some (.lst ((rs.map f).map V.int)) → Qd G) :
    ∃ W : Nat → Nat → Hp → Prop, (∃ m, W 0 m (upd H1 D (.lst []))) ∧ ∀ i m H, W i m H →
      ((Itt K a).stop i H ∧ Qd H) ∨ ((Itt K a).go i H ∧ ∃ Nx : Hp → Prop, (∀ H', Nx H' → ∃ m', m' < m ∧ W (i + 1) m' H') ∧ ∀ x H', (Itt K a).yld i H x H' → g x (wipe σ vs) H' fun σ2 H2 => wipe σ2 vs = wipe σ vs ∧ tt σ2 H2 fun b H3 =>
        if b = true then te σ2 H3 fun y H4 => ∃ acc, H4 D = some (.lst acc) ∧ acc.length < sizeLine ∧ Nx (upd H4 D (.lst (acc ++ [y]))) else Nx H3) := by
  have lx := hx.len
  rw [List.length_map] at lx
  refine lc_tup (xs := xs) (fun i G => Same H1 G ∧ G D = some (.lst (((rs.take i).map f).map V.int))) ⟨same_new nD, upd_same⟩ (fun i G _ hG => .inl (.inl (hG.1 _ _ ea))) (fun i x G hxi hG => ?_) (fun G hG => ?_)
  · obtain ⟨sG, eD⟩ := hG
    obtain ⟨d, ed, hdx⟩ := hx.get' hxi
    rw [List.getElem?_map] at ed
    obtain ⟨r, er, rfl⟩ := Option.map_eq_some_iff.mp ed
    have ii : i < rs.length := (List.getElem?_eq_some_iff.mp er).1
    refine hs r x G (List.mem_of_getElem? er) sG (hdx.up sG) _ _ ?_
    refine ⟨_, eD, ?_, same_at sG nD, ?_⟩
    · rw [List.length_map, List.length_map, List.length_take]
      have hb : (1000 : Nat) < sizeLine := by decide
      omega
    · rw [upd_same, List.take_add_one, er, List.map_append, List.map_append]
      rfl
  · obtain ⟨sG, eD⟩ := hG
    rw [List.take_of_length_le (by omega)] at eD
    exact hd G sG eD
theorem dx_tup' {H : Hp} {v : V} {ds : List PyData} (h : Dx H v (.tuple ds)) : ∃ a xs, v = .ref a ∧ H a = some (.tup xs) ∧ Dxs H xs ds := by
  cases h with
  | @tup a xs _ ea h => exact ⟨a, xs, rfl, ea, h⟩
theorem eqv_self (r : Rec) : PyData.eqv (encR r) (encR r) = true := by
  simp [encR, PyData.eqv, PyData.eqvAll, eqv_ints]
theorem eqv_rows : ∀ rs : List Rec, PyData.eqvAll (rs.map encR) (rs.map encR) = true
  | [] => by simp [PyData.eqvAll]
  | r :: rs => by simp [PyData.eqvAll, eqv_self, eqv_rows rs]
theorem eqv_tup (rs : List Rec) : PyData.eqv (.tuple (rs.map encR)) (.tuple (rs.map encR)) = true := by simpa [PyData.eqv] using eqv_rows rs
theorem plain_rows : ∀ rs : List Rec, PyData.plainAll (rs.map encR) = true
  | [] => by simp [PyData.plainAll]
  | r :: rs => by simp [PyData.plainAll, plain_rec, plain_rows rs]
theorem plain_tup (rs : List Rec) : (PyData.tuple (rs.map encR)).plain = true := by simpa [PyData.plain] using plain_rows rs
theorem deep_rows (rs : List Rec) : PyData.depthAll (rs.map encR) ≤ 50 := depthAll_le fun e he => by
  obtain ⟨r, _, rfl⟩ := List.mem_map.mp he
  exact depth_rec r
theorem deep_tup (rs : List Rec) : (PyData.tuple (rs.map encR)).depth ≤ 64 := by
  have := deep_rows rs
  simp only [PyData.depth]
  omega
theorem dp_tup {K : PySem.W.Frag} {H : Hp} {v : V} {rs : List Rec} (h : Dx H v (.tuple (rs.map encR))) : Dp K H v (.tuple (rs.map encR)) := dp_dx _ _ (plain_tup rs) h
theorem any_self {bs : List Rec} {r : Rec} (h : r ∈ bs) : ((bs.map encR).any fun z => PyData.eqv z (encR r)) = true :=
  List.any_eq_true.mpr ⟨encR r, List.mem_map.mpr ⟨r, h, rfl⟩, eqv_self r⟩
theorem rows_fine {wd : Nat} {rs : List Rec} (hr : ∀ r ∈ rs, ROk wd r) (hl : rs.length ≤ 61) (hw : wd ≤ 4) : (PyData.tuple (rs.map encR)).showable = true ∧ (PyData.tuple (rs.map encR)).depth ≤ 100 ∧ (PyData.tuple (rs.map encR)).shown.length ≤ sizeLine := by
  have hm : ∀ e ∈ rs.map encR, fine (10 ^ 40) e = true ∧ wt e ≤ 20 ∧ e.depth ≤ 50 := fun e he => by
    obtain ⟨r, mr, rfl⟩ := List.mem_map.mp he
    exact rec_fine (hr r mr) hw
  have fr := fineAll_mem.mpr fun e he => (hm e he).1
  have gr := wtAll_le fun e he => (hm e he).2.1
  have kr := depthAll_le fun e he => (hm e he).2.2
  rw [List.length_map] at gr
  refine big_show ?_ ?_ ?_
  · simpa only [fine] using fr
  · simp only [wt]
    omega
  · simp only [PyData.depth]
    omega
end Z1

set_option maxRecDepth 100000
set_option maxHeartbeats 4000000
namespace Z1
open PySem PySem.Spec PyProof.Rows L2 KX
abbrev sDir : Stmt := topS 10
abbrev sDist : Stmt := topS 11
/-- the constants of the text -/
structure Cj (K : PySem.W.Frag) (mg : Str → Option Value) : Prop where
  wid : ∃ t, mg "MAX_WIDTH" = some (.int 4 t)
  dirs : ∃ t, mg "DIRECTIONS" = some (.ref t) ∧ ∃ (o : Obj) (its : Array Value) (n : Nat), K.lookup t = some o ∧ o.cls = .type "tuple" ∧ o.data = .seq its n ∧ its.size ≤ sizeLine ∧ Vals [.str "asc", .str "desc"] its.toList
def dirsL : List PyData := [.str "asc", .str "desc"]
def inDir (d : PyData) : Bool := dirsL.any fun z => PyData.eqv z d
def dirD (w n : Int) : PyData → Bool
  | .tuple ds => decide ((ds.length : Int) = n) && (betw 0 (w - 1) (ds.getD 0 .none) && inDir (ds.getD 1 .none))
  | _ => false
theorem dp_two {K : PySem.W.Frag} {H : Hp} {t : Addr} (h : SqT K H t [.str "asc", .str "desc"]) : Dp K H (.ref t) (.tuple dirsL) := .tup h (.cons (.str _) (.cons (.str _) .nil))
theorem dirsL_ok : PyData.plainAll dirsL = true ∧ PyData.depthAll dirsL ≤ 60 := by decide
theorem tupB_len {n : Int} {ds : List PyData} : tupB n n (.tuple ds) = decide ((ds.length : Int) = n) := by
  have e : tupB n n (.tuple ds) = (decide (n ≤ (ds.length : Int)) && decide ((ds.length : Int) ≤ n)) := rfl
  rw [e]
  by_cases h : (ds.length : Int) = n
  · rw [decide_eq_true h, decide_eq_true (by omega), decide_eq_true (by omega)]; rfl
  · rw [decide_eq_false h]
    by_cases h2 : n ≤ (ds.length : Int)
    · rw [decide_eq_true h2, decide_eq_false (by omega)]; rfl
    · rw [decide_eq_false h2]; rfl
theorem plain_at {ds : List PyData} {d : PyData} {i : Nat} (h : PyData.plainAll ds = true) (e : ds[i]? = some d) : d.plain = true := by
  induction ds generalizing i with
  | nil => simp at e
  | cons c cs ih =>
    have h' : c.plain = true ∧ PyData.plainAll cs = true := by simpa [PyData.plainAll] using h
    cases i with
    | zero =>
      simp at e
      subst e
      exact h'.1
    | succ i => exact ih h'.2 (by simpa using e)
theorem plain_tupO {ds : List PyData} (h : (PyData.tuple ds).plain = true) : PyData.plainAll ds = true := by simpa [PyData.plain] using h
def spDir : Sp := fun vs H Q _ => ∃ v d w n, vs = [.int w, v, .int n] ∧ Dx H v d ∧ (∀ ds, d = .tuple ds → ∀ e ∈ ds, okP e) ∧ 2 ≤ n ∧ Q (.bl (dirD w n d)) H
theorem scDir : FnScope ["width", "value", "length"] ["width", "value", "length"] (defScope sDir) := ⟨rfl, rfl, rfl, by decide +kernel, rfl, by decide +kernel, by decide +kernel⟩
/-- an item of a tuple of data -/
theorem at_of {H : Hp} {xs : List V} {ds : List PyData} (h : Dxs H xs ds) {i : Nat} (hi : i < ds.length) : ∃ v, xs[i]? = some v ∧ Dx H v (ds.getD i .none) := by
  have hx : i < xs.length := by rw [h.len]; exact hi
  obtain ⟨d, ed, hd⟩ := h.get' (List.getElem?_eq_getElem hx)
  refine ⟨_, List.getElem?_eq_getElem hx, ?_⟩
  rw [List.getD_eq_getElem?_getD, ed]
  exact hd
section
variable {P : Program} {w : World} {K : PySem.W.Frag} {mg : Str → Option Value} {base : Heap}
theorem ok_dir {f fB fT : Addr} {fd fdB fdT : FuncData} (B : Bl mg) (C : Cj K mg) (D : Df K mg "is_directed" sDir ["width", "value", "length"] f fd) (DB : Df K mg "is_between" sBetween ["value", "low", "high"] fB fdB)
    (DT : Df K mg "is_tuple_between" sTupB ["value", "low", "high"] fT fdT) : FnOk P w K mg base CX0 2 f fd ["width", "value", "length"] spDir := by
  obtain ⟨t, mt, ot, its, n0, lt, c1, c2, c3, c4⟩ := C.dirs
  have GB : FnOk P w K mg base CX0 1 fB fdB _ spBetween := ok_between B DB
  have GT : FnOk P w K mg base CX0 1 fT fdT _ spTupB := ok_tupB B DT
  refine D.F.ok scDir (fun vs H Q E h => ?_) (fun cdv A outer s H vs Q E hr h => ?_)
  · obtain ⟨v, d, w', n, rfl, _⟩ := h
    rfl
  · obtain ⟨v, d, w', n, rfl, hd, pl, n2, q⟩ := h
    refine ⟨_, pss_cons (ps_if (pt_not (pt_val (pe_call GT hr (by rfl) DT.g DT.F.kp DT.b .nil pass0 (pa_cons (pv 1) (pa_cons (pv 2) (pa_cons (pv 2) pa_nil)))))) (pss_one (ps_ret pe_bl)) pss_nil)
      (pss_one (ps_ret (pe_and (pe_call GB hr (by rfl) DB.g DB.F.kp DB.b .nil pass0 (pa_cons (pe_ix ix_tup (pv 1) pe_int (fun _ _ => rfl)) (pa_cons pe_int (pa_cons (pe_op op_sub (pv 0) pe_int) pa_nil))))
        (pe_one (pe_cmpR (op_inX hr.units) (pe_ix ix_tup (pv 1) pe_int (fun _ _ => rfl)) (pe_glob (v := .ref t) (by rfl) mt rfl) (by rfl)))))), ?_⟩
    refine ⟨v, rfl, .int n, rfl, .int n, rfl, v, d, n, n, rfl, hd, _, rfl, ?_⟩
    cases d with
    | tuple ds =>
      cases hd with
      | @tup a xs _ ea h =>
        rw [tupB_len]
        have er : dirD w' n (.tuple ds) = (decide ((ds.length : Int) = n) && (betw 0 (w' - 1) (ds.getD 0 .none) && inDir (ds.getD 1 .none))) := rfl
        rw [er] at q
        by_cases hn : (ds.length : Int) = n
        · rw [decide_eq_true hn] at q ⊢
          obtain ⟨v0, e0, d0⟩ := at_of h (i := 0) (by omega)
          obtain ⟨v1, e1, d1⟩ := at_of h (i := 1) (by omega)
          refine iteF ⟨.ref a, rfl, a, _, 0, v0, rfl, rfl, .inl (.inl ea), atI_nat e0, .int w', rfl, w', 1, rfl, rfl, v0, _, 0, w' - 1, rfl, d0, _, rfl, ?_⟩
          cases eb : betw 0 (w' - 1) (ds.getD 0 .none) with
          | false =>
            rw [eb] at q
            exact iteF q
          | true =>
            rw [eb] at q
            have p1 : okP (ds.getD 1 .none) := by
              have : 1 < ds.length := by omega
              rw [List.getD_eq_getElem?_getD, List.getElem?_eq_getElem this]
              exact pl ds rfl _ (List.getElem_mem this)
            refine iteT ⟨.ref a, rfl, a, _, 1, v1, rfl, rfl, .inl (.inl ea), atI_nat e1, ds.getD 1 .none, t, ["asc", "desc"], d1, p1, rfl, .inr ⟨ot, its, n0, lt, c1, c2, c3, c4⟩, ?_⟩
            exact q
        · rw [decide_eq_false hn] at q ⊢
          exact iteT q
    | _ => exact iteT q
end
end Z1
namespace Z1
open PySem PySem.Spec PyProof.Rows L2 KX
def col0 : PyData → Int
  | .tuple (.int i :: _) => i
  | _ => 0
def hasCol : PyData → Prop := fun d => ∃ i es, d = .tuple (.int i :: es)
def spDist : Sp := fun vs H Q _ => ∃ v ds, vs = [v] ∧ Dx H v (.tuple ds) ∧ (∀ d ∈ ds, hasCol d) ∧ ds.length ≤ 100 ∧ ∀ H', Same H H' → Q (.bl (decide (ds.map col0).Nodup)) H'
theorem scDist : FnScope ["parts", "part"] ["parts"] (defScope sDist) := ⟨rfl, rfl, rfl, by decide +kernel, rfl, by decide +kernel, by decide +kernel⟩
theorem nodup_snoc {l : List Int} {k : Int} : (l ++ [k]).Nodup ↔ l.Nodup ∧ k ∉ l := by
  rw [List.nodup_append]
  constructor
  · intro h
    exact ⟨h.1, fun hk => h.2.2 k hk k (by simp) rfl⟩
  · intro h
    refine ⟨h.1, by simp, fun a ha b hb e => ?_⟩
    simp at hb
    subst hb
    exact h.2 (e ▸ ha)
section
variable {P : Program} {w : World} {K : PySem.W.Frag} {mg : Str → Option Value} {base : Heap}
theorem ok_dist {f : Addr} {fd : FuncData} (B : Bl mg) (D : Df K mg "have_distinct_columns" sDist ["parts"] f fd) : FnOk P w K mg base CX0 1 f fd ["parts"] spDist := by
  refine D.F.ok scDist (fun vs H Q E h => ?_) (fun cdv A outer s H vs Q E hr h => ?_)
  · obtain ⟨v, ds, rfl, _⟩ := h
    rfl
  · obtain ⟨v, ds, rfl, hd, hc, hz, q⟩ := h
    have nd := scDist.nd
    refine ⟨_, pss_one (ps_ret (pe_cmpR op_eq (pe_callB call_lenZ (by rfl) B.len PySem.boot_len (pa_cons (pe_setI (own := [("part", 1)]) (g := gName 1) rfl nd (pi_tup (pv 0)) (blkOk_by (N := ["parts", "part"]) (sc := defScope sDist) (by decide +kernel))
        (fun _ _ _ _ _ => pg_name (i := 1) nd rfl (Or.inl rfl)) (fun _ _ _ _ _ => pe_ix (r := rIxT K) ix_tup (pv 1) pe_int (fun _ _ => rfl))) pa_nil))
      (pe_callB call_len_seq (by rfl) B.len PySem.boot_len (pa_cons (pv 0) pa_nil)) (nomark _))), ?_⟩
    cases hd with
    | @tup a xs _ ea h =>
      refine ⟨.ref a, rfl, a, rfl, ⟨_, .inl (.inl ea)⟩, fun D nD => ?_⟩
      refine setI_tup (xs := xs) (fun i G => Same H G ∧ ∃ n, n ≤ i ∧ (n = i ↔ ((ds.take i).map col0).Nodup) ∧ G D = some (SetO w D (fun j => decide (j ∈ (ds.take i).map col0)) n))
        ⟨same_at (Same.refl H) nD, 0, Nat.le_refl _, by simp, by rw [upd_same]; simp only [List.take_zero, List.map_nil, List.not_mem_nil, decide_false]; rfl⟩
        (fun i G hi hp => .inl (.inl (hp.1 _ _ ea))) (fun i x G hx hp => ?_) (fun G hp => ?_)
      · obtain ⟨s1, n, ni, en, eD⟩ := hp
        obtain ⟨d, ed, hdx⟩ := h.get' hx
        obtain ⟨k, es, rfl⟩ := hc d (List.mem_of_getElem? ed)
        have hxl : i < xs.length := by
          rcases Nat.lt_or_ge i xs.length with z | z
          · exact z
          · rw [List.getElem?_eq_none z] at hx; cases hx
        have il : i < 100 := by
          have := h.len
          omega
        have et : (ds.take (i + 1)).map col0 = (ds.take i).map col0 ++ [k] := by
          rw [List.take_add_one, ed, List.map_append]
          rfl
        cases hdx with
        | @tup p ys _ ep hy =>
          cases hy with
          | @cons y0 yr _ _ h0 ht =>
            cases h0
            have sb : (101 : Nat) < scanBound := by decide
            refine ⟨rfl, .ref p, rfl, p, _, 0, .int k, rfl, rfl, .inl (.inl (s1 _ _ ep)), atI_nat (xs := V.int k :: yr) (j := 0) rfl, k, _, n, rfl, eD, by omega, same_at s1 nD, ?_⟩
            have e1 : (fun j => decide (j ∈ (ds.take i).map col0) || decide (j = k)) = fun j => decide (j ∈ (ds.take (i + 1)).map col0) := by
              funext j
              rw [et]
              by_cases hj : j ∈ (ds.take i).map col0
              · rw [decide_eq_true hj, decide_eq_true (List.mem_append_left _ hj)]
                rfl
              · rw [decide_eq_false hj, Bool.false_or]
                by_cases hk : j = k
                · rw [decide_eq_true hk, decide_eq_true (by rw [hk]; simp)]
                · rw [decide_eq_false hk, decide_eq_false (fun z => (List.mem_append.mp z).elim hj (fun z => hk (by simpa using z)))]
            have eA : addS w D (fun j => decide (j ∈ (ds.take i).map col0)) n k G D = some (SetO w D (fun j => decide (j ∈ (ds.take (i + 1)).map col0)) (if decide (k ∈ (ds.take i).map col0) = true then n else n + 1)) := by
              unfold addS
              rw [upd_same, e1]
            by_cases hk : k ∈ (ds.take i).map col0
            · refine ⟨n, by omega, ⟨fun z => by omega, fun z => ?_⟩, ?_⟩
              · rw [et, nodup_snoc] at z
                exact absurd hk z.2
              · exact eA.trans (by rw [if_pos (decide_eq_true hk)])
            · refine ⟨n + 1, by omega, ⟨fun z => ?_, fun z => ?_⟩, ?_⟩
              · rw [et, nodup_snoc]
                exact ⟨en.mp (by omega), hk⟩
              · rw [et, nodup_snoc] at z
                have := en.mpr z.1
                omega
              · exact eA.trans (by rw [if_neg (by rw [decide_eq_false hk]; simp)])
      · obtain ⟨s1, n, ni, en, eD⟩ := hp
        have hx : ds.take xs.length = ds := List.take_of_length_le (by rw [h.len]; exact Nat.le_refl _)
        rw [hx] at en
        refine ⟨D, _, n, rfl, eD, .ref a, rfl, a, xs, rfl, .inr (.inl (.inl (s1 _ _ ea))), rfl, ?_⟩
        have e : decide (V.int (n : Int) = V.int (xs.length : Int)) = decide (ds.map col0).Nodup := by
          by_cases hn : (ds.map col0).Nodup
          · rw [decide_eq_true hn, decide_eq_true (by have := en.mpr hn; rw [this])]
          · rw [decide_eq_false hn, decide_eq_false (fun z => hn (en.mp (by have := V.int.inj z; omega)))]
        rw [e]
        exact q G s1
end
end Z1

namespace Z1
open PySem PySem.Spec PyProof.Rows L2 KX
abbrev sInit : Stmt := (clsB (topS 4)).getD 0 (.Pass ⟨0, 0, 0, 0⟩)
abbrev sCk : Stmt := topS 8
abbrev sCw : Stmt := topS 32
def ixTl : List Value := [.type "IndexError", .type "LookupError", .type "Exception", .type "BaseException", .type "object"]
theorem ixB : XB "IndexError" "IndexError.__new__" "IndexError.__init__" ixTl := ⟨PySem.F.excBase_IndexError, PySem.F.store_IndexError⟩
/-- the class InvalidNumber, at C; its __init__ at fI -/
structure IN (K : PySem.W.Frag) (mg : Str → Option Value) (C fI : Addr) (gI : FuncData) : Prop where
  g : mg "InvalidNumber" = some (.ref C)
  x : XC K "IndexError" "IndexError.__new__" "IndexError.__init__" ixTl C
  i : XI K C
  no : PySem.W.findIn K (.ref C) "value" = some none
  iC : PySem.W.findIn K (.ref C) "__init__" = some (some (.ref fI))
  tI : PySem.W.typeIn K (.ref fI) = some (.type "function")
  vV : PySem.W.findCls K (.type "IndexError") (.type "type") "__init__" = some (.val (.builtin "IndexError.__init__"))
  F : Fun K "__init__" "InvalidNumber.__init__" sInit fI gI
  b : Binds K gI ["self", "value"] []
def spInit (C : Addr) : Sp := fun vs H Q _ => ∃ a v, vs = [.ref a, v] ∧ H a = some (exo a C none) ∧ ∀ dx, H dx = none → dx ≠ a → Q .non (upd (upd H dx (exd dx [("value", v)])) a (exo a C (some dx)))
theorem scInit : FnScope ["self", "value"] ["self", "value"] (defScope sInit) := ⟨rfl, rfl, rfl, by decide +kernel, rfl, by decide +kernel, by decide +kernel⟩
section
variable {P : Program} {w : World} {K : PySem.W.Frag} {mg : Str → Option Value} {base : Heap} {C fI : Addr} {gI : FuncData}
theorem ok_init (B : Bl mg) (T : IN K mg C fI gI) : FnOk P w K mg base CX0 1 fI gI ["self", "value"] (spInit C) := by
  refine T.F.ok scInit (fun vs H Q E h => ?_) (fun cdv A outer s H vs Q E hr h => ?_)
  · obtain ⟨a, v, rfl, _⟩ := h
    rfl
  · obtain ⟨a, v, rfl, ea, q⟩ := h
    refine ⟨_, pss_cons (ps_expr (pe_bini (newI := "IndexError.__new__") (tl := ixTl) (by rfl) B.ixe T.vV (pa_cons (pv 0) (pa_cons (pv 1) pa_nil))))
      (pss_one (ps_fst (B := "IndexError") (newI := "IndexError.__new__") (iniI := "IndexError.__init__") (tl := ixTl) (pv 0) (pv 1))), ?_⟩
    refine ⟨.ref a, rfl, v, rfl, a, C, [v], rfl, by simp, T.x, ea, ?_⟩
    exact ⟨v, rfl, .ref a, rfl, a, C, rfl, T.x, T.no, ea, fun dx n ne => q dx n ne⟩
/-! ### check_between -/
def spCk (C : Addr) : Sp := fun vs H Q E => ∃ v d lo hi, vs = [v, .int lo, .int hi] ∧ Dx H v d ∧
  (if betw lo hi d = true then Q .non H else ∀ H' dd, Same H H' → H' dd = some (.xd [("value", v)]) → E (.ref C) (some dd) H')
theorem scCk : FnScope ["value", "low", "high"] ["value", "low", "high"] (defScope sCk) := ⟨rfl, rfl, rfl, by decide +kernel, rfl, by decide +kernel, by decide +kernel⟩
theorem ok_ck {f fB : Addr} {fd fdB : FuncData} (B : Bl mg) (T : IN K mg C fI gI) (D : Df K mg "check_between" sCk ["value", "low", "high"] f fd) (DB : Df K mg "is_between" sBetween ["value", "low", "high"] fB fdB) :
    FnOk P w K mg base (L2.CX P w) 3 f fd ["value", "low", "high"] (spCk C) := by
  have GB : FnOk P w K mg base CX0 1 fB fdB _ spBetween := ok_between B DB
  have GI : FnOk P w K mg base CX0 1 fI gI _ (spInit C) := ok_init B T
  refine D.F.okX scCk (fun vs H Q E h => ?_) (fun cdv A outer s H vs Q E hr h => ?_)
  · obtain ⟨v, d, lo, hi, rfl, _⟩ := h
    rfl
  · obtain ⟨v, d, lo, hi, rfl, hd, q⟩ := h
    refine ⟨_, pss_one (ps_if (pt_not (pt_val (pe_call GB (hr.mono (by decide)) (by rfl) DB.g DB.F.kp DB.b .nil pass0 (pa_cons (pv 0) (pa_cons (pv 1) (pa_cons (pv 2) pa_nil))))))
      (pss_one (ps_raise rfl (takes_of rfl rfl rfl rfl) (pmk_x T.x T.iC T.tI GI hr T.b pass0 (by rfl) T.g (pa_cons (pv 0) pa_nil)))) pss_nil), ?_⟩
    refine ⟨v, rfl, .int lo, rfl, .int hi, rfl, v, d, lo, hi, rfl, hd, _, rfl, ?_⟩
    cases eb : betw lo hi d with
    | true =>
      rw [eb] at q
      exact iteF q
    | false =>
      rw [eb] at q
      refine iteT ⟨v, rfl, by simp, fun a na => ⟨a, v, rfl, upd_same, fun dx ndx ne => ⟨rfl, dx, [("value", v)], upd_same, ?_, ?_, ?_⟩⟩⟩
      · rw [upd_ne ne, upd_same]
      · rw [upd_ne ne] at ndx
        exact ndx
      · rw [upd_ne ne] at ndx
        refine q _ dx (fun b o e => ?_) upd_same
        rw [upd_ne (ne_of_none e ndx), del_ne (ne_of_none e na), upd_ne (ne_of_none e na), upd_ne (ne_of_none e ndx), upd_ne (ne_of_none e na)]
        exact e
/-! ### check_width -/
def spCw (C : Addr) : Sp := fun vs H Q E => ∃ v d, vs = [v] ∧ Dx H v d ∧
  (if betw 1 4 d = true then Q .non H else ∀ H' dd, Same H H' → H' dd = some (.xd [("value", v)]) → E (.ref C) (some dd) H')
theorem scCw : FnScope ["width"] ["width"] (defScope sCw) := ⟨rfl, rfl, rfl, by decide +kernel, rfl, by decide +kernel, by decide +kernel⟩
theorem ok_cw {f fC fB : Addr} {fd fdC fdB : FuncData} (B : Bl mg) (Cc : Cj K mg) (T : IN K mg C fI gI) (D : Df K mg "check_width" sCw ["width"] f fd) (DC : Df K mg "check_between" sCk ["value", "low", "high"] fC fdC)
    (DB : Df K mg "is_between" sBetween ["value", "low", "high"] fB fdB) : FnOk P w K mg base (L2.CX P w) 4 f fd ["width"] (spCw C) := by
  obtain ⟨tw, mw⟩ := Cc.wid
  have GC : FnOk P w K mg base (L2.CX P w) 3 fC fdC _ (spCk C) := ok_ck B T DC DB
  refine D.F.okX scCw (fun vs H Q E h => ?_) (fun cdv A outer s H vs Q E hr h => ?_)
  · obtain ⟨v, d, rfl, _⟩ := h
    rfl
  · obtain ⟨v, d, rfl, hd, q⟩ := h
    refine ⟨_, pss_one (ps_expr (pe_callS GC hr (by rfl) DC.g DC.F.kp DC.b (fun σ => passAt (takes_of rfl rfl rfl rfl) σ) (pa_cons (pv 0) (pa_cons pe_int (pa_cons (pe_glob (v := .int 4) (by rfl) mw ⟨_, rfl⟩) pa_nil))))), ?_⟩
    exact ⟨v, rfl, v, d, 1, 4, rfl, hd, q⟩
end
end Z1

set_option maxRecDepth 100000
set_option maxHeartbeats 4000000
namespace Z1
open PySem PySem.Spec PyProof.Rows L2 KX
abbrev sIO : Stmt := topS 35
abbrev sCO : Stmt := topS 36
abbrev sKey : Stmt := topS 37
theorem betw_is {lo hi : Int} {d : PyData} (h : betw lo hi d = true) : ∃ i, d = .int i ∧ lo ≤ i ∧ i ≤ hi := by
  cases d with
  | int i =>
    have e : betw lo hi (.int i) = (decide (lo ≤ i) && decide (i ≤ hi)) := rfl
    rw [e, Bool.and_eq_true] at h
    exact ⟨i, rfl, of_decide_eq_true h.1, of_decide_eq_true h.2⟩
  | _ => cases h
theorem dxs_ints_eq {H : Hp} : ∀ {zv : List V} {ns : List Int}, Dxs H zv (ns.map PyData.int) → zv = ns.map V.int
  | [], [], _ => rfl
  | v :: zv, n :: ns, .cons h t => by
    cases h
    rw [dxs_ints_eq t]
    rfl
theorem at_int {ns : List Int} {c : Int} (h0 : 0 ≤ c) (h1 : c < (ns.length : Int)) : atI (ns.map V.int) c = some (.int (ns.getD c.toNat 0)) := by
  have lt : c.toNat < ns.length := by omega
  have z := atI_nat (xs := ns.map V.int) (j := c.toNat) (v := .int ns[c.toNat]) (by rw [List.getElem?_map, List.getElem?_eq_getElem lt]; rfl)
  rw [show ((c.toNat : Nat) : Int) = c by omega] at z
  rw [z, List.getD_eq_getElem?_getD, List.getElem?_eq_getElem lt]
  rfl
/-! ### orders -/
def ordD (w : Int) : PyData → Bool
  | .tuple ds => (decide (0 ≤ (ds.length : Int)) && decide ((ds.length : Int) ≤ 4)) && (ds.all (dirD w 2) && decide (ds.map col0).Nodup)
  | _ => false
def okO (d : PyData) : Prop := ∀ ds, d = .tuple ds → ∀ e ∈ ds, ∀ es, e = .tuple es → ∀ x ∈ es, okP x
theorem dirD_tup {w n : Int} {d : PyData} (h : dirD w n d = true) : ∃ ds, d = .tuple ds ∧ (ds.length : Int) = n := by
  cases d with
  | tuple ds =>
    have er : dirD w n (.tuple ds) = (decide ((ds.length : Int) = n) && (betw 0 (w - 1) (ds.getD 0 .none) && inDir (ds.getD 1 .none))) := rfl
    rw [er, Bool.and_eq_true] at h
    exact ⟨ds, rfl, of_decide_eq_true h.1⟩
  | _ => cases h
theorem dir_col {w : Int} {d : PyData} (h : dirD w 2 d = true) : hasCol d := by
  obtain ⟨ds, rfl, hl⟩ := dirD_tup h
  have er : dirD w 2 (.tuple ds) = (decide ((ds.length : Int) = 2) && (betw 0 (w - 1) (ds.getD 0 .none) && inDir (ds.getD 1 .none))) := rfl
  rw [er, Bool.and_eq_true, Bool.and_eq_true] at h
  match ds, hl with
  | [a, b], _ =>
  obtain ⟨i, ei, _⟩ := betw_is h.2.1
  have e0 : a = .int i := ei
  exact ⟨i, [b], by rw [e0]⟩
def spIO : Sp := fun vs H Q _ => ∃ v d w, vs = [.int w, v] ∧ 1 ≤ w ∧ w ≤ 4 ∧ Dx H v d ∧ okO d ∧ ∀ H', Same H H' → Q (.bl (ordD w d)) H'
theorem scIO : FnScope ["width", "value", "pair"] ["width", "value"] (defScope sIO) := ⟨rfl, rfl, rfl, by decide +kernel, rfl, by decide +kernel, by decide +kernel⟩
def spCO (R : Addr) : Sp := fun vs H Q E => ∃ v d w, vs = [.int w, v] ∧ 1 ≤ w ∧ w ≤ 4 ∧ Dx H v d ∧ okO d ∧ (if ordD w d = true then ∀ H', Same H H' → Q .non H' else ∀ H', Same H H' → E (.ref R) none H')
theorem scCO : FnScope ["width", "order"] ["width", "order"] (defScope sCO) := ⟨rfl, rfl, rfl, by decide +kernel, rfl, by decide +kernel, by decide +kernel⟩
section
variable {P : Program} {w : World} {K : PySem.W.Frag} {mg : Str → Option Value} {base : Heap} {C : Addr}
theorem ok_io {f fW fT fD fN : Addr} {fd fdW fdT fdD fdN : FuncData} (B : Bl mg) (Cc : Cj K mg) (D : Df K mg "is_order" sIO ["width", "value"] f fd) (DW : Df K mg "check_width" sCw ["width"] fW fdW) (DT : Df K mg "is_tuple_between" sTupB ["value", "low", "high"] fT fdT)
    (DD : Df K mg "is_directed" sDir ["width", "value", "length"] fD fdD) (DN : Df K mg "have_distinct_columns" sDist ["parts"] fN fdN)
    (GW : FnOk P w K mg base (L2.CX P w) 4 fW fdW ["width"] (spCw C)) (GT : FnOk P w K mg base CX0 4 fT fdT ["value", "low", "high"] spTupB) (GD' : FnOk P w K mg base CX0 4 fD fdD ["width", "value", "length"] spDir) (GN : FnOk P w K mg base CX0 4 fN fdN ["parts"] spDist) :
    FnOk P w K mg base CX0 5 f fd ["width", "value"] spIO := by
  obtain ⟨tw, mw⟩ := Cc.wid
  refine D.F.ok scIO (fun vs H Q E h => ?_) (fun cdv A outer s H vs Q E hr h => ?_)
  · obtain ⟨v, d, wi, rfl, _⟩ := h
    rfl
  · obtain ⟨v, d, wi, rfl, w1, w4, hd, oa, q⟩ := h
    have nd := scIO.nd
    refine ⟨_, pss_cons (ps_expr (pe_call GW hr (by rfl) DW.g DW.F.kp DW.b .nil passL (pa_cons (pv 0) pa_nil)))
      (pss_cons (ps_if (pt_not (pt_val (pe_call GT hr (by rfl) DT.g DT.F.kp DT.b .nil pass0 (pa_cons (pv 1) (pa_cons pe_int (pa_cons (pe_glob (v := .int 4) (by rfl) mw ⟨_, rfl⟩) pa_nil)))))) (pss_one (ps_ret pe_bl)) pss_nil)
      (pss_one (ps_ret (pe_and (pe_callB (cr_all rfl) (by rfl) B.all (by decide +kernel) (pa_cons (pe_lc (own := [("pair", 2)]) (g := gName 2) rfl nd (pi_tup (pv 1)) (blkOk_by (N := ["width", "value", "pair"]) (sc := defScope sIO) (by decide +kernel))
          (fun _ _ _ _ _ => pg_name (i := 2) nd rfl (Or.inl rfl)) (fun _ _ _ _ _ => pts_nil)
          (fun _ _ _ _ _ => pe_call GD' hr (by rfl) DD.g DD.F.kp DD.b .nil pass0 (pa_cons (pv 0) (pa_cons (pv 2) (pa_cons pe_int pa_nil))))) pa_nil))
        (pe_one (pe_call GN hr (by rfl) DN.g DN.F.kp DN.b .nil pass0 (pa_cons (pv 1) pa_nil))))))), ?_⟩
    refine ⟨.int wi, rfl, .int wi, .int wi, rfl, .int wi, ?_⟩
    rw [if_pos (show betw 1 4 (.int wi) = true by
      show (decide (1 ≤ wi) && decide (wi ≤ 4)) = true
      rw [decide_eq_true w1, decide_eq_true w4]
      rfl)]
    refine ⟨v, rfl, v, d, 0, 4, rfl, hd, _, rfl, ?_⟩
    cases d with
    | tuple ds =>
      cases hd with
      | @tup a xs _ ea h =>
        have et : tupB 0 4 (.tuple ds) = (decide (0 ≤ (ds.length : Int)) && decide ((ds.length : Int) ≤ 4)) := rfl
        have er : ordD wi (.tuple ds) = ((decide (0 ≤ (ds.length : Int)) && decide ((ds.length : Int) ≤ 4)) && (ds.all (dirD wi 2) && decide (ds.map col0).Nodup)) := rfl
        rw [er] at q
        rw [et]
        cases ez : (decide (0 ≤ (ds.length : Int)) && decide ((ds.length : Int) ≤ 4)) with
        | false =>
          rw [ez] at q
          exact iteT (q H (Same.refl H))
        | true =>
          rw [ez] at q
          have hlen : ds.length ≤ 4 := by
            rw [Bool.and_eq_true] at ez
            have := of_decide_eq_true ez.2
            omega
          refine iteF ⟨.ref a, rfl, a, rfl, ⟨_, .inl (.inl ea)⟩, fun D nD => ?_⟩
          refine lc_tup (xs := xs) (fun i G => Same H G ∧ G D = some (.lst (((ds.take i).map (dirD wi 2)).map V.bl))) ⟨same_at (Same.refl H) nD, upd_same⟩
            (fun i G hi hp => .inl (.inl (hp.1 _ _ ea))) (fun i x G hx hp => ?_) (fun G hp => ?_)
          · obtain ⟨d, ed, hd⟩ := h.get' hx
            refine ⟨rfl, .int wi, rfl, x, rfl, x, d, wi, 2, rfl, hd.up hp.1, fun es e => oa ds rfl d (List.mem_of_getElem? ed) es e, by decide, _, hp.2, ?_, same_at hp.1 nD, ?_⟩
            · rw [List.length_map, List.length_map, List.length_take]
              have hb : (4 : Nat) < sizeLine := by decide
              omega
            · rw [upd_same, List.take_add_one, ed]
              simp
          · have hx : ds.take xs.length = ds := List.take_of_length_le (by rw [h.len]; exact Nat.le_refl _)
            rw [hx] at hp
            refine ⟨D, _, rfl, .inl (.inl hp.2), ?_⟩
            rw [List.all_map]
            have ea2 : ds.all (id ∘ dirD wi 2) = ds.all (dirD wi 2) := rfl
            refine ⟨_, rfl, ?_⟩
            cases ew : ds.all (dirD wi 2) with
            | false =>
              rw [ew] at q
              refine ite2 (fun t => ?_) fun _ => q G hp.1
              have t2 : ds.all (dirD wi 2) = true := by
                rw [← ea2]
                exact t
              rw [ew] at t2
              cases t2
            | true =>
              rw [ew] at q
              refine ite2 (fun _ => ?_) fun t => ?_
              · refine ⟨.ref a, rfl, .ref a, ds, rfl, .tup (hp.1 _ _ ea) (h.up hp.1), fun d hd => dir_col (List.all_eq_true.mp ew d hd), by omega, fun G2 s2 => ?_⟩
                exact q G2 (hp.1.trans s2)
              · exact absurd (ea2.trans ew) t
    | _ => exact iteT (q H (Same.refl H))
theorem ok_co {f fA : Addr} {fd fdA : FuncData} {R : Addr} (T : OC K mg "InvalidOrder" R) (D : Df K mg "check_order" sCO ["width", "order"] f fd) (DA : Df K mg "is_order" sIO ["width", "value"] fA fdA)
    (GA : FnOk P w K mg base CX0 5 fA fdA ["width", "value"] spIO) : FnOk P w K mg base (L2.CX P w) 6 f fd ["width", "order"] (spCO R) := by
  refine D.F.okX scCO (fun vs H Q E h => ?_) (fun cdv A outer s H vs Q E hr h => ?_)
  · obtain ⟨v, d, w', rfl, _⟩ := h
    rfl
  · obtain ⟨v, d, w', rfl, w1, w4, hd, oa, q⟩ := h
    refine ⟨_, pss_one (ps_if (pt_not (pt_val (pe_call GA hr (by rfl) DA.g DA.F.kp DA.b .nil pass0 (pa_cons (pv 0) (pa_cons (pv 1) pa_nil)))))
        (pss_one (ps_raise rfl (takes_of rfl rfl rfl rfl) (pmk_own PySem.F.excBase_ValueError T.q T.g T.kp (raises_own T.sub T.ty) (by rfl)))) pss_nil), ?_⟩
    refine ⟨.int w', rfl, v, rfl, v, d, w', rfl, w1, w4, hd, oa, fun H1 s1 => ⟨_, rfl, ?_⟩⟩
    cases eb : ordD w' d with
    | false =>
      rw [eb, if_neg (by simp)] at q
      exact iteT (q H1 s1)
    | true =>
      rw [eb, if_pos rfl] at q
      exact iteF (q H1 s1)
end
/-! ### what an order is -/
abbrev Ord := Int × Str
def encO (t : Ord) : PyData := .tuple [.int t.1, .str t.2]
def dirW (y : Str) : Prop := y = "asc" ∨ y = "desc"
structure OrdOk (w : Int) (os : List Ord) : Prop where
  le : os.length ≤ 4
  nd : (os.map (·.1)).Nodup
  all : ∀ o ∈ os, 0 ≤ o.1 ∧ o.1 < w ∧ dirW o.2
theorem eqv_str {x : Str} {d : PyData} (h : PyData.eqv (.str x) d = true) : d = .str x := by
  cases d with
  | str y =>
    have e : PyData.eqv (.str x) (.str y) = (x == y) := by simp [PyData.eqv]
    rw [e] at h
    rw [beq_iff_eq.mp h]
  | _ => simp [PyData.eqv] at h
theorem inDir_is {d : PyData} (h : inDir d = true) : ∃ y, d = .str y ∧ dirW y := by
  unfold inDir dirsL at h
  simp only [List.any_cons, List.any_nil, Bool.or_false, Bool.or_eq_true] at h
  rcases h with h | h
  · exact ⟨_, eqv_str h, .inl rfl⟩
  · exact ⟨_, eqv_str h, .inr rfl⟩
theorem dirW_in {y : Str} (h : dirW y) : inDir (.str y) = true := by
  rcases h with rfl | rfl <;> decide +kernel
theorem dir_is {w : Int} {d : PyData} (h : dirD w 2 d = true) : ∃ t, d = encO t ∧ 0 ≤ t.1 ∧ t.1 < w ∧ dirW t.2 := by
  obtain ⟨ds, rfl, hl⟩ := dirD_tup h
  have er : dirD w 2 (.tuple ds) = (decide ((ds.length : Int) = 2) && (betw 0 (w - 1) (ds.getD 0 .none) && inDir (ds.getD 1 .none))) := rfl
  rw [er, Bool.and_eq_true, Bool.and_eq_true] at h
  match ds, hl with
  | [a, b], _ =>
  obtain ⟨i, ei, i0, i1⟩ := betw_is h.2.1
  obtain ⟨y, ey, hy⟩ := inDir_is h.2.2
  have e0 : a = .int i := ei
  have e1 : b = .str y := ey
  subst e0 e1
  exact ⟨(i, y), rfl, i0, by show i < w; omega, hy⟩
theorem dirs_are {w : Int} : ∀ {ds : List PyData}, ds.all (dirD w 2) = true → ∃ os : List Ord, ds = os.map encO ∧ ∀ o ∈ os, 0 ≤ o.1 ∧ o.1 < w ∧ dirW o.2
  | [], _ => ⟨[], rfl, fun t h => by cases h⟩
  | d :: ds, h => by
    rw [List.all_cons, Bool.and_eq_true] at h
    obtain ⟨t, rfl, ht⟩ := dir_is h.1
    obtain ⟨ts, rfl, hts⟩ := dirs_are h.2
    refine ⟨t :: ts, rfl, fun x hx => ?_⟩
    rcases List.mem_cons.mp hx with rfl | hx
    · exact ht
    · exact hts x hx
theorem ord_is {w : Int} {d : PyData} (h : ordD w d = true) : ∃ os : List Ord, d = .tuple (os.map encO) ∧ OrdOk w os := by
  cases d with
  | tuple ds =>
    have er : ordD w (.tuple ds) = ((decide (0 ≤ (ds.length : Int)) && decide ((ds.length : Int) ≤ 4)) && (ds.all (dirD w 2) && decide (ds.map col0).Nodup)) := rfl
    rw [er, Bool.and_eq_true, Bool.and_eq_true, Bool.and_eq_true] at h
    obtain ⟨⟨h1, h2⟩, h3, h4⟩ := h
    obtain ⟨os, rfl, hos⟩ := dirs_are h3
    have l2 := of_decide_eq_true h2
    rw [List.length_map] at l2
    refine ⟨os, rfl, by omega, ?_, hos⟩
    have z := of_decide_eq_true h4
    rw [List.map_map] at z
    exact z
  | _ => cases h
theorem ord_true {w : Int} {os : List Ord} (h : OrdOk w os) : ordD w (.tuple (os.map encO)) = true := by
  have er : ordD w (.tuple (os.map encO)) = ((decide (0 ≤ ((os.map encO).length : Int)) && decide (((os.map encO).length : Int) ≤ 4)) && ((os.map encO).all (dirD w 2) && decide ((os.map encO).map col0).Nodup)) := rfl
  have n4 := h.le
  have e2 : (os.map encO).map col0 = os.map (·.1) := by
    rw [List.map_map]
    rfl
  have e3 : (os.map encO).all (dirD w 2) = true := by
    rw [List.all_eq_true]
    intro d hd
    obtain ⟨t, ht, rfl⟩ := List.mem_map.mp hd
    obtain ⟨o0, o1, o2⟩ := h.all t ht
    have em : dirD w 2 (encO t) = (decide ((([PyData.int t.1, .str t.2] : List PyData).length : Int) = 2) && ((decide (0 ≤ t.1) && decide (t.1 ≤ w - 1)) && inDir (.str t.2))) := rfl
    rw [em, decide_eq_true o0, decide_eq_true (show t.1 ≤ w - 1 by omega), dirW_in o2]
    rfl
  rw [er, e2, e3, decide_eq_true h.nd, List.length_map, decide_eq_true (by omega), decide_eq_true (by omega)]
  rfl
theorem ord_okO {os : List Ord} : okO (.tuple (os.map encO)) := fun ds e d hd es e2 x hx => by
  cases e
  obtain ⟨t, ht, rfl⟩ := List.mem_map.mp hd
  cases e2
  simp at hx
  rcases hx with rfl | rfl <;> exact .inl rfl
end Z1

set_option maxRecDepth 100000
set_option maxHeartbeats 4000000
namespace Z1
open PySem PySem.Spec PyProof.Rows L2 KX
structure RowN (d : PyData) (nm : Str) (ns : List Int) : Prop where
  is : ∃ c e, d = .tuple [.str nm, c, .tuple (ns.map .int), e]
  l1 : 1 ≤ ns.length
  l4 : ns.length ≤ 4
def keyI (os : List Ord) (zs : List Int) : List Int := os.map fun o : Ord => if o.2 = ("asc" : Str) then zs.getD o.1.toNat 0 else - zs.getD o.1.toNat 0
def keyD (os : List Ord) (nm : Str) (zs : List Int) : PyData := .tuple [.list ((keyI os zs).map .int), .str nm]
def precI (os : List Ord) (n1 : Str) (z1 : List Int) (n2 : Str) (z2 : List Int) : Bool := PySem.W.dataLt (keyD os n1 z1) (keyD os n2 z2)
/-- as the law has it -/
def lawI : List Ord → Str → List Int → Str → List Int → Bool
  | [], n1, _, n2, _ => decide (n1.cps.toList < n2.cps.toList)
  | o :: os, n1, z1, n2, z2 => if z1.getD o.1.toNat 0 = z2.getD o.1.toNat 0 then lawI os n1 z1 n2 z2 else (decide (z1.getD o.1.toNat 0 < z2.getD o.1.toNat 0) == decide (o.2 = "asc"))
theorem precI_key (os : List Ord) (n1 : Str) (z1 : List Int) (n2 : Str) (z2 : List Int) : precI os n1 z1 n2 z2 = if keyI os z1 = keyI os z2 then decide (n1.cps.toList < n2.cps.toList) else decide (keyI os z1 < keyI os z2) := by
  unfold precI keyD
  rw [PySem.W.dataLt_pair (by simp [PySem.W.alike, PySem.W.alike_ints]) (by simp [PySem.W.alike]), PySem.W.dataLt_str, PySem.W.dataLt_list]
  have e1 : PyData.eqv (.list ((keyI os z1).map .int)) (.list ((keyI os z2).map .int)) = decide (keyI os z1 = keyI os z2) := by
    simp only [PyData.eqv]
    exact eqv_ints _ _
  have e2 := PySem.W.dataLt_ints (keyI os z1) (keyI os z2)
  unfold PySem.W.rowLt at e2
  rw [e1, e2]
  by_cases h : keyI os z1 = keyI os z2
  · rw [decide_eq_true h, if_pos rfl, if_pos h]
    by_cases h2 : PyData.eqv (.str n1) (.str n2) = true
    · rw [if_pos h2]
      have : n1 = n2 := by simpa [PyData.eqv] using h2
      rw [this]
      exact (decide_eq_false (List.lt_irrefl _)).symm
    · rw [if_neg h2]
  · rw [decide_eq_false h, if_neg (by simp), if_neg h]
theorem prec_law : ∀ (os : List Ord) (n1 : Str) (z1 : List Int) (n2 : Str) (z2 : List Int), precI os n1 z1 n2 z2 = lawI os n1 z1 n2 z2
  | [], n1, z1, n2, z2 => by
    rw [precI_key, if_pos (show keyI [] z1 = keyI [] z2 from rfl)]
    rfl
  | o :: os, n1, z1, n2, z2 => by
    have ih := prec_law os n1 z1 n2 z2
    rw [precI_key] at ih ⊢
    have k1 : keyI (o :: os) z1 = (if o.2 = "asc" then z1.getD o.1.toNat 0 else - z1.getD o.1.toNat 0) :: keyI os z1 := rfl
    have k2 : keyI (o :: os) z2 = (if o.2 = "asc" then z2.getD o.1.toNat 0 else - z2.getD o.1.toNat 0) :: keyI os z2 := rfl
    rw [k1, k2]
    show _ = if z1.getD o.1.toNat 0 = z2.getD o.1.toNat 0 then lawI os n1 z1 n2 z2 else (decide (z1.getD o.1.toNat 0 < z2.getD o.1.toNat 0) == decide (o.2 = "asc"))
    generalize z1.getD o.1.toNat 0 = a
    generalize z2.getD o.1.toNat 0 = b
    by_cases h : a = b
    · subst h
      rw [if_pos rfl, ← ih]
      by_cases h2 : keyI os z1 = keyI os z2
      · rw [if_pos (by rw [h2]), if_pos h2]
      · rw [if_neg (fun z => h2 (List.cons.inj z).2), if_neg h2]
        exact decide_eq_decide.mpr (by rw [List.cons_lt_cons_iff]; exact ⟨fun z => by rcases z with z | ⟨_, z⟩; exact absurd z (Int.lt_irrefl _); exact z, fun z => .inr ⟨rfl, z⟩⟩)
    · rw [if_neg h]
      by_cases hw : o.2 = "asc"
      · rw [if_pos hw, if_pos hw, if_neg (fun z => h (List.cons.inj z).1), decide_eq_true hw]
        by_cases hl : a < b
        · rw [decide_eq_true hl]
          exact decide_eq_true (List.cons_lt_cons_iff.mpr (.inl hl))
        · rw [decide_eq_false hl]
          exact decide_eq_false (fun z => by rcases List.cons_lt_cons_iff.mp z with z | ⟨z, _⟩; exact hl z; exact h z)
      · rw [if_neg hw, if_neg hw, if_neg (fun z => h (by have := (List.cons.inj z).1; omega)), decide_eq_false hw]
        by_cases hl : a < b
        · rw [decide_eq_true hl]
          exact decide_eq_false (fun z => by rcases List.cons_lt_cons_iff.mp z with z | ⟨z, _⟩ <;> omega)
        · rw [decide_eq_false hl]
          exact decide_eq_true (List.cons_lt_cons_iff.mpr (.inl (by omega)))
def spKey : Sp := fun vs H Q _ => ∃ rv ov r nm zs os w, vs = [rv, ov] ∧ Dx H rv r ∧ RowN r nm zs ∧ Dx H ov (.tuple (os.map encO)) ∧ OrdOk w os ∧ w ≤ (zs.length : Int) ∧
  ∀ H' p L, Same H H' → H' p = some (.tup [.ref L, .str nm]) → H' L = some (.lst ((keyI os zs).map V.int)) → Q (.ref p) H'
theorem scKey : FnScope ["row", "order", "values", "listed", "column", "direction"] ["row", "order"] (defScope sKey) := ⟨rfl, rfl, rfl, by decide +kernel, rfl, by decide +kernel, by decide +kernel⟩
theorem row_nm {H : Hp} {v : V} {d : PyData} {nm : Str} {ns : List Int} (h : Dx H v d) (r : RowN d nm ns) : ∃ a vc ve z, v = .ref a ∧ H a = some (.tup [.str nm, vc, .ref z, ve]) ∧ H z = some (.tup (ns.map V.int)) := by
  obtain ⟨c, e, rfl⟩ := r.is
  cases h with
  | @tup a xs _ ea h =>
    match xs, h, ea with
    | [vn, vc, vv, ve], .cons hn (.cons hc (.cons hv (.cons he .nil))), ea =>
    cases hn
    cases hv with
    | @tup z zv _ ez hz =>
      rw [dxs_ints_eq hz] at ez
      exact ⟨a, vc, ve, z, rfl, ea, ez⟩
section
variable {P : Program} {w : World} {K : PySem.W.Frag} {mg : Str → Option Value} {base : Heap}
theorem ok_key {f : Addr} {fd : FuncData} (B : Bl mg) (cv : ∃ t, mg "VALUES" = some (.int 2 t)) (cn : ∃ t, mg "NAME" = some (.int 0 t)) (D : Df K mg "order_key" sKey ["row", "order"] f fd) : FnOk P w K mg base CX0 1 f fd ["row", "order"] spKey := by
  obtain ⟨tv, mv⟩ := cv
  obtain ⟨tn, mn⟩ := cn
  refine D.F.ok scKey (fun vs H Q E h => ?_) (fun cdv A outer s H vs Q E hr h => ?_)
  · obtain ⟨rv, ov, r, nm, zs, os, w', rfl, _⟩ := h
    rfl
  · obtain ⟨rv, ov, r, nm, zs, os, w', rfl, hr1, rn, ho, ok, hw, q⟩ := h
    have nd := scKey.nd
    refine ⟨_, pss_cons (ps_set (i := 2) nd rfl (.inr rfl) (pe_ix ix_tup (pv 0) (pe_glob (v := .int 2) (by rfl) mv ⟨_, rfl⟩) (fun _ _ => rfl)))
      (pss_cons (ps_setLc (i := 3) (own := [("column", 4), ("direction", 5)]) (g := gTup K 2 (gCons (gName 4) (gCons (gName 5) gNil))) (by rfl) nd rfl rfl (sw_true rfl rfl rfl (by decide +kernel)) (pi_tup (pv 1)) (blkOk_by (N := ["row", "order", "values", "listed", "column", "direction"]) (sc := defScope sKey) (by decide +kernel))
          (fun _ _ _ _ _ => pg_tup rfl (pgs_cons (pg_name (i := 4) nd rfl (Or.inl rfl)) (pgs_cons (pg_name (i := 5) nd rfl (Or.inl rfl)) pgs_nil))) (fun _ _ _ _ _ => pts_nil)
          (fun _ _ _ _ _ => pe_ifExp (pt_cmpR op_eq (pv 5) pe_str (nomark _)) (pe_ix (r := rIxT K) ix_tup (pv 2) (pv 4) (fun _ _ => rfl)) (pe_un un_neg (pe_ix (r := rIxT K) ix_tup (pv 2) (pv 4) (fun _ _ => rfl)))))
      (pss_one (ps_ret (pe_tup (pa_cons (pv 3) (pa_cons (pe_ix ix_tup (pv 0) (pe_glob (v := .int 0) (by rfl) mn ⟨_, rfl⟩) (fun _ _ => rfl)) pa_nil)))))), ?_⟩
    obtain ⟨a, vc, ve, z, rfl, ea, ez⟩ := row_nm hr1 rn
    cases ho with
    | @tup t xs _ et hx =>
      have lx := hx.len
      rw [List.length_map] at lx
      have b4 := ok.le
      refine ⟨.ref a, rfl, a, _, 2, .ref z, rfl, rfl, .inl (.inl ea), rfl, ?_⟩
      refine ⟨.ref t, rfl, t, rfl, ⟨_, .inl (.inl et)⟩, fun L nL => ?_⟩
      refine lc_tup (xs := xs) (fun i G => Same H G ∧ G L = some (.lst ((keyI (os.take i) zs).map V.int))) ⟨same_new nL, upd_same⟩ (fun i G _ hG => .inl (.inl (hG.1 _ _ et))) (fun i x G hxi hG => ?_) (fun G hG => ?_)
      · obtain ⟨c, ec, hc⟩ := hx.get' hxi
        have il : i < os.length := by
          rcases Nat.lt_or_ge i xs.length with z | z
          · omega
          · rw [List.getElem?_eq_none z] at hxi; cases hxi
        rw [List.getElem?_map, List.getElem?_eq_getElem il] at ec
        obtain ⟨o, eo⟩ : ∃ o, o = os[i] := ⟨_, rfl⟩
        rw [← eo] at ec
        cases ec
        obtain ⟨o0, o1, o2⟩ := ok.all o (by rw [eo]; exact List.getElem_mem il)
        have hcG := hc.up hG.1
        cases hcG with
        | @tup p ys _ ep hy =>
          match ys, hy, ep with
          | [vo, vy], .cons hc1 (.cons hy1 .nil), ep =>
          cases hc1
          cases hy1
          have tk : (keyI (os.take (i + 1)) zs).map V.int = (keyI (os.take i) zs).map V.int ++ [.int (if o.2 = "asc" then zs.getD o.1.toNat 0 else - zs.getD o.1.toNat 0)] := by
            rw [List.take_add_one, List.getElem?_eq_getElem il, ← eo]
            unfold keyI
            simp
          have fin : ∀ (k : Int), k = (if o.2 = "asc" then zs.getD o.1.toNat 0 else - zs.getD o.1.toNat 0) → ∃ acc, G L = some (.lst acc) ∧ acc.length < sizeLine ∧ (Same H (upd G L (.lst (acc ++ [.int k]))) ∧ (upd G L (.lst (acc ++ [.int k]))) L = some (.lst ((keyI (os.take (i + 1)) zs).map V.int))) := fun k ek => by
            refine ⟨_, hG.2, ?_, same_at hG.1 nL, ?_⟩
            · rw [List.length_map]
              unfold keyI
              rw [List.length_map, List.length_take]
              have hb : (4 : Nat) < sizeLine := by decide
              omega
            · rw [upd_same, tk, ek]
          refine ⟨p, _, rfl, .inl (.inl ep), rfl, _, _, rfl, _, _, rfl, rfl, rfl, ?_⟩
          refine ⟨.str o.2, rfl, rfl, _, rfl, ?_⟩
          by_cases hw2 : o.2 = "asc"
          · rw [decide_eq_true (by rw [hw2])]
            exact iteT ⟨.ref z, rfl, .int o.1, rfl, z, _, o.1, _, rfl, rfl, .inl (.inl (hG.1 _ _ ez)), at_int o0 (by omega), fin _ (by rw [if_pos hw2])⟩
          · rw [decide_eq_false (fun z => hw2 (V.str.inj z))]
            exact iteF ⟨.ref z, rfl, .int o.1, rfl, z, _, o.1, _, rfl, rfl, .inl (.inl (hG.1 _ _ ez)), at_int o0 (by omega), _, rfl, fin _ (by rw [if_neg hw2])⟩
      · obtain ⟨sG, eL⟩ := hG
        rw [List.take_of_length_le (by omega)] at eL
        refine ⟨.ref L, rfl, .ref a, rfl, a, _, 0, .str nm, rfl, rfl, .inl (.inl (sG _ _ ea)), rfl, by show 2 ≤ sizeLine; decide, fun p np => ?_⟩
        exact q _ p L (sG.trans (same_new np)) upd_same (same_new np _ _ eL)
end
end Z1

set_option maxRecDepth 100000
set_option maxHeartbeats 4000000
namespace Z1
open PySem PySem.Spec PyProof.Rows L2 KX
abbrev sLO : Stmt := topS 45
abbrev sLP : Stmt := topS 46
theorem pick {α : Type} {f : α → V} {ns : List α} {d : Int} (h0 : 0 ≤ d) (h1 : d < (ns.length : Int)) : ∃ t, t ∈ ns ∧ atI (ns.map f) d = some (f t) := by
  have hl : d.toNat < ns.length := by omega
  refine ⟨ns[d.toNat], List.getElem_mem hl, ?_⟩
  have := atI_nat (xs := ns.map f) (j := d.toNat) (v := f ns[d.toNat]) (by rw [List.getElem?_map, List.getElem?_eq_getElem hl]; rfl)
  rw [show ((d.toNat : Nat) : Int) = d by omega] at this
  exact this
def TK (G G' : Hp) : Prop := ∀ b xs, G b = some (.tup xs) → G' b = some (.tup xs)
theorem TK.at {G : Hp} {b : Addr} {o u : HO} (e : G b = some u) (n : ∀ xs, u ≠ .tup xs) : TK G (upd G b o) := fun c xs z => by
  rw [upd_ne (fun q => by rw [q, e] at z; exact n xs (Option.some.inj z))]
  exact z
theorem TK.new {G : Hp} {b : Addr} {o : HO} (e : G b = none) : TK G (upd G b o) := fun c xs z => by
  rw [upd_ne (fun q => by rw [q, e] at z; cases z)]
  exact z
theorem TK.trans {G G1 G2 : Hp} (a : TK G G1) (b : TK G1 G2) : TK G G2 := fun c xs z => b _ _ (a _ _ z)
theorem TK.keep {l : Addr} {G G' : Hp} (k : Keep l G G') (st : StO G l) : TK G G' := fun c xs z => by
  obtain ⟨x, y, q, e⟩ := st
  refine k _ _ (fun r => ?_) z
  rw [r, e] at z
  cases z
theorem erase_map {α β : Type} (f : α → β) : ∀ (l : List α) (k : Nat), (l.map f).eraseIdx k = (l.eraseIdx k).map f
  | [], _ => rfl
  | _ :: _, 0 => rfl
  | a :: l, k + 1 => by
    show f a :: (l.map f).eraseIdx k = f a :: (l.eraseIdx k).map f
    rw [erase_map f l k]
theorem TK.hid {l : Addr} {G : Hp} (st : StO G l) : TK G (hid l G) := fun b xs z => by
  obtain ⟨x, y, q, e⟩ := st
  rw [hid_at (fun r => by rw [r, e] at z; cases z)]
  exact z
def rng (w : Int) : List Int := (List.range w.toNat).map fun i : Nat => (i : Int)
theorem rng_v {w : Int} : rgV 0 w = (rng w).map V.int := by
  unfold rgV rng
  rw [List.map_map, show (w - 0).toNat = w.toNat by omega]
  refine List.map_congr_left fun i _ => ?_
  show V.int (0 + (i : Int)) = V.int (i : Int)
  rw [Int.zero_add]
theorem rng_ok {w : Int} (h1 : 1 ≤ w) (h4 : w ≤ 4) : (rng w).Nodup ∧ ((rng w).length : Int) = w ∧ ∀ k ∈ rng w, 0 ≤ k ∧ k < w := by
  have : w = 1 ∨ w = 2 ∨ w = 3 ∨ w = 4 := by omega
  rcases this with rfl | rfl | rfl | rfl <;> decide
def OrdAt (G : Hp) (v : V) (t : Ord) : Prop := ∃ p, v = .ref p ∧ G p = some (.tup [.int t.1, .str t.2])
theorem dxs_ord {H : Hp} : ∀ {vs : List V} {ts : List Ord}, Paired (OrdAt H) vs ts → Dxs H vs (ts.map encO)
  | _, _, .nil => .nil
  | _, _, .cons r h => by
    obtain ⟨p, e, z⟩ := r
    subst e
    exact .cons (.tup z (.cons (.int _) (.cons (.str _) .nil))) (dxs_ord h)
theorem ord_up {G G' : Hp} (k : TK G G') : ∀ {vs : List V} {ts : List Ord}, Paired (OrdAt G) vs ts → Paired (OrdAt G') vs ts
  | _, _, .nil => .nil
  | _, _, .cons r h => .cons (by obtain ⟨p, e, z⟩ := r; exact ⟨p, e, k _ _ z⟩) (ord_up k h)
theorem ord_add {G : Hp} {v : V} {t : Ord} (h1 : OrdAt G v t) : ∀ {vs : List V} {ts : List Ord}, Paired (OrdAt G) vs ts → Paired (OrdAt G) (vs ++ [v]) (ts ++ [t])
  | _, _, .nil => .cons h1 .nil
  | _, _, .cons r h => .cons r (ord_add h1 h)
def spLO : Sp := fun vs H Q _ => ∃ (l : Addr) (w : Int), vs = [.ref l, .int w] ∧ StO H l ∧ 1 ≤ w ∧ w ≤ 4 ∧ ∀ H' p os, Keep l H H' → StO H' l → OrdOk w os → Dx (hid l H') (.ref p) (.tuple (os.map encO)) → Q (.ref p) H'
theorem scLO : FnScope ["stream", "wide", "left", "found", "turn"] ["stream", "wide"] (defScope sLO) := ⟨rfl, rfl, rfl, by decide +kernel, rfl, by decide +kernel, by decide +kernel⟩
section
variable {P : Program} {w : World} {K : PySem.W.Frag} {mg : Str → Option Value} {base : Heap}
theorem ok_lo {f fD : Addr} {fd fdD : FuncData} (B : Bl mg) (D : Df K mg "_law_order" sLO ["stream", "wide"] f fd) (DD : Df K mg "_law_draw" sDraw ["stream", "total"] fD fdD) : FnOk P w K mg base CX0 2 f fd ["stream", "wide"] spLO := by
  have GDr : FnOk P w K mg base CX0 1 fD fdD _ spDraw := ok_draw B DD
  refine D.F.ok scLO (fun vs H Q E h => ?_) (fun cdv A outer s H vs Q E hr h => ?_)
  · obtain ⟨l, w', rfl, _⟩ := h
    rfl
  · obtain ⟨l, w', rfl, st, w1, w4, q⟩ := h
    have nd := scLO.nd
    refine ⟨_, pss_cons (ps_set (i := 2) nd rfl (.inl rfl) (pe_listRg rfl (by rfl) B.list (prg_1 (by rfl) B.range (pv 1))))
      (pss_cons (ps_set (i := 3) nd rfl (.inl rfl) (pe_lst pa_nil))
      (pss_cons (ps_for PassesOwn.never rfl (pi_range1 (by rfl) B.range (pa_cons (pe_call GDr hr (by rfl) DD.g DD.F.kp DD.b .nil pass0 (pa_cons (pv 0) (pa_cons (pe_op op_add (pv 1) pe_int) pa_nil))) pa_nil)) (pg_name (i := 4) nd rfl (.inl rfl))
        (pss_one (ps_expr (pe_bm PySem.F.plainAttrs_list PySem.F.slot_list_append PySem.F.type_list_append mt_append (pv 3) (pa_cons (pe_tup
          (pa_cons (pe_bm PySem.F.plainAttrs_list PySem.F.slot_list_pop PySem.F.type_list_pop mt_popAt (pv 2) (pa_cons (pe_call GDr hr (by rfl) DD.g DD.F.kp DD.b .nil pass0 (pa_cons (pv 0) (pa_cons (pe_callB call_len_seq (by rfl) B.len PySem.boot_len (pa_cons (pv 2) pa_nil)) pa_nil))) pa_nil))
          (pa_cons (pe_ix ix_list (pe_lst (pa_cons pe_str (pa_cons pe_str pa_nil))) (pe_call GDr hr (by rfl) DD.g DD.F.kp DD.b .nil pass0 (pa_cons (pv 0) (pa_cons pe_int pa_nil))) (fun _ _ => rfl)) pa_nil))) pa_nil)))))
      (pss_one (ps_ret (pe_callTy call_tuple_of (by rfl) B.tuple (by decide +kernel) (pa_cons (pv 3) pa_nil)))))), ?_⟩
    obtain ⟨r1, r2, r3⟩ := rng_ok w1 w4
    refine ⟨.int w', rfl, w', rfl, .of_le (by decide) (by omega) (by decide) (by omega), fun L nL => ?_⟩
    have hL : L ≠ l := st.ne nL
    have st1 := st.new (o := .lst (rgV 0 w')) nL
    refine ⟨by decide, fun F nF => ?_⟩
    have hF : F ≠ l := st1.ne nF
    have hLF : L ≠ F := ne_of_none upd_same nF
    have st2 := st1.new (o := .lst []) nF
    refine ⟨.ref l, rfl, .int w', rfl, w', 1, rfl, rfl, l, w' + 1, rfl, st2, by omega, by omega, fun H1 n k1 s1 n0 n1 => ?_⟩
    refine ⟨n, rfl, by omega, by omega, ?_⟩
    have keepH : Keep l H H1 := fun b o nb e => k1 b o nb (by rw [upd_ne (ne_of_none (by rw [upd_ne (ne_of_none e nL)]; exact e) nF), upd_ne (ne_of_none e nL)]; exact e)
    have eL1 : H1 L = some (.lst ((rng w').map V.int)) := by
      rw [← rng_v]
      exact k1 _ _ hL (by rw [upd_ne hLF, upd_same])
    have eF1 : H1 F = some (.lst []) := k1 _ _ hF upd_same
    refine for_range (lo := 0) (n := Int.toNat _) (fun i σ G => Keep l H G ∧ StO G l ∧ ∃ (rem : List Int) (vs : List V) (ts : List Ord) (x4 : Option V), σ = [some (.ref l), some (.int w'), some (.ref L), some (.ref F), x4] ∧
        G L = some (.lst (rem.map V.int)) ∧ G F = some (.lst vs) ∧ Paired (OrdAt G) vs ts ∧ ts.length = i ∧ ((rem.length : Nat) : Int) + i = w' ∧ (rem ++ ts.map (·.1)).Nodup ∧ (∀ k ∈ rem, 0 ≤ k ∧ k < w') ∧ ∀ t ∈ ts, 0 ≤ t.1 ∧ t.1 < w' ∧ dirW t.2)
      ⟨keepH, s1, rng w', [], [], none, rfl, eL1, eF1, .nil, rfl, by omega, by simpa using r1, r3, by simp⟩ (fun i σ G hi hp => ?_) (fun σ G hp => ?_)
    · obtain ⟨kp, st, rem, vs, ts, x4, rfl, eL, eF, hv, hlen, hrem, hnd, hin, hall⟩ := hp
      have hi2 : (i : Int) < n := by omega
      have hrl : 1 ≤ rem.length := by omega
      refine ⟨.ref F, rfl, .inl ⟨rfl, _, .inl (.inl eF)⟩, .ref L, rfl, .inl ⟨rfl, _, .inl (.inl eL)⟩, .ref l, rfl, .ref L, rfl, L, _, rfl, .inl (.inl (.inl eL)), l, _, rfl, st, ?_, ?_, fun G5 d5 k5 s5 d50 d54 => ?_⟩
      · rw [List.length_map]; omega
      · rw [List.length_map]; omega
      rw [List.length_map] at d54
      have eL5 := k5 _ _ hL eL
      have eF5 := k5 _ _ hF eF
      have hd5 : d5.toNat < rem.length := by omega
      have ek : rem[d5.toNat]? = some rem[d5.toNat] := List.getElem?_eq_getElem hd5
      refine ⟨L, _, d5, d5.toNat, .int rem[d5.toNat], rfl, rfl, eL5, by omega, by omega, PySem.StrLaws.seqIndex_nonneg d50 (by rw [List.length_map]; exact d54), by rw [List.getElem?_map, ek]; rfl, ?_⟩
      have s6 : StO (upd G5 L (.lst ((rem.map V.int).eraseIdx d5.toNat))) l := by
        obtain ⟨x, y, z, e⟩ := s5
        exact ⟨x, y, z, by rw [upd_ne hL.symm]; exact e⟩
      have eF6 : (upd G5 L (.lst ((rem.map V.int).eraseIdx d5.toNat))) F = some (.lst vs) := by rw [upd_ne hLF.symm]; exact eF5
      have eL6 : (upd G5 L (.lst ((rem.map V.int).eraseIdx d5.toNat))) L = some (.lst ((rem.eraseIdx d5.toNat).map V.int)) := by rw [upd_same, erase_map]
      refine ⟨by show 2 ≤ sizeLine; decide, fun p np => ⟨.ref l, rfl, l, 2, rfl, s6.new np, by decide, by decide, fun G7 d7 k7 s7 d70 d71 => ?_⟩⟩
      have ep : G7 p = some (.lst [.str "asc", .str "desc"]) := k7 _ _ (s6.ne np) upd_same
      obtain ⟨y, my, ey⟩ := pick (f := V.str) (ns := [("asc" : Str), "desc"]) d70 d71
      have eF7 : G7 F = some (.lst vs) := k7 _ _ hF (by rw [upd_ne (ne_of_none eF6 np)]; exact eF6)
      have eL7 : G7 L = some (.lst ((rem.eraseIdx d5.toNat).map V.int)) := k7 _ _ hL (by rw [upd_ne (ne_of_none eL6 np)]; exact eL6)
      refine ⟨p, _, d7, .str y, rfl, rfl, .inl (.inl ep), ey, by show 2 ≤ sizeLine; decide, fun p6 np6 => ?_⟩
      have hp6F : F ≠ p6 := ne_of_none eF7 np6
      have hp6L : L ≠ p6 := ne_of_none eL7 np6
      have lv := Paired.length hv
      refine ⟨F, vs, .ref p6, rfl, rfl, by rw [upd_ne hp6F]; exact eF7, ?_, ?_⟩
      · have hb : (5 : Nat) < sizeLine := by decide
        omega
      have hTL : ∀ xs : List V, (HO.lst (rem.map V.int)) ≠ .tup xs := fun xs z => by cases z
      have hTF : ∀ xs : List V, (HO.lst vs) ≠ .tup xs := fun xs z => by cases z
      have tk : TK G (upd (upd G7 p6 (.tup [.int rem[d5.toNat], .str y])) F (.lst (vs ++ [.ref p6]))) :=
        ((((TK.keep k5 st).trans (TK.at eL5 hTL)).trans (TK.new np)).trans (TK.keep k7 (s6.new np))).trans ((TK.new np6).trans (TK.at (by rw [upd_ne hp6F]; exact eF7) hTF))
      refine ⟨?_, ?_, rem.eraseIdx d5.toNat, vs ++ [.ref p6], ts ++ [(rem[d5.toNat], y)], _, rfl, ?_, upd_same, ?_, ?_, ?_, ?_, ?_, ?_⟩
      · refine fun b o nb e => ?_
        have nbL : b ≠ L := ne_of_none e nL
        have nbF : b ≠ F := fun z => by
          have z2 : (upd H L (.lst (rgV 0 w'))) b = none := by rw [z]; exact nF
          rw [upd_ne nbL] at z2
          rw [z2] at e; cases e
        have z5 := k5 _ _ nb (kp _ _ nb e)
        have z6 : (upd G5 L (.lst ((rem.map V.int).eraseIdx d5.toNat))) b = some o := by rw [upd_ne nbL]; exact z5
        have z7 := k7 _ _ nb (by rw [upd_ne (ne_of_none z6 np)]; exact z6)
        rw [upd_ne nbF, upd_ne (ne_of_none z7 np6)]
        exact z7
      · obtain ⟨x, y2, z, e⟩ := s7
        exact ⟨x, y2, z, by rw [upd_ne hF.symm, upd_ne (ne_of_none e np6)]; exact e⟩
      · rw [upd_ne hLF, upd_ne hp6L]
        exact eL7
      · exact ord_add ⟨p6, rfl, by rw [upd_ne hp6F.symm, upd_same]⟩ (ord_up tk hv)
      · rw [List.length_append, hlen]; rfl
      · rw [List.length_eraseIdx_of_lt hd5]; omega
      · have pm := erase_perm rem d5.toNat _ ek
        rw [List.map_append]
        have p2 : (rem ++ ts.map (·.1)).Perm (rem.eraseIdx d5.toNat ++ (ts.map (·.1) ++ [rem[d5.toNat]])) := by
          have a1 := (pm.symm.append_right (ts.map (·.1)))
          refine a1.trans ?_
          rw [← List.append_assoc]
          exact (List.perm_append_singleton _ _).symm
        exact p2.nodup_iff.mp hnd
      · exact fun k hk => hin k (List.mem_of_mem_eraseIdx hk)
      · intro t ht
        rcases List.mem_append.mp ht with z | z
        · exact hall t z
        · simp at z
          subst z
          obtain ⟨c0, c1⟩ := hin _ (List.getElem_mem hd5)
          exact ⟨c0, c1, by simpa [dirW] using my⟩
    · obtain ⟨kp, st, rem, vs, ts, x4, rfl, eL, eF, hv, hlen, hrem, hnd, hin, hall⟩ := hp
      refine ⟨.ref F, rfl, F, vs, rfl, .inl ⟨.inl (.inl eF), fun p np => ?_⟩⟩
      exact q _ p ts (kp.new np) (st.new np) ⟨by omega, (List.nodup_append.mp hnd).2.1, hall⟩ (dx_tup np st (dxs_ord (ord_up (TK.hid st) hv)))
end
/-! ### _law_precedes -/
def spLP : Sp := fun vs H Q _ => ∃ v1 v2 vo d1 d2 n1 z1 n2 z2 os w0, vs = [vo, v1, v2] ∧ Dx H v1 d1 ∧ Dx H v2 d2 ∧ Dx H vo (.tuple (os.map encO)) ∧ RowN d1 n1 z1 ∧ RowN d2 n2 z2 ∧ z1.length = z2.length ∧ OrdOk w0 os ∧ w0 ≤ (z1.length : Int) ∧
  ∀ H', Same H H' → Q (.bl (lawI os n1 z1 n2 z2)) H'
theorem scLP : FnScope ["order", "one", "other", "col", "way", "here", "there"] ["order", "one", "other"] (defScope sLP) := ⟨rfl, rfl, rfl, by decide +kernel, rfl, by decide +kernel, by decide +kernel⟩
theorem lawI_drop (z1 z2 : List Int) (n1 n2 : Str) {os : List Ord} {i : Nat} (il : i < os.length) : lawI (os.drop i) n1 z1 n2 z2 = if z1.getD (os[i]).1.toNat 0 = z2.getD (os[i]).1.toNat 0 then lawI (os.drop (i + 1)) n1 z1 n2 z2 else (decide (z1.getD (os[i]).1.toNat 0 < z2.getD (os[i]).1.toNat 0) == decide ((os[i]).2 = "asc")) := by
  rw [List.drop_eq_getElem_cons il]
  rfl
theorem dec_str (x y : Str) : decide (V.str x = V.str y) = decide (x = y) := by
  by_cases h : x = y
  · rw [decide_eq_true h, decide_eq_true (by rw [h])]
  · rw [decide_eq_false h, decide_eq_false (fun z => h (V.str.inj z))]
theorem dec_int (x y : Int) : decide (V.int x = V.int y) = decide (x = y) := by
  by_cases h : x = y
  · rw [decide_eq_true h, decide_eq_true (by rw [h])]
  · rw [decide_eq_false h, decide_eq_false (fun z => h (V.int.inj z))]
theorem dec_bl (a b : Bool) : decide (V.bl a = V.bl b) = (a == b) := by cases a <;> cases b <;> rfl
section
variable {P : Program} {w : World} {K : PySem.W.Frag} {mg : Str → Option Value} {base : Heap}
theorem ok_lp {f : Addr} {fd : FuncData} (B : Bl mg) (D : Df K mg "_law_precedes" sLP ["order", "one", "other"] f fd) : FnOk P w K mg base CX0 1 f fd ["order", "one", "other"] spLP := by
  refine D.F.ok scLP (fun vs H Q E h => ?_) (fun cdv A outer s H vs Q E hr h => ?_)
  · obtain ⟨v1, v2, vo, d1, d2, n1, z1, n2, z2, os, w0, rfl, _⟩ := h
    rfl
  · obtain ⟨v1, v2, vo, d1, d2, n1, z1, n2, z2, os, w0, rfl, h1, h2, ho, r1, r2, el, ok, hw, q⟩ := h
    have nd := scLP.nd
    refine ⟨_, pss_cons (ps_for PassesOwn.never rfl (pi_tup (pv 0)) (pg_tup (by rfl) (pgs_cons (pg_name (i := 3) nd rfl (.inl rfl)) (pgs_cons (pg_name (i := 4) nd rfl (.inl rfl)) pgs_nil)))
        (pss_cons (ps_par (i := 5) (j := 6) (by rfl) nd rfl rfl (by decide) rfl rfl (pa_cons (pe_ix ix_tup (pe_ix ix_tup (pv 1) pe_int (fun _ _ => rfl)) (pv 3) (fun _ _ => rfl)) (pa_cons (pe_ix ix_tup (pe_ix ix_tup (pv 2) pe_int (fun _ _ => rfl)) (pv 3) (fun _ _ => rfl)) pa_nil)) (by rfl))
        (pss_one (ps_if (pt_cmpR op_ne (pv 5) (pv 6) (nomark _)) (pss_one (ps_ret (pe_cmpR op_eq (pe_cmpR op_lt (pv 5) (pv 6) (nomark _)) (pe_cmpR op_eq (pv 4) pe_str (nomark _)) (nomark _)))) pss_nil))))
      (pss_one (ps_ret (pe_cmpR op_lt_str (pe_ix ix_tup (pv 1) pe_int (fun _ _ => rfl)) (pe_ix ix_tup (pv 2) pe_int (fun _ _ => rfl)) (nomark _)))), ?_⟩
    cases ho with
    | @tup m xs _ em hx =>
      have lx := hx.len
      rw [List.length_map] at lx
      refine ⟨.ref m, rfl, m, rfl, ⟨_, .inl (.inl em)⟩, ?_⟩
      refine for_tup (K := K) (xs := xs) (fun i σ G => Same H G ∧ lawI os n1 z1 n2 z2 = lawI (os.drop i) n1 z1 n2 z2 ∧ ∃ x3 x4 x5 x6, σ = [some (.ref m), some v1, some v2, x3, x4, x5, x6])
        ⟨Same.refl H, rfl, none, none, none, none, rfl⟩ (fun i σ G hi hp => .inl (.inl (hp.1 _ _ em))) (fun i x σ G hxi hp => ?_) (fun σ G hp => ?_)
      · obtain ⟨sG, hd, x3, x4, x5, x6, rfl⟩ := hp
        obtain ⟨c, ec, hc⟩ := hx.get' hxi
        have il : i < os.length := by
          rcases Nat.lt_or_ge i xs.length with z | z
          · omega
          · rw [List.getElem?_eq_none z] at hxi; cases hxi
        rw [lawI_drop z1 z2 n1 n2 il] at hd
        rw [List.getElem?_map, List.getElem?_eq_getElem il] at ec
        obtain ⟨o0, o1, o2⟩ := ok.all os[i] (List.getElem_mem il)
        generalize os[i] = o at ec hd o0 o1 o2
        cases ec
        have hcG := hc.up sG
        cases hcG with
        | @tup p ys _ ep hy =>
          match ys, hy, ep with
          | [vc, vy], .cons hc1 (.cons hy1 .nil), ep =>
          cases hc1
          cases hy1
          obtain ⟨a1, c1, e1, q1, rfl, ea1, ez1⟩ := row_nm (h1.up sG) r1
          obtain ⟨a2, c2, e2, q2, rfl, ea2, ez2⟩ := row_nm (h2.up sG) r2
          refine ⟨p, _, rfl, .inl (.inl ep), rfl, _, _, rfl, _, _, rfl, rfl, ?_⟩
          refine ⟨.ref a1, rfl, a1, _, 2, .ref q1, rfl, rfl, .inl (.inl ea1), rfl, .int o.1, rfl, q1, _, o.1, _, rfl, rfl, .inl (.inl ez1), at_int o0 (by omega), ?_⟩
          refine ⟨.ref a2, rfl, a2, _, 2, .ref q2, rfl, rfl, .inl (.inl ea2), rfl, .int o.1, rfl, q2, _, o.1, _, rfl, rfl, .inl (.inl ez2), at_int o0 (by omega), _, _, rfl, ?_⟩
          refine ⟨_, rfl, _, rfl, rfl, _, rfl, ?_⟩
          generalize z1.getD o.1.toNat 0 = a at hd ⊢
          generalize z2.getD o.1.toNat 0 = b at hd ⊢
          by_cases h : a = b
          · rw [if_pos h] at hd
            exact iteNS (by rw [h]) ⟨sG, hd, _, _, _, _, rfl⟩
          · rw [if_neg h] at hd
            rw [decide_eq_false (fun z => h (V.int.inj z))]
            refine iteT ⟨_, rfl, _, rfl, a, b, rfl, rfl, .str o.2, rfl, rfl, rfl, ?_⟩
            have q1 := q G sG
            rw [hd] at q1
            rw [dec_str, dec_bl]
            exact q1
      · obtain ⟨sG, hd, x3, x4, x5, x6, rfl⟩ := hp
        rw [List.drop_of_length_le (by omega)] at hd
        obtain ⟨a1, c1, e1, q1, rfl, ea1, ez1⟩ := row_nm (h1.up sG) r1
        obtain ⟨a2, c2, e2, q2, rfl, ea2, ez2⟩ := row_nm (h2.up sG) r2
        refine ⟨.ref a1, rfl, a1, _, 0, .str n1, rfl, rfl, .inl (.inl ea1), rfl, .ref a2, rfl, a2, _, 0, .str n2, rfl, rfl, .inl (.inl ea2), rfl, n1, n2, rfl, rfl, ?_⟩
        have q1 := q G sG
        rw [hd] at q1
        exact q1
end
end Z1

set_option maxRecDepth 100000
set_option maxHeartbeats 4000000
namespace KX
open PySem PySem.Spec PyProof.Rows L2 PySem.W LamX
/-! ### sorted(t, key=f): f's keys may hold new lists -/
section
variable {X : Cx}
/-- a state behind s1, while a builtin runs -/
structure On (X : Cx) (H1 : Hp) (s1 : Shared) (G : Hp) (s2 : Shared) : Prop where
  un : Un (frs X.stack) [] H1 G s1.heap s2.heap
  hok : HOk X.prog X.w G s2.heap
  bare : AllBare s2.gens
  os : s2.os = s1.os
theorem On.inv {H1 G : Hp} {s1 s2 : Shared} {pins : List (Addr × Obj)} {σ : L2.St} (n : On X H1 s1 G s2) (I : Inv X pins σ H1 s1) : Inv X pins σ G s2 := I.call' (ch := []) n.os n.un n.hok n.bare (fun b z => absurd z (by simp))
theorem On.kept {H1 G : Hp} {s1 : Shared} {h g : Heap} {gs : Array GenState} {d : Drawn} {t t' : Nat} {o : _} (n : On X H1 s1 G ⟨h, gs, d, t, o⟩) (k : ∀ b u, h.get? b = some u → g.get? b = some u) : On X H1 s1 G ⟨g, gs, d, t', o⟩ := ⟨n.un.trans (Un.kept k), n.hok.kept k, n.bare, n.os⟩
/-- one untracked new object is changed -/
theorem On.but {H1 G : Hp} {s1 : Shared} {h g : Heap} {gs : Array GenState} {d : Drawn} {t t' : Nat} {o : _} {c : Addr} (n : On X H1 s1 G ⟨h, gs, d, t, o⟩) (hc : s1.heap.get? c = none) (nc : G c = none) (k : ∀ b u, b ≠ c → h.get? b = some u → g.get? b = some u) : On X H1 s1 G ⟨g, gs, d, t', o⟩ := by
  have ne : ∀ {b u}, s1.heap.get? b = some u → b ≠ c := fun {b u} e z => by rw [z, hc] at e; cases e
  refine ⟨⟨fun b u e a1 a2 a3 => k b u (ne e) (n.un.keep b u e a1 a2 a3), fun b u e a1 a2 a3 => ?_, n.un.free, fun b u e a3 => ?_, n.un.tups, n.un.frzs, n.un.tbls⟩, fun b u e => ?_, n.bare, n.os⟩
  · obtain ⟨sl, q⟩ := n.un.slot b u e a1 a2 a3
    exact ⟨sl, k _ _ (ne e) q⟩
  · obtain ⟨u', q⟩ := n.un.there b u e a3
    exact ⟨u', k _ _ (ne e) q⟩
  · refine (n.hok b u e).stay (fun a v ha q => k a v ?_ q) (fun _ q => q) (fun _ _ q => q)
    rintro rfl
    rcases ha with rfl | ha
    · rw [nc] at e
      cases e
    · rw [nc] at ha
      cases ha
/-- and another becomes a tracked list -/
theorem On.list {H1 G : Hp} {s1 : Shared} {h g : Heap} {gs : Array GenState} {d : Drawn} {t t' : Nat} {o : _} {c a : Addr} {ys : List V} (n : On X H1 s1 G ⟨h, gs, d, t, o⟩) (hc : s1.heap.get? c = none) (nc : G c = none) (ha : s1.heap.get? a = none) (na : G a = none)
    (k : ∀ b u, b ≠ c → b ≠ a → h.get? b = some u → g.get? b = some u) (new : ObjOk X.prog X.w (L2.upd G a (.lst ys)) g a (.lst ys)) : On X H1 s1 (L2.upd G a (.lst ys)) ⟨g, gs, d, t', o⟩ := by
  have nec : ∀ {b u}, s1.heap.get? b = some u → b ≠ c := fun {b u} e z => by rw [z, hc] at e; cases e
  have nea : ∀ {b u}, s1.heap.get? b = some u → b ≠ a := fun {b u} e z => by rw [z, ha] at e; cases e
  refine ⟨⟨fun b u e a1 a2 a3 => k b u (nec e) (nea e) (n.un.keep b u e a1 a2 a3), fun b u e a1 a2 a3 => ?_, fun b u e a1 a2 => by rw [upd_ne (nea e)]; exact n.un.free b u e a1 a2, fun b u e a3 => ?_, fun b xs q => ?_, fun b ob u q => ?_, fun b ps q => ?_⟩, fun b u e => ?_, n.bare, n.os⟩
  · obtain ⟨sl, q⟩ := n.un.slot b u e a1 a2 a3
    exact ⟨sl, k _ _ (nec e) (nea e) q⟩
  · obtain ⟨u', q⟩ := n.un.there b u e a3
    exact ⟨u', k _ _ (nec e) (nea e) q⟩
  · have z := n.un.tups b xs q
    rw [upd_ne (ne_of_none z na)]
    exact z
  · have z := n.un.frzs b ob u q
    rw [upd_ne (ne_of_none z na)]
    exact z
  · obtain ⟨m, z⟩ := n.un.tbls b ps q
    exact ⟨m, by rw [upd_ne (ne_of_none z na)]; exact z⟩
  · by_cases hb : b = a
    · subst hb
      rw [upd_same] at e
      cases e
      exact new
    · rw [upd_ne hb] at e
      refine (n.hok b u e).stay (fun v w' hv q => k v w' ?_ ?_ q) (fun v q => by rw [upd_ne (ne_of_none q na)]; exact q) (fun v xs q => by rw [upd_ne (ne_of_none q na)]; exact q)
      · rintro rfl
        rcases hv with rfl | hv
        · rw [nc] at e
          cases e
        · rw [nc] at hv
          cases hv
      · rintro rfl
        rcases hv with rfl | hv
        · exact hb rfl
        · rw [na] at hv
          cases hv
end
section
variable {X : Cx} {pins : List (Addr × Obj)} {σ : L2.St} {A : Around} {E : Value → Shared → Prop} {P : PySem.Fin → Shared → Prop}
theorem each_zip {α β : Type} {R : α → β → Prop} {xs : List α} {ys : List β} (hl : xs.length = ys.length) (h : ∀ (i : Nat) (x : α) (y : β), xs[i]? = some x → ys[i]? = some y → R x y) : EachIs R xs ys := by
  induction xs generalizing ys with
  | nil =>
    cases ys with
    | nil => exact .nil
    | cons _ _ => simp at hl
  | cons x xs ih =>
    cases ys with
    | nil => simp at hl
    | cons y ys => exact .cons (h 0 x y rfl rfl) (ih (by simpa using hl) fun i a b ha hb => h (i + 1) a b (by simpa using ha) (by simpa using hb))
theorem sqT_same {K : PySem.W.Frag} {H H' : Hp} (s : ∀ b o, H b = some o → H' b = some o) {a : Addr} {xs : List V} (h : SqT K H a xs) : SqT K H' a xs := h.imp (fun z => z.imp (s _ _) fun ⟨o, e⟩ => ⟨o, s _ _ e⟩) id
theorem sqL_same {K : PySem.W.Frag} {H H' : Hp} (s : ∀ b o, H b = some o → H' b = some o) {a : Addr} {xs : List V} (h : SqL K H a xs) : SqL K H' a xs := h.imp (fun z => z.imp (s _ _) fun ⟨o, e⟩ => ⟨o, s _ _ e⟩) id
mutual
theorem dp_same {K : PySem.W.Frag} {H H' : Hp} (s : ∀ b o, H b = some o → H' b = some o) : ∀ (d : PyData) (v : V), Dp K H v d → Dp K H' v d
  | .none, _, h => by cases h; exact .non
  | .bool b, _, h => by cases h; exact .bl b
  | .int i, _, h => by cases h; exact .int i
  | .str x, _, h => by cases h; exact .str x
  | .list ds, _, h => by
    cases h with
    | lst q t => exact .lst (sqL_same s q) (dps_same s ds _ t)
  | .tuple ds, _, h => by
    cases h with
    | tup q t => exact .tup (sqT_same s q) (dps_same s ds _ t)
  | .dict ks, _, h => by cases h
theorem dps_same {K : PySem.W.Frag} {H H' : Hp} (s : ∀ b o, H b = some o → H' b = some o) : ∀ (ds : List PyData) (vs : List V), DpAll K H vs ds → DpAll K H' vs ds
  | [], _, h => by cases h; exact .nil
  | d :: ds, _, h => by
    cases h with
    | cons h t => exact .cons (dp_same s d _ h) (dps_same s ds _ t)
end
/-- the rest of the sort: the keys are made, then all is sorted -/
theorem sortW_rest {H1 G : Hp} {s1 s : Shared} {f : Value} {a kS : Addr} {e1 : Nat} {vs : List Value} {xs : List V} {kz : List PyData} (I : Inv X pins σ H1 s1) (n : On X H1 s1 G s) (sm : ∀ b o, H1 b = some o → G b = some o) (lka : s1.heap.objs.size ≤ kS) (laa : s1.heap.objs.size ≤ a) (ne : kS ≠ a)
    (nk : s.heap.get? kS = some (seqObj "list" #[] 0)) (na : s.heap.get? a = some (seqObj "list" #[] e1)) (gk : G kS = none) (ga : G a = none) (hv : Vals xs vs) (hlen : kz.length = vs.length) (hZ : vs.length ≤ sizeLine) (hal : AllAlike kz) (hsk : Sortable kz) (hu : ∀ d, d ∈ kz → A.units + d.depth < cLine)
    (turn : ∀ (i : Nat) (v : V) (u : Value) (k : PyData), xs[i]? = some v → vs[i]? = some u → kz[i]? = some k → RelV v u → ∀ (F : Hp) (t : Shared), On X H1 s1 F t → (∀ b o, H1 b = some o → F b = some o) →
      wpAny (model X.prog X.w) A (call f [u]) (fun y t' => ∃ (z : V) (F' : Hp), On X H1 s1 F' t' ∧ RelV z y ∧ (∀ b o, F b = some o → F' b = some o) ∧ Dp X.K F' z k ∧ (∀ b o, t.heap.get? b = some o → s1.heap.objs.size ≤ b → F b = none → t'.heap.get? b = some o ∧ F' b = none)) (fun _ _ => False) t)
    (h : ∀ (F : Hp) (t : Shared), On X H1 s1 (L2.upd F a (.lst (((xs.zip kz).mergeSort (dataLe false Prod.snd)).map (·.1)))) t → (∀ b o, H1 b = some o → F b = some o) → F a = none → P (.done (.ret .none)) t) :
    wpAny (model X.prog X.w) A (ksk_rest a f false vs.toArray e1 (.ref kS)) P E s := by
  have lv := hv.length
  have hka : s1.heap.get? kS = none := Heap.get?_none_of_le lka
  have haa : s1.heap.get? a = none := Heap.get?_none_of_le laa
  unfold ksk_rest
  refine wpAny_bind (wpAny_rule ?_)
  first
    | rw [List.forIn_toArray]
    | (rw [← Array.forIn_toList]; simp only [List.toList_toArray])
    | rw [← Array.forIn_toList]
  refine wpAny_bind (ksk_fold (fun i t => ∃ (F : Hp) (kA : Array Value) (e : Nat) (ys : List V), On X H1 s1 F t ∧ (∀ b o, H1 b = some o → F b = some o) ∧ F kS = none ∧ F a = none ∧ t.heap.get? kS = some (seqObj "list" kA e) ∧ t.heap.get? a = some (seqObj "list" #[] e1) ∧ Vals ys kA.toList ∧ ys.length = i ∧ ∀ (m : Nat) (y : V) (k : PyData), ys[m]? = some y → kz[m]? = some k → Dp X.K F y k) vs 0 s
    ⟨G, #[], 0, [], n, sm, gk, ga, nk, na, .nil, rfl, fun m y k e => by simp at e⟩ ?step ?done)
  case step =>
    rintro j x t hx ⟨F, kA, e, ys, nt, smt, fk, fa, tk, ta, hys, hyl, hds⟩
    simp only [Nat.zero_add] at hyl ⊢
    have hj : j < vs.length := (List.getElem?_eq_some_iff.mp hx).1
    obtain ⟨k, hkj⟩ : ∃ k, kz[j]? = some k := ⟨_, List.getElem?_eq_getElem (by omega)⟩
    obtain ⟨v, hvj⟩ : ∃ v, xs[j]? = some v := ⟨_, List.getElem?_eq_getElem (by omega)⟩
    have rv : RelV v x := by
      obtain ⟨u', e', ru⟩ := hv.get hvj
      rw [hx] at e'
      cases e'
      exact ru
    have hz : kA.size ≤ vs.length := by
      have h1 := hys.length
      have h3 : kA.toList.length = kA.size := by simp
      omega
    refine wpAny_bind (wpAny_attempt (wpAny_mono (turn j v x k hvj hx hkj rv F t nt smt) (fun y t' he => ?_) fun _ _ hF => hF.elim))
    obtain ⟨z, F', n', rz, s', dz, keep⟩ := he
    try dsimp only
    obtain ⟨tk2, fk2⟩ := keep kS _ tk lka fk
    obtain ⟨ta2, fa2⟩ := keep a _ ta laa fa
    obtain ⟨g, gs, d, tt, oo⟩ := t'
    have sb := Heap.SameBut.update g kS (Obj.mapSeq (·.push y))
    obtain ⟨c2, hc2⟩ : ∃ c2, (g.update kS (Obj.mapSeq (·.push y))).get? kS = some (seqObj "list" (kA.push y) c2) := ⟨_, get?_update_seq tk2 (·.push y)⟩
    refine wpAny_bind (listUpdate_at tk2 rfl ?_ (Nat.le_trans hz hZ) (Nat.le_trans (Nat.le_of_eq (Array.size_push ..)) (Nat.succ_le_succ (Nat.le_trans hz hZ))))
    refine wpAny_pure ⟨rfl, F', kA.push y, c2, ys ++ [z], n'.but hka fk2 (fun b u hb q => (sb.2 b hb).trans q), fun b o q => s' b o (smt b o q), fk2, fa2, hc2, (sb.2 a ne.symm).trans ta2, ?_, by rw [List.length_append, hyl]; rfl, fun m y' k' ey ek => ?_⟩
    · rw [Array.toList_push]
      exact hys.append (.cons rz .nil)
    · by_cases hm : m < ys.length
      · rw [List.getElem?_append_left hm] at ey
        exact dp_same s' _ _ (hds m y' k' ey ek)
      · have hm2 : m = j := by
          have := (List.getElem?_eq_some_iff.mp ey).1
          rw [List.length_append] at this
          have e1 : ([z] : List V).length = 1 := rfl
          omega
        subst hm2
        rw [List.getElem?_append_right (by omega), show m - ys.length = 0 by omega] at ey
        rw [hkj] at ek
        cases ek
        cases ey
        exact dz
  case done =>
    rintro t ⟨F, kA, e, ys, nt, smt, fk, fa, tk, ta, hys, hyl, hds⟩
    have It := nt.inv I
    have ly := hys.length
    have lk : kA.toList.length = kA.size := by simp
    simp only [Nat.zero_add] at hyl
    have hk' : EachIs (fun v k => ∃ as, Reads t.heap v k as) kA.toList kz := each_zip (by omega) fun i u k eu ek => by
      have il : i < ys.length := by
        have := (List.getElem?_eq_some_iff.mp eu).1
        omega
      obtain ⟨y, ey⟩ : ∃ y, ys[i]? = some y := ⟨_, List.getElem?_eq_getElem il⟩
      have dy := hds i y k ey ek
      obtain ⟨u', e', ru⟩ := hys.get ey
      rw [eu] at e'
      cases e'
      exact Dp.reads It k y u dy ru
    have hsz : kA.size = vs.length := by omega
    try dsimp only
    refine wpAny_bind (listItems_at tk rfl ?_)
    obtain ⟨R0, r1, r2⟩ := restrict t.heap fun b => decide (b ≠ kS)
    have kp : KeepsBut a R0 t.heap := fun b o hb q => by
      by_cases hbk : b = kS
      · rw [r2 b (decide_eq_false fun z => z hbk)] at q
        cases q
      · rw [r1 b (decide_eq_true hbk)] at q
        exact q
    have e1 : (xs.zip kz).map (·.1) = xs := List.map_fst_zip (by omega)
    have e2 : (xs.zip kz).map Prod.snd = kz := List.map_snd_zip (by omega)
    refine keyH_end (κ := dataKind t.heap kz) (h₁ := R0) kp (r2 kS (decide_eq_false fun z => z rfl)) tk ta ne (SortsAt.data hk' hal hsk hu) hsz hZ fun h3 tk3 c k3 n3 => ?_
    have ko : KeyedOut false ((xs.zip kz).map Prod.snd) vs (sortVals (dataKind t.heap kz) false kA.toList vs) := ⟨t.heap, kA.toList, by rw [e2]; exact hal, by rw [e2], by rw [e2]; exact hk'⟩
    have eR : EachIs (fun u (b : V × PyData) => RelV b.1 u) vs (xs.zip kz) := each_zip (by rw [List.length_zip]; omega) fun i u b eu eb => by
      rw [List.getElem?_zip_eq_some] at eb
      obtain ⟨u', e', ru⟩ := hv.get eb.1
      rw [eu] at e'
      cases e'
      exact ru
    have he := keyedOut_each Prod.snd ko eR
    have rel : ∀ {ws : List Value} {ps : List (V × PyData)}, EachIs (fun v (b : V × PyData) => RelV b.1 v) ws ps → Vals (ps.map (·.1)) ws := by
      intro ws ps e
      induction e with
      | nil => exact .nil
      | cons h t ih => exact .cons h ih
    obtain ⟨g, gs, d, tt, oo⟩ := t
    refine h F _ (nt.list hka fk haa fa (fun b u hb1 hb2 q => k3 b u hb2 (by rw [r1 b (decide_eq_true hb1)]; exact q)) ⟨?_, _, c, rel he, n3⟩) smt fa
    rw [List.length_map, List.length_mergeSort, List.length_zip]
    omega
end
end KX

set_option maxRecDepth 100000
set_option maxHeartbeats 4000000
namespace KX
open PySem PySem.Spec PyProof.Rows L2 PySem.W LamX NdefX
section
variable {X : Cx} {pins : List (Addr × Obj)} {σ : L2.St}
/-- sorted(t, key=f), t a tuple or a list -/
theorem run_sortedW {H : Hp} {s : Shared} {l : Addr} {f : Value} {xs : List V} {kz : List PyData} {Q : VK} {E : Value → Shared → Prop} (I : Inv X pins σ H s) (hs : SqL X.K H l xs ∨ SqT X.K H l xs) (hlen : kz.length = xs.length) (hal : AllAlike kz) (hsk : Sortable kz) (hu : ∀ d, d ∈ kz → X.A.units + 2 + d.depth < cLine)
    (ht : ∀ a, Builtin.«list.sort» ⟨[.ref a], [(Str.ofString "key", f)]⟩ = ksk_tree a f false)
    (turn : ∀ (g : Heap), (∀ b o, s.heap.get? b = some o → g.get? b = some o) → ∀ (i : Nat) (v : V) (u : Value) (k : PyData), xs[i]? = some v → kz[i]? = some k → RelV v u → ∀ (F : Hp) (t : Shared), On X H { s with heap := g } F t → (∀ b o, H b = some o → F b = some o) →
      wpAny (model X.prog X.w) X.A.in1.in1 (call f [u]) (fun y t' => ∃ (z : V) (F' : Hp), On X H { s with heap := g } F' t' ∧ RelV z y ∧ (∀ b o, F b = some o → F' b = some o) ∧ Dp X.K F' z k ∧ (∀ b o, t.heap.get? b = some o → g.objs.size ≤ b → F b = none → t'.heap.get? b = some o ∧ F' b = none)) (fun _ _ => False) t)
    (q : ∀ (F : Hp) (a : Addr), (∀ b o, H b = some o → F b = some o) → F a = none → Q (.ref a) (L2.upd F a (.lst (((xs.zip kz).mergeSort (dataLe false Prod.snd)).map (·.1))))) :
    wpAny (model X.prog X.w) X.A (call (.builtin "sorted") [.ref l] [(Str.ofString "key", f)]) (EP X pins σ Q) E s := by
  obtain ⟨its, rv, ob, ct, ho, hct, hc, n, hd, hz⟩ : ∃ its : List Value, Vals xs its ∧ ∃ (ob : Obj) (ct : String), s.heap.get? l = some ob ∧ (ct = "list" ∨ ct = "tuple") ∧ ob.cls = .type ct ∧ ∃ n, ob.data = .seq its.toArray n ∧ xs.length ≤ sizeLine := by
    rcases hs with hs | hs
    · obtain ⟨its, r, pl, hz⟩ := I.list hs
      obtain ⟨o, ho, hc, n, hd⟩ := pl.isList
      exact ⟨its, r, o, "list", ho, .inl rfl, hc, n, hd, hz⟩
    · obtain ⟨its, r, ⟨o, ho, hc, n, hd⟩, hz⟩ := I.tuple hs
      exact ⟨its, r, o, "tuple", ho, .inr rfl, hc, n, hd, hz⟩
  have lv := rv.length
  have hlv : its.length ≤ sizeLine := by omega
  refine call_function_entry_kw kind_sorted plain_sorted entry_sorted (ksk_s1 _ _) ?_
  unfold Builtin.«sorted»
  refine wpAny_bind (m := checkCount "sorted" 1 1 _) (wpAny_pure ?_)
  refine wpAny_bind (wpAny_collect_seq l hct ho hc hd (fun h1 kp => ?_) (by rw [List.size_toArray]; exact hlv))
  rw [List.toList_toArray]
  refine wpAny_bind (wpAny_newList ?_ hlv)
  have at1 : (h1.push (seqObj "list" its.toArray 0)).get? h1.objs.size = some (seqObj "list" its.toArray 0) := Heap.get?_push_size _ rfl
  have J : Inv X pins σ H { s with heap := h1 } := I.kept (t' := s.toks) kp
  have J0 : On X H { s with heap := h1 } H { s with heap := h1 } := ⟨Un.refl, J.hok, J.bare, rfl⟩
  refine wpAny_bind (wpAny_holding (wpAny_call_entry_kw slot_list_sort ⟨_, at1, rfl⟩ entry_list_sort ?body (ksk_l1 _ _)))
  case body =>
    show wpAny (model X.prog X.w) X.A.in1.in1 (Builtin.«list.sort» ⟨[.ref h1.objs.size], [(Str.ofString "key", f)]⟩) _ _ { s with heap := h1.push (seqObj "list" its.toArray 0) }
    rw [ht]
    have ha : h1.objs.size < (h1.push (seqObj "list" its.toArray 0)).objs.size := Heap.lt_size at1
    obtain ⟨e1, ho1⟩ : ∃ e1, ((h1.push (seqObj "list" its.toArray 0)).update h1.objs.size (Obj.mapSeq fun _ => (#[] : Array Value))).get? h1.objs.size = some (seqObj "list" #[] e1) := ⟨_, get?_update_seq at1 fun _ => #[]⟩
    have hkS : (((h1.push (seqObj "list" its.toArray 0)).update h1.objs.size (Obj.mapSeq fun _ => (#[] : Array Value))).push (seqObj "tuple" its.toArray 0)).objs.size = h1.objs.size + 1 + 1 := by rw [size_push', Heap.size_update, size_push']
    unfold ksk_tree
    refine wpAny_bind (listItems_at at1 rfl ?_)
    refine wpAny_bind (listUpdate_at at1 rfl ?_ (by rw [List.size_toArray]; exact hlv) (Nat.zero_le _))
    refine wpAny_bind (seqEpoch_at ho1 rfl ?_)
    refine wpAny_bind (wpAny_newTuple ?_ (by show its.length ≤ _; exact hlv))
    refine wpAny_bind (wpAny_newList ?_ (Nat.zero_le _))
    refine wpAny_holding ?_
    have old : ∀ b o, h1.get? b = some o → ((((h1.push (seqObj "list" its.toArray 0)).update h1.objs.size (Obj.mapSeq fun _ => (#[] : Array Value))).push (seqObj "tuple" its.toArray 0)).push (seqObj "list" #[] 0)).get? b = some o := fun b o e => by
      have sb := Heap.SameBut.update (h1.push (seqObj "list" its.toArray 0)) h1.objs.size (Obj.mapSeq fun _ => (#[] : Array Value))
      exact Heap.get?_push_of_some _ (Heap.get?_push_of_some _ ((sb.2 b (Nat.ne_of_lt (Heap.lt_size e))).trans (Heap.get?_push_of_some _ e)))
    refine sortW_rest (kz := kz) (s := { s with heap := (((h1.push (seqObj "list" its.toArray 0)).update h1.objs.size (Obj.mapSeq fun _ => (#[] : Array Value))).push (seqObj "tuple" its.toArray 0)).push (seqObj "list" #[] 0) }) (kS := (((h1.push (seqObj "list" its.toArray 0)).update h1.objs.size (Obj.mapSeq fun _ => (#[] : Array Value))).push (seqObj "tuple" its.toArray 0)).objs.size)
      J (On.kept (t' := s.toks) J0 old) (fun _ _ e => e) (by rw [hkS]; show h1.objs.size ≤ _; omega) (Nat.le_refl _) (show _ ≠ h1.objs.size from by rw [hkS]; omega) (Heap.get?_push_size _ rfl) (Heap.get?_push_of_some _ (Heap.get?_push_of_some _ ho1)) (J.hok.fresh (by rw [hkS]; show h1.objs.size ≤ _; omega)) (J.hok.fresh (Nat.le_refl _)) rv (by omega) hlv hal hsk (fun d hd => hu d hd)
      (fun i v u k e1 _ e3 r F t on sm => turn h1 kp i v u k e1 e3 r F t on sm) fun F t on sm fa => ?_
    exact ⟨.none, rfl, wpAny_pure ⟨_, rfl, .ref h1.objs.size, _, on.inv J, rfl, q F _ sm fa⟩⟩
end
end KX

set_option maxRecDepth 100000
set_option maxHeartbeats 4000000
namespace KX
open PySem PySem.Spec PyProof.Rows L2 LamX NdefX
/-- what is asked of the thing that is sorted, the lambda made -/
def KeyQ (T : List (Addr × Str)) (K : PySem.W.Frag) (tl : V → Hp → VK → Prop) (Q : VK) : VK := fun x H0 => Tabs T H0 ∧ ∀ H1, ExtN H0 H1 → Tabs T H1 → ∃ (l : Addr) (xs : List V) (kz : List PyData), x = V.ref l ∧ (SqL K H1 l xs ∨ SqT K H1 l xs) ∧ kz.length = xs.length ∧ PySem.W.AllAlike kz ∧ PySem.W.Sortable kz ∧ (∀ d ∈ kz, d.depth ≤ 50) ∧
  (∀ (i : Nat) (v : V) (k : PyData), xs[i]? = some v → kz[i]? = some k → ∀ F, Same H1 F → tl v F fun z F' => Same F F' ∧ Dp K F' z k) ∧
  ∀ (F : Hp) (a : Addr), Same H1 F → F a = none → Q (.ref a) (L2.upd F a (.lst (((xs.zip kz).mergeSort (PySem.W.dataLe false Prod.snd)).map (·.1))))
/-- sorted(e, key=lambda p: body), the table T holds the lambda's code -/
def tSortK (T : List (Addr × Str)) (K : PySem.W.Frag) (te : TE) (tl : L2.St → V → Hp → VK → Prop) : TE := fun σ H Q => te σ H (KeyQ T K (tl σ) Q)
section
variable {X : Cx}
theorem pe_sortLam {T : List (Addr × Str)} {p : Str} {c P : Addr} {k : Nat} {N fr : List Str} {js : List Nat} {params : Arguments} {body e : Expr} {scope : Scope} {tb te : TE} {pp lpos kpos pos : Pos} (hg : Gl X "sorted") (hm : X.mg "sorted" = none)
    (TB : TabB X.base X.mg c P) (hcode : X.env.code = .ref c) (hmT : (P, X.env.qual ++ "<lambda>") ∈ T) (hu : ∀ p ∈ T, p.1 = P → p.2 = X.env.qual ++ "<lambda>") (hr : Room (k + 3) X.A) (S : NScope N [p] fr scope)
    (hfree : ∀ y ∈ scope.names, y.2 = .free → X.env.scope.names.lookup y.1 = some .cell ∨ X.env.scope.names.lookup y.1 = some .free) (hfr : ∀ y ∈ fr, (y, NameKind.free) ∈ scope.names) (hjs : js.map (fun j => X.N[j]?) = fr.map some)
    (hdef : defaultsOf params X.env = ([], []))
    (hbind : ∀ (q : Str) (cl : List (Str × Addr)) (pm cv ctv u : Value), bindArgs (PySem.W.kla_fn "<lambda>" q params body scope cl pm cv ctv) ⟨[u], []⟩ = pure [(p, u)])
    (hbody : ∀ (A : Around) (outer : List PySem.Env) (s : Shared) (H : Hp) (f c' : Addr), Room k (A.deeper (envF (lamF (X.env.qual ++ "<lambda>") params scope (cloFrom X.env.cells scope.names []) c') f s.heap.objs.size)) →
      PE (ncx C8.CX0 X.prog X.w X.K X.mg X.base N (lamF (X.env.qual ++ "<lambda>") params scope (cloFrom X.env.cells scope.names []) c') f A outer s H C8.E0) body tb)
    (he : PE X e te) (hse : starEach [e] X.env = (false, eval e X.env) :: starEach [] X.env := by rfl) (h1 : backTo pos (starEach [e] X.env) = (false, eval e X.env) :: backTo pos (starEach [] X.env) := by rfl) (hpl : (backTo pos (starEach [e] X.env)).any (·.1) = false := by rfl) :
    PE X (.Call (.Name "sorted" pp) [e] [⟨some "key", .Lambda params body scope lpos, kpos⟩] pos) (tSortK T X.K te fun σ v F Q => tb (startF N [v] (js.map (slotAt σ))) F Q) := by
  refine ⟨fun pins s σ H Q I h => ?_⟩
  refine wpAny_Call_Name_kw (ld_blt I hg hm rfl ?_ (by decide) (by decide))
  refine PyProof.Rows.callWith_kw (thn ((pa_cons he pa_nil hse).run pos pins s σ H (fun vs H0 => ∃ x, vs = [x] ∧ KeyQ T X.K (fun v F Q => tb (startF N [v] (js.map (slotAt σ))) F Q) Q x H0) I ?_) fun us s0 ⟨vs, H0, I0, r0, q0⟩ => ?_) h1 hpl (by rfl) (by rfl)
  · show te σ H fun v H0 => ∃ x, [v] = [x] ∧ KeyQ T X.K (fun v F Q => tb (startF N [v] (js.map (slotAt σ))) F Q) Q x H0
    have e : (fun v H0 => ∃ x, [v] = [x] ∧ KeyQ T X.K (fun v F Q => tb (startF N [v] (js.map (slotAt σ))) F Q) Q x H0) = KeyQ T X.K (fun v F Q => tb (startF N [v] (js.map (slotAt σ))) F Q) Q := by
      funext v H0
      refine propext ⟨fun ⟨x, e, h⟩ => ?_, fun h => ⟨v, rfl, h⟩⟩
      cases e
      exact h
    rw [e]
    exact h
  obtain ⟨x, ev, hT, h⟩ := q0
  subst ev
  obtain ⟨u0, eu⟩ := vals_one r0
  subst eu
  have rx : RelV x u0 := by
    cases r0 with
    | cons a b => exact a
  have hfr2 : ∀ y ∈ scope.names, y.2 = .free → ∃ c, X.env.cells.lookup y.1 = some c := fun y hy e => (hfree y hy e).elim (fun z => I0.ok.has _ (.inl z)) fun z => I0.ok.has _ (.inr z)
  show wpAny _ _ (evalAll ((do let v ← eval (.Lambda params body scope lpos) X.env; standAt pos; pure v) :: [])) _ _ s0
  refine wpAny_evalAll_cons (wpAny_bind (lam_make2 I0 TB hcode hmT hu hT hdef hfr2 fun f c' pm' ctv H1 s' I1 eN T1 hf hfn hfr' hco => ?_))
  refine wpAny_bind (wpAny_standAt (wpAny_pure (wpAny_evalAll_nil ?_)))
  obtain ⟨l, xs, kz, el, hs, hlen, hal, hsk, hdep, turn, q⟩ := h H1 eN T1
  subst el
  cases rx
  have hun := hr.un
  refine run_sortedW I1 hs hlen hal hsk (fun d hd => by have := hdep d hd; omega) (fun a => ksk_t1 f a) (fun g kp i v u kk e1 e3 ru F t on sm => ?_) q
  have J : Inv X pins σ H1 { s' with heap := g } := I1.kept (t' := s'.toks) kp
  have nofr : ∀ b, g.objs.size ≤ b → b ∉ frs X.stack := fun b hb z => by
    rcases List.mem_cons.mp (J.stkSub _ z) with e | e
    · have h1 := J.lt
      rw [← e] at h1
      exact Nat.lt_irrefl _ (Nat.lt_of_lt_of_le h1 hb)
    · exact J.nofs hb e
  have It := on.inv J
  have cp := cells_of J (Caps.made J.ok hfree hfr hjs)
  have of1 : t.heap.get? f = some (PySem.W.kla_obj "<lambda>" (X.env.qual ++ "<lambda>") params body scope (cloFrom X.env.cells scope.names []) pm' c' ctv) := on.un.keep f _ (kp _ _ hf) hfn hfr' (fun z => nomatch z)
  have rc : codeAny (model X.prog X.w) X.A.in1.in1 (.call (.ref f) ⟨[u], []⟩) (CR C8.CX0 X.stack X.prog X.w F t (fun z F' => Same F F' ∧ Dp X.K F' z kk) C8.E0) t :=
    lam_run (k := k) (N := N) (ps := [p]) (vs := [v]) S (hbind _ _ _ _ _ u) hr.in1.in1 It.env0.in1.in1 of1 (sm _ _ hco) (cells_later cp on.un) (.cons ru .nil) rfl (fun hr2 => hbody _ _ _ _ _ _ hr2) (turn i v kk e1 e3 F sm)
  refine wpAny_call (codeAny_mono rc fun r t' hq => ?_)
  cases r with
  | error e => exact (show False from hq).elim
  | ok fl =>
    cases fl with
    | ret y =>
      obtain ⟨z, F', os, bare, un, hok, rz, sF, dz⟩ := hq
      exact ⟨z, F', ⟨on.un.trans un, hok, bare, os.trans on.os⟩, rz, sF, dz, fun b o e le fb => ⟨un.keep b o e fb (nofr b le) (fun z => nomatch z), un.free b o e fb (fun z => nomatch z)⟩⟩
    | next => exact False.elim hq
    | brk => exact False.elim hq
    | cont => exact False.elim hq
end
end KX

set_option maxRecDepth 100000
set_option maxHeartbeats 4000000
namespace Z1
open PySem PySem.Spec PyProof.Rows L2 KX
/-- the rule for a def whose code is known -/
theorem okC {P : Program} {w : World} {K : PySem.W.Frag} {mg : Str → Option Value} {base : Heap} {x qual : Str} {st : Stmt} {f c0 : Addr} {oc kV doc pm ct : Value} {od an : Option Addr} {osl : Array (Option Value)} {N ps : List Str} {k : Nat} {sp : Sp}
    (lk : K.lookup f = some ⟨oc, od, .func (PySem.W.fnOf x qual (defArgs st) (defBody st) (defScope st) .none kV doc pm an (.ref c0) ct), osl⟩) (hcd : PySem.W.codeIn K (.ref c0) qual = true) (S : FnScope N ps (defScope st))
    (len : ∀ vs H Q E, sp vs H Q E → vs.length = ps.length)
    (hbody : ∀ (B : Around) (outs : List PySem.Env) (s : Shared) (H : Hp) (vs : List V) (Q : VK) (E : XK), Room k (B.deeper (envOfC qual (defScope st) s.heap.objs.size f (.ref c0))) →
      sp vs H Q E → ∃ t, PSs (cxOf CX0 P w K mg base N qual (defScope st) f (.ref c0) B outs s H E).nox (defBody st) t ∧ t { nx := fun _ H' => Q .non H', rt := Q } (L2.start N vs) H) :
    FnOk P w K mg base CX0 (k + 1) f (PySem.W.fnOf x qual (defArgs st) (defBody st) (defScope st) .none kV doc pm an (.ref c0) ct) ps sp := by
  refine fn_of lk hcd S len fun A outer s H vs Q E hr hsp => ?_
  obtain ⟨t, h, q⟩ := hbody A outer s H vs Q E hr hsp
  exact ⟨t, h.nox, q⟩
theorem tabs_same {T : List (Addr × Str)} {H H' : Hp} (s : Same H H') (t : LamX.Tabs T H) : LamX.Tabs T H' := t.ext fun b o e => s b o e
theorem ext_same {H H' : Hp} (s : Same H H') : LamX.ExtN H H' := LamX.ExtN.of fun b o e => s b o e
/-! ### sorted_rows -/
abbrev sSR : Stmt := topS 38
abbrev lamS : Str := (envOfC "sorted_rows" (defScope sSR) 0 0 .none).qual ++ "<lambda>"
abbrev TS (P0 : Addr) : List (Addr × Str) := [(P0, lamS)]
def keyR (os : List Ord) (r : Rec) : PyData := keyD os r.nm r.vals
/-- the rows in the order's sequence -/
def srt (os : List Ord) (rs : List Rec) : List Rec := rs.mergeSort (PySem.W.dataLe false (keyR os))
theorem alike_keys (os : List Ord) (rs : List Rec) : PySem.W.AllAlike (rs.map (keyR os)) := PySem.W.AllAlike.of fun a b => by
  simp [keyR, keyD, PySem.W.alike, PySem.W.alikeAll, PySem.W.alike_ints]
theorem tup_keys (os : List Ord) (rs : List Rec) : PySem.W.Sortable (rs.map (keyR os)) := PySem.W.Sortable.tuples fun b => ⟨_, _, rfl⟩
theorem depth_key (os : List Ord) (r : Rec) : (keyR os r).depth ≤ 50 := by
  simp [keyR, keyD, PyData.depth, PyData.depthAll, PySem.W.depth_ints]
def spSR (P0 : Addr) : Sp := fun vs H Q _ => ∃ (v ov : V) (rs : List Rec) (os : List Ord) (w : Int), vs = [v, ov] ∧ LamX.Tabs (TS P0) H ∧ Dx H v (.tuple (rs.map encR)) ∧ Dx H ov (.tuple (os.map encO)) ∧ OrdOk w os ∧ (∀ r ∈ rs, w ≤ (r.vals.length : Int) ∧ 1 ≤ r.vals.length ∧ r.vals.length ≤ 4) ∧
  ∀ (H' : Hp) (p : Addr) (ys : List V), LamX.ExtN H H' → LamX.Tabs (TS P0) H' → H' p = some (.lst ys) → Dxs H' ys ((srt os rs).map encR) → Q (.ref p) H'
theorem scSR : FnScope ["rowset", "order"] ["rowset", "order"] (defScope sSR) := ⟨rfl, rfl, rfl, by decide +kernel, rfl, by decide +kernel, by decide +kernel⟩
section
variable {P : Program} {w : World} {K : PySem.W.Frag} {mg : Str → Option Value} {base : Heap}
theorem ok_sr {k : Nat} {f c0 P0 fK : Addr} {fdK : FuncData} {oc kV doc pm ct : Value} {od an : Option Addr} {osl : Array (Option Value)} (B : Bl mg)
    (lk : K.lookup f = some ⟨oc, od, .func (PySem.W.fnOf "sorted_rows" "sorted_rows" (defArgs sSR) (defBody sSR) (defScope sSR) .none kV doc pm an (.ref c0) ct), osl⟩) (hcd : PySem.W.codeIn K (.ref c0) "sorted_rows" = true) (TB : LamX.TabB base mg c0 P0)
    (DK : Df K mg "order_key" sKey ["row", "order"] fK fdK) (GK : FnOk P w K mg base CX0 k fK fdK ["row", "order"] spKey) :
    FnOk P w K mg base CX0 (k + 4) f (PySem.W.fnOf "sorted_rows" "sorted_rows" (defArgs sSR) (defBody sSR) (defScope sSR) .none kV doc pm an (.ref c0) ct) ["rowset", "order"] (spSR P0) := by
  refine okC lk hcd scSR (fun vs H Q E h => ?_) (fun A outer s H vs Q E hr h => ?_)
  · obtain ⟨v, ov, rs, os, w, rfl, _⟩ := h
    rfl
  · obtain ⟨v, ov, rs, os, wi, rfl, ht, hd, ho, ok, hw, q⟩ := h
    refine ⟨_, pss_one (ps_ret (pe_sortLam (T := TS P0) (k := k) (js := [1]) (N := ["row", "order"]) (fr := ["order"]) (p := "row") (by rfl) B.sorted TB rfl (List.mem_singleton.mpr rfl) (fun p hp _ => by cases List.mem_singleton.mp hp; rfl) hr (NdefX.nscope_by (by decide +kernel)) (NdefX.ndef_free (sc := defScope sSR) (fr := ["order"]) (by decide +kernel)) (NdefX.ndef_fr (sc := defScope sSR) (by decide +kernel)) rfl rfl (fun _ _ _ _ _ _ => rfl)
        (fun A2 outer2 s2 H2 f2 c2 hr2 => pe_call GK hr2 (by rfl) DK.g DK.F.kp DK.b .nil pass0 (pa_cons (pv 0) (pa_cons (pv 1) pa_nil))) (pv 0))), ?_⟩
    obtain ⟨a, xs, rfl, ea, hx⟩ := dx_tup' hd
    have lx := hx.len
    rw [List.length_map] at lx
    refine ⟨.ref a, rfl, ht, fun H1 e1 t1 => ?_⟩
    have ea1 : H1 a = some (.tup xs) := e1 _ _ ea fun ps z => by cases z
    have hd1 := hd.ext e1
    have ho1 := ho.ext e1
    obtain ⟨a', xs', ea', ea2, hx1⟩ := dx_tup' hd1
    cases ea'
    rw [ea1] at ea2
    cases ea2
    refine ⟨a, xs, rs.map (keyR os), rfl, .inr (.inl (.inl ea1)), by rw [List.length_map, lx], alike_keys os rs, tup_keys os rs, fun d hd => by obtain ⟨r, _, rfl⟩ := List.mem_map.mp hd; exact depth_key os r, fun i v kd ev ek F sF => ?_, fun F p sF nF => ?_⟩
    · rw [List.getElem?_map] at ek
      obtain ⟨r, er, rfl⟩ := Option.map_eq_some_iff.mp ek
      obtain ⟨d, ed, hdx⟩ := hx1.get' ev
      rw [List.getElem?_map, er] at ed
      cases ed
      obtain ⟨h1, h2, h3⟩ := hw r (List.mem_of_getElem? er)
      refine ⟨v, rfl, ov, rfl, v, ov, encR r, r.nm, r.vals, os, wi, rfl, hdx.up sF, ⟨⟨_, _, rfl⟩, h2, h3⟩, ho1.up sF, ok, h1, fun F' p L s' ep eL => ⟨s', ?_⟩⟩
      exact .tup (.inl (.inl ep)) (.cons (.lst (.inl (.inl eL)) (dp_ints _)) (.cons (.str _) .nil))
    · have sN := same_new (o := .lst (((xs.zip (rs.map (keyR os))).mergeSort (PySem.W.dataLe false Prod.snd)).map (·.1))) nF
      have e2 : xs.zip (rs.map (keyR os)) = (xs.zip rs).map fun b => (b.1, keyR os b.2) := by
        rw [List.zip_map_right]
        rfl
      have e3 : (xs.zip (rs.map (keyR os))).mergeSort (PySem.W.dataLe false Prod.snd) = ((xs.zip rs).mergeSort (PySem.W.dataLe false fun b => keyR os b.2)).map fun b => (b.1, keyR os b.2) := by
        rw [e2]
        exact (List.map_mergeSort (f := fun b : V × Rec => (b.1, keyR os b.2)) (r := PySem.W.dataLe false fun b : V × Rec => keyR os b.2) (s := PySem.W.dataLe false Prod.snd) (l := xs.zip rs) (fun a _ b _ => rfl)).symm
      have e4 : ((xs.zip rs).mergeSort (PySem.W.dataLe false fun b => keyR os b.2)).map Prod.snd = srt os rs := by
        have h := List.map_mergeSort (f := Prod.snd) (r := PySem.W.dataLe false fun b : V × Rec => keyR os b.2) (s := PySem.W.dataLe false (keyR os)) (l := xs.zip rs) (fun a _ b _ => rfl)
        rw [List.map_snd_zip (by omega)] at h
        exact h
      have each : ∀ b ∈ (xs.zip rs).mergeSort (PySem.W.dataLe false fun b => keyR os b.2), Dx F b.1 (encR b.2) := fun b hb => by
        have hb := List.mem_mergeSort.mp hb
        obtain ⟨i, hi, e⟩ := List.mem_iff_getElem.mp hb
        have e' : (xs.zip rs)[i]? = some b := by rw [List.getElem?_eq_getElem hi, e]
        rw [List.getElem?_zip_eq_some] at e'
        obtain ⟨d, ed, hd⟩ := hx1.get' e'.1
        rw [List.getElem?_map, e'.2] at ed
        cases ed
        exact hd.up sF
      have hx2 := dxs_pairs _ each
      have e5 : ((xs.zip rs).mergeSort (PySem.W.dataLe false fun b => keyR os b.2)).map (fun b => encR b.2) = (srt os rs).map encR := by
        rw [← e4, List.map_map]
        rfl
      rw [e5] at hx2
      have e6 : ((xs.zip (rs.map (keyR os))).mergeSort (PySem.W.dataLe false Prod.snd)).map (·.1) = ((xs.zip rs).mergeSort (PySem.W.dataLe false fun b => keyR os b.2)).map (·.1) := by
        rw [e3, List.map_map]
        rfl
      refine q _ p _ (e1.trans (ext_same (sF.trans sN))) (tabs_same (sF.trans sN) t1) upd_same ?_
      rw [e6]
      exact hx2.up (by rw [← e6]; exact sN)
end
end Z1

set_option maxRecDepth 100000
set_option maxHeartbeats 4000000
namespace Z1
open PySem PySem.Spec PyProof.Rows L2 KX
def spNOL : Sp := fun vs H Q _ => ∃ (a : Addr) (xs : List V) (rs : List Rec), vs = [.ref a] ∧ H a = some (.lst xs) ∧ Dxs H xs (rs.map encR) ∧ rs.length ≤ 1000 ∧ ∀ H' p, Same H H' → Dx H' (.ref p) (.tuple ((rs.map (·.nm)).map .str)) → Q (.ref p) H'
theorem dxs_strs {H : Hp} : ∀ ns : List Str, Dxs H (ns.map V.str) (ns.map PyData.str)
  | [] => .nil
  | n :: ns => .cons (.str n) (dxs_strs ns)
theorem alike_strs (ns : List Str) : PySem.W.AllAlike (ns.map PyData.str) := PySem.W.AllAlike.of fun a b => by simp [PySem.W.alike]
section
variable {P : Program} {w : World} {K : PySem.W.Frag} {mg : Str → Option Value} {base : Heap}
theorem ok_nol {f : Addr} {fd : FuncData} (B : Bl mg) (cn : ∃ t, mg "NAME" = some (.int 0 t)) (D : Df K mg "names_of" sNO ["rows"] f fd) : FnOk P w K mg base CX0 1 f fd ["rows"] spNOL := by
  obtain ⟨tn, mn⟩ := cn
  refine D.F.ok scNO (fun vs H Q E h => ?_) (fun cdv A outer s H vs Q E hr h => ?_)
  · obtain ⟨a, xs, rs, rfl, _⟩ := h
    rfl
  · obtain ⟨a, xs, rs, rfl, ea, h, hl, q⟩ := h
    have nd := scNO.nd
    refine ⟨_, pss_one (ps_ret (pe_callTy call_tuple_of (by rfl) B.tuple (by decide +kernel) (pa_cons (pe_lc (own := [("row", 1)]) (g := gName 1) rfl nd (pi_list (pv 0))
        (blkOk_by (N := ["rows", "row"]) (sc := defScope sNO) (by decide +kernel)) (fun _ _ _ _ _ => pg_name (i := 1) nd rfl (Or.inl rfl)) (fun _ _ _ _ _ => pts_nil)
        (fun _ _ _ _ _ => pe_ix (r := rIxT K) ix_tup (pv 1) (pe_glob (v := .int 0) (by rfl) mn ⟨_, rfl⟩) (fun _ _ => rfl))) pa_nil))), ?_⟩
    have lx := h.len
    rw [List.length_map] at lx
    refine ⟨.ref a, rfl, a, rfl, ⟨_, .inl (.inl ea)⟩, fun D nD => ?_⟩
    refine lc_list (xs := xs) (fun i G => Same H G ∧ G D = some (.lst (((rs.take i).map (·.nm)).map V.str))) ⟨same_new nD, upd_same⟩ (fun i G _ hG => .inl (.inl (hG.1 _ _ ea))) (fun i x G hx hG => ?_) (fun G hG => ?_)
    · obtain ⟨sG, eD⟩ := hG
      obtain ⟨d, ed, hdx⟩ := h.get' hx
      rw [List.getElem?_map] at ed
      obtain ⟨r, er, rfl⟩ := Option.map_eq_some_iff.mp ed
      obtain ⟨b, z, vs, rfl, eb, _⟩ := row_dx (hdx.up sG)
      refine ⟨rfl, .ref b, rfl, b, _, 0, .str r.nm, rfl, rfl, .inl (.inl eb), rfl, _, eD, ?_, same_at sG nD, ?_⟩
      · rw [List.length_map, List.length_map, List.length_take]
        have hb : (1000 : Nat) < sizeLine := by decide
        omega
      · rw [upd_same, List.take_add_one, er, List.map_append, List.map_append]
        rfl
    · obtain ⟨sG, eD⟩ := hG
      rw [List.take_of_length_le (by omega)] at eD
      refine ⟨D, _, rfl, .inl ⟨.inl (.inl eD), fun p np => ?_⟩⟩
      exact q _ p (sG.trans (same_new np)) (.tup upd_same (dxs_strs _))
end
theorem Dxs.takeN {H : Hp} {xs : List V} {ds : List PyData} (h : Dxs H xs ds) (n : Nat) : Dxs H (xs.take n) (ds.take n) := by
  induction n generalizing xs ds with
  | zero => exact .nil
  | succ n ih =>
    cases h with
    | nil => exact .nil
    | cons h t => exact .cons h (ih t)
theorem width_ok {rs : List Rec} (ok : RsOk rs) : 1 ≤ widthI rs ∧ widthI rs ≤ 4 ∧ ∀ r ∈ rs, widthI rs ≤ (r.vals.length : Int) ∧ 1 ≤ r.vals.length ∧ r.vals.length ≤ 4 := by
  have each : ∀ r ∈ rs, 1 ≤ r.vals.length ∧ r.vals.length ≤ 4 := fun r hr => by
    have h := List.all_eq_true.mp ok.row (encR r) (List.mem_map.mpr ⟨r, hr, rfl⟩)
    have h : (nameD (.str r.nm) && betw 1 1000000 (.int r.cost) && (valsD (.tuple (r.vals.map .int)) && betw 1 1000000000 (.int r.exp))) = true := h
    simp only [Bool.and_eq_true] at h
    have h3 := h.2.1
    have e : valsD (.tuple (r.vals.map .int)) = ((decide (1 ≤ (((r.vals.map PyData.int).length : Nat) : Int)) && decide ((((r.vals.map PyData.int).length : Nat) : Int) ≤ 4)) && (r.vals.map PyData.int).all (betw (-1000000000) 1000000000)) := rfl
    rw [e, List.length_map, Bool.and_eq_true, Bool.and_eq_true] at h3
    have a := of_decide_eq_true h3.1.1
    have b := of_decide_eq_true h3.1.2
    omega
  cases rs with
  | nil => exact ⟨by decide, by decide, fun r hr => by cases hr⟩
  | cons r0 rs =>
    obtain ⟨a, b⟩ := each r0 (by simp)
    have ew : widthI (r0 :: rs) = (r0.vals.length : Int) := rfl
    rw [ew]
    refine ⟨by omega, by omega, fun r hr => ?_⟩
    obtain ⟨c, d⟩ := each r hr
    have h1 : ((r0 :: rs).all fun e => decide (e.vals.length = r0.vals.length)) = true := ok.one
    have := of_decide_eq_true (List.all_eq_true.mp h1 r hr)
    omega
end Z1

set_option maxRecDepth 100000
set_option maxHeartbeats 4000000
namespace Z1
open PySem PySem.Spec PyProof.Rows L2 KX
/-! ### the order is one -/
theorem lex_anti {α : Type} [LT α] [DecidableEq α] [DecidableRel (α := α) (· < ·)] (irr : ∀ a : α, ¬ a < a) (tri : ∀ a b : α, a ≠ b → (b < a ↔ ¬ a < b)) : ∀ l m : List α, l ≠ m → (m < l ↔ ¬ l < m)
  | [], [], h => absurd rfl h
  | [], b :: m, _ => by simp
  | a :: l, [], _ => by simp
  | a :: l, b :: m, h => by
    rw [List.cons_lt_cons_iff, List.cons_lt_cons_iff]
    by_cases e : a = b
    · subst e
      have ih := lex_anti irr tri l m (fun z => h (by rw [z]))
      have i := irr a
      constructor
      · rintro (z | ⟨_, z⟩) (y | ⟨_, y⟩)
        · exact i z
        · exact i z
        · exact i y
        · exact ih.mp z y
      · intro z
        exact .inr ⟨rfl, ih.mpr fun y => z (.inr ⟨rfl, y⟩)⟩
    · have t := tri a b e
      constructor
      · rintro (z | ⟨z, _⟩) (y | ⟨y, _⟩)
        · exact t.mp z y
        · exact e y
        · exact e z.symm
        · exact e y
      · intro z
        exact .inl (t.mpr fun y => z (.inl y))
theorem names_anti {n1 n2 : Str} (h : n1 ≠ n2) : decide (n2.cps.toList < n1.cps.toList) = !decide (n1.cps.toList < n2.cps.toList) := by
  have z := lex_anti (α := Nat) (fun a => Nat.lt_irrefl a) (fun a b e => by omega) n1.cps.toList n2.cps.toList fun e => h (PySem.W.str_of_cps e)
  by_cases y : n1.cps.toList < n2.cps.toList
  · rw [decide_eq_true y]
    exact decide_eq_false fun x => z.mp x y
  · rw [decide_eq_false y]
    exact decide_eq_true (z.mpr y)
theorem law_xor {n1 n2 : Str} (h : n1 ≠ n2) (z1 z2 : List Int) : ∀ os : List Ord, lawI os n2 z2 n1 z1 = !lawI os n1 z1 n2 z2
  | [] => names_anti h
  | o :: os => by
    simp only [lawI]
    generalize z1.getD o.1.toNat 0 = a
    generalize z2.getD o.1.toNat 0 = b
    by_cases e : a = b
    · rw [if_pos e, if_pos e.symm]
      exact law_xor h z1 z2 os
    · rw [if_neg e, if_neg (fun z => e z.symm)]
      by_cases hl : a < b
      · rw [decide_eq_true hl, decide_eq_false (show ¬ b < a by omega)]
        cases decide (o.2 = "asc") <;> rfl
      · rw [decide_eq_false hl, decide_eq_true (show b < a by omega)]
        cases decide (o.2 = "asc") <;> rfl
theorem law_same (n : Str) (z : List Int) : ∀ os : List Ord, lawI os n z n z = false
  | [] => decide_eq_false (List.lt_irrefl _)
  | o :: os => by
    show (if z.getD o.1.toNat 0 = z.getD o.1.toNat 0 then lawI os n z n z else _) = false
    rw [if_pos rfl]
    exact law_same n z os
theorem law_trans {os : List Ord} {n1 n2 n3 : Str} {z1 z2 z3 : List Int} (h1 : lawI os n1 z1 n2 z2 = true) (h2 : lawI os n2 z2 n3 z3 = true) : lawI os n1 z1 n3 z3 = true := by
  rw [← prec_law, precI_key] at h1 h2 ⊢
  by_cases e1 : keyI os z1 = keyI os z2
  · rw [if_pos e1] at h1
    rw [e1]
    by_cases e2 : keyI os z2 = keyI os z3
    · rw [if_pos e2] at h2 ⊢
      exact decide_eq_true (List.lt_trans (of_decide_eq_true h1) (of_decide_eq_true h2))
    · rw [if_neg e2] at h2 ⊢
      exact h2
  · rw [if_neg e1] at h1
    by_cases e2 : keyI os z2 = keyI os z3
    · rw [← e2, if_neg e1]
      exact h1
    · rw [if_neg e2] at h2
      have t := List.lt_trans (of_decide_eq_true h1) (of_decide_eq_true h2)
      rw [if_neg (fun z => by rw [z] at t; exact absurd t (List.lt_irrefl _))]
      exact decide_eq_true t
theorem eqv_rec {r1 r2 : Rec} (h : PyData.eqv (encR r1) (encR r2) = true) : r1.nm = r2.nm ∧ r1.vals = r2.vals := by
  simp only [encR, PyData.eqv, PyData.eqvAll, Bool.and_eq_true, eqv_ints, beq_iff_eq, decide_eq_true_eq] at h
  exact ⟨h.1, h.2.2.1⟩
theorem min_rec (r1 r2 : Rec) : min (encR r1).depth (encR r2).depth ≤ 64 := by
  have := depth_rec r1
  omega
theorem dp_rec {K : PySem.W.Frag} {H : Hp} {v : V} {r : Rec} (h : Dx H v (encR r)) : Dp K H v (encR r) := dp_dx _ _ (plain_rec r) h
theorem oneW_iff : ∀ {rs : List Rec}, oneW rs = true ↔ ∀ a ∈ rs, ∀ b ∈ rs, a.vals.length = b.vals.length
  | [] => by simp [oneW]
  | r :: rs => by
    show ((r :: rs).all fun e => decide (e.vals.length = r.vals.length)) = true ↔ _
    rw [List.all_eq_true]
    refine ⟨fun h a ha b hb => ?_, fun h e he => decide_eq_true (h e he r (by simp))⟩
    rw [of_decide_eq_true (h a ha), of_decide_eq_true (h b hb)]
/-! ### rows in their order -/
structure RsP (wd : Nat) (rs : List Rec) : Prop where
  pw : (rs.map (fun r : Rec => r.nm)).Pairwise (fun a b => leN a b = true)
  nd : (rs.map (fun r : Rec => r.nm)).Nodup
  ok : ∀ r ∈ rs, ROk wd r
theorem made_rsp {wd : Nat} {recs : List Rec} (h : Made wd recs) (hl : recs.length ≤ 61) : RsP wd (sortR recs) :=
  ⟨by rw [names_sort h hl]; exact List.pairwise_mergeSort le_tr le_tot _, names_nodup h hl, sort_rok h hl⟩
theorem RsP.sub {wd : Nat} {rs ss : List Rec} (h : RsP wd rs) (s : ss.Sublist rs) : RsP wd ss :=
  ⟨h.pw.sublist (s.map _), h.nd.sublist (s.map _), fun r hr => h.ok r (s.subset hr)⟩
theorem RsP.asc {wd : Nat} {rs : List Rec} (h : RsP wd rs) : ascS (rs.map (fun r : Rec => r.nm)) = true := asc_of h.pw h.nd
theorem RsP.rsok {wd : Nat} {rs : List Rec} (h : RsP wd rs) (w1 : 1 ≤ wd) (w4 : wd ≤ 4) (hl : rs.length ≤ 60) : RsOk rs := by
  refine ⟨hl, ?_, ?_, h.asc⟩
  · rw [List.all_eq_true]
    intro e he
    obtain ⟨r, hr, rfl⟩ := List.mem_map.mp he
    exact rec_rd (h.ok r hr) w1 w4
  · refine oneW_iff.mpr fun a ha b hb => ?_
    obtain ⟨_, _, o1⟩ := h.ok a ha
    obtain ⟨_, _, o2⟩ := h.ok b hb
    rw [o1.len, o2.len]
theorem RsP.dist {wd : Nat} {rs : List Rec} (h : RsP wd rs) : ∀ a ∈ rs, ∀ b ∈ rs, a.nm = b.nm → a = b := fun a ha b hb e => by
  obtain ⟨i, hi, e1⟩ := List.getElem_of_mem ha
  obtain ⟨j, hj, e2⟩ := List.getElem_of_mem hb
  have nd2 := List.nodup_iff_pairwise_ne.mp h.nd
  rw [List.pairwise_iff_getElem] at nd2
  have z : i = j := by
    rcases Nat.lt_trichotomy i j with lt | eq | gt
    · have := nd2 i j (by rw [List.length_map]; omega) (by rw [List.length_map]; omega) lt
      rw [List.getElem_map, List.getElem_map, e1, e2] at this
      exact absurd e this
    · exact eq
    · have := nd2 j i (by rw [List.length_map]; omega) (by rw [List.length_map]; omega) gt
      rw [List.getElem_map, List.getElem_map, e1, e2] at this
      exact absurd e.symm this
  subst z
  rw [← e1, ← e2]
mutual
def noL : PyData → Bool
  | .none => true
  | .bool _ => true
  | .int _ => true
  | .str _ => true
  | .tuple ds => noLs ds
  | _ => false
def noLs : List PyData → Bool
  | [] => true
  | d :: ds => noL d && noLs ds
end
mutual
theorem dx_noL {l : Addr} {H : Hp} {zs : List V} (e : H l = some (.lst zs)) : ∀ (d : PyData) (v : V), noL d = true → Dx H v d → Dx (hid l H) v d
  | .none, _, _, h => by cases h; exact .non
  | .bool b, _, _, h => by cases h; exact .bl b
  | .int i, _, _, h => by cases h; exact .int i
  | .str x, _, _, h => by cases h; exact .str x
  | .list ds, _, n, _ => by simp [noL] at n
  | .dict ks, _, n, _ => by simp [noL] at n
  | .tuple ds, _, n, h => by
    cases h with
    | @tup a xs _ ea h =>
      have na : a ≠ l := fun z => by rw [z, e] at ea; cases ea
      exact .tup (by rw [hid_at na]; exact ea) (dxs_noL e ds xs (by simpa [noL] using n) h)
theorem dxs_noL {l : Addr} {H : Hp} {zs : List V} (e : H l = some (.lst zs)) : ∀ (ds : List PyData) (vs : List V), noLs ds = true → Dxs H vs ds → Dxs (hid l H) vs ds
  | [], _, _, h => by cases h; exact .nil
  | d :: ds, _, n, h => by
    simp only [noLs, Bool.and_eq_true] at n
    cases h with
    | cons h t => exact .cons (dx_noL e d _ n.1 h) (dxs_noL e ds _ n.2 t)
end
theorem noL_ints : ∀ ns : List Int, noLs (ns.map PyData.int) = true
  | [] => by simp [noLs]
  | n :: ns => by simp [noLs, noL, noL_ints ns]
theorem noL_rec (r : Rec) : noL (encR r) = true := by simp [noL, noLs, encR, noL_ints]
theorem noL_recs : ∀ rs : List Rec, noLs (rs.map encR) = true
  | [] => by simp [noLs]
  | r :: rs => by simp [noLs, noL_rec, noL_recs rs]
theorem recs_hid {l : Addr} {H : Hp} {v : V} {rs : List Rec} (st : StO H l) (h : Dx H v (.tuple (rs.map encR))) : Dx (hid l H) v (.tuple (rs.map encR)) := by
  obtain ⟨x, y, z, e⟩ := st
  exact dx_noL e _ _ (by simp only [noL]; exact noL_recs rs) h
theorem ext_hid {l : Addr} {H H' : Hp} (e : LamX.ExtN H H') : LamX.ExtN (hid l H) (hid l H') := fun b o hb nt => by
  obtain ⟨n, hb⟩ := hid_some hb
  rw [hid_at n]
  exact e _ _ hb nt
theorem keep_ext {l : Addr} {H H' : Hp} (k : Keep l H H') : LamX.ExtN (hid l H) (hid l H') := ext_same k.same
theorem tabs_keep {l : Addr} {T : List (Addr × Str)} {H H' : Hp} (k : Keep l H H') (st : StO H l) (t : LamX.Tabs T H) : LamX.Tabs T H' := fun p hp => by
  obtain ⟨x, y, z, e⟩ := st
  obtain ⟨ps, h1, h2, h3⟩ := t p hp
  refine ⟨ps, k _ _ (fun q => by rw [q, e] at h1; cases h1) h1, h2, fun pos cv hc => ?_⟩
  obtain ⟨c, e1, e2⟩ := h3 pos cv hc
  exact ⟨c, e1, k _ _ (fun q => by rw [q, e] at e2; unfold LamX.CodeO at e2; cases e2) e2⟩
theorem sto_ext {l : Addr} {H H' : Hp} (e : LamX.ExtN H H') (st : StO H l) : StO H' l := by
  obtain ⟨x, y, z, h⟩ := st
  exact ⟨x, y, z, e _ _ h fun ps q => by cases q⟩
theorem leN_anti {a b : Str} (h1 : leN a b = true) (h2 : leN b a = true) : a = b := by
  have := List.le_antisymm (of_decide_eq_true h1) (of_decide_eq_true h2)
  cases a
  cases b
  exact congrArg _ (Array.toList_inj.mp this)
def lawR (os : List Ord) (a b : Rec) : Bool := lawI os a.nm a.vals b.nm b.vals
theorem srt_le (os : List Ord) (a b : Rec) : PySem.W.dataLe false (keyR os) a b = !lawR os b a := by
  rw [PySem.W.dataLe_eq]
  show (!PySem.W.dataLt (keyR os b) (keyR os a)) = _
  rw [show PySem.W.dataLt (keyR os b) (keyR os a) = lawR os b a from prec_law os b.nm b.vals a.nm a.vals]
def dist (rs : List Rec) : Prop := ∀ a ∈ rs, ∀ b ∈ rs, a.nm = b.nm → a = b
theorem srt_pw {os : List Ord} {rs : List Rec} (nd : (rs.map (fun r : Rec => r.nm)).Nodup) : (srt os rs).Pairwise fun a b => lawR os a b = true := by
  have h1 : (srt os rs).Pairwise fun a b => PySem.W.dataLe false (keyR os) a b = true := PySem.W.sort_pairwise (PySem.W.sortLe_total _ _ _) _
  have h2 : ((srt os rs).map (fun r : Rec => r.nm)).Nodup := ((List.mergeSort_perm _ _).map _).symm.nodup nd
  rw [List.nodup_iff_pairwise_ne, List.pairwise_map] at h2
  refine (h1.and h2).imp fun {a b} z => ?_
  have z1 := z.1
  rw [srt_le] at z1
  have e := law_xor z.2 a.vals b.vals os
  unfold lawR at z1 ⊢
  rw [e] at z1
  simpa using z1
theorem law_asym {os : List Ord} (a b : Rec) (h : lawR os a b = true) : lawR os b a = false := by
  cases z : lawR os b a with
  | false => rfl
  | true =>
    have := law_trans (os := os) (n1 := a.nm) (n2 := b.nm) (n3 := a.nm) h z
    rw [law_same] at this
    cases this
end Z1

set_option maxRecDepth 100000
set_option maxHeartbeats 4000000
namespace Z1
open PySem PySem.Spec PyProof.Rows L2 KX
/-! ### [row for row in rows if ..], the condition with calls -/
theorem filter_atR {α : Type} (f : α → Bool) {rs : List α} {i : Nat} {r : α} (h : rs[i]? = some r) : (rs.take (i + 1)).filter f = (rs.take i).filter f ++ (if f r = true then [r] else []) := by
  rw [List.take_add_one, h, List.filter_append]
  by_cases z : f r = true
  · simp [z]
  · simp [z]
theorem lc_filterS {K : PySem.W.Frag} {a D : Addr} {xs : List V} {rs : List Rec} {g : TG} {tt : TT} {te : TE} {vs : List Nat} {σ : L2.St} {H1 : Hp} {Qd : Hp → Prop} (f : Rec → Bool) (nD : H1 D = none) (ea : H1 a = some (.tup xs)) (hx : Dxs H1 xs (rs.map encR)) (hl : rs.length ≤ 1000)
    (hs : ∀ (r : Rec) (x : V) (G : Hp), r ∈ rs → Same H1 G → Dx G x (encR r) → ∀ (Pt : V → Hp → Prop) (Pf : Hp → Prop), (∀ G', Same G G' → if f r = true then Pt x G' else Pf G') → g x (wipe σ vs) G fun σ2 H2 => wipe σ2 vs = wipe σ vs ∧ tt σ2 H2 fun b H3 => if b = true then te σ2 H3 Pt else Pf H3)
    (hd : ∀ G ys, Same H1 G → G D = some (.lst ys) → Dxs (hid D G) ys ((rs.filter f).map encR) → Qd G) :
    ∃ W : Nat → Nat → Hp → Prop, (∃ m, W 0 m (upd H1 D (.lst []))) ∧ ∀ i m H, W i m H →
      ((Itt K a).stop i H ∧ Qd H) ∨ ((Itt K a).go i H ∧ ∃ Nx : Hp → Prop, (∀ H', Nx H' → ∃ m', m' < m ∧ W (i + 1) m' H') ∧ ∀ x H', (Itt K a).yld i H x H' → g x (wipe σ vs) H' fun σ2 H2 => wipe σ2 vs = wipe σ vs ∧ tt σ2 H2 fun b H3 =>
        if b = true then te σ2 H3 fun y H4 => ∃ acc, H4 D = some (.lst acc) ∧ acc.length < sizeLine ∧ Nx (upd H4 D (.lst (acc ++ [y]))) else Nx H3) := by
  have lx := hx.len
  rw [List.length_map] at lx
  have hidS : ∀ {G G' : Hp}, Same G G' → Same (hid D G) (hid D G') := fun {G G'} s b o e => by
    obtain ⟨nb, e⟩ := hid_some e
    rw [hid_at nb]
    exact s _ _ e
  refine lc_tup (xs := xs) (fun i G => Same H1 G ∧ ∃ ys, G D = some (.lst ys) ∧ Dxs (hid D G) ys (((rs.take i).filter f).map encR)) ⟨same_new nD, [], upd_same, .nil⟩ (fun i G _ hG => .inl (.inl (hG.1 _ _ ea))) (fun i x G hxi hG => ?_) (fun G hG => ?_)
  · obtain ⟨sG, ys, eD, hy⟩ := hG
    obtain ⟨d, ed, hdx⟩ := hx.get' hxi
    rw [List.getElem?_map] at ed
    obtain ⟨r, er, rfl⟩ := Option.map_eq_some_iff.mp ed
    have el := filter_atR f er
    have ly : ys.length ≤ i := by
      rw [hy.len, List.length_map]
      exact Nat.le_trans (List.length_filter_le _ _) (by rw [List.length_take]; omega)
    have ii : i < rs.length := (List.getElem?_eq_some_iff.mp er).1
    refine hs r x G (List.mem_of_getElem? er) sG (hdx.up sG) _ _ fun G' sg => ?_
    have sG' := sG.trans sg
    have eD' := sg _ _ eD
    have hy' := hy.up (hidS sg)
    by_cases lt : f r = true
    · rw [if_pos lt] at el ⊢
      refine ⟨ys, eD', ?_, same_at sG' nD, ys ++ [x], upd_same, ?_⟩
      · have hb : (1000 : Nat) < sizeLine := by decide
        omega
      · rw [el, List.map_append]
        refine (hy'.up fun c u e => ?_).app (.cons ((hdx.up (H' := hid D (upd G' D (.lst (ys ++ [x])))) fun c u e => ?_)) .nil)
        · obtain ⟨nc, e⟩ := hid_some e
          rw [hid_at nc, upd_ne nc]
          exact e
        · have nc : c ≠ D := ne_of_none e nD
          rw [hid_at nc, upd_ne nc]
          exact sG' _ _ e
    · rw [if_neg lt] at el ⊢
      rw [List.append_nil] at el
      exact ⟨sG', ys, eD', by rw [el]; exact hy'⟩
  · obtain ⟨sG, ys, eD, hy⟩ := hG
    rw [List.take_of_length_le (by omega)] at hy
    exact hd G ys sG eD hy
/-- rows and an order that go together -/
structure RO (rs : List Rec) (os : List Ord) (w : Int) : Prop where
  le : rs.length ≤ 60
  ok : OrdOk w os
  hw : ∀ r ∈ rs, w ≤ (r.vals.length : Int) ∧ 1 ≤ r.vals.length ∧ r.vals.length ≤ 4
  one : ∀ a ∈ rs, ∀ b ∈ rs, a.vals.length = b.vals.length
theorem row_n (r : Rec) (h : 1 ≤ r.vals.length ∧ r.vals.length ≤ 4) : RowN (encR r) r.nm r.vals := ⟨⟨_, _, rfl⟩, h.1, h.2⟩
/-! ### what the law asks with -/
structure HG (rs : List Rec) (os : List Ord) : Prop where
  ok : RsOk rs
  nd : (rs.map (fun r : Rec => r.nm)).Nodup
  oo : OrdOk (widthI rs) os
  f : ∀ r ∈ rs, fine (10 ^ 40) (encR r) = true ∧ wt (encR r) ≤ 20
theorem HG.ro {rs : List Rec} {os : List Ord} (h : HG rs os) : RO rs os (widthI rs) := ⟨h.ok.le, h.oo, (width_ok h.ok).2.2, oneW_iff.mp h.ok.one⟩
theorem HG.nmf {rs : List Rec} {os : List Ord} (h : HG rs os) : ∀ r ∈ rs, fine (10 ^ 40) (.str r.nm) = true ∧ r.nm.length ≤ 20 := fun r hr => by
  obtain ⟨a, b⟩ := h.f r hr
  simp only [encR, fine, fineAll, wt, wtAll, Bool.and_eq_true] at a b ⊢
  exact ⟨a.1, by omega⟩
theorem HG.sm {rs : List Rec} {os : List Ord} (h : HG rs os) : SmR (.tuple (rs.map encR)) := fun ds z => by
  cases z
  refine ⟨by rw [List.length_map]; exact Nat.le_trans h.ok.le (by decide), fun e he => ?_⟩
  obtain ⟨r, hr, rfl⟩ := List.mem_map.mp he
  have l20 := (h.nmf r hr).2
  have line : (5000 : Nat) ≤ sizeLine := by decide
  intro x hx
  simp at hx
  rcases hx with rfl | rfl | rfl | rfl
  · show r.nm.length ≤ sizeLine
    omega
  all_goals trivial
theorem enc_good {w : Int} (hw : w ≤ 4) : ∀ {os : List Ord}, (∀ o ∈ os, 0 ≤ o.1 ∧ o.1 < w ∧ dirW o.2) → fineAll (10 ^ 40) (os.map encO) = true ∧ wtAll (os.map encO) ≤ 7 * os.length ∧ PyData.depthAll (os.map encO) ≤ 1
  | [], _ => ⟨rfl, by simp [wtAll], by simp [PyData.depthAll]⟩
  | o :: os, h => by
    obtain ⟨h1, h2, h3⟩ := enc_good hw (os := os) fun x hx => h x (by simp [hx])
    obtain ⟨c0, c1, y⟩ := h o (by simp)
    have e9 : 4 ≤ 10 ^ 40 := by decide
    have fy : fine (10 ^ 40) (.str o.2) = true ∧ o.2.length ≤ 4 := by
      rcases y with z | z <;> rw [z] <;> exact ⟨by decide +kernel, by decide +kernel⟩
    refine ⟨?_, ?_, ?_⟩
    · simp only [List.map_cons, fineAll, encO, fine, Bool.and_eq_true] at fy ⊢
      exact ⟨⟨decide_eq_true (by omega), fy.1, trivial⟩, h1⟩
    · simp only [List.map_cons, wtAll, encO, wt, List.length_cons]
      omega
    · simp only [List.map_cons, PyData.depthAll, encO, PyData.depth]
      omega
theorem HG.show {rs : List Rec} {os : List Ord} (h : HG rs os) : (PyData.tuple [.tuple (rs.map encR), .tuple (os.map encO)]).showable = true ∧ (PyData.tuple [.tuple (rs.map encR), .tuple (os.map encO)]).depth ≤ 100 ∧ (PyData.tuple [.tuple (rs.map encR), .tuple (os.map encO)]).shown.length ≤ sizeLine := by
  obtain ⟨f1, f2, f3⟩ := enc_good (width_ok h.ok).2.1 h.oo.all
  have l4 := h.oo.le
  have l60 := h.ok.le
  have hm : ∀ e ∈ rs.map encR, fine (10 ^ 40) e = true ∧ wt e ≤ 20 ∧ e.depth ≤ 50 := fun e he => by
    obtain ⟨r, mr, rfl⟩ := List.mem_map.mp he
    exact ⟨(h.f r mr).1, (h.f r mr).2, depth_rec r⟩
  have gr := wtAll_le fun e he => (hm e he).2.1
  have kr := depthAll_le fun e he => (hm e he).2.2
  rw [List.length_map] at gr
  refine big_show ?_ ?_ ?_
  · simp only [fine, fineAll, Bool.and_eq_true]
    exact ⟨fineAll_mem.mpr fun e he => (hm e he).1, f1, trivial⟩
  · simp only [wt, wtAll]
    omega
  · simp only [PyData.depth, PyData.depthAll]
    omega
theorem rsok_true {rs : List Rec} (h : RsOk rs) : rowsetD (.tuple (rs.map encR)) = true := by
  show (decide ((rs.map encR).length ≤ 60) && (((rs.map encR).all rowD && oneW ((rs.map encR).map recD)) && ascS (((rs.map encR).map recD).map (·.nm)))) = true
  rw [recs_back, List.length_map, decide_eq_true h.le, h.row, h.one, h.asc]
  rfl
theorem recs_inj {as bs : List Rec} (h : PyData.tuple (as.map encR) = .tuple (bs.map encR)) : as = bs := by
  injection h with h
  have := congrArg (List.map recD) h
  rwa [recs_back, recs_back] at this
theorem ords_inj : ∀ {as bs : List Ord}, as.map encO = bs.map encO → as = bs
  | [], [], _ => rfl
  | [], _ :: _, h => by cases h
  | _ :: _, [], h => by cases h
  | a :: as, b :: bs, h => by
    simp only [List.map_cons, List.cons.injEq, encO, PyData.tuple.injEq, PyData.int.injEq, PyData.str.injEq] at h
    rw [ords_inj h.2, show a = b from Prod.ext h.1.1 h.1.2.1]
theorem hg_of {wd : Nat} {rs : List Rec} {os : List Ord} (h : RsP wd rs) (w1 : 1 ≤ wd) (w4 : wd ≤ 4) (hl : rs.length ≤ 60) (hO : OrdOk (wd : Int) os) : HG rs os := by
  refine ⟨h.rsok w1 w4 hl, h.nd, ?_, fun r hr => ⟨(rec_fine (h.ok r hr) w4).1, (rec_fine (h.ok r hr) w4).2.1⟩⟩
  cases rs with
  | nil =>
    show OrdOk 4 os
    refine ⟨hO.le, hO.nd, fun o ho => ?_⟩
    obtain ⟨a, b, c⟩ := hO.all o ho
    exact ⟨a, by omega, c⟩
  | cons r rs =>
    obtain ⟨_, _, o⟩ := h.ok r (by simp)
    show OrdOk (r.vals.length : Int) os
    rw [o.len]
    exact hO
theorem tv3 {sp : Sp} {σ : L2.St} {i j k : Nat} {v1 v2 v3 : V} {H : Hp} {Q : VK} (h1 : σ[i]? = some (some v1)) (h2 : σ[j]? = some (some v2)) (h3 : σ[k]? = some (some v3)) (h : sp [v1, v2, v3] H Q E0) : tCall sp [] E0 (tCons (tVar i) (tCons (tVar j) (tCons (tVar k) tNil))) σ H Q := ⟨v1, h1, v2, h2, v3, h3, h⟩
theorem tv2c {sp : Sp} {σ : L2.St} {i j : Nat} {v1 v2 v3 : V} {H : Hp} {Q : VK} (h1 : σ[i]? = some (some v1)) (h2 : σ[j]? = some (some v2)) (h : sp [v1, v2, v3] H Q E0) : tCall sp [] E0 (tCons (tVar i) (tCons (tVar j) (tCons (tC v3) tNil))) σ H Q := ⟨v1, h1, v2, h2, h⟩
theorem tv2d {sp : Sp} {σ : L2.St} {i j : Nat} {v1 v2 v3 : V} {H : Hp} {Q : VK} {E : XK} (h1 : σ[i]? = some (some v1)) (h2 : σ[j]? = some (some v2)) (h : sp [v1, v2, v3] H Q E) : tCall sp [v3] E (tCons (tVar i) (tCons (tVar j) tNil)) σ H Q := ⟨v1, h1, v2, h2, h⟩
theorem fold_snoc {α β : Type} (f : β → α → β) (b : β) {l : List α} {i : Nat} {x : α} (h : l[i]? = some x) : (l.take (i + 1)).foldl f b = f ((l.take i).foldl f b) x := by
  rw [List.take_add_one, h, List.foldl_append]
  rfl
/-! ### a comprehension over a list of rows -/
theorem lc_filterL {K : PySem.W.Frag} {a D : Addr} {xs : List V} {rs : List Rec} {g : TG} {tt : TT} {te : TE} {vs : List Nat} {σ : L2.St} {H0 H1 : Hp} {Qd : Hp → Prop} (f : Rec → Bool) (nD : H1 D = none) (ea : H1 a = some (.lst xs)) (s0 : Same H0 H1) (n0 : H0 a = none) (hx : Dxs H0 xs (rs.map encR)) (hl : rs.length ≤ 1000)
    (hs : ∀ (r : Rec) (x : V) (G : Hp), r ∈ rs → Same H1 G → Dx G x (encR r) → ∀ (Pt : V → Hp → Prop) (Pf : Hp → Prop), (∀ G', Same G G' → if f r = true then Pt x G' else Pf G') → g x (wipe σ vs) G fun σ2 H2 => wipe σ2 vs = wipe σ vs ∧ tt σ2 H2 fun b H3 => if b = true then te σ2 H3 Pt else Pf H3)
    (hd : ∀ G ys, Same H1 G → G D = some (.lst ys) → ys.length = (rs.filter f).length → Qd G) :
    ∃ W : Nat → Nat → Hp → Prop, (∃ m, W 0 m (upd H1 D (.lst []))) ∧ ∀ i m H, W i m H →
      ((Itl K a).stop i H ∧ Qd H) ∨ ((Itl K a).go i H ∧ ∃ Nx : Hp → Prop, (∀ H', Nx H' → ∃ m', m' < m ∧ W (i + 1) m' H') ∧ ∀ x H', (Itl K a).yld i H x H' → g x (wipe σ vs) H' fun σ2 H2 => wipe σ2 vs = wipe σ vs ∧ tt σ2 H2 fun b H3 =>
        if b = true then te σ2 H3 fun y H4 => ∃ acc, H4 D = some (.lst acc) ∧ acc.length < sizeLine ∧ Nx (upd H4 D (.lst (acc ++ [y]))) else Nx H3) := by
  have lx := hx.len
  rw [List.length_map] at lx
  refine lc_list (xs := xs) (fun i G => Same H1 G ∧ ∃ ys, G D = some (.lst ys) ∧ ys.length = ((rs.take i).filter f).length) ⟨same_new nD, [], upd_same, rfl⟩ (fun i G _ hG => .inl (.inl (hG.1 _ _ ea))) (fun i x G hxi hG => ?_) (fun G hG => ?_)
  · obtain ⟨sG, ys, eD, hy⟩ := hG
    obtain ⟨d, ed, hdx⟩ := hx.get' hxi
    rw [List.getElem?_map] at ed
    obtain ⟨r, er, rfl⟩ := Option.map_eq_some_iff.mp ed
    have el := filter_atR f er
    have ly : ys.length ≤ i := by
      rw [hy]
      exact Nat.le_trans (List.length_filter_le _ _) (by rw [List.length_take]; omega)
    have ii : i < rs.length := (List.getElem?_eq_some_iff.mp er).1
    refine hs r x G (List.mem_of_getElem? er) sG (hdx.up (s0.trans sG)) _ _ fun G' sg => ?_
    have sG' := sG.trans sg
    have eD' := sg _ _ eD
    by_cases lt : f r = true
    · rw [if_pos lt] at el ⊢
      refine ⟨ys, eD', ?_, same_at sG' nD, ys ++ [x], upd_same, ?_⟩
      · have hb : (1000 : Nat) < sizeLine := by decide
        omega
      · rw [el, List.length_append, List.length_append, hy]
        rfl
    · rw [if_neg lt] at el ⊢
      rw [List.append_nil] at el
      exact ⟨sG', ys, eD', by rw [el]; exact hy⟩
  · obtain ⟨sG, ys, eD, hy⟩ := hG
    rw [List.take_of_length_le (by omega)] at hy
    exact hd G ys sG eD hy
/-! ### sorting by insertion -/
theorem split_at {α : Type} {lt : α → α → Bool} (tr : ∀ a b c, lt a b = true → lt b c = true → lt a c = true) (r : α) : ∀ {l : List α}, (l.Pairwise fun a b => lt a b = true) →
    (∀ a ∈ l.take (l.filter fun o => lt o r).length, lt a r = true) ∧ ∀ b ∈ l.drop (l.filter fun o => lt o r).length, lt b r = false
  | [], _ => by simp
  | a :: l, h => by
    rw [List.pairwise_cons] at h
    obtain ⟨i1, i2⟩ := split_at tr r h.2
    by_cases z : lt a r = true
    · have e : ((a :: l).filter fun o => lt o r) = a :: l.filter fun o => lt o r := by simp [List.filter_cons, z]
      rw [e, List.length_cons, List.take_succ_cons, List.drop_succ_cons]
      refine ⟨fun b hb => ?_, i2⟩
      rcases List.mem_cons.mp hb with rfl | hb
      · exact z
      · exact i1 b hb
    · have n : ∀ b ∈ a :: l, lt b r = false := fun b hb => by
        cases y : lt b r with
        | false => rfl
        | true =>
          rcases List.mem_cons.mp hb with rfl | hb
          · exact absurd y z
          · exact absurd (tr a b r (h.1 b hb) y) z
      have e : ((a :: l).filter fun o => lt o r) = [] := List.filter_eq_nil_iff.mpr fun b hb => by rw [n b hb]; simp
      rw [e]
      exact ⟨fun b hb => by simp at hb, fun b hb => n b (by simpa using hb)⟩
def insS (os : List Ord) (l : List Rec) (r : Rec) : List Rec := l.take (l.filter fun o => lawR os o r).length ++ [r] ++ l.drop (l.filter fun o => lawR os o r).length
theorem insS_perm (os : List Ord) (l : List Rec) (r : Rec) : (insS os l r).Perm (l ++ [r]) := by
  unfold insS
  generalize (l.filter fun o => lawR os o r).length = n
  have e : l ++ [r] = l.take n ++ (l.drop n ++ [r]) := by rw [← List.append_assoc, List.take_append_drop]
  rw [e, List.append_assoc]
  exact List.Perm.append_left _ List.perm_append_comm
theorem insS_pw {os : List Ord} {l : List Rec} {r : Rec} (h : l.Pairwise fun a b => lawR os a b = true) (hn : ∀ a ∈ l, a.nm ≠ r.nm) : (insS os l r).Pairwise fun a b => lawR os a b = true := by
  obtain ⟨h1, h2⟩ := split_at (lt := lawR os) (fun a b c x y => law_trans x y) r h
  unfold insS
  generalize (l.filter fun o => lawR os o r).length = n at h1 h2
  have hp := h
  rw [← List.take_append_drop n l, List.pairwise_append] at hp
  rw [List.append_assoc, List.pairwise_append, List.pairwise_append]
  refine ⟨hp.1, ⟨by simp, hp.2.1, fun a ha b hb => ?_⟩, fun a ha b hb => ?_⟩
  · rw [List.mem_singleton.mp ha]
    have z := h2 b hb
    have e := law_xor (fun y => hn b (List.mem_of_mem_drop hb) y) b.vals r.vals os
    show lawI os r.nm r.vals b.nm b.vals = true
    rw [e, show lawI os b.nm b.vals r.nm r.vals = false from z]
    rfl
  · rcases List.mem_append.mp hb with hb | hb
    · rw [List.mem_singleton.mp hb]
      exact h1 a ha
    · exact hp.2.2 a ha b hb
theorem ins_fold {os : List Ord} : ∀ {rs acc : List Rec}, (acc.Pairwise fun a b => lawR os a b = true) → ((acc ++ rs).map (fun r : Rec => r.nm)).Nodup → (rs.foldl (insS os) acc).Perm (acc ++ rs) ∧ (rs.foldl (insS os) acc).Pairwise fun a b => lawR os a b = true
  | [], acc, h, _ => by simpa using h
  | r :: rs, acc, h, nd => by
    have p := insS_perm os acc r
    have e : acc ++ r :: rs = acc ++ [r] ++ rs := by simp
    rw [e] at nd
    have hn : ∀ a ∈ acc, a.nm ≠ r.nm := fun a ha z => by
      rw [List.map_append, List.map_append, List.nodup_append, List.nodup_append] at nd
      exact nd.1.2.2 a.nm (List.mem_map.mpr ⟨a, ha, rfl⟩) r.nm (by simp) z
    obtain ⟨i1, i2⟩ := ins_fold (rs := rs) (acc := insS os acc r) (insS_pw h hn) (((p.append_right rs).map _).symm.nodup nd)
    rw [e]
    exact ⟨i1.trans (p.append_right rs), i2⟩
theorem ins_srt {os : List Ord} {rs : List Rec} (nd : (rs.map (fun r : Rec => r.nm)).Nodup) : rs.foldl (insS os) [] = srt os rs := by
  obtain ⟨p, w⟩ := ins_fold (os := os) (rs := rs) (acc := []) .nil (by simpa using nd)
  refine List.Perm.eq_of_pairwise (le := fun a b => lawR os a b = true) (fun a b _ _ h1 h2 => ?_) w (srt_pw nd) ((by simpa using p : (rs.foldl (insS os) []).Perm rs).trans (List.mergeSort_perm _ _).symm)
  have := law_asym a b h1
  rw [h2] at this
  cases this
theorem insF_mem {os : List Ord} {rs acc : List Rec} {x : Rec} (h : x ∈ rs.foldl (insS os) acc) : x ∈ acc ++ rs := by
  induction rs generalizing acc with
  | nil => simpa using h
  | cons r rs ih =>
    have := ih h
    rcases List.mem_append.mp this with z | z
    · have := (insS_perm os acc r).mem_iff.mp z
      simp at this ⊢
      exact this.imp id .inl
    · simp [z]
theorem insF_len {os : List Ord} {rs acc : List Rec} : (rs.foldl (insS os) acc).length = acc.length + rs.length := by
  induction rs generalizing acc with
  | nil => simp
  | cons r rs ih =>
    show (rs.foldl (insS os) (insS os acc r)).length = _
    rw [ih, (insS_perm os acc r).length_eq]
    simp only [List.length_append, List.length_cons, List.length_nil]
    omega
theorem Dxs.dropN {H : Hp} {xs : List V} {ds : List PyData} (h : Dxs H xs ds) (n : Nat) : Dxs H (xs.drop n) (ds.drop n) := by
  induction n generalizing xs ds with
  | zero => exact h
  | succ n ih =>
    cases h with
    | nil => exact .nil
    | cons h t => exact ih t
/-! ### _law_sorted -/
abbrev sLS : Stmt := topS 47
abbrev NS5 : List Str := ["rows", "order", "found", "row", "at", "other"]
theorem scLS : FnScope NS5 ["rows", "order"] (defScope sLS) := ⟨rfl, rfl, rfl, by decide +kernel, rfl, by decide +kernel, by decide +kernel⟩
def spLS : Sp := fun vs H Q _ => ∃ (H0 : Hp) (v ov : V) (rs : List Rec) (os : List Ord) (w : Int), vs = [v, ov] ∧ Same H0 H ∧ Dx H0 v (.tuple (rs.map encR)) ∧ Dx H ov (.tuple (os.map encO)) ∧ RO rs os w ∧ (rs.map (fun r : Rec => r.nm)).Nodup ∧
  ∀ H' p ys, Same H H' → H p = none → H' p = some (.lst ys) → Dxs H0 ys ((srt os rs).map encR) → Q (.ref p) H'
section
variable {P : Program} {w : World} {K : PySem.W.Frag} {mg : Str → Option Value} {base : Heap}
theorem ok_ls {k : Nat} {f fP : Addr} {fd fdP : FuncData} (B : Bl mg) (D : Df K mg "_law_sorted" sLS ["rows", "order"] f fd) (DP : Df K mg "_law_precedes" sLP ["order", "one", "other"] fP fdP) (GP : FnOk P w K mg base CX0 k fP fdP ["order", "one", "other"] spLP) : FnOk P w K mg base CX0 (k + 1) f fd ["rows", "order"] spLS := by
  refine D.F.ok scLS (fun vs H Q E h => ?_) (fun cdv A outer s H vs Q E hr h => ?_)
  · obtain ⟨H0, v, ov, rs, os, wi, rfl, _⟩ := h
    rfl
  · obtain ⟨H0, v, ov, rs, os, wi, rfl, s0, hd, ho, ro, ndn, q⟩ := h
    have nd := scLS.nd
    refine ⟨_, pss_cons (ps_set (i := 2) nd rfl (.inl rfl) (pe_lst pa_nil))
      (pss_cons (ps_for PassesOwn.never rfl (pi_tup (pv 0)) (pg_name (i := 3) nd rfl (.inr rfl))
        (pss_cons (ps_set (i := 4) nd rfl (.inl rfl) (pe_callB (call_lenK (K := K) rfl) (by rfl) B.len PySem.boot_len (pa_cons (pe_lc (own := [("other", 5)]) (g := gName 5) rfl nd (pi_list (pv 2)) (blkOk_by (N := NS5) (sc := defScope sLS) (by decide +kernel)) (fun _ _ _ _ _ => pg_name (i := 5) nd rfl (Or.inl rfl))
            (fun _ _ _ _ _ => pts_one (pt_val (pe_call GP hr (by rfl) DP.g DP.F.kp DP.b .nil pass0 (pa_cons (pv 1) (pa_cons (pv 5) (pa_cons (pv 3) pa_nil)))))) (fun _ _ _ _ _ => pv 5)) pa_nil)))
        (pss_one (ps_expr (pe_bm PySem.F.plainAttrs_list PySem.F.slot_list_insert PySem.F.type_list_insert mt_insert (pv 2) (pa_cons (pv 4) (pa_cons (pv 3) pa_nil)))))))
      (pss_one (ps_ret (pv 2)))), ?_⟩
    obtain ⟨a, xs, rfl, ea, hx⟩ := dx_tup' hd
    have lx := hx.len
    rw [List.length_map] at lx
    have l60 := ro.le
    refine ⟨by decide, fun F nF => ?_⟩
    have s1 : Same H (upd H F (.lst [])) := same_new nF
    have nF0 : H0 F = none := by
      cases e : H0 F with
      | none => rfl
      | some o => rw [s0 _ _ e] at nF; cases nF
    have ea' := s0 _ _ ea
    refine ⟨.ref a, rfl, a, rfl, ⟨_, .inl (.inl (s1 _ _ ea'))⟩, ?_⟩
    refine for_tup (K := K) (xs := xs) (fun i σ G => Same H G ∧ ∃ ys x3 x4 x5, σ = [some (.ref a), some ov, some (.ref F), x3, x4, x5] ∧ G F = some (.lst ys) ∧ Dxs H0 ys (((rs.take i).foldl (insS os) []).map encR))
      ⟨s1, [], none, none, none, rfl, upd_same, .nil⟩ (fun i σ G _ hp => .inl (.inl (hp.1 _ _ ea'))) (fun i x σ G hxi hp => ?_) (fun σ G hp => ?_)
    · obtain ⟨sG, ys, x3, x4, x5, rfl, eF, hy⟩ := hp
      obtain ⟨d, ed, hdx⟩ := hx.get' hxi
      rw [List.getElem?_map] at ed
      obtain ⟨r, er, rfl⟩ := Option.map_eq_some_iff.mp ed
      have mr := List.mem_of_getElem? er
      have ii : i < rs.length := (List.getElem?_eq_some_iff.mp er).1
      have el := fold_snoc (insS os) [] er
      have hmem : ∀ o ∈ (rs.take i).foldl (insS os) [], o ∈ rs := fun o ho => List.mem_of_mem_take (by simpa using insF_mem ho)
      have hlen : ((rs.take i).foldl (insS os) []).length ≤ i := by
        rw [insF_len, List.length_take, List.length_nil]
        omega
      generalize (rs.take i).foldl (insS os) [] = acc at hy el hmem hlen
      have ly : ys.length = acc.length := by rw [hy.len, List.length_map]
      refine ⟨.ref F, rfl, F, rfl, ⟨_, .inl (.inl eF)⟩, fun C nC => ?_⟩
      refine lc_filterL (rs := acc) (fun o => lawR os o r) nC eF (s0.trans sG) nF0 hy (by omega) (fun o y G1 mo sG1 hyo Pt Pf q1 => ?_) (fun G1 zs sG1 eC lz => ?_)
      · have mo := hmem o mo
        refine ⟨rfl, ov, rfl, y, rfl, x, rfl, y, x, ov, encR o, encR r, o.nm, o.vals, r.nm, r.vals, os, wi, rfl, hyo, hdx.up ((s0.trans sG).trans sG1), ho.up (sG.trans sG1), row_n o (ro.hw o mo).2, row_n r (ro.hw r mr).2, ro.one o mo r mr, ro.ok, (ro.hw o mo).1, fun G2 sG2 => ?_⟩
        refine ⟨_, rfl, ?_⟩
        have q2 := q1 G2 sG2
        cases hb : lawI os o.nm o.vals r.nm r.vals with
        | true => exact iteT ⟨y, rfl, by rw [show lawR os o r = true from hb, if_pos rfl] at q2; exact q2⟩
        | false => exact iteF (by rw [show lawR os o r = false from hb, if_neg (by simp)] at q2; exact q2)
      · have sG1' := sG.trans sG1
        have big : (1000 : Nat) < sizeLine := by decide
        have hfl : (acc.filter fun o => lawR os o r).length ≤ acc.length := List.length_filter_le _ _
        refine ⟨C, zs, rfl, .inl (.inl (.inl eC)), ?_⟩
        refine ⟨.ref F, rfl, .inl ⟨rfl, _, .inl (.inl (sG1 _ _ eF))⟩, .int (zs.length : Int), rfl, x, rfl, F, ys, (zs.length : Int), x, rfl, rfl, sG1 _ _ eF, by omega, by omega, by omega, same_at sG1' nF, _, _, _, _, rfl, upd_same, ?_⟩
        rw [el]
        unfold insS
        rw [show ((zs.length : Int)).toNat = (acc.filter fun o => lawR os o r).length by rw [lz]; rfl, List.map_append, List.map_append, List.map_take, List.map_drop]
        exact ((Dxs.takeN hy _).app (.cons hdx .nil)).app (Dxs.dropN hy _)
    · obtain ⟨sG, ys, x3, x4, x5, rfl, eF, hy⟩ := hp
      rw [List.take_of_length_le (by omega), ins_srt ndn] at hy
      exact ⟨.ref F, rfl, q G F ys sG nF eF hy⟩
end
end Z1

set_option maxRecDepth 100000
set_option maxHeartbeats 4000000
namespace Z1
open PySem PySem.Spec PyProof.Rows L2 KX
/-! ### sorted_names -/
abbrev sSN : Stmt := topS 39
theorem scSN : FnScope ["rowset", "order"] ["rowset", "order"] (defScope sSN) := ⟨rfl, rfl, rfl, by decide +kernel, rfl, by decide +kernel, by decide +kernel⟩
def srtNm (os : List Ord) (rs : List Rec) : List Str := (srt os rs).map fun r : Rec => r.nm
def spSN (RA OA P0 : Addr) : Sp := fun vs H Q E => ∃ (v ov : V) (d od : PyData), vs = [v, ov] ∧ LamX.Tabs (TS P0) H ∧ Dx H v d ∧ SmR d ∧ Dx H ov od ∧ okO od ∧ (rowsetD d = false → ∀ H', Same H H' → E (.ref RA) none H') ∧
  ∀ rs, d = .tuple (rs.map encR) → RsOk rs → (ordD (widthI rs) od = false → ∀ H', Same H H' → E (.ref OA) none H') ∧
    ∀ os, od = .tuple (os.map encO) → OrdOk (widthI rs) os → ∀ (H' : Hp) (p : Addr), LamX.ExtN H H' → LamX.Tabs (TS P0) H' → Dx H' (.ref p) (.tuple ((srtNm os rs).map .str)) → Q (.ref p) H'
section
variable {P : Program} {w : World} {K : PySem.W.Frag} {mg : Str → Option Value} {base : Heap}
theorem ok_sn {k : Nat} {RA OA P0 f fO fW fN fS : Addr} {fd fdO fdW fdN fdS : FuncData} (D : Df K mg "sorted_names" sSN ["rowset", "order"] f fd)
    (DO : Df K mg "check_order" sCO ["width", "order"] fO fdO) (DW : Df K mg "rowset_width" sRW ["rowset"] fW fdW) (DN : Df K mg "names_of" sNO ["rows"] fN fdN) (DS : Df K mg "sorted_rows" sSR ["rowset", "order"] fS fdS)
    (GO : FnOk P w K mg base (L2.CX P w) k fO fdO ["width", "order"] (spCO OA)) (GW : FnOk P w K mg base (L2.CX P w) k fW fdW ["rowset"] (spOf RA fun rs x _ => x = .int (widthI rs)))
    (GN : FnOk P w K mg base CX0 k fN fdN ["rows"] spNOL) (GS : FnOk P w K mg base CX0 k fS fdS ["rowset", "order"] (spSR P0)) : FnOk P w K mg base (L2.CX P w) (k + 1) f fd ["rowset", "order"] (spSN RA OA P0) := by
  refine D.F.okX scSN (fun vs H Q E h => ?_) (fun cdv A outer s H vs Q E hr h => ?_)
  · obtain ⟨v, ov, d, od, rfl, _⟩ := h
    rfl
  · obtain ⟨v, ov, d, od, rfl, ht, hd, sm, ho, oko, qr, q⟩ := h
    refine ⟨_, pss_cons (ps_expr (pe_callS GO hr (by rfl) DO.g DO.F.kp DO.b (fun σ => passAt (takes_of rfl rfl rfl rfl) σ) (pa_cons (pe_callS GW hr (by rfl) DW.g DW.F.kp DW.b (fun σ => passAt (takes_of rfl rfl rfl rfl) σ) (pa_cons (pv 0) pa_nil)) (pa_cons (pv 1) pa_nil))))
      (pss_one (ps_ret (pe_call GN hr (by rfl) DN.g DN.F.kp DN.b .nil pass0 (pa_cons (pe_call GS hr (by rfl) DS.g DS.F.kp DS.b .nil pass0 (pa_cons (pv 0) (pa_cons (pv 1) pa_nil))) pa_nil)))), ?_⟩
    refine ⟨v, rfl, v, d, rfl, hd, sm, qr, fun rs e ok G x sG hx => ?_⟩
    subst hx
    obtain ⟨qo, q2⟩ := q rs e ok
    obtain ⟨w1, w4, hw⟩ := width_ok ok
    refine ⟨ov, rfl, ov, od, widthI rs, rfl, w1, w4, ho.up sG, oko, ?_⟩
    cases eo : ordD (widthI rs) od with
    | false =>
      rw [if_neg (by simp)]
      exact fun G2 s2 => qo eo G2 (sG.trans s2)
    | true =>
      rw [if_pos rfl]
      obtain ⟨os, rfl, oos⟩ := ord_is eo
      intro G2 s2
      have s02 := sG.trans s2
      subst e
      refine ⟨v, rfl, ov, rfl, v, ov, rs, os, widthI rs, rfl, tabs_same s02 ht, hd.up s02, ho.up s02, oos, hw, fun G3 p ys e3 t3 ep hy => ?_⟩
      have l60 := ok.le
      have ls : (srt os rs).length = rs.length := List.length_mergeSort _
      exact ⟨p, ys, srt os rs, rfl, ep, hy, by omega, fun G4 p4 s4 h4 => q2 os rfl oos G4 p4 (((ext_same s02).trans e3).trans (ext_same s4)) (tabs_same s4 t3) h4⟩
end
/-! ### _law_error_kind -/
abbrev sEK : Stmt := topS 48
structure KF (K : PySem.W.Frag) (mg : Str → Option Value) (R M S : Addr) : Prop where
  gS : mg "SparesError" = some (.ref S)
  gR : mg "InvalidRowset" = some (.ref R)
  gM : mg "InvalidOrder" = some (.ref M)
  xS : PySem.W.subIn K (.ref S) (.type "BaseException") = some true
  hS : PySem.W.hasDictIn K S = true
  tS : PySem.W.typeIn K (.ref S) = some (.type "type")
  rS : PySem.W.subIn K (.ref R) (.ref S) = some true
  mS : PySem.W.subIn K (.ref M) (.ref S) = some true
  iR : XI K R
  iM : XI K M
  r1 : PySem.W.kitOne K (.ref R) (.ref R) = some true
  r2 : PySem.W.kitOne K (.ref R) (.ref M) = some false
  m1 : PySem.W.kitOne K (.ref M) (.ref R) = some false
  m2 : PySem.W.kitOne K (.ref M) (.ref M) = some true
def tSuiteE (K : PySem.W.Frag) (R M : Addr) : Addr → Value → Option Addr → L2.TS := fun a cls d =>
  tSeq (tAsg (tLst (tCons (tCB (rIsN K a cls d) (tCons (tVar 2) (tCons (tC (.ref R)) tNil))) (tCons (tCB (rIsN K a cls d) (tCons (tVar 2) (tCons (tC (.ref M)) tNil))) tNil))) (gName 3))
  (tRet (tIf (tTest (tOp rEq (tBM K "list" (rCntF K) (tVar 3) (tCons (tC (.bl true)) tNil)) (tC (.int 1)))) (tOp (rIxL K) (tLst (tCons (tC (.str "rowset")) (tCons (tC (.str "order")) tNil))) (tBM K "list" (rIndex K) (tVar 3) (tCons (tC (.bl true)) tNil))) (tC (.str "odd"))))
section
variable {P : Program} {w : World} {K : PySem.W.Frag} {mg : Str → Option Value} {base : Heap} {R M S : Addr}
theorem suite_ok (T : KF K mg R M S) {a C : Addr} {b : Bool} (I : XI K C) (k1 : PySem.W.kitOne K (.ref C) (.ref R) = some b) (k2 : PySem.W.kitOne K (.ref C) (.ref M) = some (!b)) {D : Ends} {H : Hp} {x0 x1 x4 : Option V} (q : ∀ H', Same H H' → D.rt (.str (if b = true then "rowset" else "order")) H') :
    tSuiteE K R M a (.ref C) none D [x0, x1, some (.ref a), x4] H := by
  refine ⟨.ref a, rfl, C, .ref R, b, I, rfl, rfl, rfl, .inl ⟨_, fun u r => r, k1⟩, .ref a, rfl, C, .ref M, !b, I, rfl, rfl, rfl, .inl ⟨_, fun u r => r, k2⟩, by show 2 ≤ sizeLine; decide, fun p np => ?_⟩
  have sm : Same H (upd H p (.lst [.bl b, .bl (!b)])) := same_new np
  refine ⟨.ref p, rfl, .inl ⟨rfl, _, .inl (.inl upd_same)⟩, p, [.bl b, .bl (!b)], .bl true, rfl, rfl, .inl (.inl upd_same), rfl, rfl, rfl, _, rfl, ?_⟩
  have one : ([V.bl b, V.bl (!b)].countP fun z => eqV z (.bl true)) = 1 := by cases b <;> rfl
  rw [one]
  refine iteT ⟨by show 2 ≤ sizeLine; decide, fun p3 np3 => ?_⟩
  have ep0 : (upd H p (.lst [.bl b, .bl (!b)])) p = some (.lst [.bl b, .bl (!b)]) := upd_same
  have ep3 := same_new (o := .lst [.str "rowset", .str "order"]) np3 _ _ ep0
  have fin := q _ (sm.trans (same_new (o := .lst [.str "rowset", .str "order"]) np3))
  cases b with
  | true => exact ⟨.ref p, rfl, .inl ⟨rfl, _, .inl (.inl ep3)⟩, p, [.bl true, .bl false], .bl true, 0, .bl true, rfl, rfl, .inl (.inl ep3), rfl, rfl, rfl, rfl, fun m z h => absurd h (by omega), p3, _, 0, .str "rowset", rfl, rfl, .inl (.inl upd_same), rfl, fin⟩
  | false => exact ⟨.ref p, rfl, .inl ⟨rfl, _, .inl (.inl ep3)⟩, p, [.bl false, .bl true], .bl true, 1, .bl true, rfl, rfl, .inl (.inl ep3), rfl, rfl, rfl, rfl, fun m z h e => by
      have : m = 0 := by omega
      subst this
      cases e
      rfl, p3, _, 1, .str "order", rfl, rfl, .inl (.inl upd_same), rfl, fin⟩
end
def spEK (P0 : Addr) : Sp := fun vs H Q _ => ∃ (v ov : V) (d od : PyData), vs = [v, ov] ∧ LamX.Tabs (TS P0) H ∧ Dx H v d ∧ SmR d ∧ Dx H ov od ∧ okO od ∧
  ((rowsetD d = false → ∀ H', LamX.ExtN H H' → LamX.Tabs (TS P0) H' → Q (.str "rowset") H') ∧ ∀ rs, d = .tuple (rs.map encR) → RsOk rs → (ordD (widthI rs) od = false → ∀ H', LamX.ExtN H H' → LamX.Tabs (TS P0) H' → Q (.str "order") H') ∧
    (ordD (widthI rs) od = true → ∀ H', LamX.ExtN H H' → LamX.Tabs (TS P0) H' → Q (.str "returned") H'))
theorem scEK : FnScope ["rowset", "order", "e", "samples"] ["rowset", "order"] (defScope sEK) := ⟨rfl, rfl, rfl, by decide +kernel, rfl, by decide +kernel, by decide +kernel⟩
section
variable {P : Program} {w : World} {K : PySem.W.Frag} {mg : Str → Option Value} {base : Heap} {R M S : Addr}
theorem ok_ek {k : Nat} {P0 f fD : Addr} {fd fdD : FuncData} (B : Bl mg) (T : KF K mg R M S) (D : Df K mg "_law_error_kind" sEK ["rowset", "order"] f fd) (DD : Df K mg "sorted_names" sSN ["rowset", "order"] fD fdD)
    (GD' : FnOk P w K mg base (L2.CX P w) k fD fdD ["rowset", "order"] (spSN R M P0)) : FnOk P w K mg base CX0 (k + 1) f fd ["rowset", "order"] (spEK P0) := by
  refine D.F.ok scEK (fun vs H Q E h => ?_) (fun cdv A outer s H vs Q E hr h => ?_)
  · obtain ⟨v, ov, d, od, rfl, _⟩ := h
    rfl
  · obtain ⟨v, ov, d, od, rfl, ht, hd, sm, ho, oko, qr, q⟩ := h
    have nd := scEK.nd
    refine ⟨_, pss_cons (ps_try_as (i := 2) (tb := fun W => tDrop (tCallS (spSN R M P0) (WE W) (tCons (tVar 0) (tCons (tVar 1) tNil)))) (ts := tSuiteE K R M) (Wout := fun _ _ _ _ => False) rfl rfl nd rfl rfl ⟨rfl, by decide, .inl T.gS⟩ takes0
        (fun W pn xe tk _ => pss_one (ps_expr (by exact pe_callS GD' hr (by rfl) DD.g DD.F.kp DD.b (fun σ => passAt tk σ) (pa_cons (pv 0) (pa_cons (pv 1) pa_nil)))))
        (fun a oe cls d pn hz hf => by exact pss_cons (ps_set (i := 3) nd rfl (.inl rfl) (pe_lst (pa_cons (pe_callB (call_isN hz hf) (by rfl) B.isi (by decide +kernel) (pa_cons (pv 2) (pa_cons (pe_glob (v := .ref R) (by rfl) T.gR rfl) pa_nil))) (pa_cons (pe_callB (call_isN hz hf) (by rfl) B.isi (by decide +kernel) (pa_cons (pv 2) (pa_cons (pe_glob (v := .ref M) (by rfl) T.gM rfl) pa_nil))) pa_nil)))) (pss_one (ps_ret (pe_ifExp (pt_cmpR op_eq (pe_bm PySem.F.plainAttrs_list PySem.F.slot_list_count PySem.F.type_list_count mt_countF (pv 3) (pa_cons pe_bl pa_nil)) pe_int (nomark _)) (pe_ix ix_list (pe_lst (pa_cons pe_str (pa_cons pe_str pa_nil))) (pe_bm PySem.F.plainAttrs_list PySem.F.slot_list_index PySem.F.type_list_index mt_index (pv 3) (pa_cons pe_bl pa_nil)) (fun _ _ => rfl)) pe_str)))))
      (pss_one (ps_ret pe_str)), ?_⟩
    refine ⟨v, rfl, ov, rfl, v, ov, d, od, rfl, ht, hd, sm, ho, oko, fun hb H1 s1 => ?_, fun rs e ok => ?_⟩
    · refine ⟨true, PySem.W.exm_ref T.xS T.hS T.tS T.rS, fun _ a na => ?_, fun z => by cases z⟩
      exact suite_ok (b := true) T T.iR T.r1 T.r2 fun H2 s2 => qr hb H2 (ext_same (s1.trans s2)) (tabs_same (s1.trans s2) ht)
    · obtain ⟨q1, q2⟩ := q rs e ok
      refine ⟨fun hb H1 s1 => ?_, fun os e2 oo H1 p e1 t1 hp => ?_⟩
      · refine ⟨true, PySem.W.exm_ref T.xS T.hS T.tS T.mS, fun _ a na => ?_, fun z => by cases z⟩
        exact suite_ok (b := false) T T.iM T.m1 T.m2 fun H2 s2 => q1 hb H2 (ext_same (s1.trans s2)) (tabs_same (s1.trans s2) ht)
      · exact q2 (by rw [e2]; exact ord_true oo) H1 e1 t1
end
end Z1

set_option maxRecDepth 100000
set_option maxHeartbeats 4000000
namespace Z1
open PySem PySem.Spec PyProof.Rows L2 KX
theorem gn_to {i : Nat} {v : V} {σ σ' : L2.St} {H : Hp} {Q : L2.St → Hp → Prop} (e : σ.set i (some v) = σ') (h : Q σ' H) : gName i v σ H Q := by subst e; exact h
/-! ### _law_column_values -/
abbrev sCV : Stmt := topS 49
abbrev NV : List Str := ["rowset", "order", "names", "rows", "row", "name", "column", "way"]
theorem scCV : FnScope NV ["rowset", "order", "names"] (defScope sCV) := ⟨rfl, rfl, rfl, by decide +kernel, rfl, by decide +kernel, by decide +kernel⟩
abbrev scIn : Scope := { kind := .function, names := [(".0", .local), ("name", .cell), ("tuple", .globalImplicit), ("order", .cell), ("rows", .cell)], isGenerator := false, isCoroutine := false }
def rTupOf (K : PySem.W.Frag) : List V → Hp → VK → Prop := fun xs H Q => ∃ p ys, xs = [.ref p] ∧ ((SqL K H p ys ∧ ∀ l, H l = none → Q (.ref l) (upd H l (.tup ys))) ∨ (SqT K H p ys ∧ Q (.ref p) H))
def ordVals (os : List Ord) (zs : List Int) : List Int := os.map fun o : Ord => zs.getD o.1.toNat 0
def encVals (zs : List Int) : PyData := .tuple (zs.map .int)
theorem mergeK_other {k : Key} : ∀ {ms acc : List (Key × V)}, (∀ m ∈ ms, m.1 ≠ k) → valV (mergeK acc ms) k = valV acc k
  | [], acc, _ => rfl
  | m :: ms, acc, h => by
    show valV (mergeK (putK acc m.1 m.2) ms) k = _
    rw [mergeK_other fun x hx => h x (by simp [hx]), valV_put, if_neg fun z => h m (by simp) z.symm]
theorem mergeK_get {kv : Key × V} : ∀ {ms acc : List (Key × V)}, (ms.map (·.1)).Nodup → kv ∈ ms → valV (mergeK acc ms) kv.1 = some kv.2
  | m :: ms, acc, nd, h => by
    rw [List.map_cons, List.nodup_cons] at nd
    show valV (mergeK (putK acc m.1 m.2) ms) kv.1 = _
    rcases List.mem_cons.mp h with rfl | h
    · rw [mergeK_other fun x hx z => nd.1 (List.mem_map.mpr ⟨x, hx, z⟩), valV_put, if_pos rfl]
    · exact mergeK_get nd.2 h
def ints_at (G : Hp) (v : V) (zs : List Int) : Prop := ∃ p, v = .ref p ∧ G p = some (.tup (zs.map V.int))
theorem ints_up {G G' : Hp} (k : TK G G') : ∀ {vs : List V} {zs : List (List Int)}, Paired (ints_at G) vs zs → Paired (ints_at G') vs zs
  | _, _, .nil => .nil
  | _, _, .cons ⟨p, e, h⟩ t => .cons ⟨p, e, k _ _ h⟩ (ints_up k t)
theorem ints_add {G : Hp} {v : V} {z : List Int} (h1 : ints_at G v z) : ∀ {vs : List V} {zs : List (List Int)}, Paired (ints_at G) vs zs → Paired (ints_at G) (vs ++ [v]) (zs ++ [z])
  | _, _, .nil => .cons h1 .nil
  | _, _, .cons h t => .cons h (ints_add h1 t)
theorem ints_dxs {G : Hp} : ∀ {vs : List V} {zs : List (List Int)}, Paired (ints_at G) vs zs → Dxs G vs (zs.map encVals)
  | _, _, .nil => .nil
  | _, _, .cons ⟨p, e, h⟩ t => by
    subst e
    exact .cons (.tup h (dxs_ints _)) (ints_dxs t)
def prAt (G : Hp) (p : Addr) (kv : Key × V) : Prop := G p = some (.tup [kV kv.1, kv.2])
theorem pr_up {G G' : Hp} (k : TK G G') : ∀ {ps : List Addr} {kvs : List (Key × V)}, Paired (prAt G) ps kvs → Paired (prAt G') ps kvs
  | _, _, .nil => .nil
  | _, _, .cons h t => .cons (k _ _ h) (pr_up k t)
theorem pr_add {G : Hp} {p : Addr} {kv : Key × V} (h1 : prAt G p kv) : ∀ {ps : List Addr} {kvs : List (Key × V)}, Paired (prAt G) ps kvs → Paired (prAt G) (ps ++ [p]) (kvs ++ [kv])
  | _, _, .nil => .cons h1 .nil
  | _, _, .cons h t => .cons h (pr_add h1 t)
theorem pr_seq {K : PySem.W.Frag} {G : Hp} : ∀ {ps : List Addr} {kvs : List (Key × V)}, Paired (prAt G) ps kvs → Paired (fun p kv => SqT K G p [kV kv.1, kv.2]) ps kvs
  | _, _, .nil => .nil
  | _, _, .cons h t => .cons (.inl (.inl h)) (pr_seq t)
def spCV : Sp := fun vs H Q _ => ∃ (v ov nv : V) (rs ss : List Rec) (os : List Ord) (w : Int), vs = [v, ov, nv] ∧ Dx H v (.tuple (rs.map encR)) ∧ Dx H ov (.tuple (os.map encO)) ∧ Dx H nv (.tuple ((ss.map fun r : Rec => r.nm).map .str)) ∧ RO rs os w ∧ (rs.map (fun r : Rec => r.nm)).Nodup ∧ (∀ r ∈ ss, r ∈ rs) ∧ ss.length ≤ 60 ∧
  ∀ H' p ys, Same H H' → H p = none → H' p = some (.lst ys) → Dxs H' ys (ss.map fun r : Rec => encVals (ordVals os r.vals)) → Q (.ref p) H'
section
variable {P : Program} {w : World} {K : PySem.W.Frag} {mg : Str → Option Value} {base : Heap}
theorem ok_cv {f : Addr} {fd : FuncData} (B : Bl mg) (hdict : mg "dict" = none) (D : Df K mg "_law_column_values" sCV ["rowset", "order", "names"] f fd) : FnOk P w K mg base CX0 1 f fd ["rowset", "order", "names"] spCV := by
  refine D.F.ok scCV (fun vs H Q E h => ?_) (fun cdv A outer s H vs Q E hr h => ?_)
  · obtain ⟨v, ov, nv, rs, ss, os, wi, rfl, _⟩ := h
    rfl
  · obtain ⟨v, ov, nv, rs, ss, os, wi, rfl, hd, ho, hn, ro, ndn, hss, l60, q⟩ := h
    have nd := scCV.nd
    have hu : (A.deeper (envOfC (Str.ofString "_law_column_values") (defScope sCV) s.heap.objs.size f cdv)).units + 1 < cLine := by
      have := hr.units
      omega
    refine ⟨_, pss_cons (ps_set (i := 3) nd rfl (.inr rfl) (pe_callTy (call_dictP rfl) (by rfl) hdict (by decide +kernel) (pa_cons (pe_lc (own := [("row", 4)]) (g := gName 4) rfl nd (pi_tup (pv 0)) (blkOk_by (N := NV) (sc := defScope sCV) (by decide +kernel)) (fun _ _ _ _ _ => pg_name (i := 4) nd rfl (Or.inl rfl)) (fun _ _ _ _ _ => pts_nil)
          (fun _ _ _ _ _ => pe_tup (pa_cons (pe_ix (r := rIxT K) ix_tup (pv 4) pe_int (fun _ _ => rfl)) (pa_cons (pv 4) pa_nil)))) pa_nil)))
      (pss_one (ps_ret (pe_lc (own := [("name", 5)]) (g := gName 5) rfl nd (pi_tup (pv 2)) (blkOk_by (N := NV) (sc := defScope sCV) (by decide +kernel)) (fun _ _ _ _ _ => pg_name (i := 5) nd rfl (Or.inr rfl)) (fun _ _ _ _ _ => pts_nil)
          (fun _ _ _ _ _ => pe_callTy (T := "tuple") (r := rTupOf K) call_tuple_of (by rfl) B.tuple (by decide +kernel) (pa_cons (pe_lc (own := [("column", 6), ("way", 7)]) (wi := iTup K (tVar 1)) (g := gTup K 2 (gCons (gName 6) (gCons (gName 7) gNil))) rfl nd (pi_tup (pv 1)) (blkOk_by (N := NV) (sc := scIn) (by decide +kernel)) (fun _ _ _ _ _ => pg_tup (by rfl) (pgs_cons (pg_name (i := 6) nd rfl (Or.inl rfl)) (pgs_cons (pg_name (i := 7) nd rfl (Or.inl rfl)) pgs_nil))) (fun _ _ _ _ _ => pts_nil)
            (fun _ _ _ _ _ => pe_ix (r := rIxT K) ix_tup (pe_ix (r := rIxT K) ix_tup (pe_dget hu (pv 3) (pv 5) (fun _ _ => rfl)) pe_int (fun _ _ => rfl)) (pv 6) (fun _ _ => rfl))) pa_nil))))), ?_⟩
    obtain ⟨a, xs, rfl, ea, hx⟩ := dx_tup' hd
    have lx := hx.len
    rw [List.length_map] at lx
    have l60r := ro.le
    have big : (1000 : Nat) < sizeLine := by decide
    obtain ⟨kvs, ekv⟩ : ∃ kvs : List (Key × V), kvs = (rs.zip xs).map fun e => (Sum.inr e.1.nm, e.2) := ⟨_, rfl⟩
    have lk : kvs.length = rs.length := by rw [ekv, List.length_map, List.length_zip]; omega
    have keys : (kvs.map (·.1)).Nodup := by
      have e : kvs.map (·.1) = (rs.map fun r : Rec => r.nm).map Sum.inr := by
        rw [ekv, List.map_map, List.map_map, ← List.map_fst_zip (l₁ := rs) (l₂ := xs) (by omega), List.map_map]
        simp [List.map_fst_zip, lx]
      rw [e, List.nodup_iff_pairwise_ne, List.pairwise_map]
      exact (List.nodup_iff_pairwise_ne.mp ndn).imp fun h z => h (Sum.inr.inj z)
    refine ⟨.ref a, rfl, a, rfl, ⟨_, .inl (.inl ea)⟩, fun D nD => ?_⟩
    refine lc_tup (xs := xs) (fun i G => Same H G ∧ ∃ ps : List Addr, G D = some (.lst (ps.map V.ref)) ∧ Paired (prAt G) ps (kvs.take i)) ⟨same_new nD, [], upd_same, .nil⟩ (fun i G _ hG => .inl (.inl (hG.1 _ _ ea))) (fun i x G hxi hG => ?_) (fun G hG => ?_)
    · obtain ⟨sG, ps, eD, hp⟩ := hG
      obtain ⟨d, ed, hdx⟩ := hx.get' hxi
      rw [List.getElem?_map] at ed
      obtain ⟨r, er, rfl⟩ := Option.map_eq_some_iff.mp ed
      have ii : i < rs.length := (List.getElem?_eq_some_iff.mp er).1
      obtain ⟨z, vc, ve, zz, rfl, ez, _⟩ := row_nm (hdx.up sG) (row_n r (ro.hw r (List.mem_of_getElem? er)).2)
      have ek : kvs[i]? = some (Sum.inr r.nm, .ref z) := by
        rw [ekv, List.getElem?_map, show (rs.zip xs)[i]? = some (r, V.ref z) from List.getElem?_zip_eq_some.mpr ⟨er, hxi⟩]
        rfl
      have lp : ps.length ≤ i := by
        rw [Paired.length hp, List.length_take]
        omega
      refine ⟨rfl, .ref z, rfl, z, _, 0, .str r.nm, rfl, rfl, .inl (.inl ez), rfl, .ref z, rfl, by show 2 ≤ sizeLine; decide, fun p np => ⟨_, same_new np _ _ eD, by rw [List.length_map]; omega, same_at (sG.trans (same_new np)) nD, ps ++ [p], ?_, ?_⟩⟩
      · rw [upd_same, List.map_append]
        rfl
      · have hpD : p ≠ D := fun z => by rw [z, eD] at np; cases np
        have tk : TK G (upd (upd G p (.tup [.str r.nm, .ref z])) D (.lst (ps.map V.ref ++ [.ref p]))) := (TK.new np).trans (TK.at (same_new np _ _ eD) fun ys z => by cases z)
        rw [List.take_add_one, ek]
        exact pr_add (by show upd _ _ _ p = _; rw [upd_ne hpD]; exact upd_same) (pr_up tk hp)
    · obtain ⟨sG, ps, eD, hp⟩ := hG
      rw [List.take_of_length_le (by omega)] at hp
      refine ⟨D, ps, kvs, rfl, .inl (.inl eD), pr_seq hp, fun M nM => ?_⟩
      have sM := sG.trans (same_new (o := .dK (mergeK [] kvs)) nM)
      have eM : (upd G M (.dK (mergeK [] kvs))) M = some (.dK (mergeK [] kvs)) := upd_same
      refine gn_to (σ' := ([some (.ref a), some ov, some nv, some (.ref M), none, none, none, none] : L2.St)) rfl ?_
      dsimp only
      generalize upd G M (.dK (mergeK [] kvs)) = H2 at sM eM
      clear hp eD sG nD nM
      obtain ⟨b, ns, rfl, eb, hns⟩ := dx_tup' (hn.up sM)
      have es := vals_strsD hns
      subst es
      obtain ⟨c, cs, rfl, ec, hcs⟩ := dx_tup' (ho.up sM)
      have lcs := hcs.len
      rw [List.length_map] at lcs
      refine ⟨.ref b, rfl, b, rfl, ⟨_, .inl (.inl eb)⟩, fun D2 nD2 => ?_⟩
      refine lc_tup (xs := (ss.map fun r : Rec => r.nm).map V.str) (fun i F => Same H2 F ∧ ∃ ys, F D2 = some (.lst ys) ∧ Paired (ints_at F) ys ((ss.take i).map fun r : Rec => ordVals os r.vals)) ⟨same_new nD2, [], upd_same, .nil⟩ (fun i F _ hF => .inl (.inl (hF.1 _ _ eb))) (fun i x F hxi hF => ?_) (fun F hF => ?_)
      · obtain ⟨sF, ys, eD2, hys⟩ := hF
        rw [List.getElem?_map, List.getElem?_map] at hxi
        obtain ⟨nm, e1, rfl⟩ := Option.map_eq_some_iff.mp hxi
        obtain ⟨r, er, rfl⟩ := Option.map_eq_some_iff.mp e1
        have mr := hss r (List.mem_of_getElem? er)
        have is : i < ss.length := (List.getElem?_eq_some_iff.mp er).1
        obtain ⟨j, hj, ej⟩ := List.getElem_of_mem mr
        have hjx : j < xs.length := by omega
        have mkv : (Sum.inr r.nm, xs[j]) ∈ kvs := by
          rw [ekv]
          refine List.mem_map.mpr ⟨(r, xs[j]), List.mem_of_getElem? (i := j) (List.getElem?_zip_eq_some.mpr ⟨by rw [List.getElem?_eq_getElem hj, ej], List.getElem?_eq_getElem hjx⟩), rfl⟩
        have get := mergeK_get (acc := []) keys mkv
        obtain ⟨dx, edx, hdx⟩ := hx.get' (List.getElem?_eq_getElem hjx)
        rw [List.getElem?_map, List.getElem?_eq_getElem hj, ej] at edx
        cases edx
        have hdx2 := hdx.up (sM.trans sF)
        obtain ⟨w1, w2, w3⟩ := ro.hw r mr
        have lys : ys.length ≤ i := by
          rw [Paired.length hys, List.length_map, List.length_take]
          omega
        refine ⟨rfl, .ref c, rfl, c, rfl, ⟨_, .inl (.inl (sF _ _ ec))⟩, fun D3 nD3 => ?_⟩
        have hD23 : D2 ≠ D3 := ne_of_none eD2 nD3
        refine lc_tup (xs := cs) (fun k N => Same F N ∧ N D3 = some (.lst (((os.take k).map fun o : Ord => r.vals.getD o.1.toNat 0).map V.int))) ⟨same_new nD3, upd_same⟩ (fun k N _ hN => .inl (.inl (hN.1 _ _ (sF _ _ ec)))) (fun k y N hyk hN => ?_) (fun N hN => ?_)
        · obtain ⟨sN, eD3⟩ := hN
          obtain ⟨dy, edy, hdy⟩ := hcs.get' hyk
          rw [List.getElem?_map] at edy
          obtain ⟨o, eo, rfl⟩ := Option.map_eq_some_iff.mp edy
          obtain ⟨o0, o1, o2⟩ := ro.ok.all o (List.mem_of_getElem? eo)
          have kk : k < os.length := (List.getElem?_eq_some_iff.mp eo).1
          have l4 := ro.ok.le
          have hdy2 := hdy.up (sF.trans sN)
          cases hdy2 with
          | @tup py pys _ epy hpy =>
          match pys, hpy, epy with
          | [vc, vy], .cons hc1 (.cons hy1 .nil), epy =>
          cases hc1
          cases hy1
          obtain ⟨z, vc', ve, zz, ez0, ez, ezz⟩ := row_nm (hdx2.up sN) (row_n r ⟨w2, w3⟩)
          refine ⟨py, _, rfl, .inl (.inl epy), rfl, _, _, rfl, _, _, rfl, rfl, rfl, .ref M, rfl, .str r.nm, rfl, M, xs[j], rfl, ?_, ?_⟩
          · have h := DGet.k (k := .inr r.nm) (sN _ _ (sF _ _ eM))
            rw [get] at h
            exact h
          rw [ez0]
          refine ⟨z, _, 2, .ref zz, rfl, rfl, .inl (.inl ez), rfl, .int o.1, rfl, zz, _, o.1, _, rfl, rfl, .inl (.inl ezz), at_int o0 (by omega), _, eD3, ?_, same_at sN nD3, ?_⟩
          · rw [List.length_map, List.length_map, List.length_take]
            omega
          · rw [upd_same, List.take_add_one, eo, List.map_append, List.map_append]
            rfl
        · obtain ⟨sN, eD3⟩ := hN
          rw [List.take_of_length_le (by omega)] at eD3
          refine ⟨D3, _, rfl, .inl ⟨.inl (.inl eD3), fun p np => ?_⟩⟩
          have sP := sN.trans (same_new (o := .tup ((os.map fun o : Ord => r.vals.getD o.1.toNat 0).map V.int)) np)
          have eD2' := sP _ _ eD2
          have hpD : p ≠ D2 := fun z => by rw [z, sN _ _ eD2] at np; cases np
          refine ⟨ys, eD2', by omega, same_at (sF.trans sP) nD2, ys ++ [.ref p], upd_same, ?_⟩
          rw [List.take_add_one, er, List.map_append]
          have tk : ∀ o, TK F (upd (upd N p (.tup ((os.map fun o : Ord => r.vals.getD o.1.toNat 0).map V.int))) D2 (.lst o)) := fun o b ys' hb => by
            have nb : b ≠ D2 := fun z => by rw [z, eD2] at hb; cases hb
            rw [upd_ne nb]
            exact sP _ _ hb
          exact ints_add ⟨p, rfl, by rw [upd_ne hpD]; exact upd_same⟩ (ints_up (tk _) hys)
      · obtain ⟨sF, ys, eD2, hys⟩ := hF
        rw [List.take_of_length_le (by rw [List.length_map, List.length_map]; exact Nat.le_refl _)] at hys
        have := ints_dxs hys
        rw [List.map_map] at this
        have nD0 : H D2 = none := by
          cases e : H D2 with
          | none => rfl
          | some o => rw [sM _ _ e] at nD2; cases nD2
        exact q F D2 ys (sM.trans sF) nD0 eD2 this
end
end Z1

set_option maxRecDepth 100000
set_option maxHeartbeats 4000000
namespace Z1
open PySem PySem.Spec PyProof.Rows L2 KX
/-! ### longer orders, reversed orders -/
theorem key_le {os : List Ord} {a b : Rec} (h : PySem.W.dataLe false (keyR os) a b = true) : ¬ keyI os b.vals < keyI os a.vals := fun z => by
  rw [srt_le] at h
  have e : lawR os b a = true := by
    show lawI os b.nm b.vals a.nm a.vals = true
    rw [← prec_law, precI_key, if_neg (fun y => by rw [y] at z; exact absurd z (List.lt_irrefl _))]
    exact decide_eq_true z
  rw [e] at h
  cases h
theorem srt_key (os : List Ord) (rs : List Rec) : (srt os rs).Pairwise fun a b => ¬ keyI os b.vals < keyI os a.vals :=
  (PySem.W.sort_pairwise (PySem.W.sortLe_total _ _ _) _).imp fun h => key_le h
def kf : List Ord → List Int → List Int
  | o :: os, x :: xs => (if o.2 = ("asc" : Str) then x else -x) :: kf os xs
  | _, _ => []
theorem kf_vals (zs : List Int) : ∀ os : List Ord, kf os (ordVals os zs) = keyI os zs
  | [] => rfl
  | o :: os => by
    show (if o.2 = ("asc" : Str) then zs.getD o.1.toNat 0 else - zs.getD o.1.toNat 0) :: kf os (ordVals os zs) = _
    rw [kf_vals zs os]
    rfl
theorem kf_inj : ∀ {os : List Ord} {xs ys : List Int}, xs.length = os.length → ys.length = os.length → kf os xs = kf os ys → xs = ys
  | [], xs, ys, h1, h2, _ => by rw [List.length_eq_zero_iff.mp h1, List.length_eq_zero_iff.mp h2]
  | o :: os, x :: xs, y :: ys, h1, h2, h => by
    simp only [kf, List.cons.injEq] at h
    rw [kf_inj (by simpa using h1) (by simpa using h2) h.2]
    have := h.1
    split at this
    · rw [this]
    · rw [show x = y by omega]
  | o :: os, [], _, h1, _, _ => by simp at h1
  | o :: os, _ :: _, [], _, h2, _ => by simp at h2
theorem lex_pre : ∀ {a1 b1 a2 b2 : List Int}, a1.length = b1.length → a1 < b1 → a1 ++ a2 < b1 ++ b2
  | [], [], _, _, _, h => absurd h (List.lt_irrefl _)
  | x :: a1, y :: b1, a2, b2, hl, h => by
    rw [List.cons_append, List.cons_append, List.cons_lt_cons_iff]
    rcases List.cons_lt_cons_iff.mp h with z | ⟨z, w⟩
    · exact .inl z
    · exact .inr ⟨z, lex_pre (by simpa using hl) w⟩
  | [], _ :: _, _, _, hl, _ => by simp at hl
  | _ :: _, [], _, _, hl, _ => by simp at hl
theorem keyI_len (os : List Ord) (zs : List Int) : (keyI os zs).length = os.length := by
  unfold keyI
  rw [List.length_map]
theorem vals_len (os : List Ord) (zs : List Int) : (ordVals os zs).length = os.length := by
  unfold ordVals
  rw [List.length_map]
theorem keyI_app (os ps : List Ord) (zs : List Int) : keyI (os ++ ps) zs = keyI os zs ++ keyI ps zs := by
  unfold keyI
  rw [List.map_append]
theorem key_pre {os ps : List Ord} {x y : List Int} (h : ¬ keyI (os ++ ps) y < keyI (os ++ ps) x) : ¬ keyI os y < keyI os x := fun z => by
  rw [keyI_app, keyI_app] at h
  exact h (lex_pre (by rw [keyI_len, keyI_len]) z)
theorem ints_anti {a b : List Int} (h1 : ¬ a < b) (h2 : ¬ b < a) : a = b := List.le_antisymm (List.not_lt.mp h2) (List.not_lt.mp h1)
theorem vals_eq {os : List Ord} {as bs rs : List Rec} (pa : as.Perm rs) (pb : bs.Perm rs) (wa : as.Pairwise fun a b => ¬ keyI os b.vals < keyI os a.vals) (wb : bs.Pairwise fun a b => ¬ keyI os b.vals < keyI os a.vals) :
    (as.map fun r : Rec => ordVals os r.vals) = bs.map fun r : Rec => ordVals os r.vals := by
  have w : ∀ {cs : List Rec}, (cs.Pairwise fun a b => ¬ keyI os b.vals < keyI os a.vals) → (cs.map fun r : Rec => ordVals os r.vals).Pairwise fun u v => (u.length = os.length ∧ v.length = os.length) ∧ ¬ kf os v < kf os u := fun {cs} h => by
    rw [List.pairwise_map]
    exact h.imp fun z => ⟨⟨vals_len _ _, vals_len _ _⟩, by rw [kf_vals, kf_vals]; exact z⟩
  refine List.Perm.eq_of_pairwise (le := fun u v => (u.length = os.length ∧ v.length = os.length) ∧ ¬ kf os v < kf os u) (fun u v _ _ h1 h2 => kf_inj h1.1.1 h1.1.2 (ints_anti h2.2 h1.2)) (w wa) (w wb) ((pa.trans pb.symm).map _)
theorem vals_pre (os ps : List Ord) (rs : List Rec) : ((srt (os ++ ps) rs).map fun r : Rec => ordVals os r.vals) = (srt os rs).map fun r : Rec => ordVals os r.vals :=
  vals_eq (List.mergeSort_perm _ _) (List.mergeSort_perm _ _) ((srt_key (os ++ ps) rs).imp fun h => key_pre h) (srt_key os rs)
/-- the other way round -/
def flipO (o : Ord) : Ord := (o.1, if o.2 = ("asc" : Str) then "desc" else "asc")
def neg (l : List Int) : List Int := l.map fun x => -x
theorem key_flip (zs : List Int) (os : List Ord) : keyI (os.map flipO) zs = neg (keyI os zs) := by
  unfold keyI neg
  rw [List.map_map, List.map_map]
  refine List.map_congr_left fun o _ => ?_
  show (if (if o.2 = ("asc" : Str) then ("desc" : Str) else "asc") = "asc" then zs.getD o.1.toNat 0 else - zs.getD o.1.toNat 0) = -(if o.2 = ("asc" : Str) then zs.getD o.1.toNat 0 else - zs.getD o.1.toNat 0)
  by_cases h : o.2 = ("asc" : Str)
  · rw [if_pos h, if_pos h, if_neg (by decide +kernel)]
  · rw [if_neg h, if_neg h, if_pos rfl, Int.neg_neg]
theorem neg_lt : ∀ {a b : List Int}, a.length = b.length → a < b → neg b < neg a
  | [], [], _, h => absurd h (List.lt_irrefl _)
  | x :: a, y :: b, hl, h => by
    show -y :: neg b < -x :: neg a
    rw [List.cons_lt_cons_iff]
    rcases List.cons_lt_cons_iff.mp h with z | ⟨z, w⟩
    · exact .inl (by omega)
    · exact .inr ⟨by rw [z], neg_lt (by simpa using hl) w⟩
  | [], _ :: _, hl, _ => by simp at hl
  | _ :: _, [], hl, _ => by simp at hl
theorem vals_rev (os : List Ord) (rs : List Rec) : ((srt (os.map flipO) rs).map fun r : Rec => ordVals os r.vals) = ((srt os rs).map fun r : Rec => ordVals os r.vals).reverse := by
  have e : (srt (os.map flipO) rs).reverse.map (fun r : Rec => ordVals os r.vals) = (srt os rs).map fun r : Rec => ordVals os r.vals := by
    refine vals_eq ((List.reverse_perm _).trans (List.mergeSort_perm _ _)) (List.mergeSort_perm _ _) ?_ (srt_key os rs)
    rw [List.pairwise_reverse]
    refine (srt_key (os.map flipO) rs).imp fun {a b} h z => h ?_
    rw [key_flip, key_flip]
    exact neg_lt (by rw [keyI_len, keyI_len]) z
  rw [← e, List.map_reverse, List.reverse_reverse]
theorem flip_ok {w : Int} {os : List Ord} (h : OrdOk w os) : OrdOk w (os.map flipO) := by
  refine ⟨by rw [List.length_map]; exact h.le, ?_, fun o ho => ?_⟩
  · rw [List.map_map]
    exact h.nd
  · obtain ⟨p, hp, rfl⟩ := List.mem_map.mp ho
    obtain ⟨a, b, _⟩ := h.all p hp
    refine ⟨a, b, ?_⟩
    show (if p.2 = ("asc" : Str) then ("desc" : Str) else "asc") = "asc" ∨ (if p.2 = ("asc" : Str) then ("desc" : Str) else "asc") = "desc"
    split
    · exact .inr rfl
    · exact .inl rfl
theorem pre_ok {w : Int} {os : List Ord} (h : OrdOk w os) (k : Nat) : OrdOk w (os.take k) := by
  refine ⟨Nat.le_trans (by rw [List.length_take]; exact Nat.min_le_right _ _) h.le, ?_, fun o ho => h.all o (List.mem_of_mem_take ho)⟩
  rw [List.map_take]
  exact h.nd.sublist (List.take_sublist _ _)
end Z1

set_option maxRecDepth 100000
set_option maxHeartbeats 4000000
namespace Z1
open PySem PySem.Spec PyProof.Rows L2 KX
/-! ### _law_prefixes_match -/
abbrev sPM : Stmt := topS 50
abbrev NP : List Str := ["stream", "rowset", "order", "width", "rest", "longer", "names", "values", "prefix", "prefix_values", "reverse", "column", "pair", "way"]
theorem scPM : FnScope NP ["stream", "rowset", "order", "width"] (defScope sPM) := ⟨rfl, rfl, rfl, by decide +kernel, rfl, by decide +kernel, by decide +kernel⟩
abbrev scPi : Scope := { kind := .function, names := [(".0", .local), ("column", .local), ("order", .cell)], isGenerator := false, isCoroutine := false }
theorem flat_int (ns : List Int) : (ns.map V.int).all flatV = true := by
  rw [List.all_map]
  exact List.all_eq_true.mpr fun b _ => rfl
theorem in_int (x : Int) (ns : List Int) : inV (.int x) (ns.map V.int) = decide (x ∈ ns) := by
  unfold inV
  rw [List.any_map]
  by_cases h : x ∈ ns
  · rw [decide_eq_true h]
    refine List.any_eq_true.mpr ⟨x, h, ?_⟩
    show decide (x = x) = true
    simp
  · rw [decide_eq_false h]
    refine List.any_eq_false.mpr fun y hy z => h ?_
    have : y = x := of_decide_eq_true z
    rw [← this]
    exact hy
theorem hole : ∀ (n : Nat) (l : List Int), l.Nodup → (∀ k ∈ l, 0 ≤ k ∧ k < (n : Int)) → l.length ≤ n
  | 0, [], _, _ => Nat.le_refl _
  | 0, k :: l, _, h => by
    have := h k (by simp)
    omega
  | n + 1, l, nd, h => by
    have h2 := hole n (l.erase (n : Int)) (nd.erase _) fun k hk => by
      obtain ⟨a, b⟩ := (nd.mem_erase_iff).mp hk
      obtain ⟨c, d⟩ := h k b
      exact ⟨c, by omega⟩
    by_cases z : (n : Int) ∈ l
    · rw [List.length_erase_of_mem z] at h2
      omega
    · rw [List.erase_of_not_mem z] at h2
      omega
/-- the columns that the order leaves -/
def restL (os : List Ord) (n : Nat) : List Int := ((List.range n).map fun j : Nat => (j : Int)).filter fun c => !decide (c ∈ os.map (·.1))
theorem rest_mem {os : List Ord} {n : Nat} {c : Int} (h : c ∈ restL os n) : 0 ≤ c ∧ c < (n : Int) ∧ c ∉ os.map (·.1) := by
  obtain ⟨h1, h2⟩ := List.mem_filter.mp h
  obtain ⟨j, hj, rfl⟩ := List.mem_map.mp h1
  have := List.mem_range.mp hj
  exact ⟨by omega, by omega, by simpa using h2⟩
theorem rest_nd (os : List Ord) (n : Nat) : (restL os n).Nodup := by
  refine List.Nodup.sublist (List.filter_sublist) ?_
  rw [List.nodup_iff_pairwise_ne, List.pairwise_map]
  exact (List.nodup_iff_pairwise_ne.mp List.nodup_range).imp fun h z => h (by omega)
theorem rest_snoc (os : List Ord) (n : Nat) : restL os (n + 1) = restL os n ++ if decide ((n : Int) ∈ os.map (·.1)) = true then [] else [(n : Int)] := by
  unfold restL
  rw [List.range_succ, List.map_append, List.filter_append]
  congr 1
  by_cases h : (n : Int) ∈ os.map (·.1)
  · rw [if_pos (decide_eq_true h)]
    simp only [List.map_cons, List.map_nil, List.filter_cons, decide_eq_true h]
    rfl
  · rw [if_neg (by simpa using h)]
    simp only [List.map_cons, List.map_nil, List.filter_cons, decide_eq_false h]
    rfl
theorem longer_ok {w w0 : Int} {os ps : List Ord} {n : Nat} (ew : w0 = (n : Int)) (h : OrdOk w0 os) (hw : w0 ≤ w) (w4 : w0 ≤ 4) (e : ps.map (·.1) = restL os n) (hd : ∀ p ∈ ps, dirW p.2) : OrdOk w (os ++ ps) := by
  have nd : ((os ++ ps).map (·.1)).Nodup := by
    rw [List.map_append, e, List.nodup_append]
    exact ⟨h.nd, rest_nd _ _, fun a ha b hb z => (rest_mem hb).2.2 (z ▸ ha)⟩
  have all : ∀ o ∈ os ++ ps, 0 ≤ o.1 ∧ o.1 < w0 ∧ dirW o.2 := fun o ho => by
    rcases List.mem_append.mp ho with ho | ho
    · exact h.all o ho
    · have m : o.1 ∈ restL os n := by rw [← e]; exact List.mem_map.mpr ⟨o, ho, rfl⟩
      obtain ⟨a, b, _⟩ := rest_mem m
      exact ⟨a, by omega, hd o ho⟩
  refine ⟨?_, nd, fun o ho => ?_⟩
  · have := hole n _ nd fun k hk => by
      obtain ⟨o, ho, rfl⟩ := List.mem_map.mp hk
      obtain ⟨a, b, _⟩ := all o ho
      exact ⟨a, by omega⟩
    rw [List.length_map] at this
    omega
  · obtain ⟨a, b, c⟩ := all o ho
    exact ⟨a, by omega, c⟩
theorem catA_any {K : PySem.W.Frag} {c p : Addr} {xs ys : List V} {N : Hp} {Q : VK} (ec : N c = some (.tup xs)) (ep : N p = some (.tup ys)) (hl : xs.length + ys.length ≤ sizeLine) (h : ∀ H' z, Same N H' → H' z = some (.tup (xs ++ ys)) → Q (.ref z) H') : rCatA K (.ref c) (.ref p) N Q := by
  refine ⟨c, p, xs, ys, rfl, rfl, .inl (.inl ec), .inl (.inl ep), hl, fun z => ?_, fun _ z => ?_, fun _ _ q nq => h _ q (same_new nq) upd_same⟩
  · subst z
    exact h N p (Same.refl N) (by rw [List.nil_append]; exact ep)
  · subst z
    exact h N c (Same.refl N) (by rw [List.append_nil]; exact ec)
theorem dxs_ext {H H' : Hp} (e : LamX.ExtN H H') : ∀ {vs : List V} {ds : List PyData}, Dxs H vs ds → Dxs H' vs ds
  | [], [], _ => .nil
  | v :: vs, d :: ds, h => by
    cases h with
    | cons h t => exact .cons (h.ext e) (dxs_ext e t)
theorem noL_strs : ∀ ns : List Str, noLs (ns.map .str) = true
  | [] => by simp [noLs]
  | n :: ns => by simp [noLs, noL, noL_strs ns]
theorem noL_vals : ∀ zs : List (List Int), noLs (zs.map encVals) = true
  | [] => by simp [noLs]
  | z :: zs => by simp [noLs, noL, encVals, noL_ints, noL_vals zs]
theorem nms_hid {l : Addr} {H : Hp} {v : V} {ns : List Str} (st : StO H l) (h : Dx H v (.tuple (ns.map .str))) : Dx (hid l H) v (.tuple (ns.map .str)) := by
  obtain ⟨a, b, c, e⟩ := st
  exact dx_noL e _ _ (by simp only [noL]; exact noL_strs ns) h
theorem vals_hid {l : Addr} {H : Hp} {vs : List V} {zs : List (List Int)} (st : StO H l) (h : Dxs H vs (zs.map encVals)) : Dxs (hid l H) vs (zs.map encVals) := by
  obtain ⟨a, b, c, e⟩ := st
  exact dxs_noL e _ _ (noL_vals zs) h
theorem pl_vals : ∀ zs : List (List Int), PyData.plainAll (zs.map encVals) = true
  | [] => by simp [PyData.plainAll]
  | z :: zs => by
    have h : PyData.plainAll (z.map PyData.int) = true := by
      induction z with
      | nil => simp [PyData.plainAll]
      | cons x z ih => simp [PyData.plainAll, PyData.plain, ih]
    simp [PyData.plainAll, encVals, PyData.plain, h, pl_vals zs]
theorem dep_vals : ∀ zs : List (List Int), PyData.depthAll (zs.map encVals) ≤ 1
  | [] => by simp [PyData.depthAll]
  | z :: zs => by
    have h := dep_vals zs
    simp only [List.map_cons, PyData.depthAll, encVals, PyData.depth, PySem.W.depth_ints]
    omega
theorem eqv_valsL : ∀ zs : List (List Int), PyData.eqvAll (zs.map encVals) (zs.map encVals) = true
  | [] => by simp [PyData.eqvAll]
  | z :: zs => by simp [PyData.eqvAll, PyData.eqv, encVals, eqv_ints, eqv_valsL zs]
theorem lst_vals {K : PySem.W.Frag} {F : Hp} {q : Addr} {ws : List V} {zs : List (List Int)} (e : F q = some (.lst ws)) (h : Dxs F ws (zs.map encVals)) : Dp K F (.ref q) (.list (zs.map encVals)) := .lst (.inl (.inl e)) (dps_dx _ _ (pl_vals zs) h)
theorem eqv_vals (zs : List (List Int)) : PyData.eqv (.list (zs.map encVals)) (.list (zs.map encVals)) = true := by
  simp only [PyData.eqv]
  exact eqv_valsL zs
theorem plain_vals (zs : List (List Int)) : (PyData.list (zs.map encVals)).plain = true := by simpa [PyData.plain] using pl_vals zs
theorem depth_vals (zs : List (List Int)) : (PyData.list (zs.map encVals)).depth ≤ 64 := by
  have := dep_vals zs
  simp only [PyData.depth]
  omega
theorem tv2 {sp : Sp} {σ : L2.St} {i j : Nat} {v1 v2 : V} {H : Hp} {Q : VK} (h1 : σ[i]? = some (some v1)) (h2 : σ[j]? = some (some v2)) (h : sp [v1, v2] H Q E0) : tCall sp [] E0 (tCons (tVar i) (tCons (tVar j) tNil)) σ H Q := ⟨v1, h1, v2, h2, h⟩
theorem tvvc {sp : Sp} {σ : L2.St} {i j : Nat} {v1 v2 : V} {t3 : TE} {H : Hp} {Q : VK} (h1 : σ[i]? = some (some v1)) (h2 : σ[j]? = some (some v2)) (h : t3 σ H fun v3 H1 => sp [v1, v2, v3] H1 Q E0) : tCall sp [] E0 (tCons (tVar i) (tCons (tVar j) (tCons t3 tNil))) σ H Q := ⟨v1, h1, v2, h2, h⟩
theorem cutV_to (xs : List V) (n : Nat) : cutV xs none (some (n : Int)) = xs.take n := by
  unfold cutV
  rw [HT.sIx_none, HT.sIx_nat, Nat.sub_zero, List.drop_zero]
  rcases Nat.le_total n xs.length with h | h
  · rw [Nat.min_eq_left h]
  · rw [Nat.min_eq_right h, List.take_of_length_le (Nat.le_refl _), List.take_of_length_le h]
theorem slA_pre {K : PySem.W.Frag} {c : Addr} {xs : List V} {n : Nat} {N : Hp} {Q : VK} (ec : N c = some (.tup xs)) (h : ∀ H' z, Same N H' → H' z = some (.tup (xs.take n)) → Q (.ref z) H') : rSlA K (.ref c) none (some (n : Int)) N Q := by
  refine ⟨c, xs, rfl, .inl (.inl ec), fun hw => h N c (Same.refl N) ?_, fun _ p np => h _ p (same_new np) (by rw [cutV_to]; exact upd_same)⟩
  have z := hw.2
  rw [HT.sIx_nat] at z
  rw [List.take_of_length_le (by omega)]
  exact ec
theorem dxs_rev {H : Hp} {vs : List V} {ds : List PyData} (h : Dxs H vs ds) : Dxs H vs.reverse ds.reverse := by
  induction vs generalizing ds with
  | nil => cases h; exact .nil
  | cons v vs ih =>
    cases h with
    | cons h t =>
      rw [List.reverse_cons, List.reverse_cons]
      exact (ih t).app (.cons h .nil)
/-- a call of sorted_names that must succeed -/
theorem sn_call {RA OA P0 : Addr} {H : Hp} {v ov : V} {rs : List Rec} {os : List Ord} {Q : VK} {E : XK} (ht : LamX.Tabs (TS P0) H) (hd : Dx H v (.tuple (rs.map encR))) (ho : Dx H ov (.tuple (os.map encO))) (g : HG rs os)
    (q : ∀ (H' : Hp) (p : Addr), LamX.ExtN H H' → LamX.Tabs (TS P0) H' → Dx H' (.ref p) (.tuple ((srtNm os rs).map .str)) → Q (.ref p) H') : spSN RA OA P0 [v, ov] H Q E := by
  refine ⟨v, ov, _, _, rfl, ht, hd, g.sm, ho, ord_okO, fun h => absurd h (by rw [rsok_true g.ok]; simp), fun rs' e ok => ?_⟩
  have e := recs_inj e
  subst e
  refine ⟨fun h => absurd h (by rw [ord_true g.oo]; simp), fun os' e2 oo => ?_⟩
  have e2 := ords_inj (PyData.tuple.inj e2)
  subst e2
  exact q
/-- the values of the sorted rows at the order's columns -/
theorem cv_call {H : Hp} {v ov nv : V} {rs : List Rec} {os os2 : List Ord} {Q : VK} {E : XK} (hd : Dx H v (.tuple (rs.map encR))) (ho : Dx H ov (.tuple (os.map encO))) (hn : Dx H nv (.tuple ((srtNm os2 rs).map .str))) (g : HG rs os)
    (q : ∀ (H' : Hp) (p : Addr) (ys : List V), Same H H' → H p = none → H' p = some (.lst ys) → Dxs H' ys (((srt os2 rs).map fun r : Rec => ordVals os r.vals).map encVals) → Q (.ref p) H') : spCV [v, ov, nv] H Q E := by
  have ls : (srt os2 rs).length = rs.length := List.length_mergeSort _
  have l60 := g.ok.le
  refine ⟨v, ov, nv, rs, srt os2 rs, os, widthI rs, rfl, hd, ho, hn, g.ro, g.nd, fun r hr => List.mem_mergeSort.mp hr, by omega, fun H' p ys s n e h => q H' p ys s n e ?_⟩
  rw [List.map_map]
  exact h
theorem HG.with {rs : List Rec} {os os2 : List Ord} (h : HG rs os) (o : OrdOk (widthI rs) os2) : HG rs os2 := ⟨h.ok, h.nd, o, h.f⟩
def spPM (P0 : Addr) : Sp := fun vs H Q _ => ∃ (l : Addr) (v ov : V) (rs : List Rec) (os : List Ord) (w : Int), vs = [.ref l, v, ov, .int w] ∧ StO H l ∧ LamX.Tabs (TS P0) H ∧ Dx (hid l H) v (.tuple (rs.map encR)) ∧ Dx (hid l H) ov (.tuple (os.map encO)) ∧ HG rs os ∧ OrdOk w os ∧ 1 ≤ w ∧ w ≤ 4 ∧ w ≤ widthI rs ∧
  ∀ H', LamX.ExtN (hid l H) (hid l H') → StO H' l → LamX.Tabs (TS P0) H' → Q (.bl true) H'
section
variable {P : Program} {w : World} {K : PySem.W.Frag} {mg : Str → Option Value} {base : Heap}
theorem ok_pm {k : Nat} {RA OA P0 f fD fS fV : Addr} {fd fdD fdS fdV : FuncData} (B : Bl mg) (D : Df K mg "_law_prefixes_match" sPM ["stream", "rowset", "order", "width"] f fd) (DD : Df K mg "_law_draw" sDraw ["stream", "total"] fD fdD) (DS : Df K mg "sorted_names" sSN ["rowset", "order"] fS fdS) (DV : Df K mg "_law_column_values" sCV ["rowset", "order", "names"] fV fdV)
    (GD : FnOk P w K mg base CX0 k fD fdD ["stream", "total"] spDraw) (GS : FnOk P w K mg base (L2.CX P w) k fS fdS ["rowset", "order"] (spSN RA OA P0)) (GV : FnOk P w K mg base CX0 k fV fdV ["rowset", "order", "names"] spCV) : FnOk P w K mg base CX0 (k + 1) f fd ["stream", "rowset", "order", "width"] (spPM P0) := by
  refine D.F.ok scPM (fun vs H Q E h => ?_) (fun cdv A outer s H vs Q E hr h => ?_)
  · obtain ⟨l, v, ov, rs, os, wi, rfl, _⟩ := h
    rfl
  · obtain ⟨l, v, ov, rs, os, wi, rfl, st, ht, hd, ho, g, oo, w1, w4, hww, q⟩ := h
    have nd := scPM.nd
    refine ⟨_, pss_cons (ps_setLc (i := 4) (own := [("column", 11)]) (g := gName 11) (by rfl) nd rfl rfl (sw_true rfl rfl rfl (by decide +kernel)) (pi_range1 (by rfl) B.range (pa_cons (pv 3) pa_nil)) (blkOk_by (N := NP) (sc := defScope sPM) (by decide +kernel)) (fun _ _ _ _ _ => pg_name (i := 11) nd rfl (Or.inl rfl))
          (fun _ _ _ _ _ => pts_one (pt_cmpR (r := rIn K true) op_notIn_seq (pv 11) (pe_lc (own := [("pair", 12)]) (wi := iTup K (tVar 2)) (g := gName 12) rfl nd (pi_tup (pv 2)) (blkOk_by (N := NP) (sc := scPi) (by decide +kernel)) (fun _ _ _ _ _ => pg_name (i := 12) nd rfl (Or.inl rfl)) (fun _ _ _ _ _ => pts_nil)
            (fun _ _ _ _ _ => pe_ix (r := rIxT K) ix_tup (pv 12) pe_int (fun _ _ => rfl))) (by rfl)))
          (fun _ _ _ _ _ => pv 11))
      (pss_cons (ps_set (i := 5) nd rfl (.inl rfl) (pe_op op_catA (pv 2) (pe_callTy call_tuple_of (by rfl) B.tuple (by decide +kernel) (pa_cons (pe_lc (own := [("column", 11)]) (g := gName 11) rfl nd (pi_list (pv 4)) (blkOk_by (N := NP) (sc := defScope sPM) (by decide +kernel)) (fun _ _ _ _ _ => pg_name (i := 11) nd rfl (Or.inl rfl)) (fun _ _ _ _ _ => pts_nil)
          (fun _ _ _ _ _ => pe_tup (pa_cons (pv 11) (pa_cons (pe_ix (r := rIxL K) ix_list (pe_lst (pa_cons pe_str (pa_cons pe_str pa_nil))) (pe_call GD hr (by rfl) DD.g DD.F.kp DD.b .nil pass0 (pa_cons (pv 0) (pa_cons pe_int pa_nil))) (fun _ _ => rfl)) pa_nil)))) pa_nil))))
      (pss_cons (ps_set (i := 6) nd rfl (.inl rfl) (pe_call GS hr (by rfl) DS.g DS.F.kp DS.b .nil passL (pa_cons (pv 1) (pa_cons (pv 2) pa_nil))))
      (pss_cons (ps_set (i := 7) nd rfl (.inl rfl) (pe_call GV hr (by rfl) DV.g DV.F.kp DV.b .nil pass0 (pa_cons (pv 1) (pa_cons (pv 2) (pa_cons (pv 6) pa_nil)))))
      (pss_cons (ps_if (pt_cmpR (op_neP hr.units) (pe_call GV hr (by rfl) DV.g DV.F.kp DV.b .nil pass0 (pa_cons (pv 1) (pa_cons (pv 2) (pa_cons (pe_call GS hr (by rfl) DS.g DS.F.kp DS.b .nil passL (pa_cons (pv 1) (pa_cons (pv 5) pa_nil))) pa_nil)))) (pv 7) (nomark _)) (pss_one (ps_ret pe_bl)) pss_nil)
      (pss_cons (ps_set (i := 8) nd rfl (.inl rfl) (pe_slice sl_tupA (pv 2) po_none (po_some (pe_call GD hr (by rfl) DD.g DD.F.kp DD.b .nil pass0 (pa_cons (pv 0) (pa_cons (pe_op op_add (pe_callB (call_lenK (K := K) rfl) (by rfl) B.len PySem.boot_len (pa_cons (pv 2) pa_nil)) pe_int) pa_nil))))))
      (pss_cons (ps_set (i := 9) nd rfl (.inl rfl) (pe_call GV hr (by rfl) DV.g DV.F.kp DV.b .nil pass0 (pa_cons (pv 1) (pa_cons (pv 8) (pa_cons (pe_call GS hr (by rfl) DS.g DS.F.kp DS.b .nil passL (pa_cons (pv 1) (pa_cons (pv 8) pa_nil))) pa_nil)))))
      (pss_cons (ps_if (pt_cmpR (op_neP hr.units) (pe_call GV hr (by rfl) DV.g DV.F.kp DV.b .nil pass0 (pa_cons (pv 1) (pa_cons (pv 8) (pa_cons (pv 6) pa_nil)))) (pv 9) (nomark _)) (pss_one (ps_ret pe_bl)) pss_nil)
      (pss_cons (ps_set (i := 10) nd rfl (.inl rfl) (pe_callTy call_tuple_of (by rfl) B.tuple (by decide +kernel) (pa_cons (pe_lc (own := [("column", 11), ("way", 13)]) (g := gTup K 2 (gCons (gName 11) (gCons (gName 13) gNil))) rfl nd (pi_tup (pv 2)) (blkOk_by (N := NP) (sc := defScope sPM) (by decide +kernel)) (fun _ _ _ _ _ => pg_tup (by rfl) (pgs_cons (pg_name (i := 11) nd rfl (Or.inl rfl)) (pgs_cons (pg_name (i := 13) nd rfl (Or.inl rfl)) pgs_nil))) (fun _ _ _ _ _ => pts_nil)
          (fun _ _ _ _ _ => pe_tup (pa_cons (pv 11) (pa_cons (pe_ifExp (pt_cmpR op_eq (pv 13) pe_str (nomark _)) pe_str pe_str) pa_nil)))) pa_nil)))
      (pss_one (ps_ret (pe_cmpR (op_eqP hr.units) (pe_call GV hr (by rfl) DV.g DV.F.kp DV.b .nil pass0 (pa_cons (pv 1) (pa_cons (pv 2) (pa_cons (pe_call GS hr (by rfl) DS.g DS.F.kp DS.b .nil passL (pa_cons (pv 1) (pa_cons (pv 10) pa_nil))) pa_nil)))) (pe_revL (pv 7)) (nomark _)))))))))))), ?_⟩
    obtain ⟨wn, rfl⟩ : ∃ wn : Nat, wi = (wn : Int) := ⟨wi.toNat, by omega⟩
    obtain ⟨c, cs, rfl, ec', hcs⟩ := dx_tup' ho
    obtain ⟨nc, ec⟩ := hid_some ec'
    have lcs := hcs.len
    rw [List.length_map] at lcs
    have l4 := oo.le
    have big : (1000 : Nat) < sizeLine := by decide
    -- rest
    refine ⟨.int (wn : Int), rfl, (wn : Int), rfl, by omega, by omega, fun L1 nL1 => ?_⟩
    refine lc_range (lo := 0) (n := wn) (fun i G => Same H G ∧ G L1 = some (.lst ((restL os i).map V.int))) ⟨same_new nL1, upd_same⟩ (fun i G hi hG => ?_) (fun G hG => ?_)
    · obtain ⟨sG, eL⟩ := hG
      refine ⟨rfl, .int (0 + (i : Int)), rfl, .ref c, rfl, c, rfl, ⟨_, .inl (.inl (sG _ _ ec))⟩, fun D2 nD2 => ?_⟩
      refine lc_tup (xs := cs) (fun k N => Same G N ∧ N D2 = some (.lst (((os.take k).map (·.1)).map V.int))) ⟨same_new nD2, upd_same⟩ (fun k N _ hN => .inl (.inl (hN.1 _ _ (sG _ _ ec)))) (fun k y N hyk hN => ?_) (fun N hN => ?_)
      · obtain ⟨sN, eD2⟩ := hN
        obtain ⟨dy, edy, hdy⟩ := hcs.get' hyk
        rw [List.getElem?_map] at edy
        obtain ⟨o, eo, rfl⟩ := Option.map_eq_some_iff.mp edy
        have kk : k < os.length := (List.getElem?_eq_some_iff.mp eo).1
        have hdy2 := (hdy.up (hid_same l H)).up (sG.trans sN)
        cases hdy2 with
        | @tup py pys _ epy hpy =>
        match pys, hpy, epy with
        | [vc, vy], .cons hc1 (.cons hy1 .nil), epy =>
        cases hc1
        cases hy1
        refine ⟨rfl, .ref py, rfl, py, _, 0, .int o.1, rfl, rfl, .inl (.inl epy), rfl, _, eD2, ?_, same_at sN nD2, ?_⟩
        · rw [List.length_map, List.length_map, List.length_take]
          omega
        · rw [upd_same, List.take_add_one, eo, List.map_append, List.map_append]
          rfl
      · obtain ⟨sN, eD2⟩ := hN
        rw [List.take_of_length_le (by omega)] at eD2
        refine ⟨D2, _, rfl, .inl (.inl (.inl eD2)), rfl, flat_int _, _, rfl, ?_⟩
        rw [show (if true = true then !inV (.int (0 + (i : Int))) ((os.map (·.1)).map V.int) else inV (.int (0 + (i : Int))) ((os.map (·.1)).map V.int)) = !decide ((i : Int) ∈ os.map (·.1)) by rw [if_pos rfl, in_int, Int.zero_add]]
        have er := rest_snoc os i
        by_cases hin : (i : Int) ∈ os.map (·.1)
        · rw [decide_eq_true hin] at er ⊢
          rw [if_pos rfl, List.append_nil] at er
          exact iteF ⟨sG.trans sN, by rw [er]; exact sN _ _ eL⟩
        · rw [decide_eq_false hin] at er ⊢
          rw [if_neg (by simp)] at er
          refine iteT ⟨.int (0 + (i : Int)), rfl, _, sN _ _ eL, ?_, same_at (sG.trans sN) nL1, ?_⟩
          · have hl : (restL os i).length ≤ i := by
              unfold restL
              refine Nat.le_trans (List.length_filter_le _ _) ?_
              rw [List.length_map, List.length_range]
              exact Nat.le_refl _
            rw [List.length_map]
            omega
          · rw [upd_same, er, List.map_append, Int.zero_add]
            rfl
    · obtain ⟨sG, eL⟩ := hG
      have keG : Keep l H G := Keep.of sG
      have stG := st.same sG
      have hLl : L1 ≠ l := st.ne nL1
      have hdG := hd.up keG.same
      have tG := tabs_same sG ht
      clear nL1
      refine gn_to (σ' := ([some (.ref l), some v, some (.ref c), some (.int (wn : Int)), some (.ref L1), none, none, none, none, none, none, none, none, none] : L2.St)) rfl ?_
      dsimp only
      -- longer
      refine ⟨.ref c, rfl, .ref L1, rfl, L1, rfl, ⟨_, .inl (.inl eL)⟩, fun D nD => ?_⟩
      have hDl : D ≠ l := stG.ne nD
      refine lc_list (xs := (restL os wn).map V.int) (fun i N => Keep l G N ∧ StO N l ∧ ∃ (us : List V) (ps : List Ord), N D = some (.lst us) ∧ Paired (OrdAt N) us ps ∧ ps.map (·.1) = (restL os wn).take i ∧ ∀ p ∈ ps, dirW p.2)
        ⟨(Keep.refl l G).new nD, stG.new nD, [], [], upd_same, .nil, rfl, by simp⟩ (fun i N _ hN => .inl (.inl (hN.1 _ _ hLl eL))) (fun i x N hxi hN => ?_) (fun N hN => ?_)
      · obtain ⟨kN, sN, us, ps, eD, hp, e1, hdir⟩ := hN
        rw [List.getElem?_map] at hxi
        obtain ⟨col, ecol, rfl⟩ := Option.map_eq_some_iff.mp hxi
        have il : i < (restL os wn).length := (List.getElem?_eq_some_iff.mp ecol).1
        have rl : (restL os wn).length ≤ wn := by
          unfold restL
          refine Nat.le_trans (List.length_filter_le _ _) ?_
          rw [List.length_map, List.length_range]
          exact Nat.le_refl _
        have lus : us.length ≤ i := by
          rw [Paired.length hp, ← List.length_map (f := fun o : Ord => o.1), e1, List.length_take]
          omega
        refine ⟨rfl, .int col, rfl, by show 2 ≤ sizeLine; decide, fun p np => ⟨.ref l, rfl, l, 2, rfl, sN.new np, by decide, by decide, fun N2 d2 k2 s2 d20 d21 => ?_⟩⟩
        have ep : N2 p = some (.lst [.str "asc", .str "desc"]) := k2 _ _ (sN.ne np) upd_same
        obtain ⟨y, my, ey⟩ := pick (f := V.str) (ns := [("asc" : Str), "desc"]) d20 d21
        have eD2 : N2 D = some (.lst us) := k2 _ _ hDl (same_new np _ _ eD)
        refine ⟨p, _, d2, .str y, rfl, rfl, .inl (.inl ep), ey, by show 2 ≤ sizeLine; decide, fun p6 np6 => ?_⟩
        have hp6 : D ≠ p6 := ne_of_none eD2 np6
        have tk : TK N (upd (upd N2 p6 (.tup [.int col, .str y])) D (.lst (us ++ [.ref p6]))) :=
          (((TK.new np).trans (TK.keep k2 (sN.new np))).trans (TK.new np6)).trans (TK.at (by rw [upd_ne hp6]; exact eD2) fun ys z => by cases z)
        refine ⟨us, by rw [upd_ne hp6]; exact eD2, by omega, ?_, ?_, us ++ [.ref p6], ps ++ [(col, y)], upd_same, ?_, ?_, ?_⟩
        · refine fun b o nb e => ?_
          have nbD : b ≠ D := ne_of_none e nD
          have z2 := k2 _ _ nb (same_new np _ _ (kN _ _ nb e))
          rw [upd_ne nbD, upd_ne (ne_of_none z2 np6)]
          exact z2
        · obtain ⟨a1, a2, a3, e⟩ := s2
          exact ⟨a1, a2, a3, by rw [upd_ne hDl.symm, upd_ne (ne_of_none e np6)]; exact e⟩
        · exact ord_add ⟨p6, rfl, by rw [upd_ne hp6.symm]; exact upd_same⟩ (ord_up tk hp)
        · rw [List.map_append, e1, List.take_add_one, ecol]
          rfl
        · intro q hq
          rcases List.mem_append.mp hq with hq | hq
          · exact hdir q hq
          · rw [List.mem_singleton.mp hq]
            simp at my
            exact my
      · obtain ⟨kN, sN, us, ps, eD, hp, e1, hdir⟩ := hN
        rw [List.take_of_length_le (by rw [List.length_map]; exact Nat.le_refl _)] at e1
        have ool := longer_ok rfl oo hww w4 e1 hdir
        have lps := ool.le
        rw [List.length_append] at lps
        have lus := Paired.length hp
        refine ⟨D, us, rfl, .inl ⟨.inl (.inl eD), fun p2 np2 => ?_⟩⟩
        have ecN : (upd N p2 (.tup us)) c = some (.tup cs) := same_new np2 _ _ (kN _ _ nc (keG _ _ nc ec))
        refine catA_any ecN upd_same (by omega) fun G2 z s2 ez => ?_
        have sN2 := (sN.new (o := .tup us) np2).same s2
        have kG2 : Keep l G G2 := (kN.new np2).trans (Keep.of s2)
        have xL : Dx (hid l G2) (.ref z) (.tuple ((os ++ ps).map encO)) := by
          have hz : z ≠ l := fun y => by
            obtain ⟨a1, a2, a3, e⟩ := sN2
            rw [y, e] at ez
            cases ez
          rw [List.map_append]
          refine .tup (by rw [hid_at hz]; exact ez) (Dxs.app (hcs.up (keG.trans kG2).same) (dxs_ord (ord_up (TK.hid sN2) (ord_up (TK.new np2 |>.trans fun b ys e => s2 _ _ e) hp))))
        refine gn_to (σ' := ([some (.ref l), some v, some (.ref c), some (.int (wn : Int)), some (.ref L1), some (.ref z), none, none, none, none, none, none, none, none] : L2.St)) rfl ?_
        dsimp only
        have t2 := tabs_keep kG2 stG tG
        have hd2 := hdG.up kG2.same
        have ho2 := ho.up (keG.trans kG2).same
        have e0 : LamX.ExtN (hid l H) (hid l G2) := keep_ext (keG.trans kG2)
        clear hp eD ecN np2 nD eL
        have nz : ∀ {N : Hp} {p : Addr}, StO N l → N p = none → p ≠ l := fun st n => st.ne n
        obtain ⟨DV, eDV⟩ : ∃ DV : List (List Int), DV = (srt os rs).map fun r : Rec => ordVals os r.vals := ⟨_, rfl⟩
        -- names
        refine tv2 rfl rfl (sn_call t2 (hd2.up (hid_same l G2)) (ho2.up (hid_same l G2)) g fun G3 pn e3 t3 hn3 => ?_)
        refine gn_to (σ' := ([some (.ref l), some v, some (.ref c), some (.int (wn : Int)), some (.ref L1), some (.ref z), some (.ref pn), none, none, none, none, none, none, none] : L2.St)) rfl ?_
        dsimp only
        have sN3 := sto_ext e3 sN2
        have e03 := e0.trans (ext_hid e3)
        have xn := nms_hid sN3 hn3
        have xd := hd2.ext (ext_hid e3)
        have xo := ho2.ext (ext_hid e3)
        have xl := xL.ext (ext_hid e3)
        clear hn3 hd2 ho2 xL e0 t2 sN2 e3
        -- values
        refine tv3 rfl rfl rfl (cv_call (xd.up (hid_same l G3)) (xo.up (hid_same l G3)) (xn.up (hid_same l G3)) g fun G4 pv ys s4 npv epv hys => ?_)
        rw [← eDV] at hys
        refine gn_to (σ' := ([some (.ref l), some v, some (.ref c), some (.int (wn : Int)), some (.ref L1), some (.ref z), some (.ref pn), some (.ref pv), none, none, none, none, none, none] : L2.St)) rfl ?_
        dsimp only
        have hpl := nz sN3 npv
        have sN4 := sN3.same s4
        have e04 := e03.trans (ext_hid (ext_same s4))
        have xn := xn.ext (ext_hid (ext_same s4))
        have xd := xd.ext (ext_hid (ext_same s4))
        have xo := xo.ext (ext_hid (ext_same s4))
        have xl := xl.ext (ext_hid (ext_same s4))
        have xv := vals_hid sN4 hys
        have t4 := tabs_same s4 t3
        clear hys npv e03 t3 sN3 s4
        -- the longer order
        refine tvvc rfl rfl (tv2 rfl rfl (sn_call t4 (xd.up (hid_same l G4)) (xl.up (hid_same l G4)) (g.with ool) fun G5 p5 e5 t5 h5 => ?_))
        refine cv_call ((xd.up (hid_same l G4)).ext e5) ((xo.up (hid_same l G4)).ext e5) h5 g fun G6 p6 ys6 s6 n6 e6 h6 => ?_
        rw [vals_pre, ← eDV] at h6
        have e46 := e5.trans (ext_same s6)
        have ev6 : G6 pv = some (.lst ys) := e46 _ _ epv fun ps z => by cases z
        have xv := dxs_ext (ext_hid e46) xv
        refine ⟨.ref pv, rfl, _, _, lst_vals e6 h6, lst_vals ev6 (xv.up (hid_same l G6)), plain_vals _, plain_vals _, Nat.le_trans (Nat.min_le_left _ _) (depth_vals _), ?_⟩
        rw [eqv_vals]
        refine ⟨_, rfl, iteF ?_⟩
        unfold L2.tNext
        dsimp only
        have sN6 := sto_ext e46 sN4
        have e06 := e04.trans (ext_hid e46)
        have xn := xn.ext (ext_hid e46)
        have xd := xd.ext (ext_hid e46)
        have xo := xo.ext (ext_hid e46)
        have t6 := tabs_same s6 t5
        clear h6 e6 n6 s6 h5 e5 t5 e46 epv xl t4 e04 sN4
        -- the cut order
        obtain ⟨_, ec6⟩ := hid_some (e06 _ _ ec' fun ps z => by cases z)
        refine ⟨.ref c, rfl, .ref l, rfl, .ref c, rfl, c, cs, rfl, .inr (.inl (.inl ec6)), (cs.length : Int), 1, rfl, rfl, l, (cs.length : Int) + 1, rfl, sN6, by omega, by omega, fun G7 d k7 s7 d0 d1 => ⟨d, rfl, ?_⟩⟩
        obtain ⟨n, rfl⟩ : ∃ n : Nat, d = (n : Int) := ⟨d.toNat, by omega⟩
        have ec7 := k7 _ _ nc ec6
        refine slA_pre ec7 fun G8 z8 s8 ez8 => ?_
        refine gn_to (σ' := ([some (.ref l), some v, some (.ref c), some (.int (wn : Int)), some (.ref L1), some (.ref z), some (.ref pn), some (.ref pv), some (.ref z8), none, none, none, none, none] : L2.St)) rfl ?_
        dsimp only
        have sN8 := s7.same s8
        have k8 : Keep l G6 G8 := k7.trans (Keep.of s8)
        have e08 := e06.trans (keep_ext k8)
        have xn := xn.up k8.same
        have xd := xd.up k8.same
        have xo := xo.up k8.same
        have xv := xv.up k8.same
        have ev8 := k8 _ _ hpl ev6
        have t8 := tabs_keep k8 sN6 t6
        have opre := pre_ok g.oo n
        have xp : Dx (hid l G8) (.ref z8) (.tuple ((os.take n).map encO)) := by
          have hz : z8 ≠ l := fun y => by
            obtain ⟨a1, a2, a3, e⟩ := sN8
            rw [y, e] at ez8
            cases ez8
          rw [List.map_take]
          refine .tup (by rw [hid_at hz]; exact ez8) (Dxs.takeN ?_ n)
          exact dxs_ext e08 hcs
        clear ec6 ec7 s7 s8 k7 e06 ev6 t6 sN6 ez8
        obtain ⟨DP, eDP⟩ : ∃ DP : List (List Int), DP = (srt (os.take n) rs).map fun r : Rec => ordVals (os.take n) r.vals := ⟨_, rfl⟩
        refine tvvc rfl rfl (tv2 rfl rfl (sn_call t8 (xd.up (hid_same l G8)) (xp.up (hid_same l G8)) (g.with opre) fun G9 p9 e9 t9 h9 => ?_))
        refine cv_call ((xd.up (hid_same l G8)).ext e9) ((xp.up (hid_same l G8)).ext e9) h9 (g.with opre) fun G10 p10 ys10 s10 n10 e10 h10 => ?_
        rw [← eDP] at h10
        refine gn_to (σ' := ([some (.ref l), some v, some (.ref c), some (.int (wn : Int)), some (.ref L1), some (.ref z), some (.ref pn), some (.ref pv), some (.ref z8), some (.ref p10), none, none, none, none] : L2.St)) rfl ?_
        dsimp only
        have e810 := e9.trans (ext_same s10)
        have sN10 := sto_ext e810 sN8
        have e010 := e08.trans (ext_hid e810)
        have xn := xn.ext (ext_hid e810)
        have xd := xd.ext (ext_hid e810)
        have xo := xo.ext (ext_hid e810)
        have xp := xp.ext (ext_hid e810)
        have xv := dxs_ext (ext_hid e810) xv
        have ev10 : G10 pv = some (.lst ys) := e810 _ _ ev8 fun ps z => by cases z
        have t10 := tabs_same s10 t9
        clear n10 s10 h9 e9 t9 e810 ev8 t8 e08 sN8 k8
        refine tv3 rfl rfl rfl (cv_call (xd.up (hid_same l G10)) (xp.up (hid_same l G10)) (xn.up (hid_same l G10)) (g.with opre) fun G11 p11 ys11 s11 n11 e11 h11 => ?_)
        have epre : ((srt os rs).map fun r : Rec => ordVals (os.take n) r.vals) = DP := by
          have := vals_pre (os.take n) (os.drop n) rs
          rw [List.take_append_drop] at this
          rw [this, eDP]
        rw [epre] at h11
        refine ⟨.ref p10, rfl, _, _, lst_vals e11 h11, lst_vals (s11 _ _ e10) (h10.up s11), plain_vals _, plain_vals _, Nat.le_trans (Nat.min_le_left _ _) (depth_vals _), ?_⟩
        rw [eqv_vals]
        refine ⟨_, rfl, iteF ?_⟩
        dsimp only
        have sN11 := sN10.same s11
        have e011 := e010.trans (ext_hid (ext_same s11))
        have xd := xd.ext (ext_hid (ext_same s11))
        have xo := xo.ext (ext_hid (ext_same s11))
        have xv := dxs_ext (ext_hid (ext_same s11)) xv
        have ev11 : G11 pv = some (.lst ys) := s11 _ _ ev10
        have t11 := tabs_same s11 t10
        obtain ⟨_, ec11⟩ := hid_some (e011 _ _ ec' fun ps z => by cases z)
        clear h11 e11 n11 s11 e10 h10 ev10 t10 e010 sN10 xn xp
        -- the reversed order
        refine ⟨.ref c, rfl, c, rfl, ⟨_, .inl (.inl ec11)⟩, fun D nD => ?_⟩
        refine lc_tup (xs := cs) (fun k N => Same G11 N ∧ ∃ us, N D = some (.lst us) ∧ Paired (OrdAt N) us ((os.take k).map flipO)) ⟨same_new nD, [], upd_same, .nil⟩ (fun k N _ hN => .inl (.inl (hN.1 _ _ ec11))) (fun k y N hyk hN => ?_) (fun N hN => ?_)
        · obtain ⟨sN, us, eD, hp⟩ := hN
          obtain ⟨dy, edy, hdy⟩ := hcs.get' hyk
          rw [List.getElem?_map] at edy
          obtain ⟨o, eo, rfl⟩ := Option.map_eq_some_iff.mp edy
          have kk : k < os.length := (List.getElem?_eq_some_iff.mp eo).1
          have hdy2 := ((hdy.ext e011).up (hid_same l G11)).up sN
          have lus : us.length ≤ k := by
            rw [Paired.length hp, List.length_map, List.length_take]
            omega
          cases hdy2 with
          | @tup py pys _ epy hpy =>
          match pys, hpy, epy with
          | [vc, vy], .cons hc1 (.cons hy1 .nil), epy =>
          cases hc1
          cases hy1
          have fin : ∀ yy : Str, yy = (flipO o).2 → 2 ≤ sizeLine ∧ ∀ p, N p = none → ∃ acc, (upd N p (.tup [.int o.1, .str yy])) D = some (.lst acc) ∧ acc.length < sizeLine ∧ (Same G11 (upd (upd N p (.tup [.int o.1, .str yy])) D (.lst (acc ++ [.ref p]))) ∧ ∃ us2, (upd (upd N p (.tup [.int o.1, .str yy])) D (.lst (acc ++ [.ref p]))) D = some (.lst us2) ∧ Paired (OrdAt (upd (upd N p (.tup [.int o.1, .str yy])) D (.lst (acc ++ [.ref p])))) us2 ((os.take (k + 1)).map flipO)) := fun yy eyy => by
            refine ⟨by decide, fun p np => ⟨us, same_new np _ _ eD, by omega, same_at (sN.trans (same_new np)) nD, us ++ [.ref p], upd_same, ?_⟩⟩
            have hpD : p ≠ D := fun z => by rw [z, eD] at np; cases np
            rw [List.take_add_one, eo, List.map_append]
            refine ord_add ⟨p, rfl, by rw [upd_ne hpD, upd_same, eyy]; rfl⟩ (ord_up ((TK.new np).trans (TK.at (same_new np _ _ eD) fun ys z => by cases z)) hp)
          refine ⟨py, _, rfl, .inl (.inl epy), rfl, _, _, rfl, _, _, rfl, rfl, rfl, .int o.1, rfl, .str o.2, rfl, rfl, _, rfl, ?_⟩
          rw [dec_str]
          by_cases hy : o.2 = ("asc" : Str)
          · rw [decide_eq_true hy]
            refine iteT ?_
            exact fin "desc" (by show _ = if o.2 = ("asc" : Str) then ("desc" : Str) else "asc"; rw [if_pos hy])
          · rw [decide_eq_false hy]
            refine iteF ?_
            exact fin "asc" (by show _ = if o.2 = ("asc" : Str) then ("desc" : Str) else "asc"; rw [if_neg hy])
        · obtain ⟨sN, us, eD, hp⟩ := hN
          rw [List.take_of_length_le (by omega)] at hp
          refine ⟨D, us, rfl, .inl ⟨.inl (.inl eD), fun p2 np2 => ?_⟩⟩
          have s12 := sN.trans (same_new (o := .tup us) np2)
          have sN12 := sN11.same s12
          have xr : Dx (hid l (upd N p2 (.tup us))) (.ref p2) (.tuple ((os.map flipO).map encO)) := dx_tup np2 (sN11.same sN) (dxs_ord (ord_up (TK.hid (sN11.same sN)) hp))
          refine gn_to (σ' := ([some (.ref l), some v, some (.ref c), some (.int (wn : Int)), some (.ref L1), some (.ref z), some (.ref pn), some (.ref pv), some (.ref z8), some (.ref p10), some (.ref p2), none, none, none] : L2.St)) rfl ?_
          dsimp only
          generalize upd N p2 (.tup us) = G12 at s12 sN12 xr
          have e1112 := ext_same s12
          have xd := xd.ext (ext_hid e1112)
          have xo := xo.ext (ext_hid e1112)
          have xv := dxs_ext (ext_hid e1112) xv
          have ev12 : G12 pv = some (.lst ys) := s12 _ _ ev11
          have t12 := tabs_same s12 t11
          have e012 := e011.trans (ext_hid e1112)
          clear hp eD sN np2
          refine tvvc rfl rfl (tv2 rfl rfl (sn_call t12 (xd.up (hid_same l G12)) (xr.up (hid_same l G12)) (g.with (flip_ok g.oo)) fun G13 p13 e13 t13 h13 => ?_))
          refine cv_call ((xd.up (hid_same l G12)).ext e13) ((xo.up (hid_same l G12)).ext e13) h13 g fun G14 p14 ys14 s14 n14 e14 h14 => ?_
          rw [vals_rev, ← eDV] at h14
          have e1214 := e13.trans (ext_same s14)
          have xv := dxs_ext (ext_hid e1214) xv
          have ev14 : G14 pv = some (.lst ys) := e1214 _ _ ev12 fun ps z => by cases z
          refine ⟨.ref pv, rfl, pv, ys, rfl, .inl (.inl ev14), fun q1 nq1 => ?_⟩
          have hr := dxs_rev ((xv.up (hid_same l G14)).up (same_new (o := .lst ys.reverse) nq1))
          rw [← List.map_reverse] at hr
          refine ⟨_, _, lst_vals (same_new nq1 _ _ e14) (h14.up (same_new nq1)), lst_vals upd_same hr, plain_vals _, plain_vals _, Nat.le_trans (Nat.min_le_left _ _) (depth_vals _), ?_⟩
          rw [eqv_vals]
          have e1415 : LamX.ExtN G12 (upd G14 q1 (.lst ys.reverse)) := e1214.trans (ext_same (same_new nq1))
          exact q _ (e012.trans (ext_hid e1415)) (sto_ext e1415 sN12) (tabs_same (s14.trans (same_new nq1)) t13)
end
end Z1

set_option maxRecDepth 100000
set_option maxHeartbeats 4000000
namespace Z1
open PySem PySem.Spec PyProof.Rows L2 KX
/-! ### the names of a part -/
theorem sub_filter {ss rs : List Rec} (s : ss.Sublist rs) (nd : (rs.map (fun r : Rec => r.nm)).Nodup) : rs.filter (fun r => decide (r.nm ∈ ss.map fun r : Rec => r.nm)) = ss := by
  induction s with
  | slnil => rfl
  | @cons l1 l2 a s ih =>
    rw [List.map_cons, List.nodup_cons] at nd
    have : a.nm ∉ l1.map fun r : Rec => r.nm := fun h => nd.1 ((s.map _).subset h)
    rw [List.filter_cons, if_neg (by simpa using this)]
    exact ih nd.2
  | @cons_cons l1 l2 a s ih =>
    rw [List.map_cons, List.nodup_cons] at nd
    rw [List.filter_cons, if_pos (by simp)]
    congr 1
    refine Eq.trans (List.filter_congr fun b hb => ?_) (ih nd.2)
    have : b.nm ≠ a.nm := fun z => nd.1 (z ▸ List.mem_map.mpr ⟨b, hb, rfl⟩)
    exact decide_eq_decide.mpr (by rw [List.map_cons, List.mem_cons]; exact ⟨fun z => z.resolve_left this, .inr⟩)
theorem srt_sub {os : List Ord} {ss rs : List Rec} (s : ss.Sublist rs) (nd : (rs.map (fun r : Rec => r.nm)).Nodup) : (srtNm os rs).filter (fun n => decide (n ∈ ss.map fun r : Rec => r.nm)) = srtNm os ss := by
  unfold srtNm
  rw [List.filter_map]
  congr 1
  have nds := nd.sublist (s.map fun r : Rec => r.nm)
  have p : ((srt os rs).filter ((fun n => decide (n ∈ ss.map fun r : Rec => r.nm)) ∘ fun r : Rec => r.nm)).Perm ss := by
    have h := sub_filter s nd
    have h2 : ((srt os rs).filter ((fun n => decide (n ∈ ss.map fun r : Rec => r.nm)) ∘ fun r : Rec => r.nm)).Perm (rs.filter fun r => decide (r.nm ∈ ss.map fun r : Rec => r.nm)) := (List.mergeSort_perm _ _).filter _
    rwa [h] at h2
  refine List.Perm.eq_of_pairwise (le := fun a b => lawR os a b = true) (fun a b _ _ h1 h2 => ?_) ((srt_pw nd).sublist List.filter_sublist) (srt_pw nds) (p.trans (List.mergeSort_perm _ _).symm)
  have := law_asym a b h1
  rw [h2] at this
  cases this
/-- a part of the rows is asked with the same order -/
theorem HG.part {rs ss : List Rec} {os : List Ord} {wd : Nat} (h : RsP wd rs) (w1 : 1 ≤ wd) (w4 : wd ≤ 4) (hl : rs.length ≤ 60) (hO : OrdOk (wd : Int) os) (s : ss.Sublist rs) : HG ss os := hg_of (h.sub s) w1 w4 (Nat.le_trans s.length_le hl) hO
/-! ### rowsets that are none -/
theorem asc_dup (x : Str) : ∀ l : List Str, ascS (l ++ [x, x]) = false
  | [] => by
    show (ltS x x && ascS [x]) = false
    rw [show ltS x x = false from decide_eq_false (List.lt_irrefl _)]
    rfl
  | [a] => by
    show (ltS a x && ascS ([] ++ [x, x])) = false
    rw [asc_dup x [], Bool.and_false]
  | a :: b :: l => by
    show (ltS a b && ascS ((b :: l) ++ [x, x])) = false
    rw [asc_dup x (b :: l), Bool.and_false]
theorem dup_bad {r : Rec} {rs : List Rec} : rowsetD (.tuple (((rs ++ [r]) ++ [r]).map encR)) = false := by
  cases h : rowsetD (.tuple (((rs ++ [r]) ++ [r]).map encR)) with
  | false => rfl
  | true =>
    obtain ⟨rs', e, ok⟩ := rowset_rec h
    have e := recs_inj e
    have a := ok.asc
    rw [← e, List.append_assoc, List.map_append] at a
    have z := asc_dup r.nm (rs.map fun r : Rec => r.nm)
    rw [show (([r] ++ [r] : List Rec).map fun r : Rec => r.nm) = [r.nm, r.nm] from rfl] at a
    rw [z] at a
    cases a
end Z1

set_option maxRecDepth 100000
set_option maxHeartbeats 1000000
/-! Ex30: any data == (). -/
namespace KX
open PySem PySem.Spec PyProof.Rows L2
theorem dict_no_tup (dl tl : Addr) (ents : Array DictEntry) (epo : Nat) (vals : Array Value) (cap : Nat) (d1 d2 : Option Addr) (s1 s2 : Array (Option Value)) :
    Meets (Builtin.«dict.__eq__» ⟨[.ref dl, .ref tl], []⟩) (fun _ R st => st.heap.get? dl = some { cls := .type "dict", dict := d1, data := .dict ents epo, slots := s1 } ∧ st.heap.get? tl = some { cls := .type "tuple", dict := d2, data := .seq vals cap, slots := s2 } ∧ R (.ok (.ret .notImplemented)) st) :=
  .of_wp fun pr wo Ar Rr st hh => by
    obtain ⟨hp, ge, dr, tk, os⟩ := st
    obtain ⟨hd, ht, hq⟩ := hh
    have ff := PySem.F.sub_tuple_dict
    wp_walk using AutoSeq1.wpAny_loadPart' hd, AutoSeq1.wpAny_loadPart' ht
    exact ⟨_, rfl, hq⟩
theorem tup_no_dict (tl dl : Addr) (ents : Array DictEntry) (epo : Nat) (vals : Array Value) (cap : Nat) (d1 d2 : Option Addr) (s1 s2 : Array (Option Value)) :
    Meets (Builtin.«tuple.__eq__» ⟨[.ref tl, .ref dl], []⟩) (fun _ R st => st.heap.get? tl = some { cls := .type "tuple", dict := d2, data := .seq vals cap, slots := s2 } ∧ st.heap.get? dl = some { cls := .type "dict", dict := d1, data := .dict ents epo, slots := s1 } ∧ R (.ok (.ret .notImplemented)) st) :=
  .of_wp fun pr wo Ar Rr st hh => by
    obtain ⟨hp, ge, dr, tk, os⟩ := st
    obtain ⟨ht, hd, hq⟩ := hh
    have ff := PySem.F.sub_dict_tuple
    wp_walk using AutoSeq1.wpAny_loadPart' ht, AutoSeq1.wpAny_loadPart' hd
    exact ⟨_, rfl, hq⟩
section
open MeetsSeq MeetsSeq2 MeetsSeq3 SeqRoads2 SeqAt
variable {Ar : Around} {st : Shared}
theorem rc_dict_tup {dl tl : Addr} {ob : Obj} {ents : Array DictEntry} {epo : Nat} {vals : Array Value} (hd : st.heap.get? dl = some ob) (hc : ob.cls = .type "dict") (hda : ob.data = .dict ents epo) (ht : st.heap.IsTuple tl vals) (hu : Ar.units < cLine) : SeqAt.RcAt Ar st (.ref dl) (.ref tl) false := fun pr wo E Q h => by
  obtain ⟨cl, dd, da, sl⟩ := ob
  simp only at hc hda
  subst hc hda
  obtain ⟨⟨cl2, dd2, da2, sl2⟩, ho2, hc2, cap, hd2⟩ := id ht
  simp only at hc2 hd2
  subst hc2 hd2
  have hne : dl ≠ tl := fun z => by
    rw [z, ho2] at hd
    injection hd with e
    injection e with e1
    injection e1 with e2
    exact absurd e2 (by decide)
  refine rc_eq_decline_or (k := false) ⟨_, hd, rfl⟩ ⟨_, ho2, rfl⟩ (by decide) PySem.F.sub_tuple_dict PySem.F.slot_dict_eq PySem.F.slot_tuple_eq_refl
    (fun _ hq => call_meets PySem.F.slot_dict_eq ⟨_, hd, rfl⟩ PySem.F.entry_dict_eq (PySem.F.args_dict_eq_2 _ _) (dict_no_tup dl tl ents epo vals cap dd dd2 sl sl2) ⟨hd, ho2, hq⟩)
    (fun _ hq => call_meets PySem.F.slot_tuple_eq_refl ⟨_, ho2, rfl⟩ PySem.F.entry_tuple_eq (PySem.F.args_tuple_eq_2 _ _) (tup_no_dict tl dl ents epo vals cap dd dd2 sl sl2) ⟨ho2, hd, hq⟩)
    (fun _ hq => wpAny_isSame_ref_other hne hd ho2 (by simp) hq) (.inr hu) h
end
section
variable {X : Cx}
/-- the data d is the empty tuple -/
def isNil : PyData → Bool
  | .tuple ds => ds.isEmpty
  | _ => false
/-- x == (), x any data: the dicts apart, it is the comparison of data -/
def rEqN (K : PySem.W.Frag) : R2 := fun x y H Q => ∃ d, Dx H x d ∧ (∃ b, y = .ref b ∧ H b = some (.tup [])) ∧ (d.plain = true ∨ ∃ kvs, d = .dict kvs) ∧ Q (.bl (isNil d)) H
theorem op_eqN (hu : X.A.units + 64 < cLine) : OpR X (compareOp .Eq) (rEqN X.K) := by
  intro pins s σ H x y v u Q I rx ry h
  obtain ⟨d, hd, ⟨b, rfl, eb⟩, hp, q⟩ := h
  rcases hp with hp | ⟨kvs, rfl⟩
  · refine op_eqP hu pins s σ H x (.ref b) v u Q I rx ry ⟨d, .tuple [], dp_dx _ _ hp hd, .tup (.inl (.inl eb)) .nil, hp, rfl, Nat.le_trans (Nat.min_le_right _ _) (by decide +kernel), ?_⟩
    have e : id (PyData.eqv d (.tuple [])) = isNil d := by
      cases d with
      | tuple ds => cases ds <;> simp [PyData.eqv, PyData.eqvAll, isNil]
      | _ => simp [PyData.eqv, isNil]
    rw [e]
    exact q
  · cases (show u = Value.ref b from ry)
    obtain ⟨its, r1, p1, _⟩ := I.tuple (show SqT X.K H b [] from .inl (.inl eb))
    have fin : ∀ a ks, H a = some (.dK ks) → v = Value.ref a → wpAny (model X.prog X.w) X.A (compareOp .Eq v (Value.ref b)) (EP X pins σ Q) X.xe s := fun a ks ea ev => by
      subst ev
      obtain ⟨o, es, ep, h1, h2, h3⟩ := dic_at I ea
      exact rc_dict_tup h1 h2 h3 p1 (by omega) X.prog X.w X.xe _ ⟨.bl _, H, I, rfl, q⟩
    cases hd with
    | @dic a e => exact fin a _ e rx
    | @dic1 a _ _ e => exact fin a _ e rx
end
end KX

set_option maxRecDepth 100000
set_option maxHeartbeats 4000000
namespace Z1
open PySem PySem.Spec PyProof.Rows L2 KX
theorem gi_drawS {l : Addr} {σ0 : L2.St} {L : List (V × PyData)} {M : List (Addr × List V × List PyData)} {n : Int} {tn : TE} (i : Nat) (h0 : σ0[i]? = some (some (.ref l))) (h : GI l (KX.Env l σ0 L M) (· = n) tn) (n0 : 0 < n) (n1 : n < 2 ^ 64) :
    GI l (KX.Env l σ0 L M) (fun k => 0 ≤ k ∧ k < n) (tCall spDraw [] E0 (tCons (tVar i) (tCons tn tNil))) := fun σ H Q st p q =>
  ⟨.ref l, by rw [p.1]; exact h0, h σ H _ st p fun H1 i e k st1 => ⟨l, i, rfl, st1, by omega, by omega, fun H2 m k2 st2 m0 m1 => q H2 m ⟨m0, by omega⟩ (k.trans k2) st2⟩⟩
/-! ### _law_errors_match -/
abbrev sEM : Stmt := topS 51
abbrev NE : List Str := ["stream", "rowset", "order", "width", "samples", "invalid", "bad_order"]
theorem scEM : FnScope NE ["stream", "rowset", "order", "width"] (defScope sEM) := ⟨rfl, rfl, rfl, by decide +kernel, rfl, by decide +kernel, by decide +kernel⟩
/-- no rowset, or the empty one -/
def SbR (d : PyData) : Prop := SmR d ∧ (rowsetD d = false ∨ d = .tuple []) ∧ (d.plain = true ∨ ∃ kvs, d = .dict kvs)
/-- no order -/
def SbO (d : PyData) : Prop := okO d ∧ ∀ w : Int, w ≤ 4 → ordD w d = false
theorem sm_nt {d : PyData} (h : ∀ ds, d ≠ .tuple ds) : SmR d := fun ds e => absurd e (h ds)
theorem okO_nt {d : PyData} (h : ∀ ds, d ≠ .tuple ds) : okO d := fun ds e => absurd e (h ds)
theorem sm_recs {rs : List Rec} (hl : rs.length ≤ 1000) (h : ∀ r ∈ rs, r.nm.length ≤ 20) : SmR (.tuple (rs.map encR)) := fun ds z => by
  cases z
  refine ⟨by rw [List.length_map]; exact hl, fun e he => ?_⟩
  obtain ⟨r, hr, rfl⟩ := List.mem_map.mp he
  have l20 := h r hr
  have line : (5000 : Nat) ≤ sizeLine := by decide
  intro x hx
  simp at hx
  rcases hx with rfl | rfl | rfl | rfl
  · show r.nm.length ≤ sizeLine
    omega
  all_goals trivial
theorem dup_sb {rs : List Rec} (h : ∀ r ∈ rs, r.nm.length ≤ 20) (hl : rs.length ≤ 60) : SbR (.tuple (rs.map encR ++ (rs.map encR).take 1 ++ (rs.map encR).take 1)) := by
  cases rs with
  | nil => exact ⟨fun ds z => by cases z; exact ⟨by decide, fun e he => by cases he⟩, .inr rfl, .inl rfl⟩
  | cons r rs =>
    have e : (r :: rs).map encR ++ ((r :: rs).map encR).take 1 ++ ((r :: rs).map encR).take 1 = (((r :: rs) ++ [r]) ++ [r]).map encR := by simp
    rw [e]
    refine ⟨sm_recs (by simp at hl ⊢; omega) fun x hx => h x (by
      rcases List.mem_append.mp hx with z | z
      · rcases List.mem_append.mp z with z | z
        · exact z
        · rw [List.mem_singleton.mp z]; simp
      · rw [List.mem_singleton.mp z]; simp), .inl dup_bad, .inl (by simp only [PyData.plain]; exact plain_rows _)⟩
theorem sbR_none : SbR .none := ⟨sm_nt fun ds z => (by cases z), .inl rfl, .inl rfl⟩
theorem sbR_list (rs : List Rec) : SbR (.list (rs.map encR)) := ⟨sm_nt fun ds z => (by cases z), .inl rfl, .inl (by simpa [PyData.plain] using plain_rows rs)⟩
theorem sbR_one : SbR (.tuple [.int 1]) := ⟨fun ds z => by cases z; exact ⟨by decide, fun e he => by rw [List.mem_singleton.mp he]; trivial⟩, .inl (by decide +kernel), .inl rfl⟩
theorem sbR_str (x : Str) : SbR (.str x) := ⟨sm_nt fun ds z => (by cases z), .inl rfl, .inl rfl⟩
theorem sbR_in : SbR (.tuple [.tuple []]) := ⟨fun ds z => by cases z; exact ⟨by decide, fun e he => by rw [List.mem_singleton.mp he]; exact fun x hx => by cases hx⟩, .inl (by decide +kernel), .inl rfl⟩
theorem sbR_dict : SbR (.dict []) := ⟨sm_nt fun ds z => (by cases z), .inl rfl, .inr ⟨_, rfl⟩⟩
theorem sbR_int (i : Int) : SbR (.int i) := ⟨sm_nt fun ds z => (by cases z), .inl rfl, .inl rfl⟩
theorem ord_all {w : Int} {ds : List PyData} (h : ds.all (dirD w 2) = false) : ordD w (.tuple ds) = false := by
  have er : ordD w (.tuple ds) = ((decide (0 ≤ (ds.length : Int)) && decide ((ds.length : Int) ≤ 4)) && (ds.all (dirD w 2) && decide (ds.map col0).Nodup)) := rfl
  rw [er, h, Bool.false_and, Bool.and_false]
theorem ord_dup {w : Int} {ds : List PyData} (h : decide (ds.map col0).Nodup = false) : ordD w (.tuple ds) = false := by
  have er : ordD w (.tuple ds) = ((decide (0 ≤ (ds.length : Int)) && decide ((ds.length : Int) ≤ 4)) && (ds.all (dirD w 2) && decide (ds.map col0).Nodup)) := rfl
  rw [er, h, Bool.and_false, Bool.and_false]
theorem dir_over {w c : Int} {y : Str} (h : ¬ c ≤ w - 1) : dirD w 2 (.tuple [.int c, .str y]) = false := by
  have em : dirD w 2 (.tuple [.int c, .str y]) = (decide ((([PyData.int c, .str y] : List PyData).length : Int) = 2) && ((decide (0 ≤ c) && decide (c ≤ w - 1)) && inDir (.str y))) := rfl
  rw [em, decide_eq_false h, Bool.and_false, Bool.false_and, Bool.and_false]
theorem dir_way {w c : Int} {y : Str} (h : inDir (.str y) = false) : dirD w 2 (.tuple [.int c, .str y]) = false := by
  have em : dirD w 2 (.tuple [.int c, .str y]) = (decide ((([PyData.int c, .str y] : List PyData).length : Int) = 2) && ((decide (0 ≤ c) && decide (c ≤ w - 1)) && inDir (.str y))) := rfl
  rw [em, h, Bool.and_false, Bool.and_false]
theorem okO_two {ps : List Ord} : okO (.tuple (ps.map encO)) := ord_okO
theorem sbO_over : SbO (.tuple (([(4, "asc")] : List Ord).map encO)) := ⟨okO_two, fun w h => ord_all (by
  show (dirD w 2 (.tuple [.int 4, .str "asc"]) && true) = false
  rw [dir_over (by omega), Bool.false_and])⟩
theorem sbO_caps : SbO (.tuple (([(0, "ASC")] : List Ord).map encO)) := ⟨okO_two, fun w h => ord_all (by
  show (dirD w 2 (.tuple [.int 0, .str "ASC"]) && true) = false
  rw [dir_way (by decide +kernel), Bool.false_and])⟩
theorem sbO_twice : SbO (.tuple (([(0, "asc"), (0, "asc")] : List Ord).map encO)) := ⟨okO_two, fun w h => ord_dup (by decide +kernel)⟩
theorem sbO_flat : SbO (.tuple [.int 0, .str "asc"]) := ⟨fun ds e x hx es e2 => (by cases e; simp at hx; rcases hx with rfl | rfl <;> cases e2), fun w h => ord_all rfl⟩
theorem sbO_none : SbO .none := ⟨okO_nt fun ds z => (by cases z), fun w h => rfl⟩
theorem sbO_list (ds : List PyData) : SbO (.list ds) := ⟨okO_nt fun ds z => (by cases z), fun w h => rfl⟩
def spEM (P0 : Addr) : Sp := fun vs H Q _ => ∃ (l : Addr) (v ov : V) (rs : List Rec) (os : List Ord) (w : Int), vs = [.ref l, v, ov, .int w] ∧ StO H l ∧ LamX.Tabs (TS P0) H ∧ Dx (hid l H) v (.tuple (rs.map encR)) ∧ Dx (hid l H) ov (.tuple (os.map encO)) ∧ HG rs os ∧ 1 ≤ w ∧ w ≤ 4 ∧ (rs = [] ∨ widthI rs = w) ∧
  ∀ H', LamX.ExtN (hid l H) (hid l H') → StO H' l → LamX.Tabs (TS P0) H' → Q (.bl true) H'
section
variable {P : Program} {w : World} {K : PySem.W.Frag} {mg : Str → Option Value} {base : Heap}
theorem ok_em {k : Nat} {P0 f fD fE : Addr} {fd fdD fdE : FuncData} (B : Bl mg) (D : Df K mg "_law_errors_match" sEM ["stream", "rowset", "order", "width"] f fd) (DD : Df K mg "_law_draw" sDraw ["stream", "total"] fD fdD) (DE : Df K mg "_law_error_kind" sEK ["rowset", "order"] fE fdE)
    (GD' : FnOk P w K mg base CX0 k fD fdD ["stream", "total"] spDraw) (GE : FnOk P w K mg base CX0 k fE fdE ["rowset", "order"] (spEK P0)) : FnOk P w K mg base CX0 (k + 1) f fd ["stream", "rowset", "order", "width"] (spEM P0) := by
  refine D.F.ok scEM (fun vs H Q E h => ?_) (fun cdv A outer s H vs Q E hr h => ?_)
  · obtain ⟨l, v, ov, rs, os, wi, rfl, _⟩ := h
    rfl
  · obtain ⟨l, v, ov, rs, os, wi, rfl, st, ht, hd, ho, g, w1, w4, hww, q⟩ := h
    have nd := scEM.nd
    have hu : (A.deeper (envOfC (Str.ofString "_law_errors_match") (defScope sEM) s.heap.objs.size f cdv)).units < cLine := by
      have := hr.units
      omega
    refine ⟨_, pss_cons (ps_set (i := 4) nd rfl (.inl rfl) (pe_lst (pa_cons pe_non (pa_cons (pe_callTy call_lst2 (by rfl) B.list (by decide +kernel) (pa_cons (pv 1) pa_nil)) (pa_cons (pe_op op_catA (pe_op op_catA (pv 1) (pe_slice sl_tupA (pv 1) po_none (po_some pe_int))) (pe_slice sl_tupA (pv 1) po_none (po_some pe_int)))
          (pa_cons (pe_tup (pa_cons pe_int pa_nil)) (pa_cons pe_str (pa_cons (pe_tup (pa_cons (pe_tup pa_nil) pa_nil)) (pa_cons pe_dnewK (pa_cons pe_int pa_nil))))))))))
      (pss_cons (ps_set (i := 5) nd rfl (.inl rfl) (pe_ix ix_list (pv 4) (pe_call GD' hr (by rfl) DD.g DD.F.kp DD.b .nil pass0 (pa_cons (pv 0) (pa_cons pe_int pa_nil))) (fun _ _ => rfl)))
      (pss_cons (ps_if (pt_cmpR (op_eqN hr.units) (pv 5) (pe_tup pa_nil) (nomark _)) (pss_one (ps_set (i := 5) nd rfl (.inl rfl) pe_non)) pss_nil)
      (pss_cons (ps_set (i := 4) nd rfl (.inl rfl) (pe_lst (pa_cons pe_non (pa_cons (pe_callTy call_lst2 (by rfl) B.list (by decide +kernel) (pa_cons (pv 2) pa_nil)) (pa_cons (pe_tup (pa_cons (pe_tup (pa_cons pe_int (pa_cons pe_str pa_nil))) pa_nil)) (pa_cons (pe_tup (pa_cons pe_int (pa_cons pe_str pa_nil)))
          (pa_cons (pe_tup (pa_cons (pe_tup (pa_cons pe_int (pa_cons pe_str pa_nil))) pa_nil)) (pa_cons (pe_tup (pa_cons (pe_tup (pa_cons pe_int (pa_cons pe_str pa_nil))) (pa_cons (pe_tup (pa_cons pe_int (pa_cons pe_str pa_nil))) pa_nil))) pa_nil))))))))
      (pss_cons (ps_set (i := 6) nd rfl (.inl rfl) (pe_ix ix_list (pv 4) (pe_call GD' hr (by rfl) DD.g DD.F.kp DD.b .nil pass0 (pa_cons (pv 0) (pa_cons pe_int pa_nil))) (fun _ _ => rfl)))
      (pss_cons (ps_if (pt_cmpR op_ne (pe_call GE hr (by rfl) DE.g DE.F.kp DE.b .nil pass0 (pa_cons (pv 5) (pa_cons (pe_ix ix_list (pe_lst (pa_cons (pv 2) (pa_cons (pv 6) pa_nil))) (pe_call GD' hr (by rfl) DD.g DD.F.kp DD.b .nil pass0 (pa_cons (pv 0) (pa_cons pe_int pa_nil))) (fun _ _ => rfl)) pa_nil))) pe_str (nomark _)) (pss_one (ps_ret pe_bl)) pss_nil)
      (pss_cons (ps_if (pt_cmpR op_ne (pe_call GE hr (by rfl) DE.g DE.F.kp DE.b .nil pass0 (pa_cons (pv 1) (pa_cons (pv 6) pa_nil))) pe_str (nomark _)) (pss_one (ps_ret pe_bl)) pss_nil)
      (pss_one (ps_ret (pe_or (pe_cmpR op_eq (pv 3) pe_int (nomark _)) (pe_or (pe_cmpR (op_eq0 hu) (pv 1) (pe_tup pa_nil) (nomark _)) (pe_one (pe_cmpR op_eq (pe_call GE hr (by rfl) DE.g DE.F.kp DE.b .nil pass0 (pa_cons (pv 1) (pa_cons (pe_tup (pa_cons (pe_tup (pa_cons (pv 3) (pa_cons pe_str pa_nil))) pa_nil)) pa_nil))) pe_str (nomark _))))))))))))), ?_⟩
    have nms : ∀ r ∈ rs, r.nm.length ≤ 20 := fun r hr => (g.nmf r hr).2
    have l60 := g.ok.le
    have l4 := g.oo.le
    have tp : ∀ {P' : PSt} {t : TE} {ds : List PyData}, GD l P' (· = .tuple ds) t → ds.length ≤ 500 → GD l P' (fun d => ∃ x, d = .tuple x ∧ x = ds) t := fun h _ => h.imp fun d e => ⟨_, e, rfl⟩
    have con : ∀ {P' : PSt} {v : V} {d : PyData} {S : PyData → Prop}, (∀ H, Dx H v d) → S d → GD l P' S (tC v) := fun h sd => (gd_c h).imp fun _ e => by subst e; exact sd
    have nilT : ∀ {P' : PSt}, GD l P' (· = .tuple []) (tTup tNil) := (gd_tup gds_nil fun ds e => by subst e; exact Nat.zero_le _).imp fun d e => by obtain ⟨ds, rfl, rfl⟩ := e; rfl
    have oneT : ∀ {P' : PSt} {d : PyData} {t : TE}, Kp l P' → GD l P' (· = d) t → GD l P' (· = .tuple [d]) (tTup (tCons t tNil)) := fun kp h => (gd_tup (gds_cons kp h gds_nil) fun ds e => by obtain ⟨x, y, rfl, rfl, rfl⟩ := e; show 1 ≤ sizeLine; decide).imp fun d e => by obtain ⟨ds, rfl, x, y, rfl, rfl, rfl⟩ := e; rfl
    have twoT : ∀ {P' : PSt} {d d2 : PyData} {t t2 : TE}, Kp l P' → GD l P' (· = d) t → GD l P' (· = d2) t2 → GD l P' (· = .tuple [d, d2]) (tTup (tCons t (tCons t2 tNil))) := fun kp h h2 => (gd_tup (gds_cons kp h (gds_cons kp h2 gds_nil)) fun ds e => by obtain ⟨x, y, rfl, rfl, z, u, rfl, rfl, rfl⟩ := e; show 2 ≤ sizeLine; decide).imp fun d e => by obtain ⟨ds, rfl, x, y, rfl, rfl, z, u, rfl, rfl, rfl⟩ := e; rfl
    -- samples
    refine gm_seq (S := Al SbR 8) (P := KX.Env l _ [(v, .tuple (rs.map encR)), (ov, .tuple (os.map encO))] []) ?_ st ⟨rfl, alld_cons hd (alld_cons ho alld_nil), allm_nil⟩ fun H1 p1 xs1 ds1 g1 k1 st1 n1 e1 x1 => ?_
    · have tv : GD l (KX.Env l (L2.start NE [.ref l, v, ov, .int wi]) [(v, .tuple (rs.map encR)), (ov, .tuple (os.map encO))] []) (· = .tuple (rs.map encR)) (tVar 1) := gd_env (v := v) rfl (by simp)
      have sl := gd_slice (K := K) kp_env tv go_none (go_some (gi_val (n := 1) fun σ H Q q => q))
      have lt : ∀ d : PyData, d = .tuple (rs.map encR) → ∃ ds, d = .tuple ds ∧ ds.length ≤ 1000 := fun d e => ⟨_, e, by rw [List.length_map]; omega⟩
      have ec : cutD (rs.map encR) none (some 1) = (rs.map encR).take 1 := cutD_to _ 1
      rw [ec] at sl
      have ls : ∀ d : PyData, d = .tuple ((rs.map encR).take 1) → ∃ ds, d = .tuple ds ∧ ds.length ≤ 1000 := fun d e => ⟨_, e, by rw [List.length_take]; omega⟩
      exact al_lst (al_cons kp_env (con (fun H => .non) sbR_none) (al_cons kp_env ((gd_listOf tv).imp fun _ e => by subst e; exact sbR_list rs)
        (al_cons kp_env ((gd_cat kp_env ((gd_cat kp_env tv sl lt ls).imp (S2 := (· = .tuple (rs.map encR ++ (rs.map encR).take 1))) fun d e => by
            obtain ⟨x, y, e1, e2, rfl⟩ := e
            cases e1
            cases e2
            rfl) sl (fun d e => ⟨_, e, by rw [List.length_append, List.length_map, List.length_take]; omega⟩) ls).imp fun d e => by
            obtain ⟨x, y, e1, e2, rfl⟩ := e
            cases e1
            cases e2
            exact dup_sb nms l60)
        (al_cons kp_env ((oneT kp_env (gd_c (v := .int 1) fun H => .int 1)).imp fun _ e => by subst e; exact sbR_one) (al_cons kp_env (con (fun H => .str _) (sbR_str _)) (al_cons kp_env ((oneT kp_env nilT).imp fun _ e => by subst e; exact sbR_in)
        (al_cons kp_env (gd_dict.imp fun _ e => by subst e; exact sbR_dict) (al_cons kp_env (con (fun H => .int 0) (sbR_int 0)) al_nil)))))))) (by decide)
    · have dr : ∀ (n : Int) {σ0 : L2.St} {L : List (V × PyData)} {M : List (Addr × List V × List PyData)}, σ0[0]? = some (some (.ref l)) → 0 < n → n < 2 ^ 64 → GI l (KX.Env l σ0 L M) (fun k => 0 ≤ k ∧ k < n) (tCall spDraw [] E0 (tCons (tVar 0) (tCons (tC (.int n)) tNil))) := fun n σ0 L M h a b => gi_drawS (n := n) 0 h (gi_val fun σ H Q q => q) a b
      have hd1 := hd.up k1.same
      have ho1 := ho.up k1.same
      change tSeq _ _ _ ([some (.ref l), some v, some ov, some (.int wi), some (.ref p1), none, none] : L2.St) H1
      refine gd_seq (S := SbR) (P := KX.Env l ([some (.ref l), some v, some ov, some (.int wi), some (.ref p1), none, none] : L2.St) [(v, .tuple (rs.map encR)), (ov, .tuple (os.map encO))] [(p1, xs1, ds1)]) (al_ix (n := 8) (m := 8) kp_env ((gm_env (xs := xs1) (ds := ds1) rfl (by simp)).imp fun _ e => by subst e; exact g1) (dr 8 rfl (by decide) (by decide)) rfl)
        st1 ⟨rfl, alld_cons hd1 (alld_cons ho1 alld_nil), allm_one n1 e1 x1⟩ fun H2 iv d2 hs2 k2 st2 x2 => ?_
      have hd2 := hd1.up k2.same
      have ho2 := ho1.up k2.same
      obtain ⟨sm2, bad2, pd2⟩ := hs2
      have k12 := k1.trans k2
      clear hd1 ho1 k1 k2 g1 e1 x1 n1 st1
      change tSeq _ _ _ ([some (.ref l), some v, some ov, some (.int wi), some (.ref p1), some iv, none] : L2.St) H2
      -- the empty tuple is none
      refine ⟨iv, rfl, Nat.zero_le _, fun p np => ⟨d2, (x2.up (hid_same l H2)).up (same_new np), ⟨p, rfl, upd_same⟩, pd2, _, rfl, ?_⟩⟩
      have k3 : Keep l H (upd H2 p (.tup [])) := k12.new np
      have st3 := st2.new (o := .tup []) np
      have kp3 : Keep l H2 (upd H2 p (.tup [])) := (Keep.refl l H2).new np
      have hd3 := hd2.up kp3.same
      have ho3 := ho2.up kp3.same
      have x3 := x2.up kp3.same
      generalize upd H2 p (.tup []) = H3 at k3 st3 kp3 hd3 ho3 x3
      clear hd2 ho2 x2 np kp3 k12 st2
      have both : ∀ b : Bool, b = isNil d2 → ∃ (jv : V) (dj : PyData), Dx (hid l H3) jv dj ∧ SmR dj ∧ rowsetD dj = false ∧ jv = (if b = true then .non else iv) := fun b eb => by
        cases b with
        | true => exact ⟨.non, .none, .non, sbR_none.1, rfl, rfl⟩
        | false =>
          refine ⟨iv, d2, x3, sm2, ?_, rfl⟩
          rcases bad2 with z | z
          · exact z
          · rw [z] at eb
            cases eb
      obtain ⟨jv, dj, xj, smj, badj, ej⟩ := both _ rfl
      clear both bad2 sm2 pd2 x3
      cases hb : isNil d2
      · refine iteF ?_
        rw [hb, if_neg (by simp)] at ej
        unfold L2.tNext
        dsimp only
        rw [show ([some (.ref l), some v, some ov, some (.int wi), some (.ref p1), some iv, none] : L2.St) = ([some (.ref l), some v, some ov, some (.int wi), some (.ref p1), some jv, none] : L2.St) by rw [ej]]
        -- bad orders
        refine gm_seq (S := Al SbO 6) (P := KX.Env l ([some (.ref l), some v, some ov, some (.int wi), some (.ref p1), some jv, none] : L2.St) [(v, .tuple (rs.map encR)), (ov, .tuple (os.map encO))] []) ?_ st3 ⟨rfl, alld_cons hd3 (alld_cons ho3 alld_nil), allm_nil⟩ fun H4 p4 xs4 ds4 g4 k4 st4 n4 e4 x4 => ?_
        · have oT : GD l (KX.Env l ([some (.ref l), some v, some ov, some (.int wi), some (.ref p1), some jv, none] : L2.St) [(v, .tuple (rs.map encR)), (ov, .tuple (os.map encO))] []) (· = .tuple (os.map encO)) (tVar 2) := gd_env (v := ov) rfl (by simp)
          exact al_lst (al_cons kp_env (con (fun H => .non) sbO_none) (al_cons kp_env ((gd_listOf oT).imp fun _ e => by subst e; exact sbO_list _)
            (al_cons kp_env ((oneT kp_env (twoT kp_env (gd_c (v := .int 4) fun H => .int 4) (gd_c (v := .str "asc") fun H => .str "asc"))).imp fun _ e => by subst e; exact sbO_over)
            (al_cons kp_env ((twoT kp_env (gd_c (v := .int 0) fun H => .int 0) (gd_c (v := .str "asc") fun H => .str "asc")).imp fun _ e => by subst e; exact sbO_flat)
            (al_cons kp_env ((oneT kp_env (twoT kp_env (gd_c (v := .int 0) fun H => .int 0) (gd_c (v := .str "ASC") fun H => .str "ASC"))).imp fun _ e => by subst e; exact sbO_caps)
            (al_cons kp_env ((twoT kp_env (twoT kp_env (gd_c (v := .int 0) fun H => .int 0) (gd_c (v := .str "asc") fun H => .str "asc")) (twoT kp_env (gd_c (v := .int 0) fun H => .int 0) (gd_c (v := .str "asc") fun H => .str "asc"))).imp fun _ e => by subst e; exact sbO_twice) al_nil)))))) (by decide)
        have hd4 := hd3.up k4.same
        have ho4 := ho3.up k4.same
        have xj4 := xj.up k4.same
        change tSeq _ _ _ ([some (.ref l), some v, some ov, some (.int wi), some (.ref p4), some jv, none] : L2.St) H4
        refine gd_seq (S := SbO) (P := KX.Env l ([some (.ref l), some v, some ov, some (.int wi), some (.ref p4), some jv, none] : L2.St) [(v, .tuple (rs.map encR)), (ov, .tuple (os.map encO))] [(p4, xs4, ds4)]) (al_ix (n := 6) (m := 6) kp_env ((gm_env (xs := xs4) (ds := ds4) rfl (by simp)).imp fun _ e => by subst e; exact g4) (dr 6 rfl (by decide) (by decide)) rfl)
          st4 ⟨rfl, alld_cons hd4 (alld_cons ho4 alld_nil), allm_one n4 e4 x4⟩ fun H5 bv db hsb k5 st5 x5 => ?_
        have hd5 := hd4.up k5.same
        have ho5 := ho4.up k5.same
        have xj5 := xj4.up k5.same
        have k05 := (k3.trans k4).trans k5
        have t5 := tabs_keep k05 st ht
        have e05 := keep_ext k05
        obtain ⟨okb, badb⟩ := hsb
        clear hd4 ho4 xj4 k4 k5 st4 n4 e4 x4 g4
        change tSeq _ _ _ ([some (.ref l), some v, some ov, some (.int wi), some (.ref p4), some jv, some bv] : L2.St) H5
        -- a rowset that is none
        refine ⟨jv, rfl, ov, rfl, bv, rfl, by show 2 ≤ sizeLine; decide, fun L nL => ⟨.ref l, rfl, l, 2, rfl, st5.new nL, by decide, by decide, fun H6 d6 k6 st6 d60 d61 => ?_⟩⟩
        have eL : H6 L = some (.lst [ov, bv]) := k6 _ _ (st5.ne nL) upd_same
        have k56 : Keep l H5 H6 := ((Keep.refl l H5).new nL).trans k6
        have pk : ∃ (ow : V) (dw : PyData), atI [ov, bv] d6 = some ow ∧ Dx (hid l H6) ow dw ∧ okO dw := by
          have hq : d6 = 0 ∨ d6 = 1 := by omega
          rcases hq with z | z <;> rw [z]
          · exact ⟨ov, _, rfl, ho5.up k56.same, ord_okO⟩
          · exact ⟨bv, db, rfl, x5.up k56.same, okb⟩
        obtain ⟨ow, dw, eo, xo, oko⟩ := pk
        refine ⟨L, _, d6, ow, rfl, rfl, .inl (.inl eL), eo, ?_⟩
        refine ⟨jv, ow, dj, dw, rfl, tabs_keep k56 st5 t5, (xj5.up k56.same).up (hid_same l H6), smj, xo.up (hid_same l H6), oko, fun _ H7 e7 t7 => ?_, fun rs' e ok => absurd badj (by rw [e, rsok_true ok]; simp)⟩
        refine ⟨rfl, _, rfl, iteNS rfl ?_⟩
        have e57 := (keep_ext k56).trans (ext_hid e7)
        have hd7 := hd5.ext e57
        have xb7 := x5.ext e57
        have st7 := sto_ext e7 st6
        have e07 := e05.trans e57
        clear xo oko eo eL k56 xj5 ho5 nL
        -- a bad order
        refine ⟨v, rfl, bv, rfl, v, bv, _, db, rfl, t7, hd7.up (hid_same l H7), g.sm, xb7.up (hid_same l H7), okb, fun h => absurd h (by rw [rsok_true g.ok]; simp), fun rs' e ok => ⟨fun _ H8 e8 t8 => ?_, fun h => absurd h (by rw [badb _ (width_ok ok).2.1]; simp)⟩⟩
        refine ⟨rfl, _, rfl, iteNS rfl ?_⟩
        have hd8 := hd7.ext (ext_hid e8)
        have st8 := sto_ext e8 st7
        have e08 := e07.trans (ext_hid e8)
        clear hd7 xb7 st7 e07 e57
        -- a column outside
        refine ⟨.int wi, rfl, rfl, _, rfl, ?_⟩
        rw [dec_int]
        by_cases h4 : wi = 4
        · rw [decide_eq_true h4]
          exact iteT (q H8 e08 st8 t8)
        · rw [decide_eq_false h4]
          obtain ⟨a, xs, rfl, ea, hxs⟩ := dx_tup' (hd8.up (hid_same l H8))
          refine iteF ⟨.ref a, rfl, Nat.zero_le _, fun p np => ⟨a, p, xs, rfl, rfl, .inl (.inl (same_new np _ _ ea)), .inl (.inl upd_same), _, rfl, ?_⟩⟩
          have lxs := hxs.len
          rw [List.length_map] at lxs
          have e9 : LamX.ExtN (hid l H8) (hid l (upd H8 p (.tup []))) := ext_hid (ext_same (same_new np))
          have st9 := st8.new (o := .tup []) np
          have t9 := tabs_same (same_new (o := .tup []) np) t8
          generalize upd H8 p (.tup []) = H9 at e9 st9 t9
          by_cases hnil : rs = []
          · have : xs = [] := List.length_eq_zero_iff.mp (by rw [lxs, hnil]; rfl)
            rw [this]
            exact iteT (q H9 (e08.trans e9) st9 t9)
          · have : xs.isEmpty = false := by
              cases xs with
              | nil => exact absurd (List.length_eq_zero_iff.mp lxs.symm) hnil
              | cons x xs => rfl
            rw [this]
            have ww : widthI rs = wi := hww.resolve_left hnil
            refine iteF ⟨.ref a, rfl, .int wi, rfl, by show 2 ≤ sizeLine; decide, fun p2 np2 => ⟨by show 1 ≤ sizeLine; decide, fun p3 np3 => ?_⟩⟩
            have s11 : Same H9 (upd (upd H9 p2 (.tup [.int wi, .str "asc"])) p3 (.tup [.ref p2])) := (same_new np2).trans (same_new np3)
            have xw : Dx (upd (upd H9 p2 (.tup [.int wi, .str "asc"])) p3 (.tup [.ref p2])) (.ref p3) (.tuple (([(wi, "asc")] : List Ord).map encO)) :=
              .tup upd_same (.cons (.tup (same_new np3 _ _ upd_same) (.cons (.int _) (.cons (.str _) .nil))) .nil)
            generalize upd (upd H9 p2 (.tup [.int wi, .str "asc"])) p3 (.tup [.ref p2]) = H11 at s11 xw
            refine ⟨.ref a, .ref p3, _, _, rfl, tabs_same s11 t9, ((hd8.ext e9).up (hid_same l H9)).up s11, g.sm, xw, ord_okO, fun h => absurd h (by rw [rsok_true g.ok]; simp), fun rs' e ok => ?_⟩
            have e := recs_inj e
            subst e
            have bad : ordD (widthI rs) (.tuple (([(wi, "asc")] : List Ord).map encO)) = false := ord_all (by
              show (dirD (widthI rs) 2 (.tuple [.int wi, .str "asc"]) && true) = false
              rw [dir_over (by omega), Bool.false_and])
            refine ⟨fun _ H12 e12 t12 => ?_, fun h => absurd h (by rw [bad]; simp)⟩
            have e11 := (ext_same s11).trans e12
            refine ⟨rfl, ?_⟩
            rw [decide_eq_true rfl]
            exact q H12 ((e08.trans e9).trans (ext_hid e11)) (sto_ext e11 st9) t12
      · refine iteT ?_
        rw [hb, if_pos rfl] at ej
        refine gn_to (σ' := ([some (.ref l), some v, some ov, some (.int wi), some (.ref p1), some jv, none] : L2.St)) (by rw [ej]; rfl) ?_
        dsimp only
        -- bad orders
        refine gm_seq (S := Al SbO 6) (P := KX.Env l ([some (.ref l), some v, some ov, some (.int wi), some (.ref p1), some jv, none] : L2.St) [(v, .tuple (rs.map encR)), (ov, .tuple (os.map encO))] []) ?_ st3 ⟨rfl, alld_cons hd3 (alld_cons ho3 alld_nil), allm_nil⟩ fun H4 p4 xs4 ds4 g4 k4 st4 n4 e4 x4 => ?_
        · have oT : GD l (KX.Env l ([some (.ref l), some v, some ov, some (.int wi), some (.ref p1), some jv, none] : L2.St) [(v, .tuple (rs.map encR)), (ov, .tuple (os.map encO))] []) (· = .tuple (os.map encO)) (tVar 2) := gd_env (v := ov) rfl (by simp)
          exact al_lst (al_cons kp_env (con (fun H => .non) sbO_none) (al_cons kp_env ((gd_listOf oT).imp fun _ e => by subst e; exact sbO_list _)
            (al_cons kp_env ((oneT kp_env (twoT kp_env (gd_c (v := .int 4) fun H => .int 4) (gd_c (v := .str "asc") fun H => .str "asc"))).imp fun _ e => by subst e; exact sbO_over)
            (al_cons kp_env ((twoT kp_env (gd_c (v := .int 0) fun H => .int 0) (gd_c (v := .str "asc") fun H => .str "asc")).imp fun _ e => by subst e; exact sbO_flat)
            (al_cons kp_env ((oneT kp_env (twoT kp_env (gd_c (v := .int 0) fun H => .int 0) (gd_c (v := .str "ASC") fun H => .str "ASC"))).imp fun _ e => by subst e; exact sbO_caps)
            (al_cons kp_env ((twoT kp_env (twoT kp_env (gd_c (v := .int 0) fun H => .int 0) (gd_c (v := .str "asc") fun H => .str "asc")) (twoT kp_env (gd_c (v := .int 0) fun H => .int 0) (gd_c (v := .str "asc") fun H => .str "asc"))).imp fun _ e => by subst e; exact sbO_twice) al_nil)))))) (by decide)
        have hd4 := hd3.up k4.same
        have ho4 := ho3.up k4.same
        have xj4 := xj.up k4.same
        change tSeq _ _ _ ([some (.ref l), some v, some ov, some (.int wi), some (.ref p4), some jv, none] : L2.St) H4
        refine gd_seq (S := SbO) (P := KX.Env l ([some (.ref l), some v, some ov, some (.int wi), some (.ref p4), some jv, none] : L2.St) [(v, .tuple (rs.map encR)), (ov, .tuple (os.map encO))] [(p4, xs4, ds4)]) (al_ix (n := 6) (m := 6) kp_env ((gm_env (xs := xs4) (ds := ds4) rfl (by simp)).imp fun _ e => by subst e; exact g4) (dr 6 rfl (by decide) (by decide)) rfl)
          st4 ⟨rfl, alld_cons hd4 (alld_cons ho4 alld_nil), allm_one n4 e4 x4⟩ fun H5 bv db hsb k5 st5 x5 => ?_
        have hd5 := hd4.up k5.same
        have ho5 := ho4.up k5.same
        have xj5 := xj4.up k5.same
        have k05 := (k3.trans k4).trans k5
        have t5 := tabs_keep k05 st ht
        have e05 := keep_ext k05
        obtain ⟨okb, badb⟩ := hsb
        clear hd4 ho4 xj4 k4 k5 st4 n4 e4 x4 g4
        change tSeq _ _ _ ([some (.ref l), some v, some ov, some (.int wi), some (.ref p4), some jv, some bv] : L2.St) H5
        -- a rowset that is none
        refine ⟨jv, rfl, ov, rfl, bv, rfl, by show 2 ≤ sizeLine; decide, fun L nL => ⟨.ref l, rfl, l, 2, rfl, st5.new nL, by decide, by decide, fun H6 d6 k6 st6 d60 d61 => ?_⟩⟩
        have eL : H6 L = some (.lst [ov, bv]) := k6 _ _ (st5.ne nL) upd_same
        have k56 : Keep l H5 H6 := ((Keep.refl l H5).new nL).trans k6
        have pk : ∃ (ow : V) (dw : PyData), atI [ov, bv] d6 = some ow ∧ Dx (hid l H6) ow dw ∧ okO dw := by
          have hq : d6 = 0 ∨ d6 = 1 := by omega
          rcases hq with z | z <;> rw [z]
          · exact ⟨ov, _, rfl, ho5.up k56.same, ord_okO⟩
          · exact ⟨bv, db, rfl, x5.up k56.same, okb⟩
        obtain ⟨ow, dw, eo, xo, oko⟩ := pk
        refine ⟨L, _, d6, ow, rfl, rfl, .inl (.inl eL), eo, ?_⟩
        refine ⟨jv, ow, dj, dw, rfl, tabs_keep k56 st5 t5, (xj5.up k56.same).up (hid_same l H6), smj, xo.up (hid_same l H6), oko, fun _ H7 e7 t7 => ?_, fun rs' e ok => absurd badj (by rw [e, rsok_true ok]; simp)⟩
        refine ⟨rfl, _, rfl, iteNS rfl ?_⟩
        have e57 := (keep_ext k56).trans (ext_hid e7)
        have hd7 := hd5.ext e57
        have xb7 := x5.ext e57
        have st7 := sto_ext e7 st6
        have e07 := e05.trans e57
        clear xo oko eo eL k56 xj5 ho5 nL
        -- a bad order
        refine ⟨v, rfl, bv, rfl, v, bv, _, db, rfl, t7, hd7.up (hid_same l H7), g.sm, xb7.up (hid_same l H7), okb, fun h => absurd h (by rw [rsok_true g.ok]; simp), fun rs' e ok => ⟨fun _ H8 e8 t8 => ?_, fun h => absurd h (by rw [badb _ (width_ok ok).2.1]; simp)⟩⟩
        refine ⟨rfl, _, rfl, iteNS rfl ?_⟩
        have hd8 := hd7.ext (ext_hid e8)
        have st8 := sto_ext e8 st7
        have e08 := e07.trans (ext_hid e8)
        clear hd7 xb7 st7 e07 e57
        -- a column outside
        refine ⟨.int wi, rfl, rfl, _, rfl, ?_⟩
        rw [dec_int]
        by_cases h4 : wi = 4
        · rw [decide_eq_true h4]
          exact iteT (q H8 e08 st8 t8)
        · rw [decide_eq_false h4]
          obtain ⟨a, xs, rfl, ea, hxs⟩ := dx_tup' (hd8.up (hid_same l H8))
          refine iteF ⟨.ref a, rfl, Nat.zero_le _, fun p np => ⟨a, p, xs, rfl, rfl, .inl (.inl (same_new np _ _ ea)), .inl (.inl upd_same), _, rfl, ?_⟩⟩
          have lxs := hxs.len
          rw [List.length_map] at lxs
          have e9 : LamX.ExtN (hid l H8) (hid l (upd H8 p (.tup []))) := ext_hid (ext_same (same_new np))
          have st9 := st8.new (o := .tup []) np
          have t9 := tabs_same (same_new (o := .tup []) np) t8
          generalize upd H8 p (.tup []) = H9 at e9 st9 t9
          by_cases hnil : rs = []
          · have : xs = [] := List.length_eq_zero_iff.mp (by rw [lxs, hnil]; rfl)
            rw [this]
            exact iteT (q H9 (e08.trans e9) st9 t9)
          · have : xs.isEmpty = false := by
              cases xs with
              | nil => exact absurd (List.length_eq_zero_iff.mp lxs.symm) hnil
              | cons x xs => rfl
            rw [this]
            have ww : widthI rs = wi := hww.resolve_left hnil
            refine iteF ⟨.ref a, rfl, .int wi, rfl, by show 2 ≤ sizeLine; decide, fun p2 np2 => ⟨by show 1 ≤ sizeLine; decide, fun p3 np3 => ?_⟩⟩
            have s11 : Same H9 (upd (upd H9 p2 (.tup [.int wi, .str "asc"])) p3 (.tup [.ref p2])) := (same_new np2).trans (same_new np3)
            have xw : Dx (upd (upd H9 p2 (.tup [.int wi, .str "asc"])) p3 (.tup [.ref p2])) (.ref p3) (.tuple (([(wi, "asc")] : List Ord).map encO)) :=
              .tup upd_same (.cons (.tup (same_new np3 _ _ upd_same) (.cons (.int _) (.cons (.str _) .nil))) .nil)
            generalize upd (upd H9 p2 (.tup [.int wi, .str "asc"])) p3 (.tup [.ref p2]) = H11 at s11 xw
            refine ⟨.ref a, .ref p3, _, _, rfl, tabs_same s11 t9, ((hd8.ext e9).up (hid_same l H9)).up s11, g.sm, xw, ord_okO, fun h => absurd h (by rw [rsok_true g.ok]; simp), fun rs' e ok => ?_⟩
            have e := recs_inj e
            subst e
            have bad : ordD (widthI rs) (.tuple (([(wi, "asc")] : List Ord).map encO)) = false := ord_all (by
              show (dirD (widthI rs) 2 (.tuple [.int wi, .str "asc"]) && true) = false
              rw [dir_over (by omega), Bool.false_and])
            refine ⟨fun _ H12 e12 t12 => ?_, fun h => absurd h (by rw [bad]; simp)⟩
            have e11 := (ext_same s11).trans e12
            refine ⟨rfl, ?_⟩
            rw [decide_eq_true rfl]
            exact q H12 ((e08.trans e9).trans (ext_hid e11)) (sto_ext e11 st9) t12
end
end Z1

set_option maxRecDepth 100000
set_option maxHeartbeats 4000000
/-! Ex31: zip of a tuple and a list (Ex5 with the roles exchanged) -/
namespace KX
open PySem PySem.Spec PyProof.Rows L2
def ItN (K : PySem.W.Frag) (a b : Addr) : It :=
  ⟨fun i H => ∃ (xs ys : List V) (x y : V), SqT K H a xs ∧ SqL K H b ys ∧ xs[i]? = some x ∧ ys[i]? = some y,
    fun i H v G => ∃ T x y, v = .ref T ∧ H T = none ∧ G = upd H T (.tup [x, y]) ∧ (∀ xs, SqT K H a xs → xs[i]? = some x) ∧ ∀ ys, SqL K H b ys → ys[i]? = some y,
    fun i H => ∃ xs ys : List V, SqT K H a xs ∧ SqL K H b ys ∧ xs.length = i ∧ ys.length = i⟩
theorem turn_n {P : Program} {w : World} {K : PySem.W.Frag} {elts : List Expr} {kk : Nat} {tpos : Pos} {a b z TI TO i1 i2 : Addr} (D : ZipApart z TI TO i1 i2 a b) :
    Turn P w K (.Tuple elts kk tpos) (ItN K a b) [z, TI, TO, i1, i2] z (fun i h => IsZip h z TI TO .none ∧ IsPair h TI (.ref i1) (.ref i2) ∧ (∃ x y, IsPair h TO x y) ∧ h.IsTupleIter i1 a i ∧ h.IsListIter i2 b i) where
  mem := by simp
  obj := fun i h st c hc => by
    obtain ⟨hz, hTI, ⟨x, y, hTO⟩, ⟨o1, e1, _, d1⟩, ⟨o2, e2, _, d2⟩⟩ := st
    simp only [List.mem_cons, List.not_mem_nil, or_false] at hc
    rcases hc with rfl | rfl | rfl | rfl | rfl
    · exact ⟨_, hz, fun v q => nomatch q⟩
    · exact ⟨_, hTI, fun v q => nomatch q⟩
    · exact ⟨_, hTO, fun v q => nomatch q⟩
    · exact ⟨o1, e1, fun v q => by rw [d1] at q; cases q⟩
    · exact ⟨o2, e2, fun v q => by rw [d2] at q; cases q⟩
  keep := fun i h h' st k => by
    obtain ⟨hz, hTI, ⟨x, y, hTO⟩, t1, t2⟩ := st
    exact ⟨k z (by simp) _ hz, k TI (by simp) _ hTI, ⟨x, y, k TO (by simp) _ hTO⟩, t1.at fun o q => k i1 (by simp) o q, t2.at fun o q => k i2 (by simp) o q⟩
  item := by
    intro X hP hw hK hc i pins s σ H E I hf st hg
    subst hP hw hK
    obtain ⟨hz, hTI, ⟨x0, y0, hTO⟩, t1, t2⟩ := st
    obtain ⟨xs, ys, x, y, hqx, hqy, hx, hy⟩ := hg
    obtain ⟨its, rv, pl, _⟩ := I.tuple hqx
    obtain ⟨its2, rv2, pt, _⟩ := I.list hqy
    obtain ⟨u, hu, ru⟩ := rv.get hx
    obtain ⟨u2, hu2, ru2⟩ := rv2.get hy
    have zl : z < s.heap.objs.size := Heap.lt_size hz
    have hh : X.A.in1.handled = none := I.ok.hd hc
    have li : i < its.toArray.size := by simpa using (List.getElem?_eq_some_iff.mp hu).1
    have li2 : i < its2.toArray.size := by simpa using (List.getElem?_eq_some_iff.mp hu2).1
    refine wpAny_pyNext_zipD2_item (sep_of D) (Draws.tuple hh i1 a D.l1i1 its.toArray) (Draws.list hh i2 b D.l2i2 its2.toArray) hz hTI hTO ⟨t1, pl⟩ ⟨t2, pt.isList⟩ li li2 fun x1 x2 h' tk q1 q2 z' TO' s1' s2' hT hsz hk => ?_
    have e1 : x1 = u := Option.some.inj (q1.symm.trans (by simpa using hu))
    have e2 : x2 = u2 := Option.some.inj (q2.symm.trans (by simpa using hu2))
    subst e1 e2
    refine ⟨_, rfl, wpAny_letOwnedTupleGo_zip (s := { s with heap := h', toks := tk }) z' fun h'' z'' sb => ?_⟩
    have hT2 : h''.get? s.heap.objs.size = some { cls := .type "tuple", data := .seq #[x1, x2] } := (sb.2 _ (Nat.ne_of_gt zl)).trans hT
    have new : ObjOk X.prog X.w (upd H s.heap.objs.size (.tup [x, y])) h'' s.heap.objs.size (.tup [x, y]) := ⟨by show 2 ≤ sizeLine; decide, [x1, x2], .cons ru (.cons ru2 .nil), ⟨_, hT2, rfl, _, rfl⟩⟩
    have moved : ∀ c o, c ∉ [z, TI, TO, i1, i2] → s.heap.get? c = some o → h''.get? c = some o := fun c o hb q => by
      simp only [List.mem_cons, List.not_mem_nil, or_false, not_or] at hb
      exact (sb.2 c hb.1).trans (hk c o hb.1 hb.2.2.1 hb.2.2.2.1 hb.2.2.2.2 q)
    have I1 : Inv X pins σ (upd H s.heap.objs.size (.tup [x, y])) { s with heap := h'', toks := tk } := I.turnedNew (t' := tk) (ch := [z, TI, TO, i1, i2]) moved hf (Nat.le_refl _) new
    refine ⟨.ref s.heap.objs.size, _, I1, rfl, ⟨_, x, y, rfl, I.hok.fresh (Nat.le_refl _), rfl, fun l hl => by rw [I.tuple_inj hl hqx]; exact hx, fun l hl => by rw [I.list_inj hl hqy]; exact hy⟩,
      ⟨z'', (sb.2 _ D.TIz).trans (hk _ _ D.TIz D.TITO D.TIi1 D.TIi2 hTI), ⟨x1, x2, (sb.2 _ D.TOz).trans TO'⟩, s1'.1.at fun o q => (sb.2 _ D.i1z).trans q, s2'.1.at fun o q => (sb.2 _ D.i2z).trans q⟩, fun c hcm => ?_⟩
    have lt : c < s.heap.objs.size := by
      simp only [List.mem_cons, List.not_mem_nil, or_false] at hcm
      rcases hcm with rfl | rfl | rfl | rfl | rfl
      · exact zl
      · exact Heap.lt_size hTI
      · exact Heap.lt_size hTO
      · obtain ⟨_, q, _⟩ := t1; exact Heap.lt_size q
      · obtain ⟨_, q, _⟩ := t2; exact Heap.lt_size q
    rw [upd_ne (Nat.ne_of_lt lt)]
    exact (hf c hcm).1
  done := by
    intro X hP hw hK hc i pins s σ H E I hf st hg
    subst hP hw hK
    obtain ⟨hz, hTI, ⟨x0, y0, hTO⟩, t1, t2⟩ := st
    obtain ⟨xs, ys, hqx, hqy, e1, e2⟩ := hg
    obtain ⟨its, rv, pl, _⟩ := I.tuple hqx
    obtain ⟨its2, rv2, pt, _⟩ := I.list hqy
    have l1 := rv.length
    have l2 := rv2.length
    have hh : X.A.in1.handled = none := I.ok.hd hc
    have s1 : its.toArray.size = i := by simp; omega
    have s2 : its2.toArray.size = i := by simp; omega
    refine wpAny_pyNext_zipD2_end (sep_of D) (Draws.tuple hh i1 a D.l1i1 its.toArray) (Draws.list hh i2 b D.l2i2 its2.toArray) hz hTI hTO ⟨t1, pl⟩ ⟨t2, pt.isList⟩ (by omega) (by omega) (.inl s1.symm) fun h' tk hk => ⟨rfl, ?_⟩
    refine I.turnedL (t' := tk) (ch := [z, TI, TO, i1, i2]) (fun c o hb q => ?_) hf
    simp only [List.mem_cons, List.not_mem_nil, or_false, not_or] at hb
    exact hk c o hb.1 hb.2.2.1 hb.2.2.2.1 hb.2.2.2.2 q
  self := fun A i s Q E st h => wpAny_pyIter_zip st.1 h
/-! the call -/
abbrev zn1 (h : Heap) (a : Addr) : Heap := h.push { cls := .type "tuple_iterator", data := .fields #[.ref a, .int 0 0] }
abbrev zn2 (h : Heap) (a b : Addr) : Heap := (zn1 h a).push { cls := .type "list_iterator", data := .fields #[.ref b, .int 0 0] }
abbrev zn3 (h : Heap) (a b : Addr) : Heap := (zn2 h a b).push { cls := .type "tuple", data := .seq #[.ref h.objs.size, .ref (zn1 h a).objs.size] }
abbrev zn4 (h : Heap) (a b : Addr) : Heap := (zn3 h a b).push { cls := .type "tuple", data := .seq #[.none, .none] }
abbrev zn5 (h : Heap) (a b : Addr) : Heap := (zn4 h a b).push { cls := .type "zip", data := .fields #[.none, .bool false, .bool false, .ref (zn2 h a b).objs.size, .ref (zn3 h a b).objs.size] }
theorem meets_zn (a b : Addr) (xs ys : Array Value) :
    Meets (Builtin.«zip.__new__» ⟨[.type "zip", .ref a, .ref b], []⟩) (fun _ R s => s.heap.IsTuple a xs ∧ s.heap.IsList b ys ∧ R (.ok (.ret (.ref (zn4 s.heap a b).objs.size))) { s with heap := zn5 s.heap a b }) :=
  .of_wp fun prog w A R s h => by
    obtain ⟨hp, g, d, tk, os⟩ := s
    obtain ⟨ha, hb, h⟩ := h
    have hsub := sub_zip
    have La : Heap.IsTuple (Shared.heap ⟨hp, g, d, tk, os⟩) a xs := ha
    have Lb : Heap.IsList (Shared.heap ⟨hp.push { cls := .type "tuple_iterator", data := .fields #[.ref a, .int 0 0] }, g, d, tk, os⟩) b ys := Heap.IsList.push hb _
    wp_walk using wpAny_pyIter_tuple La, wpAny_pyIter_list Lb
    exact ⟨_, rfl, h⟩
section
variable {prog : Program} {w : World} {A : Around} {E : Value → Shared → Prop} {s : Shared}
theorem call_zn {a b : Addr} {xs ys : Array Value} {Q : Value → Shared → Prop} (ha : s.heap.IsTuple a xs) (hb : s.heap.IsList b ys)
    (go : ∀ h', IsZip h' (s.heap.objs.size + 4) (s.heap.objs.size + 2) (s.heap.objs.size + 3) .none → IsPair h' (s.heap.objs.size + 2) (.ref s.heap.objs.size) (.ref (s.heap.objs.size + 1)) → IsPair h' (s.heap.objs.size + 3) .none .none →
      h'.IsTupleIter s.heap.objs.size a 0 → h'.IsListIter (s.heap.objs.size + 1) b 0 → (∀ c o, s.heap.get? c = some o → h'.get? c = some o) → Q (.ref (s.heap.objs.size + 4)) { s with heap := h' }) :
    wpAny (model prog w) A (call (.type "zip") [.ref a, .ref b]) Q E s := by
  refine callType_new F.called_zip (by decide) (F.typeCall_zip_2 _ _) (F.newCall_zip_2 _ _) (fun obj => F.args_object_init_3 obj _ _) F.entry_zip_new (meets_zn a b xs ys) ⟨ha, hb, ?_⟩
  have n1 : (zn1 s.heap a).objs.size = s.heap.objs.size + 1 := by rw [Heap.size_push]
  have n2 : (zn2 s.heap a b).objs.size = s.heap.objs.size + 2 := by rw [Heap.size_push, n1]
  have n3 : (zn3 s.heap a b).objs.size = s.heap.objs.size + 3 := by rw [Heap.size_push, n2]
  have n4 : (zn4 s.heap a b).objs.size = s.heap.objs.size + 4 := by rw [Heap.size_push, n3]
  have k45 : ∀ {c o}, (zn4 s.heap a b).get? c = some o → (zn5 s.heap a b).get? c = some o := fun e => Heap.get?_push_of_some _ e
  have k35 : ∀ {c o}, (zn3 s.heap a b).get? c = some o → (zn5 s.heap a b).get? c = some o := fun e => k45 (Heap.get?_push_of_some _ e)
  have k25 : ∀ {c o}, (zn2 s.heap a b).get? c = some o → (zn5 s.heap a b).get? c = some o := fun e => k35 (Heap.get?_push_of_some _ e)
  have k15 : ∀ {c o}, (zn1 s.heap a).get? c = some o → (zn5 s.heap a b).get? c = some o := fun e => k25 (Heap.get?_push_of_some _ e)
  have o5 : (zn5 s.heap a b).get? (zn4 s.heap a b).objs.size = some _ := Heap.get?_push_size _ rfl
  have o4 := k45 (c := (zn3 s.heap a b).objs.size) (Heap.get?_push_size _ rfl)
  have o3 := k35 (c := (zn2 s.heap a b).objs.size) (Heap.get?_push_size _ rfl)
  have o2 := k25 (c := (zn1 s.heap a).objs.size) (Heap.get?_push_size _ rfl)
  have o1 := k15 (c := s.heap.objs.size) (Heap.get?_push_size _ rfl)
  show _ ∧ _
  rw [n2, n3, n4] at o5
  rw [n3] at o4
  rw [n1, n2] at o3
  rw [n1] at o2
  rw [n4]
  exact ⟨⟨_, o5, rfl⟩, go _ o5 o3 o4 ⟨_, o1, rfl, rfl⟩ ⟨_, o2, rfl, rfl⟩ fun c o x => k15 (Heap.get?_push_of_some _ x)⟩
end
def iZipN (K : PySem.W.Frag) (ta : TA) : TI := fun σ H R => ta σ H fun vs H1 => ∃ a b xs ys, vs = [.ref a, .ref b] ∧ SqT K H1 a xs ∧ SqL K H1 b ys ∧ R (ItN K a b) H1
theorem pi_zipN {X : Cx} {e e2 : Expr} {ta : TA} {p pos tpos : Pos} {elts : List Expr} {kk : Nat} (hg : Gl X "zip") (hm : X.mg "zip" = none) (ha : PA X [e, e2] ta)
    (hs : starEach [e, e2] X.env = (false, eval e X.env) :: starEach [e2] X.env := by rfl) (hpl : (backTo pos (starEach [e2] X.env)).any (·.1) = false := by rfl) :
    PI X (.Tuple elts kk tpos) (.Call (.Name "zip" p) [e, e2] [] pos) (iZipN X.K ta) := by
  refine ⟨fun pins s σ H R I h => ?_⟩
  refine Call_ (ld_blt I hg hm PyProof.Rows.boot_zip (PyProof.Rows.callWith_type1 (thn (ha.run pos pins s σ H _ I h) fun us s1 z => ?_) hs hpl))
  obtain ⟨vs, H1, I1, r1, a, b, xs, ys, ex, hqx, hqy, q⟩ := z
  subst ex
  obtain rfl : us = [.ref a, .ref b] := by
    cases r1 with
    | cons r rr =>
      cases rr with
      | cons r' rr =>
        cases rr
        cases r
        cases r'
        rfl
  obtain ⟨its, rv, pl, _⟩ := I1.tuple hqx
  obtain ⟨its2, rv2, pt, _⟩ := I1.list hqy
  have lta : a < s1.heap.objs.size := by
    obtain ⟨o, ho, _⟩ := id pl
    exact Heap.lt_size ho
  refine call_zn (show s1.heap.IsTuple a its.toArray from pl) pt.isList fun h' hz hTI hTO t1 t2 hk => wpAny_pyIter_zip hz ?_
  have I2 : Inv X pins σ H1 { s1 with heap := h' } := I1.kept (t' := s1.toks) hk
  refine ⟨s1.heap.objs.size + 4, [s1.heap.objs.size + 4, s1.heap.objs.size + 2, s1.heap.objs.size + 3, s1.heap.objs.size, s1.heap.objs.size + 1], _, _, H1, rfl, I2, turn_n (PySem.W.ktu_apart s1.heap.objs.size a b lta pt.lt), ⟨hz, hTI, ⟨_, _, hTO⟩, t1, t2⟩, fun c hcm => ?_, q⟩
  have le : s1.heap.objs.size ≤ c := by
    simp only [List.mem_cons, List.not_mem_nil, or_false] at hcm
    rcases hcm with rfl | rfl | rfl | rfl | rfl <;> omega
  exact I1.fpOk le (I1.hok.fresh le)
/-- [e for x, y in zip(l, t)] -/
theorem lc_zipN {K : PySem.W.Frag} {a b : Addr} {xs ys : List V} {g : TG} {tt : TT} {te : TE} {vs : List Nat} {σ : L2.St} {H1 : Hp} {D : Addr} {Qd : Hp → Prop} (hl : xs.length = ys.length) (Pv : Nat → Hp → Prop) (h0 : Pv 0 (upd H1 D (.lst [])))
    (hq : ∀ i G, i ≤ xs.length → Pv i G → SqT K G a xs ∧ SqL K G b ys)
    (hs : ∀ (i : Nat) (x y : V) (T : Addr) (G : Hp), xs[i]? = some x → ys[i]? = some y → Pv i G → G T = none → g (.ref T) (wipe σ vs) (upd G T (.tup [x, y])) fun σ2 H2 => wipe σ2 vs = wipe σ vs ∧ tt σ2 H2 fun b H3 =>
      if b = true then te σ2 H3 fun y H4 => ∃ zs, H4 D = some (.lst zs) ∧ zs.length < sizeLine ∧ Pv (i + 1) (upd H4 D (.lst (zs ++ [y]))) else Pv (i + 1) H3) (hd : ∀ G, Pv xs.length G → Qd G) :
    ∃ W : Nat → Nat → Hp → Prop, (∃ m, W 0 m (upd H1 D (.lst []))) ∧ ∀ i m H, W i m H → ((ItN K a b).stop i H ∧ Qd H) ∨ ((ItN K a b).go i H ∧ ∃ Nx : Hp → Prop, (∀ H', Nx H' → ∃ m', m' < m ∧ W (i + 1) m' H') ∧ ∀ x H', (ItN K a b).yld i H x H' →
      g x (wipe σ vs) H' fun σ2 H2 => wipe σ2 vs = wipe σ vs ∧ tt σ2 H2 fun b H3 => if b = true then te σ2 H3 fun y H4 => ∃ zs, H4 D = some (.lst zs) ∧ zs.length < sizeLine ∧ Nx (upd H4 D (.lst (zs ++ [y]))) else Nx H3) := by
  refine ⟨fun i m H => m = xs.length - i ∧ i ≤ xs.length ∧ Pv i H, ⟨xs.length, by simp, Nat.zero_le _, h0⟩, fun i m H hw => ?_⟩
  obtain ⟨rfl, hi, p⟩ := hw
  obtain ⟨qx, qy⟩ := hq i H hi p
  by_cases lt : i < xs.length
  · refine .inr ⟨⟨xs, ys, xs[i], ys[i], qx, qy, List.getElem?_eq_getElem lt, List.getElem?_eq_getElem (by omega)⟩, Pv (i + 1), fun H' p' => ⟨xs.length - (i + 1), by omega, rfl, lt, p'⟩, fun v H' y => ?_⟩
    obtain ⟨T, x, y, rfl, nT, rfl, e1, e2⟩ := y
    exact hs i x y T H (e1 xs qx) (e2 ys qy) p nT
  · have e : i = xs.length := by omega
    subst e
    exact .inl ⟨⟨xs, ys, qx, qy, rfl, hl.symm⟩, hd H p⟩
end KX

set_option maxRecDepth 100000
set_option maxHeartbeats 4000000
namespace Z1
open PySem PySem.Spec PyProof.Rows L2 KX
theorem flat_str (bs : List Str) : (bs.map V.str).all flatV = true := by
  rw [List.all_map]
  exact List.all_eq_true.mpr fun b _ => rfl
theorem in_str (x : Str) (gs : List Str) : inV (.str x) (gs.map V.str) = decide (x ∈ gs) := by
  unfold inV
  rw [List.any_map]
  by_cases h : x ∈ gs
  · rw [decide_eq_true h]
    refine List.any_eq_true.mpr ⟨x, h, ?_⟩
    show (x == x) = true
    simp
  · rw [decide_eq_false h]
    refine List.any_eq_false.mpr fun y hy z => h ?_
    have : (y == x) = true := z
    rw [beq_iff_eq] at this
    rw [← this]
    exact hy
theorem eqv_strs : ∀ ns : List Str, PyData.eqvAll (ns.map .str) (ns.map .str) = true
  | [] => by simp [PyData.eqvAll]
  | n :: ns => by simp [PyData.eqvAll, PyData.eqv, eqv_strs ns]
theorem plain_strs : ∀ ns : List Str, PyData.plainAll (ns.map .str) = true
  | [] => by simp [PyData.plainAll]
  | n :: ns => by simp [PyData.plainAll, PyData.plain, plain_strs ns]
theorem depth_strs : ∀ ns : List Str, PyData.depthAll (ns.map .str) = 0
  | [] => by simp [PyData.depthAll]
  | n :: ns => by simp [PyData.depthAll, PyData.depth, depth_strs ns]
theorem HG.sshow {rs : List Rec} {os : List Ord} (h : HG rs os) : (PyData.tuple ((srtNm os rs).map .str)).showable = true ∧ (PyData.tuple ((srtNm os rs).map .str)).depth ≤ 100 ∧ (PyData.tuple ((srtNm os rs).map .str)).shown.length ≤ sizeLine := by
  have hm : ∀ e ∈ (srtNm os rs).map PyData.str, fine (10 ^ 40) e = true ∧ wt e ≤ 21 ∧ e.depth ≤ 0 := fun e he => by
    obtain ⟨m, hm, rfl⟩ := List.mem_map.mp he
    obtain ⟨r, hr, rfl⟩ := List.mem_map.mp hm
    obtain ⟨c, b⟩ := h.nmf r (List.mem_mergeSort.mp hr)
    exact ⟨c, by simp only [wt]; omega, by simp [PyData.depth]⟩
  have gr := wtAll_le fun e he => (hm e he).2.1
  have kr := depthAll_le fun e he => (hm e he).2.2
  have l60 := h.ok.le
  have ll : (srtNm os rs).length = rs.length := by
    unfold srtNm
    rw [List.length_map]
    exact List.length_mergeSort _
  rw [List.length_map] at gr
  refine big_show ?_ ?_ ?_
  · simp only [fine]
    exact fineAll_mem.mpr fun e he => (hm e he).1
  · simp only [wt]
    omega
  · simp only [PyData.depth]
    omega
/-! ### the law's loop -/
abbrev sLaw : Stmt := topS 52
abbrev NW : List Str := ["script", "at", "stream", "width", "total", "rowset", "order", "kept", "actual", "expected", "parts", "subset", "names", "row", "part", "name"]
theorem scLaw : FnScope NW ["script"] (defScope sLaw) := ⟨rfl, rfl, rfl, by decide +kernel, rfl, by decide +kernel, by decide +kernel⟩
def spLaw (K : PySem.W.Frag) (P0 : Addr) : Sp := fun vs H Q _ => ∃ (a : Addr) (ns : List Int), vs = [.ref a] ∧ SqL K H a (ns.map V.int) ∧ ns.length ≤ 63 ∧ H P0 = some (.tbl #[]) ∧ ∀ H', Q (.bl true) H'
def forBody : Stmt → List Stmt
  | .For _ _ b _ _ => b
  | _ => []
abbrev bLaw : List Stmt := forBody ((defBody sLaw).getD 0 (.Pass ⟨0, 0, 0, 0⟩))
abbrev cxLaw (P : Program) (w : World) (K : PySem.W.Frag) (mg : Str → Option Value) (base : Heap) (f : Addr) (cdv : Value) (A : Around) (outer : List PySem.Env) (s : Shared) (H : Hp) (E : XK) : Cx :=
  (cxOf CX0 P w K mg base NW "law" (defScope sLaw) f cdv A outer s H E).nox
/-- what the defs promise -/
structure Ds (P : Program) (w : World) (K : PySem.W.Frag) (mg : Str → Option Value) (base : Heap) (k : Nat) (RA OA P0 : Addr) (fS fD fR fL fN fT fP fE : Addr) (gS gD gR gL gN gT gP gE : FuncData) : Prop where
  S : Df K mg "_law_stream" sStream ["script", "at"] fS gS
  D : Df K mg "_law_draw" sDraw ["stream", "total"] fD gD
  R : Df K mg "_law_rowset" sRs ["stream", "total", "wide"] fR gR
  L : Df K mg "_law_order" sLO ["stream", "wide"] fL gL
  N : Df K mg "sorted_names" sSN ["rowset", "order"] fN gN
  T : Df K mg "_law_sorted" sLS ["rows", "order"] fT gT
  PM : Df K mg "_law_prefixes_match" sPM ["stream", "rowset", "order", "width"] fP gP
  EM : Df K mg "_law_errors_match" sEM ["stream", "rowset", "order", "width"] fE gE
  oS : FnOk P w K mg base CX0 k fS gS ["script", "at"] (spStream K)
  oD : FnOk P w K mg base CX0 k fD gD ["stream", "total"] spDraw
  oR : FnOk P w K mg base CX0 k fR gR ["stream", "total", "wide"] spRs
  oL : FnOk P w K mg base CX0 k fL gL ["stream", "wide"] spLO
  oN : FnOk P w K mg base (L2.CX P w) k fN gN ["rowset", "order"] (spSN RA OA P0)
  oT : FnOk P w K mg base CX0 k fT gT ["rows", "order"] spLS
  oP : FnOk P w K mg base CX0 k fP gP ["stream", "rowset", "order", "width"] (spPM P0)
  oE : FnOk P w K mg base CX0 k fE gE ["stream", "rowset", "order", "width"] (spEM P0)
section
variable {P : Program} {w : World} {K : PySem.W.Frag} {mg : Str → Option Value} {base : Heap} {RA OA P0 : Addr}
theorem body_law {k : Nat} {fS fD fR fL fN fT fP fE : Addr} {gS gD gR gL gN gT gP gE : FuncData} (B : Bl mg) (T : Ds P w K mg base k RA OA P0 fS fD fR fL fN fT fP fE gS gD gR gL gN gT gP gE)
    {f : Addr} {cdv : Value} {A : Around} {outer : List PySem.Env} {s : Shared} {H : Hp} {E : XK} (hgd : (cxLaw P w K mg base f cdv A outer s H E).A.guards = some []) (hr : Room k (cxLaw P w K mg base f cdv A outer s H E).A) {a : Addr} {ns : List Int} :
    ∃ t, PSs (cxLaw P w K mg base f cdv A outer s H E) bLaw t ∧ ∀ (D : Ends) (G : Hp) (i : Nat) (o2 o3 o4 o5 o6 o7 o8 o9 o10 o11 o12 o13 o14 o15 : Option V), SqL K G a (ns.map V.int) → i ≤ 1000 → LamX.Tabs (TS P0) G →
      (∀ G' q1 q2 q3 q4 q5 q6 q7 q8 q9 q10 q11 q12 q13 q14 q15, LamX.ExtN G G' → LamX.Tabs (TS P0) G' → D.nx [some (.ref a), q1, q2, q3, q4, q5, q6, q7, q8, q9, q10, q11, q12, q13, q14, q15] G') → t D [some (.ref a), some (.int (0 + (i : Int))), o2, o3, o4, o5, o6, o7, o8, o9, o10, o11, o12, o13, o14, o15] G := by
  have nd := scLaw.nd
  refine ⟨_, pss_cons (ps_set (i := 2) nd rfl (.inr rfl) (pe_call T.oS hr (by rfl) T.S.g T.S.F.kp T.S.b .nil pass0 (pa_cons (pv 0) (pa_cons (pv 1) pa_nil))))
    (pss_cons (ps_set (i := 3) nd rfl (.inl rfl) (pe_op op_add pe_int (pe_call T.oD hr (by rfl) T.D.g T.D.F.kp T.D.b .nil pass0 (pa_cons (pv 2) (pa_cons pe_int pa_nil)))))
    (pss_cons (ps_set (i := 4) nd rfl (.inl rfl) (pe_op op_add (pe_call T.oD hr (by rfl) T.D.g T.D.F.kp T.D.b .nil pass0 (pa_cons (pv 2) (pa_cons pe_int pa_nil))) (pe_op op_mul pe_int (pe_callTy call_int1 (by rfl) B.int (by decide +kernel) (pa_cons (pe_cmpR op_eq (pe_call T.oD hr (by rfl) T.D.g T.D.F.kp T.D.b .nil pass0 (pa_cons (pv 2) (pa_cons pe_int pa_nil))) pe_int (nomark _)) pa_nil)))))
    (pss_cons (ps_par (i := 5) (j := 6) (by rfl) nd rfl rfl (by decide) rfl rfl (pa_cons (pe_call T.oR hr (by rfl) T.R.g T.R.F.kp T.R.b .nil pass0 (pa_cons (pv 2) (pa_cons (pv 4) (pa_cons (pv 3) pa_nil)))) (pa_cons (pe_call T.oL hr (by rfl) T.L.g T.L.F.kp T.L.b .nil pass0 (pa_cons (pv 2) (pa_cons (pv 3) pa_nil))) pa_nil)) (by rfl))
    (pss_cons (ps_set (i := 7) nd rfl (.inl rfl) (pe_callB (call_reprD hr hgd) (by rfl) B.repr (by decide +kernel) (pa_cons (pe_tup (pa_cons (pv 5) (pa_cons (pv 6) pa_nil))) pa_nil)))
    (pss_cons (ps_set (i := 8) nd rfl (.inl rfl) (pe_call T.oN hr (by rfl) T.N.g T.N.F.kp T.N.b .nil passL (pa_cons (pv 5) (pa_cons (pv 6) pa_nil))))
    (pss_cons (ps_set (i := 9) nd rfl (.inl rfl) (pe_callTy call_tuple_of (by rfl) B.tuple (by decide +kernel) (pa_cons (pe_lc (own := [("row", 13)]) (g := gName 13) rfl nd (pi_list (pe_call T.oT hr (by rfl) T.T.g T.T.F.kp T.T.b .nil pass0 (pa_cons (pv 5) (pa_cons (pv 6) pa_nil)))) (blkOk_by (N := NW) (sc := defScope sLaw) (by decide +kernel)) (fun _ _ _ _ _ => pg_name (i := 13) nd rfl (Or.inl rfl)) (fun _ _ _ _ _ => pts_nil)
        (fun _ _ _ _ _ => pe_ix (r := rIxT K) ix_tup (pv 13) pe_int (fun _ _ => rfl))) pa_nil)))
    (pss_cons (ps_if (PW.pt (pw_or (pt_cmpR op_ne (pe_callB (call_reprD hr hgd) (by rfl) B.repr (by decide +kernel) (pa_cons (pv 8) pa_nil)) (pe_callB (call_reprD hr hgd) (by rfl) B.repr (by decide +kernel) (pa_cons (pv 9) pa_nil)) (nomark _)) (pw_or1 (pt_cmpR op_ne (pe_callB (call_reprD hr hgd) (by rfl) B.repr (by decide +kernel) (pa_cons (pe_tup (pa_cons (pv 5) (pa_cons (pv 6) pa_nil))) pa_nil)) (pv 7) (nomark _))))) (pss_one (ps_ret pe_bl)) pss_nil)
    (pss_cons (ps_setLc (i := 10) (own := [("row", 13)]) (g := gName 13) (by rfl) nd rfl rfl (sw_true rfl rfl rfl (by decide +kernel)) (pi_tup (pv 5)) (blkOk_by (N := NW) (sc := defScope sLaw) (by decide +kernel)) (fun _ _ _ _ _ => pg_name (i := 13) nd rfl (Or.inl rfl)) (fun _ _ _ _ _ => pts_nil)
        (fun _ _ _ _ _ => (pe_call T.oD hr (by rfl) T.D.g T.D.F.kp T.D.b .nil pass0 (pa_cons (pv 2) (pa_cons pe_int pa_nil)))))
    (pss_cons (ps_set (i := 11) nd rfl (.inl rfl) (pe_callTy call_tuple_of (by rfl) B.tuple (by decide +kernel) (pa_cons (pe_lc (own := [("row", 13), ("part", 14)]) (g := gTup K 2 (gCons (gName 13) (gCons (gName 14) gNil))) rfl nd (pi_zipN (by rfl) B.zip (pa_cons (pv 5) (pa_cons (pv 10) pa_nil))) (blkOk_by (N := NW) (sc := defScope sLaw) (by decide +kernel)) (fun _ _ _ _ _ => pg_tup (by rfl) (pgs_cons (pg_name (i := 13) nd rfl (Or.inl rfl)) (pgs_cons (pg_name (i := 14) nd rfl (Or.inl rfl)) pgs_nil)))
        (fun _ _ _ _ _ => pts_one (pt_cmpR op_gt (pv 14) pe_int (nomark _))) (fun _ _ _ _ _ => pv 13)) pa_nil)))
    (pss_cons (ps_set (i := 12) nd rfl (.inr rfl) (pe_lc (own := [("row", 13)]) (g := gName 13) rfl nd (pi_tup (pv 11)) (blkOk_by (N := NW) (sc := defScope sLaw) (by decide +kernel)) (fun _ _ _ _ _ => pg_name (i := 13) nd rfl (Or.inl rfl)) (fun _ _ _ _ _ => pts_nil)
        (fun _ _ _ _ _ => pe_ix (r := rIxT K) ix_tup (pv 13) pe_int (fun _ _ => rfl))))
    (pss_cons (ps_if (pt_cmpR (op_neP hr.units) (pe_callTy call_lst2 (by rfl) B.list (by decide +kernel) (pa_cons (pe_call T.oN hr (by rfl) T.N.g T.N.F.kp T.N.b .nil passL (pa_cons (pv 11) (pa_cons (pv 6) pa_nil))) pa_nil)) (pe_lc (own := [("name", 15)]) (g := gName 15) rfl nd (pi_tup (pv 8)) (blkOk_by (N := NW) (sc := defScope sLaw) (by decide +kernel)) (fun _ _ _ _ _ => pg_name (i := 15) nd rfl (Or.inl rfl))
        (fun _ _ _ _ _ => pts_one (pt_cmpR (r := rIn K false) op_in_seq (pv 15) (pv 12) (by rfl))) (fun _ _ _ _ _ => pv 15)) (nomark _)) (pss_one (ps_ret pe_bl)) pss_nil)
    (pss_cons (ps_if (pt_not (pt_val (pe_call T.oP hr (by rfl) T.PM.g T.PM.F.kp T.PM.b .nil pass0 (pa_cons (pv 2) (pa_cons (pv 5) (pa_cons (pv 6) (pa_cons (pv 3) pa_nil))))))) (pss_one (ps_ret pe_bl)) pss_nil)
    (pss_one (ps_if (pt_not (pt_val (pe_call T.oE hr (by rfl) T.EM.g T.EM.F.kp T.EM.b .nil pass0 (pa_cons (pv 2) (pa_cons (pv 5) (pa_cons (pv 6) (pa_cons (pv 3) pa_nil))))))) (pss_one (ps_ret pe_bl)) pss_nil)))))))))))))), fun D G i o2 o3 o4 o5 o6 o7 o8 o9 o10 o11 o12 o13 o14 o15 hS hi hT q => ?_⟩
  -- stream
  refine ⟨.ref a, rfl, .int (0 + (i : Int)), rfl, a, ns, 0 + (i : Int), rfl, hS, by omega, by omega, fun H1 l s1 nl st1 => ?_⟩
  have t1 := tabs_same s1 hT
  -- width
  refine ⟨.ref l, rfl, l, 4, rfl, st1, by decide, by decide, fun H2 d k2 st2 d0 d4 => ⟨1, d, rfl, rfl, ?_⟩⟩
  obtain ⟨wd, ewd⟩ : ∃ wd : Nat, 1 + d = (wd : Int) := ⟨(1 + d).toNat, by omega⟩
  have w1 : 1 ≤ wd := by omega
  have w4 : wd ≤ 4 := by omega
  refine gn_to (v := V.int (1 + d)) (σ' := ([some (.ref a), some (.int (0 + (i : Int))), some (.ref l), some (.int (wd : Int)), o4, o5, o6, o7, o8, o9, o10, o11, o12, o13, o14, o15] : L2.St)) (by rw [ewd]; rfl) ?_
  dsimp only
  -- total
  refine ⟨.ref l, rfl, l, 21, rfl, st2, by decide, by decide, fun H3 a1 k3 st3 a10 a11 => ?_⟩
  refine ⟨.ref l, rfl, l, 6, rfl, st3, by decide, by decide, fun H4 a2 k4 st4 a20 a21 => ?_⟩
  refine ⟨rfl, .inr ⟨_, rfl, 40, _, rfl, rfl, .inl ⟨by decide, by decide⟩, a1, _, rfl, rfl, ?_⟩⟩
  obtain ⟨nt, ent, n60⟩ : ∃ nt : Nat, a1 + 40 * (if decide (V.int a2 = V.int 0) = true then 1 else 0) = (nt : Int) ∧ nt ≤ 60 := by
    cases decide (V.int a2 = V.int 0)
    · exact ⟨a1.toNat, by simp; omega, by omega⟩
    · exact ⟨(a1 + 40).toNat, by simp; omega, by omega⟩
  refine gn_to (σ' := ([some (.ref a), some (.int (0 + (i : Int))), some (.ref l), some (.int (wd : Int)), some (.int (nt : Int)), o5, o6, o7, o8, o9, o10, o11, o12, o13, o14, o15] : L2.St)) (by rw [show (40 : Int) = 40 from rfl, ← ent]; rfl) ?_
  dsimp only
  -- rowset, order
  refine ⟨.ref l, rfl, .int (nt : Int), rfl, .int (wd : Int), rfl, l, nt, wd, rfl, st4, by omega, w1, w4, fun H5 pr recs k5 st5 hlen hmade hR => ?_⟩
  have hsl : (sortR recs).length = recs.length := List.length_mergeSort _
  have hl60 : (sortR recs).length ≤ 60 := by omega
  have sp := made_rsp hmade (by omega)
  generalize sortR recs = rs at hR hl60 sp
  clear hsl hmade hlen
  refine ⟨.ref l, rfl, .int (wd : Int), rfl, l, (wd : Int), rfl, st5, by omega, by omega, fun H6 po os k6 st6 hO xO => ⟨_, _, rfl, ?_⟩⟩
  have k16 : Keep l H1 H6 := (((k2.trans k3).trans k4).trans k5).trans k6
  have g := hg_of sp w1 w4 hl60 hO
  have t6 := tabs_keep k16 st1 t1
  have e6 := keep_ext k16
  have xR := hR.up k6.same
  clear hR k2 k3 k4 k5 k6 st2 st3 st4 st5
  change tSeq _ _ _ ([some (.ref a), some (.int (0 + (i : Int))), some (.ref l), some (.int (wd : Int)), some (.int (nt : Int)), some (.ref pr), some (.ref po), o7, o8, o9, o10, o11, o12, o13, o14, o15] : L2.St) H6
  -- kept
  obtain ⟨g1, g2, g3⟩ := g.show
  obtain ⟨shw, eshw⟩ : ∃ z, z = (PyData.tuple [.tuple (rs.map encR), .tuple (os.map encO)]).shown := ⟨_, rfl⟩
  refine ⟨.ref pr, rfl, .ref po, rfl, by show 2 ≤ sizeLine; decide, fun t nt6 => ?_⟩
  refine ⟨.ref t, _, rfl, .tup upd_same (.cons ((xR.up (hid_same l H6)).up (same_new nt6)) (.cons ((xO.up (hid_same l H6)).up (same_new nt6)) .nil)), g1, g2, g3, ?_⟩
  rw [← eshw]
  have k67 : Keep l H6 (upd H6 t (.tup [.ref pr, .ref po])) := (Keep.refl l H6).new nt6
  have st7 := st6.new (o := .tup [.ref pr, .ref po]) nt6
  refine gn_to (σ' := ([some (.ref a), some (.int (0 + (i : Int))), some (.ref l), some (.int (wd : Int)), some (.int (nt : Int)), some (.ref pr), some (.ref po), some (.str shw), o8, o9, o10, o11, o12, o13, o14, o15] : L2.St)) rfl ?_
  dsimp only
  generalize upd H6 t (.tup [.ref pr, .ref po]) = H7 at k67 st7
  have t7 := tabs_keep k67 st6 t6
  have e7 := e6.trans (keep_ext k67)
  have xR := xR.up k67.same
  have xO := xO.up k67.same
  clear t6 e6 st6 k67 nt6 k16
  -- actual
  refine tv2 rfl rfl (sn_call t7 (xR.up (hid_same l H7)) (xO.up (hid_same l H7)) g fun H8 pa e78 t8 ha => ?_)
  refine gn_to (σ' := ([some (.ref a), some (.int (0 + (i : Int))), some (.ref l), some (.int (wd : Int)), some (.int (nt : Int)), some (.ref pr), some (.ref po), some (.str shw), some (.ref pa), o9, o10, o11, o12, o13, o14, o15] : L2.St)) rfl ?_
  dsimp only
  have st8 := sto_ext e78 st7
  have xA := nms_hid st8 ha
  have xR := xR.ext (ext_hid e78)
  have xO := xO.ext (ext_hid e78)
  have e8 := e7.trans (ext_hid e78)
  clear ha e78 t7 e7 st7
  -- expected
  refine ⟨.ref pr, rfl, .ref po, rfl, H8, .ref pr, .ref po, rs, os, widthI rs, rfl, Same.refl _, xR.up (hid_same l H8), xO.up (hid_same l H8), g.ro, g.nd, fun H9 p ys s9 np ep hy => ⟨p, rfl, ⟨_, .inl (.inl ep)⟩, fun D1 nD => ?_⟩⟩
  have lsr : (srt os rs).length = rs.length := List.length_mergeSort _
  have lys := hy.len
  rw [List.length_map] at lys
  refine lc_list (xs := ys) (fun k N => Same H9 N ∧ N D1 = some (.lst ((((srt os rs).take k).map (·.nm)).map V.str))) ⟨same_new nD, upd_same⟩ (fun k N _ hN => .inl (.inl (hN.1 _ _ ep))) (fun k x N hxk hN => ?_) (fun N hN => ?_)
  · obtain ⟨sN, eD⟩ := hN
    obtain ⟨dd, edd, hdx⟩ := hy.get' hxk
    rw [List.getElem?_map] at edd
    obtain ⟨r, er, rfl⟩ := Option.map_eq_some_iff.mp edd
    have kk : k < (srt os rs).length := (List.getElem?_eq_some_iff.mp er).1
    obtain ⟨b, z, vs, rfl, eb, _⟩ := row_dx (hdx.up (s9.trans sN))
    refine ⟨rfl, .ref b, rfl, b, _, 0, .str r.nm, rfl, rfl, .inl (.inl eb), rfl, _, eD, ?_, same_at sN nD, ?_⟩
    · rw [List.length_map, List.length_map, List.length_take]
      have hb : (1000 : Nat) < sizeLine := by decide
      omega
    · rw [upd_same, List.take_add_one, er, List.map_append, List.map_append]
      rfl
  obtain ⟨sN, eD⟩ := hN
  rw [List.take_of_length_le (by omega)] at eD
  refine ⟨D1, _, rfl, .inl ⟨.inl (.inl eD), fun pe npe => ?_⟩⟩
  have s89 := (s9.trans sN).trans (same_new (o := .tup ((((srt os rs)).map (·.nm)).map V.str)) npe)
  have xE : Dx (upd N pe (.tup ((((srt os rs)).map (·.nm)).map V.str))) (.ref pe) (.tuple ((srtNm os rs).map .str)) := .tup upd_same (dxs_strs _)
  refine gn_to (σ' := ([some (.ref a), some (.int (0 + (i : Int))), some (.ref l), some (.int (wd : Int)), some (.int (nt : Int)), some (.ref pr), some (.ref po), some (.str shw), some (.ref pa), some (.ref pe), o10, o11, o12, o13, o14, o15] : L2.St)) rfl ?_
  dsimp only
  generalize upd N pe (.tup ((((srt os rs)).map (·.nm)).map V.str)) = H10 at s89 xE
  clear sN eD hy ep np s9 nD npe lys lsr
  have e810 := ext_same s89
  have st10 := sto_ext e810 st8
  have xA := xA.ext (ext_hid e810)
  have xR := xR.ext (ext_hid e810)
  have xO := xO.ext (ext_hid e810)
  have t10 := tabs_same s89 t8
  have e10 := e8.trans (ext_hid e810)
  clear e8 t8 st8 e810 s89
  obtain ⟨z1, z2, z3⟩ := g.sshow
  refine ⟨.ref pa, rfl, .ref pa, _, rfl, xA.up (hid_same l H10), z1, z2, z3, .ref pe, rfl, .ref pe, _, rfl, xE, z1, z2, z3, rfl, _, rfl, iteNS rfl ?_⟩
  refine ⟨.ref pr, rfl, .ref po, rfl, by show 2 ≤ sizeLine; decide, fun t ntt => ⟨.ref t, _, rfl, .tup upd_same (.cons ((xR.up (hid_same l H10)).up (same_new ntt)) (.cons ((xO.up (hid_same l H10)).up (same_new ntt)) .nil)), g1, g2, g3, .str shw, rfl, rfl, _, rfl, ?_⟩⟩
  rw [← eshw]
  refine iteNS rfl ?_
  have e1011 : LamX.ExtN H10 (upd H10 t (.tup [.ref pr, .ref po])) := ext_same (same_new ntt)
  have st11 := sto_ext e1011 st10
  have xA := xA.ext (ext_hid e1011)
  have xR := xR.ext (ext_hid e1011)
  have xO := xO.ext (ext_hid e1011)
  have t11 := tabs_same (same_new (o := .tup [.ref pr, .ref po]) ntt) t10
  have e11 := e10.trans (ext_hid e1011)
  generalize upd H10 t (.tup [.ref pr, .ref po]) = H11 at st11 xA xR xO t11 e11
  clear xE e10 t10 st10 e1011 ntt
  -- parts
  obtain ⟨R, xs, eR0, nR, eR, hx⟩ := dx_tupOf xR
  obtain rfl : pr = R := V.ref.inj eR0
  have lx := hx.len
  rw [List.length_map] at lx
  refine ⟨.ref pr, rfl, pr, rfl, ⟨_, .inl (.inl eR)⟩, fun D2 nD2 => ?_⟩
  have hDl : D2 ≠ l := st11.ne nD2
  refine lc_tup (xs := xs) (fun k N => Keep l H11 N ∧ StO N l ∧ ∃ ds : List Int, N D2 = some (.lst (ds.map V.int)) ∧ ds.length = k) ⟨(Keep.refl l H11).new nD2, st11.new nD2, [], upd_same, rfl⟩ (fun k N _ hN => .inl (.inl (hN.1 _ _ nR eR))) (fun k x N hxk hN => ?_) (fun N hN => ?_)
  · obtain ⟨kN, sN, ds, eD, lds⟩ := hN
    have kk : k < xs.length := (List.getElem?_eq_some_iff.mp hxk).1
    refine ⟨rfl, .ref l, rfl, l, 3, rfl, sN, by decide, by decide, fun N2 d2 k2 s2 d20 d23 => ?_⟩
    have eD2 := k2 _ _ hDl eD
    have hb : (1000 : Nat) < sizeLine := by decide
    refine ⟨_, eD2, by rw [List.length_map]; omega, fun b o nb e => ?_, ?_, ds ++ [d2], by rw [upd_same, List.map_append]; rfl, by rw [List.length_append, lds]; rfl⟩
    · rw [upd_ne (ne_of_none e nD2)]
      exact k2 _ _ nb (kN _ _ nb e)
    · obtain ⟨b1, b2, b3, e⟩ := s2
      exact ⟨b1, b2, b3, by rw [upd_ne hDl.symm]; exact e⟩
  obtain ⟨kN, sN, ds, eD, lds⟩ := hN
  have xA := xA.up kN.same
  have xR := xR.up kN.same
  have xO := xO.up kN.same
  have t12 := tabs_keep kN st11 t11
  have e12 := e11.trans (keep_ext kN)
  refine gn_to (σ' := ([some (.ref a), some (.int (0 + (i : Int))), some (.ref l), some (.int (wd : Int)), some (.int (nt : Int)), some (.ref pr), some (.ref po), some (.str shw), some (.ref pa), some (.ref pe), some (.ref D2), o11, o12, o13, o14, o15] : L2.St)) rfl ?_
  dsimp only
  have eRN : N pr = some (.tup xs) := kN _ _ nR eR
  have hxN : Dxs (hid l N) xs (rs.map encR) := hx.up kN.same
  have big : (1000 : Nat) < sizeLine := by decide
  clear eR hx kN t11 st11 nD2 e11
  -- subset
  refine ⟨.ref pr, rfl, .ref D2, rfl, pr, D2, xs, ds.map V.int, rfl, .inl (.inl eRN), .inl (.inl eD), fun L3 nL3 => ?_⟩
  refine lc_zipN (xs := xs) (ys := ds.map V.int) (by rw [List.length_map, lds]) (fun k G => Same N G ∧ ∃ (ss : List Rec) (zs : List V), ss.Sublist (rs.take k) ∧ G L3 = some (.lst zs) ∧ Dxs (hid l N) zs (ss.map encR)) ⟨same_new nL3, [], [], .slnil, upd_same, .nil⟩ (fun k G _ hG => ⟨.inl (.inl (hG.1 _ _ eRN)), .inl (.inl (hG.1 _ _ eD))⟩) (fun k x y T3 G hxk hyk hG nT3 => ?_) (fun G hG => ?_)
  · obtain ⟨sG, ss, zs, hss, eZ, hz⟩ := hG
    rw [List.getElem?_map] at hyk
    obtain ⟨d3, ed3, rfl⟩ := Option.map_eq_some_iff.mp hyk
    have kk : k < xs.length := (List.getElem?_eq_some_iff.mp hxk).1
    obtain ⟨dx, edx, hdx⟩ := hxN.get' hxk
    rw [List.getElem?_map] at edx
    obtain ⟨r, er, rfl⟩ := Option.map_eq_some_iff.mp edx
    have etk : rs.take (k + 1) = rs.take k ++ [r] := by rw [List.take_add_one, er]; rfl
    have lz := hz.len
    rw [List.length_map] at lz
    have lss := hss.length_le
    rw [List.length_take] at lss
    have nTL : T3 ≠ L3 := fun z => by rw [z, eZ] at nT3; cases nT3
    refine ⟨T3, _, rfl, .inl (.inl upd_same), rfl, _, _, rfl, _, _, rfl, rfl, rfl, ?_⟩
    refine ⟨.int d3, rfl, _, _, rfl, rfl, _, rfl, ?_⟩
    by_cases hd3 : d3 > 0
    · rw [decide_eq_true hd3]
      refine iteT ⟨x, rfl, zs, by rw [upd_ne nTL.symm]; exact eZ, by omega, ?_, ss ++ [r], zs ++ [x], ?_, upd_same, ?_⟩
      · exact same_at (sG.trans (same_new nT3)) nL3
      · rw [etk]
        exact hss.append (List.Sublist.refl _)
      · rw [List.map_append]
        exact hz.app (.cons hdx .nil)
    · rw [decide_eq_false hd3]
      refine iteF ⟨sG.trans (same_new nT3), ss, zs, ?_, by rw [upd_ne nTL.symm]; exact eZ, hz⟩
      rw [etk]
      exact hss.trans (List.sublist_append_left _ _)
  obtain ⟨sG, ss, zs, hss, eZ, hz⟩ := hG
  rw [List.take_of_length_le (by omega)] at hss
  refine ⟨L3, zs, rfl, .inl ⟨.inl (.inl eZ), fun ps nps => ?_⟩⟩
  have lz := hz.len
  rw [List.length_map] at lz
  have lss := hss.length_le
  have s3 := sG.trans (same_new (o := .tup zs) nps)
  have e3 := ext_hid (l := l) (ext_same s3)
  have st3 := sN.same s3
  have eS : (upd G ps (.tup zs)) ps = some (.tup zs) := upd_same
  have hz := dxs_ext e3 hz
  have xA := xA.ext e3
  have xR := xR.ext e3
  have xO := xO.ext e3
  have t13 := tabs_same s3 t12
  have e13 := e12.trans e3
  have nps' : ps ≠ l := (sN.same sG).ne nps
  refine gn_to (σ' := ([some (.ref a), some (.int (0 + (i : Int))), some (.ref l), some (.int (wd : Int)), some (.int (nt : Int)), some (.ref pr), some (.ref po), some (.str shw), some (.ref pa), some (.ref pe), some (.ref D2), some (.ref ps), o12, o13, o14, o15] : L2.St)) rfl ?_
  dsimp only
  generalize upd G ps (.tup zs) = G3 at s3 e3 st3 eS hz xA xR xO t13 e13
  clear sG eZ hxN eRN eD s3 e3 e12 sN nL3 nps
  have xS : Dx (hid l G3) (.ref ps) (.tuple (ss.map encR)) := .tup (by rw [hid_at nps']; exact eS) hz
  have gS : HG ss os := HG.part sp w1 w4 hl60 hO hss
  -- names
  refine ⟨.ref ps, rfl, ps, rfl, ⟨_, .inl (.inl eS)⟩, fun D4 nD4 => ?_⟩
  refine lc_tup (xs := zs) (fun k N => Same G3 N ∧ N D4 = some (.lst (((ss.take k).map (·.nm)).map V.str))) ⟨same_new nD4, upd_same⟩ (fun k N _ hN => .inl (.inl (hN.1 _ _ eS))) (fun k x N hxk hN => ?_) (fun N4 hN => ?_)
  · obtain ⟨s4, e4⟩ := hN
    obtain ⟨dd, edd, hdx⟩ := hz.get' hxk
    rw [List.getElem?_map] at edd
    obtain ⟨r, er, rfl⟩ := Option.map_eq_some_iff.mp edd
    have kk : k < ss.length := (List.getElem?_eq_some_iff.mp er).1
    obtain ⟨b, z, vs, rfl, eb, _⟩ := row_dx ((hdx.up (hid_same l G3)).up s4)
    refine ⟨rfl, .ref b, rfl, b, _, 0, .str r.nm, rfl, rfl, .inl (.inl eb), rfl, _, e4, ?_, same_at s4 nD4, ?_⟩
    · rw [List.length_map, List.length_map, List.length_take]
      omega
    · rw [upd_same, List.take_add_one, er, List.map_append, List.map_append]
      rfl
  obtain ⟨s4, e4⟩ := hN
  rw [List.take_of_length_le (by omega)] at e4
  refine gn_to (σ' := ([some (.ref a), some (.int (0 + (i : Int))), some (.ref l), some (.int (wd : Int)), some (.int (nt : Int)), some (.ref pr), some (.ref po), some (.str shw), some (.ref pa), some (.ref pe), some (.ref D2), some (.ref ps), some (.ref D4), o13, o14, o15] : L2.St)) rfl ?_
  dsimp only
  have st4 := st3.same s4
  have x4 := ext_hid (l := l) (ext_same s4)
  have xS := xS.ext x4
  have xA := xA.ext x4
  have xR := xR.ext x4
  have xO := xO.ext x4
  have t14 := tabs_same s4 t13
  have e14 := e13.trans x4
  clear s4 x4 t13 e13 st3 hz eS nD4
  -- the comparison
  refine tv2 rfl rfl (sn_call t14 (xS.up (hid_same l N4)) (xO.up (hid_same l N4)) gS fun G5 p5 e5 t5 h5 => ?_)
  obtain ⟨ws, ep5, hws⟩ : ∃ ws, G5 p5 = some (.tup ws) ∧ Dxs G5 ws ((srtNm os ss).map .str) := by
    cases h5 with
    | tup e h => exact ⟨_, e, h⟩
  refine ⟨p5, ws, rfl, .inr (.inl (.inl ep5)), fun l5 nl5 _ => ?_⟩
  have e45 : LamX.ExtN N4 (upd G5 l5 (.lst ws)) := e5.trans (ext_same (same_new nl5))
  have hws := hws.up (same_new (o := .lst ws) nl5)
  have el5 : (upd G5 l5 (.lst ws)) l5 = some (.lst ws) := upd_same
  have t6 := tabs_same (same_new (o := .lst ws) nl5) t5
  generalize upd G5 l5 (.lst ws) = G6 at e45 hws el5 t6
  have e4 : G6 D4 = some (.lst ((ss.map (·.nm)).map V.str)) := e45 _ _ e4 fun ps z => by cases z
  have st6 := sto_ext e45 st4
  have xA := xA.ext (ext_hid e45)
  have xR := xR.ext (ext_hid e45)
  have xO := xO.ext (ext_hid e45)
  have e16 := e14.trans (ext_hid e45)
  clear e5 t5 h5 ep5 nl5 t14 e14 st4 e45 xS
  obtain ⟨A6, as6, eA0, nA6, eA6, hA6⟩ := dx_tupOf xA
  obtain rfl : pa = A6 := V.ref.inj eA0
  have lA := hA6.len
  rw [List.length_map] at lA
  refine ⟨.ref pa, rfl, pa, rfl, ⟨_, .inl (.inl eA6)⟩, fun D7 nD7 => ?_⟩
  refine lc_tup (xs := as6) (fun k N => Same G6 N ∧ N D7 = some (.lst ((((srtNm os rs).take k).filter fun n => decide (n ∈ ss.map fun r : Rec => r.nm)).map V.str))) ⟨same_new nD7, upd_same⟩ (fun k N _ hN => .inl (.inl (hN.1 _ _ eA6))) (fun k x N hxk hN => ?_) (fun N7 hN => ?_)
  · obtain ⟨s7, e7⟩ := hN
    obtain ⟨dd, edd, hdx⟩ := hA6.get' hxk
    rw [List.getElem?_map] at edd
    obtain ⟨n, en, rfl⟩ := Option.map_eq_some_iff.mp edd
    cases hdx
    have kk : k < (srtNm os rs).length := (List.getElem?_eq_some_iff.mp en).1
    have lsn : (srtNm os rs).length = rs.length := by
      unfold srtNm
      rw [List.length_map]
      exact List.length_mergeSort _
    have etk : (srtNm os rs).take (k + 1) = (srtNm os rs).take k ++ [n] := by rw [List.take_add_one, en]; rfl
    refine ⟨rfl, .str n, rfl, .ref D4, rfl, D4, _, rfl, .inl (.inl (.inl (s7 _ _ e4))), rfl, flat_str _, _, rfl, ?_⟩
    rw [show (if false = true then !inV (.str n) ((ss.map (·.nm)).map V.str) else inV (.str n) ((ss.map (·.nm)).map V.str)) = decide (n ∈ ss.map fun r : Rec => r.nm) by rw [if_neg (by simp), in_str]]
    by_cases hin : n ∈ ss.map fun r : Rec => r.nm
    · rw [decide_eq_true hin]
      refine iteT ⟨.str n, rfl, _, e7, ?_, same_at s7 nD7, ?_⟩
      · have := List.length_filter_le (fun n => decide (n ∈ ss.map fun r : Rec => r.nm)) ((srtNm os rs).take k)
        rw [List.length_take] at this
        rw [List.length_map]
        omega
      · rw [upd_same, etk, List.filter_append, List.map_append]
        congr 3
        rw [List.filter_cons, if_pos (decide_eq_true hin)]
        rfl
    · rw [decide_eq_false hin]
      refine iteF ⟨s7, ?_⟩
      rw [e7, etk, List.filter_append]
      congr 3
      rw [List.filter_cons, if_neg (by simpa using hin)]
      simp
  obtain ⟨s7, e7⟩ := hN
  rw [List.take_of_length_le (by omega), srt_sub hss sp.nd] at e7
  refine ⟨_, _, .lst (.inl (.inl (s7 _ _ el5))) (dps_dx _ _ (plain_strs _) (hws.up s7)), .lst (.inl (.inl e7)) (dps_dx _ _ (plain_strs _) (dxs_strs _)), by simpa [PyData.plain] using plain_strs _, by simpa [PyData.plain] using plain_strs _, ?_, ?_⟩
  · refine Nat.le_trans (Nat.min_le_left _ _) ?_
    simp only [PyData.depth]
    rw [depth_strs]
    decide
  rw [show PyData.eqv (.list ((srtNm os ss).map .str)) (.list ((srtNm os ss).map .str)) = true by simp only [PyData.eqv]; exact eqv_strs _]
  refine ⟨_, rfl, iteF ?_⟩
  have st7 := st6.same s7
  have x7 := ext_hid (l := l) (ext_same s7)
  have xR := xR.ext x7
  have xO := xO.ext x7
  have t7 := tabs_same s7 t6
  have e17 := e16.trans x7
  clear hws el5 e7 s7 x7 t6 e16 st6 nD7 hA6 eA6 xA e4
  have hw : rs = [] ∨ widthI rs = (wd : Int) := by
    cases rs with
    | nil => exact .inl rfl
    | cons r rs =>
      obtain ⟨_, _, o⟩ := sp.ok r (by simp)
      exact .inr (by show ((r.vals.length : Nat) : Int) = _; rw [o.len])
  have hw2 : (wd : Int) ≤ widthI rs := by
    rcases hw with rfl | z
    · show (wd : Int) ≤ 4
      omega
    · rw [z]
      exact Int.le_refl _
  -- prefixes
  refine ⟨.ref l, rfl, .ref pr, rfl, .ref po, rfl, .int (wd : Int), rfl, l, .ref pr, .ref po, rs, os, (wd : Int), rfl, st7, t7, xR, xO, g, hO, by omega, by omega, hw2, fun G8 x8 st8 t8 => ⟨_, rfl, iteF ?_⟩⟩
  have xR := xR.ext x8
  have xO := xO.ext x8
  have e18 := e17.trans x8
  -- errors
  refine ⟨.ref l, rfl, .ref pr, rfl, .ref po, rfl, .int (wd : Int), rfl, l, .ref pr, .ref po, rs, os, (wd : Int), rfl, st8, t8, xR, xO, g, by omega, by omega, hw, fun G9 x9 st9 t9 => ⟨_, rfl, iteF ?_⟩⟩
  refine q _ _ _ _ _ _ _ _ _ _ _ _ _ _ _ _ (fun b o hb ntb => ?_) t9
  have hb1 := s1 b o hb
  have nb : b ≠ l := ne_of_none hb nl
  have z := (e18.trans x9) b o (by rw [hid_at nb]; exact hb1) ntb
  rw [hid_at nb] at z
  exact z
end
end Z1

set_option maxRecDepth 100000
set_option maxHeartbeats 4000000
namespace Z1
open PySem PySem.Spec PyProof.Rows L2 KX
def MD (t : TE) (d : PyData) : Prop := ∀ (σ : L2.St) (H : Hp) (Q : VK), (∀ H' v, Same H H' → Dx H' v d → Q v H') → t σ H Q
def MDs (t : TA) (ds : List PyData) : Prop := ∀ (σ : L2.St) (H : Hp) (Q : List V → Hp → Prop), (∀ H' vs, Same H H' → Dxs H' vs ds → Q vs H') → t σ H Q
theorem md_c {v : V} {d : PyData} (h : ∀ H, Dx H v d) : MD (tC v) d := fun σ H Q q => q H v (Same.refl H) (h H)
theorem mds_nil : MDs tNil [] := fun σ H Q q => q H [] (Same.refl H) .nil
theorem mds_cons {t : TE} {ts : TA} {d : PyData} {ds : List PyData} (h : MD t d) (hs : MDs ts ds) : MDs (tCons t ts) (d :: ds) := fun σ H Q q =>
  h σ H _ fun H1 v s1 h1 => hs σ H1 _ fun H2 vs s2 h2 => q H2 (v :: vs) (s1.trans s2) (.cons (h1.up s2) h2)
theorem md_tup {t : TA} {ds : List PyData} (h : MDs t ds) (hl : ds.length ≤ 1000) : MD (tTup t) (.tuple ds) := fun σ H Q q =>
  h σ H _ fun H1 vs s1 h1 => ⟨by rw [h1.len]; exact Nat.le_trans hl (by decide), fun p np => q _ _ (s1.trans (same_new np)) (.tup upd_same (h1.up (same_new np)))⟩
def dirB (y : Str) : Bool := decide (y = "asc") || decide (y = "desc")
theorem dirB_w {y : Str} (h : dirB y = true) : dirW y := by
  unfold dirB at h
  rw [Bool.or_eq_true] at h
  exact h.imp of_decide_eq_true of_decide_eq_true
theorem ordOk_of {w : Int} {os : List Ord} (h : (decide (os.length ≤ 4) && decide (os.map (·.1)).Nodup && os.all fun o => decide (0 ≤ o.1) && decide (o.1 < w) && dirB o.2) = true) : OrdOk w os := by
  rw [Bool.and_eq_true, Bool.and_eq_true] at h
  refine ⟨of_decide_eq_true h.1.1, of_decide_eq_true h.1.2, fun o ho => ?_⟩
  have := List.all_eq_true.mp h.2 o ho
  rw [Bool.and_eq_true, Bool.and_eq_true] at this
  exact ⟨of_decide_eq_true this.1.1, of_decide_eq_true this.1.2, dirB_w this.2⟩
theorem eqv_names (ns : List Str) : PyData.eqv (.tuple (ns.map .str)) (.tuple (ns.map .str)) = true := by
  simp only [PyData.eqv]
  exact eqv_strs ns
theorem plain_names (ns : List Str) : (PyData.tuple (ns.map .str)).plain = true := by simpa [PyData.plain] using plain_strs ns
theorem depth_names (ns : List Str) : (PyData.tuple (ns.map .str)).depth ≤ 64 := by
  simp only [PyData.depth]
  rw [depth_strs]
  decide
theorem seq_ext {K : PySem.W.Frag} {H G : Hp} {a : Addr} {xs : List V} (h : SqL K H a xs) (e : LamX.ExtN H G) : SqL K G a xs := by
  rcases h with h | h
  · exact .inl (h.imp (fun z => e _ _ z fun ps q => by cases q) fun ⟨o, z⟩ => ⟨o, e _ _ z fun ps q => by cases q⟩)
  · exact .inr h
theorem tabs_one {P0 : Addr} {H : Hp} (h0 : H P0 = some (.tbl #[])) : LamX.Tabs (TS P0) H := fun p hp => by
  cases List.mem_singleton.mp hp
  exact LamX.TabS.nil h0
theorem mcall0 {d1 d2 : PyData} {t1 t2 : TE} (h1 : MD t1 d1) (h2 : MD t2 d2) {sp : Sp} {dvs : List V} {E : XK} {σ : L2.St} {H : Hp} {Q : VK} (k : ∀ H' v1 v2, Same H H' → Dx H' v1 d1 → Dx H' v2 d2 → sp ([v1, v2] ++ dvs) H' Q E) : tCall sp dvs E (tCons t1 (tCons t2 tNil)) σ H Q :=
  h1 σ H _ fun H1 v1 s1 x1 => h2 σ H1 _ fun H2 v2 s2 x2 => k H2 v1 v2 (s1.trans s2) (x1.up s2) x2
theorem ret_and {ta tb : TE} {D : Ends} {σ : L2.St} {H : Hp} (h : tAndV ta tb σ H D.rt) : tRet (tAndV ta tb) D σ H := h
theorem hg_nilO {os : List Ord} (h : OrdOk 4 os) : HG [] os := ⟨⟨by decide, rfl, rfl, rfl⟩, by decide, h, fun r hr => by cases hr⟩
theorem srt_nil (os : List Ord) : srtNm os [] = [] := by
  have h : (srtNm os []).length = 0 := by
    unfold srtNm
    rw [List.length_map]
    exact List.length_mergeSort _
  exact List.length_eq_zero_iff.mp h
section
variable {P : Program} {w : World} {K : PySem.W.Frag} {mg : Str → Option Value} {base : Heap} {RA OA P0 : Addr}
/-- sorted_names((), os) == () -/
theorem eq_nil {t2 : TE} {os : List Ord} (m2 : MD t2 (.tuple (os.map encO))) (oo : OrdOk 4 os) {E : XK} {σ : L2.St} {H : Hp} {Q : VK} (t0 : LamX.Tabs (TS P0) H) (q : ∀ H', LamX.ExtN H H' → LamX.Tabs (TS P0) H' → Q (.bl true) H') :
    tOp (rEqP K id) (tCall (spSN RA OA P0) [] E (tCons (tTup tNil) (tCons t2 tNil))) (tTup tNil) σ H Q := by
  refine mcall0 (md_tup mds_nil (by decide)) m2 fun F1 v1 v2 s1 x1 x2 => ?_
  refine sn_call (rs := []) (os := os) (tabs_same s1 t0) x1 x2 (hg_nilO oo) fun F2 q2 e2 t2 h2 => ?_
  rw [srt_nil] at h2
  refine ⟨by decide, fun p np => ⟨_, _, dp_dx _ _ (plain_names []) (h2.up (same_new np)), dp_dx _ _ (plain_names []) (.tup upd_same .nil), plain_names [], plain_names [], Nat.le_trans (Nat.min_le_left _ _) (depth_names []), ?_⟩⟩
  rw [eqv_names []]
  exact q _ (((ext_same s1).trans e2).trans (ext_same (same_new np))) (tabs_same (same_new np) t2)
theorem ok_law {k : Nat} {f fS fD fR fL fN fT fP fE : Addr} {fd gS gD gR gL gN gT gP gE : FuncData} (B : Bl mg) (T : Ds P w K mg base k RA OA P0 fS fD fR fL fN fT fP fE gS gD gR gL gN gT gP gE)
    (F : Fun K "law" "law" sLaw f fd) : FnG P w K mg base CX0 (k + 1) f fd ["script"] (spLaw K P0) := by
  refine okG F scLaw (fun vs H Q E h => ?_) (fun cdv A outer s H vs Q E hgd hr h => ?_)
  · obtain ⟨a, ns, rfl, _⟩ := h
    rfl
  · obtain ⟨a, ns, rfl, hS, hl, hP0, q⟩ := h
    have nd := scLaw.nd
    obtain ⟨tb, hb, hq⟩ := body_law B T (base := base) (outer := outer) (s := s) (H := H) (E := E) hgd hr (a := a) (ns := ns)
    refine ⟨_, pss_cons (ps_for PassesOwn.never rfl (pi_range1 (by rfl) B.range (pa_cons (pe_callB (call_max2 rfl) (by rfl) B.max (by decide +kernel) (pa_cons pe_int (pa_cons (pe_callB (call_min2 rfl) (by rfl) B.min (by decide +kernel)
          (pa_cons pe_int (pa_cons (pe_callB call_len_seq (by rfl) B.len PySem.boot_len (pa_cons (pv 0) pa_nil)) pa_nil))) pa_nil))) pa_nil)) (pg_name (i := 1) nd rfl (.inl rfl)) hb)
      (pss_one (ps_ret (pe_and (pe_cmpR (op_eqP hr.units) (pe_call T.oN hr (by rfl) T.N.g T.N.F.kp T.N.b .nil passL (pa_cons (pe_tup pa_nil) (pa_cons (pe_tup (pa_cons (pe_tup (pa_cons pe_int (pa_cons pe_str pa_nil))) pa_nil)) pa_nil))) (pe_tup pa_nil) (nomark _))
        (pe_one (pe_cmpR (op_eqP hr.units) (pe_call T.oN hr (by rfl) T.N.g T.N.F.kp T.N.b .nil passL (pa_cons (pe_tup pa_nil) (pa_cons (pe_tup pa_nil) pa_nil))) (pe_tup pa_nil) (nomark _)))))), ?_⟩
    refine ⟨.ref a, rfl, a, _, rfl, .inl hS, 12, _, rfl, 1, _, rfl, ?_⟩
    have hj : ∃ j : Nat, j ≤ 1000 ∧ (if (if ((ns.map V.int).length : Int) < 12 then ((ns.map V.int).length : Int) else 12) > 1 then (if ((ns.map V.int).length : Int) < 12 then ((ns.map V.int).length : Int) else 12) else 1) = (j : Int) := by
      rw [List.length_map]
      by_cases h1 : (ns.length : Int) < 12
      · rw [if_pos h1]
        by_cases h2 : (ns.length : Int) > 1
        · rw [if_pos h2]
          exact ⟨ns.length, by omega, rfl⟩
        · rw [if_neg h2]
          exact ⟨1, by decide, rfl⟩
      · rw [if_neg h1]
        exact ⟨12, by decide, rfl⟩
    obtain ⟨j, hj1, ej⟩ := hj
    refine ⟨_, rfl, ?_, ?_, ?_⟩
    · show (-(2 ^ 62) : Int) ≤ _
      rw [ej]
      omega
    · show (_ : Int) < 2 ^ 62
      rw [ej]
      omega
    · refine for_range (lo := 0) (n := Int.toNat _) (fun i σ G => LamX.ExtN H G ∧ LamX.Tabs (TS P0) G ∧ ∃ o1 o2 o3 o4 o5 o6 o7 o8 o9 o10 o11 o12 o13 o14 o15, σ = [some (.ref a), o1, o2, o3, o4, o5, o6, o7, o8, o9, o10, o11, o12, o13, o14, o15]) ⟨LamX.ExtN.refl H, tabs_one hP0, none, none, none, none, none, none, none, none, none, none, none, none, none, none, none, rfl⟩ (fun i σ G hi hp => ?_) (fun σ G hp => ?_)
      · obtain ⟨sm, tm, o1, o2, o3, o4, o5, o6, o7, o8, o9, o10, o11, o12, o13, o14, o15, rfl⟩ := hp
        have hi3 : i < j := by
          have h := hi
          rw [show Int.toNat _ = j from congrArg Int.toNat ej] at h
          exact h
        exact hq _ G i o2 o3 o4 o5 o6 o7 o8 o9 o10 o11 o12 o13 o14 o15 (seq_ext hS sm) (by omega) tm fun G' p1 p2 p3 p4 p5 p6 p7 p8 p9 p10 p11 p12 p13 p14 p15 s' t' => ⟨sm.trans s', t', p1, p2, p3, p4, p5, p6, p7, p8, p9, p10, p11, p12, p13, p14, p15, rfl⟩
      · obtain ⟨e0, t0, o1, o2, o3, o4, o5, o6, o7, o8, o9, o10, o11, o12, o13, o14, o15, rfl⟩ := hp
        dsimp only
        refine ret_and ?_
        refine eq_nil (os := [(3, "asc")]) (md_tup (mds_cons (md_tup (mds_cons (md_c fun H => .int _) (mds_cons (md_c fun H => .str _) mds_nil)) (by decide)) mds_nil) (by decide)) (ordOk_of (by decide +kernel)) t0 fun F1 e1 t1 => ⟨true, rfl, iteT ?_⟩
        exact eq_nil (os := []) (md_tup mds_nil (by decide)) (ordOk_of (by decide +kernel)) t1 fun F2 e2 t2 => q _
end
end Z1

set_option maxRecDepth 100000
set_option maxHeartbeats 8000000
namespace Z1
open PySem PySem.Spec PyProof.Rows L2 KX
/-! ### what the top has written -/
theorem df_mk {K : PySem.W.Frag} {h : Heap} {mg : Str → Option Value} {x : String} {st : Stmt} {ps : List Str} {f : Addr} {oc : Value} {od an : Option Addr} {sl : Array (Option Value)} {kV doc pm cd ct : Value} (X : K.In h) (G : h.Ns mainGlobals mg)
    (a : PySem.W.nsIn K mainGlobals x = some (some (.ref f))) (l : K.lookup f = some ⟨oc, od, .func (PySem.W.fnOf x x (defArgs st) (defBody st) (defScope st) .none kV doc pm an cd ct), sl⟩) (c : PySem.W.codeIn K cd x = true)
    (k : PySem.W.keepIn K (.ref f) = true) (hb : ∀ (kV doc pm : Value) (an : Option Addr) (cdv ct : Value) (us : List Value), us.length = ps.length → bindArgs (PySem.W.fnOf x x (defArgs st) (defBody st) (defScope st) .none kV doc pm an cdv ct) ⟨us, []⟩ = pure (ps.zip us)) :
    Df K mg x st ps f (PySem.W.fnOf x x (defArgs st) (defBody st) (defScope st) .none kV doc pm an cd ct) :=
  ⟨fun_mk l c k, (fun_mk l c k).binds hb, PySem.W.mg_of X G a⟩
theorem all_mk {l : PySem.W.OpenLaw} {w : World} {K : PySem.W.Frag} {h : Heap} {mg : Str → Option Value} {fa : Addr} {C fI : Addr} {ocI : Value} {odI anI : Option Addr} {slI : Array (Option Value)} {kVI docI pmI cdI ctI : Value} {td : Addr} {odT : Option Addr} {slT : Array (Option Value)} {k1T k2T : Tok} {nT : Nat} {S R M : Addr} {PL0 : Addr} {eL0 : Value} {ddL0 : Option Addr} {vsL0 : Array Value} {slL0 : Array (Option Value)} (X : K.In h) (G : h.Ns mainGlobals mg) (hfa : mg "law" = some (.ref fa))
    {f0 : Addr} {oc0 : Value} {od0 an0 : Option Addr} {sl0 : Array (Option Value)} {kV0 doc0 pm0 cd0 ct0 : Value} (a0 : PySem.W.nsIn K mainGlobals "is_between" = some (some (.ref f0))) (l0 : K.lookup f0 = some ⟨oc0, od0, .func (PySem.W.fnOf "is_between" "is_between" (defArgs sBetween) (defBody sBetween) (defScope sBetween) .none kV0 doc0 pm0 an0 cd0 ct0), sl0⟩) (c0 : PySem.W.codeIn K cd0 "is_between" = true) (k0 : PySem.W.keepIn K (.ref f0) = true)
    {f1 : Addr} {oc1 : Value} {od1 an1 : Option Addr} {sl1 : Array (Option Value)} {kV1 doc1 pm1 cd1 ct1 : Value} (a1 : PySem.W.nsIn K mainGlobals "check_between" = some (some (.ref f1))) (l1 : K.lookup f1 = some ⟨oc1, od1, .func (PySem.W.fnOf "check_between" "check_between" (defArgs sCk) (defBody sCk) (defScope sCk) .none kV1 doc1 pm1 an1 cd1 ct1), sl1⟩) (c1 : PySem.W.codeIn K cd1 "check_between" = true) (k1 : PySem.W.keepIn K (.ref f1) = true)
    {f2 : Addr} {oc2 : Value} {od2 an2 : Option Addr} {sl2 : Array (Option Value)} {kV2 doc2 pm2 cd2 ct2 : Value} (a2 : PySem.W.nsIn K mainGlobals "is_tuple_between" = some (some (.ref f2))) (l2 : K.lookup f2 = some ⟨oc2, od2, .func (PySem.W.fnOf "is_tuple_between" "is_tuple_between" (defArgs sTupB) (defBody sTupB) (defScope sTupB) .none kV2 doc2 pm2 an2 cd2 ct2), sl2⟩) (c2 : PySem.W.codeIn K cd2 "is_tuple_between" = true) (k2 : PySem.W.keepIn K (.ref f2) = true)
    {f3 : Addr} {oc3 : Value} {od3 an3 : Option Addr} {sl3 : Array (Option Value)} {kV3 doc3 pm3 cd3 ct3 : Value} (a3 : PySem.W.nsIn K mainGlobals "is_directed" = some (some (.ref f3))) (l3 : K.lookup f3 = some ⟨oc3, od3, .func (PySem.W.fnOf "is_directed" "is_directed" (defArgs sDir) (defBody sDir) (defScope sDir) .none kV3 doc3 pm3 an3 cd3 ct3), sl3⟩) (c3 : PySem.W.codeIn K cd3 "is_directed" = true) (k3 : PySem.W.keepIn K (.ref f3) = true)
    {f4 : Addr} {oc4 : Value} {od4 an4 : Option Addr} {sl4 : Array (Option Value)} {kV4 doc4 pm4 cd4 ct4 : Value} (a4 : PySem.W.nsIn K mainGlobals "have_distinct_columns" = some (some (.ref f4))) (l4 : K.lookup f4 = some ⟨oc4, od4, .func (PySem.W.fnOf "have_distinct_columns" "have_distinct_columns" (defArgs sDist) (defBody sDist) (defScope sDist) .none kV4 doc4 pm4 an4 cd4 ct4), sl4⟩) (c4 : PySem.W.codeIn K cd4 "have_distinct_columns" = true) (k4 : PySem.W.keepIn K (.ref f4) = true)
    {f5 : Addr} {oc5 : Value} {od5 an5 : Option Addr} {sl5 : Array (Option Value)} {kV5 doc5 pm5 cd5 ct5 : Value} (a5 : PySem.W.nsIn K mainGlobals "is_ascending" = some (some (.ref f5))) (l5 : K.lookup f5 = some ⟨oc5, od5, .func (PySem.W.fnOf "is_ascending" "is_ascending" (defArgs sAsc) (defBody sAsc) (defScope sAsc) .none kV5 doc5 pm5 an5 cd5 ct5), sl5⟩) (c5 : PySem.W.codeIn K cd5 "is_ascending" = true) (k5 : PySem.W.keepIn K (.ref f5) = true)
    {f6 : Addr} {oc6 : Value} {od6 an6 : Option Addr} {sl6 : Array (Option Value)} {kV6 doc6 pm6 cd6 ct6 : Value} (a6 : PySem.W.nsIn K mainGlobals "is_name" = some (some (.ref f6))) (l6 : K.lookup f6 = some ⟨oc6, od6, .func (PySem.W.fnOf "is_name" "is_name" (defArgs sName) (defBody sName) (defScope sName) .none kV6 doc6 pm6 an6 cd6 ct6), sl6⟩) (c6 : PySem.W.codeIn K cd6 "is_name" = true) (k6 : PySem.W.keepIn K (.ref f6) = true)
    {f7 : Addr} {oc7 : Value} {od7 an7 : Option Addr} {sl7 : Array (Option Value)} {kV7 doc7 pm7 cd7 ct7 : Value} (a7 : PySem.W.nsIn K mainGlobals "is_row" = some (some (.ref f7))) (l7 : K.lookup f7 = some ⟨oc7, od7, .func (PySem.W.fnOf "is_row" "is_row" (defArgs sRow) (defBody sRow) (defScope sRow) .none kV7 doc7 pm7 an7 cd7 ct7), sl7⟩) (c7 : PySem.W.codeIn K cd7 "is_row" = true) (k7 : PySem.W.keepIn K (.ref f7) = true)
    {f8 : Addr} {oc8 : Value} {od8 an8 : Option Addr} {sl8 : Array (Option Value)} {kV8 doc8 pm8 cd8 ct8 : Value} (a8 : PySem.W.nsIn K mainGlobals "are_row_values" = some (some (.ref f8))) (l8 : K.lookup f8 = some ⟨oc8, od8, .func (PySem.W.fnOf "are_row_values" "are_row_values" (defArgs sVals) (defBody sVals) (defScope sVals) .none kV8 doc8 pm8 an8 cd8 ct8), sl8⟩) (c8 : PySem.W.codeIn K cd8 "are_row_values" = true) (k8 : PySem.W.keepIn K (.ref f8) = true)
    {f9 : Addr} {oc9 : Value} {od9 an9 : Option Addr} {sl9 : Array (Option Value)} {kV9 doc9 pm9 cd9 ct9 : Value} (a9 : PySem.W.nsIn K mainGlobals "are_rows_of_one_width" = some (some (.ref f9))) (l9 : K.lookup f9 = some ⟨oc9, od9, .func (PySem.W.fnOf "are_rows_of_one_width" "are_rows_of_one_width" (defArgs sOW) (defBody sOW) (defScope sOW) .none kV9 doc9 pm9 an9 cd9 ct9), sl9⟩) (c9 : PySem.W.codeIn K cd9 "are_rows_of_one_width" = true) (k9 : PySem.W.keepIn K (.ref f9) = true)
    {f10 : Addr} {oc10 : Value} {od10 an10 : Option Addr} {sl10 : Array (Option Value)} {kV10 doc10 pm10 cd10 ct10 : Value} (a10 : PySem.W.nsIn K mainGlobals "have_one_width" = some (some (.ref f10))) (l10 : K.lookup f10 = some ⟨oc10, od10, .func (PySem.W.fnOf "have_one_width" "have_one_width" (defArgs sHW) (defBody sHW) (defScope sHW) .none kV10 doc10 pm10 an10 cd10 ct10), sl10⟩) (c10 : PySem.W.codeIn K cd10 "have_one_width" = true) (k10 : PySem.W.keepIn K (.ref f10) = true)
    {f11 : Addr} {oc11 : Value} {od11 an11 : Option Addr} {sl11 : Array (Option Value)} {kV11 doc11 pm11 cd11 ct11 : Value} (a11 : PySem.W.nsIn K mainGlobals "width_of" = some (some (.ref f11))) (l11 : K.lookup f11 = some ⟨oc11, od11, .func (PySem.W.fnOf "width_of" "width_of" (defArgs sWO) (defBody sWO) (defScope sWO) .none kV11 doc11 pm11 an11 cd11 ct11), sl11⟩) (c11 : PySem.W.codeIn K cd11 "width_of" = true) (k11 : PySem.W.keepIn K (.ref f11) = true)
    {f12 : Addr} {oc12 : Value} {od12 an12 : Option Addr} {sl12 : Array (Option Value)} {kV12 doc12 pm12 cd12 ct12 : Value} (a12 : PySem.W.nsIn K mainGlobals "is_rowset" = some (some (.ref f12))) (l12 : K.lookup f12 = some ⟨oc12, od12, .func (PySem.W.fnOf "is_rowset" "is_rowset" (defArgs sIR) (defBody sIR) (defScope sIR) .none kV12 doc12 pm12 an12 cd12 ct12), sl12⟩) (c12 : PySem.W.codeIn K cd12 "is_rowset" = true) (k12 : PySem.W.keepIn K (.ref f12) = true)
    {f13 : Addr} {oc13 : Value} {od13 an13 : Option Addr} {sl13 : Array (Option Value)} {kV13 doc13 pm13 cd13 ct13 : Value} (a13 : PySem.W.nsIn K mainGlobals "names_of" = some (some (.ref f13))) (l13 : K.lookup f13 = some ⟨oc13, od13, .func (PySem.W.fnOf "names_of" "names_of" (defArgs sNO) (defBody sNO) (defScope sNO) .none kV13 doc13 pm13 an13 cd13 ct13), sl13⟩) (c13 : PySem.W.codeIn K cd13 "names_of" = true) (k13 : PySem.W.keepIn K (.ref f13) = true)
    {f14 : Addr} {oc14 : Value} {od14 an14 : Option Addr} {sl14 : Array (Option Value)} {kV14 doc14 pm14 cd14 ct14 : Value} (a14 : PySem.W.nsIn K mainGlobals "check_rowset" = some (some (.ref f14))) (l14 : K.lookup f14 = some ⟨oc14, od14, .func (PySem.W.fnOf "check_rowset" "check_rowset" (defArgs sCR) (defBody sCR) (defScope sCR) .none kV14 doc14 pm14 an14 cd14 ct14), sl14⟩) (c14 : PySem.W.codeIn K cd14 "check_rowset" = true) (k14 : PySem.W.keepIn K (.ref f14) = true)
    {f15 : Addr} {oc15 : Value} {od15 an15 : Option Addr} {sl15 : Array (Option Value)} {kV15 doc15 pm15 cd15 ct15 : Value} (a15 : PySem.W.nsIn K mainGlobals "check_width" = some (some (.ref f15))) (l15 : K.lookup f15 = some ⟨oc15, od15, .func (PySem.W.fnOf "check_width" "check_width" (defArgs sCw) (defBody sCw) (defScope sCw) .none kV15 doc15 pm15 an15 cd15 ct15), sl15⟩) (c15 : PySem.W.codeIn K cd15 "check_width" = true) (k15 : PySem.W.keepIn K (.ref f15) = true)
    {f16 : Addr} {oc16 : Value} {od16 an16 : Option Addr} {sl16 : Array (Option Value)} {kV16 doc16 pm16 cd16 ct16 : Value} (a16 : PySem.W.nsIn K mainGlobals "rowset_width" = some (some (.ref f16))) (l16 : K.lookup f16 = some ⟨oc16, od16, .func (PySem.W.fnOf "rowset_width" "rowset_width" (defArgs sRW) (defBody sRW) (defScope sRW) .none kV16 doc16 pm16 an16 cd16 ct16), sl16⟩) (c16 : PySem.W.codeIn K cd16 "rowset_width" = true) (k16 : PySem.W.keepIn K (.ref f16) = true)
    {f17 : Addr} {oc17 : Value} {od17 an17 : Option Addr} {sl17 : Array (Option Value)} {kV17 doc17 pm17 cd17 ct17 : Value} (a17 : PySem.W.nsIn K mainGlobals "is_order" = some (some (.ref f17))) (l17 : K.lookup f17 = some ⟨oc17, od17, .func (PySem.W.fnOf "is_order" "is_order" (defArgs sIO) (defBody sIO) (defScope sIO) .none kV17 doc17 pm17 an17 cd17 ct17), sl17⟩) (c17 : PySem.W.codeIn K cd17 "is_order" = true) (k17 : PySem.W.keepIn K (.ref f17) = true)
    {f18 : Addr} {oc18 : Value} {od18 an18 : Option Addr} {sl18 : Array (Option Value)} {kV18 doc18 pm18 cd18 ct18 : Value} (a18 : PySem.W.nsIn K mainGlobals "check_order" = some (some (.ref f18))) (l18 : K.lookup f18 = some ⟨oc18, od18, .func (PySem.W.fnOf "check_order" "check_order" (defArgs sCO) (defBody sCO) (defScope sCO) .none kV18 doc18 pm18 an18 cd18 ct18), sl18⟩) (c18 : PySem.W.codeIn K cd18 "check_order" = true) (k18 : PySem.W.keepIn K (.ref f18) = true)
    {f19 : Addr} {oc19 : Value} {od19 an19 : Option Addr} {sl19 : Array (Option Value)} {kV19 doc19 pm19 cd19 ct19 : Value} (a19 : PySem.W.nsIn K mainGlobals "order_key" = some (some (.ref f19))) (l19 : K.lookup f19 = some ⟨oc19, od19, .func (PySem.W.fnOf "order_key" "order_key" (defArgs sKey) (defBody sKey) (defScope sKey) .none kV19 doc19 pm19 an19 cd19 ct19), sl19⟩) (c19 : PySem.W.codeIn K cd19 "order_key" = true) (k19 : PySem.W.keepIn K (.ref f19) = true)
    {f20 : Addr} {oc20 : Value} {od20 an20 : Option Addr} {sl20 : Array (Option Value)} {kV20 doc20 pm20 ct20 : Value} {cL0 : Addr} (a20 : PySem.W.nsIn K mainGlobals "sorted_rows" = some (some (.ref f20))) (l20 : K.lookup f20 = some ⟨oc20, od20, .func (PySem.W.fnOf "sorted_rows" "sorted_rows" (defArgs sSR) (defBody sSR) (defScope sSR) .none kV20 doc20 pm20 an20 (.ref cL0) ct20), sl20⟩) (c20 : PySem.W.codeIn K (.ref cL0) "sorted_rows" = true) (k20 : PySem.W.keepIn K (.ref f20) = true)
    {f21 : Addr} {oc21 : Value} {od21 an21 : Option Addr} {sl21 : Array (Option Value)} {kV21 doc21 pm21 cd21 ct21 : Value} (a21 : PySem.W.nsIn K mainGlobals "sorted_names" = some (some (.ref f21))) (l21 : K.lookup f21 = some ⟨oc21, od21, .func (PySem.W.fnOf "sorted_names" "sorted_names" (defArgs sSN) (defBody sSN) (defScope sSN) .none kV21 doc21 pm21 an21 cd21 ct21), sl21⟩) (c21 : PySem.W.codeIn K cd21 "sorted_names" = true) (k21 : PySem.W.keepIn K (.ref f21) = true)
    {f22 : Addr} {oc22 : Value} {od22 an22 : Option Addr} {sl22 : Array (Option Value)} {kV22 doc22 pm22 cd22 ct22 : Value} (a22 : PySem.W.nsIn K mainGlobals "_law_stream" = some (some (.ref f22))) (l22 : K.lookup f22 = some ⟨oc22, od22, .func (PySem.W.fnOf "_law_stream" "_law_stream" (defArgs sStream) (defBody sStream) (defScope sStream) .none kV22 doc22 pm22 an22 cd22 ct22), sl22⟩) (c22 : PySem.W.codeIn K cd22 "_law_stream" = true) (k22 : PySem.W.keepIn K (.ref f22) = true)
    {f23 : Addr} {oc23 : Value} {od23 an23 : Option Addr} {sl23 : Array (Option Value)} {kV23 doc23 pm23 cd23 ct23 : Value} (a23 : PySem.W.nsIn K mainGlobals "_law_draw" = some (some (.ref f23))) (l23 : K.lookup f23 = some ⟨oc23, od23, .func (PySem.W.fnOf "_law_draw" "_law_draw" (defArgs sDraw) (defBody sDraw) (defScope sDraw) .none kV23 doc23 pm23 an23 cd23 ct23), sl23⟩) (c23 : PySem.W.codeIn K cd23 "_law_draw" = true) (k23 : PySem.W.keepIn K (.ref f23) = true)
    {f24 : Addr} {oc24 : Value} {od24 an24 : Option Addr} {sl24 : Array (Option Value)} {kV24 doc24 pm24 cd24 ct24 : Value} (a24 : PySem.W.nsIn K mainGlobals "_law_name" = some (some (.ref f24))) (l24 : K.lookup f24 = some ⟨oc24, od24, .func (PySem.W.fnOf "_law_name" "_law_name" (defArgs sNm) (defBody sNm) (defScope sNm) .none kV24 doc24 pm24 an24 cd24 ct24), sl24⟩) (c24 : PySem.W.codeIn K cd24 "_law_name" = true) (k24 : PySem.W.keepIn K (.ref f24) = true)
    {f25 : Addr} {oc25 : Value} {od25 an25 : Option Addr} {sl25 : Array (Option Value)} {kV25 doc25 pm25 cd25 ct25 : Value} (a25 : PySem.W.nsIn K mainGlobals "_law_rowset" = some (some (.ref f25))) (l25 : K.lookup f25 = some ⟨oc25, od25, .func (PySem.W.fnOf "_law_rowset" "_law_rowset" (defArgs sRs) (defBody sRs) (defScope sRs) .none kV25 doc25 pm25 an25 cd25 ct25), sl25⟩) (c25 : PySem.W.codeIn K cd25 "_law_rowset" = true) (k25 : PySem.W.keepIn K (.ref f25) = true)
    {f26 : Addr} {oc26 : Value} {od26 an26 : Option Addr} {sl26 : Array (Option Value)} {kV26 doc26 pm26 cd26 ct26 : Value} (a26 : PySem.W.nsIn K mainGlobals "_law_order" = some (some (.ref f26))) (l26 : K.lookup f26 = some ⟨oc26, od26, .func (PySem.W.fnOf "_law_order" "_law_order" (defArgs sLO) (defBody sLO) (defScope sLO) .none kV26 doc26 pm26 an26 cd26 ct26), sl26⟩) (c26 : PySem.W.codeIn K cd26 "_law_order" = true) (k26 : PySem.W.keepIn K (.ref f26) = true)
    {f27 : Addr} {oc27 : Value} {od27 an27 : Option Addr} {sl27 : Array (Option Value)} {kV27 doc27 pm27 cd27 ct27 : Value} (a27 : PySem.W.nsIn K mainGlobals "_law_precedes" = some (some (.ref f27))) (l27 : K.lookup f27 = some ⟨oc27, od27, .func (PySem.W.fnOf "_law_precedes" "_law_precedes" (defArgs sLP) (defBody sLP) (defScope sLP) .none kV27 doc27 pm27 an27 cd27 ct27), sl27⟩) (c27 : PySem.W.codeIn K cd27 "_law_precedes" = true) (k27 : PySem.W.keepIn K (.ref f27) = true)
    {f28 : Addr} {oc28 : Value} {od28 an28 : Option Addr} {sl28 : Array (Option Value)} {kV28 doc28 pm28 cd28 ct28 : Value} (a28 : PySem.W.nsIn K mainGlobals "_law_sorted" = some (some (.ref f28))) (l28 : K.lookup f28 = some ⟨oc28, od28, .func (PySem.W.fnOf "_law_sorted" "_law_sorted" (defArgs sLS) (defBody sLS) (defScope sLS) .none kV28 doc28 pm28 an28 cd28 ct28), sl28⟩) (c28 : PySem.W.codeIn K cd28 "_law_sorted" = true) (k28 : PySem.W.keepIn K (.ref f28) = true)
    {f29 : Addr} {oc29 : Value} {od29 an29 : Option Addr} {sl29 : Array (Option Value)} {kV29 doc29 pm29 cd29 ct29 : Value} (a29 : PySem.W.nsIn K mainGlobals "_law_error_kind" = some (some (.ref f29))) (l29 : K.lookup f29 = some ⟨oc29, od29, .func (PySem.W.fnOf "_law_error_kind" "_law_error_kind" (defArgs sEK) (defBody sEK) (defScope sEK) .none kV29 doc29 pm29 an29 cd29 ct29), sl29⟩) (c29 : PySem.W.codeIn K cd29 "_law_error_kind" = true) (k29 : PySem.W.keepIn K (.ref f29) = true)
    {f30 : Addr} {oc30 : Value} {od30 an30 : Option Addr} {sl30 : Array (Option Value)} {kV30 doc30 pm30 cd30 ct30 : Value} (a30 : PySem.W.nsIn K mainGlobals "_law_column_values" = some (some (.ref f30))) (l30 : K.lookup f30 = some ⟨oc30, od30, .func (PySem.W.fnOf "_law_column_values" "_law_column_values" (defArgs sCV) (defBody sCV) (defScope sCV) .none kV30 doc30 pm30 an30 cd30 ct30), sl30⟩) (c30 : PySem.W.codeIn K cd30 "_law_column_values" = true) (k30 : PySem.W.keepIn K (.ref f30) = true)
    {f31 : Addr} {oc31 : Value} {od31 an31 : Option Addr} {sl31 : Array (Option Value)} {kV31 doc31 pm31 cd31 ct31 : Value} (a31 : PySem.W.nsIn K mainGlobals "_law_prefixes_match" = some (some (.ref f31))) (l31 : K.lookup f31 = some ⟨oc31, od31, .func (PySem.W.fnOf "_law_prefixes_match" "_law_prefixes_match" (defArgs sPM) (defBody sPM) (defScope sPM) .none kV31 doc31 pm31 an31 cd31 ct31), sl31⟩) (c31 : PySem.W.codeIn K cd31 "_law_prefixes_match" = true) (k31 : PySem.W.keepIn K (.ref f31) = true)
    {f32 : Addr} {oc32 : Value} {od32 an32 : Option Addr} {sl32 : Array (Option Value)} {kV32 doc32 pm32 cd32 ct32 : Value} (a32 : PySem.W.nsIn K mainGlobals "_law_errors_match" = some (some (.ref f32))) (l32 : K.lookup f32 = some ⟨oc32, od32, .func (PySem.W.fnOf "_law_errors_match" "_law_errors_match" (defArgs sEM) (defBody sEM) (defScope sEM) .none kV32 doc32 pm32 an32 cd32 ct32), sl32⟩) (c32 : PySem.W.codeIn K cd32 "_law_errors_match" = true) (k32 : PySem.W.keepIn K (.ref f32) = true)
    {f33 : Addr} {oc33 : Value} {od33 an33 : Option Addr} {sl33 : Array (Option Value)} {kV33 doc33 pm33 cd33 ct33 : Value} (a33 : PySem.W.nsIn K mainGlobals "law" = some (some (.ref f33))) (l33 : K.lookup f33 = some ⟨oc33, od33, .func (PySem.W.fnOf "law" "law" (defArgs sLaw) (defBody sLaw) (defScope sLaw) .none kV33 doc33 pm33 an33 cd33 ct33), sl33⟩) (c33 : PySem.W.codeIn K cd33 "law" = true) (k33 : PySem.W.keepIn K (.ref f33) = true)
    (b0 : PySem.W.nsIn K mainGlobals "isinstance" = some none)
    (b1 : PySem.W.nsIn K mainGlobals "bool" = some none)
    (b2 : PySem.W.nsIn K mainGlobals "int" = some none)
    (b3 : PySem.W.nsIn K mainGlobals "str" = some none)
    (b4 : PySem.W.nsIn K mainGlobals "tuple" = some none)
    (b5 : PySem.W.nsIn K mainGlobals "list" = some none)
    (b6 : PySem.W.nsIn K mainGlobals "len" = some none)
    (b7 : PySem.W.nsIn K mainGlobals "all" = some none)
    (b8 : PySem.W.nsIn K mainGlobals "range" = some none)
    (b9 : PySem.W.nsIn K mainGlobals "max" = some none)
    (b10 : PySem.W.nsIn K mainGlobals "min" = some none)
    (b11 : PySem.W.nsIn K mainGlobals "abs" = some none)
    (b12 : PySem.W.nsIn K mainGlobals "repr" = some none)
    (b13 : PySem.W.nsIn K mainGlobals "sorted" = some none)
    (b14 : PySem.W.nsIn K mainGlobals "IndexError" = some none)
    (b15 : PySem.W.nsIn K mainGlobals "ValueError" = some none)
    (b16 : PySem.W.nsIn K mainGlobals "zip" = some none)
    {t0 : Tok} (v0 : PySem.W.nsIn K mainGlobals "MAX_WIDTH" = some (some (.int 4 t0)))
    {t1 : Tok} (v1 : PySem.W.nsIn K mainGlobals "MAX_COST" = some (some (.int 1000000 t1)))
    {t2 : Tok} (v2 : PySem.W.nsIn K mainGlobals "MAX_VALUE" = some (some (.int 1000000000 t2)))
    {t3 : Tok} (v3 : PySem.W.nsIn K mainGlobals "MAX_EXPIRY" = some (some (.int 1000000000 t3)))
    {t4 : Tok} (v4 : PySem.W.nsIn K mainGlobals "MAX_LETTERS" = some (some (.int 8 t4)))
    {t5 : Tok} (v5 : PySem.W.nsIn K mainGlobals "LETTERS" = some (some (.str "abcdefghijklmnopqrstuvwxyz" t5)))
    {t6 : Tok} (v6 : PySem.W.nsIn K mainGlobals "VALUES" = some (some (.int 2 t6)))
    {t7 : Tok} (v7 : PySem.W.nsIn K mainGlobals "NAME" = some (some (.int 0 t7)))
    {t8 : Tok} (v8 : PySem.W.nsIn K mainGlobals "MAX_ROWS" = some (some (.int 60 t8)))
    (aC : PySem.W.nsIn K mainGlobals "InvalidNumber" = some (some (.ref C)))
    (x1 : PySem.W.excInitIn K C ixTl "IndexError.__new__" = true)
    (x2 : PySem.W.excOver K C ixTl = true)
    (x3 : PySem.W.findIn K (.ref C) "__setattr__" = some (some (.builtin "object.__setattr__")))
    (x4 : PySem.W.hasDictIn K C = true)
    (x5 : PySem.W.subIn K (.ref C) (.type "BaseException") = some true)
    (x6 : PySem.W.typeIn K (.ref C) = some (.type "type"))
    (x7 : PySem.W.keepIn K (.ref C) = true)
    (y1 : PySem.W.findIn K (.ref C) "__getattribute__" = some (some (.builtin "BaseException.__getattribute__")))
    (y2 : PySem.W.findIn K (.ref C) "__getattr__" = some none)
    (y3 : PySem.W.findIn K (.ref C) "__class__" = some (some (.builtin "object.__class__")))
    (y4 : PySem.W.specialIn K (.builtin "object.__class__") "__get__" = some (some (.builtin "getset_descriptor.__get__")))
    (y5 : PySem.W.takesIn K (.builtin "object.__class__") = some true)
    (y6 : PySem.W.mroIn K C (.type "object") = some true)
    (z1 : PySem.W.findIn K (.ref C) "value" = some none)
    (z2 : PySem.W.findIn K (.ref C) "__init__" = some (some (.ref fI)))
    (z3 : PySem.W.typeIn K (.ref fI) = some (.type "function"))
    (z4 : PySem.W.findCls K (.type "IndexError") (.type "type") "__init__" = some (.val (.builtin "IndexError.__init__")))
    (z5 : K.lookup fI = some ⟨ocI, odI, .func (PySem.W.fnOf "__init__" "InvalidNumber.__init__" (defArgs sInit) (defBody sInit) (defScope sInit) .none kVI docI pmI anI cdI ctI), slI⟩)
    (z6 : PySem.W.codeIn K cdI "InvalidNumber.__init__" = true)
    (z7 : PySem.W.keepIn K (.ref fI) = true)
    (aS : PySem.W.nsIn K mainGlobals "SparesError" = some (some (.ref S)))
    (s1 : PySem.W.subIn K (.ref S) (.type "BaseException") = some true)
    (s2 : PySem.W.hasDictIn K S = true)
    (s3 : PySem.W.typeIn K (.ref S) = some (.type "type"))
    (aR : PySem.W.nsIn K mainGlobals "InvalidRowset" = some (some (.ref R)))
    (q1 : PySem.W.excIn K R [.type "ValueError", .type "Exception", .type "BaseException", .type "object"] "ValueError.__new__" = true)
    (q2 : PySem.W.keepIn K (.ref R) = true)
    (q3 : PySem.W.subIn K (.ref R) (.type "BaseException") = some true)
    (q4 : PySem.W.typeIn K (.ref R) = some (.type "type"))
    (q5 : PySem.W.hasDictIn K R = true)
    (i1 : PySem.W.findIn K (.ref R) "__getattribute__" = some (some (.builtin "BaseException.__getattribute__")))
    (i2 : PySem.W.findIn K (.ref R) "__getattr__" = some none)
    (i3 : PySem.W.findIn K (.ref R) "__class__" = some (some (.builtin "object.__class__")))
    (i6 : PySem.W.mroIn K R (.type "object") = some true)
    (aM : PySem.W.nsIn K mainGlobals "InvalidOrder" = some (some (.ref M)))
    (m1 : PySem.W.excIn K M [.type "ValueError", .type "Exception", .type "BaseException", .type "object"] "ValueError.__new__" = true)
    (m2 : PySem.W.keepIn K (.ref M) = true)
    (m3 : PySem.W.subIn K (.ref M) (.type "BaseException") = some true)
    (m4 : PySem.W.typeIn K (.ref M) = some (.type "type"))
    (m5 : PySem.W.hasDictIn K M = true)
    (j1 : PySem.W.findIn K (.ref M) "__getattribute__" = some (some (.builtin "BaseException.__getattribute__")))
    (j2 : PySem.W.findIn K (.ref M) "__getattr__" = some none)
    (j3 : PySem.W.findIn K (.ref M) "__class__" = some (some (.builtin "object.__class__")))
    (j6 : PySem.W.mroIn K M (.type "object") = some true)
    (e1 : PySem.W.subIn K (.ref R) (.ref S) = some true)
    (e2 : PySem.W.subIn K (.ref M) (.ref S) = some true)
    (r1 : PySem.W.kitOne K (.ref R) (.ref R) = some true)
    (r2 : PySem.W.kitOne K (.ref R) (.ref M) = some false)
    (r3 : PySem.W.kitOne K (.ref M) (.ref R) = some false)
    (r4 : PySem.W.kitOne K (.ref M) (.ref M) = some true)
    (bd : PySem.W.nsIn K mainGlobals "dict" = some none)
    (d1 : PySem.W.nsIn K mainGlobals "DIRECTIONS" = some (some (.ref td)))
    (d2 : K.lookup td = some ⟨.type "tuple", odT, .seq #[.str "asc" k1T, .str "desc" k2T] nT, slT⟩)
    (g01 : K.lookup cL0 = some ⟨eL0, ddL0, .fields vsL0, slL0⟩)
    (g02 : vsL0[11]? = some (.ref PL0))
    (g03 : PySem.W.codeHdIn K cL0 PL0 = true)
    (g04 : K.lookup PL0 = none)
    (g05 : h.get? PL0 = some { cls := .none, data := .fields #[] })
    : ∃ (fd : FuncData) (cs : List (Addr × Addr)) (sp : Sp), (∀ p ∈ cs, h.get? p.2 = some { cls := .none, data := .fields #[] }) ∧ (∀ p ∈ cs, K.lookup p.2 = none) ∧ (∀ p ∈ cs, PySem.W.CodeHd h p.1 p.2) ∧ (∀ (s : Shared) (u : Value), BindsTo s fd ⟨[u], []⟩ [("script", u)]) ∧
        (∀ (H : Hp) (a : Addr) (ns : List Int), ns.length ≤ 63 → (∀ p ∈ cs, H p.2 = some (.tbl #[])) → SqL K H a (ns.map V.int) → sp [.ref a] H (fun v _ => v = .bl true) fun _ _ _ => False) ∧
        ∀ base : Heap, K.In base → base.Ns mainGlobals mg → (∀ p ∈ cs, LamX.TabB base mg p.1 p.2) → FnG l.prog w K mg base CX0 11 fa fd ["script"] sp := by
  have e := hfa.symm.trans (PySem.W.mg_of X G a33)
  cases e
  have E0 := df_mk (ps := ["value", "low", "high"]) X G a0 l0 c0 k0 (fun _ _ _ _ _ _ us hl => match us, hl with | [_, _, _], _ => rfl)
  have E1 := df_mk (ps := ["value", "low", "high"]) X G a1 l1 c1 k1 (fun _ _ _ _ _ _ us hl => match us, hl with | [_, _, _], _ => rfl)
  have E2 := df_mk (ps := ["value", "low", "high"]) X G a2 l2 c2 k2 (fun _ _ _ _ _ _ us hl => match us, hl with | [_, _, _], _ => rfl)
  have E3 := df_mk (ps := ["width", "value", "length"]) X G a3 l3 c3 k3 (fun _ _ _ _ _ _ us hl => match us, hl with | [_, _, _], _ => rfl)
  have E4 := df_mk (ps := ["parts"]) X G a4 l4 c4 k4 (fun _ _ _ _ _ _ us hl => match us, hl with | [_], _ => rfl)
  have E5 := df_mk (ps := ["names"]) X G a5 l5 c5 k5 (fun _ _ _ _ _ _ us hl => match us, hl with | [_], _ => rfl)
  have E6 := df_mk (ps := ["value"]) X G a6 l6 c6 k6 (fun _ _ _ _ _ _ us hl => match us, hl with | [_], _ => rfl)
  have E7 := df_mk (ps := ["value"]) X G a7 l7 c7 k7 (fun _ _ _ _ _ _ us hl => match us, hl with | [_], _ => rfl)
  have E8 := df_mk (ps := ["value"]) X G a8 l8 c8 k8 (fun _ _ _ _ _ _ us hl => match us, hl with | [_], _ => rfl)
  have E9 := df_mk (ps := ["value"]) X G a9 l9 c9 k9 (fun _ _ _ _ _ _ us hl => match us, hl with | [_], _ => rfl)
  have E10 := df_mk (ps := ["rows"]) X G a10 l10 c10 k10 (fun _ _ _ _ _ _ us hl => match us, hl with | [_], _ => rfl)
  have E11 := df_mk (ps := ["rows"]) X G a11 l11 c11 k11 (fun _ _ _ _ _ _ us hl => match us, hl with | [_], _ => rfl)
  have E12 := df_mk (ps := ["value"]) X G a12 l12 c12 k12 (fun _ _ _ _ _ _ us hl => match us, hl with | [_], _ => rfl)
  have E13 := df_mk (ps := ["rows"]) X G a13 l13 c13 k13 (fun _ _ _ _ _ _ us hl => match us, hl with | [_], _ => rfl)
  have E14 := df_mk (ps := ["rowset"]) X G a14 l14 c14 k14 (fun _ _ _ _ _ _ us hl => match us, hl with | [_], _ => rfl)
  have E15 := df_mk (ps := ["width"]) X G a15 l15 c15 k15 (fun _ _ _ _ _ _ us hl => match us, hl with | [_], _ => rfl)
  have E16 := df_mk (ps := ["rowset"]) X G a16 l16 c16 k16 (fun _ _ _ _ _ _ us hl => match us, hl with | [_], _ => rfl)
  have E17 := df_mk (ps := ["width", "value"]) X G a17 l17 c17 k17 (fun _ _ _ _ _ _ us hl => match us, hl with | [_, _], _ => rfl)
  have E18 := df_mk (ps := ["width", "order"]) X G a18 l18 c18 k18 (fun _ _ _ _ _ _ us hl => match us, hl with | [_, _], _ => rfl)
  have E19 := df_mk (ps := ["row", "order"]) X G a19 l19 c19 k19 (fun _ _ _ _ _ _ us hl => match us, hl with | [_, _], _ => rfl)
  have E20 := df_mk (ps := ["rowset", "order"]) X G a20 l20 c20 k20 (fun _ _ _ _ _ _ us hl => match us, hl with | [_, _], _ => rfl)
  have E21 := df_mk (ps := ["rowset", "order"]) X G a21 l21 c21 k21 (fun _ _ _ _ _ _ us hl => match us, hl with | [_, _], _ => rfl)
  have E22 := df_mk (ps := ["script", "at"]) X G a22 l22 c22 k22 (fun _ _ _ _ _ _ us hl => match us, hl with | [_, _], _ => rfl)
  have E23 := df_mk (ps := ["stream", "total"]) X G a23 l23 c23 k23 (fun _ _ _ _ _ _ us hl => match us, hl with | [_, _], _ => rfl)
  have E24 := df_mk (ps := ["stream", "at"]) X G a24 l24 c24 k24 (fun _ _ _ _ _ _ us hl => match us, hl with | [_, _], _ => rfl)
  have E25 := df_mk (ps := ["stream", "total", "wide"]) X G a25 l25 c25 k25 (fun _ _ _ _ _ _ us hl => match us, hl with | [_, _, _], _ => rfl)
  have E26 := df_mk (ps := ["stream", "wide"]) X G a26 l26 c26 k26 (fun _ _ _ _ _ _ us hl => match us, hl with | [_, _], _ => rfl)
  have E27 := df_mk (ps := ["order", "one", "other"]) X G a27 l27 c27 k27 (fun _ _ _ _ _ _ us hl => match us, hl with | [_, _, _], _ => rfl)
  have E28 := df_mk (ps := ["rows", "order"]) X G a28 l28 c28 k28 (fun _ _ _ _ _ _ us hl => match us, hl with | [_, _], _ => rfl)
  have E29 := df_mk (ps := ["rowset", "order"]) X G a29 l29 c29 k29 (fun _ _ _ _ _ _ us hl => match us, hl with | [_, _], _ => rfl)
  have E30 := df_mk (ps := ["rowset", "order", "names"]) X G a30 l30 c30 k30 (fun _ _ _ _ _ _ us hl => match us, hl with | [_, _, _], _ => rfl)
  have E31 := df_mk (ps := ["stream", "rowset", "order", "width"]) X G a31 l31 c31 k31 (fun _ _ _ _ _ _ us hl => match us, hl with | [_, _, _, _], _ => rfl)
  have E32 := df_mk (ps := ["stream", "rowset", "order", "width"]) X G a32 l32 c32 k32 (fun _ _ _ _ _ _ us hl => match us, hl with | [_, _, _, _], _ => rfl)
  have B : Bl mg := ⟨PySem.W.mg_none_of X G b0, PySem.W.mg_none_of X G b1, PySem.W.mg_none_of X G b2, PySem.W.mg_none_of X G b3, PySem.W.mg_none_of X G b4, PySem.W.mg_none_of X G b5, PySem.W.mg_none_of X G b6, PySem.W.mg_none_of X G b7, PySem.W.mg_none_of X G b8, PySem.W.mg_none_of X G b9, PySem.W.mg_none_of X G b10, PySem.W.mg_none_of X G b11, PySem.W.mg_none_of X G b12, PySem.W.mg_none_of X G b13, PySem.W.mg_none_of X G b14, PySem.W.mg_none_of X G b15, PySem.W.mg_none_of X G b16⟩
  have Ck : Cs mg := ⟨⟨_, PySem.W.mg_of X G v0⟩, ⟨_, PySem.W.mg_of X G v1⟩, ⟨_, PySem.W.mg_of X G v2⟩, ⟨_, PySem.W.mg_of X G v3⟩, ⟨_, PySem.W.mg_of X G v4⟩, ⟨_, PySem.W.mg_of X G v5⟩⟩
  have cv : ∃ t, mg "VALUES" = some (.int 2 t) := ⟨_, PySem.W.mg_of X G v6⟩
  have cn : ∃ t, mg "NAME" = some (.int 0 t) := ⟨_, PySem.W.mg_of X G v7⟩
  have cw : ∃ t, mg "MAX_WIDTH" = some (.int 4 t) := ⟨_, PySem.W.mg_of X G v0⟩
  have cr : ∃ t, mg "MAX_ROWS" = some (.int 60 t) := ⟨_, PySem.W.mg_of X G v8⟩
  have hd : mg "dict" = none := PySem.W.mg_none_of X G bd
  have Cc : Cj K mg := ⟨⟨_, PySem.W.mg_of X G v0⟩, ⟨td, PySem.W.mg_of X G d1, _, _, _, d2, rfl, rfl, by show 2 ≤ sizeLine; decide, .cons ⟨_, rfl⟩ (.cons ⟨_, rfl⟩ .nil)⟩⟩
  have FI := fun_mk (st := sInit) z5 z6 z7
  have T : IN K mg C fI _ := ⟨PySem.W.mg_of X G aC, ⟨ixB, x1, x2, x3, x4, x5, x6, x7⟩, ⟨y1, y2, x5, x4, y3, y4, y5, y6⟩, z1, z2, z3, z4, FI, FI.binds (ps := ["self", "value"]) fun _ _ _ _ _ _ us hl => match us, hl with | [_, _], _ => rfl⟩
  have OR : OC K mg "InvalidRowset" R := ⟨PySem.W.mg_of X G aR, q1, q2, q3, q4⟩
  have OM : OC K mg "InvalidOrder" M := ⟨PySem.W.mg_of X G aM, m1, m2, m3, m4⟩
  have Z : KF K mg R M S := ⟨PySem.W.mg_of X G aS, PySem.W.mg_of X G aR, PySem.W.mg_of X G aM, s1, s2, s3, e1, e2, ⟨i1, i2, q3, q5, i3, y4, y5, i6⟩, ⟨j1, j2, m3, m5, j3, y4, y5, j6⟩, r1, r2, r3, r4⟩
  refine ⟨PySem.W.fnOf "law" "law" (defArgs sLaw) (defBody sLaw) (defScope sLaw) .none kV33 doc33 pm33 an33 cd33 ct33, [(cL0, PL0)], spLaw K PL0, fun p hp => ?_, fun p hp => ?_, fun p hp => ?_, fun s v => .of_eq rfl, fun H a ns hl hP hS => ⟨a, ns, rfl, hS, hl, hP (cL0, PL0) (List.mem_singleton.mpr rfl), fun _ => rfl⟩, fun base _ _ hT => ?_⟩
  · cases List.mem_singleton.mp hp
    exact g05
  · cases List.mem_singleton.mp hp
    exact g04
  · cases List.mem_singleton.mp hp
    exact PySem.W.codeHd_of_K X g03
  have TB0 := hT (cL0, PL0) (List.mem_singleton.mpr rfl)
  have oRow := ok_row (P := l.prog) (w := w) (base := base) B Ck E7 E0 E2 E6 E8
  have oOW := ok_ow (P := l.prog) (w := w) (base := base) (k := 3) B E9 E7 E10 (oRow.mono (by decide)) ((ok_hw B cv E10).mono (by decide))
  have oIR := ok_ir (P := l.prog) (w := w) (base := base) (k := 4) B cr E12 E2 E9 E5 E13 ((ok_tupB B E2).mono (by decide)) oOW ((ok_asc B E5).mono (by decide)) ((ok_no B cn E13).mono (by decide))
  have oCR := ok_cr (P := l.prog) (w := w) (base := base) OR E14 E12 oIR
  have oRW := ok_rw (P := l.prog) (w := w) (base := base) (k := 6) E16 E14 E11 oCR ((ok_wo B cv cw E11).mono (by decide))
  have oCw := ok_cw (P := l.prog) (w := w) (base := base) B Cc T E15 E1 E0
  have oTB := ok_tupB (P := l.prog) (w := w) (base := base) B E2
  have oDi := ok_dir (P := l.prog) (w := w) (base := base) B Cc E3 E0 E2
  have oDs := ok_dist (P := l.prog) (w := w) (base := base) B E4
  have oIO := ok_io (P := l.prog) (w := w) (base := base) B Cc E17 E15 E2 E3 E4 oCw (oTB.mono (by decide)) (oDi.mono (by decide)) (oDs.mono (by decide))
  have oCO := ok_co (P := l.prog) (w := w) (base := base) OM E18 E17 oIO
  have oKy := ok_key (P := l.prog) (w := w) (base := base) B cv cn E19
  have oSR := ok_sr (P := l.prog) (w := w) (base := base) (k := 1) B l20 c20 TB0 E19 oKy
  have oNL := ok_nol (P := l.prog) (w := w) (base := base) B cn E13
  have oSN := ok_sn (P := l.prog) (w := w) (base := base) (k := 7) E21 E18 E16 E13 E20 (oCO.mono (by decide)) oRW (oNL.mono (by decide)) (oSR.mono (by decide))
  have oD := ok_draw (P := l.prog) (w := w) (base := base) B E23
  have oLP := ok_lp (P := l.prog) (w := w) (base := base) B E27
  have oLS := ok_ls (P := l.prog) (w := w) (base := base) (k := 1) B E28 E27 oLP
  have oEK := ok_ek (P := l.prog) (w := w) (base := base) (k := 8) B Z E29 E21 oSN
  have oCV := ok_cv (P := l.prog) (w := w) (base := base) B hd E30
  have oPM := ok_pm (P := l.prog) (w := w) (base := base) (k := 8) B E31 E23 E21 E30 (oD.mono (by decide)) oSN (oCV.mono (by decide))
  have oEM := ok_em (P := l.prog) (w := w) (base := base) (k := 9) B E32 E23 E29 (oD.mono (by decide)) oEK
  exact ok_law (k := 10) B (T := ⟨E22, E23, E25, E26, E21, E28, E31, E32, (ok_stream B E22).mono (by decide), oD.mono (by decide), (ok_rs B E25 E23 E24).mono (by decide), (ok_lo B E26 E23).mono (by decide), oSN.mono (by decide), oLS.mono (by decide), oPM.mono (by decide), oEM⟩) (fun_mk l33 c33 k33)
end Z1
open PySem PySem.W PyProof.Rows
set_option maxHeartbeats 0 in
theorem PySem.Challenge.cw_spareskept_k08_sorted_names_holds : PySem.Challenge.rw_spareskept_k08_sorted_names.Holds := by
  w_on; o_law; k_head; (case hw => w_witness2)
  k_fill
  refine KX.walkGY (l := PySem.Challenge.rw_spareskept_k08_sorted_names) (n := 63) (k := 11) (x := "script") rfl (by decide) rfl ⟨rfl, by decide, by decide⟩ (fun w h Y => PySem.W.km_in_of Y) ?F
  case F =>
    intro w mg fa h KX G hmg Y
    refine' Z1.all_mk KX G hmg ?a0 ?l0 ?c0 ?k0 ?a1 ?l1 ?c1 ?k1 ?a2 ?l2 ?c2 ?k2 ?a3 ?l3 ?c3 ?k3 ?a4 ?l4 ?c4 ?k4 ?a5 ?l5 ?c5 ?k5 ?a6 ?l6 ?c6 ?k6 ?a7 ?l7 ?c7 ?k7 ?a8 ?l8 ?c8 ?k8 ?a9 ?l9 ?c9 ?k9 ?a10 ?l10 ?c10 ?k10 ?a11 ?l11 ?c11 ?k11 ?a12 ?l12 ?c12 ?k12 ?a13 ?l13 ?c13 ?k13 ?a14 ?l14 ?c14 ?k14 ?a15 ?l15 ?c15 ?k15 ?a16 ?l16 ?c16 ?k16 ?a17 ?l17 ?c17 ?k17 ?a18 ?l18 ?c18 ?k18 ?a19 ?l19 ?c19 ?k19 ?a20 ?l20 ?c20 ?k20 ?a21 ?l21 ?c21 ?k21 ?a22 ?l22 ?c22 ?k22 ?a23 ?l23 ?c23 ?k23 ?a24 ?l24 ?c24 ?k24 ?a25 ?l25 ?c25 ?k25 ?a26 ?l26 ?c26 ?k26 ?a27 ?l27 ?c27 ?k27 ?a28 ?l28 ?c28 ?k28 ?a29 ?l29 ?c29 ?k29 ?a30 ?l30 ?c30 ?k30 ?a31 ?l31 ?c31 ?k31 ?a32 ?l32 ?c32 ?k32 ?a33 ?l33 ?c33 ?k33 ?b0 ?b1 ?b2 ?b3 ?b4 ?b5 ?b6 ?b7 ?b8 ?b9 ?b10 ?b11 ?b12 ?b13 ?b14 ?b15 ?b16 ?v0 ?v1 ?v2 ?v3 ?v4 ?v5 ?v6 ?v7 ?v8 ?aC ?x1 ?x2 ?x3 ?x4 ?x5 ?x6 ?x7 ?y1 ?y2 ?y3 ?y4 ?y5 ?y6 ?z1 ?z2 ?z3 ?z4 ?z5 ?z6 ?z7 ?aS ?s1 ?s2 ?s3 ?aR ?q1 ?q2 ?q3 ?q4 ?q5 ?i1 ?i2 ?i3 ?i6 ?aM ?m1 ?m2 ?m3 ?m4 ?m5 ?j1 ?j2 ?j3 ?j6 ?e1 ?e2 ?r1 ?r2 ?r3 ?r4 ?bd ?d1 ?d2 ?g01 ?g02 ?g03 ?g04 ?g05
    (case a0 => k_is); (case l0 => k_is); (case c0 => k_is); (case k0 => k_is)
    (case a1 => k_is); (case l1 => k_is); (case c1 => k_is); (case k1 => k_is)
    (case a2 => k_is); (case l2 => k_is); (case c2 => k_is); (case k2 => k_is)
    (case a3 => k_is); (case l3 => k_is); (case c3 => k_is); (case k3 => k_is)
    (case a4 => k_is); (case l4 => k_is); (case c4 => k_is); (case k4 => k_is)
    (case a5 => k_is); (case l5 => k_is); (case c5 => k_is); (case k5 => k_is)
    (case a6 => k_is); (case l6 => k_is); (case c6 => k_is); (case k6 => k_is)
    (case a7 => k_is); (case l7 => k_is); (case c7 => k_is); (case k7 => k_is)
    (case a8 => k_is); (case l8 => k_is); (case c8 => k_is); (case k8 => k_is)
    (case a9 => k_is); (case l9 => k_is); (case c9 => k_is); (case k9 => k_is)
    (case a10 => k_is); (case l10 => k_is); (case c10 => k_is); (case k10 => k_is)
    (case a11 => k_is); (case l11 => k_is); (case c11 => k_is); (case k11 => k_is)
    (case a12 => k_is); (case l12 => k_is); (case c12 => k_is); (case k12 => k_is)
    (case a13 => k_is); (case l13 => k_is); (case c13 => k_is); (case k13 => k_is)
    (case a14 => k_is); (case l14 => k_is); (case c14 => k_is); (case k14 => k_is)
    (case a15 => k_is); (case l15 => k_is); (case c15 => k_is); (case k15 => k_is)
    (case a16 => k_is); (case l16 => k_is); (case c16 => k_is); (case k16 => k_is)
    (case a17 => k_is); (case l17 => k_is); (case c17 => k_is); (case k17 => k_is)
    (case a18 => k_is); (case l18 => k_is); (case c18 => k_is); (case k18 => k_is)
    (case a19 => k_is); (case l19 => k_is); (case c19 => k_is); (case k19 => k_is)
    (case a20 => k_is); (case l20 => k_is); (case c20 => k_is); (case k20 => k_is)
    (case a21 => k_is); (case l21 => k_is); (case c21 => k_is); (case k21 => k_is)
    (case a22 => k_is); (case l22 => k_is); (case c22 => k_is); (case k22 => k_is)
    (case a23 => k_is); (case l23 => k_is); (case c23 => k_is); (case k23 => k_is)
    (case a24 => k_is); (case l24 => k_is); (case c24 => k_is); (case k24 => k_is)
    (case a25 => k_is); (case l25 => k_is); (case c25 => k_is); (case k25 => k_is)
    (case a26 => k_is); (case l26 => k_is); (case c26 => k_is); (case k26 => k_is)
    (case a27 => k_is); (case l27 => k_is); (case c27 => k_is); (case k27 => k_is)
    (case a28 => k_is); (case l28 => k_is); (case c28 => k_is); (case k28 => k_is)
    (case a29 => k_is); (case l29 => k_is); (case c29 => k_is); (case k29 => k_is)
    (case a30 => k_is); (case l30 => k_is); (case c30 => k_is); (case k30 => k_is)
    (case a31 => k_is); (case l31 => k_is); (case c31 => k_is); (case k31 => k_is)
    (case a32 => k_is); (case l32 => k_is); (case c32 => k_is); (case k32 => k_is)
    (case a33 => k_is); (case l33 => k_is); (case c33 => k_is); (case k33 => k_is)
    (case b0 => k_is); (case b1 => k_is); (case b2 => k_is); (case b3 => k_is); (case b4 => k_is); (case b5 => k_is); (case b6 => k_is); (case b7 => k_is); (case b8 => k_is); (case b9 => k_is); (case b10 => k_is); (case b11 => k_is); (case b12 => k_is); (case b13 => k_is); (case b14 => k_is); (case b15 => k_is); (case b16 => k_is)
    (case v0 => k_is); (case v1 => k_is); (case v2 => k_is); (case v3 => k_is); (case v4 => k_is); (case v5 => k_is); (case v6 => k_is); (case v7 => k_is); (case v8 => k_is)
    (case aC => first | k_is | rfl | k_exc)
    (case z2 => first | k_is | rfl | k_exc)
    (case aS => first | k_is | rfl | k_exc)
    (case aR => first | k_is | rfl | k_exc)
    (case aM => first | k_is | rfl | k_exc)
    (case d1 => first | k_is | rfl | k_exc)
    (case g01 => first | k_is | rfl | k_exc)
    (case g02 => first | k_is | rfl | k_exc)
    (case x1 => first | k_is | rfl | k_exc)
    (case x2 => first | k_is | rfl | k_exc)
    (case x3 => first | k_is | rfl | k_exc)
    (case x4 => first | k_is | rfl | k_exc)
    (case x5 => first | k_is | rfl | k_exc)
    (case x6 => first | k_is | rfl | k_exc)
    (case x7 => first | k_is | rfl | k_exc)
    (case y1 => first | k_is | rfl | k_exc)
    (case y2 => first | k_is | rfl | k_exc)
    (case y3 => first | k_is | rfl | k_exc)
    (case y4 => first | k_is | rfl | k_exc)
    (case y5 => first | k_is | rfl | k_exc)
    (case y6 => first | k_is | rfl | k_exc)
    (case z1 => first | k_is | rfl | k_exc)
    (case z3 => first | k_is | rfl | k_exc)
    (case z4 => first | k_is | rfl | k_exc)
    (case z5 => first | k_is | rfl | k_exc)
    (case z6 => first | k_is | rfl | k_exc)
    (case z7 => first | k_is | rfl | k_exc)
    (case s1 => first | k_is | rfl | k_exc)
    (case s2 => first | k_is | rfl | k_exc)
    (case s3 => first | k_is | rfl | k_exc)
    (case q1 => first | k_is | rfl | k_exc)
    (case q2 => first | k_is | rfl | k_exc)
    (case q3 => first | k_is | rfl | k_exc)
    (case q4 => first | k_is | rfl | k_exc)
    (case q5 => first | k_is | rfl | k_exc)
    (case i1 => first | k_is | rfl | k_exc)
    (case i2 => first | k_is | rfl | k_exc)
    (case i3 => first | k_is | rfl | k_exc)
    (case i6 => first | k_is | rfl | k_exc)
    (case m1 => first | k_is | rfl | k_exc)
    (case m2 => first | k_is | rfl | k_exc)
    (case m3 => first | k_is | rfl | k_exc)
    (case m4 => first | k_is | rfl | k_exc)
    (case m5 => first | k_is | rfl | k_exc)
    (case j1 => first | k_is | rfl | k_exc)
    (case j2 => first | k_is | rfl | k_exc)
    (case j3 => first | k_is | rfl | k_exc)
    (case j6 => first | k_is | rfl | k_exc)
    (case e1 => first | k_is | rfl | k_exc)
    (case e2 => first | k_is | rfl | k_exc)
    (case r1 => first | k_is | rfl | k_exc)
    (case r2 => first | k_is | rfl | k_exc)
    (case r3 => first | k_is | rfl | k_exc)
    (case r4 => first | k_is | rfl | k_exc)
    (case bd => first | k_is | rfl | k_exc)
    (case d2 => first | k_is | rfl | k_exc)
    (case g03 => first | k_is | rfl | k_exc)
    (case g04 => first | k_is | rfl | k_exc)
    (case g05 => exact PySem.W.km_tabs_of Y _ (by first | k_mem | simp))
