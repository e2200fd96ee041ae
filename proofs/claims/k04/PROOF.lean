import PyProof.Rows.All
import Wide.All
import OpenK.AllK
import Wide.FinOn
import HandS.ForMost
import HandS.Wide
import HandS.TupAny
import HandS.TupMul
import HandS.IsInst
import HandS.Style
import PyProof.ReprRoads
import KE.DataEq
import HandS.Walk
import PyProof.StrLawsRepr
import PyProof.FitsInt
import KE.SortData
import KE.KExcInit
import KE.KExcIs
import KE.KIsAll
import HandS.ExcInit
import HandS.ExcField
import HandS.TryOnly
import HandS.Strs
import HandS.SetBool
import HandS.Conv
import HandS.Dict
import HandS.SetFor
import HandS.Zip
import KE.GoesZip
import KE.GoesMore
import KE.KEqDict
import KE.DataCmp
import HandS.Lambda
import HandS.Nested
import HandS.EndTab
import HandS.EndOwn
import HandS.TryMany
import HandS.CallLocal
import PyProof.RulesRaise
import PyProof.FactsTree
import PyProof.ExcClass
import PyProof.ExcBaseAll.LookupError
import HandS.ExcIs
import HandS.ForExc
import KE.KStrOpen
import HandS.Text
import HandS.TupLe
import KE.KNestM
import KE.GoesEnum
import PyProof.DictMoreH
import HandS.SetKeys
import KE.DataMinMax
import PyProof.Claim2Refuses
import HandS.TupSets
import KE.KeyNested
import HandS.Set
import PySem.Challenge.RW_spareskept_k04_union_of_rowsets
set_option Elab.async false
set_option linter.all false
set_option maxRecDepth 100000
set_option maxHeartbeats 2000000
namespace KX
open PySem PySem.Spec PyProof.Rows L2

/-! ### data: what a value holds, through the tracked heap -/
mutual
inductive Dx (H : Hp) : V → PyData → Prop
  | non : Dx H .non .none
  | bl (b : Bool) : Dx H (.bl b) (.bool b)
  | int (i : Int) : Dx H (.int i) (.int i)
  | str (x : Str) : Dx H (.str x) (.str x)
  | lst {a : Addr} {xs : List V} {ds : List PyData} (e : H a = some (.lst xs)) (n : a ≠ sysModules) (h : Dxs H xs ds) : Dx H (.ref a) (.list ds)
  | tup {a : Addr} {xs : List V} {ds : List PyData} (e : H a = some (.tup xs)) (h : Dxs H xs ds) : Dx H (.ref a) (.tuple ds)
  | dic {a : Addr} (e : H a = some (.dK [])) : Dx H (.ref a) (.dict [])
  | dic1 {a : Addr} {x : Str} {i : Int} (e : H a = some (.dK [(.inr x, .int i)])) : Dx H (.ref a) (.dict [(.str x, .int i)])
inductive Dxs (H : Hp) : List V → List PyData → Prop
  | nil : Dxs H [] []
  | cons {v : V} {vs : List V} {d : PyData} {ds : List PyData} (h : Dx H v d) (t : Dxs H vs ds) : Dxs H (v :: vs) (d :: ds)
end

mutual
theorem Dx.mono {H H' : Hp} (s : Same H H') : ∀ (d : PyData) (v : V), Dx H v d → Dx H' v d
  | .none, _, h => by cases h; exact .non
  | .bool b, _, h => by cases h; exact .bl b
  | .int i, _, h => by cases h; exact .int i
  | .str x, _, h => by cases h; exact .str x
  | .list ds, _, h => by
    cases h with
    | lst e n h => exact .lst (s _ _ e) n (Dxs.mono s ds _ h)
  | .tuple ds, _, h => by
    cases h with
    | tup e h => exact .tup (s _ _ e) (Dxs.mono s ds _ h)
  | .dict ks, _, h => by
    cases h with
    | dic e => exact .dic (s _ _ e)
    | dic1 e => exact .dic1 (s _ _ e)
theorem Dxs.mono {H H' : Hp} (s : Same H H') : ∀ (ds : List PyData) (vs : List V), Dxs H vs ds → Dxs H' vs ds
  | [], _, h => by cases h; exact .nil
  | d :: ds, _, h => by
    cases h with
    | cons h t => exact .cons (Dx.mono s d _ h) (Dxs.mono s ds _ t)
end
theorem Dx.up {H H' : Hp} {v : V} {d : PyData} (h : Dx H v d) (s : Same H H') : Dx H' v d := Dx.mono s d v h
theorem Dxs.up {H H' : Hp} {v : List V} {d : List PyData} (h : Dxs H v d) (s : Same H H') : Dxs H' v d := Dxs.mono s d v h
theorem Dxs.len {H : Hp} : ∀ {vs : List V} {ds : List PyData}, Dxs H vs ds → vs.length = ds.length
  | _, _, .nil => rfl
  | _, _, .cons _ t => by simp [Dxs.len t]
theorem Dxs.get {H : Hp} : ∀ {vs : List V} {ds : List PyData} {i : Nat} {d : PyData}, Dxs H vs ds → ds[i]? = some d → ∃ v, vs[i]? = some v ∧ Dx H v d
  | _, _, i, d, .nil, e => by simp at e
  | _, _, 0, d, .cons h _, e => by simp at e; subst e; exact ⟨_, rfl, h⟩
  | _, _, i + 1, d, .cons _ t, e => by
    obtain ⟨v, e1, h⟩ := Dxs.get (i := i) t (by simpa using e)
    exact ⟨v, by simpa using e1, h⟩
theorem Dxs.get' {H : Hp} : ∀ {vs : List V} {ds : List PyData} {i : Nat} {v : V}, Dxs H vs ds → vs[i]? = some v → ∃ d, ds[i]? = some d ∧ Dx H v d
  | _, _, i, d, .nil, e => by simp at e
  | _, _, 0, d, .cons h _, e => by simp at e; subst e; exact ⟨_, rfl, h⟩
  | _, _, i + 1, d, .cons _ t, e => by
    obtain ⟨v, e1, h⟩ := Dxs.get' (i := i) t (by simpa using e)
    exact ⟨v, by simpa using e1, h⟩
theorem Dxs.app {H : Hp} : ∀ {vs : List V} {ds : List PyData} {ws : List V} {es : List PyData}, Dxs H vs ds → Dxs H ws es → Dxs H (vs ++ ws) (ds ++ es)
  | _, _, _, _, .nil, h => h
  | _, _, _, _, .cons h t, k => .cons h (Dxs.app t k)
theorem Dxs.take {H : Hp} : ∀ {vs : List V} {ds : List PyData} (n : Nat), Dxs H vs ds → Dxs H (vs.take n) (ds.take n)
  | _, _, 0, _ => .nil
  | _, _, _ + 1, .nil => .nil
  | _, _, n + 1, .cons h t => .cons h (Dxs.take n t)
theorem Dxs.drop {H : Hp} : ∀ {vs : List V} {ds : List PyData} (n : Nat), Dxs H vs ds → Dxs H (vs.drop n) (ds.drop n)
  | _, _, 0, h => h
  | _, _, _ + 1, .nil => .nil
  | _, _, n + 1, .cons _ t => Dxs.drop n t
theorem Dxs.rev {H : Hp} : ∀ {vs : List V} {ds : List PyData}, Dxs H vs ds → Dxs H vs.reverse ds.reverse
  | _, _, .nil => .nil
  | _, _, .cons h t => by
    rw [List.reverse_cons, List.reverse_cons]
    exact (Dxs.rev t).app (.cons h .nil)

section
variable {X : Cx} {pins : List (Addr × Obj)} {σ : L2.St} {H : Hp} {s : Shared}
mutual
theorem Dx.reads (I : Inv X pins σ H s) : ∀ (d : PyData) (v : V) (u : Value), Dx H v d → RelV v u → ∃ as, Reads s.heap u d as ∧ sysModules ∉ as
  | .none, _, _, h, r => by
    cases h
    cases r
    exact ⟨_, Reads.none, by simp⟩
  | .bool b, _, _, h, r => by
    cases h
    cases r
    exact ⟨_, Reads.bool b, by simp⟩
  | .int i, _, _, h, r => by
    cases h
    obtain ⟨t, rfl⟩ := r
    exact ⟨_, Reads.int i t, by simp⟩
  | .str x, _, _, h, r => by
    cases h
    obtain ⟨t, rfl⟩ := r
    exact ⟨_, Reads.str x t, by simp⟩
  | .list ds, _, _, h, r => by
    cases h with
    | @lst a xs _ e ne h =>
      cases r
      have hs : SqL X.K H a xs := .inl (.inl e)
      obtain ⟨its, rv, ⟨o, n, ho, hc, _, hd⟩, _⟩ := I.list hs
      obtain ⟨as, hr, hn⟩ := Dxs.reads I ds _ its h rv
      refine ⟨_, Reads.list ho hc hd hr, fun z => ?_⟩
      rcases List.mem_cons.mp z with z | z
      · exact ne z.symm
      · exact hn z
  | .tuple ds, _, _, h, r => by
    cases h with
    | @tup a xs _ e h =>
      cases r
      have hs : SqT X.K H a xs := .inl (.inl e)
      obtain ⟨its, rv, ⟨o, ho, hc, n, hd⟩, _⟩ := I.tuple hs
      obtain ⟨as, hr, hn⟩ := Dxs.reads I ds _ its h rv
      exact ⟨_, Reads.tuple ho hc hd hr, hn⟩
  | .dict ks, _, _, h, r => by
    cases h with
    | @dic a e =>
      cases r
      obtain ⟨z, y, vs, r, o, es, ep, e1, ex, ed, hm⟩ := (show ObjOk X.prog X.w H s.heap a (.dK []) from I.hok a _ e)
      cases r
      have hes : es = #[] := by
        obtain ⟨es⟩ := es
        have hl := hm.2.1.length
        cases es with
        | nil => rfl
        | cons x l => simp at hl
      subst hes
      refine ⟨_, Reads.dict (kvs := []) e1 ex.1 ed .nil .nil, fun z => ?_⟩
      have z : sysModules = a := by simpa using z
      rw [z] at y
      simp at y
    | @dic1 a x i e =>
      cases r
      obtain ⟨z, y, vs, r, o, es, ep, e1, ex, ed, hm⟩ := (show ObjOk X.prog X.w H s.heap a (.dK [(.inr x, .int i)]) from I.hok a _ e)
      obtain ⟨es⟩ := es
      obtain ⟨_, hp, _⟩ := hm
      match vs, r, hp with
      | [(k, u)], .cons ⟨hk, tk, hu⟩ .nil, hp =>
        dsimp only at hk hu
        subst hk hu
        match es, hp, ed with
        | [en], .cons a1 a2 .nil, ed =>
          have a1' : keyIs (Sum.inr x) en.key = true := a1
          obtain ⟨q, t, hq1, hq2⟩ := (keyIs_shape a1').resolve_left (fun z => by obtain ⟨_, _, z, _⟩ := z; cases z)
          cases hq1
          refine ⟨_, Reads.dict (kvs := [(.str x, .int i)]) (as := []) (bs := []) e1 ex.1 ed ?_ ?_, fun z => ?_⟩
          · show ReadsAll s.heap [en.key] [PyData.str x] _
            rw [hq2]
            exact ReadsAll.cons (as := []) (bs := []) (.str x t) .nil
          · show ReadsAll s.heap [en.val] [PyData.int i] _
            rw [a2]
            exact ReadsAll.cons (as := []) (bs := []) (.int i tk) .nil
          · have z : sysModules = a := by simpa using z
            rw [z] at y
            simp at y
theorem Dxs.reads (I : Inv X pins σ H s) : ∀ (ds : List PyData) (vs : List V) (us : List Value), Dxs H vs ds → Vals vs us → ∃ as, ReadsAll s.heap us ds as ∧ sysModules ∉ as
  | [], _, _, h, r => by
    cases h
    cases r
    exact ⟨_, ReadsAll.nil, by simp⟩
  | d :: ds, _, _, h, r => by
    cases h with
    | cons h1 h2 =>
      cases r with
      | cons r1 r2 =>
        obtain ⟨as, q1, n1⟩ := Dx.reads I d _ _ h1 r1
        obtain ⟨bs, q2, n2⟩ := Dxs.reads I ds _ _ h2 r2
        exact ⟨_, ReadsAll.cons q1 q2, by simp [n1, n2]⟩
end
/-- a new address is none of the first ones -/
theorem new_big (I : Inv X pins σ H s) {p : Addr} (h : s.heap.objs.size ≤ p) : p ≠ sysModules := by
  intro z
  have h1 : mainGlobals < X.base.objs.size := I.ok.mod.glob.lt
  have h2 := I.ok.bsz
  have h3 := I.sz
  have h4 : sysModules < mainGlobals := by decide
  rw [z] at h
  exact absurd (Nat.lt_of_lt_of_le h4 (Nat.le_trans (Nat.le_of_lt h1) (Nat.le_trans h2 (Nat.le_trans h3 h)))) (Nat.lt_irrefl _)
end

section
variable {X : Cx}
/-- a list that is written, its address none of the first -/
def tLstS (t : TA) : TE := fun σ H Q => t σ H fun xs H1 => xs.length ≤ sizeLine ∧ ∀ p, H1 p = none → p ≠ sysModules → Q (.ref p) (upd H1 p (.lst xs))
theorem pe_lstS {es : List Expr} {t : TA} {pos : Pos} (ha : PA X es t) : PE X (.List es pos) (tLstS t) := by
  constructor
  intro pins s σ H Q I hq
  refine wpAny_List_spliced (thn (ha.run pos pins s σ H _ I hq) fun us s1 hh => ?_)
  obtain ⟨xs, H1, I1, r, z, q⟩ := hh
  have nf : H1 s1.heap.objs.size = none := I1.hok.fresh (Nat.le_refl _)
  refine ⟨by rw [← r.length]; exact z, .ref s1.heap.objs.size, upd H1 s1.heap.objs.size (.lst xs), ?_, rfl, q _ nf (new_big I1 (Nat.le_refl _))⟩
  exact I1.laid (t' := s1.toks) (fun b u e => Heap.get?_push_of_some _ e) (Nat.le_refl _) ⟨z, us, 0, r, Heap.get?_push_size _ rfl⟩
/-- list(t), t a tuple or a list of data -/
theorem call_listS : CallR X (.type "list") (fun xs H Q => ∃ p ys, xs = [.ref p] ∧ (SqL X.K H p ys ∨ SqT X.K H p ys) ∧ ∀ l, H l = none → l ≠ sysModules → Q (.ref l) (upd H l (.lst ys))) := by
  intro pins s σ H xs us Q I r h
  obtain ⟨p, ys, e, hq, q⟩ := h
  subst e
  obtain ⟨u, rfl, rx⟩ := vals1 r
  cases rx
  have nf : H s.heap.objs.size = none := I.hok.fresh (Nat.le_refl _)
  have fin : ∀ (its : List Value), Vals ys its → ys.length ≤ sizeLine → ∀ (g : Heap) (c : Nat), (∀ b o', s.heap.get? b = some o' → g.get? b = some o') →
      g.get? s.heap.objs.size = some { cls := .type "list", dict := none, data := .seq its.toArray c, slots := #[] } → EP X pins σ Q (.ref s.heap.objs.size) { s with heap := g } := by
    intro its rv hz g c kp e
    refine ⟨.ref s.heap.objs.size, _, I.laid (t' := s.toks) kp (Nat.le_refl _) (o := .lst ys) ⟨hz, its, c, rv, e⟩, rfl, q _ nf (new_big I (Nat.le_refl _))⟩
  rcases hq with hq | hq
  · obtain ⟨its, rv, pl, hz⟩ := I.list hq
    have hlen := rv.length
    obtain ⟨o, ho, hc, n, hd⟩ := pl.isList
    exact call_list_seq p (.inl rfl) ho hc hd (fun g c kp e => fin its rv hz g c kp e) (by simp only [List.size_toArray] <;> omega)
  · obtain ⟨its, rv, pl, hz⟩ := I.tuple hq
    have hlen := rv.length
    obtain ⟨o, ho, hc, n, hd⟩ := pl
    exact call_list_seq p (.inr rfl) ho hc hd (fun g c kp e => fin its rv hz g c kp e) (by simp only [List.size_toArray] <;> omega)
/-- repr(x), x data -/
def rReprD : List V → Hp → VK → Prop := fun xs H Q => ∃ x d, xs = [x] ∧ Dx H x d ∧ d.showable = true ∧ d.depth ≤ 100 ∧ d.shown.length ≤ sizeLine ∧ Q (.str d.shown) H
theorem call_reprD {k : Nat} (hr : Room k X.A) (hg : X.A.guards = some []) : CallR X (.builtin "repr") rReprD := by
  intro pins s σ H xs us Q I r h
  obtain ⟨x, d, e, hd, hs, hdp, hz, q⟩ := h
  subst e
  obtain ⟨u, rfl, rx⟩ := vals1 r
  obtain ⟨as, hrd, hn⟩ := Dx.reads I d x u hd rx
  have hu := hr.un
  have fin : ∀ h' u' tk, (∀ b o, s.heap.get? b = some o → h'.get? b = some o) → EP X pins σ Q (.str d.shown u') { s with heap := h', toks := tk } := fun h' u' tk hk =>
    ⟨.str d.shown, H, I.kept (t' := tk) hk, ⟨_, rfl⟩, q⟩
  cases hd with
  | non =>
    cases (show u = Value.none from rx)
    simp only [PyData.shown] at fin
    exact PySem.P.repr_of_none (fin _ _ _ fun _ _ e => e)
  | bl b =>
    cases (show u = Value.bool b from rx)
    simp only [PyData.shown] at fin
    exact PySem.P.repr_of_bool (fin _ _ _ fun _ _ e => e)
  | int i =>
    obtain ⟨t, z⟩ := (show ∃ t, u = Value.int i t from rx)
    cases z
    simp only [PyData.shown] at fin
    exact PySem.P.repr_of_int (by simpa [PyData.showable] using hs) (fin _ _ _ fun _ _ e => e)
  | str y =>
    obtain ⟨t, z⟩ := (show ∃ t, u = Value.str y t from rx)
    cases z
    simp only [PyData.shown] at fin hz
    exact PySem.P.repr_of_str (fin _ _ _ fun _ _ e => e) hz
  | lst e n h =>
    cases (show u = Value.ref _ from rx)
    exact repr_of_reads' hrd hs (fun _ => hn) hg (by omega) (fun _ _ e => e) fin hz
  | tup e h =>
    cases (show u = Value.ref _ from rx)
    exact repr_of_reads' hrd hs (fun _ => hn) hg (by omega) (fun _ _ e => e) fin hz
  | dic e =>
    cases (show u = Value.ref _ from rx)
    exact repr_of_reads' hrd hs (fun _ => hn) hg (by omega) (fun _ _ e => e) fin hz
  | dic1 e =>
    cases (show u = Value.ref _ from rx)
    exact repr_of_reads' hrd hs (fun _ => hn) hg (by omega) (fun _ _ e => e) fin hz
end
end KX

set_option maxRecDepth 100000
set_option maxHeartbeats 4000000
namespace KX
open PySem PySem.Spec PyProof.Rows L2 HT
section
variable {prog : Program} {w : World} {A : Around} {E : Value → Shared → Prop} {s : Shared}
theorem rev_adjust (n : Nat) : Builtin.Slice.sliceAdjust none none (-1) (n : Int) = ((n : Int) - 1, -1) := by
  unfold Builtin.Slice.sliceAdjust
  simp
theorem rev_places (n : Nat) : Builtin.Slice.slicePlaces ((n : Int) - 1) (-1) (-1) = n := by
  unfold Builtin.Slice.slicePlaces
  rw [if_neg (by decide)]
  by_cases h : (n : Int) - 1 > -1
  · rw [if_pos h]
    have : ((n : Int) - 1 - -1 - 1) / (- -1) + 1 = (n : Int) := by
      rw [show (- -1 : Int) = 1 by decide, Int.ediv_one]
      omega
    rw [this, Int.toNat_natCast]
  · rw [if_neg h]
    have : n = 0 := by omega
    subst this
    rfl
theorem rev_pick (xs : Array Value) : ((List.range xs.size).filterMap fun (k : Nat) => xs[(((xs.size : Nat) : Int) - 1 + (k : Int) * (-1)).toNat]?).toArray = xs.toList.reverse.toArray := by
  have e : (fun (k : Nat) => xs[(((xs.size : Nat) : Int) - 1 + (k : Int) * (-1)).toNat]?) = fun (k : Nat) => xs[xs.size - 1 - k]? := by
    funext k
    have : (((xs.size : Nat) : Int) - 1 + (k : Int) * (-1)).toNat = xs.size - 1 - k := by omega
    rw [this]
  rw [e]
  have e2 : (fun (k : Nat) => xs[xs.size - 1 - k]?) = (fun i => xs[i]?) ∘ fun k => xs.size - 1 - k := rfl
  rw [e2, ← List.filterMap_map, PySem.W.krv_range, List.filterMap_reverse, PySem.W.krv_all]
theorem applied_rev {sl : Addr} {vs : Value} {n : Nat} {Q : Int × Int × Nat → Shared → Prop} (hs : s.heap.IsSliceOf sl .none .none vs) (ps : IsPart vs (some (-1)))
    (h : Q ((n : Int) - 1, -1, n) s) : wpAny (model prog w) A (Builtin.Slice.sliceApplied (.ref sl) (pure (n : Int))) Q E s := by
  obtain ⟨os, hos, hcs, hds⟩ := id hs
  unfold Builtin.Slice.sliceApplied Builtin.Slice.sliceFields
  refine wpAny_bind (wpAny_bind (wpAny_field hos hds (x := .none) rfl (wpAny_bind (wpAny_field hos hds (x := .none) rfl (wpAny_bind (wpAny_field hos hds (x := vs) rfl (wpAny_pure ?_)))))))
  refine wpAny_bind (slicePart_ ps ?_)
  show wpAny _ _ (if ((-1 : Int) == 0) = true then _ else _) _ _ s
  rw [if_neg (by decide)]
  refine wpAny_bind (slicePart_none (wpAny_bind (slicePart_none (wpAny_bind (wpAny_pure ?_)))))
  show wpAny _ _ (match Builtin.Slice.sliceAdjust none none (-1) (n : Int) with | (lo, hi) => pure (lo, (-1 : Int), Builtin.Slice.slicePlaces lo hi (-1))) _ _ s
  rw [rev_adjust n]
  show wpAny _ _ (pure ((n : Int) - 1, (-1 : Int), Builtin.Slice.slicePlaces ((n : Int) - 1) (-1) (-1))) _ _ s
  rw [rev_places]
  exact wpAny_pure h
theorem getItem_tuple_rev {t sl : Addr} {items : Array Value} {vs : Value} {Q : Value → Shared → Prop} (ht : IsTup s.heap t items) (hs : s.heap.IsSliceOf sl .none .none vs) (ps : IsPart vs (some (-1)))
    (h : Q (.ref s.heap.objs.size) { s with heap := s.heap.push { cls := .type "tuple", data := .seq items.toList.reverse.toArray } })
    (hsz : items.size ≤ sizeLine) : wpAny (model prog w) A (getItem (.ref t) (.ref sl)) Q E s := by
  have htk : sizeOk (.seq items.toList.reverse.toArray) := by
    show items.toList.reverse.toArray.size ≤ sizeLine
    rw [List.size_toArray, List.length_reverse, Array.length_toList]
    exact hsz
  obtain ⟨os, hos, hcs, hds⟩ := id hs
  have hTs : s.TypeIs (.ref sl) "slice" := ⟨os, hos, hcs⟩
  unfold getItem
  try with_reducible refine wpAny_holding ?_
  first | refine wpAny_bind (wpAny_pure ?_) | skip
  refine wpAny_bind (wpAny_sequenceKey ht.typeIs (by decide) ?_)
  refine wpAny_bind (wpAny_callSpecial?_slot (name := Str.ofString "__getitem__") ht.typeIs PyProof.Rows.slot_tuple_getitem
    (wpAny_call_entry PyProof.Rows.slot_tuple_getitem ht.typeIs entry_tuple_getitem ?_ (args_tuple_getitem _ _)))
  show wpAny _ _ (Builtin.Tuple.tupleItemsOf (.ref t) >>= _) _ _ s
  refine wpAny_bind (tupleItemsOf_ ht ?_)
  refine wpAny_bind (wpAny_typeOf hTs ?_)
  rw [if_pos (by decide)]
  refine wpAny_bind (applied_rev hs ps ?_)
  have hno : ¬ ((((items.size : Nat) : Int) - 1 == 0 && (-1 : Int) == 1 && items.size == items.size) = true) := by
    intro q
    rw [Bool.and_eq_true, Bool.and_eq_true] at q
    exact absurd q.1.2 (by decide)
  show wpAny _ _ (if (((items.size : Nat) : Int) - 1 == 0 && (-1 : Int) == 1 && items.size == items.size) = true then _ else _) _ _ s
  rw [if_neg hno, rev_pick]
  first
    | exact wpAny_bind (m := Builtin.Tuple.tupleExact _) (wpAny_newObj_type (wpAny_pure ⟨_, rfl, wpAny_pure h⟩) htk)
    | exact wpAny_bind (m := Builtin.Tuple.tupleExact _) (wpAny_newObj_type (wpAny_bind (wpAny_pure (wpAny_pure ⟨_, rfl, wpAny_pure h⟩))) htk)
    | exact wpAny_bind (wpAny_bind (m := Builtin.Tuple.tupleExact _) (wpAny_newObj_type (wpAny_pure (wpAny_pure ⟨_, rfl, wpAny_pure h⟩)) htk))
    | exact wpAny_bind (wpAny_bind (m := Builtin.Tuple.tupleExact _) (wpAny_newObj_type (wpAny_pure ⟨_, rfl, wpAny_pure h⟩) htk))
end
section
variable {X : Cx}
/-- t[::-1], t a tuple: a new tuple -/
def tRevT (K : PySem.W.Frag) (te : TE) : TE := fun σ H Q => te σ H fun x H1 => ∃ a xs, x = .ref a ∧ SqT K H1 a xs ∧ ∀ p, H1 p = none → Q (.ref p) (upd H1 p (.tup xs.reverse))
theorem pe_revT {e : Expr} {te : TE} {k : Nat} {p1 p2 p3 pos : Pos} (he : PE X e te) : PE X (.Subscript e (.Slice none none (some (.UnaryOp .USub (.Constant (.int 1) k p1) p2)) p3) pos) (tRevT X.K te) := by
  constructor
  intro pins s σ H Q I h
  refine Subscript_ (thn (he.run pins s σ H _ I h) fun v s1 hh => ?_)
  obtain ⟨x, H1, I1, r1, a, xs, ex, hx, q⟩ := hh
  subst ex
  cases r1
  have hst : PO X (some (.UnaryOp .USub (.Constant (.int 1) k p1) p2)) (tPart (tUn (rU fun i => .int (-i)) (tC (.int 1)))) := po_some (pe_un un_neg pe_int)
  refine wpAny_Slice (thn (po_none.run pins s1 σ H1 (fun o H2 => o = none ∧ H2 = H1) I1 ⟨rfl, rfl⟩) fun vl s2 hh2 => ?_)
  obtain ⟨l, H2, I2, pl, el, e2⟩ := hh2
  subst el e2
  refine thn (po_none.run pins s2 σ H2 (fun o H3 => o = none ∧ H3 = H2) I2 ⟨rfl, rfl⟩) fun vu s3 hh3 => ?_
  obtain ⟨u, H3, I3, pu, eu, e3⟩ := hh3
  subst eu e3
  refine thn (hst.run pins s3 σ H3 (fun o H4 => o = some (-1) ∧ H4 = H3) I3 ⟨1, rfl, -1, rfl, rfl, rfl⟩) fun vs s4 hh4 => ?_
  obtain ⟨o, H4, I4, ps, eo, e4⟩ := hh4
  subst eo e4
  cases pl
  cases pu
  have I5 : Inv X pins σ H4 { s4 with heap := s4.heap.push { cls := .type "slice", data := .fields #[.none, .none, vs] } } := I4.kept (t' := s4.toks) fun b ob q => Heap.get?_push_of_some _ q
  obtain ⟨its, r, ht, hz⟩ := I5.tuple hx
  have hlen := r.length
  show wpAny (model X.prog X.w) X.A (subscriptTail e (.Slice none none (some (.UnaryOp .USub (.Constant (.int 1) k p1) p2)) p3) (.ref a) (.ref s4.heap.objs.size)) (EP X pins σ Q) X.xe { s4 with heap := s4.heap.push { cls := .type "slice", data := .fields #[.none, .none, vs] } }
  refine tail_any (ops := [.ref a, .ref s4.heap.objs.size]) ht.typeIs (PyProof.Rows.slot_tuple_getitem.lookup) ?_ (by with_unfolding_all rfl)
  refine getItem_tuple_rev ht (Heap.IsSliceOf.new _ .none .none vs) ps ?_ (by rw [List.size_toArray]; omega)
  refine ⟨.ref _, _, I5.laid (t' := s4.toks) (o := .tup xs.reverse) (fun b ob q => Heap.get?_push_of_some _ q) (Nat.le_refl _) ?_, rfl, q _ (I5.hok.fresh (Nat.le_refl _))⟩
  exact ⟨by rw [List.length_reverse]; exact hz, _, r.reverse, IsTup.new _ _⟩
/-- a power, great -/
theorem op_powW : OpR X (binaryOp .Pow) (rI (fun i j => 0 ≤ j ∧ (Builtin.Int.intBits i : Int) * j ≤ 2 ^ 27) fun i j => .int (i ^ j.toNat)) := opI fun _ _ _ _ _ _ _ hc q => pow_int hc.1 hc.2 q
end
end KX

set_option maxRecDepth 100000
set_option maxHeartbeats 4000000
namespace KX
open PySem PySem.Spec PyProof.Rows L2
/-! ### a def that shows data (repr): its promise where no repr runs around it -/
structure FnG (P : Program) (w : World) (K : PySem.W.Frag) (mg : Str → Option Value) (base : Heap) (CX : CXT) (k : Nat) (f : Addr) (fd : FuncData) (ps : List Str) (sp : Sp) : Prop where
  len : ∀ vs H Q E, sp vs H Q E → vs.length = ps.length
  run : ∀ (B : Around) (outs : List Env) (t : Shared) (H : Hp) (given : Args) (us : List Value) (vs : List V) (Q : VK) (E : XK), B.guards = some [] → Room k B → Env0 P w K mg base B outs t H →
    BindsTo t fd given (ps.zip us) → Vals vs us → sp vs H Q E → codeAny (model P w) B (.call (.ref f) given) (CR CX outs P w H t Q E) t
theorem FnG.mono {P : Program} {w : World} {K : PySem.W.Frag} {mg : Str → Option Value} {base : Heap} {CX : CXT} {j k : Nat} {f : Addr} {fd : FuncData} {ps : List Str} {sp : Sp} (F : FnG P w K mg base CX j f fd ps sp) (h : j ≤ k) :
    FnG P w K mg base CX k f fd ps sp := ⟨F.len, fun B outs t H given us vs Q E hg hr => F.run B outs t H given us vs Q E hg (hr.mono h)⟩
section
variable {X : Cx} {CX : CXT} {k : Nat} {f : Addr} {fd : FuncData} {ps : List Str} {sp : Sp} {dvs : List V} {ds : List Value} {E : XK} {x : Str} {p pos : Pos} {e : Expr} {es : List Expr} {t : TA}
theorem run_fnG {pins : List (Addr × Obj)} {σ : L2.St} {H : Hp} {s : Shared} {Q : VK} {us : List Value} {vs : List V} (F : FnG X.prog X.w X.K X.mg X.base CX k f fd ps sp) (hg : X.A.guards = some []) (hr : Room k X.A) (hb : Binds X.K fd ps ds)
    (hd : Vals dvs ds) (hx : Passes CX X E) (I : Inv X pins σ H s) (r : Vals vs us) (h : sp (vs ++ dvs) H Q E) : wpAny (model X.prog X.w) X.A (call (.ref f) us) (EP X pins σ Q) X.xe s := by
  have r2 : Vals (vs ++ dvs) (us ++ ds) := r.append hd
  have hl : (us ++ ds).length = ps.length := by
    rw [← r2.length]
    exact F.len _ _ _ _ h
  refine wpAny_call (codeAny_mono (F.run X.A X.stack s H ⟨us, []⟩ (us ++ ds) (vs ++ dvs) Q E hg hr I.env0 (hb s us I.kIn hl) r2 h) fun r s' hq => ?_)
  match r, hq with
  | .error e, hq => exact hx pins σ H s e s' I hq
  | .ok (.ret u), hq => exact I.after hq
theorem pe_callG (F : FnG X.prog X.w X.K X.mg X.base CX k f fd ps sp) (hgd : X.A.guards = some []) (hr : Room k X.A) (hg : Gl X x) (hm : X.mg x = some (.ref f)) (hk : PySem.W.keepIn X.K (.ref f) = true) (hb : Binds X.K fd ps ds)
    (hd : Vals dvs ds) (hx : Passes CX X E) (ha : PA X (e :: es) t) (hdb : (x == ("__debug__" : Str)) = false := by decide) (he : starEach (e :: es) X.env = (false, eval e X.env) :: starEach es X.env := by rfl)
    (hpl : (backTo pos (starEach es X.env)).any (·.1) = false := by rfl) : PE X (.Call (.Name x p) (e :: es) [] pos) (tCall sp dvs E t) := by
  constructor
  intro pins s σ H Q I h
  refine wpAny_Call_Name_kw (ld_glob I hg hm ?_ hdb)
  refine PySem.W.callWith_K (h₀ := X.base) I.ok.mod.kin hk (thn (ha.run pos pins s σ H _ I h) fun us s1 hh => ?_) he hpl
  obtain ⟨vs, H1, I1, r, q⟩ := hh
  exact ⟨I1.kIn, run_fnG F hgd hr hb hd hx I1 r q⟩
end
/-- a def of the text, where no repr runs around it -/
theorem fn_ofG {CX : CXT} {P : Program} {w : World} {K : PySem.W.Frag} {mg : Str → Option Value} {base : Heap} {k : Nat} {f : Addr} {name qual : Str} {params : Arguments} {body : List Stmt} {scope : Scope} {dV kV doc pm cdv ct oc : Value}
    {an od : Option Addr} {osl : Array (Option Value)} {N ps : List Str} {sp : Sp} (lk : K.lookup f = some ⟨oc, od, .func (PySem.W.fnOf name qual params body scope dV kV doc pm an cdv ct), osl⟩) (hcd : PySem.W.codeIn K cdv qual = true)
    (S : FnScope N ps scope) (len : ∀ vs H Q E, sp vs H Q E → vs.length = ps.length)
    (hbody : ∀ (B : Around) (outs : List Env) (s : Shared) (H : Hp) (vs : List V) (Q : VK) (E : XK), (B.deeper (envOfC qual scope s.heap.objs.size f cdv)).guards = some [] → Room k (B.deeper (envOfC qual scope s.heap.objs.size f cdv)) → sp vs H Q E →
      ∃ t, PSs (cxOf CX P w K mg base N qual scope f cdv B outs s H E) body t ∧ t { nx := fun _ H' => Q .non H', rt := Q } (start N vs) H) :
    FnG P w K mg base CX (k + 1) f (PySem.W.fnOf name qual params body scope dV kV doc pm an cdv ct) ps sp := by
  refine ⟨len, fun B outs s H given us vs Q E hg hr e0 hb r hsp => ?_⟩
  have hl := len _ _ _ _ hsp
  have KX : K.In s.heap := e0.mod.kin.keeps fun b o e => (e0.bs b o e).1
  have lim : s.heap.NoLimit := e0.mod.nolimit.keeps fun b o e => (e0.bs b o e).1
  have hkind : ∀ y ∈ ps.zip us, scope.names.lookup y.1 = some .local ∨ (scope.names.lookup y.1 = some .cell ∧ ((cellsFrom (s.heap.objs.size + 1) scope.names []).lookup y.1).isSome = true) := by
    rintro ⟨n, v⟩ hy
    rcases S.par n (List.of_mem_zip hy).1 with q | q
    · exact .inl q
    · exact .inr ⟨q, PySem.W.cellsFrom_some _ _ _ (.inl q)⟩
  refine codeAny_call_function hr.depth (KX _ _ lk) rfl S.co S.gen rfl (PySem.W.codeRec_of KX hcd) (hb _ _ _ _ ?_)
  refine wpAny_newFunctionEnv_cells S.kind hkind fun env he s1 x => ?_
  subst he
  refine ⟨lim.keeps x.toInCall.keep, codeAny_func ?_⟩
  obtain ⟨t, ht, hq⟩ := hbody B outs s H vs Q E hg (hr.deeper _) hsp
  have I : Inv (cxOf CX P w K mg base N qual scope f cdv B outs s H E) [] (start N vs) H s1 := inv_start S hr.hd e0 hl r x
  refine wpAny_mono (ht.run [] s1 (start N vs) H _ I hq) (fun fl s' hs => ?_) fun e s' hs => hs
  match fl, hs with
  | .ret u, hs =>
    obtain ⟨v, σ', H', J, rv, q⟩ := hs
    exact ⟨v, H', J.os, J.bare, J.base, J.hok, rv, q⟩
  | .next, hs =>
    obtain ⟨σ', H', J, q⟩ := hs
    exact ⟨V.non, H', J.os, J.bare, J.base, J.hok, rfl, q⟩
  | .brk, hs =>
    obtain ⟨_, _, _, q⟩ := hs
    exact False.elim q
  | .cont, hs =>
    obtain ⟨_, _, _, q⟩ := hs
    exact False.elim q
theorem okG {P : Program} {w : World} {K : PySem.W.Frag} {mg : Str → Option Value} {base : Heap} {x qual : Str} {st : Stmt} {f : Addr} {fd : FuncData} {N ps : List Str} {k : Nat} {sp : Sp} (F : Fun K x qual st f fd) (S : FnScope N ps (defScope st))
    (len : ∀ vs H Q E, sp vs H Q E → vs.length = ps.length)
    (hbody : ∀ (cdv : Value) (B : Around) (outs : List Env) (s : Shared) (H : Hp) (vs : List V) (Q : VK) (E : XK), (B.deeper (envOfC qual (defScope st) s.heap.objs.size f cdv)).guards = some [] → Room k (B.deeper (envOfC qual (defScope st) s.heap.objs.size f cdv)) →
      sp vs H Q E → ∃ t, PSs (cxOf CX0 P w K mg base N qual (defScope st) f cdv B outs s H E).nox (defBody st) t ∧ t { nx := fun _ H' => Q .non H', rt := Q } (start N vs) H) : FnG P w K mg base CX0 (k + 1) f fd ps sp := by
  obtain ⟨oc, od, kV, doc, pm, an, cdv, ct, osl, rfl, lk, hcd⟩ := F.ex
  refine fn_ofG lk hcd S len fun B outs s H vs Q E hg hr hsp => ?_
  obtain ⟨t, h, q⟩ := hbody cdv B outs s H vs Q E hg hr hsp
  exact ⟨t, h.nox, q⟩

/-! ### the law's call -/
theorem lawG {P : Program} {w : World} {K : PySem.W.Frag} {mg mb : Str → Option Value} {k : Nat} {fa a : Addr} {fd : FuncData} {x : Str} {sp : Sp} {s1 : Shared} {vs : List Value} {ns : List Int}
    (KX : K.In s1.heap) (hns : s1.heap.Ns mainGlobals mg) (hb : s1.heap.Ns builtinsNs mb) (hbb : ∀ x : Str, x ≠ "__name__" → mb x = bootBuiltins x) (hlim : s1.heap.NoLimit) (hg : s1.gens = #[])
    (ha : s1.heap.get? a = some { cls := .type "list", data := .seq vs.toArray }) (hi : IntsAre vs ns) (hl : ns.length ≤ sizeLine) (hr : Room k callerA)
    (F : ∀ base : Heap, K.In base → base.Ns mainGlobals mg → FnG P w K mg base CX0 k fa fd [x] sp) (hbind : ∀ (s : Shared) (u : Value), BindsTo s fd ⟨[u], []⟩ [(x, u)])
    (hsp : ∀ H : Hp, SqL K H a (ns.map V.int) → (∀ b o, H b = some o → ∃ ob u, o = .frz ob u) → sp [.ref a] H (fun v _ => v = .bl true) fun _ _ _ => False) :
    codeAny (model P w) callerA (.call (.ref fa) ⟨[.ref a], []⟩) (fun r s' => r = .ok (.ret (.bool true)) ∧ OldK s1.heap s'.heap ∧ s'.os = s1.os ∧ AllBare s'.gens) s1 := by
  have rv := vals_ints hi
  have lenV := hi.length
  -- the script at a, known to the object, where it is no object of the module; nothing else
  have main : ∀ H : Hp, (∀ b o, H b = some o → b = a ∧ K.lookup a = none ∧ o = .frz { cls := .type "list", data := .seq vs.toArray } (.lst (ns.map V.int))) → SqL K H a (ns.map V.int) →
      codeAny (model P w) callerA (.call (.ref fa) ⟨[.ref a], []⟩) (fun r s' => r = .ok (.ret (.bool true)) ∧ OldK s1.heap s'.heap ∧ s'.os = s1.os ∧ AllBare s'.gens) s1 := by
    intro H hO hS
    have hok : HOk P w H s1.heap := fun b o e => by
      obtain ⟨e1, _, e2⟩ := hO b o e
      subst e1 e2
      exact ⟨ha, by rw [List.length_map]; exact hl, vs, _, rv, ha⟩
    have keep : ∀ {b : Addr} {o : Obj}, s1.heap.get? b = some o → (b = a → False) → (hidT s1.heap H).get? b = some o := fun {b o} e n => hidT_get e (by
      cases q : H b with
      | none => rfl
      | some u => exact (n (hO b u q).1).elim)
    have nsK : ∀ {b : Addr} {m : Str → Option Value}, s1.heap.Ns b m → (hidT s1.heap H).Ns b m := fun {b m} hn => by
      obtain ⟨o, es, ep, e, d, r⟩ := hn
      refine ⟨o, es, ep, keep e fun z => ?_, d, r⟩
      subst z
      rw [ha] at e
      cases e
      cases d
    have hKb : K.In (hidT s1.heap H) := fun b o e => hidT_get (KX b o e) (by
      cases q : H b with
      | none => rfl
      | some u =>
        obtain ⟨e1, e2, _⟩ := hO b u q
        rw [e1, e2] at e
        cases e)
    have hM : Mod K mg (hidT s1.heap H) := ⟨hKb, nsK hns, ⟨mb, nsK hb, hbb⟩, let ⟨mc, h1, h2⟩ := hlim; ⟨mc, nsK h1, h2⟩⟩
    have e0 : Env0 P w K mg (hidT s1.heap H) callerA [] s1 H := ⟨rfl, hM, fun b o e => of_hidT e, Nat.le_of_eq (hidT_size _ _), trivial, fun b hb => absurd (show b ∈ ([] : List Addr) from hb) (by simp), hok, .of_eq hg⟩
    have fr : ∀ b o, H b = some o → ∃ ob u, o = .frz ob u := fun b o e => ⟨_, _, (hO b o e).2.2⟩
    refine codeAny_mono ((F _ hKb (nsK hns)).run callerA [] s1 H ⟨[.ref a], []⟩ [.ref a] [.ref a] _ _ rfl hr e0 (hbind s1 (.ref a)) (.cons rfl .nil) (hsp H hS fr)) fun r s' h => ?_
    match r, h with
    | .error e, h => exact h.elim
    | .ok (.ret u), h =>
      obtain ⟨v, H', os, bare, un, hok', r', q⟩ := h
      have q' : v = .bl true := q
      subst q'
      obtain rfl : u = Value.bool true := r'
      refine ⟨rfl, OldK.of_keep fun b o e => ?_, os, bare⟩
      cases q : H b with
      | none => exact un.keep b o e q (fun z => absurd (show b ∈ ([] : List Addr) from z) (by simp)) (by simp)
      | some u =>
        obtain ⟨e1, _, e2⟩ := hO b u q
        rw [e2] at q
        obtain ⟨f1, _⟩ := hok b _ q
        obtain ⟨f2, _⟩ := hok' b _ (un.frzs b _ _ q)
        rw [e] at f1
        cases f1
        exact f2
  cases hk : K.lookup a with
  | some o =>
    have e := KX a o hk
    rw [ha] at e
    cases e
    exact main (fun _ => none) (fun b u z => by cases (show (none : Option HO) = some u from z)) (.inr ⟨_, vs.toArray, _, hk, rfl, rfl, rfl, by rw [List.size_toArray, lenV]; exact hl, by simpa using rv⟩)
  | none =>
    refine main (fun b => if b = a then some (.frz { cls := .type "list", data := .seq vs.toArray } (.lst (ns.map V.int))) else none) (fun b u z => ?_) (.inl (.inr ⟨_, if_pos rfl⟩))
    by_cases hb : b = a
    · have z' := (if_pos hb).symm.trans z
      cases z'
      exact ⟨hb, hk, rfl⟩
    · have z' := (if_neg hb).symm.trans z
      cases z'
theorem walkG {l : PySem.W.OpenLaw} {n k : Nat} {q : Program} {loose : List Str} {XP : (Str → Option Value) → Heap → Prop} {YP : World → Heap → Prop} {d : DefRec} {K : Params → PySem.W.Frag} {sp : PySem.W.Frag → Sp} {x : Str}
    (hn : l.most = some n) (hn2 : n ≤ sizeLine) (hdf : d.params.defaults = []) (hr : Room k callerA) (hY : ∀ (w : World) (h : Heap), YP w h → (K w.params).In h)
    (F : ∀ (w : World) (mg : Str → Option Value) (fa : Addr) (h : Heap), (K w.params).In h → h.Ns mainGlobals mg → mg d.name = some (.ref fa) →
      ∃ fd : FuncData, (∀ (s : Shared) (u : Value), BindsTo s fd ⟨[u], []⟩ [(x, u)]) ∧ ∀ base : Heap, (K w.params).In base → base.Ns mainGlobals mg → FnG l.prog w (K w.params) mg base CX0 k fa fd [x] (sp (K w.params)))
    (hsp : ∀ (K : PySem.W.Frag) (H : Hp) (a : Addr) (ns : List Int), ns.length ≤ n → SqL K H a (ns.map V.int) → (∀ b o, H b = some o → ∃ ob u, o = .frz ob u) → sp K [.ref a] H (fun v _ => v = .bl true) fun _ _ _ => False) :
    PySem.W.WalkO q loose XP YP l.row.toRowW d [] (fun f vs => PySem.call f vs) := by
  refine Att.attach_call hn hdf fun w s₀ s1 mg mb fa o pm cd doc a vs ns G Y ho hd hcd hmg hobj hints hlen hg => ?_
  have KX := hY w _ Y
  obtain ⟨fd, hb, hF⟩ := F w mg fa _ KX G.T.g hmg
  exact lawG KX G.T.g G.T.b G.T.builtins G.T.nolimit hg hobj hints (Nat.le_trans hlen hn2) hr hF hb fun H hS hO => hsp (K w.params) H a ns hlen hS hO
end KX

set_option maxRecDepth 100000
set_option maxHeartbeats 4000000
namespace KX
open PySem PySem.Spec PyProof.Rows L2
section
variable {X : Cx}
/-- == and != of data without dicts -/
def rEqP (K : PySem.W.Frag) (f : Bool → Bool) : R2 := fun x y H Q => ∃ d e, Dp K H x d ∧ Dp K H y e ∧ d.plain = true ∧ e.plain = true ∧ min d.depth e.depth ≤ 64 ∧ Q (.bl (f (PyData.eqv d e))) H
theorem op_eqP (hu : X.A.units + 64 < cLine) : OpR X (compareOp .Eq) (rEqP X.K id) := by
  intro pins s σ H x y v u Q I rx ry h
  obtain ⟨d, e, hd, he, pd, pe, hm, q⟩ := h
  obtain ⟨as, r1⟩ := Dp.reads I d x v hd rx
  obtain ⟨bs, r2⟩ := Dp.reads I e y u he ry
  exact SeqAt.eq_plain r1 r2 pd pe (by omega) ⟨.bl _, H, I, rfl, q⟩
theorem op_neP (hu : X.A.units + 64 < cLine) : OpR X (compareOp .NotEq) (rEqP X.K not) := by
  intro pins s σ H x y v u Q I rx ry h
  obtain ⟨d, e, hd, he, pd, pe, hm, q⟩ := h
  obtain ⟨as, r1⟩ := Dp.reads I d x v hd rx
  obtain ⟨bs, r2⟩ := Dp.reads I e y u he ry
  exact SeqAt.ne_plain r1 r2 pd pe (by omega) ⟨.bl _, H, I, rfl, q⟩
end
/-- a list of ones against the empty list -/
theorem dp_ints {K : PySem.W.Frag} {H : Hp} : ∀ (ns : List Int), DpAll K H (ns.map V.int) (ns.map PyData.int)
  | [] => .nil
  | n :: ns => .cons (.int n) (dp_ints ns)
theorem dp_strs {K : PySem.W.Frag} {H : Hp} : ∀ (ns : List Str), DpAll K H (ns.map V.str) (ns.map PyData.str)
  | [] => .nil
  | n :: ns => .cons (.str n) (dp_strs ns)
theorem pl_ints : ∀ ns : List Int, PyData.plainAll (ns.map PyData.int) = true
  | [] => rfl
  | n :: ns => by simp [PyData.plainAll, PyData.plain, pl_ints ns]
theorem pl_strs : ∀ ns : List Str, PyData.plainAll (ns.map PyData.str) = true
  | [] => rfl
  | n :: ns => by simp [PyData.plainAll, PyData.plain, pl_strs ns]
theorem eqv_nil (ds : List PyData) : PyData.eqv (.list ds) (.list []) = ds.isEmpty := by
  cases ds <;> simp [PyData.eqv, PyData.eqvAll]
theorem min_nil (d : PyData) : min d.depth (PyData.list []).depth ≤ 64 := by
  have : (PyData.list []).depth ≤ 64 := by decide
  omega
end KX

set_option maxRecDepth 100000
set_option maxHeartbeats 4000000
namespace KX
open PySem PySem.Spec PyProof.Rows L2
/-! ### how great data are -/
/-- {} and {text: int} -/
def fineK (B : Nat) : List (PyData × PyData) → Bool
  | [] => true
  | [(.str x, .int i)] => (x.cps.toList.all fun c => decide (c < 128)) && decide (x.length ≤ 20) && decide (i.natAbs ≤ B)
  | _ => false
theorem fineK_is {B : Nat} {kvs : List (PyData × PyData)} (h : fineK B kvs = true) : kvs = [] ∨ ∃ x i, kvs = [(.str x, .int i)] ∧ (∀ c ∈ x.cps.toList, c < 128) ∧ x.length ≤ 20 ∧ i.natAbs ≤ B := by
  unfold fineK at h
  split at h
  · exact .inl rfl
  · rename_i x i
    simp only [Bool.and_eq_true, decide_eq_true_eq, List.all_eq_true] at h
    exact .inr ⟨x, i, rfl, h.1.1, h.1.2, h.2⟩
  · cases h
mutual
/-- ints within B, texts of plain signs, no dict but {} and {text: int} -/
def fine (B : Nat) : PyData → Bool
  | .none => true
  | .bool _ => true
  | .int i => decide (i.natAbs ≤ B)
  | .str x => x.cps.toList.all fun c => decide (c < 128)
  | .list xs => fineAll B xs
  | .tuple xs => fineAll B xs
  | .dict kvs => fineK B kvs
def fineAll (B : Nat) : List PyData → Bool
  | [] => true
  | x :: xs => fine B x && fineAll B xs
end
mutual
def wt : PyData → Nat
  | .str x => x.length + 1
  | .list xs => wtAll xs + 1
  | .tuple xs => wtAll xs + 1
  | _ => 1
def wtAll : List PyData → Nat
  | [] => 0
  | x :: xs => wt x + wtAll xs
end
theorem fineAll_app (B : Nat) : ∀ xs ys, fineAll B (xs ++ ys) = (fineAll B xs && fineAll B ys)
  | [], ys => by simp [fineAll]
  | x :: xs, ys => by simp [fineAll, fineAll_app B xs ys, Bool.and_assoc]
theorem wtAll_app : ∀ xs ys, wtAll (xs ++ ys) = wtAll xs + wtAll ys
  | [], ys => by simp [wtAll]
  | x :: xs, ys => by simp [wtAll, wtAll_app xs ys, Nat.add_assoc]
theorem fineAll_mem {B : Nat} : ∀ {xs : List PyData}, fineAll B xs = true ↔ ∀ x ∈ xs, fine B x = true
  | [] => by simp [fineAll]
  | x :: xs => by simp [fineAll, fineAll_mem (xs := xs)]
theorem wt_mem : ∀ {xs : List PyData} {x : PyData}, x ∈ xs → wt x ≤ wtAll xs
  | y :: xs, x, h => by
    rcases List.mem_cons.mp h with rfl | h
    · simp [wtAll]
    · have := wt_mem h
      simp [wtAll]
      omega
theorem wtAll_take (n : Nat) : ∀ xs, wtAll (xs.take n) + wtAll (xs.drop n) = wtAll xs := fun xs => by
  rw [← wtAll_app, List.take_append_drop]
theorem wtAll_rev : ∀ xs, wtAll xs.reverse = wtAll xs
  | [] => rfl
  | x :: xs => by
    rw [List.reverse_cons, wtAll_app, wtAll_rev xs]
    simp [wtAll]
    omega
theorem len_wt : ∀ xs : List PyData, xs.length ≤ wtAll xs
  | [] => Nat.zero_le _
  | x :: xs => by
    have := len_wt xs
    have h : 1 ≤ wt x := by cases x <;> simp [wt]
    simp [wtAll]
    omega
mutual
theorem fine_le {B C : Nat} (h : B ≤ C) : ∀ d : PyData, fine B d = true → fine C d = true
  | .none, _ => by simp [fine]
  | .bool _, _ => by simp [fine]
  | .int i, q => by simp [fine] at q ⊢; omega
  | .str x, q => by simpa [fine] using q
  | .list xs, q => by simp only [fine] at q ⊢; exact fineAll_le h xs q
  | .tuple xs, q => by simp only [fine] at q ⊢; exact fineAll_le h xs q
  | .dict kvs, q => by
    rcases fineK_is (show fineK B kvs = true from q) with rfl | ⟨x, i, rfl, h1, h2, h3⟩
    · rfl
    · show fineK C [(.str x, .int i)] = true
      simp only [fineK, Bool.and_eq_true, decide_eq_true_eq, List.all_eq_true]
      exact ⟨⟨h1, h2⟩, by omega⟩
theorem fineAll_le {B C : Nat} (h : B ≤ C) : ∀ ds : List PyData, fineAll B ds = true → fineAll C ds = true
  | [], _ => by simp [fineAll]
  | x :: xs, q => by
    simp only [fineAll, Bool.and_eq_true] at q ⊢
    exact ⟨fine_le h x q.1, fineAll_le h xs q.2⟩
end
theorem piled_cons' (t : Str) (r : List Str) : piled (t :: r) = t.length + 2 + piled r := by
  rw [piled_cons]
theorem listText_le (ts : List Str) : (listText ts).length ≤ piled ts + 2 := by
  unfold listText
  rw [strLen_append]
  cases ts with
  | nil => show 1 + 1 ≤ _; simp [piled]
  | cons t r =>
    show (textFrom 1 ((("[" : Str) ++ ("" : Str)) ++ t) r).length + 1 ≤ _
    rw [textFrom_length_pos _ _ _ (by decide), strLen_append, strLen_append, piled_cons']
    show 1 + 0 + t.length + piled r + 1 ≤ _
    omega
theorem tupleText_le (ts : List Str) : (tupleText ts).length ≤ piled ts + 3 := by
  unfold tupleText
  rw [strLen_append, strLen_append]
  have h2 : ((if ts.length == 1 then ",)" else ")" : String) : Str).length ≤ 2 := by
    split <;> decide
  have h1 : (("(" : Str)).length = 1 := rfl
  by_cases h : ts = []
  · subst h
    have : (Str.join ", " ([] : List Str)).length = 0 := rfl
    omega
  · have := join_length_add ts h
    omega
mutual
theorem shown_le {B : Nat} (hB : B < 10 ^ 400) : ∀ d : PyData, fine B d = true → d.shown.length + 10 ≤ 1000 * wt d
  | .none, _ => by simp only [PyData.shown]; show 4 + 10 ≤ 1000 * 1; decide
  | .bool b, _ => by cases b <;> simp only [PyData.shown] <;> decide
  | .int i, q => by
    have q : i.natAbs ≤ B := by simpa [fine] using q
    have h : (toString i).length ≤ 400 + 1 := PySem.int_text_length_le10 (a := i) (k := 400) (by decide) (by omega)
    simp only [PyData.shown, wt]
    have e : (Str.ofString (toString i)).length = (toString i).length := PySem.ofString_length _
    show (Str.ofString (toString i)).length + 10 ≤ _
    omega
  | .str x, q => by
    have q : ∀ c ∈ x.cps.toList, c < 128 := by
      have q : (x.cps.toList.all fun c => decide (c < 128)) = true := q
      intro c hc
      exact of_decide_eq_true (List.all_eq_true.mp q c hc)
    have h := PySem.StrLaws.reprText_len x fun c hc => Nat.lt_trans (q c hc) (by decide)
    simp only [PyData.shown, wt]
    omega
  | .list xs, q => by
    have q : fineAll B xs = true := by simpa only [fine] using q
    have h1 := listText_le (PyData.shownAll xs)
    have h2 := shownAll_le hB xs q
    simp only [PyData.shown, wt]
    omega
  | .tuple xs, q => by
    have q : fineAll B xs = true := by simpa only [fine] using q
    have h1 := tupleText_le (PyData.shownAll xs)
    have h2 := shownAll_le hB xs q
    simp only [PyData.shown, wt]
    omega
  | .dict kvs, q => by
    rcases fineK_is (show fineK B kvs = true from q) with rfl | ⟨x, i, rfl, h1, h2, h3⟩
    · simp only [PyData.shown, PyData.shownKv]
      show (2 : Nat) + 10 ≤ 1000 * 1
      decide
    · have h := PySem.StrLaws.reprText_len x fun c hc => Nat.lt_trans (h1 c hc) (by decide)
      have h5 : (toString i).length ≤ 400 + 1 := PySem.int_text_length_le10 (a := i) (k := 400) (by decide) (by omega)
      have e : (Str.ofString (toString i)).length = (toString i).length := PySem.ofString_length _
      have h6 := dictText_len_le (PyData.shownKv [(.str x, .int i)])
      simp only [PyData.shown, PyData.shownKv, wt, List.map_cons, List.map_nil, List.sum_cons, List.sum_nil, List.length_cons, List.length_nil, strLen_append] at h6 ⊢
      have e2 : ((": " : Str)).length = 2 := rfl
      have e3 : (Str.ofString (toString i)).length ≤ 401 := by omega
      change _ ≤ (reprText x).length + (": " : Str).length + (Str.ofString (toString i)).length + 0 + 2 * (0 + 1) + 3 at h6
      omega
theorem shownAll_le {B : Nat} (hB : B < 10 ^ 400) : ∀ ds : List PyData, fineAll B ds = true → piled (PyData.shownAll ds) ≤ 1000 * wtAll ds
  | [], _ => by simp [PyData.shownAll, piled]
  | x :: xs, q => by
    simp only [fineAll, Bool.and_eq_true] at q
    have h1 := shown_le hB x q.1
    have h2 := shownAll_le hB xs q.2
    simp only [PyData.shownAll, wtAll]
    rw [piled_cons']
    have h : 1 ≤ wt x := by cases x <;> simp [wt]
    omega
end
end KX
namespace KX
open PySem PySem.Spec PyProof.Rows L2
theorem log_of_fine {B : Nat} (hB : B < 10 ^ 400) {i : Int} (h : i.natAbs ≤ B) : i.natAbs.log2 < 1920 := by
  by_cases z : i.natAbs = 0
  · rw [z]; decide
  · refine (Nat.log2_lt z).mpr ?_
    have : (10 : Nat) ^ 400 < 2 ^ 1920 := by decide +kernel
    omega
mutual
theorem showable_fine {B : Nat} (hB : B < 10 ^ 400) : ∀ d : PyData, fine B d = true → d.showable = true
  | .none, _ => by simp only [PyData.showable]
  | .bool b, _ => by simp only [PyData.showable]
  | .int i, q => by
    have q : i.natAbs ≤ B := by simpa [fine] using q
    simp only [PyData.showable]
    exact decide_eq_true (log_of_fine hB q)
  | .str x, _ => by simp only [PyData.showable]
  | .list xs, q => by
    simp only [PyData.showable]
    exact showableAll_fine hB xs (by simpa only [fine] using q)
  | .tuple xs, q => by
    simp only [PyData.showable]
    exact showableAll_fine hB xs (by simpa only [fine] using q)
  | .dict kvs, q => by
    rcases fineK_is (show fineK B kvs = true from q) with rfl | ⟨x, i, rfl, h1, h2, h3⟩
    · simp only [PyData.showable, PyData.showableKv]
    · simp only [PyData.showable, PyData.showableKv, Bool.and_true, Bool.true_and]
      exact decide_eq_true (log_of_fine hB h3)
theorem showableAll_fine {B : Nat} (hB : B < 10 ^ 400) : ∀ ds : List PyData, fineAll B ds = true → PyData.showableAll ds = true
  | [], _ => by simp only [PyData.showableAll]
  | x :: xs, q => by
    simp only [fineAll, Bool.and_eq_true] at q
    simp only [PyData.showableAll, showable_fine hB x q.1, showableAll_fine hB xs q.2, Bool.and_self]
end
mutual
theorem depth_wt {B : Nat} : ∀ d : PyData, fine B d = true → d.depth ≤ wt d
  | .none, _ => by simp [PyData.depth]
  | .bool b, _ => by simp [PyData.depth]
  | .int i, _ => by simp [PyData.depth]
  | .str x, _ => by simp [PyData.depth]
  | .list xs, q => by
    have := depthAll_wt xs (B := B) (by simpa only [fine] using q)
    simp only [PyData.depth, wt]
    omega
  | .tuple xs, q => by
    have := depthAll_wt xs (B := B) (by simpa only [fine] using q)
    simp only [PyData.depth, wt]
    omega
  | .dict kvs, q => by
    rcases fineK_is (show fineK B kvs = true from q) with rfl | ⟨x, i, rfl, h1, h2, h3⟩ <;> simp [PyData.depth, PyData.depthKv, wt]
theorem depthAll_wt {B : Nat} : ∀ ds : List PyData, fineAll B ds = true → PyData.depthAll ds ≤ wtAll ds
  | [], _ => by simp [PyData.depthAll]
  | x :: xs, q => by
    simp only [fineAll, Bool.and_eq_true] at q
    have h1 := depth_wt x q.1
    have h2 := depthAll_wt xs q.2
    simp only [PyData.depthAll, wtAll]
    omega
end
/-- data that can be shown -/
structure Good (B n : Nat) (d : PyData) : Prop where
  f : fine B d = true
  w : wt d ≤ n
theorem Good.show {B n : Nat} {d : PyData} (g : Good B n d) (hB : B < 10 ^ 400) (hn : n ≤ 100) : d.showable = true ∧ d.depth ≤ 100 ∧ d.shown.length ≤ sizeLine := by
  have h1 := depth_wt d g.f
  have h2 := shown_le hB d g.f
  have h3 := g.w
  refine ⟨showable_fine hB d g.f, by omega, ?_⟩
  rw [sizeLine_eq]
  omega
theorem Good.mono {B n B' n' : Nat} {d : PyData} (g : Good B n d) (h : B ≤ B') (h' : n ≤ n') : Good B' n' d := ⟨fine_le h d g.f, Nat.le_trans g.w h'⟩
/-- new objects beside a stream -/
def hid (l : Addr) (H : Hp) : Hp := fun b => if b = l then none else H b
theorem hid_at {l b : Addr} {H : Hp} (h : b ≠ l) : hid l H b = H b := if_neg h
theorem hid_some {l b : Addr} {H : Hp} {o : HO} (h : hid l H b = some o) : b ≠ l ∧ H b = some o := by
  unfold hid at h
  split at h
  · cases h
  · exact ⟨by assumption, h⟩
/-- all but what stands at l is as it was -/
def Keep (l : Addr) (H H' : Hp) : Prop := ∀ b o, b ≠ l → H b = some o → H' b = some o
theorem Keep.same {l : Addr} {H H' : Hp} (k : Keep l H H') : Same (hid l H) (hid l H') := fun b o e => by
  obtain ⟨n, e⟩ := hid_some e
  rw [hid_at n]
  exact k b o n e
theorem Keep.refl (l : Addr) (H : Hp) : Keep l H H := fun _ _ _ e => e
theorem Keep.trans {l : Addr} {H H1 H2 : Hp} (a : Keep l H H1) (b : Keep l H1 H2) : Keep l H H2 := fun c o n e => b c o n (a c o n e)
theorem Keep.of {l : Addr} {H H' : Hp} (s : Same H H') : Keep l H H' := fun b o _ e => s b o e
theorem Keep.at {l : Addr} {H : Hp} {o : HO} : Keep l H (upd H l o) := fun b u n e => by rw [upd_ne n]; exact e
theorem Keep.new {l p : Addr} {H H' : Hp} {o : HO} (k : Keep l H H') (n : H' p = none) : Keep l H (upd H' p o) := k.trans (Keep.of fun b u e => by rw [upd_ne (ne_of_none e n)]; exact e)
theorem Keep.upd {l : Addr} {H H' : Hp} {o : HO} (k : Keep l H H') : Keep l H (upd H' l o) := k.trans Keep.at
theorem hid_same (l : Addr) (H : Hp) : Same (hid l H) H := fun b o e => (hid_some e).2
/-- a stream stands at l -/
def StO (H : Hp) (l : Addr) : Prop := ∃ a b c : Int, H l = some (.lst [.int a, .int b, .int c])
theorem StO.ne {l p : Addr} {H : Hp} (h : StO H l) (n : H p = none) : p ≠ l := by
  obtain ⟨a, b, c, e⟩ := h
  exact (ne_of_none e n).symm
theorem StO.new {l p : Addr} {H : Hp} {o : HO} (h : StO H l) (n : H p = none) : StO (upd H p o) l := by
  obtain ⟨a, b, c, e⟩ := id h
  exact ⟨a, b, c, by rw [upd_ne (h.ne n).symm]; exact e⟩
theorem StO.same {l : Addr} {H H' : Hp} (h : StO H l) (s : Same H H') : StO H' l := by
  obtain ⟨a, b, c, e⟩ := h
  exact ⟨a, b, c, s _ _ e⟩
theorem hnew {l p : Addr} {H : Hp} {o : HO} (n : H p = none) : Same (hid l H) (hid l (L2.upd H p o)) := ((Keep.refl l H).new n).same
theorem dx_tup {l p : Addr} {H : Hp} {xs : List V} {ds : List PyData} (n : H p = none) (st : StO H l) (h : Dxs (hid l H) xs ds) : Dx (hid l (L2.upd H p (.tup xs))) (.ref p) (.tuple ds) :=
  .tup (by rw [hid_at (st.ne n)]; exact upd_same) (h.up (hnew n))
theorem dx_lst {l p : Addr} {H : Hp} {xs : List V} {ds : List PyData} (n : H p = none) (z : p ≠ sysModules) (st : StO H l) (h : Dxs (hid l H) xs ds) : Dx (hid l (L2.upd H p (.lst xs))) (.ref p) (.list ds) :=
  .lst (by rw [hid_at (st.ne n)]; exact upd_same) z (h.up (hnew n))
theorem dx_dic1 {l p : Addr} {H : Hp} {x : Str} {i : Int} (n : H p = none) (st : StO H l) : Dx (hid l (L2.upd H p (.dK [(.inr x, .int i)]))) (.ref p) (.dict [(.str x, .int i)]) :=
  .dic1 (by rw [hid_at (st.ne n)]; exact upd_same)
theorem dx_dic {l p : Addr} {H : Hp} (n : H p = none) (st : StO H l) : Dx (hid l (L2.upd H p (.dK []))) (.ref p) (.dict []) :=
  .dic (by rw [hid_at (st.ne n)]; exact upd_same)
end KX

set_option maxRecDepth 100000
set_option maxHeartbeats 4000000
namespace KX
open PySem PySem.Spec PyProof.Rows L2
open PySem.W (AllAlike Sortable EachIs dataLe)
theorem each_pairs {β : Type} {R : Value → β → Prop} : ∀ {us : List Value} {bs : List β}, (us.length = bs.length) → (∀ (i : Nat) u b, us[i]? = some u → bs[i]? = some b → R u b) → EachIs R us bs
  | [], [], _, _ => .nil
  | u :: us, b :: bs, hl, h => .cons (h 0 u b rfl rfl) (each_pairs (by simpa using hl) fun i u b e f => h (i + 1) u b (by simpa using e) (by simpa using f))
  | [], _ :: _, hl, _ => by simp at hl
  | _ :: _, [], hl, _ => by simp at hl
section
variable {X : Cx}
/-- sorted(xs), xs alike data -/
def rSortE {β : Type} (K : PySem.W.Frag) (enc : β → PyData) : List V → Hp → VK → Prop := fun vs H Q => ∃ (a : Addr) (bs : List (V × β)), vs = [.ref a] ∧ SqL K H a (bs.map (·.1)) ∧ (∀ b ∈ bs, Dp K H b.1 (enc b.2)) ∧ AllAlike (bs.map fun b => enc b.2) ∧ Sortable (bs.map fun b => enc b.2) ∧
  (∀ b ∈ bs, (enc b.2).depth ≤ 50) ∧ ∀ p, H p = none → Q (.ref p) (L2.upd H p (.lst ((bs.mergeSort (dataLe false fun b => enc b.2)).map (·.1))))
theorem cr_sortE {β : Type} {enc : β → PyData} {k : Nat} (hr : Room k X.A) : CallR X (.builtin "sorted") (rSortE X.K enc) := by
  intro pins s σ H vs us Q I r h
  obtain ⟨a, bs, e, hS, hd, hal, hk, hu, q⟩ := h
  subst e
  obtain ⟨u, rfl, ru⟩ := vals1 r
  cases ru
  obtain ⟨its, rv, pl, hz⟩ := I.list hS
  have hlen := rv.length
  rw [List.length_map] at hlen hz
  have er : EachIs (fun v (b : V × β) => ∃ as, Reads s.heap v (enc b.2) as) its bs := each_pairs (by omega) fun i u b e f => by
    obtain ⟨u', e', ru⟩ := rv.get (i := i) (x := b.1) (by rw [List.getElem?_map, f]; rfl)
    rw [e] at e'
    cases e'
    exact Dp.reads I (enc b.2) b.1 u (hd b (List.mem_of_getElem? f)) ru
  have eR : EachIs (fun v (b : V × β) => RelV b.1 v) its bs := each_pairs (by omega) fun i u b e f => by
    obtain ⟨u', e', ru⟩ := rv.get (i := i) (x := b.1) (by rw [List.getElem?_map, f]; rfl)
    rw [e] at e'
    cases e'
    exact ru
  have hun := hr.un
  refine PySem.W.sorted_data (enc := fun b : V × β => enc b.2) pl.isList eR er hal hk (by omega) (fun b hb => by have := hu b hb; omega) fun out hl he => ?_
  obtain ⟨c, hc⟩ := PyProof.Rows.sortedAll_at s.heap its out.toArray
  have rel : ∀ {ws : List Value} {ps : List (V × β)}, EachIs (fun v (b : V × β) => RelV b.1 v) ws ps → Vals (ps.map (·.1)) ws := by
    intro ws ps e
    induction e with
    | nil => exact .nil
    | cons h t ih => exact .cons h ih
  have keep : ∀ b o, s.heap.get? b = some o → (PyProof.Rows.sortedAll s.heap its out.toArray).get? b = some o := fun _ _ => PyProof.Rows.sortedAll_old
  refine ⟨.ref (s.heap.objs.size + 1), _, I.laid (t' := s.toks) keep (Nat.le_succ _) (o := .lst ((bs.mergeSort (dataLe false fun b => enc b.2)).map (·.1))) ⟨?_, out, c, rel he, hc⟩, rfl, q _ (I.hok.fresh (Nat.le_succ _))⟩
  rw [List.length_map, List.length_mergeSort]
  omega
end
mutual
/-- without dicts: the layer's own data -/
theorem dp_dx {K : PySem.W.Frag} {H : Hp} : ∀ (d : PyData) (v : V), d.plain = true → Dx H v d → Dp K H v d
  | .none, _, _, h => by cases h; exact .non
  | .bool b, _, _, h => by cases h; exact .bl b
  | .int i, _, _, h => by cases h; exact .int i
  | .str x, _, _, h => by cases h; exact .str x
  | .list ds, _, p, h => by
    cases h with
    | lst e n h => exact .lst (.inl (.inl e)) (dps_dx ds _ (by simpa [PyData.plain] using p) h)
  | .tuple ds, _, p, h => by
    cases h with
    | tup e h => exact .tup (.inl (.inl e)) (dps_dx ds _ (by simpa [PyData.plain] using p) h)
  | .dict ks, _, p, _ => by simp [PyData.plain] at p
theorem dps_dx {K : PySem.W.Frag} {H : Hp} : ∀ (ds : List PyData) (vs : List V), PyData.plainAll ds = true → Dxs H vs ds → DpAll K H vs ds
  | [], _, _, h => by cases h; exact .nil
  | d :: ds, _, p, h => by
    have p' : d.plain = true ∧ PyData.plainAll ds = true := by simpa [PyData.plainAll] using p
    cases h with
    | cons h t => exact .cons (dp_dx d _ p'.1 h) (dps_dx ds _ p'.2 t)
end
end KX

set_option maxRecDepth 100000
set_option maxHeartbeats 4000000
namespace KX
open PySem PySem.Spec PyProof.Rows L2
section
variable {X : Cx}
/-- text * 0, text * 1 -/
theorem op_mul_s : OpR X (binaryOp .Mult) (fun x y H Q => ∃ (z : Str) (n : Int), x = .str z ∧ y = .int n ∧ (n = 0 ∨ n = 1) ∧ Q (.str (if n = 1 then z else "")) H) := by
  intro pins s σ H x y v u Q I rx ry h
  obtain ⟨z, n, rfl, rfl, hn, q⟩ := h
  obtain ⟨t, rfl⟩ := rx
  obtain ⟨t', rfl⟩ := ry
  have ok : MulOk z n := by
    rcases hn with rfl | rfl
    · exact ⟨by decide, fun h => absurd (by decide) h, fun h => absurd (by decide) h⟩
    · exact ⟨by decide, fun _ h => by simp at h, fun _ h => by simp at h⟩
  have e : Txt.mul z n = (if n = 1 then z else "") := by
    rcases hn with rfl | rfl
    · rfl
    · simp [Txt.mul]
  refine SB.mul ok fun t1 k => ?_
  rw [e]
  exact ⟨.str _, H, I.tok _, ⟨_, rfl⟩, q⟩
end
end KX

set_option maxRecDepth 100000
set_option maxHeartbeats 4000000
namespace KX
open PySem PySem.Spec PyProof.Rows L2
section
variable {X : Cx}
/-- t != (), t any tuple -/
def rNe0 (K : PySem.W.Frag) : R2 := fun x y H Q => ∃ a b xs, x = .ref a ∧ y = .ref b ∧ SqT K H a xs ∧ SqT K H b [] ∧ Q (.bl (!xs.isEmpty)) H
theorem op_ne0 (hu : X.A.units < cLine) : OpR X (compareOp .NotEq) (rNe0 X.K) := by
  intro pins s σ H x y v u Q I rx ry h
  obtain ⟨a, b, xs, rfl, rfl, ha, hb, q⟩ := h
  cases rx
  cases ry
  obtain ⟨its, r1, p1, _⟩ := I.tuple ha
  obtain ⟨its2, r2, p2, _⟩ := I.tuple hb
  cases r2
  have e : (!((List.range (min its.toArray.size ([] : List Value).toArray.size)).all (fun _ => true) && its.toArray.size == ([] : List Value).toArray.size)) = !xs.isEmpty := by
    have := r1.length
    cases xs with
    | nil =>
      cases its with
      | nil => rfl
      | cons _ _ => simp at this
    | cons _ _ =>
      cases its with
      | nil => simp at this
      | cons _ _ => simp
  refine SeqAt.RcNeAt.tuples (e := fun _ => true) p1 p2 hu (fun j h1 h2 => absurd h2 (by simp)) X.prog X.w X.xe (EP X pins σ Q) ?_
  rw [e]
  exact ⟨.bl _, H, I, rfl, q⟩
end
/-! ### tuples of data, whatever object holds them -/
def cutD (ds : List PyData) (lo hi : Option Int) : List PyData := (ds.drop (HT.sIx ds.length 0 lo)).take (HT.sIx ds.length ds.length hi - HT.sIx ds.length 0 lo)
theorem cutD_to (ds : List PyData) (k : Nat) : cutD ds none (some (k : Int)) = ds.take k := by
  unfold cutD
  rw [HT.sIx_none, HT.sIx_nat, List.drop_zero, Nat.sub_zero]
  by_cases h : k ≤ ds.length
  · rw [Nat.min_eq_left h]
  · rw [Nat.min_eq_right (by omega), List.take_length, List.take_of_length_le (by omega)]
theorem cutD_from (ds : List PyData) (k : Nat) : cutD ds (some (k : Int)) none = ds.drop k := by
  unfold cutD
  rw [HT.sIx_none, HT.sIx_nat]
  by_cases h : k ≤ ds.length
  · rw [Nat.min_eq_left h]
    exact List.take_of_length_le (by rw [List.length_drop]; exact Nat.le_refl _)
  · rw [Nat.min_eq_right (by omega), Nat.sub_self, List.take_zero, List.drop_of_length_le (by omega)]
theorem cutD_one (ds : List PyData) (k : Nat) : cutD ds (some (k : Int)) (some ((k : Int) + 1)) = (ds.drop k).take 1 := by
  unfold cutD
  rw [show ((k : Int) + 1) = ((k + 1 : Nat) : Int) by omega, HT.sIx_nat, HT.sIx_nat]
  by_cases h : k < ds.length
  · rw [Nat.min_eq_left (by omega), Nat.min_eq_left (by omega), Nat.add_sub_cancel_left]
  · rw [Nat.min_eq_right (by omega), Nat.min_eq_right (by omega), Nat.sub_self, List.take_zero, List.drop_of_length_le (by omega)]
    rfl
theorem dxs_cut {H : Hp} {xs : List V} {ds : List PyData} (h : Dxs H xs ds) (lo hi : Option Int) : Dxs H (cutV xs lo hi) (cutD ds lo hi) := by
  unfold cutV cutD
  rw [h.len]
  exact (h.drop _).take _
theorem dx_sqT {K : PySem.W.Frag} {H : Hp} {l a : Addr} {ds : List PyData} (h : Dx (hid l H) (.ref a) (.tuple ds)) : ∃ xs, SqT K H a xs ∧ Dxs (hid l H) xs ds := by
  cases h with
  | @tup a xs _ e h => exact ⟨xs, .inl (.inl (hid_some e).2), h⟩
theorem dx_tupOf {H : Hp} {l : Addr} {v : V} {ds : List PyData} (h : Dx (hid l H) v (.tuple ds)) : ∃ a xs, v = .ref a ∧ a ≠ l ∧ H a = some (.tup xs) ∧ Dxs (hid l H) xs ds := by
  cases h with
  | @tup a xs _ e h => exact ⟨a, xs, rfl, (hid_some e).1, (hid_some e).2, h⟩
section
variable {K : PySem.W.Frag} {H : Hp} {l a b : Addr} {ds es : List PyData} {Q : VK}
theorem sl_of {lo hi : Option Int} {v : V} (hd : Dx (hid l H) v (.tuple ds)) (st : StO H l) (q : ∀ H' p, Keep l H H' → StO H' l → Dx (hid l H') (.ref p) (.tuple (cutD ds lo hi)) → Q (.ref p) H') : rSlA K v lo hi H Q := by
  obtain ⟨a, xs, rfl, na, ea, h⟩ := dx_tupOf hd
  refine ⟨a, xs, rfl, .inl (.inl ea), fun hw => q H a (Keep.refl l H) st ?_, fun _ p np => q _ p ((Keep.refl l H).new np) (st.new np) (dx_tup np st (dxs_cut h lo hi))⟩
  have : cutD ds lo hi = ds := by
    unfold cutD
    rw [← h.len, hw.1, hw.2, List.drop_zero, Nat.sub_zero, List.take_of_length_le (by rw [h.len]; exact Nat.le_refl _)]
  rw [this]
  exact hd
theorem cat_of {v u : V} (hd : Dx (hid l H) v (.tuple ds)) (he : Dx (hid l H) u (.tuple es)) (st : StO H l) (hz : ds.length + es.length ≤ sizeLine)
    (q : ∀ H' p, Keep l H H' → StO H' l → Dx (hid l H') (.ref p) (.tuple (ds ++ es)) → Q (.ref p) H') : rCatA K v u H Q := by
  obtain ⟨a, xs, rfl, na, ea, h⟩ := dx_tupOf hd
  obtain ⟨b, ys, rfl, nb, eb, h2⟩ := dx_tupOf he
  have l1 := h.len
  have l2 := h2.len
  refine ⟨a, b, xs, ys, rfl, rfl, .inl (.inl ea), .inl (.inl eb), by omega, fun z => ?_, fun _ z => ?_, fun _ _ p np => q _ p ((Keep.refl l H).new np) (st.new np) (dx_tup np st (h.app h2))⟩
  · subst z
    have : ds = [] := List.eq_nil_of_length_eq_zero (by simpa using l1.symm)
    subst this
    exact q H b (Keep.refl l H) st he
  · subst z
    have : es = [] := List.eq_nil_of_length_eq_zero (by simpa using l2.symm)
    subst this
    rw [List.append_nil] at q
    exact q H a (Keep.refl l H) st hd
end
end KX

set_option maxRecDepth 100000
set_option maxHeartbeats 4000000
namespace KX
open PySem PySem.Spec PyProof.Rows L2
/-! ### expressions that make data -/
def tD (d : PyData) : TE := fun _ H Q => ∀ H' v, Same H H' → Dx H' v d → Q v H'
def tDs (ds : List PyData) : TA := fun _ H Q => ∀ H' vs, Same H H' → Dxs H' vs ds → Q vs H'
/-- a new list of data -/
def tL (ds : List PyData) : TE := fun _ H Q => ∀ H' p xs, Same H H' → H p = none → H' p = some (.lst xs) → Dxs H' xs ds → Q (.ref p) H'
section
variable {X : Cx} {e : Expr} {es : List Expr} {pos : Pos} {d : PyData} {ds : List PyData}
theorem PE.imp {t t' : TE} (h : PE X e t) (i : ∀ σ H Q, t' σ H Q → t σ H Q) : PE X e t' := ⟨fun pins s σ H Q I q => h.run pins s σ H Q I (i σ H Q q)⟩
theorem PA.imp {t t' : TA} (h : PA X es t) (i : ∀ σ H Q, t' σ H Q → t σ H Q) : PA X es t' := ⟨fun pos pins s σ H Q I q => h.run pos pins s σ H Q I (i σ H Q q)⟩
theorem pd_int {i : Int} {j} : PE X (.Constant (.int i) j pos) (tD (.int i)) := PE.imp pe_int fun _ H Q q => q H _ (Same.refl H) (.int i)
theorem pd_str {x : Str} {j} : PE X (.Constant (.str x) j pos) (tD (.str x)) := PE.imp pe_str fun _ H Q q => q H _ (Same.refl H) (.str x)
theorem pd_bl {b : Bool} {j} : PE X (.Constant (.bool b) j pos) (tD (.bool b)) := PE.imp pe_bl fun _ H Q q => q H _ (Same.refl H) (.bl b)
theorem pd_val {t : TE} {i : Int} (h : PE X e t) (hv : ∀ (σ : L2.St) (H : Hp) (Q : VK), Q (.int i) H → t σ H Q) : PE X e (tD (.int i)) := PE.imp h fun σ H Q q => hv σ H Q (q H _ (Same.refl H) (.int i))
theorem pd_nil : PA X [] (tDs []) := PA.imp pa_nil fun _ H Q q => q H _ (Same.refl H) .nil
theorem pd_cons (h : PE X e (tD d)) (t : PA X es (tDs ds)) (hs : starEach (e :: es) X.env = (false, eval e X.env) :: starEach es X.env := by rfl) : PA X (e :: es) (tDs (d :: ds)) :=
  PA.imp (pa_cons h t hs) fun _ H Q q H1 v s1 dv H2 vs s2 dvs => q H2 (v :: vs) (s1.trans s2) (.cons (dv.up s2) dvs)
theorem pd_tup {x1} (h : PA X es (tDs ds)) (hz : ds.length ≤ sizeLine := by decide) : PE X (.Tuple es x1 pos) (tD (.tuple ds)) :=
  PE.imp (pe_tup h) fun _ H Q q H1 vs s1 dvs => ⟨by rw [dvs.len]; exact hz, fun p np => q _ _ (s1.trans fun b x e => by rw [upd_ne (ne_of_none e np)]; exact e) (.tup upd_same (dvs.up fun b x e => by rw [upd_ne (ne_of_none e np)]; exact e))⟩
theorem pd_lstS (h : PA X es (tDs ds)) (hz : ds.length ≤ sizeLine := by decide) : PE X (.List es pos) (tD (.list ds)) :=
  PE.imp (pe_lstS h) fun _ H Q q H1 vs s1 dvs => ⟨by rw [dvs.len]; exact hz, fun p np zp => q _ _ (s1.trans fun b x e => by rw [upd_ne (ne_of_none e np)]; exact e) (.lst upd_same zp (dvs.up fun b x e => by rw [upd_ne (ne_of_none e np)]; exact e))⟩
theorem pd_lst (h : PA X es (tDs ds)) (hz : ds.length ≤ sizeLine := by decide) : PE X (.List es pos) (tL ds) :=
  PE.imp (pe_lst h) fun _ H Q q H1 vs s1 dvs => ⟨by rw [dvs.len]; exact hz, fun p np => q _ p vs (s1.trans fun b x e => by rw [upd_ne (ne_of_none e np)]; exact e) (s1.free np) upd_same (dvs.up fun b x e => by rw [upd_ne (ne_of_none e np)]; exact e)⟩
theorem dxs_rep {H : Hp} {xs : List V} {es : List PyData} (h : Dxs H xs es) : ∀ n : Nat, Dxs H (List.replicate n xs).flatten (List.replicate n es).flatten
  | 0 => .nil
  | n + 1 => by
    rw [List.replicate_succ, List.replicate_succ, List.flatten_cons, List.flatten_cons]
    exact h.app (dxs_rep h n)
/-- t * k -/
theorem pd_rep {b : Expr} {k : Int} {tb : TE} (h : PE X e (tD (.tuple ds))) (hb : PE X b tb) (hk : ∀ (σ : L2.St) (H : Hp) (Q : VK), Q (.int k) H → tb σ H Q) (k2 : 2 ≤ k) (k1 : k ≤ 1000) (hn : ds ≠ []) (hz : ds.length ≤ 1000) :
    PE X (.BinOp e .Mult b pos) (tD (.tuple (List.replicate k.toNat ds).flatten)) :=
  PE.imp (pe_op op_repT h hb) fun σ H Q q H1 v s1 dv => hk σ H1 _ (by
    cases dv with
    | @tup a xs _ ea hx =>
      have hl := hx.len
      refine ⟨a, k, xs, rfl, rfl, .inl (.inl ea), ?_, k2, k1, by omega, fun p np => q _ _ (s1.trans fun b x e => by rw [upd_ne (ne_of_none e np)]; exact e) (.tup upd_same ((dxs_rep hx k.toNat).up fun b x e => by rw [upd_ne (ne_of_none e np)]; exact e))⟩
      intro z
      subst z
      exact hn (List.eq_nil_of_length_eq_zero (by simpa using hl.symm)))
end
end KX

set_option maxRecDepth 100000
set_option maxHeartbeats 4000000
/-! an own exception class right over a built-in one, whose __init__ says B.__init__(self, x) and then stores -/
namespace KX
open PySem PySem.Spec PyProof.Rows L2
/-- what the library knows of the built-in class B -/
structure XB (B newI iniI : String) (tl : List Value) : Prop where
  fb : PySem.ExcBaseFacts B newI iniI tl
  sf : PySem.StoreFacts B tl "object.__setattr__" "object"
/-- what the written part says of the class at C -/
structure XC (K : PySem.W.Frag) (B newI iniI : String) (tl : List Value) (C : Addr) : Prop where
  b : XB B newI iniI tl
  ini : PySem.W.excInitIn K C tl newI = true
  ovr : PySem.W.excOver K C tl = true
  sa : PySem.W.findIn K (.ref C) "__setattr__" = some (some (.builtin "object.__setattr__"))
  hd : PySem.W.hasDictIn K C = true
  sub : PySem.W.subIn K (.ref C) (.type "BaseException") = some true
  ty : PySem.W.typeIn K (.ref C) = some (.type "type")
  kp : PySem.W.keepIn K (.ref C) = true
section
open PySem.W PySem.Calls PySem.HandSPX Builtin Builtin.ObjectAttr
variable {prog : Program} {w : World} {A : Around} {E : Value → Shared → Prop} {R : Result → Shared → Prop} {hp : Heap} {g : Array GenState} {d : Drawn} {t : Nat} {os : OsState}
/-- the first store into such an exception -/
theorem osa_first {K : PySem.W.Frag} {nm : Str} {tk : Tok} {v : Value} {x C : Addr} {fv : Array Value} {B newI iniI : String} {tl : List Value} (T : XC K B newI iniI tl C)
    (X : K.In hp) (hx : hp.get? x = some { cls := .ref C, data := .fields fv }) (ha : PySem.W.findIn K (.ref C) nm = some none)
    (done : ∀ h2 tk2 dx, (∀ b o, b ≠ x → hp.get? b = some o → h2.get? b = some o) → hp.objs.size ≤ dx → dx ≠ x → h2.get? x = some { cls := .ref C, dict := some dx, data := .fields fv } →
      h2.Ns1 dx (fun y => if y = nm then some v else none) → R (.ok (.ret .none)) ⟨h2, g, d, tk2, os⟩) :
    codeAny (model prog w) A (.call (.builtin "object.__setattr__") ⟨[.ref x, .str nm tk, v], []⟩) R ⟨hp, g, d, t, os⟩ := by
  have tkr : PySem.W.takerIn K C nm = some none := by unfold PySem.W.takerIn; rw [ha]; rfl
  refine PySem.W.osa_openX (s := ⟨hp, g, d, t, os⟩) (od := none) T.b.sf X ⟨hx, rfl, rfl, trivial⟩ T.ovr tkr fun b => ?_
  obtain ⟨cd, hc, hdd⟩ := PySem.W.any_some T.hd
  have hcls : PySem.W.Looks (model prog w) hp (classData C) cd := PySem.W.looks_clsIn X hc
  have far : x ≠ hp.objs.size := Nat.ne_of_lt (Heap.lt_size hx)
  obtain ⟨nm', bs, mro, ns, qn, hd', sn, sb, ab, col, del⟩ := cd
  dsimp only at hdd
  subst hdd
  dsimp only
  unfold storeInOwnDict ownDictForStores
  repeat (first | with_reducible refine store_in_new ?_ ?_ | with_reducible refine wpAny_loadPart_at hx ?_ | with_reducible refine hcls.at ?_ | wp_step)
  · exact ⟨_, #[], _, (Heap.get?_update_ne _ _ _ _ far.symm).trans (Heap.get?_push_at rfl rfl), rfl, fun e he => absurd he (by simp), fun _ => rfl⟩
  · intro h2 tk2 hn2 hs
    have hx1 : (hp.push { cls := .type "dict", data := .dict #[] }).get? x = some { cls := .ref C, data := .fields fv } := Heap.get?_push_of_some _ hx
    refine done h2 tk2 hp.objs.size (fun b o hb ho => ?_) (Nat.le_refl _) far.symm ?_ hn2
    · have z := Heap.get?_push_of_some { cls := .type "dict", data := .dict #[] } ho
      exact (hs.2 b (Nat.ne_of_lt (Heap.lt_size ho))).trans ((Heap.get?_update_ne _ _ _ _ hb).trans z)
    · have z := Heap.get?_update_self (fun o => { o with dict := some hp.objs.size }) hx1 rfl
      exact (hs.2 x far).trans z
end
section
variable {X : Cx} {pins : List (Addr × Obj)} {σ : L2.St} {H : Hp} {s : Shared} {a C dx : Addr} {f : Str} {y : V} {u : Value} {E : Value → Shared → Prop} {A : Around} {B newI iniI : String} {tl : List Value}
/-- self.f = y, the first store -/
theorem store_first {Q : Unit → Shared → Prop} (T : XC X.K B newI iniI tl C) (I : Inv X pins σ H s) (e : H a = some (exo a C none)) (hno : PySem.W.findIn X.K (.ref C) f = some none) (ry : RelV y u)
    (go : ∀ dx s2, H dx = none → dx ≠ a → Inv X pins σ (upd (upd H dx (exd dx [(f, y)])) a (exo a C (some dx))) s2 → Q () s2) :
    wpAny (model X.prog X.w) A (setAttr (.ref a) f u) Q E s := by
  obtain ⟨t1, ho⟩ := exo_at I.hok e
  obtain ⟨hp, g, d, t, os⟩ := s
  refine PySem.W.set_plain I.kIn (ox := { cls := .ref C, dict := none, data := .fields #[.ref t1, .none, .none, .none, .bool false, .none] })
    (od := none) ⟨ho, rfl, rfl, trivial⟩ T.sa (osa_first T I.kIn ho hno (fun h2 tk2 dx k dn dne hx hn => ?_))
  have hnd : H dx = none := I.hok.fresh dn
  have new : ∀ {b : Addr} {o : Obj}, hp.get? b = some o → b ≠ dx := fun {b o} q => Nat.ne_of_lt (Nat.lt_of_lt_of_le (Heap.lt_size q) dn)
  have notA : ∀ {b : Addr}, H b = none → b ≠ a := fun {b} n z => by
    rw [z, e] at n
    cases n
  have U : Un X.fs [] H (upd (upd H dx (exd dx [(f, y)])) a (exo a C (some dx))) hp h2 := {
    keep := fun b o q n _ _ => k b o (notA n) q
    slot := fun b o q n _ _ => ⟨o.slots, k b o (notA n) q⟩
    free := fun b o q n _ => by rw [upd_ne (notA n), upd_ne (new q)]; exact n
    there := fun b o q _ => by
      by_cases hb : b = a
      · exact ⟨_, by rw [hb]; exact hx⟩
      · exact ⟨o, k b o hb q⟩
    tups := fun b xs q => by rw [upd_ne (at_ne e q exo_tup), upd_ne (ne_of_none q hnd)]; exact q
    frzs := fun b o v q => by rw [upd_ne (at_ne e q exo_frz), upd_ne (ne_of_none q hnd)]; exact q
    tbls := fun b ps q => ⟨#[], by rw [upd_ne (at_ne e q exo_tbl), upd_ne (ne_of_none q hnd), q]; simp⟩ }
  refine go dx _ hnd dne (I.un (t' := tk2) U fun b o q => ?_)
  by_cases hb : b = a
  · subst hb
    rw [upd_same] at q
    cases q
    exact exo_ok hx
  · rw [upd_ne hb] at q
    by_cases hd : b = dx
    · subst hd
      rw [upd_same] at q
      cases q
      exact exd_ok hn (relO_put (fs := []) ry fun g => True.intro)
    · rw [upd_ne hd] at q
      refine (I.hok b o q).stay (fun c v hc z => k c v ?_ z) (fun c hc => ?_) (fun c xs hc => ?_)
      · rcases hc with hc | hc
        · rw [hc]
          exact hb
        · exact at_ne e hc exo_own
      · rw [upd_ne (at_ne e hc exo_own), upd_ne (ne_of_none hc hnd)]
        exact hc
      · rw [upd_ne (at_ne e hc exo_tup), upd_ne (ne_of_none hc hnd)]
        exact hc
/-- B.__init__(self, ..): nothing of it is told -/
theorem init_told {us : List Value} {Q : Value → Shared → Prop} (T : XC X.K B newI iniI tl C) (I : Inv X pins σ H s) (e : H a = some (exo a C none)) (hl : us.length ≤ sizeLine) (go : ∀ s2, Inv X pins σ H s2 → Q .none s2) :
    wpAny (model X.prog X.w) A (call (.builtin iniI) (.ref a :: us)) Q E s := by
  obtain ⟨nm, N, qn, bs, bm, hdct, sn, sub, ab, col, dd, k0, k1, k2, k3, k5, hC, hT⟩ := PySem.W.excInit_of I.kIn T.ini
  obtain ⟨t1, ho⟩ := exo_at I.hok e
  obtain ⟨hp, g, d, t, os⟩ := s
  refine wpAny_call (PySem.HandSPX.init_base T.b.fb hT hC ho hl fun h2 t2 k hx => go _ ?_)
  have J := I.write (t' := t) (x := a) (e := a) (o := exo a C none) (by rw [e]; exact True.intro) (.inl rfl) k ⟨_, hx⟩ (exo_ok hx)
  have same : upd H a (exo a C none) = H := by
    funext b
    by_cases hb : b = a
    · rw [hb, upd_same, e]
    · rw [upd_ne hb]
  rw [same] at J
  exact J
end
/-- B.__init__(self, ..) -/
def tBini (K : PySem.W.Frag) (B newI iniI : String) (tl : List Value) (ta : TA) : TE := fun σ H Q => ta σ H fun vs H1 =>
  ∃ (a C : Addr) (ws : List V), vs = .ref a :: ws ∧ ws.length ≤ 1000 ∧ XC K B newI iniI tl C ∧ H1 a = some (exo a C none) ∧ Q .non H1
/-- self.f = e, the first store -/
def tFst (K : PySem.W.Frag) (B newI iniI : String) (tl : List Value) (f : Str) (to te : TE) : TS := fun D σ H => te σ H fun y H1 => to σ H1 fun x H2 =>
  ∃ a C : Addr, x = .ref a ∧ XC K B newI iniI tl C ∧ PySem.W.findIn K (.ref C) f = some none ∧ H2 a = some (exo a C none) ∧
    ∀ dx, H2 dx = none → dx ≠ a → D.nx σ (upd (upd H2 dx (exd dx [(f, y)])) a (exo a C (some dx)))
section
variable {X : Cx} {o e : Expr} {es : List Expr} {to te : TE} {ta : TA} {f : Str} {p p' p1 p2 pos : Pos} {B newI iniI : String} {tl : List Value}
theorem ps_fst (ho : PE X o to) (he : PE X e te) (hs : swapsWith e (some (.Attribute o f p')) pos.line X.env = pure false := by rfl) : PS X (.Assign [.Attribute o f p'] e pos) (tFst X.K B newI iniI tl f to te) := by
  refine ⟨fun pins s σ H D I h => ?_⟩
  refine plainObj_wpAny_Assign_Attribute (thn (he.run pins s σ H _ I h) fun v s1 z1 => ?_) hs
  obtain ⟨y, H1, I1, r1, q1⟩ := z1
  refine thn (ho.run pins s1 σ H1 _ I1 q1) fun u s2 z2 => ?_
  obtain ⟨x, H2, I2, r2, a, C, ex, T, hno, ea, q⟩ := z2
  subst ex
  obtain rfl : u = Value.ref a := r2
  exact store_first T I2 ea hno r1 fun dx s3 n ne J => ⟨σ, _, J, q dx n ne⟩
theorem pe_bini {pl : Sem Bool} (hg : Gl X "IndexError") (hm : X.mg "IndexError" = none) (vV : PySem.W.findCls X.K (.type "IndexError") (.type "type") "__init__" = some (.val (.builtin "IndexError.__init__"))) (ha : PA X (e :: es) ta)
    (hc : eval (.Call (.Attribute (.Name "IndexError" p1) "__init__" p2) (e :: es) [] pos) X.env = (do
      let cv ← eval (.Name "IndexError" p1) X.env
      standAt p2.atName
      let (fn, ahead) ← holding [cv] (getMethod cv "__init__" pl)
      callWith pos fn ahead (backTo pos (starEach (e :: es) X.env)) (backToKw pos (keywordEach [] X.env))) := by rfl)
    (he : starEach (e :: es) X.env = (false, eval e X.env) :: starEach es X.env := by rfl) (hpl : (backTo pos (starEach es X.env)).any (·.1) = false := by rfl) :
    PE X (.Call (.Attribute (.Name "IndexError" p1) "__init__" p2) (e :: es) [] pos) (tBini X.K "IndexError" newI "IndexError.__init__" tl ta) := by
  refine ⟨fun pins s σ H Q I h => ?_⟩
  have ty : typeOf (.type "IndexError") = pure (.type "type") := by kernel_rfl
  refine PySem.W.methodCall_KW (ld_blt I hg hm PyProof.Rows.Boot.«IndexError» ?_ (by decide) (by decide)) hc
  obtain ⟨m, fr⟩ := I.fr
  refine PySem.W.method_type fr I.ok.mod.kin ty (by decide +kernel) vV (by decide +kernel) ?_
  show wpAny _ _ (callWith pos (Value.builtin "IndexError.__init__") [] (backTo pos (starEach (e :: es) X.env)) []) _ _ _
  refine PyProof.Rows.callWith_method1 (thn (ha.run pos pins _ σ H _ (I.tok _) h) fun us s1 z => ?_) he hpl
  obtain ⟨vs, H1, I1, r1, a, C, ws, ev, hl, T, ea, q⟩ := z
  subst ev
  cases r1 with
  | @cons _ u0 _ ur ra rw' =>
    obtain rfl : u0 = Value.ref a := ra
    have hlen : ur.length ≤ sizeLine := by
      rw [← Paired.length rw', sizeLine_eq]
      omega
    exact init_told T I1 ea hlen fun s2 J => ⟨.non, H1, J, rfl, q⟩
/-- C(e, ..) -/
theorem pmk_x {CX : CXT} {x : Str} {C fI : Addr} {k : Nat} {fd : FuncData} {ps : List Str} {sp : Sp} (T : XC X.K B newI iniI tl C) (iC : PySem.W.findIn X.K (.ref C) "__init__" = some (some (.ref fI)))
    (tI : PySem.W.typeIn X.K (.ref fI) = some (.type "function")) (F1 : FnOk X.prog X.w X.K X.mg X.base CX k fI fd ps sp) (hr : Room (k + 1) X.A) (hb : Binds X.K fd ps []) (hx : Passes CX X (fun _ _ _ => False)) (hg : Gl X x)
    (hm : X.mg x = some (.ref C)) (ha : PA X (e :: es) ta) (hdb : (x == ("__debug__" : Str)) = false := by decide) (he : starEach (e :: es) X.env = (false, eval e X.env) :: starEach es X.env := by rfl)
    (hpl : (backTo pos (starEach es X.env)).any (·.1) = false := by rfl) : PMk X (.Call (.Name x p) (e :: es) [] pos) (tMkO C sp [] ta) := by
  intro pins s σ H Q I h
  obtain ⟨nm, N, qn, bs, bm, hdct, sn, sub, ab, col, dd, k0, k1, k2, k3, k5, hC, hT⟩ := PySem.W.excInit_of I.kIn T.ini
  refine wpAny_Call_Name_kw (ld_glob I hg hm ?_ hdb)
  refine PySem.W.callWith_K (h₀ := X.base) I.ok.mod.kin T.kp (thn (ha.run pos pins s σ H _ I h) fun us s1 z => ?_) he hpl
  obtain ⟨vs, H1, I1, r1, hz, q1⟩ := z
  have X1 := I1.kIn
  refine ⟨X1, ?_⟩
  obtain ⟨nm, N, qn, bs, bm, hdct, sn, sub, ab, col, dd, k0, k1, k2, k3, k5, hC, hT⟩ := PySem.W.excInit_of X1 T.ini
  show wpAny _ _ (call (.ref C) us) _ _ _
  obtain ⟨hp, g, dr, tk, os⟩ := s1
  have up : hp.objs.size ≤ hp.objs.size + 1 := Nat.le_succ _
  have hq := q1 (hp.objs.size + 1) (I1.hok.fresh up)
  have kk : ∀ b o, hp.get? b = some o → ((hp.push (PySem.W.kdv_tup us)).push (PySem.HandSPX.excO C hp.objs.size)).get? b = some o :=
    fun b o e => Heap.get?_push_of_some _ (Heap.get?_push_of_some _ e)
  have hget : ((hp.push (PySem.W.kdv_tup us)).push (PySem.HandSPX.excO C hp.objs.size)).get? (hp.objs.size + 1) = some (PySem.HandSPX.excO C hp.objs.size) := by heap_get
  have I2 : Inv X pins σ (upd H1 (hp.objs.size + 1) (exo (hp.objs.size + 1) C none)) ⟨(hp.push (PySem.W.kdv_tup us)).push (PySem.HandSPX.excO C hp.objs.size), g, dr, tk, os⟩ :=
    I1.laid (t' := tk) (a := hp.objs.size + 1) (o := exo (hp.objs.size + 1) C none) (h' := (hp.push (PySem.W.kdv_tup us)).push (PySem.HandSPX.excO C hp.objs.size)) kk up (exo_ok hget)
  have r2 : Vals (V.ref (hp.objs.size + 1) :: (vs ++ [])) (Value.ref (hp.objs.size + 1) :: us) := .cons rfl (by rw [List.append_nil]; exact r1)
  have hl : (Value.ref (hp.objs.size + 1) :: us).length = ps.length := by
    rw [← r2.length]
    exact F1.len _ _ _ _ hq
  have hus : us.length ≤ sizeLine := by
    rw [← Paired.length r1, sizeLine_eq]
    omega
  have hbd := hb ⟨(hp.push (PySem.W.kdv_tup us)).push (PySem.HandSPX.excO C hp.objs.size), g, dr, tk, os⟩ (Value.ref (hp.objs.size + 1) :: us) I2.kIn (by rw [List.append_nil]; exact hl)
  rw [List.append_nil] at hbd
  have go := F1.run _ X.stack _ _ ⟨Value.ref (hp.objs.size + 1) :: us, []⟩ (Value.ref (hp.objs.size + 1) :: us) _ _ (fun _ _ _ => False) (hr.make C us []) (I2.env0.make C us []) hbd r2 hq
  refine wpAny_call (PySem.HandSPX.call_own T.b.fb hT hC (PySem.W.looks_findIn X1 iC) (fun self => PySem.W.bind_fn X1 self tI) hus (codeAny_mono go fun r s2 z => ?_))
  cases r with
  | error er => exact hx pins σ _ _ er s2 I2 z
  | ok fl =>
    cases fl with
    | ret u =>
      obtain ⟨v, H2, os2, bare2, un2, hok2, rv, ev, d, fs, ea, ed, hd1, q2⟩ := z
      subst ev
      obtain ⟨h2, g2, d2, t2, os'⟩ := s2
      exact ⟨rv, mk_end (raises_own T.sub T.ty) I1 up kk un2 hok2 os2 bare2 ea ed hd1 q2⟩
    | next => exact False.elim z
    | brk => exact False.elim z
    | cont => exact False.elim z
end
end KX

set_option maxRecDepth 100000
set_option maxHeartbeats 4000000
namespace KX
open PySem PySem.Spec PyProof.Rows L2
/-- isinstance(e, T), isinstance(e, (T, U)): e the exception that the suite holds, an instance of a class of the program with fields of its own -/
structure XI (K : PySem.W.Frag) (C : Addr) : Prop where
  ga : PySem.W.findIn K (.ref C) "__getattribute__" = some (some (.builtin "BaseException.__getattribute__"))
  gg : PySem.W.findIn K (.ref C) "__getattr__" = some none
  sub : PySem.W.subIn K (.ref C) (.type "BaseException") = some true
  hd : PySem.W.hasDictIn K C = true
  hcl : PySem.W.findIn K (.ref C) "__class__" = some (some (.builtin "object.__class__"))
  sp : PySem.W.specialIn K (.builtin "object.__class__") "__get__" = some (some (.builtin "getset_descriptor.__get__"))
  tk : PySem.W.takesIn K (.builtin "object.__class__") = some true
  mro : PySem.W.mroIn K C (.type "object") = some true
theorem XI.xf {K : PySem.W.Frag} {C : Addr} (T : XI K C) : XfC K C := ⟨T.ga, T.gg, T.sub, T.hd⟩
def rIsX (K : PySem.W.Frag) (a : Addr) (cls : Value) (d : Option Addr) : List V → Hp → VK → Prop := fun xs H Q =>
  ∃ (C dd : Addr) (fs : List (Str × V)) (c : V) (b : Bool), XI K C ∧ cls = .ref C ∧ d = some dd ∧ H dd = some (.xd fs) ∧ xs = [.ref a, c] ∧
    ((∃ cv, (∀ u, RelV c u → u = cv) ∧ PySem.W.kitOne K (.ref C) cv = some b) ∨
      ∃ (tp : Addr) (ys : List V) (its : List Value), c = .ref tp ∧ H tp = some (.tup ys) ∧ (∀ us, Vals ys us → us = its) ∧ PySem.W.kitAny K (.ref C) its = some b) ∧ Q (.bl b) H
theorem call_isX {X : Cx} {a : Addr} {oe : Obj} {cls : Value} {d : Option Addr} {pn : List (Addr × Obj)} (hz : Zc cls d oe) (hf : ∃ vs, oe.data = .fields vs) :
    CallR (X.suite a ((a, oe) :: pn)) (.builtin "isinstance") (rIsX X.K a cls d) := by
  intro pins s σ H xs us Q I r h
  obtain ⟨C, dd, fs, c, b, T, ec, ed, eH, rfl, hc, q⟩ := h
  subst ec ed
  obtain ⟨hget, _⟩ := I.pin (a, oe) (List.mem_append.mpr (.inl List.mem_cons_self))
  obtain ⟨vs, hv⟩ := hf
  have hx : ObjOk X.prog X.w H s.heap dd (.xd fs) := I.hok dd _ eH
  obtain ⟨mA, hns, _⟩ := hx
  obtain ⟨od, ho, _⟩ := lookIn_ns hns
  have J : PySem.W.InstAt s.heap a oe C (some od) := ⟨hget, hz.1, by unfold PySem.W.notCls; rw [hv] <;> rfl, by rw [hz.2]; exact ho⟩
  have hcl : (PySem.W.clsIn X.K C).isSome = true := by
    obtain ⟨cd, hc, _⟩ := PySem.W.any_some T.hd
    rw [hc]; rfl
  have Z : PySem.W.KitX X.K (.ref a) (.ref C) (fun h => PySem.W.InstAt h a oe C (some od)) := PySem.W.kitx_exc hcl T.ga T.gg T.sub T.hcl T.sp T.tk T.mro
  obtain ⟨u, rfl, ru, uc, rc⟩ : ∃ u2, us = [.ref a, u2] ∧ RelV c u2 ∧ True ∧ True := by
    cases r with
    | cons r1 r2 =>
      cases r2 with
      | cons r3 r4 =>
        cases r4
        cases r1
        exact ⟨_, rfl, r3, trivial, trivial⟩
  rcases hc with ⟨cv, hcv, e⟩ | ⟨tp, ys, its, rfl, hH, hits, e⟩
  · have eu := hcv _ ru
    subst eu
    exact PySem.W.kia_one Z I.kIn J e (fun z => nomatch z) fun tk => ⟨.bl b, H, I.kept (t' := tk) fun _ _ z => z, rfl, q⟩
  · obtain rfl : u = Value.ref tp := ru
    obtain ⟨_, us2, r2, o, h1, h2, n, h3⟩ := (show ObjOk X.prog X.w H s.heap tp (.tup ys) from I.hok tp _ hH)
    have eu := hits us2 r2
    subst eu
    obtain ⟨oc, od2, oda, osl⟩ := o
    dsimp only at h2 h3
    subst h2 h3
    exact PySem.W.kia_tup Z I.kIn J h1 e (fun z => nomatch z) fun tk => ⟨.bl b, H, I.kept (t' := tk) fun _ _ z => z, rfl, q⟩
end KX

set_option maxRecDepth 100000
set_option maxHeartbeats 4000000
namespace KX
open PySem PySem.Spec PyProof.Rows L2
section
variable {X : Cx}
/-- x in t, x not in t: t a tuple of data, x data, no dicts -/
def rInT (K : PySem.W.Frag) (f : Bool → Bool) : R2 := fun x y H Q => ∃ d ds, Dp K H x d ∧ Dp K H y (.tuple ds) ∧ d.plain = true ∧ PyData.plainAll ds = true ∧ PyData.depthAll ds ≤ 60 ∧ Q (.bl (f (ds.any fun z => PyData.eqv z d))) H
theorem op_inTD (hu : X.A.units + 64 < cLine) : OpR X (compareOp .In) (rInT X.K id) := by
  intro pins s σ H x y v u Q I rx ry h
  obtain ⟨d, ds, hd, he, pd, pe, hm, q⟩ := h
  obtain ⟨as, r1⟩ := Dp.reads I d x v hd rx
  obtain ⟨bs, r2⟩ := Dp.reads I (.tuple ds) y u he ry
  exact SeqAt.in_tuple_data r2 r1 pe pd (by omega) ⟨.bl _, H, I, rfl, q⟩
theorem op_ninTD (hu : X.A.units + 64 < cLine) : OpR X (compareOp .NotIn) (rInT X.K not) := by
  intro pins s σ H x y v u Q I rx ry h
  obtain ⟨d, ds, hd, he, pd, pe, hm, q⟩ := h
  obtain ⟨as, r1⟩ := Dp.reads I d x v hd rx
  obtain ⟨bs, r2⟩ := Dp.reads I (.tuple ds) y u he ry
  exact SeqAt.notIn_tuple_data r2 r1 pe pd (by omega) ⟨.bl _, H, I, rfl, q⟩
/-- len(s), s a set of numbers -/
theorem call_lenZ : CallR X (.builtin "len") (fun xs H Q => ∃ (a : Addr) (S : Int → Bool) (n : Nat), xs = [.ref a] ∧ H a = some (SetO X.w a S n) ∧ Q (.int n) H) := by
  intro pins s σ H xs us Q I r h
  obtain ⟨a, S, n, rfl, ha, q⟩ := h
  obtain ⟨u, rfl, ru⟩ := vals1 r
  obtain rfl : u = Value.ref a := ru
  obtain ⟨o, es, ep, t, ho, hex, hd, _, _, _, hb, hf, hn, _⟩ := setO_get I ha
  have hb' : (scanBound : Nat) < 2 ^ 63 := by decide
  exact call_len_set ho hex hd hf (by omega) ⟨.int n, H, I.tok _, ⟨_, by rw [hn]⟩, q⟩
/-- what a turn of {k for x in t} leaves -/
def addS (w : World) (D : Addr) (S : Int → Bool) (n : Nat) (k : Int) (H : Hp) : Hp := upd H D (SetO w D (fun j => S j || decide (j = k)) (if S k = true then n else n + 1))
theorem into_set {pins : List (Addr × Obj)} {σ : L2.St} {H : Hp} {s : Shared} {E : Value → Shared → Prop} {D : Addr} {S : Int → Bool} {n : Nat} {k : Int} {tk : Tok} {Q : Value → Shared → Prop} (I : Inv X pins σ H s)
    (hD : H D = some (SetO X.w D S n)) (room : n + 1 < scanBound) (go : ∀ s2, Inv X pins σ (addS X.w D S n k H) s2 → Q .none s2) : wpAny (model X.prog X.w) X.A (call (.builtin "set.add") [.ref D, .int k tk]) Q E s := by
  refine setR_add (setO_get I hD) room fun h2 sb new => go _ ?_
  have ex : ∃ u, h2.get? D = some u := by
    obtain ⟨o, _, _, _, ho, _⟩ := new
    exact ⟨o, ho⟩
  exact I.write (e := D) (t' := s.toks + 1) (by rw [hD]; trivial) (.inl rfl) (fun b u hb hu => (sb.2 b hb).trans hu) ex (setO_new new)
/-- {e for x in t}, no ifs, e a number: D the new set -/
def tSetI (w : World) (wi : TI) (g : TG) (te : TE) (vs : List Nat) : TE := fun σ H Q => wi σ H fun J H1 => ∀ D, H1 D = none → ∃ W : Nat → Nat → Hp → Prop, (∃ m, W 0 m (upd H1 D (SetO w D (fun _ => false) 0))) ∧
  ∀ i m G, W i m G → (J.stop i G ∧ Q (.ref D) G) ∨ (J.go i G ∧ ∀ x G1, J.yld i G x G1 → g x (wipe σ vs) G1 fun σ2 G2 => wipe σ2 vs = wipe σ vs ∧
    te σ2 G2 fun y G3 => ∃ (k : Int) (S : Int → Bool) (n : Nat), y = .int k ∧ G3 D = some (SetO w D S n) ∧ n + 1 < scanBound ∧ ∃ m2, m2 < m ∧ W (i + 1) m2 (addS w D S n k G3))
abbrev freshSet (w : World) : Obj := { cls := .type "set", dict := none, data := .set #[] 0 (.fresh 0 0 (!w.params.followText "set-order")) }
theorem pe_setI {elt tg iter : Expr} {scope : Scope} {own : List (PySem.Str × Nat)} {pos : Pos} {wi : TI} {g : TG} {te : TE} (hc : X.calm = true) (hN : X.N.Nodup) (hi : PI X tg iter wi) (ok : BlkOk X.N X.env.scope scope own)
    (hg : ∀ (s : Shared) (H : Hp) (C : Addr) (cl : List (PySem.Str × Addr)) (fp : List Addr), PG (X.blk s H scope (compEnvC scope cl C X.env) fp) tg g)
    (he : ∀ (s : Shared) (H : Hp) (C : Addr) (cl : List (PySem.Str × Addr)) (fp : List Addr), PE (X.blk s H scope (compEnvC scope cl C X.env) fp) elt te)
    (hs : ∀ x, foldedSetIterable iter X.env x = pure x := by intro _; rfl) :
    PE X (.SetComp elt [⟨tg, iter, [], 0⟩] scope pos) (tSetI X.w wi g te (own.map (·.2))) := by
  refine ⟨fun pins s σ H Q I h => ?_⟩
  rw [PpSet.eval_SetComp]
  have cap : ∀ y ∈ scope.names, y.2 = .free → ∃ c, X.env.cells.lookup y.1 = some c := fun y hy e => (ok.free y hy e).elim (fun k => I.ok.has _ (.inl k)) fun k => I.ok.has _ (.inr k)
  refine wpAny_comprehension_free rfl hs (closure_ok cap) ok.kind (fun y hy e => by rw [ok.uniq y hy, e]) (thn (hi.run pins s σ H _ I h) fun xv s1 hx => thn hx fun itv s2 z => ?_)
  obtain ⟨it, fp, tn, J, H2, rfl, I2, T, at0, own2, q⟩ := z
  refine PpSet.newSet_ok (newEnv_comp ?_)
  obtain ⟨D, hD⟩ : ∃ D, D = s2.heap.objs.size := ⟨_, rfl⟩
  rw [← hD]
  obtain ⟨W, ⟨m0, w0⟩, turn⟩ := q D (I2.hok.fresh (Nat.le_of_eq hD.symm))
  obtain ⟨s3, es3⟩ : ∃ s3 : Shared, s3 = { s2 with heap := s2.heap.push (freshSet X.w) } := ⟨_, rfl⟩
  obtain ⟨H3, eH3⟩ : ∃ H3, H3 = upd H2 D (SetO X.w D (fun _ => false) 0) := ⟨_, rfl⟩
  have I3 : Inv X pins σ H3 s3 := by
    rw [es3, eH3]
    refine I2.laid (t' := s2.toks) (fun b o e => Heap.get?_push_of_some _ e) (Nat.le_of_eq hD.symm) ?_
    rw [hD]
    exact setO_new (setR_fresh X.w)
  have kp3 : ∀ b o, s2.heap.get? b = some o → s3.heap.get? b = some o := fun b o e => by rw [es3]; exact Heap.get?_push_of_some _ e
  have own3 : ∀ b ∈ fp, FpOk X pins H3 b ∧ b < s3.heap.objs.size := fun b hb => by
    obtain ⟨o, eo, _⟩ := T.obj _ _ at0 b hb
    have lt := Heap.lt_size eo
    refine ⟨⟨?_, (own2 b hb).2⟩, Heap.lt_size (kp3 b o eo)⟩
    rw [eH3, upd_ne (by rw [hD]; exact Nat.ne_of_lt lt)]
    exact (own2 b hb).1
  have I4 := block_start I3 ok hN own3
  obtain ⟨C, eC⟩ : ∃ C, C = s3.heap.objs.size := ⟨_, rfl⟩
  obtain ⟨cl, ecl⟩ : ∃ cl, cl = cellsFrom (s3.heap.objs.size + 1) scope.names (cloFrom X.env.cells scope.names []) := ⟨_, rfl⟩
  have at3 : tn 0 s3.heap := T.keep _ _ _ at0 fun b _ o e => kp3 b o e
  rw [← es3, ← ecl, ← eC]
  rw [← ecl, ← eC] at I4
  obtain ⟨s4, es4⟩ : ∃ s4 : Shared, s4 = { s3 with heap := pushCells (s3.heap.push { cls := .type "dict", data := .dict #[] }) scope.names } := ⟨_, rfl⟩
  rw [← es4] at I4 ⊢
  have at4 : tn 0 s4.heap := T.keep _ _ _ at3 fun b _ o e => by rw [es4]; exact pushCells_keeps _ _ _ _ (Heap.get?_push_of_some _ e)
  obtain ⟨Y, eY⟩ : ∃ Y, Y = X.blk s3 H3 scope (compEnvC scope cl C X.env) fp := ⟨_, rfl⟩
  have pg := hg s3 H3 C cl fp
  have pe := he s3 H3 C cl fp
  rw [← eY] at pg pe I4
  have calmY : Y.calm = true := by rw [eY]; exact hc
  have still : ∀ {σ' : L2.St} {H' : Hp} {s' : Shared}, Inv Y [] σ' H' s' → (∀ b ∈ fp, H' b = none) → ∀ b ∈ fp, FpOk Y [] H' b := fun {σ' H' s'} I' hn b hb => by
    subst eY
    exact ⟨hn b hb, (I'.ok.exf b hb).1, I'.ok.exfs b hb, .inl hb, fun x c e => (I'.ok.exf b hb).2 x c e, fun p hp => absurd (show p ∈ ([] : List (Addr × Obj)) ++ [] from hp) (by simp)⟩
  have loop : codeAny (model X.prog X.w) X.A (.compLoop (.SetComp elt [⟨tg, iter, [], 0⟩] scope pos) 0 (.ref it) (.ref D) (compEnvC scope cl C X.env)) (compPost (model X.prog X.w) X.A X.xe none (EP X pins σ Q) (.ref D) C) s4 := by
    refine PpSet.compLoopS_any (fun m s' => ∃ i G, Inv Y [] (wipe σ (own.map (·.2))) G s' ∧ tn i s'.heap ∧ (∀ b ∈ fp, G b = none) ∧ W i m G) ?_ m0
      ⟨0, H3, I4, at4, fun b hb => (own3 b hb).1.1, by rw [eH3]; exact w0⟩
    rintro m s5 ⟨i, G, I5, at5, n5, w5⟩
    rcases turn i m G w5 with ⟨stop, qq⟩ | ⟨go, step⟩
    · have td := T.done Y (by rw [eY]) (by rw [eY]) (by rw [eY]) calmY i [] s5 _ G (fun _ _ => False) I5 (still I5 n5) at5 stop
      have cL : (compEnvC scope cl C X.env).locals = C := rfl
      subst eY
      refine thnF td fun r s6 z => ?_
      obtain ⟨hr, I6⟩ := z
      subst hr
      have back : ∀ b ∈ fp, (b ∈ X.ex ∨ X.s_0.heap.objs.size ≤ b) ∧ b ≠ X.env.locals ∧ (∀ x c, X.env.cells.lookup x = some c → c ≠ b) ∧ ∀ p ∈ X.pn ++ pins, p.1 ≠ b := fun b hb => by
        obtain ⟨_, a1, _, a3, a4, a5⟩ := (own3 b hb).1
        exact ⟨a3, a1, a4, a5⟩
      have I7 : Inv X pins σ G s6 := I3.call' (ch := fp) I6.os I6.base I6.hok I6.bare back
      have nC : G C = none := I6.free
      obtain ⟨mm, hn, _⟩ := I6.loc
      refine ⟨mm, hn, fun h2 sb => ?_⟩
      obtain ⟨f0, f1, f2, f3, f4, f5⟩ := I3.fpOk (Nat.le_of_eq eC.symm) nC
      exact ⟨.ref D, G, I7.turned (t' := s6.toks) (fun b o hb e => (sb.2 b hb).trans e) f0 f1 f3 f4 f5, rfl, qq⟩
    · have ti := T.item Y (by rw [eY]) (by rw [eY]) (by rw [eY]) calmY i [] s5 _ G (fun _ _ => False) I5 (still I5 n5) at5 go
      have xeY : Y.xe = fun _ _ => False := by rw [eY]
      have AY : Y.A = X.A := by rw [eY]
      have pY : Y.prog = X.prog := by rw [eY]
      have wY : Y.w = X.w := by rw [eY]
      subst eY
      refine thnF ti fun r s6 z => ?_
      obtain ⟨u, hr, h6⟩ := z
      subst hr
      refine thnF h6 fun _ s7 z => ?_
      obtain ⟨x, G7, I7, r7, y7, at7, n7⟩ := z
      have I7p := I7.pinned (still I7 n7) (T.obj _ _ at7)
      refine thnF (pg.run _ s7 _ G7 x u _ I7p r7 (step x G7 y7)) fun _ s8 z => ?_
      obtain ⟨σ8, G8, I8, hw8, q8⟩ := z
      show wpAny _ _ (forIn [] true _) _ _ s8
      refine wpAny_pure ?_
      rw [if_pos rfl]
      refine thnF (pe.run _ s8 σ8 G8 _ I8 q8) fun v s9 z => ?_
      obtain ⟨yv, G9, I9, r9, k, S, n, ey, hD9, room, m2, lt2, w2⟩ := z
      subst ey
      obtain ⟨tk, rfl⟩ := r9
      refine into_set (X := X.blk s3 H3 scope (compEnvC scope cl C X.env) fp) I9 hD9 room fun s10 I10 => ?_
      have pinned : ∀ b ∈ fp, ∀ o, s7.heap.get? b = some o → s10.heap.get? b = some o ∧ addS X.w D S n k G9 b = none := fun b hb o e =>
        have z := I10.pin (b, o) (List.mem_append_right _ (List.mem_append_right _ (mem_pinsAt hb e)))
        ⟨z.1, z.2.1⟩
      have hl : (wipe σ (own.map (·.2))).length = σ8.length := by rw [← hw8, wipe_length]
      refine ⟨m2, lt2, i + 1, _, (I10.unpinned (pins := [])).weak hl (fun j v e => ?_), T.keep _ _ _ at7 fun b hb o e => (pinned b hb o e).1, fun b hb => ?_, w2⟩
      · rw [← hw8] at e
        exact (wipe_some e).1
      · obtain ⟨o, e, _⟩ := T.obj _ _ at7 b hb
        exact (pinned b hb o e).2
  exact PpSet.codeAny_compStart_set loop (T.self X.A 0 _ _ _ at4 loop)
end
end KX
namespace KX
open PySem PySem.Spec PyProof.Rows L2
/-- {e for x in t}, t a tuple that stays -/
theorem setI_tup {w : World} {K : PySem.W.Frag} {a D : Addr} {xs : List V} {g : TG} {te : TE} {vs : List Nat} {σ : L2.St} {H1 : Hp} {Qd : Hp → Prop} (Pv : Nat → Hp → Prop) (h0 : Pv 0 (upd H1 D (SetO w D (fun _ => false) 0)))
    (hl : ∀ i G, i ≤ xs.length → Pv i G → SqT K G a xs)
    (hs : ∀ i x G, xs[i]? = some x → Pv i G → g x (wipe σ vs) G fun σ2 G2 => wipe σ2 vs = wipe σ vs ∧ te σ2 G2 fun y G3 => ∃ (k : Int) (S : Int → Bool) (n : Nat), y = .int k ∧ G3 D = some (SetO w D S n) ∧ n + 1 < scanBound ∧ Pv (i + 1) (addS w D S n k G3))
    (hd : ∀ G, Pv xs.length G → Qd G) :
    ∃ W : Nat → Nat → Hp → Prop, (∃ m, W 0 m (upd H1 D (SetO w D (fun _ => false) 0))) ∧ ∀ i m G, W i m G → ((Itt K a).stop i G ∧ Qd G) ∨ ((Itt K a).go i G ∧ ∀ x G1, (Itt K a).yld i G x G1 → g x (wipe σ vs) G1 fun σ2 G2 => wipe σ2 vs = wipe σ vs ∧
      te σ2 G2 fun y G3 => ∃ (k : Int) (S : Int → Bool) (n : Nat), y = .int k ∧ G3 D = some (SetO w D S n) ∧ n + 1 < scanBound ∧ ∃ m2, m2 < m ∧ W (i + 1) m2 (addS w D S n k G3)) := by
  refine ⟨fun i m G => m = xs.length - i ∧ i ≤ xs.length ∧ Pv i G, ⟨xs.length, by simp, Nat.zero_le _, h0⟩, fun i m G hw => ?_⟩
  obtain ⟨rfl, hi, p⟩ := hw
  have q := hl i G hi p
  by_cases lt : i < xs.length
  · refine .inr ⟨⟨xs, xs[i], q, List.getElem?_eq_getElem lt⟩, fun x G1 y => ?_⟩
    obtain ⟨rfl, y⟩ := y
    have z := hs i x G1 (y xs q) p
    have mono : ∀ {σ2 : L2.St} {G2 : Hp} {y : V} {G3 : Hp}, (∃ (k : Int) (S : Int → Bool) (n : Nat), y = .int k ∧ G3 D = some (SetO w D S n) ∧ n + 1 < scanBound ∧ Pv (i + 1) (addS w D S n k G3)) →
        ∃ (k : Int) (S : Int → Bool) (n : Nat), y = .int k ∧ G3 D = some (SetO w D S n) ∧ n + 1 < scanBound ∧ ∃ m2, m2 < xs.length - i ∧ m2 = xs.length - (i + 1) ∧ i + 1 ≤ xs.length ∧ Pv (i + 1) (addS w D S n k G3) :=
      fun {σ2 G2 y G3} h => by
        obtain ⟨k, S, n, e1, e2, e3, e4⟩ := h
        exact ⟨k, S, n, e1, e2, e3, _, by omega, rfl, by omega, e4⟩
    have key : (fun (y : V) (G3 : Hp) => ∃ (k : Int) (S : Int → Bool) (n : Nat), y = .int k ∧ G3 D = some (SetO w D S n) ∧ n + 1 < scanBound ∧ ∃ m2, m2 < xs.length - i ∧ m2 = xs.length - (i + 1) ∧ i + 1 ≤ xs.length ∧ Pv (i + 1) (addS w D S n k G3)) =
        fun (y : V) (G3 : Hp) => ∃ (k : Int) (S : Int → Bool) (n : Nat), y = .int k ∧ G3 D = some (SetO w D S n) ∧ n + 1 < scanBound ∧ Pv (i + 1) (addS w D S n k G3) := by
      funext y G3
      refine propext ⟨fun h => ?_, fun h => mono (σ2 := []) (G2 := G3) h⟩
      obtain ⟨k, S, n, e1, e2, e3, m2, _, _, _, e4⟩ := h
      exact ⟨k, S, n, e1, e2, e3, e4⟩
    rw [key]
    exact z
  · have e : i = xs.length := by omega
    subst e
    exact .inl ⟨⟨xs, q, Nat.le_refl _⟩, hd G p⟩
end KX

set_option maxRecDepth 100000
set_option maxHeartbeats 4000000
namespace KX
open PySem PySem.Spec PyProof.Rows L2
/-! ### what an expression of a law's generator makes, its stream at l: S is what is known of the data, P of the names -/
abbrev PSt := L2.St → Hp → Prop
def Kp (l : Addr) (P : PSt) : Prop := ∀ σ H H', Keep l H H' → StO H' l → P σ H → P σ H'
def GD (l : Addr) (P : PSt) (S : PyData → Prop) (t : TE) : Prop := ∀ σ H Q, StO H l → P σ H → (∀ H' v d, S d → Keep l H H' → StO H' l → Dx (hid l H') v d → Q v H') → t σ H Q
def GDs (l : Addr) (P : PSt) (S : List PyData → Prop) (t : TA) : Prop := ∀ σ H Q, StO H l → P σ H → (∀ H' vs ds, S ds → Keep l H H' → StO H' l → Dxs (hid l H') vs ds → Q vs H') → t σ H Q
def GI (l : Addr) (P : PSt) (S : Int → Prop) (t : TE) : Prop := ∀ σ H Q, StO H l → P σ H → (∀ H' i, S i → Keep l H H' → StO H' l → Q (.int i) H') → t σ H Q
/-- a new list, read by its items only -/
def GM (l : Addr) (P : PSt) (S : List PyData → Prop) (t : TE) : Prop := ∀ σ H Q, StO H l → P σ H → (∀ H' p xs ds, S ds → Keep l H H' → StO H' l → p ≠ l → H' p = some (.lst xs) → Dxs (hid l H') xs ds → Q (.ref p) H') → t σ H Q
def GO (l : Addr) (P : PSt) (o : Option Int) (t : TO) : Prop := ∀ σ H Q, StO H l → P σ H → (∀ H', Keep l H H' → StO H' l → Q o H') → t σ H Q
section
variable {l : Addr} {P : PSt} {K : PySem.W.Frag} {S S2 : PyData → Prop} {Ss Ss2 : List PyData → Prop} {N : Int → Prop} {t ta tb : TE} {ts : TA} {d : PyData} {ds : List PyData}
theorem GD.imp (h : GD l P S t) (i : ∀ d, S d → S2 d) : GD l P S2 t := fun σ H Q st p q => h σ H Q st p fun H' v d s => q H' v d (i d s)
theorem GDs.imp (h : GDs l P Ss ts) (i : ∀ d, Ss d → Ss2 d) : GDs l P Ss2 ts := fun σ H Q st p q => h σ H Q st p fun H' v d s => q H' v d (i d s)
theorem GM.imp (h : GM l P Ss t) (i : ∀ d, Ss d → Ss2 d) : GM l P Ss2 t := fun σ H Q st p q => h σ H Q st p fun H' v xs d s => q H' v xs d (i d s)
theorem gd_var {i : Nat} (h : ∀ σ H, P σ H → ∃ v d, σ[i]? = some (some v) ∧ S d ∧ Dx (hid l H) v d) : GD l P S (tVar i) := fun σ H Q st p q => by
  obtain ⟨v, d, e, s, x⟩ := h σ H p
  exact ⟨v, e, q H v d s (Keep.refl l H) st x⟩
theorem gd_c {v : V} (h : ∀ H, Dx H v d) : GD l P (· = d) (tC v) := fun σ H Q st p q => q H v d rfl (Keep.refl l H) st (h _)
theorem gi_val {n : Int} (h : ∀ (σ : L2.St) (H : Hp) (Q : VK), Q (.int n) H → t σ H Q) : GI l P (· = n) t := fun σ H Q st p q => h σ H Q (q H n rfl (Keep.refl l H) st)
theorem gi_var {i : Nat} (h : ∀ σ H, P σ H → ∃ n, σ[i]? = some (some (.int n)) ∧ N n) : GI l P N (tVar i) := fun σ H Q st p q => by
  obtain ⟨n, e, s⟩ := h σ H p
  exact ⟨.int n, e, q H n s (Keep.refl l H) st⟩
theorem gd_int (h : GI l P N t) : GD l P (fun d => ∃ i, N i ∧ d = .int i) t := fun σ H Q st p q => h σ H Q st p fun H' i s k st' => q H' _ _ ⟨i, s, rfl⟩ k st' (.int i)
theorem gds_nil : GDs l P (· = []) tNil := fun σ H Q st p q => q H _ _ rfl (Keep.refl l H) st .nil
theorem gds_cons (kp : Kp l P) (h : GD l P S t) (hs : GDs l P Ss ts) : GDs l P (fun x => ∃ d ds, x = d :: ds ∧ S d ∧ Ss ds) (tCons t ts) := fun σ H Q st p q =>
  h σ H _ st p fun H1 v d s k st1 x => hs σ H1 _ st1 (kp _ _ _ k st1 p) fun H2 vs ds ss k2 st2 xs => q H2 _ _ ⟨d, ds, rfl, s, ss⟩ (k.trans k2) st2 (.cons (x.up k2.same) xs)
theorem gd_tup (h : GDs l P Ss ts) (hz : ∀ ds, Ss ds → ds.length ≤ sizeLine) : GD l P (fun d => ∃ ds, d = .tuple ds ∧ Ss ds) (tTup ts) := fun σ H Q st p q =>
  h σ H _ st p fun H1 vs ds s k st1 x => ⟨by rw [x.len]; exact hz ds s, fun a na => q _ _ _ ⟨ds, rfl, s⟩ (k.new na) (st1.new na) (dx_tup na st1 x)⟩
theorem gd_lst (h : GDs l P Ss ts) (hz : ∀ ds, Ss ds → ds.length ≤ sizeLine) : GD l P (fun d => ∃ ds, d = .list ds ∧ Ss ds) (tLstS ts) := fun σ H Q st p q =>
  h σ H _ st p fun H1 vs ds s k st1 x => ⟨by rw [x.len]; exact hz ds s, fun a na za => q _ _ _ ⟨ds, rfl, s⟩ (k.new na) (st1.new na) (dx_lst na za st1 x)⟩
theorem gm_lst (h : GDs l P Ss ts) (hz : ∀ ds, Ss ds → ds.length ≤ sizeLine) : GM l P Ss (tLst ts) := fun σ H Q st p q =>
  h σ H _ st p fun H1 vs ds s k st1 x => ⟨by rw [x.len]; exact hz ds s, fun a na => q _ a vs ds s (k.new na) (st1.new na) (st1.ne na) upd_same (x.up (hnew na))⟩
theorem gm_var {i : Nat} (h : ∀ σ H, P σ H → ∃ p xs ds, σ[i]? = some (some (.ref p)) ∧ Ss ds ∧ p ≠ l ∧ H p = some (.lst xs) ∧ Dxs (hid l H) xs ds) : GM l P Ss (tVar i) := fun σ H Q st p q => by
  obtain ⟨a, xs, ds, e, s, na, ea, x⟩ := h σ H p
  exact ⟨.ref a, e, q H a xs ds s (Keep.refl l H) st na ea x⟩
theorem gm_cat (kp : Kp l P) (h : GM l P Ss ta) (h2 : GM l P Ss2 tb) (hz : ∀ x y, Ss x → Ss2 y → x.length + y.length ≤ sizeLine) : GM l P (fun z => ∃ x y, z = x ++ y ∧ Ss x ∧ Ss2 y) (tOp rCat ta tb) := fun σ H Q st p q =>
  h σ H _ st p fun H1 a xs ds s k st1 na ea x => h2 σ H1 _ st1 (kp _ _ _ k st1 p) fun H2 b ys es s2 k2 st2 nb eb y =>
    ⟨a, b, xs, ys, rfl, rfl, k2 _ _ na ea, eb, by rw [x.len, y.len]; exact hz _ _ s s2, fun c nc => q _ c _ _ ⟨ds, es, rfl, s, s2⟩ ((k.trans k2).new nc) (st2.new nc) (st2.ne nc) upd_same (((x.up k2.same).app y).up (hnew nc))⟩
theorem gd_ixM {n : Int} (kp : Kp l P) (h : GM l P Ss ta) (hi : GI l P (fun k => 0 ≤ k ∧ k < n) tb) (hn : ∀ ds, Ss ds → (ds.length : Int) = n) : GD l P (fun d => ∃ ds, Ss ds ∧ d ∈ ds) (tOp (rIxL K) ta tb) := fun σ H Q st p q =>
  h σ H _ st p fun H1 a xs ds s k st1 na ea x => hi σ H1 _ st1 (kp _ _ _ k st1 p) fun H2 i hb k2 st2 => by
    have hl := hn ds s
    have hx := x.len
    have lt : i.toNat < xs.length := by omega
    obtain ⟨d, ed, hd⟩ := x.get' (List.getElem?_eq_getElem lt)
    have ix : atI xs i = some xs[i.toNat] := by
      have z := atI_nat (xs := xs) (j := i.toNat) (List.getElem?_eq_getElem lt)
      rwa [show ((i.toNat : Nat) : Int) = i by omega] at z
    exact ⟨a, xs, i, _, rfl, rfl, .inl (.inl (k2 _ _ na ea)), ix, q H2 _ d ⟨ds, s, List.mem_of_getElem? ed⟩ (k.trans k2) st2 (hd.up k2.same)⟩
/-- t[k], t a tuple that is known -/
theorem gd_ixT {k : Nat} (kp : Kp l P) (h : GD l P (· = .tuple ds) ta) (hi : GI l P (· = (k : Int)) tb) (hk : ds[k]? = some d) : GD l P (· = d) (tOp (rIxT K) ta tb) := fun σ H Q st p q =>
  h σ H _ st p fun H1 v e s k1 st1 x => hi σ H1 _ st1 (kp _ _ _ k1 st1 p) fun H2 i hb k2 st2 => by
    subst s hb
    obtain ⟨a, xs, rfl, na, ea, hx⟩ := dx_tupOf x
    have lt : k < ds.length := by
      rcases Nat.lt_or_ge k ds.length with z | z
      · exact z
      · rw [List.getElem?_eq_none z] at hk; cases hk
    have lt2 : k < xs.length := by rw [hx.len]; exact lt
    obtain ⟨d2, ed, hd⟩ := hx.get' (List.getElem?_eq_getElem lt2)
    rw [hk] at ed
    cases ed
    exact ⟨a, xs, k, _, rfl, rfl, .inl (.inl (k2 _ _ na ea)), atI_nat (List.getElem?_eq_getElem lt2), q H2 _ d rfl (k1.trans k2) st2 (hd.up k2.same)⟩
theorem go_none : GO l P none tNoPart := fun σ H Q st p q => q H (Keep.refl l H) st
theorem go_some {n : Int} (h : GI l P (· = n) t) : GO l P (some n) (tPart t) := fun σ H Q st p q => h σ H _ st p fun H' i s k st' => ⟨i, rfl, by subst s; exact q H' k st'⟩
theorem gd_slice {lo hi : Option Int} {tl th : TO} (kp : Kp l P) (h : GD l P (· = .tuple ds) ta) (hl : GO l P lo tl) (hh : GO l P hi th) : GD l P (· = .tuple (cutD ds lo hi)) (L2.tSl (rSlA K) ta tl th) := fun σ H Q st p q =>
  h σ H _ st p fun H1 v e s k1 st1 x => hl σ H1 _ st1 (kp _ _ _ k1 st1 p) fun H2 k2 st2 => hh σ H2 _ st2 (kp _ _ _ (k1.trans k2) st2 p) fun H3 k3 st3 => by
    subst s
    exact sl_of ((x.up k2.same).up k3.same) st3 fun H4 a k4 st4 y => q H4 _ _ rfl (((k1.trans k2).trans k3).trans k4) st4 y
theorem gd_cat (kp : Kp l P) (h : GD l P S ta) (h2 : GD l P S2 tb) (t1 : ∀ d, S d → ∃ ds, d = .tuple ds ∧ ds.length ≤ 1000) (t2 : ∀ d, S2 d → ∃ ds, d = .tuple ds ∧ ds.length ≤ 1000) :
    GD l P (fun d => ∃ x y, S (.tuple x) ∧ S2 (.tuple y) ∧ d = .tuple (x ++ y)) (tOp (rCatA K) ta tb) := fun σ H Q st p q =>
  h σ H _ st p fun H1 v e s k1 st1 x => h2 σ H1 _ st1 (kp _ _ _ k1 st1 p) fun H2 u e2 s2 k2 st2 y => by
    obtain ⟨ds, rfl, z1⟩ := t1 e s
    obtain ⟨es, rfl, z2⟩ := t2 e2 s2
    have hb : (2000 : Nat) ≤ sizeLine := by decide
    exact cat_of (x.up k2.same) y st2 (by omega) fun H3 a k3 st3 z => q H3 _ _ ⟨ds, es, s, s2, rfl⟩ ((k1.trans k2).trans k3) st3 z
def rLst2 (K : PySem.W.Frag) : List V → Hp → VK → Prop := fun xs H Q => ∃ p ys, xs = [.ref p] ∧ (SqL K H p ys ∨ SqT K H p ys) ∧ ∀ l, H l = none → l ≠ sysModules → Q (.ref l) (upd H l (.lst ys))
theorem call_lst2 {X : Cx} : CallR X (.type "list") (rLst2 X.K) := call_listS
theorem gd_listOf (h : GD l P (· = .tuple ds) t) : GD l P (· = .list ds) (tCB (rLst2 K) (tCons t tNil)) := fun σ H Q st p q =>
  h σ H _ st p fun H1 v e s k1 st1 x => by
    subst s
    obtain ⟨a, xs, rfl, na, ea, hx⟩ := dx_tupOf x
    exact ⟨a, xs, rfl, .inr (.inl (.inl ea)), fun b nb zb => q _ _ _ rfl (k1.new nb) (st1.new nb) (dx_lst nb zb st1 hx)⟩
theorem gd_rep {k : Int} (kp : Kp l P) (h : GD l P (· = .tuple ds) ta) (hb : GI l P (· = k) tb) (k2 : 2 ≤ k) (k1 : k ≤ 1000) (hn : ds ≠ []) (hz : ds.length ≤ 1000) :
    GD l P (· = .tuple (List.replicate k.toNat ds).flatten) (tOp (rRepT K) ta tb) := fun σ H Q st p q =>
  h σ H _ st p fun H1 v e s k1' st1 x => hb σ H1 _ st1 (kp _ _ _ k1' st1 p) fun H2 i hb k2' st2 => by
    subst s hb
    obtain ⟨a, xs, rfl, na, ea, hx⟩ := dx_tupOf (x.up k2'.same)
    have hl := hx.len
    refine ⟨a, i, xs, rfl, rfl, .inl (.inl ea), fun z => ?_, k2, k1, by omega, fun b nb => q _ _ _ rfl ((k1'.trans k2').new nb) (st2.new nb) (dx_tup nb st2 (dxs_rep hx _))⟩
    subst z
    exact hn (List.eq_nil_of_length_eq_zero (by simpa using hl.symm))
theorem gd_dict : GD l P (· = .dict []) tDNewK := fun σ H Q st p q b nb => q _ _ _ rfl ((Keep.refl l H).new nb) (st.new nb) (dx_dic nb st)
end
end KX

set_option maxRecDepth 100000
set_option maxHeartbeats 4000000
namespace KX
open PySem PySem.Spec PyProof.Rows L2
/-! ### known names, and data of a bounded weight -/
def Env (l : Addr) (σ0 : L2.St) (L : List (V × PyData)) (M : List (Addr × List V × List PyData)) : PSt := fun σ H =>
  σ = σ0 ∧ (∀ p ∈ L, Dx (hid l H) p.1 p.2) ∧ ∀ m ∈ M, m.1 ≠ l ∧ H m.1 = some (.lst m.2.1) ∧ Dxs (hid l H) m.2.1 m.2.2
theorem kp_env {l : Addr} {σ0 : L2.St} {L : List (V × PyData)} {M : List (Addr × List V × List PyData)} : Kp l (Env l σ0 L M) := fun σ H H' k st h =>
  ⟨h.1, fun p hp => (h.2.1 p hp).up k.same, fun m hm => by
    obtain ⟨h1, h2, h3⟩ := h.2.2 m hm
    exact ⟨h1, k _ _ h1 h2, h3.up k.same⟩⟩
def Gp (n : Nat) (d : PyData) : Prop := fine (10 ^ 40) d = true ∧ wt d ≤ n ∧ d.plain = true
def Lp (n : Nat) (ds : List PyData) : Prop := fineAll (10 ^ 40) ds = true ∧ wtAll ds ≤ n ∧ PyData.plainAll ds = true
def TpS (n : Nat) (d : PyData) : Prop := ∃ ds, d = .tuple ds ∧ Lp n ds
def Al (S : PyData → Prop) (n : Nat) (ds : List PyData) : Prop := ds.length = n ∧ ∀ d ∈ ds, S d
theorem plainAll_app : ∀ xs ys : List PyData, PyData.plainAll (xs ++ ys) = (PyData.plainAll xs && PyData.plainAll ys)
  | [], ys => by simp [PyData.plainAll]
  | x :: xs, ys => by simp [PyData.plainAll, plainAll_app xs ys, Bool.and_assoc]
theorem Lp.nil : Lp 0 [] := ⟨rfl, Nat.le_refl _, rfl⟩
theorem Lp.cons {a b : Nat} {d : PyData} {ds : List PyData} (h : Gp a d) (t : Lp b ds) : Lp (a + b) (d :: ds) := by
  refine ⟨by simp [fineAll, h.1, t.1], ?_, by simp [PyData.plainAll, h.2.2, t.2.2]⟩
  have h1 := h.2.1
  have h2 := t.2.1
  simp [wtAll]
  omega
theorem Lp.app {a b : Nat} {x y : List PyData} (h : Lp a x) (t : Lp b y) : Lp (a + b) (x ++ y) := by
  refine ⟨by rw [fineAll_app, h.1, t.1]; rfl, ?_, by rw [plainAll_app, h.2.2, t.2.2]; rfl⟩
  have h1 := h.2.1
  have h2 := t.2.1
  rw [wtAll_app]
  omega
theorem Lp.mono {a b : Nat} {x : List PyData} (h : Lp a x) (le : a ≤ b) : Lp b x := ⟨h.1, Nat.le_trans h.2.1 le, h.2.2⟩
theorem Gp.mono {a b : Nat} {x : PyData} (h : Gp a x) (le : a ≤ b) : Gp b x := ⟨h.1, Nat.le_trans h.2.1 le, h.2.2⟩
theorem Lp.split {n k : Nat} {x : List PyData} (h : Lp n x) : Lp n (x.take k) ∧ Lp n (x.drop k) := by
  obtain ⟨h1, h2, h3⟩ := h
  rw [← List.take_append_drop k x, fineAll_app, Bool.and_eq_true] at h1
  rw [← List.take_append_drop k x, wtAll_app] at h2
  rw [← List.take_append_drop k x, plainAll_app, Bool.and_eq_true] at h3
  exact ⟨⟨h1.1, by omega, h3.1⟩, ⟨h1.2, by omega, h3.2⟩⟩
theorem Lp.cut {n : Nat} {x : List PyData} (h : Lp n x) (lo hi : Option Int) : Lp n (cutD x lo hi) := (h.split.2).split.1
theorem Lp.len {n : Nat} {x : List PyData} (h : Lp n x) : x.length ≤ n := Nat.le_trans (len_wt x) h.2.1
theorem Lp.tup {n : Nat} {x : List PyData} (h : Lp n x) : Gp (n + 1) (.tuple x) := ⟨by simpa [fine] using h.1, by have := h.2.1; simp [wt]; omega, by simpa [PyData.plain] using h.2.2⟩
theorem Lp.lst {n : Nat} {x : List PyData} (h : Lp n x) : Gp (n + 1) (.list x) := ⟨by simpa [fine] using h.1, by have := h.2.1; simp [wt]; omega, by simpa [PyData.plain] using h.2.2⟩
theorem TpS.gp {n : Nat} {d : PyData} (h : TpS n d) : Gp (n + 1) d := by
  obtain ⟨ds, rfl, h⟩ := h
  exact h.tup
theorem TpS.mono {a b : Nat} {d : PyData} (h : TpS a d) (le : a ≤ b) : TpS b d := by
  obtain ⟨ds, rfl, h⟩ := h
  exact ⟨ds, rfl, h.mono le⟩
theorem big_line : (1000 : Nat) ≤ sizeLine := by decide
section
variable {l : Addr} {P : PSt} {K : PySem.W.Frag} {S : PyData → Prop} {t ta tb : TE} {ts : TA} {ds : List PyData} {a b n : Nat} {σ0 : L2.St} {L : List (V × PyData)} {M : List (Addr × List V × List PyData)}
theorem gd_env {i : Nat} {v : V} {d : PyData} (h : σ0[i]? = some (some v)) (hm : (v, d) ∈ L) : GD l (Env l σ0 L M) (· = d) (tVar i) :=
  gd_var fun σ H p => ⟨v, d, by rw [p.1]; exact h, rfl, p.2.1 _ hm⟩
theorem gi_env {i : Nat} {k : Int} (h : σ0[i]? = some (some (.int k))) : GI l (Env l σ0 L M) (· = k) (tVar i) := gi_var fun σ H p => ⟨k, by rw [p.1]; exact h, rfl⟩
theorem gm_env {i : Nat} {p : Addr} {xs : List V} (h : σ0[i]? = some (some (.ref p))) (hm : (p, xs, ds) ∈ M) : GM l (Env l σ0 L M) (· = ds) (tVar i) :=
  gm_var fun σ H q => ⟨p, xs, ds, by rw [q.1]; exact h, rfl, (q.2.2 _ hm).1, (q.2.2 _ hm).2.1, (q.2.2 _ hm).2.2⟩
theorem gl_nil : GDs l P (Lp 0) tNil := gds_nil.imp fun _ e => by subst e; exact Lp.nil
theorem gl_cons (kp : Kp l P) (h : GD l P (Gp a) t) (hs : GDs l P (Lp b) ts) : GDs l P (Lp (a + b)) (tCons t ts) := (gds_cons kp h hs).imp fun _ z => by
  obtain ⟨d, ds, rfl, z1, z2⟩ := z
  exact Lp.cons z1 z2
theorem gl_tup (h : GDs l P (Lp n) ts) (hn : n ≤ 1000) : GD l P (TpS n) (tTup ts) := (gd_tup h fun ds z => Nat.le_trans z.len (Nat.le_trans hn big_line)).imp fun _ z => by
  obtain ⟨ds, rfl, z⟩ := z
  exact ⟨ds, rfl, z⟩
theorem gl_cat (kp : Kp l P) (h : GD l P (TpS a) ta) (h2 : GD l P (TpS b) tb) (ha : a ≤ 1000) (hb : b ≤ 1000) : GD l P (TpS (a + b)) (tOp (rCatA K) ta tb) :=
  (gd_cat kp h h2 (fun d z => by obtain ⟨ds, rfl, z⟩ := z; exact ⟨ds, rfl, Nat.le_trans z.len ha⟩) fun d z => by obtain ⟨ds, rfl, z⟩ := z; exact ⟨ds, rfl, Nat.le_trans z.len hb⟩).imp fun d z => by
    obtain ⟨x, y, ⟨x', e1, h1⟩, ⟨y', e2, h2⟩, rfl⟩ := z
    cases e1
    cases e2
    exact ⟨_, rfl, h1.app h2⟩
theorem gl_slice {lo hi : Option Int} {tl th : TO} (kp : Kp l P) (h : GD l P (· = .tuple ds) ta) (z : Lp n ds) (hl : GO l P lo tl) (hh : GO l P hi th) : GD l P (TpS n) (L2.tSl (rSlA K) ta tl th) :=
  (gd_slice kp h hl hh).imp fun d e => ⟨_, e, z.cut lo hi⟩
theorem al_nil : GDs l P (Al S 0) tNil := gds_nil.imp fun _ e => by subst e; exact ⟨rfl, fun d h => by cases h⟩
theorem al_cons (kp : Kp l P) (h : GD l P S t) (hs : GDs l P (Al S n) ts) : GDs l P (Al S (n + 1)) (tCons t ts) := (gds_cons kp h hs).imp fun _ z => by
  obtain ⟨d, ds, rfl, z1, z2, z3⟩ := z
  refine ⟨by simp [z2], fun x hx => ?_⟩
  rcases List.mem_cons.mp hx with e | hx
  · rw [e]; exact z1
  · exact z3 x hx
theorem al_lst (h : GDs l P (Al S n) ts) (hn : n ≤ 1000) : GM l P (Al S n) (tLst ts) := gm_lst h fun ds z => by rw [z.1]; exact Nat.le_trans hn big_line
theorem al_cat {m : Nat} (kp : Kp l P) (h : GM l P (Al S n) ta) (h2 : GM l P (Al S m) tb) (hn : n + m ≤ 1000) : GM l P (Al S (n + m)) (tOp rCat ta tb) :=
  (gm_cat kp h h2 fun x y z1 z2 => by rw [z1.1, z2.1]; exact Nat.le_trans hn big_line).imp fun z w => by
    obtain ⟨x, y, rfl, w1, w2⟩ := w
    refine ⟨by rw [List.length_append, w1.1, w2.1], fun d hd => ?_⟩
    rcases List.mem_append.mp hd with q | q
    · exact w1.2 d q
    · exact w2.2 d q
/-- one of a list, by a number within it -/
theorem al_ix {m : Int} (kp : Kp l P) (h : GM l P (Al S n) ta) (hi : GI l P (fun k => 0 ≤ k ∧ k < m) tb) (hn : (n : Int) = m) : GD l P S (tOp (rIxL K) ta tb) :=
  (gd_ixM kp h hi fun ds z => by rw [z.1]; exact hn).imp fun d z => by
    obtain ⟨ds, z1, z2⟩ := z
    exact z1.2 d z2
end
theorem GI.imp {l : Addr} {P : PSt} {N N2 : Int → Prop} {t : TE} (h : GI l P N t) (i : ∀ d, N d → N2 d) : GI l P N2 t := fun σ H Q st p q => h σ H Q st p fun H' v s => q H' v (i v s)
theorem gp_int {i : Int} (h : i.natAbs ≤ 10 ^ 40) {n : Nat} (hn : 1 ≤ n) : Gp n (.int i) := ⟨by simpa [fine] using h, by simpa [wt] using hn, rfl⟩
theorem gcn {l : Addr} {P : PSt} {n : Nat} {v : V} {d : PyData} (h : ∀ H, Dx H v d) (g : Gp n d) : GD l P (Gp n) (tC v) := (gd_c h).imp fun _ e => by subst e; exact g
theorem gin {l : Addr} {P : PSt} {n : Nat} {k : Int} {t : TE} (h : GI l P (· = k) t) (hk : k.natAbs ≤ 10 ^ 40) (hn : 1 ≤ n) : GD l P (Gp n) t := (gd_int h).imp fun d e => by
  obtain ⟨i, rfl, rfl⟩ := e
  exact gp_int hk hn
theorem alld_nil {l : Addr} {H : Hp} : ∀ p ∈ ([] : List (V × PyData)), Dx (hid l H) p.1 p.2 := fun p h => by cases h
theorem alld_cons {l : Addr} {H : Hp} {v : V} {d : PyData} {L : List (V × PyData)} (h : Dx (hid l H) v d) (t : ∀ p ∈ L, Dx (hid l H) p.1 p.2) : ∀ p ∈ (v, d) :: L, Dx (hid l H) p.1 p.2 := fun p hp => by
  rcases List.mem_cons.mp hp with e | hp
  · rw [e]; exact h
  · exact t p hp
theorem alld_up {l : Addr} {H H' : Hp} {L : List (V × PyData)} (k : Keep l H H') (t : ∀ p ∈ L, Dx (hid l H) p.1 p.2) : ∀ p ∈ L, Dx (hid l H') p.1 p.2 := fun p hp => (t p hp).up k.same
theorem allm_nil {l : Addr} {H : Hp} : ∀ m ∈ ([] : List (Addr × List V × List PyData)), m.1 ≠ l ∧ H m.1 = some (.lst m.2.1) ∧ Dxs (hid l H) m.2.1 m.2.2 := fun p h => by cases h
theorem allm_one {l : Addr} {H : Hp} {p : Addr} {xs : List V} {ds : List PyData} (n : p ≠ l) (e : H p = some (.lst xs)) (x : Dxs (hid l H) xs ds) :
    ∀ m ∈ [(p, xs, ds)], m.1 ≠ l ∧ H m.1 = some (.lst m.2.1) ∧ Dxs (hid l H) m.2.1 m.2.2 := fun q h => by
  obtain rfl := List.mem_singleton.mp h
  exact ⟨n, e, x⟩
/-- a name gets data; a name gets a list -/
theorem gd_seq {l : Addr} {P : PSt} {S : PyData → Prop} {t : TE} {u : TS} {i : Nat} {D : Ends} {σ : L2.St} {H : Hp} (h : GD l P S t) (st : StO H l) (p : P σ H) (k : ∀ H' v d, S d → Keep l H H' → StO H' l → Dx (hid l H') v d → u D (σ.set i (some v)) H') :
    tSeq (tAsg t (gName i)) u D σ H := h σ H _ st p fun H' v d s k1 st1 x => k H' v d s k1 st1 x
theorem gm_seq {l : Addr} {P : PSt} {S : List PyData → Prop} {t : TE} {u : TS} {i : Nat} {D : Ends} {σ : L2.St} {H : Hp} (h : GM l P S t) (st : StO H l) (p : P σ H)
    (k : ∀ H' a xs ds, S ds → Keep l H H' → StO H' l → a ≠ l → H' a = some (.lst xs) → Dxs (hid l H') xs ds → u D (σ.set i (some (.ref a))) H') :
    tSeq (tAsg t (gName i)) u D σ H := h σ H _ st p fun H' a xs ds s k1 st1 n e x => k H' a xs ds s k1 st1 n e x
end KX

set_option maxRecDepth 100000
set_option maxHeartbeats 4000000
namespace KX
open PySem PySem.Spec PyProof.Rows L2
theorem countP_eqU {x : V} : ∀ {xs : List V} {us : List Value}, Vals xs us → xs.all flatV = true → us.countP (eqU x) = xs.countP fun y => eqV y x
  | _, _, .nil, _ => rfl
  | y :: xs, u :: us, .cons r t, f => by
    rw [List.all_cons, Bool.and_eq_true] at f
    rw [List.countP_cons, List.countP_cons, eqU_of r f.1, countP_eqU t f.2]
section
variable {X : Cx}
/-- xs.count(y), flat items -/
def rCntF (K : PySem.W.Frag) : V → List V → Hp → VK → Prop := fun x xs H Q => ∃ (p : Addr) (ys : List V) (y : V), x = .ref p ∧ xs = [y] ∧ SqL K H p ys ∧ flatV y = true ∧ ys.all flatV = true ∧ Q (.int (ys.countP fun z => eqV z y : Nat)) H
theorem mt_countF : MtR X "list.count" (rCntF X.K) := by
  intro pins s σ H x xs v us Q I rx rxs h
  obtain ⟨p, ys, y, rfl, rfl, hs, fy, fs, q⟩ := h
  cases rx
  obtain ⟨u, rfl, ru⟩ := rxs.one
  obtain ⟨its, rv, ⟨⟨cls, dd, data, sl⟩, n, ho, hc, hdn, hd⟩, hlen⟩ := I.list hs
  dsimp only at hc hd
  subst hc hd
  have same : its.toArray.toList.countP (eqU y) = ys.countP fun z => eqV z y := countP_eqU rv fs
  refine call_meets PySem.F.slot_list_count ⟨_, ho, rfl⟩ PySem.F.entry_list_count (PySem.F.args_list_count_2 _ _) (SeqAt.list_countAt p its.toArray n dd sl u (eqU y)) ⟨ho, fun z hz => mem_eqAt ru fy rv fs z (by simpa using hz), ?_⟩
  refine ⟨.int (ys.countP fun z => eqV z y : Nat), H, I.tok _, ⟨s.toks, ?_⟩, q⟩
  rw [same]
end
/-- isinstance(e, T), isinstance(e, (T, ..)): e a caught error without fields of its own -/
def rIsN (K : PySem.W.Frag) (a : Addr) (cls : Value) (d : Option Addr) : List V → Hp → VK → Prop := fun xs H Q =>
  ∃ (C : Addr) (c : V) (b : Bool), XI K C ∧ cls = .ref C ∧ d = none ∧ xs = [.ref a, c] ∧
    ((∃ cv, (∀ u, RelV c u → u = cv) ∧ PySem.W.kitOne K (.ref C) cv = some b) ∨
      ∃ (tp : Addr) (ys : List V) (its : List Value), c = .ref tp ∧ H tp = some (.tup ys) ∧ (∀ us, Vals ys us → us = its) ∧ PySem.W.kitAny K (.ref C) its = some b) ∧ Q (.bl b) H
theorem call_isN {X : Cx} {a : Addr} {oe : Obj} {cls : Value} {d : Option Addr} {pn : List (Addr × Obj)} (hz : Zc cls d oe) (hf : ∃ vs, oe.data = .fields vs) :
    CallR (X.suite a ((a, oe) :: pn)) (.builtin "isinstance") (rIsN X.K a cls d) := by
  intro pins s σ H xs us Q I r h
  obtain ⟨C, c, b, T, ec, ed, rfl, hc, q⟩ := h
  subst ec ed
  obtain ⟨hget, _⟩ := I.pin (a, oe) (List.mem_append.mpr (.inl List.mem_cons_self))
  obtain ⟨vs, hv⟩ := hf
  have J : PySem.W.InstAt s.heap a oe C none := ⟨hget, hz.1, by unfold PySem.W.notCls; rw [hv] <;> rfl, by rw [hz.2]; trivial⟩
  have hcl : (PySem.W.clsIn X.K C).isSome = true := by
    obtain ⟨cd, hc, _⟩ := PySem.W.any_some T.hd
    rw [hc]; rfl
  have Z : PySem.W.KitX X.K (.ref a) (.ref C) (fun h => PySem.W.InstAt h a oe C none) := PySem.W.kitx_exc hcl T.ga T.gg T.sub T.hcl T.sp T.tk T.mro
  obtain ⟨u, rfl, ru⟩ : ∃ u2, us = [.ref a, u2] ∧ RelV c u2 := by
    cases r with
    | cons r1 r2 =>
      cases r2 with
      | cons r3 r4 =>
        cases r4
        cases r1
        exact ⟨_, rfl, r3⟩
  rcases hc with ⟨cv, hcv, e⟩ | ⟨tp, ys, its, rfl, hH, hits, e⟩
  · have eu := hcv _ ru
    subst eu
    exact PySem.W.kia_one Z I.kIn J e (fun z => nomatch z) fun tk => ⟨.bl b, H, I.kept (t' := tk) fun _ _ z => z, rfl, q⟩
  · obtain rfl : u = Value.ref tp := ru
    obtain ⟨_, us2, r2, o, h1, h2, n, h3⟩ := (show ObjOk X.prog X.w H s.heap tp (.tup ys) from I.hok tp _ hH)
    have eu := hits us2 r2
    subst eu
    obtain ⟨oc, od2, oda, osl⟩ := o
    dsimp only at h2 h3
    subst h2 h3
    exact PySem.W.kia_tup Z I.kIn J h1 e (fun z => nomatch z) fun tk => ⟨.bl b, H, I.kept (t' := tk) fun _ _ z => z, rfl, q⟩
end KX

set_option maxRecDepth 100000
set_option maxHeartbeats 4000000
/-! zip of a list and a tuple -/
namespace KX
open PySem PySem.Spec PyProof.Rows L2
def ItM (K : PySem.W.Frag) (a b : Addr) : It :=
  ⟨fun i H => ∃ (xs ys : List V) (x y : V), SqL K H a xs ∧ SqT K H b ys ∧ xs[i]? = some x ∧ ys[i]? = some y,
    fun i H v G => ∃ T x y, v = .ref T ∧ H T = none ∧ G = upd H T (.tup [x, y]) ∧ (∀ xs, SqL K H a xs → xs[i]? = some x) ∧ ∀ ys, SqT K H b ys → ys[i]? = some y,
    fun i H => ∃ xs ys : List V, SqL K H a xs ∧ SqT K H b ys ∧ xs.length = i ∧ ys.length = i⟩
theorem sep_of {z TI TO i1 i2 a b : Addr} (D : ZipApart z TI TO i1 i2 a b) : ZipSep2 z TI TO i1 i2 [i1, a] [i2, b] := by
  have e1 := D.TIz
  refine ⟨D.TIz, D.TOz, D.TITO, D.TIi1, by simp, ?_, ?_, D.TIi2, by simp, ?_, ?_, ?_, ?_⟩
  · simp [D.i1z.symm, D.l1z.symm]
  · simp [D.TOi1, D.l1TO.symm]
  · simp [D.i2z.symm, D.l2z.symm]
  · simp [D.TOi2, D.l2TO.symm]
  · simp [D.i12, D.l2i1.symm]
  · simp [D.i12.symm, D.l1i2.symm]
theorem turn_m {P : Program} {w : World} {K : PySem.W.Frag} {elts : List Expr} {kk : Nat} {tpos : Pos} {a b z TI TO i1 i2 : Addr} (D : ZipApart z TI TO i1 i2 a b) :
    Turn P w K (.Tuple elts kk tpos) (ItM K a b) [z, TI, TO, i1, i2] z (fun i h => IsZip h z TI TO .none ∧ IsPair h TI (.ref i1) (.ref i2) ∧ (∃ x y, IsPair h TO x y) ∧ h.IsListIter i1 a i ∧ h.IsTupleIter i2 b i) where
  mem := by simp
  obj := fun i h st c hc => by
    obtain ⟨hz, hTI, ⟨x, y, hTO⟩, ⟨o1, e1, _, d1⟩, ⟨o2, e2, _, d2⟩⟩ := st
    simp only [List.mem_cons, List.not_mem_nil, or_false] at hc
    rcases hc with rfl | rfl | rfl | rfl | rfl
    · exact ⟨_, hz, fun v q => nomatch q⟩
    · exact ⟨_, hTI, fun v q => nomatch q⟩
    · exact ⟨_, hTO, fun v q => nomatch q⟩
    · exact ⟨o1, e1, fun v q => by rw [d1] at q; cases q⟩
    · exact ⟨o2, e2, fun v q => by rw [d2] at q; cases q⟩
  keep := fun i h h' st k => by
    obtain ⟨hz, hTI, ⟨x, y, hTO⟩, t1, t2⟩ := st
    exact ⟨k z (by simp) _ hz, k TI (by simp) _ hTI, ⟨x, y, k TO (by simp) _ hTO⟩, t1.at fun o q => k i1 (by simp) o q, t2.at fun o q => k i2 (by simp) o q⟩
  item := by
    intro X hP hw hK hc i pins s σ H E I hf st hg
    subst hP hw hK
    obtain ⟨hz, hTI, ⟨x0, y0, hTO⟩, t1, t2⟩ := st
    obtain ⟨xs, ys, x, y, hqx, hqy, hx, hy⟩ := hg
    obtain ⟨its, rv, pl, _⟩ := I.list hqx
    obtain ⟨its2, rv2, pt, _⟩ := I.tuple hqy
    obtain ⟨u, hu, ru⟩ := rv.get hx
    obtain ⟨u2, hu2, ru2⟩ := rv2.get hy
    have zl : z < s.heap.objs.size := Heap.lt_size hz
    have hh : X.A.in1.handled = none := I.ok.hd hc
    have li : i < its.toArray.size := by simpa using (List.getElem?_eq_some_iff.mp hu).1
    have li2 : i < its2.toArray.size := by simpa using (List.getElem?_eq_some_iff.mp hu2).1
    refine wpAny_pyNext_zipD2_item (sep_of D) (Draws.list hh i1 a D.l1i1 its.toArray) (Draws.tuple hh i2 b D.l2i2 its2.toArray) hz hTI hTO ⟨t1, pl.isList⟩ ⟨t2, pt⟩ li li2 fun x1 x2 h' tk q1 q2 z' TO' s1' s2' hT hsz hk => ?_
    have e1 : x1 = u := Option.some.inj (q1.symm.trans (by simpa using hu))
    have e2 : x2 = u2 := Option.some.inj (q2.symm.trans (by simpa using hu2))
    subst e1 e2
    refine ⟨_, rfl, wpAny_letOwnedTupleGo_zip (s := { s with heap := h', toks := tk }) z' fun h'' z'' sb => ?_⟩
    have hT2 : h''.get? s.heap.objs.size = some { cls := .type "tuple", data := .seq #[x1, x2] } := (sb.2 _ (Nat.ne_of_gt zl)).trans hT
    have new : ObjOk X.prog X.w (upd H s.heap.objs.size (.tup [x, y])) h'' s.heap.objs.size (.tup [x, y]) := ⟨by show 2 ≤ sizeLine; decide, [x1, x2], .cons ru (.cons ru2 .nil), ⟨_, hT2, rfl, _, rfl⟩⟩
    have moved : ∀ c o, c ∉ [z, TI, TO, i1, i2] → s.heap.get? c = some o → h''.get? c = some o := fun c o hb q => by
      simp only [List.mem_cons, List.not_mem_nil, or_false, not_or] at hb
      exact (sb.2 c hb.1).trans (hk c o hb.1 hb.2.2.1 hb.2.2.2.1 hb.2.2.2.2 q)
    have I1 : Inv X pins σ (upd H s.heap.objs.size (.tup [x, y])) { s with heap := h'', toks := tk } := I.turnedNew (t' := tk) (ch := [z, TI, TO, i1, i2]) moved hf (Nat.le_refl _) new
    refine ⟨.ref s.heap.objs.size, _, I1, rfl, ⟨_, x, y, rfl, I.hok.fresh (Nat.le_refl _), rfl, fun l hl => by rw [I.list_inj hl hqx]; exact hx, fun l hl => by rw [I.tuple_inj hl hqy]; exact hy⟩,
      ⟨z'', (sb.2 _ D.TIz).trans (hk _ _ D.TIz D.TITO D.TIi1 D.TIi2 hTI), ⟨x1, x2, (sb.2 _ D.TOz).trans TO'⟩, s1'.1.at fun o q => (sb.2 _ D.i1z).trans q, s2'.1.at fun o q => (sb.2 _ D.i2z).trans q⟩, fun c hcm => ?_⟩
    have lt : c < s.heap.objs.size := by
      simp only [List.mem_cons, List.not_mem_nil, or_false] at hcm
      rcases hcm with rfl | rfl | rfl | rfl | rfl
      · exact zl
      · exact Heap.lt_size hTI
      · exact Heap.lt_size hTO
      · obtain ⟨_, q, _⟩ := t1; exact Heap.lt_size q
      · obtain ⟨_, q, _⟩ := t2; exact Heap.lt_size q
    rw [upd_ne (Nat.ne_of_lt lt)]
    exact (hf c hcm).1
  done := by
    intro X hP hw hK hc i pins s σ H E I hf st hg
    subst hP hw hK
    obtain ⟨hz, hTI, ⟨x0, y0, hTO⟩, t1, t2⟩ := st
    obtain ⟨xs, ys, hqx, hqy, e1, e2⟩ := hg
    obtain ⟨its, rv, pl, _⟩ := I.list hqx
    obtain ⟨its2, rv2, pt, _⟩ := I.tuple hqy
    have l1 := rv.length
    have l2 := rv2.length
    have hh : X.A.in1.handled = none := I.ok.hd hc
    have s1 : its.toArray.size = i := by simp; omega
    have s2 : its2.toArray.size = i := by simp; omega
    refine wpAny_pyNext_zipD2_end (sep_of D) (Draws.list hh i1 a D.l1i1 its.toArray) (Draws.tuple hh i2 b D.l2i2 its2.toArray) hz hTI hTO ⟨t1, pl.isList⟩ ⟨t2, pt⟩ (by omega) (by omega) (.inl s1.symm) fun h' tk hk => ⟨rfl, ?_⟩
    refine I.turnedL (t' := tk) (ch := [z, TI, TO, i1, i2]) (fun c o hb q => ?_) hf
    simp only [List.mem_cons, List.not_mem_nil, or_false, not_or] at hb
    exact hk c o hb.1 hb.2.2.1 hb.2.2.2.1 hb.2.2.2.2 q
  self := fun A i s Q E st h => wpAny_pyIter_zip st.1 h
/-! the call -/
abbrev zm1 (h : Heap) (a : Addr) : Heap := h.push { cls := .type "list_iterator", data := .fields #[.ref a, .int 0 0] }
abbrev zm2 (h : Heap) (a b : Addr) : Heap := (zm1 h a).push { cls := .type "tuple_iterator", data := .fields #[.ref b, .int 0 0] }
abbrev zm3 (h : Heap) (a b : Addr) : Heap := (zm2 h a b).push { cls := .type "tuple", data := .seq #[.ref h.objs.size, .ref (zm1 h a).objs.size] }
abbrev zm4 (h : Heap) (a b : Addr) : Heap := (zm3 h a b).push { cls := .type "tuple", data := .seq #[.none, .none] }
abbrev zm5 (h : Heap) (a b : Addr) : Heap := (zm4 h a b).push { cls := .type "zip", data := .fields #[.none, .bool false, .bool false, .ref (zm2 h a b).objs.size, .ref (zm3 h a b).objs.size] }
theorem meets_zm (a b : Addr) (xs ys : Array Value) :
    Meets (Builtin.«zip.__new__» ⟨[.type "zip", .ref a, .ref b], []⟩) (fun _ R s => s.heap.IsList a xs ∧ s.heap.IsTuple b ys ∧ R (.ok (.ret (.ref (zm4 s.heap a b).objs.size))) { s with heap := zm5 s.heap a b }) :=
  .of_wp fun prog w A R s h => by
    obtain ⟨hp, g, d, tk, os⟩ := s
    obtain ⟨ha, hb, h⟩ := h
    have hsub := sub_zip
    have La : Heap.IsList (Shared.heap ⟨hp, g, d, tk, os⟩) a xs := ha
    have Lb : Heap.IsTuple (Shared.heap ⟨hp.push { cls := .type "list_iterator", data := .fields #[.ref a, .int 0 0] }, g, d, tk, os⟩) b ys := Heap.IsTuple.push hb _
    wp_walk using wpAny_pyIter_list La, wpAny_pyIter_tuple Lb
    exact ⟨_, rfl, h⟩
section
variable {prog : Program} {w : World} {A : Around} {E : Value → Shared → Prop} {s : Shared}
theorem call_zm {a b : Addr} {xs ys : Array Value} {Q : Value → Shared → Prop} (ha : s.heap.IsList a xs) (hb : s.heap.IsTuple b ys)
    (go : ∀ h', IsZip h' (s.heap.objs.size + 4) (s.heap.objs.size + 2) (s.heap.objs.size + 3) .none → IsPair h' (s.heap.objs.size + 2) (.ref s.heap.objs.size) (.ref (s.heap.objs.size + 1)) → IsPair h' (s.heap.objs.size + 3) .none .none →
      h'.IsListIter s.heap.objs.size a 0 → h'.IsTupleIter (s.heap.objs.size + 1) b 0 → (∀ c o, s.heap.get? c = some o → h'.get? c = some o) → Q (.ref (s.heap.objs.size + 4)) { s with heap := h' }) :
    wpAny (model prog w) A (call (.type "zip") [.ref a, .ref b]) Q E s := by
  refine callType_new F.called_zip (by decide) (F.typeCall_zip_2 _ _) (F.newCall_zip_2 _ _) (fun obj => F.args_object_init_3 obj _ _) F.entry_zip_new (meets_zm a b xs ys) ⟨ha, hb, ?_⟩
  have n1 : (zm1 s.heap a).objs.size = s.heap.objs.size + 1 := by rw [Heap.size_push]
  have n2 : (zm2 s.heap a b).objs.size = s.heap.objs.size + 2 := by rw [Heap.size_push, n1]
  have n3 : (zm3 s.heap a b).objs.size = s.heap.objs.size + 3 := by rw [Heap.size_push, n2]
  have n4 : (zm4 s.heap a b).objs.size = s.heap.objs.size + 4 := by rw [Heap.size_push, n3]
  have k45 : ∀ {c o}, (zm4 s.heap a b).get? c = some o → (zm5 s.heap a b).get? c = some o := fun e => Heap.get?_push_of_some _ e
  have k35 : ∀ {c o}, (zm3 s.heap a b).get? c = some o → (zm5 s.heap a b).get? c = some o := fun e => k45 (Heap.get?_push_of_some _ e)
  have k25 : ∀ {c o}, (zm2 s.heap a b).get? c = some o → (zm5 s.heap a b).get? c = some o := fun e => k35 (Heap.get?_push_of_some _ e)
  have k15 : ∀ {c o}, (zm1 s.heap a).get? c = some o → (zm5 s.heap a b).get? c = some o := fun e => k25 (Heap.get?_push_of_some _ e)
  have o5 : (zm5 s.heap a b).get? (zm4 s.heap a b).objs.size = some _ := Heap.get?_push_size _ rfl
  have o4 := k45 (c := (zm3 s.heap a b).objs.size) (Heap.get?_push_size _ rfl)
  have o3 := k35 (c := (zm2 s.heap a b).objs.size) (Heap.get?_push_size _ rfl)
  have o2 := k25 (c := (zm1 s.heap a).objs.size) (Heap.get?_push_size _ rfl)
  have o1 := k15 (c := s.heap.objs.size) (Heap.get?_push_size _ rfl)
  show _ ∧ _
  rw [n2, n3, n4] at o5
  rw [n3] at o4
  rw [n1, n2] at o3
  rw [n1] at o2
  rw [n4]
  exact ⟨⟨_, o5, rfl⟩, go _ o5 o3 o4 ⟨_, o1, rfl, rfl⟩ ⟨_, o2, rfl, rfl⟩ fun c o x => k15 (Heap.get?_push_of_some _ x)⟩
end
def iZipM (K : PySem.W.Frag) (ta : TA) : TI := fun σ H R => ta σ H fun vs H1 => ∃ a b xs ys, vs = [.ref a, .ref b] ∧ SqL K H1 a xs ∧ SqT K H1 b ys ∧ R (ItM K a b) H1
theorem pi_zipM {X : Cx} {e e2 : Expr} {ta : TA} {p pos tpos : Pos} {elts : List Expr} {kk : Nat} (hg : Gl X "zip") (hm : X.mg "zip" = none) (ha : PA X [e, e2] ta)
    (hs : starEach [e, e2] X.env = (false, eval e X.env) :: starEach [e2] X.env := by rfl) (hpl : (backTo pos (starEach [e2] X.env)).any (·.1) = false := by rfl) :
    PI X (.Tuple elts kk tpos) (.Call (.Name "zip" p) [e, e2] [] pos) (iZipM X.K ta) := by
  refine ⟨fun pins s σ H R I h => ?_⟩
  refine Call_ (ld_blt I hg hm PyProof.Rows.boot_zip (PyProof.Rows.callWith_type1 (thn (ha.run pos pins s σ H _ I h) fun us s1 z => ?_) hs hpl))
  obtain ⟨vs, H1, I1, r1, a, b, xs, ys, ex, hqx, hqy, q⟩ := z
  subst ex
  obtain rfl : us = [.ref a, .ref b] := by
    cases r1 with
    | cons r rr =>
      cases rr with
      | cons r' rr =>
        cases rr
        cases r
        cases r'
        rfl
  obtain ⟨its, rv, pl, _⟩ := I1.list hqx
  obtain ⟨its2, rv2, pt, _⟩ := I1.tuple hqy
  have ltb : b < s1.heap.objs.size := by
    obtain ⟨o, ho, _⟩ := id pt
    exact Heap.lt_size ho
  refine call_zm pl.isList (show s1.heap.IsTuple b its2.toArray from pt) fun h' hz hTI hTO t1 t2 hk => wpAny_pyIter_zip hz ?_
  have I2 : Inv X pins σ H1 { s1 with heap := h' } := I1.kept (t' := s1.toks) hk
  refine ⟨s1.heap.objs.size + 4, [s1.heap.objs.size + 4, s1.heap.objs.size + 2, s1.heap.objs.size + 3, s1.heap.objs.size, s1.heap.objs.size + 1], _, _, H1, rfl, I2, turn_m (PySem.W.ktu_apart s1.heap.objs.size a b pl.lt ltb), ⟨hz, hTI, ⟨_, _, hTO⟩, t1, t2⟩, fun c hcm => ?_, q⟩
  have le : s1.heap.objs.size ≤ c := by
    simp only [List.mem_cons, List.not_mem_nil, or_false] at hcm
    rcases hcm with rfl | rfl | rfl | rfl | rfl <;> omega
  exact I1.fpOk le (I1.hok.fresh le)
/-- [e for x, y in zip(l, t)] -/
theorem lc_zipM {K : PySem.W.Frag} {a b : Addr} {xs ys : List V} {g : TG} {tt : TT} {te : TE} {vs : List Nat} {σ : L2.St} {H1 : Hp} {D : Addr} {Qd : Hp → Prop} (hl : xs.length = ys.length) (Pv : Nat → Hp → Prop) (h0 : Pv 0 (upd H1 D (.lst [])))
    (hq : ∀ i G, i ≤ xs.length → Pv i G → SqL K G a xs ∧ SqT K G b ys)
    (hs : ∀ (i : Nat) (x y : V) (T : Addr) (G : Hp), xs[i]? = some x → ys[i]? = some y → Pv i G → G T = none → g (.ref T) (wipe σ vs) (upd G T (.tup [x, y])) fun σ2 H2 => wipe σ2 vs = wipe σ vs ∧ tt σ2 H2 fun b H3 =>
      if b = true then te σ2 H3 fun y H4 => ∃ zs, H4 D = some (.lst zs) ∧ zs.length < sizeLine ∧ Pv (i + 1) (upd H4 D (.lst (zs ++ [y]))) else Pv (i + 1) H3) (hd : ∀ G, Pv xs.length G → Qd G) :
    ∃ W : Nat → Nat → Hp → Prop, (∃ m, W 0 m (upd H1 D (.lst []))) ∧ ∀ i m H, W i m H → ((ItM K a b).stop i H ∧ Qd H) ∨ ((ItM K a b).go i H ∧ ∃ Nx : Hp → Prop, (∀ H', Nx H' → ∃ m', m' < m ∧ W (i + 1) m' H') ∧ ∀ x H', (ItM K a b).yld i H x H' →
      g x (wipe σ vs) H' fun σ2 H2 => wipe σ2 vs = wipe σ vs ∧ tt σ2 H2 fun b H3 => if b = true then te σ2 H3 fun y H4 => ∃ zs, H4 D = some (.lst zs) ∧ zs.length < sizeLine ∧ Nx (upd H4 D (.lst (zs ++ [y]))) else Nx H3) := by
  refine ⟨fun i m H => m = xs.length - i ∧ i ≤ xs.length ∧ Pv i H, ⟨xs.length, by simp, Nat.zero_le _, h0⟩, fun i m H hw => ?_⟩
  obtain ⟨rfl, hi, p⟩ := hw
  obtain ⟨qx, qy⟩ := hq i H hi p
  by_cases lt : i < xs.length
  · refine .inr ⟨⟨xs, ys, xs[i], ys[i], qx, qy, List.getElem?_eq_getElem lt, List.getElem?_eq_getElem (by omega)⟩, Pv (i + 1), fun H' p' => ⟨xs.length - (i + 1), by omega, rfl, lt, p'⟩, fun v H' y => ?_⟩
    obtain ⟨T, x, y, rfl, nT, rfl, e1, e2⟩ := y
    exact hs i x y T H (e1 xs qx) (e2 ys qy) p nT
  · have e : i = xs.length := by omega
    subst e
    exact .inl ⟨⟨xs, ys, qx, qy, rfl, hl.symm⟩, hd H p⟩
end KX

set_option maxRecDepth 100000
set_option maxHeartbeats 4000000
/-! == of a text and a dict; x in t where x may be a dict -/
namespace KX
open PySem PySem.Spec PyProof.Rows L2
theorem str_eq_declines_dict (b : Str) (u : Tok) (l : Addr) (es : Array DictEntry) (ep : Nat) (dd : Option Addr) (sl : Array (Option Value)) :
    Meets (Builtin.«str.__eq__» ⟨[.str b u, .ref l], []⟩) (fun _ R s => s.heap.get? l = some { cls := .type "dict", dict := dd, data := .dict es ep, slots := sl } ∧ R (.ok (.ret .notImplemented)) s) :=
  .of_wp fun prog w A R s h => by obtain ⟨hp, g, d, tk, os⟩ := s; obtain ⟨hl, h⟩ := h; wp_walk using AutoSeq1.wpAny_loadPart' hl, wpAny_load hl; exact ⟨_, rfl, h⟩
theorem dict_eq_declines_str (b : Str) (u : Tok) (l : Addr) (es : Array DictEntry) (ep : Nat) (dd : Option Addr) (sl : Array (Option Value)) :
    Meets (Builtin.«dict.__eq__» ⟨[.ref l, .str b u], []⟩) (fun _ R s => s.heap.get? l = some { cls := .type "dict", dict := dd, data := .dict es ep, slots := sl } ∧ R (.ok (.ret .notImplemented)) s) :=
  .of_wp fun prog w A R s h => by obtain ⟨hp, g, d, tk, os⟩ := s; obtain ⟨hl, h⟩ := h; have f1 : isSubtype (.type "str") (.type "dict") = pure false := by rw [isSubtype_type]; kernel_rfl
                                  wp_walk using AutoSeq1.wpAny_loadPart' hl, wpAny_load hl; exact ⟨_, rfl, h⟩
section
open MeetsSeq MeetsSeq2 MeetsSeq3 SeqRoads2 SeqAt
variable {A : Around} {s : Shared}
theorem rc_str_dict {l : Addr} {o : Obj} {es : Array DictEntry} {ep : Nat} (b : Str) (u : Tok) (ho : s.heap.get? l = some o) (hc : o.cls = .type "dict") (hd : o.data = .dict es ep) (hu : A.units < cLine) : SeqAt.RcAt A s (.str b u) (.ref l) false := fun prog w E Q h => by
  obtain ⟨cls, dd, data, sl⟩ := o
  simp only at hc hd
  subst hc hd
  exact rc_eq_decline_or (k := false) (typeIs_str s b u) ⟨_, ho, rfl⟩ (by decide) PySem.F.sub_dict_str PySem.F.slot_str_eq PySem.F.slot_dict_eq_refl
    (fun _ hq => call_meets PySem.F.slot_str_eq (typeIs_str s b u) PySem.F.entry_str_eq (PySem.F.args_str_eq_2 _ _) (str_eq_declines_dict b u l es ep dd sl) ⟨ho, hq⟩)
    (fun _ hq => call_meets PySem.F.slot_dict_eq_refl ⟨_, ho, rfl⟩ PySem.F.entry_dict_eq (PySem.F.args_dict_eq_2 _ _) (dict_eq_declines_str b u l es ep dd sl) ⟨ho, hq⟩)
    (fun _ hq => wpAny_of_eq (rfl : isSame (.str b u) (.ref l) = pure false) hq) (.inr hu) h
theorem eq_str_dict {l : Addr} {o : Obj} {es : Array DictEntry} {ep : Nat} (b : Str) (u : Tok) (ho : s.heap.get? l = some o) (hc : o.cls = .type "dict") (hd : o.data = .dict es ep) (hu : A.units < cLine) : SeqAt.EqAt A s (.str b u) (.ref l) false := fun prog w E Q h => by
  unfold eqBool
  refine wpAny_holding ?_
  refine wpAny_ite_split (fun hab => absurd (eq_of_beq hab) nofun) (fun _ => ?_)
  exact wpAny_bind (rc_str_dict b u ho hc hd hu prog w E _ (wpAny_truthy_bool h))
end
/-- data without dicts, or a dict -/
def okP (d : PyData) : Prop := d.plain = true ∨ ∃ kvs, d = .dict kvs
section
variable {X : Cx}
/-- x in t: t a tuple of texts, x data, or a dict -/
def rInX (K : PySem.W.Frag) (f : Bool → Bool) : R2 := fun x y H Q => ∃ (d : PyData) (t : Addr) (ns : List Str), Dx H x d ∧ okP d ∧ y = .ref t ∧ SqT K H t (ns.map V.str) ∧ Q (.bl (f ((ns.map PyData.str).any fun z => PyData.eqv z d))) H
theorem dp_strsX {K : PySem.W.Frag} {H : Hp} : ∀ ns : List Str, DpAll K H (ns.map V.str) (ns.map PyData.str)
  | [] => .nil
  | n :: ns => .cons (.str n) (dp_strsX ns)
theorem strs_plain : ∀ ns : List Str, PyData.plainAll (ns.map PyData.str) = true ∧ PyData.depthAll (ns.map PyData.str) = 0
  | [] => ⟨rfl, by simp [PyData.depthAll]⟩
  | n :: ns => by
    obtain ⟨h1, h2⟩ := strs_plain ns
    exact ⟨by simp [PyData.plainAll, PyData.plain, h1], by simp [PyData.depthAll, PyData.depth, h2]⟩
theorem op_inX (hu : X.A.units + 64 < cLine) : OpR X (compareOp .In) (rInX X.K id) := by
  intro pins s σ H x y v u Q I rx ry h
  obtain ⟨d, t, ns, hd, od, rfl, ht, q⟩ := h
  rcases od with pd | ⟨kvs, rfl⟩
  · exact op_inTD hu pins s σ H x (.ref t) v u Q I rx ry ⟨d, ns.map PyData.str, dp_dx d x pd hd, .tup ht (dp_strsX ns), pd, (strs_plain ns).1, by rw [(strs_plain ns).2]; omega, q⟩
  · have hq : ((ns.map PyData.str).any fun z => PyData.eqv z (.dict kvs)) = false := List.any_eq_false.mpr fun z hz => by
      obtain ⟨n, _, rfl⟩ := List.mem_map.mp hz
      simp [PyData.eqv]
    rw [hq] at q
    obtain ⟨a, rfl⟩ : ∃ a, x = .ref a := by
      cases hd with
      | dic e => exact ⟨_, rfl⟩
      | dic1 e => exact ⟨_, rfl⟩
    cases ry
    cases rx
    obtain ⟨its, rv, ⟨o, ho, hc, n, hdat⟩, _⟩ := I.tuple ht
    have hdic : ∃ o es ep, s.heap.get? a = some o ∧ o.cls = .type "dict" ∧ o.data = .dict es ep := by
      cases hd with
      | dic e =>
        obtain ⟨_, _, _, _, o, es, ep, e1, ex, ed, _⟩ := (show ObjOk X.prog X.w H s.heap a (.dK []) from I.hok a _ e)
        exact ⟨o, es, ep, e1, ex.1, ed⟩
      | dic1 e =>
        obtain ⟨_, _, _, _, o, es, ep, e1, ex, ed, _⟩ := (show ObjOk X.prog X.w H s.heap a (.dK _) from I.hok a _ e)
        exact ⟨o, es, ep, e1, ex.1, ed⟩
    obtain ⟨o2, es, ep, h1, h2, h3⟩ := hdic
    refine SeqAt.in_tupleAt (e := fun _ => false) (hl := ⟨o, ho, hc, n, hdat⟩) (he := fun y hy => ?_) (h := ?_)
    · have hm : ∃ n t, y = Value.str n t := by
        have : ∀ (ns : List Str) (us : List Value), Vals (ns.map V.str) us → ∀ z ∈ us, ∃ n t, z = Value.str n t := fun ns => by
          induction ns with
          | nil => intro us r z hz; cases r; cases hz
          | cons n ns ih =>
            intro us r z hz
            cases r with
            | cons r1 r2 =>
              rcases List.mem_cons.mp hz with rfl | hz
              · obtain ⟨t, rfl⟩ := r1
                exact ⟨n, t, rfl⟩
              · exact ih _ r2 z hz
        exact this ns its rv y (by simpa using hy)
      obtain ⟨n, t, rfl⟩ := hm
      exact eq_str_dict n t h1 h2 h3 (by have : X.A.units + 64 < cLine := hu; show X.A.in1.units < cLine; exact Nat.lt_of_le_of_lt (by show X.A.units + 1 ≤ X.A.units + 64; omega) this)
    · have : (its.toArray.any fun _ => false) = false := by
        rw [← Array.any_toList]
        exact List.any_eq_false.mpr fun _ _ => by simp
      rw [this]
      exact ⟨.bl false, H, I, rfl, q⟩
end
end KX

set_option maxRecDepth 100000
set_option maxHeartbeats 4000000
/-! < of data that are alike -/
namespace KX
open PySem PySem.Spec PyProof.Rows L2
section
variable {X : Cx}
def rLtD (K : PySem.W.Frag) : R2 := fun x y H Q => ∃ d e, Dp K H x d ∧ Dp K H y e ∧ PySem.W.alike d e = true ∧ d ≠ .none ∧ min d.depth e.depth ≤ 60 ∧ Q (.bl (PySem.W.dataLt d e)) H
theorem op_ltD (hu : X.A.units + 64 < cLine) : OpR X (compareOp .Lt) (rLtD X.K) := by
  intro pins s σ H x y v u Q I rx ry h
  obtain ⟨d, e, hd, he, ha, hn, hm, q⟩ := h
  obtain ⟨as, r1⟩ := Dp.reads I d x v hd rx
  obtain ⟨bs, r2⟩ := Dp.reads I e y u he ry
  exact PySem.W.lt_data r1 r2 ha hn (by omega) ⟨.bl _, H, I, rfl, q⟩
end
end KX

set_option maxRecDepth 100000
set_option maxHeartbeats 4000000
/-! l != [], l any list -/
namespace KX
open PySem PySem.Spec PyProof.Rows L2
section
variable {X : Cx}
def rNeL0 (K : PySem.W.Frag) : R2 := fun x y H Q => ∃ a b xs, x = .ref a ∧ y = .ref b ∧ SqL K H a xs ∧ SqL K H b [] ∧ Q (.bl (!xs.isEmpty)) H
theorem op_neL0 (hu : X.A.units < cLine) : OpR X (compareOp .NotEq) (rNeL0 X.K) := by
  intro pins s σ H x y v u Q I rx ry h
  obtain ⟨a, b, xs, rfl, rfl, ha, hb, q⟩ := h
  cases rx
  cases ry
  obtain ⟨its, r1, p1, _⟩ := I.list ha
  obtain ⟨its2, r2, p2, _⟩ := I.list hb
  cases r2
  cases xs with
  | nil =>
    cases r1
    refine SeqAt.RcNeAt.lists (e := fun _ => true) p1.isList p2.isList rfl hu (fun j h1 h2 => absurd h2 (by simp)) X.prog X.w X.xe (EP X pins σ Q) ?_
    exact ⟨.bl _, H, I, rfl, q⟩
  | cons x xs =>
    cases r1
    exact SeqAt.RcNeAt.lists_lengths p1.isList p2.isList (by simp) hu X.prog X.w X.xe (EP X pins σ Q) ⟨.bl _, H, I, rfl, q⟩
end
end KX

set_option maxRecDepth 100000
set_option maxHeartbeats 400000
namespace KX
open PySem PySem.Spec PyProof.Rows L2 LamX NdefX
/-! ### a lambda with one parameter, captured names, handed to a def and called there -/
abbrev lamF (q : Str) (params : Arguments) (scope : Scope) (cl : List (Str × Addr)) (c : Addr) : NF := ⟨"<lambda>", q, params, [], scope, cl, c⟩
theorem cells_later {cl : List (Str × Addr)} {fr : List Str} {ws : List (Option V)} {fs : List Addr} {h h2 : Heap} {H H2 : Hp} (C : CellsAt cl fr ws h H) (un : Un fs [] H H2 h h2) : CellsAt cl fr ws h2 H2 := by
  have kp : ∀ y c, cl.lookup y = some c → ∀ v, h.IsCell c v → h2.IsCell c v := fun y c e v ⟨o, ho, hd⟩ => by
    obtain ⟨sl, q⟩ := un.any ho (C.all y c e).1 (by simp)
    exact ⟨_, q, hd⟩
  refine ⟨C.len, fun y c e => ?_, C.inj, fun i y e => ?_⟩
  · obtain ⟨n, v, z⟩ := C.all y c e
    refine ⟨?_, v, kp y c e v z⟩
    obtain ⟨o, ho, _⟩ := z
    exact un.free c o ho n (by simp)
  · obtain ⟨c, hc, hv⟩ := C.has i y e
    refine ⟨c, hc, fun v ev => ?_⟩
    obtain ⟨u, r, z⟩ := hv v ev
    exact ⟨u, r, kp y c hc _ z⟩
theorem vals_one {v : V} {us : List Value} (r : Vals [v] us) : ∃ u0, us = [u0] := by
  cases r with
  | cons r0 rr =>
    cases rr
    exact ⟨_, rfl⟩
/-- it runs -/
theorem lam_run {CX : CXT} {P : Program} {w : World} {K : PySem.W.Frag} {mg : Str → Option Value} {base : Heap} {N ps fr : List Str} {q : Str} {params : Arguments} {scope : Scope} {cl : List (Str × Addr)} {c' f : Addr} {body : Expr} {k : Nat} {A : Around} {outer : List PySem.Env} {s : Shared} {H : Hp}
    {us : List Value} {vs : List V} {ws : List (Option V)} {Q : VK} {E : XK} {pm ctv : Value} {t : TE} (S : NScope N ps fr scope) (hb : bindArgs (PySem.W.kla_fn "<lambda>" q params body scope cl pm (.ref c') ctv) ⟨us, []⟩ = pure (ps.zip us)) (hr : Room (k + 1) A)
    (e0 : Env0 P w K mg base A outer s H) (ho : s.heap.get? f = some (PySem.W.kla_obj "<lambda>" q params body scope cl pm c' ctv)) (hc : H c' = some (CodeO c' q)) (C : CellsAt cl fr ws s.heap H) (r : Vals vs us) (hl : vs.length = ps.length)
    (hbody : Room k (A.deeper (envF (lamF q params scope cl c') f s.heap.objs.size)) → PE (ncx CX P w K mg base N (lamF q params scope cl c') f A outer s H E) body t) (ht : t (startF N vs ws) H Q) : codeAny (model P w) A (.call (.ref f) ⟨us, []⟩) (CR CX outer P w H s Q E) s := by
  have lim : s.heap.NoLimit := e0.mod.nolimit.keeps fun b o e => (e0.bs b o e).1
  refine PySem.W.kla_callFunE hr.depth ho rfl S.co S.gen rfl (codeO_at e0.hok hc) ?_
  rw [hb]
  refine wpAny_pure (wpAny_newFunctionEnv S.nocell (fun ⟨n, _⟩ hy => S.par n (List.of_mem_zip hy).1) (fun h₁ hns hsb => ⟨lim.fresh _ hsb, ?_⟩) S.kind)
  show codeAny _ _ (.expr body (envF (lamF q params scope cl c') f s.heap.objs.size)) _ _
  have kp : ∀ b o, s.heap.get? b = some o → h₁.get? b = some o := fun b o e => hsb.extBut b o (Nat.ne_of_lt (Heap.lt_size e)) (Heap.get?_push_of_some _ e)
  have I : Inv (ncx CX P w K mg base N (lamF q params scope cl c') f A outer s H E) [] (startF N vs ws) H { s with heap := h₁, toks := s.toks + (ps.zip us).length } := inv_startN S hr.hd e0 hl r C hns kp
  refine PySem.W.kla_codeExpr (wpAny_mono ((hbody (hr.deeper _)).run [] _ _ H Q I ht) (fun v s' hq => ?_) fun e s' hq => hq)
  obtain ⟨w', H', J', rv, q⟩ := hq
  exact ⟨w', H', J'.os, J'.bare, J'.base, J'.hok, rv, q⟩
section
variable {X : Cx} {pins : List (Addr × Obj)} {σ : L2.St} {H : Hp} {s : Shared}
/-- a(e), in the def that got the lambda as a -/
theorem pe_act1 {CXg : CXT} {Eg : XK} {Ng : List Str} {qg : Str} {sg : Scope} {g f c' : Addr} {cdg pm ctv : Value} {q : Str} {params : Arguments} {body : Expr} {scope : Scope} {cl : List (Str × Addr)} {k i : Nat} {a p : Str} {pn : List (Addr × Obj)} {xe : Value → Shared → Prop} {W : WX} {tb : XK → TE} {te : TE} {e : Expr} {p1 p2 : Pos} {N fr : List Str} {ws : List (Option V)}
    (S : NScope N [p] fr scope) (C : CellsAt cl fr ws s.heap H) (hf : s.heap.get? f = some (PySem.W.kla_obj "<lambda>" q params body scope cl pm c' ctv)) (hfn : H f = none) (hfr : f ∉ frs X.stack)
    (hbind : ∀ u, bindArgs (PySem.W.kla_fn "<lambda>" q params body scope cl pm (.ref c') ctv) ⟨[u], []⟩ = pure [(p, u)])
    (tk : Takes ((cxOf CXg X.prog X.w X.K X.mg X.base Ng qg sg g cdg X.A X.stack s H Eg).tr pn xe) W) (hr : Room (k + 1) (X.A.deeper (envOfC qg sg s.heap.objs.size g cdg)))
    (hbody : ∀ (A : Around) (outer : List PySem.Env) (s : Shared) (H : Hp) (E : XK), Room k (A.deeper (envF (lamF q params scope cl c') f s.heap.objs.size)) → PE (ncx (L2.CX X.prog X.w) X.prog X.w X.K X.mg X.base N (lamF q params scope cl c') f A outer s H E) body (tb E))
    (ha : PE ((cxOf CXg X.prog X.w X.K X.mg X.base Ng qg sg g cdg X.A X.stack s H Eg).tr pn xe) e te) (he : ∀ env, starEach [e] env = (false, eval e env) :: starEach [] env)
    (hN : Ng[i]? = some a) (hv : Vis sg a) (hd : (a == ("__debug__" : Str)) = false := by decide) (hcd : (a == ("__classdict__" : Str)) = false := by decide) :
    PE ((cxOf CXg X.prog X.w X.K X.mg X.base Ng qg sg g cdg X.A X.stack s H Eg).tr pn xe) (.Call (.Name a p1) [e] [] p2)
      (fun σZ HZ Q => σZ[i]? = some (some (.ref f)) ∧ te σZ HZ fun v H1 => H1 c' = some (CodeO c' q) ∧ tb (fun cls d H' => W cls d σZ H') (startF N [v] ws) H1 Q) := by
  refine ⟨fun pinsZ sZ σZ HZ Q IZ h => ?_⟩
  obtain ⟨hs, ht⟩ := h
  refine wpAny_Call_Name_kw (thn ((pe_var (pos := p1) (i := i) hN hv hd hcd).run pinsZ sZ σZ HZ (fun v H1 => v = .ref f ∧ H1 = HZ) IZ ⟨.ref f, hs, rfl, rfl⟩) fun u s1 ⟨v, H1, I1, r1, q1⟩ => ?_)
  obtain ⟨ev, eH⟩ := q1
  subst ev
  rw [eH] at I1
  obtain rfl : u = Value.ref f := r1
  have of1 : s1.heap.get? f = some (PySem.W.kla_obj "<lambda>" q params body scope cl pm c' ctv) := I1.base.keep f _ hf hfn hfr (fun z => nomatch (show f ∈ ([] : List Addr) from z))
  refine PySem.W.callWith_F (first := []) ⟨_, _, _, _, of1⟩ (thn ((pa_cons ha pa_nil (he _)).run p2 pinsZ s1 σZ HZ (fun vs H' => ∃ v, vs = [v] ∧ H' c' = some (CodeO c' q) ∧ tb (fun cls d H' => W cls d σZ H') (startF N [v] ws) H' Q) I1 ?_) fun us s2 ⟨vs, H2, I2, r, q2⟩ => ?_) (he _) (by rfl)
  · show te σZ HZ fun v H1 => _
    have : (fun v H1 => H1 c' = some (CodeO c' q) ∧ tb (fun cls d H' => W cls d σZ H') (startF N [v] ws) H1 Q) = (fun v H1 => ∃ v', [v] = [v'] ∧ H1 c' = some (CodeO c' q) ∧ tb (fun cls d H' => W cls d σZ H') (startF N [v'] ws) H1 Q) := by
      funext v H1
      refine propext ⟨fun h => ⟨v, rfl, h⟩, fun ⟨v', e, h⟩ => ?_⟩
      cases e
      exact h
    rw [this] at ht
    exact ht
  obtain ⟨v, ev, hc, hb⟩ := q2
  subst ev
  have of2 : s2.heap.get? f = some (PySem.W.kla_obj "<lambda>" q params body scope cl pm c' ctv) := I2.base.keep f _ hf hfn hfr (fun z => nomatch (show f ∈ ([] : List Addr) from z))
  refine ⟨⟨_, _, _, _, of2⟩, ?_⟩
  show wpAny _ _ (call (.ref f) us) _ _ _
  have un : Un (frs X.stack) [] H H2 s.heap s2.heap := I2.base
  obtain ⟨u0, eu⟩ := vals_one r
  subst eu
  have rc : codeAny (model X.prog X.w) (X.A.deeper (envOfC qg sg s.heap.objs.size g cdg)) (.call (.ref f) ⟨[u0], []⟩) (CR (L2.CX X.prog X.w) (envOfC qg sg s.heap.objs.size g cdg :: X.stack) X.prog X.w H2 s2 Q (fun cls d H' => W cls d σZ H')) s2 :=
    lam_run (k := k) S (hbind u0) hr I2.env0 of2 hc (cells_later C un) r rfl (fun hr2 => hbody _ _ _ _ _ hr2) hb
  refine wpAny_call (codeAny_mono rc fun r s' hq => ?_)
  cases r with
  | error e => exact tk e s' (XE.of_call I2 (fun cls d H' h => h) hq)
  | ok fl =>
    cases fl with
    | ret u => exact I2.after hq
    | next => exact False.elim hq
    | brk => exact False.elim hq
    | cont => exact False.elim hq
end
/-- the def g (two parameters, the second is called): TT is what it makes of the lambda's reading -/
def GivesTo1 (X : Cx) (k : Nat) (Ng : List Str) (x : Str) (sg : Scope) (g : Addr) (cdg : Value) (bg : List Stmt) (a : Str) (q : Str) (TT : (XK → V → Hp → VK → Prop) → V → Hp → VK → Prop) : Prop :=
  ∀ (f c' : Addr) (s : Shared) (H : Hp) (v0 : V) (Q : VK) (tl : XK → V → Hp → VK → Prop), Room k (X.A.deeper (envOfC x sg s.heap.objs.size g cdg)) →
    (∀ (W : WX) (pn : List (Addr × Obj)) (xe : Value → Shared → Prop) (e : Expr) (te : TE) (p1 p2 : Pos), Takes ((cxOf C8.CX0 X.prog X.w X.K X.mg X.base Ng x sg g cdg X.A X.stack s H C8.E0).tr pn xe) W →
      PE ((cxOf C8.CX0 X.prog X.w X.K X.mg X.base Ng x sg g cdg X.A X.stack s H C8.E0).tr pn xe) e te → (∀ env, starEach [e] env = (false, eval e env) :: starEach [] env) →
      PE ((cxOf C8.CX0 X.prog X.w X.K X.mg X.base Ng x sg g cdg X.A X.stack s H C8.E0).tr pn xe) (.Call (.Name a p1) [e] [] p2) (fun σZ HZ Q => σZ[1]? = some (some (.ref f)) ∧ te σZ HZ fun v H1 => H1 c' = some (CodeO c' q) ∧ tl (fun cls d H' => W cls d σZ H') v H1 Q)) →
    H c' = some (CodeO c' q) → TT tl v0 H Q →
    ∃ t, PSs (cxOf C8.CX0 X.prog X.w X.K X.mg X.base Ng x sg g cdg X.A X.stack s H C8.E0).nox bg t ∧ t { nx := fun _ H' => Q .non H', rt := Q } (L2.start Ng [v0, .ref f]) H
def tLam1 (T : List (Addr × Str)) (TT : (XK → V → Hp → VK → Prop) → V → Hp → VK → Prop) (t0 : TE) (t : XK → L2.St → V → Hp → VK → Prop) : TE := fun σ H Q => t0 σ H fun v0 H0 => Tabs T H0 ∧ ∀ H1, ExtN H0 H1 → Tabs T H1 → TT (fun E v H' Q' => t E σ v H' Q') v0 H1 Q
section
variable {X : Cx}
/-- x(e, lambda p: body) -/
theorem pe_lamcall1 {T : List (Addr × Str)} {TT : (XK → V → Hp → VK → Prop) → V → Hp → VK → Prop} {x a a0 p : Str} {g c P : Addr} {k : Nat} {pg : Arguments} {bg : List Stmt} {sg : Scope} {dV kV doc pm cdv ct oc : Value} {an od : Option Addr} {osl : Array (Option Value)} {Ng N fr : List Str} {js : List Nat}
    {params : Arguments} {body e : Expr} {scope : Scope} {t : XK → TE} {t0 : TE} {pp lpos pos : Pos} (hg : Gl X x) (hm : X.mg x = some (.ref g)) (hk : PySem.W.keepIn X.K (.ref g) = true)
    (lk : X.K.lookup g = some ⟨oc, od, .func (PySem.W.fnOf x x pg bg sg dV kV doc pm an cdv ct), osl⟩) (hcg : PySem.W.codeIn X.K cdv x = true) (hb : L2.Binds X.K (PySem.W.fnOf x x pg bg sg dV kV doc pm an cdv ct) [a0, a] []) (Sg : FnScope Ng [a0, a] sg) (hNg : Ng[1]? = some a) (hva : Vis sg a)
    (hG : GivesTo1 X (k + 1) Ng x sg g cdv bg a (X.env.qual ++ "<lambda>") TT)
    (TB : TabB X.base X.mg c P) (hcode : X.env.code = .ref c) (hmT : (P, X.env.qual ++ "<lambda>") ∈ T) (hu : ∀ p ∈ T, p.1 = P → p.2 = X.env.qual ++ "<lambda>") (hr : Room (k + 2) X.A) (S : NScope N [p] fr scope)
    (hfree : ∀ y ∈ scope.names, y.2 = .free → X.env.scope.names.lookup y.1 = some .cell ∨ X.env.scope.names.lookup y.1 = some .free) (hfr : ∀ y ∈ fr, (y, NameKind.free) ∈ scope.names) (hjs : js.map (fun j => X.N[j]?) = fr.map some)
    (hdef : defaultsOf params X.env = ([], []))
    (hbind : ∀ (q : Str) (cl : List (Str × Addr)) (pm cv ctv u : Value), bindArgs (PySem.W.kla_fn "<lambda>" q params body scope cl pm cv ctv) ⟨[u], []⟩ = pure [(p, u)])
    (hbody : ∀ (A : Around) (outer : List PySem.Env) (s : Shared) (H : Hp) (E : XK) (f c' : Addr), Room k (A.deeper (envF (lamF (X.env.qual ++ "<lambda>") params scope (cloFrom X.env.cells scope.names []) c') f s.heap.objs.size)) →
      PE (ncx (L2.CX X.prog X.w) X.prog X.w X.K X.mg X.base N (lamF (X.env.qual ++ "<lambda>") params scope (cloFrom X.env.cells scope.names []) c') f A outer s H E) body (t E))
    (he : PE X e t0) (hse : ∀ env, starEach [e, .Lambda params body scope lpos] env = (false, eval e env) :: starEach [.Lambda params body scope lpos] env)
    (hdb : (x == ("__debug__" : Str)) = false := by decide) (hd : (a == ("__debug__" : Str)) = false := by decide) (hcd : (a == ("__classdict__" : Str)) = false := by decide) :
    PE X (.Call (.Name x pp) [e, .Lambda params body scope lpos] [] pos) (tLam1 T TT t0 fun E σ v H Q => t E (startF N [v] (js.map (slotAt σ))) H Q) := by
  refine ⟨fun pins s σ H Q I h => ?_⟩
  refine wpAny_Call_Name_kw (ld_glob I hg hm ?_ hdb)
  refine PySem.W.callWith_K (h₀ := X.base) I.ok.mod.kin hk ?_ (hse _) (by rfl)
  rw [hse]
  show wpAny _ _ (spliced ((false, eval e X.env) :: (false, eval (.Lambda params body scope lpos) X.env) :: backTo pos (starEach [] X.env))) _ _ s
  refine Calls.spliced_cons (thn (he.run pins s σ H _ I h) fun u0 s0 ⟨v0, H0, I0, r0, q0⟩ => ?_)
  obtain ⟨hT, h⟩ := q0
  have hfr2 : ∀ y ∈ scope.names, y.2 = .free → ∃ c, X.env.cells.lookup y.1 = some c := fun y hy e => (hfree y hy e).elim (fun z => I0.ok.has _ (.inl z)) fun z => I0.ok.has _ (.inr z)
  refine Calls.spliced_cons (lam_make2 I0 TB hcode hmT hu hT hdef hfr2 fun f c' pm' ctv H1 s' I1 eN T1 hf hfn hfr' hco => ?_)
  refine Calls.spliced_nil ⟨I1.kIn, ?_⟩
  have cp := cells_of I1 (Caps.made I1.ok hfree hfr hjs)
  have rc : codeAny (model X.prog X.w) X.A (.call (.ref g) ⟨[u0, .ref f], []⟩) (CR C8.CX0 X.stack X.prog X.w H1 s' Q C8.E0) s' := by
    refine run_ofS (N := Ng) (ps := [a0, a]) (us := [u0, .ref f]) (vs := [v0, .ref f]) lk hcg Sg hr I1.env0 (hb s' [u0, .ref f] I1.kIn rfl) (.cons r0 (.cons rfl .nil)) rfl fun hr' => ?_
    obtain ⟨t', ht', hq'⟩ := hG f c' s' H1 v0 Q (fun E v H' Q' => t E (startF N [v] (js.map (slotAt σ))) H' Q') hr' (fun W pn xe e te p1 p2 tk ha he => pe_act1 (i := 1) S cp hf hfn hfr' (hbind _ _ _ _ _) tk hr' (fun A outer s H E hr2 => hbody A outer s H E f c' hr2) ha he hNg hva hd hcd) hco (h H1 eN T1)
    exact ⟨t', ht'.nox, hq'⟩
  refine wpAny_call (codeAny_mono rc fun r s2 hq => ?_)
  cases r with
  | error e => exact (show False from hq).elim
  | ok fl =>
    cases fl with
    | ret u => exact I1.after hq
    | next => exact False.elim hq
    | brk => exact False.elim hq
    | cont => exact False.elim hq
end
end KX

set_option maxRecDepth 100000
set_option maxHeartbeats 1000000
namespace KX
open PySem PySem.Spec PyProof.Rows L2 LamX
/-! ### the law's call where defs make lambdas, and repr shows data -/
theorem lawGT {P : Program} {w : World} {K : PySem.W.Frag} {mg mb : Str → Option Value} {k : Nat} {fa a : Addr} {cs : List (Addr × Addr)} {fd : FuncData} {x : Str} {sp : Sp} {s1 : Shared} {vs : List Value} {ns : List Int}
    (KX : K.In s1.heap) (hns : s1.heap.Ns mainGlobals mg) (hb : s1.heap.Ns builtinsNs mb) (hbb : ∀ x : Str, x ≠ "__name__" → mb x = bootBuiltins x) (hlim : s1.heap.NoLimit) (hg : s1.gens = #[])
    (hT : ∀ p ∈ cs, s1.heap.get? p.2 = some { cls := .none, data := .fields #[] }) (nT : ∀ p ∈ cs, K.lookup p.2 = none) (C : ∀ p ∈ cs, PySem.W.CodeHd s1.heap p.1 p.2)
    (hbm : ∃ (bm : Addr) (ob : Obj), mg "__builtins__" = some (.ref bm) ∧ bm ≠ builtinsNs ∧ s1.heap.get? bm = some ob ∧ ob.cls = .type "module" ∧ ob.dict = some builtinsNs ∧ ob.data = .plain)
    (ha : s1.heap.get? a = some { cls := .type "list", data := .seq vs.toArray }) (hi : IntsAre vs ns) (hl : ns.length ≤ sizeLine) (hr : Room k callerA)
    (F : ∀ base : Heap, K.In base → base.Ns mainGlobals mg → (∀ p ∈ cs, TabB base mg p.1 p.2) → FnG P w K mg base CX0 k fa fd [x] sp) (hbind : ∀ (s : Shared) (u : Value), BindsTo s fd ⟨[u], []⟩ [(x, u)])
    (hsp : ∀ H : Hp, (∀ p ∈ cs, H p.2 = some (.tbl #[])) → SqL K H a (ns.map V.int) → sp [.ref a] H (fun v _ => v = .bl true) fun _ _ _ => False) :
    codeAny (model P w) callerA (.call (.ref fa) ⟨[.ref a], []⟩) (fun r s' => r = .ok (.ret (.bool true)) ∧ OldK s1.heap s'.heap ∧ s'.os = s1.os ∧ AllBare s'.gens) s1 := by
  have rv := vals_ints hi
  have lenV := hi.length
  have neA : ∀ p ∈ cs, p.2 ≠ a := fun p hp z => by
    have e := hT p hp
    rw [z, ha] at e
    cases e
  have main : ∀ H : Hp, (∀ b o, H b = some o → (b = a ∧ K.lookup a = none ∧ o = .frz { cls := .type "list", data := .seq vs.toArray } (.lst (ns.map V.int))) ∨ ∃ p ∈ cs, b = p.2 ∧ o = .tbl #[]) → (∀ p ∈ cs, H p.2 = some (.tbl #[])) → SqL K H a (ns.map V.int) →
      codeAny (model P w) callerA (.call (.ref fa) ⟨[.ref a], []⟩) (fun r s' => r = .ok (.ret (.bool true)) ∧ OldK s1.heap s'.heap ∧ s'.os = s1.os ∧ AllBare s'.gens) s1 := by
    intro H hO hH hS
    have hok : HOk P w H s1.heap := fun b o e => by
      rcases hO b o e with ⟨e1, _, e2⟩ | ⟨p, hp, e1, e2⟩
      · subst e1 e2
        exact ⟨ha, by rw [List.length_map]; exact hl, vs, _, rv, ha⟩
      · subst e1 e2
        exact hT p hp
    have none_of : ∀ {b : Addr} {o : Obj}, s1.heap.get? b = some o → (∀ vs n, o.data ≠ .seq vs n) → o.data ≠ .fields #[] → H b = none := fun {b o} e n1 n2 => by
      cases q : H b with
      | none => rfl
      | some u =>
        rcases hO b u q with ⟨e1, _, _⟩ | ⟨p, hp, e1, _⟩
        · rw [e1, ha] at e
          cases e
          exact (n1 _ _ rfl).elim
        · rw [e1, hT p hp] at e
          cases e
          exact (n2 rfl).elim
    have keep : ∀ {b : Addr} {o : Obj}, s1.heap.get? b = some o → (∀ vs n, o.data ≠ .seq vs n) → o.data ≠ .fields #[] → (hidT s1.heap H).get? b = some o := fun e n1 n2 => hidT_get e (none_of e n1 n2)
    have nsK : ∀ {b : Addr} {m : Str → Option Value}, s1.heap.Ns b m → (hidT s1.heap H).Ns b m := fun {b m} hn => by
      obtain ⟨o, es, ep, e, d, r⟩ := hn
      exact ⟨o, es, ep, keep e (fun vs n z => by rw [d] at z; cases z) (fun z => by rw [d] at z; cases z), d, r⟩
    have hKb : K.In (hidT s1.heap H) := fun b o e => hidT_get (KX b o e) (by
      cases q : H b with
      | none => rfl
      | some u =>
        rcases hO b u q with ⟨e1, e2, _⟩ | ⟨p, hp, e1, _⟩
        · rw [e1, e2] at e
          cases e
        · rw [e1, nT p hp] at e
          cases e)
    have hM : Mod K mg (hidT s1.heap H) := ⟨hKb, nsK hns, ⟨mb, nsK hb, hbb⟩, let ⟨mc, h1, h2⟩ := hlim; ⟨mc, nsK h1, h2⟩⟩
    have e0 : Env0 P w K mg (hidT s1.heap H) callerA [] s1 H := ⟨rfl, hM, fun b o e => of_hidT e, Nat.le_of_eq (hidT_size _ _), trivial, fun b hb => absurd (show b ∈ ([] : List Addr) from hb) (by simp), hok, .of_eq hg⟩
    have TB : ∀ p ∈ cs, TabB (hidT s1.heap H) mg p.1 p.2 := fun p hp => by
      refine ⟨?_, ?_, fun z => ?_⟩
      · obtain ⟨o, us, file, tf, flags, tg, inF, text, tt, e1, r1, r2, r3, rest⟩ := C p hp
        refine ⟨o, us, file, tf, flags, tg, inF, text, tt, keep e1 (fun vs n z => by rw [r2] at z; cases z) (fun z => ?_), r1, r2, r3, rest⟩
        rw [r2] at z
        cases z
        simp at r3
      · obtain ⟨bm, ob, b1, b2, b3, b4, b5, b6⟩ := hbm
        have n1 : ∀ vs n, ob.data ≠ .seq vs n := fun vs n z => by rw [b6] at z; cases z
        have n2 : ob.data ≠ .fields #[] := fun z => by rw [b6] at z; cases z
        refine ⟨bm, ob, b1, b2, fun q => ?_, fun q => ?_, keep b3 n1 n2, b4, b5, b6⟩
        · obtain ⟨o, es, ep, e, hd, _⟩ := hns
          rw [q, e] at b3
          cases b3
          rw [hd] at b6
          cases b6
        · rw [q, hT p hp] at b3
          cases b3
          cases b6
      · obtain ⟨o, es, ep, e, hd, _⟩ := hns
        rw [z, hT p hp] at e
        cases e
        cases hd
    refine codeAny_mono ((F _ hKb (nsK hns) TB).run callerA [] s1 H ⟨[.ref a], []⟩ [.ref a] [.ref a] _ _ rfl hr e0 (hbind s1 (.ref a)) (.cons rfl .nil) (hsp H hH hS)) fun r s' h => ?_
    match r, h with
    | .error e, h => exact h.elim
    | .ok (.ret u), h =>
      obtain ⟨v, H', os, bare, un, hok', r', q⟩ := h
      have q' : v = .bl true := q
      subst q'
      obtain rfl : u = Value.bool true := r'
      have key : ∀ b o, (∀ p ∈ cs, b ≠ p.2) → s1.heap.get? b = some o → s'.heap.get? b = some o := fun b o nb e => by
        cases q : H b with
        | none => exact un.keep b o e q (fun z => absurd (show b ∈ ([] : List Addr) from z) (by simp)) (by simp)
        | some u =>
          rcases hO b u q with ⟨e1, _, e2⟩ | ⟨p, hp, e1, _⟩
          · rw [e2] at q
            obtain ⟨f1, _⟩ := hok b _ q
            obtain ⟨f2, _⟩ := hok' b _ (un.frzs b _ _ q)
            rw [e] at f1
            cases f1
            exact f2
          · exact (nb p hp e1).elim
      have grown : ∀ p ∈ cs, ∃ more : Array Value, s'.heap.get? p.2 = some { cls := .none, data := .fields more } := fun p hp => by
        obtain ⟨more, z⟩ := un.tbls p.2 #[] (hH p hp)
        exact ⟨_, hok' p.2 _ z⟩
      refine ⟨rfl, ⟨fun b o e => ?_, fun b o e => ?_⟩, os, bare⟩
      · by_cases hb : ∃ p ∈ cs, b = p.2
        · obtain ⟨p, hp, ep⟩ := hb
          obtain ⟨more, hm⟩ := grown p hp
          rw [ep] at e ⊢
          rw [hT p hp] at e
          cases e
          exact .inr (.inl ⟨((C p hp).tab (hT p hp)).isCodeTable, rfl, #[], more, rfl, by rw [Array.empty_append]; exact hm⟩)
        · exact .inl (key b o (fun p hp z => hb ⟨p, hp, z⟩) e)
      · by_cases hb : ∃ p ∈ cs, b = p.2
        · obtain ⟨p, hp, ep⟩ := hb
          obtain ⟨more, hm⟩ := grown p hp
          rw [ep]
          exact ⟨_, hm⟩
        · exact ⟨o, key b o (fun p hp z => hb ⟨p, hp, z⟩) e⟩
  cases hk : K.lookup a with
  | some o =>
    have e := KX a o hk
    rw [ha] at e
    cases e
    refine main (fun b => if ∃ p ∈ cs, b = p.2 then some (.tbl #[]) else none) (fun b u z => ?_) (fun p hp => if_pos ⟨p, hp, rfl⟩) (.inr ⟨_, vs.toArray, _, hk, rfl, rfl, rfl, by rw [List.size_toArray, lenV]; exact hl, by simpa using rv⟩)
    by_cases hb : ∃ p ∈ cs, b = p.2
    · have z' := (if_pos hb).symm.trans z
      cases z'
      obtain ⟨p, hp, e⟩ := hb
      exact .inr ⟨p, hp, e, rfl⟩
    · have z' := (if_neg hb).symm.trans z
      cases z'
  | none =>
    refine main (fun b => if b = a then some (.frz { cls := .type "list", data := .seq vs.toArray } (.lst (ns.map V.int))) else if ∃ p ∈ cs, b = p.2 then some (.tbl #[]) else none) (fun b u z => ?_) (fun p hp => (if_neg (neA p hp)).trans (if_pos ⟨p, hp, rfl⟩)) (.inl (.inr ⟨_, if_pos rfl⟩))
    by_cases hb : b = a
    · have z' := (if_pos hb).symm.trans z
      cases z'
      exact .inl ⟨hb, hk, rfl⟩
    · have z1 := (if_neg hb).symm.trans z
      by_cases hb2 : ∃ p ∈ cs, b = p.2
      · have z' := (if_pos hb2).symm.trans z1
        cases z'
        obtain ⟨p, hp, e⟩ := hb2
        exact .inr ⟨p, hp, e, rfl⟩
      · have z' := (if_neg hb2).symm.trans z1
        cases z'
/-- the table of the def that stands at f is empty -/
def EmptyTab (K : PySem.W.Frag) (f : Addr) (h : Heap) : Prop := OwnTab K f h
theorem walkGT {l : PySem.W.OpenLaw} {n k : Nat} {q : Program} {loose : List Str} {XP : (Str → Option Value) → Heap → Prop} {YP : World → Heap → Prop} {d : DefRec} {K : Params → PySem.W.Frag} {x : Str}
    (hn : l.most = some n) (hn2 : n ≤ sizeLine) (hdf : d.params.defaults = []) (hr : Room k callerA) (hY : ∀ (w : World) (h : Heap), YP w h → (K w.params).In h)
    (F : ∀ (w : World) (mg : Str → Option Value) (fa : Addr) (h : Heap), (K w.params).In h → h.Ns mainGlobals mg → mg d.name = some (.ref fa) → (∀ y : Str, ((recsOf q).any fun e => e.name == y) = true → ∀ f : Addr, mg y = some (.ref f) → OwnTab (K w.params) f h) →
      ∃ (fd : FuncData) (cs : List (Addr × Addr)) (sp : Sp), (∀ p ∈ cs, h.get? p.2 = some { cls := .none, data := .fields #[] }) ∧ (∀ p ∈ cs, (K w.params).lookup p.2 = none) ∧ (∀ p ∈ cs, PySem.W.CodeHd h p.1 p.2) ∧ (∀ (s : Shared) (u : Value), BindsTo s fd ⟨[u], []⟩ [(x, u)]) ∧
        (∀ (H : Hp) (a : Addr) (ns : List Int), ns.length ≤ n → (∀ p ∈ cs, H p.2 = some (.tbl #[])) → SqL (K w.params) H a (ns.map V.int) → sp [.ref a] H (fun v _ => v = .bl true) fun _ _ _ => False) ∧
        ∀ base : Heap, (K w.params).In base → base.Ns mainGlobals mg → (∀ p ∈ cs, TabB base mg p.1 p.2) → FnG l.prog w (K w.params) mg base CX0 k fa fd [x] sp) :
    PySem.W.WalkO q loose XP YP l.row.toRowW d [] (fun f vs => PySem.call f vs) := by
  refine Att.attach_callB hn hdf fun w s₀ s₁ mg mb fa o pm cd doc a vs ns G Y ho hd hcd hmg hobj hints hlen hbits hg => ?_
  have KX := hY w _ Y
  have own : ∀ y : Str, ((recsOf q).any fun e => e.name == y) = true → ∀ f : Addr, mg y = some (.ref f) → OwnTab (K w.params) f s₁.heap := fun y hrec f hf c P o1 fd1 e dd vs1 sl k1 k2 k3 k4 k5 => by
    obtain ⟨dL, hm, hn1⟩ := List.any_eq_true.mp hrec
    have hn2 : dL.name = y := beq_iff_eq.mp hn1
    obtain ⟨a', o', fd', c', P', h1, h2, h3, h4, h5, h6⟩ := G.T.tab dL hm
    rw [hn2, hf] at h1
    cases h1
    have g1 := KX _ _ k1
    rw [g1] at h2
    cases h2
    rw [k2] at h3
    cases h3
    rw [k3] at h4
    cases h4
    obtain ⟨⟨oc, vc, e1, _, e3, e4⟩, hP⟩ := h6
    have g2 := KX _ _ k4
    rw [g2] at e1
    cases e1
    cases e3
    rw [k5] at e4
    cases e4
    exact hP
  obtain ⟨fd, cs, sp, hT, nT, C, hb, hsp, hF⟩ := F w mg fa _ KX G.T.g hmg own
  exact lawGT KX G.T.g G.T.b G.T.builtins G.T.nolimit hg hT nT C G.T.bmain hobj hints (Nat.le_trans hlen hn2) hr hF hb fun H hH hS => hsp H a ns hlen hH hS
end KX

set_option maxRecDepth 100000
set_option maxHeartbeats 1000000
namespace KX
open PySem PySem.Spec PyProof.Rows L2 LamX
/-! ### tables beside the stream; data where tables grow -/
theorem tabs_keep {l : Addr} {T : List (Addr × Str)} {H H' : Hp} (k : Keep l H H') (st : StO H l) (t : Tabs T H) : Tabs T H' := fun p hp => by
  obtain ⟨ps, h1, h2, h3⟩ := t p hp
  obtain ⟨x, y, z, el⟩ := st
  refine ⟨ps, k _ _ (fun e => ?_) h1, h2, fun pos cv hc => ?_⟩
  · rw [e, el] at h1
    cases h1
  · obtain ⟨c, e1, e2⟩ := h3 pos cv hc
    refine ⟨c, e1, k _ _ (fun e => ?_) e2⟩
    rw [e, el] at e2
    unfold CodeO at e2
    cases e2
/-- without the tables -/
def noT (H : Hp) : Hp := fun b => match H b with
  | some (.tbl _) => none
  | o => o
theorem noT_same {H : Hp} : Same (noT H) H := fun b o e => by
  unfold noT at e
  cases h : H b with
  | none => rw [h] at e; cases e
  | some u =>
    rw [h] at e
    cases u <;> first | exact e | cases e
theorem noT_at {H : Hp} {b : Addr} {o : HO} (h : H b = some o) (n : ∀ ps, o ≠ .tbl ps) : noT H b = some o := by
  unfold noT
  rw [h]
  cases o <;> first | rfl | exact (n _ rfl).elim
theorem noT_ext {H H' : Hp} (e : ExtN H H') : Same (noT H) (noT H') := fun b o h => by
  have n : ∀ ps, o ≠ .tbl ps := fun ps z => by
    subst z
    unfold noT at h
    cases q : H b with
    | none => rw [q] at h; cases h
    | some u =>
      rw [q] at h
      cases u <;> cases h
  exact noT_at (e b o (noT_same b o h) n) n
mutual
theorem Dx.noT {H : Hp} {v : V} {d : PyData} : Dx H v d → Dx (KX.noT H) v d
  | .non => .non
  | .bl b => .bl b
  | .int i => .int i
  | .str x => .str x
  | .tup e h => .tup (noT_at e fun _ z => by cases z) (Dxs.noT h)
  | .lst e n h => .lst (noT_at e fun _ z => by cases z) n (Dxs.noT h)
  | .dic e => .dic (noT_at e fun _ z => by cases z)
  | .dic1 e => .dic1 (noT_at e fun _ z => by cases z)
theorem Dxs.noT {H : Hp} {vs : List V} {ds : List PyData} : Dxs H vs ds → Dxs (KX.noT H) vs ds
  | .nil => .nil
  | .cons h hs => .cons (Dx.noT h) (Dxs.noT hs)
end
theorem Dx.ext {H H' : Hp} {v : V} {d : PyData} (h : Dx H v d) (e : ExtN H H') : Dx H' v d := (h.noT.up (noT_ext e)).up noT_same
theorem sto_ext {l : Addr} {H H' : Hp} (st : StO H l) (e : ExtN H H') : StO H' l := by
  obtain ⟨x, y, z, el⟩ := st
  exact ⟨x, y, z, e _ _ el fun ps q => by cases q⟩
theorem seq_ext {K : PySem.W.Frag} {H H' : Hp} {a : Addr} {xs : List V} (h : SqL K H a xs) (e : ExtN H H') : SqL K H' a xs := by
  rcases h with (h | ⟨o, h⟩) | h
  · exact .inl (.inl (e _ _ h fun ps q => by cases q))
  · exact .inl (.inr ⟨o, e _ _ h fun ps q => by cases q⟩)
  · exact .inr h
end KX

set_option maxRecDepth 100000
set_option maxHeartbeats 1000000
namespace KX
open PySem PySem.Spec PyProof.Rows L2 LamX
/-! ### a callee that doesn't get the list at p: it leaves it, and what it makes doesn't hold it -/
def frameL (sp : Sp) : Sp := fun vs H Q E => ∃ p xs, H p = some (.lst xs) ∧ sp vs (hid p H) (fun v H' => H' p = none → Q v (upd H' p (.lst xs))) E
section
variable {P : Program} {w : World} {K : PySem.W.Frag} {mg : Str → Option Value} {base : Heap} {k : Nat} {f : Addr} {fd : FuncData} {ps : List Str} {sp : Sp}
theorem hok_hid {H : Hp} {h : Heap} {p : Addr} {xs : List V} (ok : HOk P w H h) (e : H p = some (.lst xs)) : HOk P w (hid p H) h := fun b o q => by
  obtain ⟨n, q⟩ := hid_some q
  refine (ok b o q).stay (fun _ _ _ z => z) (fun c z => ?_) fun c ys z => ?_
  · rw [hid_at (fun y => by rw [y, e] at z; cases z)]
    exact z
  · rw [hid_at (fun y => by rw [y, e] at z; cases z)]
    exact z
theorem hok_back {H : Hp} {h : Heap} {p : Addr} {xs : List V} (ok : HOk P w H h) (n : H p = none) (x : ObjOk P w H h p (.lst xs)) : HOk P w (upd H p (.lst xs)) h := fun b o q => by
  by_cases hb : b = p
  · subst hb
    rw [upd_same] at q
    cases q
    exact x
  · rw [upd_ne hb] at q
    refine (ok b o q).stay (fun _ _ _ z => z) (fun c z => ?_) fun c ys z => ?_
    · rw [upd_ne (ne_of_none z n)]
      exact z
    · rw [upd_ne (ne_of_none z n)]
      exact z
theorem FnOk.frame (F : FnOk P w K mg base CX0 k f fd ps sp) : FnOk P w K mg base CX0 k f fd ps (frameL sp) := by
  refine ⟨fun vs H Q E h => ?_, fun A outer s H args us vs Q E hr e0 hb hv h => ?_⟩
  · obtain ⟨p, xs, _, h⟩ := h
    exact F.len _ _ _ _ h
  · obtain ⟨p, xs, e, h⟩ := h
    have nf : p ∉ frs outer := fun z => by
      rw [e0.frf p z] at e
      cases e
    have e1 : Env0 P w K mg base A outer s (hid p H) := ⟨e0.frames, e0.mod, fun b o z => ⟨(e0.bs b o z).1, by
      unfold hid
      split
      · rfl
      · exact (e0.bs b o z).2⟩, e0.bsz, e0.funs, fun b z => by
      unfold hid
      split
      · rfl
      · exact e0.frf b z, hok_hid e0.hok e, e0.bare⟩
    refine codeAny_mono (F.run A outer s (hid p H) args us vs _ E hr e1 hb hv h) fun r s' hq => ?_
    match r, hq with
    | .ok (.ret u), hq =>
      obtain ⟨v, H', os, bare, un, hok, r, q⟩ := hq
      have hn : hid p H p = none := if_pos rfl
      have x0 := e0.hok p _ e
      obtain ⟨ob, ho⟩ : ∃ ob, s.heap.get? p = some ob := by
        obtain ⟨_, its, n, _, z⟩ := x0
        exact ⟨_, z⟩
      have hp : H' p = none := un.free p ob ho hn (by simp)
      have kp := un.keep p ob ho hn nf (by simp)
      have x1 : ObjOk P w H' s'.heap p (.lst xs) := by
        obtain ⟨z, its, n, r, z2⟩ := x0
        rw [ho] at z2
        cases z2
        exact ⟨z, its, n, r, kp⟩
      have cs : ∀ {b : Addr} {o : HO}, H b = some o → (∀ ys, o ≠ .lst ys) → hid p H b = some o ∧ b ≠ p := fun {b o} z n => by
        have ne : b ≠ p := fun y => by
          rw [y, e] at z
          cases z
          exact n _ rfl
        exact ⟨by rw [hid_at ne]; exact z, ne⟩
      refine ⟨v, upd H' p (.lst xs), os, bare, ⟨fun b o z n => un.keep b o z (by unfold hid; split <;> first | rfl | exact n), fun b o z n => un.slot b o z (by unfold hid; split <;> first | rfl | exact n), fun b o z n nx => ?_, un.there, fun b ys z => ?_, fun b o u z => ?_, fun b us z => ?_⟩, hok_back hok hp x1, r, q hp⟩
      · have ne : b ≠ p := fun y => by
          rw [y, e] at n
          cases n
        rw [upd_ne ne]
        exact un.free b o z (by rw [hid_at ne]; exact n) nx
      · obtain ⟨c1, c2⟩ := cs z (fun _ y => by cases y)
        rw [upd_ne c2]
        exact un.tups b ys c1
      · obtain ⟨c1, c2⟩ := cs z (fun _ y => by cases y)
        rw [upd_ne c2]
        exact un.frzs b o u c1
      · obtain ⟨c1, c2⟩ := cs z (fun _ y => by cases y)
        rw [upd_ne c2]
        exact un.tbls b us c1
    | .error e, hq => exact (show False from hq).elim
end
/-- the values that a comprehension has made so far, beside the stream -/
theorem hid_comm {a b : Addr} {H : Hp} : hid a (hid b H) = hid b (hid a H) := by
  funext c
  unfold hid
  by_cases h1 : c = a <;> by_cases h2 : c = b <;> simp [h1, h2]
theorem hid_upd {p : Addr} {H : Hp} {o : HO} (n : H p = none) : hid p (upd H p o) = H := by
  funext c
  by_cases h : c = p
  · subst h
    unfold hid
    rw [if_pos rfl, n]
  · rw [hid_at h, upd_ne h]
/-- the law's call, the tables by what the top says -/
theorem walkGY {l : PySem.W.OpenLaw} {n k : Nat} {q : Program} {loose : List Str} {XP : (Str → Option Value) → Heap → Prop} {YP : World → Heap → Prop} {d : DefRec} {K : Params → PySem.W.Frag} {x : Str}
    (hn : l.most = some n) (hn2 : n ≤ sizeLine) (hdf : d.params.defaults = []) (hr : Room k callerA) (hY : ∀ (w : World) (h : Heap), YP w h → (K w.params).In h)
    (F : ∀ (w : World) (mg : Str → Option Value) (fa : Addr) (h : Heap), (K w.params).In h → h.Ns mainGlobals mg → mg d.name = some (.ref fa) → YP w h →
      ∃ (fd : FuncData) (cs : List (Addr × Addr)) (sp : Sp), (∀ p ∈ cs, h.get? p.2 = some { cls := .none, data := .fields #[] }) ∧ (∀ p ∈ cs, (K w.params).lookup p.2 = none) ∧ (∀ p ∈ cs, PySem.W.CodeHd h p.1 p.2) ∧ (∀ (s : Shared) (u : Value), BindsTo s fd ⟨[u], []⟩ [(x, u)]) ∧
        (∀ (H : Hp) (a : Addr) (ns : List Int), ns.length ≤ n → (∀ p ∈ cs, H p.2 = some (.tbl #[])) → SqL (K w.params) H a (ns.map V.int) → sp [.ref a] H (fun v _ => v = .bl true) fun _ _ _ => False) ∧
        ∀ base : Heap, (K w.params).In base → base.Ns mainGlobals mg → (∀ p ∈ cs, TabB base mg p.1 p.2) → FnG l.prog w (K w.params) mg base CX0 k fa fd [x] sp) :
    PySem.W.WalkO q loose XP YP l.row.toRowW d [] (fun f vs => PySem.call f vs) := by
  refine Att.attach_callB hn hdf fun w s₀ s₁ mg mb fa o pm cd doc a vs ns G Y ho hd hcd hmg hobj hints hlen hbits hg => ?_
  have KX := hY w _ Y
  obtain ⟨fd, cs, sp, hT, nT, C, hb, hsp, hF⟩ := F w mg fa _ KX G.T.g hmg Y
  exact lawGT KX G.T.g G.T.b G.T.builtins G.T.nolimit hg hT nT C G.T.bmain hobj hints (Nat.le_trans hlen hn2) hr hF hb fun H hH hS => hsp H a ns hlen hH hS
end KX

set_option maxRecDepth 100000
set_option maxHeartbeats 1000000
/-! any data against a text: ==, and in a tuple of texts -/
namespace KX
open PySem PySem.Spec PyProof.Rows L2
section
open MeetsSeq MeetsSeq2 MeetsSeq3 SeqRoads2 SeqAt
variable {A : Around} {s : Shared}
theorem rc_dict_str {l : Addr} {o : Obj} {es : Array DictEntry} {ep : Nat} (b : Str) (u : Tok) (ho : s.heap.get? l = some o) (hc : o.cls = .type "dict") (hd : o.data = .dict es ep) (hu : A.units < cLine) : SeqAt.RcAt A s (.ref l) (.str b u) false := fun prog w E Q h => by
  obtain ⟨cls, dd, data, sl⟩ := o
  simp only at hc hd
  subst hc hd
  exact rc_eq_decline_or (k := false) ⟨_, ho, rfl⟩ (typeIs_str s b u) (by decide) PySem.F.sub_str_dict PySem.F.slot_dict_eq PySem.F.slot_str_eq_refl
    (fun _ hq => call_meets PySem.F.slot_dict_eq ⟨_, ho, rfl⟩ PySem.F.entry_dict_eq (PySem.F.args_dict_eq_2 _ _) (dict_eq_declines_str b u l es ep dd sl) ⟨ho, hq⟩)
    (fun _ hq => call_meets PySem.F.slot_str_eq_refl (typeIs_str s b u) PySem.F.entry_str_eq (PySem.F.args_str_eq_2 _ _) (str_eq_declines_dict b u l es ep dd sl) ⟨ho, hq⟩)
    (fun _ hq => wpAny_of_eq (rfl : isSame (.ref l) (.str b u) = pure false) hq) (.inr hu) h
end
section
variable {X : Cx}
theorem dic_at {pins : List (Addr × Obj)} {σ : L2.St} {H : Hp} {s : Shared} {a : Addr} {kvs : List (Key × V)} (I : Inv X pins σ H s) (e : H a = some (.dK kvs)) : ∃ o es ep, s.heap.get? a = some o ∧ o.cls = .type "dict" ∧ o.data = .dict es ep := by
  obtain ⟨_, _, _, _, o, es, ep, e1, ex, ed, _⟩ := (show ObjOk X.prog X.w H s.heap a (.dK kvs) from I.hok a _ e)
  exact ⟨o, es, ep, e1, ex.1, ed⟩
/-- the data d is the text n -/
def isSt (n : Str) : PyData → Bool
  | .str m => decide (m = n)
  | _ => false
theorem isSt_is {n : Str} {d : PyData} (h : isSt n d = true) : d = .str n := by
  cases d with
  | str m => rw [of_decide_eq_true h]
  | _ => cases h
theorem rc_data_str {pins : List (Addr × Obj)} {σ : L2.St} {H : Hp} {s : Shared} {A : Around} {x : V} {d : PyData} {v : Value} {n : Str} {u : Tok} (I : Inv X pins σ H s) (hd : Dx H x d) (r : RelV x v) (hu : A.units < cLine) : SeqAt.RcAt A s v (.str n u) (isSt n d) := by
  cases hd with
  | non =>
    cases r
    exact SeqAt.RcAt.none_str n u
  | bl b =>
    cases r
    exact SeqAt.RcAt.bool_str b n u
  | int i =>
    obtain ⟨t, rfl⟩ := (show ∃ t, v = Value.int i t from r)
    exact SeqAt.RcAt.int_str i t n u
  | str y =>
    obtain ⟨t, rfl⟩ := (show ∃ t, v = Value.str y t from r)
    rw [show isSt n (.str y) = (y == n) by
      show decide (y = n) = (y == n)
      by_cases h : y = n
      · subst h; simp
      · rw [decide_eq_false h]; symm; simpa using h]
    exact SeqAt.RcAt.str_str y t n u
  | @tup a xs ds e h =>
    cases (show v = Value.ref a from r)
    obtain ⟨its, r1, p1, _⟩ := I.tuple (show SqT X.K H a xs from .inl (.inl e))
    exact SeqAt.RcAt.tuple_str n u p1 hu
  | @lst a xs ds e _ h =>
    cases (show v = Value.ref a from r)
    obtain ⟨_, its, k, _, z⟩ := (show ObjOk X.prog X.w H s.heap a (.lst xs) from I.hok a _ e)
    exact SeqAt.RcAt.list_str n u ⟨_, z, rfl, _, rfl⟩ hu
  | @dic a e =>
    cases (show v = Value.ref a from r)
    obtain ⟨o, es, ep, h1, h2, h3⟩ := dic_at I e
    exact rc_dict_str n u h1 h2 h3 hu
  | @dic1 a _ _ e =>
    cases (show v = Value.ref a from r)
    obtain ⟨o, es, ep, h1, h2, h3⟩ := dic_at I e
    exact rc_dict_str n u h1 h2 h3 hu
theorem eq_str_data {pins : List (Addr × Obj)} {σ : L2.St} {H : Hp} {s : Shared} {A : Around} {x : V} {d : PyData} {v : Value} {n : Str} {u : Tok} (I : Inv X pins σ H s) (hd : Dx H x d) (r : RelV x v) (hu : A.units < cLine) : SeqAt.EqAt A s (.str n u) v (isSt n d) := by
  cases hd with
  | non =>
    cases r
    exact SeqAt.EqAt.str_none n u
  | bl b =>
    cases r
    exact SeqAt.EqAt.str_bool n u b
  | int i =>
    obtain ⟨t, rfl⟩ := (show ∃ t, v = Value.int i t from r)
    exact SeqAt.EqAt.str_int n u i t
  | str y =>
    obtain ⟨t, rfl⟩ := (show ∃ t, v = Value.str y t from r)
    rw [show isSt n (.str y) = (n == y) by
      show decide (y = n) = (n == y)
      by_cases h : y = n
      · subst h; simp
      · rw [decide_eq_false h]; symm; simpa using fun z : n = y => h z.symm]
    exact SeqAt.EqAt.str_str n u y t
  | @tup a xs ds e h =>
    cases (show v = Value.ref a from r)
    obtain ⟨its, r1, p1, _⟩ := I.tuple (show SqT X.K H a xs from .inl (.inl e))
    exact SeqAt.EqAt.str_tuple n u p1 hu
  | @lst a xs ds e _ h =>
    cases (show v = Value.ref a from r)
    obtain ⟨_, its, k, _, z⟩ := (show ObjOk X.prog X.w H s.heap a (.lst xs) from I.hok a _ e)
    exact SeqAt.EqAt.str_list n u ⟨_, z, rfl, _, rfl⟩ hu
  | @dic a e =>
    cases (show v = Value.ref a from r)
    obtain ⟨o, es, ep, h1, h2, h3⟩ := dic_at I e
    exact eq_str_dict n u h1 h2 h3 hu
  | @dic1 a _ _ e =>
    cases (show v = Value.ref a from r)
    obtain ⟨o, es, ep, h1, h2, h3⟩ := dic_at I e
    exact eq_str_dict n u h1 h2 h3 hu
/-- x == 'n', x any data -/
def rEqS : R2 := fun x y H Q => ∃ d n, Dx H x d ∧ y = .str n ∧ Q (.bl (isSt n d)) H
theorem op_eqS (hu : X.A.units < cLine) : OpR X (compareOp .Eq) rEqS := by
  intro pins s σ H x y v u Q I rx ry h
  obtain ⟨d, n, hd, rfl, q⟩ := h
  obtain ⟨t, rfl⟩ := (show ∃ t, u = Value.str n t from ry)
  exact rc_data_str I hd rx hu X.prog X.w X.xe _ ⟨.bl _, H, I, rfl, q⟩
/-- x in t, x not in t: t a tuple of texts, x any data -/
def rInA (K : PySem.W.Frag) (f : Bool → Bool) : R2 := fun x y H Q => ∃ (d : PyData) (t : Addr) (ns : List Str), Dx H x d ∧ y = .ref t ∧ SqT K H t (ns.map V.str) ∧ Q (.bl (f (ns.any fun n => isSt n d))) H
theorem vals_strs : ∀ (ns : List Str) (us : List Value), Vals (ns.map V.str) us → ∀ z ∈ us, ∃ n t, z = Value.str n t := fun ns => by
  induction ns with
  | nil => intro us r z hz; cases r; cases hz
  | cons n ns ih =>
    intro us r z hz
    cases r with
    | cons r1 r2 =>
      rcases List.mem_cons.mp hz with rfl | hz
      · obtain ⟨t, rfl⟩ := r1
        exact ⟨n, t, rfl⟩
      · exact ih _ r2 z hz
def isS (d : PyData) : Value → Bool
  | .str m _ => isSt m d
  | _ => false
theorem any_isS {d : PyData} : ∀ (ns : List Str) (us : List Value), Vals (ns.map V.str) us → us.any (isS d) = ns.any fun n => isSt n d := fun ns => by
  induction ns with
  | nil => intro us r; cases r; rfl
  | cons n ns ih =>
    intro us r
    cases r with
    | cons r1 r2 =>
      obtain ⟨t, rfl⟩ := r1
      rw [List.any_cons, List.any_cons, ih _ r2]
      rfl
theorem op_inA (hu : X.A.units + 64 < cLine) : OpR X (compareOp .In) (rInA X.K id) := by
  intro pins s σ H x y v u Q I rx ry h
  obtain ⟨d, t, ns, hd, rfl, ht, q⟩ := h
  cases ry
  obtain ⟨its, rv, ⟨o, ho, hc, n, hdat⟩, _⟩ := I.tuple ht
  refine SeqAt.in_tupleAt (e := isS d) (hl := ⟨o, ho, hc, n, hdat⟩) (he := fun y hy => ?_) (h := ?_)
  · obtain ⟨m, t, rfl⟩ := vals_strs ns its rv y (by simpa using hy)
    exact eq_str_data I hd rx (by have : X.A.units + 64 < cLine := hu; show X.A.in1.units < cLine; exact Nat.lt_of_le_of_lt (by show X.A.units + 1 ≤ X.A.units + 64; omega) this)
  · have e : its.toArray.any (isS d) = ns.any fun n => isSt n d := by
      rw [← Array.any_toList]
      exact any_isS ns its rv
    rw [e]
    exact ⟨.bl _, H, I, rfl, q⟩
theorem op_ninA (hu : X.A.units + 64 < cLine) : OpR X (compareOp .NotIn) (rInA X.K not) := by
  intro pins s σ H x y v u Q I rx ry h
  obtain ⟨d, t, ns, hd, rfl, ht, q⟩ := h
  cases ry
  obtain ⟨its, rv, ⟨o, ho, hc, n, hdat⟩, _⟩ := I.tuple ht
  refine SeqAt.notIn_tupleAt (e := isS d) (hl := ⟨o, ho, hc, n, hdat⟩) (he := fun y hy => ?_) (h := ?_)
  · obtain ⟨m, t, rfl⟩ := vals_strs ns its rv y (by simpa using hy)
    exact eq_str_data I hd rx (by have : X.A.units + 64 < cLine := hu; show X.A.in1.units < cLine; exact Nat.lt_of_le_of_lt (by show X.A.units + 1 ≤ X.A.units + 64; omega) this)
  · have e : its.toArray.any (isS d) = ns.any fun n => isSt n d := by
      rw [← Array.any_toList]
      exact any_isS ns its rv
    rw [e]
    exact ⟨.bl _, H, I, rfl, q⟩
/-- t == (), t any tuple -/
def rEq0 (K : PySem.W.Frag) : R2 := fun x y H Q => ∃ a b xs, x = .ref a ∧ y = .ref b ∧ SqT K H a xs ∧ SqT K H b [] ∧ Q (.bl xs.isEmpty) H
theorem op_eq0 (hu : X.A.units < cLine) : OpR X (compareOp .Eq) (rEq0 X.K) := by
  intro pins s σ H x y v u Q I rx ry h
  obtain ⟨a, b, xs, rfl, rfl, ha, hb, q⟩ := h
  cases rx
  cases ry
  obtain ⟨its, r1, p1, _⟩ := I.tuple ha
  obtain ⟨its2, r2, p2, _⟩ := I.tuple hb
  cases r2
  have e : ((List.range (min its.toArray.size ([] : List Value).toArray.size)).all (fun _ => true) && its.toArray.size == ([] : List Value).toArray.size) = xs.isEmpty := by
    have := r1.length
    cases xs with
    | nil =>
      cases its with
      | nil => rfl
      | cons _ _ => simp at this
    | cons _ _ =>
      cases its with
      | nil => simp at this
      | cons _ _ => simp
  refine SeqAt.RcAt.tuples (e := fun _ => true) p1 p2 hu (fun j h1 h2 => absurd h2 (by simp)) X.prog X.w X.xe (EP X pins σ Q) ?_
  rw [e]
  exact ⟨.bl _, H, I, rfl, q⟩
end
end KX

set_option maxRecDepth 100000
set_option maxHeartbeats 1000000
namespace KX
open PySem PySem.Spec PyProof.Rows L2 RZ
/-! ### [e for x, y in zip(s, t)], s and t tuples, t the shorter one -/
theorem lc_zipS {K : PySem.W.Frag} {a b : Addr} {xs ys : List V} {g : TG} {tt : TT} {te : TE} {vs : List Nat} {σ : L2.St} {H1 : Hp} {D : Addr} {Qd : Hp → Prop} (hl : ys.length ≤ xs.length) (Pv : Nat → Hp → Prop) (h0 : Pv 0 (upd H1 D (.lst [])))
    (hq : ∀ i G, i ≤ ys.length → Pv i G → SqT K G a xs ∧ SqT K G b ys)
    (hs : ∀ (i : Nat) (x y : V) (T : Addr) (G : Hp), xs[i]? = some x → ys[i]? = some y → Pv i G → G T = none → g (.ref T) (wipe σ vs) (upd G T (.tup [x, y])) fun σ2 H2 => wipe σ2 vs = wipe σ vs ∧ tt σ2 H2 fun b H3 =>
      if b = true then te σ2 H3 fun y H4 => ∃ zs, H4 D = some (.lst zs) ∧ zs.length < sizeLine ∧ Pv (i + 1) (upd H4 D (.lst (zs ++ [y]))) else Pv (i + 1) H3) (hd : ∀ G, Pv ys.length G → Qd G) :
    ∃ W : Nat → Nat → Hp → Prop, (∃ m, W 0 m (upd H1 D (.lst []))) ∧ ∀ i m H, W i m H → ((ItzT K a b).stop i H ∧ Qd H) ∨ ((ItzT K a b).go i H ∧ ∃ Nx : Hp → Prop, (∀ H', Nx H' → ∃ m', m' < m ∧ W (i + 1) m' H') ∧ ∀ x H', (ItzT K a b).yld i H x H' →
      g x (wipe σ vs) H' fun σ2 H2 => wipe σ2 vs = wipe σ vs ∧ tt σ2 H2 fun b H3 => if b = true then te σ2 H3 fun y H4 => ∃ zs, H4 D = some (.lst zs) ∧ zs.length < sizeLine ∧ Nx (upd H4 D (.lst (zs ++ [y]))) else Nx H3) := by
  refine ⟨fun i m G => m = ys.length - i ∧ i ≤ ys.length ∧ Pv i G, ⟨ys.length, by simp, Nat.zero_le _, h0⟩, fun i m G hw => ?_⟩
  obtain ⟨rfl, hi, p⟩ := hw
  obtain ⟨qx, qy⟩ := hq i G hi p
  by_cases lt : i < ys.length
  · refine .inr ⟨⟨xs, ys, xs[i]'(by omega), ys[i], qx, qy, List.getElem?_eq_getElem (by omega), List.getElem?_eq_getElem lt⟩, Pv (i + 1), fun G' p' => ⟨ys.length - (i + 1), by omega, rfl, lt, p'⟩, fun v G' r => ?_⟩
    obtain ⟨T, x, y, rfl, nT, rfl, e1, e2⟩ := r
    exact hs i x y T G (e1 xs qx) (e2 ys qy) p nT
  · have e : i = ys.length := by omega
    subst e
    exact .inl ⟨⟨xs, ys, qx, qy, .inr (Nat.le_refl _)⟩, hd G p⟩
/-! ### except clauses, with names and without -/
/-- a clause: its class, the slot of its name if it has one, its suite -/
structure Cls where
  c : Value
  i : Option Nat
  ts : Addr → Value → Option Addr → TS
def endsAt (D : Ends) : Option Nat → Ends
  | none => D
  | some i => { nx := fun σ' G => D.nx (σ'.set i none) G, rt := D.rt, bk := fun σ' G => D.bk (σ'.set i none) G, ct := fun σ' G => D.ct (σ'.set i none) G }
def slotIn (σ : L2.St) (a : Addr) : Option Nat → L2.St
  | none => σ
  | some i => σ.set i (some (.ref a))
def wMix (K : PySem.W.Frag) (Wo : WX) (D : Ends) : List Cls → WX
  | [] => Wo
  | q :: r => fun cls d σ G => ∃ b, PySem.W.exmOne K cls q.c = some b ∧ (b = true → ∀ a, G a = none → q.ts a cls d (endsAt D q.i) (slotIn σ a q.i) G) ∧ (b = false → wMix K Wo D r cls d σ G)
inductive MixOk (X : Cx) : List ExceptHandler → List Cls → Prop
  | nil : MixOk X [] []
  | plain {x : Str} {c : Value} {ts : Addr → Value → Option Addr → TS} {b0 : Stmt} {bs : List Stmt} {p1 p2 : Pos} {hds : List ExceptHandler} {l : List Cls} (hc : Names X x c)
      (hb : ∀ (a : Addr) (oe : Obj) (cls : Value) (d : Option Addr) (pn : List (Addr × Obj)), Zc cls d oe → (∃ vs, oe.data = .fields vs) → PSs (X.suite a ((a, oe) :: pn)) (b0 :: bs) (ts a cls d)) (r : MixOk X hds l) :
      MixOk X (.ExceptHandler (some (.Name x p1)) none (b0 :: bs) p2 :: hds) (⟨c, none, ts⟩ :: l)
  | named {x n : Str} {i : Nat} {c : Value} {ts : Addr → Value → Option Addr → TS} {b0 : Stmt} {bs : List Stmt} {p1 p2 : Pos} {hds : List ExceptHandler} {l : List Cls} (hi : X.N[i]? = some n) (hn : X.env.kindOf n = some .local) (hc : Names X x c)
      (hb : ∀ (a : Addr) (oe : Obj) (cls : Value) (d : Option Addr) (pn : List (Addr × Obj)), Zc cls d oe → (∃ vs, oe.data = .fields vs) → PSs (X.suite a ((a, oe) :: pn)) (b0 :: bs) (ts a cls d)) (r : MixOk X hds l) :
      MixOk X (.ExceptHandler (some (.Name x p1)) (some n) (b0 :: bs) p2 :: hds) (⟨c, some i, ts⟩ :: l)
section
variable {X : Cx} {body : List Stmt} {hd0 : ExceptHandler} {hds : List ExceptHandler} {l : List Cls} {pos : Pos} {tb : WX → TS} {Wo : WX}
theorem ps_try_mix (hs : X.stack = X.env :: X.outer) (hf : X.env.frame = some X.env.locals) (nd : X.N.Nodup) (tk : Takes X Wo)
    (hb : ∀ (W : WX) (pn : List (Addr × Obj)) (xe : Value → Shared → Prop), Takes (X.tr pn xe) W → PassesOwn (model X.prog X.w) X.A X.env xe → PSs (X.tr pn xe) body (tb W))
    (hh : MixOk X (hd0 :: hds) l) : PS X (.Try body (hd0 :: hds) [] [] pos) (fun D σ G => tb (wMix X.K Wo D l) D σ G) := by
  refine ⟨fun pins s σ G D I h => wpAny_Try_except ?_⟩
  have ok := I.ok
  have frm : X.A.frames = some (X.env :: X.outer) := ok.frames.trans (by rw [hs])
  refine wpAny_mono ((hb (wMix X.K Wo D l) (X.pn ++ pins) (fun e t1 => wpAny (model X.prog X.w) X.A (noteFrame e X.env) (fun _ t2 => wpAny (model X.prog X.w) X.A (setFlight e none) (fun _ t3 =>
    wpAny (model X.prog X.w) X.A (handleBy e X.env (hd0 :: hds)) (SP X pins D) X.xe t3) X.xe t2) X.xe t1) (fun u s1 caught => ?_) PassesOwn.looking).run [] s σ G D (I.toTry _) h) (fun fl s1 fin => ?_) (fun _ _ z => z)
  · obtain ⟨ea, B0, sI, pins1, σ1, G1, cls, d, rfl, IT, nb, up, sky, na, os, ag, wish⟩ := caught
    have I1 : Inv X pins σ1 G1 sI := IT.ofTry ok
    refine Sky.land Zc.steady frm hf (show Sky B0 (X.env :: X.outer) ea (Zc cls d) X.env.locals s1.heap by rw [← hs]; exact sky) fun h3 lands up3 => ?_
    have I3 : Inv X pins σ1 G1 { s1 with heap := h3 } := I1.landed nb lands.1 (up.trans up3) os ag
    obtain ⟨oe3, fv3, at3, z3, dat3⟩ := lands.there
    have off : ea ∉ frs (X.env :: X.outer) := fun hm => by
      obtain ⟨_, o1, e1, nf⟩ := lands.2.2.1.mem hm
      rw [at3] at e1
      cases e1
      exact nf _ dat3
    have offL : ea ≠ X.env.locals := fun z => off (List.mem_filterMap.mpr ⟨X.env, List.mem_cons_self, by rw [hf, z]⟩)
    have offF : ea ∉ X.fs := fun hm => by
      obtain ⟨en, hen, q⟩ := List.mem_filterMap.mp hm
      exact off (List.mem_filterMap.mpr ⟨en, List.mem_cons_of_mem _ hen, q⟩)
    have S3 := I3.suite at3 dat3 na offL offF
    have looks : PySem.W.Looks (model X.prog X.w) h3 (typeOf (.ref ea)) cls := fun A Q E t k q => wpAny_typeOf_ref (k _ _ at3) (by rw [z3.1]; exact q)
    have reads : ∀ {x : Str} {c : Value} {p1 : Pos} {Q : Value → Shared → Prop} {E : Value → Shared → Prop}, Names X x c → Q c { s1 with heap := h3 } → wpAny (model X.prog X.w) (X.A.mark (some (.ref ea))) (eval (.Name x p1) X.env) Q E { s1 with heap := h3 } := fun {x c p1 Q E} hc q => by
      obtain ⟨hg, hdb, hm | ⟨hm, hv, hnn⟩⟩ := hc
      · exact ld_glob (X := X.suite ea ((ea, oe3) :: (X.pn ++ pins))) S3 hg hm q hdb
      · exact ld_blt (X := X.suite ea ((ea, oe3) :: (X.pn ++ pins))) S3 hg hm hv q hnn hdb
    have each : ∀ {hl : List ExceptHandler} {cl : List Cls}, MixOk X hl cl → wMix X.K Wo D cl cls d σ1 G1 → wpAny (model X.prog X.w) X.A (handleBy (.ref ea) X.env hl) (SP X pins D) X.xe { s1 with heap := h3 } := by
      intro hl cl mk
      induction mk with
      | nil =>
        intro wo
        refine wpAny_handleBy_nil ?_
        obtain ⟨_, _, _, ox, fx, T, _, _, atx, _, datx, tl1, _⟩ := id lands
        unfold PySem.passOn
        refine wpAny_bind (wpAny_field atx datx tl1 ?_)
        rw [if_neg (by simp)]
        have out : wpAny (model X.prog X.w) X.A (setFlight (.ref ea) X.env.frame) (fun _ t4 => wpAny (model X.prog X.w) X.A (throw (.ref ea) : Sem Flow) (SP X pins D) X.xe t4) X.xe { s1 with heap := h3 } := by
          rw [hf]
          refine HandSPX.setFlight_upZ lands fun h4 hx4 up4 => wpAny_throw (tk _ _ ⟨ea, B0, sI, pins, σ1, G1, cls, d, rfl, I1, nb, (up.trans up3).trans up4, .inr (.inr (by rw [hs]; exact hx4)), na, os, ag, wo⟩)
        first | exact wpAny_bind (wpAny_pure (wpAny_bind out)) | exact wpAny_bind out
      | @plain x c ts b0 bs p1 p2 hds2 l2 hc hb r ih =>
        intro wq
        obtain ⟨b, e1, yes, no⟩ := wq
        refine wpAny_handleBy_cons (codeAny_handlers_test (reads hc ((PySem.W.exm_one (M := model X.prog X.w) I3.kIn looks e1).here ?_))) (by intro q; cases q)
        cases b with
        | false => exact ih (no rfl)
        | true =>
          refine codeAny_handlers_suite (HandSPX.lands_againZ lands fun h4 lands4 up4 => ?_)
          obtain ⟨oe4, fv4, at4, z4, dat4⟩ := lands4.there
          have I4 : Inv X pins σ1 G1 { s1 with heap := h4 } := I1.landed nb lands4.1 ((up.trans up3).trans up4) os ag
          refine wpAny_mono ((hb ea oe4 cls d (X.pn ++ pins) z4 ⟨_, dat4⟩).run [] _ _ G1 _ (I4.suite at4 dat4 na offL offF) (yes rfl ea na)) (fun fl t6 fin => ?_) (fun _ _ z => z.elim)
          cases fl with
          | ret u =>
            obtain ⟨v6, σ6, G6, S6, r6, q6⟩ := fin
            exact ⟨v6, σ6, G6, S6.unsuite ok, r6, q6⟩
          | _ =>
            obtain ⟨σ6, G6, S6, q6⟩ := fin
            exact ⟨σ6, G6, S6.unsuite ok, q6⟩
      | @named x n i c ts b0 bs p1 p2 hds2 l2 hi hn hc hb r ih =>
        intro wq
        obtain ⟨b, e1, yes, no⟩ := wq
        refine wpAny_handleBy_cons (codeAny_handlers_test (reads hc ((PySem.W.exm_one (M := model X.prog X.w) I3.kIn looks e1).here ?_))) (by intro q; cases q)
        cases b with
        | false => exact ih (no rfl)
        | true =>
          refine codeAny_handlers_suite_as (HandSPX.lands_againZ lands fun h4 lands4 up4 => ?_)
          obtain ⟨oe4, fv4, at4, z4, dat4⟩ := lands4.there
          have I4 : Inv X pins σ1 G1 { s1 with heap := h4 } := I1.landed nb lands4.1 ((up.trans up3).trans up4) os ag
          refine store_ok (X := X.suite ea ((ea, oe4) :: (X.pn ++ pins))) (v := .ref ea) (I4.suite at4 dat4 na offL offF) nd hi (.inl hn) rfl (fun t5 S5 => ?_) (.inr hn)
          refine wpAny_mono ((hb ea oe4 cls d (X.pn ++ pins) z4 ⟨_, dat4⟩).run [] t5 _ G1 _ S5 (yes rfl ea na)) (fun fl t6 fin => ?_) (fun _ _ z => z.elim)
          have gone : ∀ {σ6 : L2.St} {G6 : Hp} {R : Shared → Prop}, Inv (X.suite ea ((ea, oe4) :: (X.pn ++ pins))) [] σ6 G6 t6 → (∀ t7, Inv X pins (σ6.set i none) G6 t7 → R t7) →
              wpAny (model X.prog X.w) X.A (do bindName X.env n .none; unbindBehindTheSuite X.env n p2) (fun _ t7 => R t7) X.xe t6 := fun {σ6 G6 R} S6 k => gone_ok (S6.unsuite ok) nd hi hn k
          cases fl with
          | ret u =>
            obtain ⟨v6, σ6, G6, S6, r6, q6⟩ := fin
            exact gone S6 fun t7 I7 => ⟨v6, _, _, I7, r6, q6⟩
          | _ =>
            obtain ⟨σ6, G6, S6, q6⟩ := fin
            exact gone S6 fun t7 I7 => ⟨_, _, I7, q6⟩
    exact each hh wish
  · cases fl with
    | next =>
      obtain ⟨σ6, G6, I6, q6⟩ := fin
      exact wpAny_execs_nil ⟨σ6, G6, I6.ofTry ok, q6⟩
    | ret u =>
      obtain ⟨v6, σ6, G6, I6, r6, q6⟩ := fin
      exact ⟨v6, σ6, G6, I6.ofTry ok, r6, q6⟩
    | _ =>
      obtain ⟨σ6, G6, I6, q6⟩ := fin
      exact ⟨σ6, G6, I6.ofTry ok, q6⟩
end
end KX

set_option maxRecDepth 100000
set_option maxHeartbeats 1000000
/-! KeyError as a base of an own exception class: __new__ is LookupError's, __init__ its own -/
namespace KX
open PySem PySem.F PySem.Spec PyProof.Rows L2 HandSPX
def kyTl : List Value := [.type "KeyError", .type "LookupError", .type "Exception", .type "BaseException", .type "object"]
/-- what is known of the __init__ of a built-in exception class -/
structure IniB (B iniI : String) : Prop where
  slot : Slot B "__init__" iniI
  ent : entryFor table iniI = some Builtin.«BaseException.__init__»
  spl : splitId iniI = some (B, "__init__")
  knd : builtinKind iniI = some .slot
  row : Manifest.signature? iniI = some ⟨.positional, "*", B, .self, [⟨"args", .varPos, false⟩]⟩
theorem kyIni : IniB "KeyError" "KeyError.__init__" :=
  ⟨.of (owner := "KeyError") (n := "__init__") (by rw [typeLookup_type, builtinLookup_eq_fast]; kernel_rfl) (by decide +kernel) (by decide +kernel) (by decide +kernel) (by first | exact .inl (by decide +kernel) | exact .inr (by decide +kernel)) (by rw [isSubtype_type]; kernel_rfl),
   entryFor_alias (id' := "BaseException.__init__") (by rw [fastTable_eq_tree]; kernel_rfl) (by first | rfl | decide +kernel) (by decide +kernel) (by rw [fastTable_eq_tree]; kernel_rfl), by kernel_rfl, by kernel_rfl, by kernel_rfl⟩
theorem kyStore : StoreFacts "KeyError" kyTl "object.__setattr__" "object" := by
  have i := PySem.F.store_IndexError
  refine ⟨by kernel_rfl, ?_, i.entry, i.kind, i.split, by decide +kernel, i.args, fun z => by kernel_rfl⟩
  exact .of (owner := "object") (n := "__setattr__") (by rw [typeLookup_type, builtinLookup_eq_fast]; kernel_rfl) (by decide +kernel) (by decide +kernel) (by decide +kernel) (by first | exact .inl (by decide +kernel) | exact .inr (by decide +kernel)) (by rw [isSubtype_type]; kernel_rfl)
/-- of the class at C, whose tail is bm: the built-in class B makes it, D's __init__ fits it -/
structure Tl (B D : String) (bm : List Value) : Prop where
  b : bm.contains (.type B) = true
  d : bm.contains (.type D) = true
  a : bm.contains (.type "AttributeError") = false
  n : bm.contains (.type "NameError") = false
section
variable {M : Model} {prog : Program} {w : World} {A : Around} {E : Value → Shared → Prop} {R : Result → Shared → Prop} {hp : Heap} {g : Array GenState} {dr : Drawn} {tk : Nat} {os : OsState}
variable {nm q : Str} {C N : Addr} {bs bm bB : List Value} {hdct : Bool} {sn : List Str} {sub : List Value} {ab : Bool} {col : Option Bool} {dd : Option Addr} {k0 k1 k2 k3 k5 : Option Value} {B D newI oldI iniI : String} {rest : List Value}
theorem new_ok2 (L : ExcBaseFacts B newI oldI bB) (T : Tl B D bm) {Q : Unit → Shared → Prop} (at' : hp.get? C = some (excClassObj nm q C N bs bm hdct sn sub ab col dd k0 k1 k2 k3 k5 newI)) (k : Q () ⟨hp, g, dr, tk, os⟩) :
    wpAny M A (checkBuiltinCall newI ⟨.ref C :: rest, []⟩) Q E ⟨hp, g, dr, tk, os⟩ := by
  have inB : (Value.ref C :: bm).contains (.type B) = true := by rw [List.contains_cons, T.b, Bool.or_true]
  have star := L.noStar
  simp only [checkBuiltinCall, L.newKind, L.newSplit, L.newRow]
  repeat (first | refine wpAny_loadPart_at at' ?_ | (refine wpAny_isSubtype_exc at' ?_; rw [inB]) | refine wpAny_staticBase_exc at' ?_ | refine wpAny_madeBy_exc at' ?_ | simp only [bne_self_eq_false, Bool.false_eq_true, if_false] | wp_step)
  exact k
theorem ini_ok2 (J : IniB D iniI) (nst : (D != "*") = true) (T : Tl B D bm) {e : Addr} {oe : Obj} {Q : Unit → Shared → Prop} (at' : hp.get? C = some (excClassObj nm q C N bs bm hdct sn sub ab col dd k0 k1 k2 k3 k5 newI)) (ae : hp.get? e = some oe) (ce : oe.cls = .ref C) (k : Q () ⟨hp, g, dr, tk, os⟩) :
    wpAny M A (checkBuiltinCall iniI ⟨.ref e :: rest, []⟩) Q E ⟨hp, g, dr, tk, os⟩ := by
  have inD : (Value.ref C :: bm).contains (.type D) = true := by rw [List.contains_cons, T.d, Bool.or_true]
  simp only [checkBuiltinCall, J.knd, J.spl, J.row]
  repeat (first | (with_reducible refine wpAny_loadPart_at ae ?_; rw [ce]) | with_reducible refine wpAny_loadPart_at at' ?_ | (with_reducible refine wpAny_isSubtype_exc at' ?_; rw [inD]) | wp_step)
  refine wpAny_onRaise ?_
  rw [show ∀ (x y : String) (m : Nat), Bind.check ⟨.positional, "*", D, .self, [⟨"args", .varPos, false⟩]⟩ x y m (List.map (fun z => z.fst) ({ pos := Value.ref e :: rest } : Args).kw) = pure () from fun x y m => check_star_args _ _ _ _ _ _]
  exact wpAny_pure k
theorem made2 (L : ExcBaseFacts B newI oldI bB) (T : Tl B D bm) (at' : hp.get? C = some (excClassObj nm q C N bs bm hdct sn sub ab col dd k0 k1 k2 k3 k5 newI))
    (k : R (.ok (.ret (.ref (hp.objs.size + 1)))) ⟨(hp.push (W.kdv_tup rest)).push (excO C hp.objs.size), g, dr, tk, os⟩) (hl : rest.length ≤ sizeLine) : codeAny (model prog w) A (.builtin newI ⟨.ref C :: rest, []⟩) R ⟨hp, g, dr, tk, os⟩ := by
  have en := L.ends
  have inB : (Value.ref C :: bm).contains (.type B) = true := by rw [List.contains_cons, T.b, Bool.or_true]
  have noA : (Value.ref C :: bm).contains (.type "AttributeError") = false := by rw [List.contains_cons, T.a]; rfl
  have noN : (Value.ref C :: bm).contains (.type "NameError") = false := by rw [List.contains_cons, T.n]; rfl
  refine codeAny_builtinAt L.entry ?_
  unfold Builtin.«BaseException.__new__»
  refine PyProof.Rows.wpAt_bind (show PyProof.Rows.wpAt _ _ _ (stack >>= _) _ _ _ from PyProof.Rows.wpAt_bind (PyProof.Rows.wpAt_stack fun p below => wpAt_of_wpAny ?_))
  wp_walk
  refine wpAt_of_wpAny ?_
  rw [L.owner]
  repeat (first | with_reducible refine wpAny_madeHere_exc L.canon at' ?_ | with_reducible refine wpAny_loadPart_at at' ?_ | (with_reducible refine wpAny_isSubtype_exc at' ?_; first | rw [inB] | rw [noA] | rw [noN]) | wp_step)
  show R _ _
  rw [Heap.size_push]
  exact k
theorem tcall2 (L : ExcBaseFacts B newI oldI bB) (T : Tl B D bm) {fI : Addr} {Q : Fin → Shared → Prop} (at' : hp.get? C = some (excClassObj nm q C N bs bm hdct sn sub ab col dd k0 k1 k2 k3 k5 newI))
    (li : W.Looks (model prog w) hp (typeLookup (.ref C) "__init__") (some (.ref fI))) (lb : ∀ z, W.Looks (model prog w) hp (bindSpecial (.ref fI) z) (.ref fI, [z])) (hl : rest.length ≤ sizeLine)
    (k : codeAny (model prog w) A (.call (.ref fI) ⟨.ref (hp.objs.size + 1) :: rest, []⟩) (fun r s' => match r with | .ok (.ret v) => v = .none ∧ Q (.done (.ret (.ref (hp.objs.size + 1)))) s' | .ok _ => False | .error e => E e s')
      ⟨(hp.push (W.kdv_tup rest)).push (excO C hp.objs.size), g, dr, tk, os⟩) : wpAny (model prog w) A (Builtin.«type.__call__» ⟨.ref C :: rest, []⟩) Q E ⟨hp, g, dr, tk, os⟩ := by
  repeat (first | with_reducible refine wpAny_loadPart_at at' ?_ | with_reducible refine wpAny_madeBy_exc at' ?_ | wp_step)
  refine codeAny_call_builtin_code (Code.quiet_builtin _ L.quiet) (new_ok2 L T at' (made2 L T at' ?_ hl))
  show wpAny _ _ _ _ _ _
  have old : ∀ b o, hp.get? b = some o → ((hp.push (W.kdv_tup rest)).push (excO C hp.objs.size)).get? b = some o := fun b o z => Heap.get?_push_of_some _ (Heap.get?_push_of_some _ z)
  have at1 := old _ _ at'
  have new1 : ((hp.push (W.kdv_tup rest)).push (excO C hp.objs.size)).get? (hp.objs.size + 1) = some (excO C hp.objs.size) := by heap_get
  have self1 : (Value.ref C :: bm).contains (.ref C) = true := by simp
  unfold isInstance
  repeat (first | with_reducible refine wpAny_loadPart_at new1 ?_ | (with_reducible refine wpAny_isSubtype_exc at1 ?_; rw [self1]) | wp_step)
  show wpAny _ _ (typeLookup (.ref C) _) _ _ _
  refine (li.keeps old).at (wpAny_holding (wpAny_bind (((lb (.ref (hp.objs.size + 1))).keeps old).at (wpAny_bind (wpAny_call (codeAny_mono k fun r s' z => ?_))))))
  rcases r with e | (v | _ | _ | _) <;> first | exact z | exact z.elim | skip
  obtain ⟨rfl, z⟩ := z
  first | exact wpAny_pure (wpAny_pure z) | (wp_walk; exact z)
theorem own2 (L : ExcBaseFacts B newI oldI bB) (T : Tl B D bm) {fI : Addr} (at' : hp.get? C = some (excClassObj nm q C N bs bm hdct sn sub ab col dd k0 k1 k2 k3 k5 newI))
    (li : W.Looks (model prog w) hp (typeLookup (.ref C) "__init__") (some (.ref fI))) (lb : ∀ z, W.Looks (model prog w) hp (bindSpecial (.ref fI) z) (.ref fI, [z])) (hl : rest.length ≤ sizeLine)
    (k : codeAny (model prog w) (A.under (.builtin "type.__call__" ⟨.ref C :: rest, []⟩)) (.call (.ref fI) ⟨.ref (hp.objs.size + 1) :: rest, []⟩) (W.InitBack (hp.objs.size + 1) R)
      ⟨(hp.push (W.kdv_tup rest)).push (excO C hp.objs.size), g, dr, tk, os⟩) : codeAny (model prog w) A (.call (.ref C) ⟨rest, []⟩) R ⟨hp, g, dr, tk, os⟩ := by
  have c1 := tc_lookup
  have c2 := tc_bind (.ref C)
  have c3 : (⟨hp, g, dr, tk, os⟩ : Shared).TypeIs (.ref C) "type" := ⟨_, at', rfl⟩
  refine codeAny_of_tree (show wpAny _ _ (callAny (.ref C) _) _ _ _ from ?_)
  repeat (any_goals (first | assumption | with_reducible refine wpAny_loadPart_at at' ?_ | wp_step))
  refine ⟨rfl, ?_⟩
  refine codeAny_call_builtin_at (Code.quiet_builtin _ (by decide +kernel)) entry_typeCall (wpAny_check_type_call_sub at' (tcall2 L T at' li lb hl (codeAny_mono k fun r s' z => ?_)))
  rcases r with e | (v | _ | _ | _) <;> exact z
/-- D.__init__(e, ..): the args are laid anew -/
theorem inib2 (J : IniB D iniI) (nst : (D != "*") = true) (T : Tl B D bm) {e t0 : Addr} (at' : hp.get? C = some (excClassObj nm q C N bs bm hdct sn sub ab col dd k0 k1 k2 k3 k5 newI)) (ae : hp.get? e = some (excO C t0)) (hl : rest.length ≤ sizeLine)
    (k : ∀ h' t1, (∀ b o, b ≠ e → hp.get? b = some o → h'.get? b = some o) → h'.get? e = some (excO C t1) → R (.ok (.ret .none)) ⟨h', g, dr, tk, os⟩) : codeAny (model prog w) A (.call (.builtin iniI) ⟨.ref e :: rest, []⟩) R ⟨hp, g, dr, tk, os⟩ := by
  refine codeAny_call_builtin J.slot.plain J.ent (ini_ok2 J nst T at' ae rfl ?_)
  wp_walk
  refine k _ hp.objs.size (fun b o hb ho => ?_) ?_
  · rw [Heap.get?_update_other _ _ hb.symm]
    exact Heap.get?_push_of_some _ ho
  · rw [Heap.get?_update_self _ (Heap.get?_push_of_some _ ae) rfl]
    rfl
end
end KX

set_option maxRecDepth 100000
set_option maxHeartbeats 4000000
/-! an own exception class right over KeyError, whose __init__ says KeyError.__init__(self, x) and then stores -/
namespace KY
open PySem PySem.Spec PyProof.Rows L2 KX
/-- what the library knows of the built-in class B, whose __new__ may be another class's -/
structure XB2 (B newI iniI : String) (tl : List Value) : Prop where
  sf : PySem.StoreFacts B tl "object.__setattr__" "object"
  j : IniB B iniI
  ns : (B != "*") = true
  mks : ∃ (LB oldI : String) (bB : List Value), PySem.ExcBaseFacts LB newI oldI bB ∧ Tl LB B tl
theorem XB2.tl {B newI iniI : String} {tl bm : List Value} (T : XB2 B newI iniI tl) (h : ∀ X : String, bm.contains (.type X) = tl.contains (.type X)) : ∃ (LB oldI : String) (bB : List Value), PySem.ExcBaseFacts LB newI oldI bB ∧ Tl LB B bm := by
  obtain ⟨LB, oldI, bB, L, t⟩ := T.mks
  exact ⟨LB, oldI, bB, L, by rw [h]; exact t.b, by rw [h]; exact t.d, by rw [h]; exact t.a, by rw [h]; exact t.n⟩
/-- what the written part says of the class at C -/
structure XC2 (K : PySem.W.Frag) (B newI iniI : String) (tl : List Value) (C : Addr) : Prop where
  b : XB2 B newI iniI tl
  ini : PySem.W.excInitIn K C tl newI = true
  ovr : PySem.W.excOver K C tl = true
  sa : PySem.W.findIn K (.ref C) "__setattr__" = some (some (.builtin "object.__setattr__"))
  hd : PySem.W.hasDictIn K C = true
  sub : PySem.W.subIn K (.ref C) (.type "BaseException") = some true
  ty : PySem.W.typeIn K (.ref C) = some (.type "type")
  kp : PySem.W.keepIn K (.ref C) = true
section
open PySem.W PySem.Calls PySem.HandSPX Builtin Builtin.ObjectAttr
variable {prog : Program} {w : World} {A : Around} {E : Value → Shared → Prop} {R : Result → Shared → Prop} {hp : Heap} {g : Array GenState} {d : Drawn} {t : Nat} {os : OsState}
/-- the first store into such an exception -/
theorem osa_first {K : PySem.W.Frag} {nm : Str} {tk : Tok} {v : Value} {x C : Addr} {fv : Array Value} {B newI iniI : String} {tl : List Value} (T : XC2 K B newI iniI tl C)
    (X : K.In hp) (hx : hp.get? x = some { cls := .ref C, data := .fields fv }) (ha : PySem.W.findIn K (.ref C) nm = some none)
    (done : ∀ h2 tk2 dx, (∀ b o, b ≠ x → hp.get? b = some o → h2.get? b = some o) → hp.objs.size ≤ dx → dx ≠ x → h2.get? x = some { cls := .ref C, dict := some dx, data := .fields fv } →
      h2.Ns1 dx (fun y => if y = nm then some v else none) → R (.ok (.ret .none)) ⟨h2, g, d, tk2, os⟩) :
    codeAny (model prog w) A (.call (.builtin "object.__setattr__") ⟨[.ref x, .str nm tk, v], []⟩) R ⟨hp, g, d, t, os⟩ := by
  have tkr : PySem.W.takerIn K C nm = some none := by unfold PySem.W.takerIn; rw [ha]; rfl
  refine PySem.W.osa_openX (s := ⟨hp, g, d, t, os⟩) (od := none) T.b.sf X ⟨hx, rfl, rfl, trivial⟩ T.ovr tkr fun b => ?_
  obtain ⟨cd, hc, hdd⟩ := PySem.W.any_some T.hd
  have hcls : PySem.W.Looks (model prog w) hp (classData C) cd := PySem.W.looks_clsIn X hc
  have far : x ≠ hp.objs.size := Nat.ne_of_lt (Heap.lt_size hx)
  obtain ⟨nm', bs, mro, ns, qn, hd', sn, sb, ab, col, del⟩ := cd
  dsimp only at hdd
  subst hdd
  dsimp only
  unfold storeInOwnDict ownDictForStores
  repeat (first | with_reducible refine store_in_new ?_ ?_ | with_reducible refine wpAny_loadPart_at hx ?_ | with_reducible refine hcls.at ?_ | wp_step)
  · exact ⟨_, #[], _, (Heap.get?_update_ne _ _ _ _ far.symm).trans (Heap.get?_push_at rfl rfl), rfl, fun e he => absurd he (by simp), fun _ => rfl⟩
  · intro h2 tk2 hn2 hs
    have hx1 : (hp.push { cls := .type "dict", data := .dict #[] }).get? x = some { cls := .ref C, data := .fields fv } := Heap.get?_push_of_some _ hx
    refine done h2 tk2 hp.objs.size (fun b o hb ho => ?_) (Nat.le_refl _) far.symm ?_ hn2
    · have z := Heap.get?_push_of_some { cls := .type "dict", data := .dict #[] } ho
      exact (hs.2 b (Nat.ne_of_lt (Heap.lt_size ho))).trans ((Heap.get?_update_ne _ _ _ _ hb).trans z)
    · have z := Heap.get?_update_self (fun o => { o with dict := some hp.objs.size }) hx1 rfl
      exact (hs.2 x far).trans z
end
section
variable {X : Cx} {pins : List (Addr × Obj)} {σ : L2.St} {H : Hp} {s : Shared} {a C dx : Addr} {f : Str} {y : V} {u : Value} {E : Value → Shared → Prop} {A : Around} {B newI iniI : String} {tl : List Value}
/-- self.f = y, the first store -/
theorem store_first {Q : Unit → Shared → Prop} (T : XC2 X.K B newI iniI tl C) (I : Inv X pins σ H s) (e : H a = some (exo a C none)) (hno : PySem.W.findIn X.K (.ref C) f = some none) (ry : RelV y u)
    (go : ∀ dx s2, H dx = none → dx ≠ a → Inv X pins σ (upd (upd H dx (exd dx [(f, y)])) a (exo a C (some dx))) s2 → Q () s2) :
    wpAny (model X.prog X.w) A (setAttr (.ref a) f u) Q E s := by
  obtain ⟨t1, ho⟩ := exo_at I.hok e
  obtain ⟨hp, g, d, t, os⟩ := s
  refine PySem.W.set_plain I.kIn (ox := { cls := .ref C, dict := none, data := .fields #[.ref t1, .none, .none, .none, .bool false, .none] })
    (od := none) ⟨ho, rfl, rfl, trivial⟩ T.sa (osa_first T I.kIn ho hno (fun h2 tk2 dx k dn dne hx hn => ?_))
  have hnd : H dx = none := I.hok.fresh dn
  have new : ∀ {b : Addr} {o : Obj}, hp.get? b = some o → b ≠ dx := fun {b o} q => Nat.ne_of_lt (Nat.lt_of_lt_of_le (Heap.lt_size q) dn)
  have notA : ∀ {b : Addr}, H b = none → b ≠ a := fun {b} n z => by
    rw [z, e] at n
    cases n
  have U : Un X.fs [] H (upd (upd H dx (exd dx [(f, y)])) a (exo a C (some dx))) hp h2 := {
    keep := fun b o q n _ _ => k b o (notA n) q
    slot := fun b o q n _ _ => ⟨o.slots, k b o (notA n) q⟩
    free := fun b o q n _ => by rw [upd_ne (notA n), upd_ne (new q)]; exact n
    there := fun b o q _ => by
      by_cases hb : b = a
      · exact ⟨_, by rw [hb]; exact hx⟩
      · exact ⟨o, k b o hb q⟩
    tups := fun b xs q => by rw [upd_ne (at_ne e q exo_tup), upd_ne (ne_of_none q hnd)]; exact q
    frzs := fun b o v q => by rw [upd_ne (at_ne e q exo_frz), upd_ne (ne_of_none q hnd)]; exact q
    tbls := fun b ps q => ⟨#[], by rw [upd_ne (at_ne e q exo_tbl), upd_ne (ne_of_none q hnd), q]; simp⟩ }
  refine go dx _ hnd dne (I.un (t' := tk2) U fun b o q => ?_)
  by_cases hb : b = a
  · subst hb
    rw [upd_same] at q
    cases q
    exact exo_ok hx
  · rw [upd_ne hb] at q
    by_cases hd : b = dx
    · subst hd
      rw [upd_same] at q
      cases q
      exact exd_ok hn (relO_put (fs := []) ry fun g => True.intro)
    · rw [upd_ne hd] at q
      refine (I.hok b o q).stay (fun c v hc z => k c v ?_ z) (fun c hc => ?_) (fun c xs hc => ?_)
      · rcases hc with hc | hc
        · rw [hc]
          exact hb
        · exact at_ne e hc exo_own
      · rw [upd_ne (at_ne e hc exo_own), upd_ne (ne_of_none hc hnd)]
        exact hc
      · rw [upd_ne (at_ne e hc exo_tup), upd_ne (ne_of_none hc hnd)]
        exact hc
/-- B.__init__(self, ..): nothing of it is told -/
theorem init_told {us : List Value} {Q : Value → Shared → Prop} (T : XC2 X.K B newI iniI tl C) (I : Inv X pins σ H s) (e : H a = some (exo a C none)) (hl : us.length ≤ sizeLine) (go : ∀ s2, Inv X pins σ H s2 → Q .none s2) :
    wpAny (model X.prog X.w) A (call (.builtin iniI) (.ref a :: us)) Q E s := by
  obtain ⟨nm, N, qn, bs, bm, hdct, sn, sub, ab, col, dd, k0, k1, k2, k3, k5, hC, hT⟩ := PySem.W.excInit_of I.kIn T.ini
  obtain ⟨t1, ho⟩ := exo_at I.hok e
  obtain ⟨hp, g, d, t, os⟩ := s
  obtain ⟨LB, oldI, bB, L, tlb⟩ := T.b.tl hT
  refine wpAny_call (inib2 T.b.j T.b.ns tlb hC ho hl fun h2 t2 k hx => go _ ?_)
  have J := I.write (t' := t) (x := a) (e := a) (o := exo a C none) (by rw [e]; exact True.intro) (.inl rfl) k ⟨_, hx⟩ (exo_ok hx)
  have same : upd H a (exo a C none) = H := by
    funext b
    by_cases hb : b = a
    · rw [hb, upd_same, e]
    · rw [upd_ne hb]
  rw [same] at J
  exact J
end
/-- B.__init__(self, ..) -/
def tBini (K : PySem.W.Frag) (B newI iniI : String) (tl : List Value) (ta : TA) : TE := fun σ H Q => ta σ H fun vs H1 =>
  ∃ (a C : Addr) (ws : List V), vs = .ref a :: ws ∧ ws.length ≤ 1000 ∧ XC2 K B newI iniI tl C ∧ H1 a = some (exo a C none) ∧ Q .non H1
/-- self.f = e, the first store -/
def tFst (K : PySem.W.Frag) (B newI iniI : String) (tl : List Value) (f : Str) (to te : TE) : TS := fun D σ H => te σ H fun y H1 => to σ H1 fun x H2 =>
  ∃ a C : Addr, x = .ref a ∧ XC2 K B newI iniI tl C ∧ PySem.W.findIn K (.ref C) f = some none ∧ H2 a = some (exo a C none) ∧
    ∀ dx, H2 dx = none → dx ≠ a → D.nx σ (upd (upd H2 dx (exd dx [(f, y)])) a (exo a C (some dx)))
section
variable {X : Cx} {o e : Expr} {es : List Expr} {to te : TE} {ta : TA} {f : Str} {p p' p1 p2 pos : Pos} {B newI iniI : String} {tl : List Value}
theorem ps_fst (ho : PE X o to) (he : PE X e te) (hs : swapsWith e (some (.Attribute o f p')) pos.line X.env = pure false := by rfl) : PS X (.Assign [.Attribute o f p'] e pos) (tFst X.K B newI iniI tl f to te) := by
  refine ⟨fun pins s σ H D I h => ?_⟩
  refine plainObj_wpAny_Assign_Attribute (thn (he.run pins s σ H _ I h) fun v s1 z1 => ?_) hs
  obtain ⟨y, H1, I1, r1, q1⟩ := z1
  refine thn (ho.run pins s1 σ H1 _ I1 q1) fun u s2 z2 => ?_
  obtain ⟨x, H2, I2, r2, a, C, ex, T, hno, ea, q⟩ := z2
  subst ex
  obtain rfl : u = Value.ref a := r2
  exact store_first T I2 ea hno r1 fun dx s3 n ne J => ⟨σ, _, J, q dx n ne⟩
theorem pe_bini {pl : Sem Bool} (hg : Gl X "KeyError") (hm : X.mg "KeyError" = none) (vV : PySem.W.findCls X.K (.type "KeyError") (.type "type") "__init__" = some (.val (.builtin "KeyError.__init__"))) (ha : PA X (e :: es) ta)
    (hc : eval (.Call (.Attribute (.Name "KeyError" p1) "__init__" p2) (e :: es) [] pos) X.env = (do
      let cv ← eval (.Name "KeyError" p1) X.env
      standAt p2.atName
      let (fn, ahead) ← holding [cv] (getMethod cv "__init__" pl)
      callWith pos fn ahead (backTo pos (starEach (e :: es) X.env)) (backToKw pos (keywordEach [] X.env))) := by rfl)
    (he : starEach (e :: es) X.env = (false, eval e X.env) :: starEach es X.env := by rfl) (hpl : (backTo pos (starEach es X.env)).any (·.1) = false := by rfl) :
    PE X (.Call (.Attribute (.Name "KeyError" p1) "__init__" p2) (e :: es) [] pos) (tBini X.K "KeyError" newI "KeyError.__init__" tl ta) := by
  refine ⟨fun pins s σ H Q I h => ?_⟩
  have ty : typeOf (.type "KeyError") = pure (.type "type") := by kernel_rfl
  refine PySem.W.methodCall_KW (ld_blt I hg hm PyProof.Rows.Boot.«KeyError» ?_ (by decide) (by decide)) hc
  obtain ⟨m, fr⟩ := I.fr
  refine PySem.W.method_type fr I.ok.mod.kin ty (by decide +kernel) vV (by decide +kernel) ?_
  show wpAny _ _ (callWith pos (Value.builtin "KeyError.__init__") [] (backTo pos (starEach (e :: es) X.env)) []) _ _ _
  refine PyProof.Rows.callWith_method1 (thn (ha.run pos pins _ σ H _ (I.tok _) h) fun us s1 z => ?_) he hpl
  obtain ⟨vs, H1, I1, r1, a, C, ws, ev, hl, T, ea, q⟩ := z
  subst ev
  cases r1 with
  | @cons _ u0 _ ur ra rw' =>
    obtain rfl : u0 = Value.ref a := ra
    have hlen : ur.length ≤ sizeLine := by
      rw [← Paired.length rw', sizeLine_eq]
      omega
    exact init_told T I1 ea hlen fun s2 J => ⟨.non, H1, J, rfl, q⟩
/-- C(e, ..) -/
theorem pmk_x {CX : CXT} {x : Str} {C fI : Addr} {k : Nat} {fd : FuncData} {ps : List Str} {sp : Sp} (T : XC2 X.K B newI iniI tl C) (iC : PySem.W.findIn X.K (.ref C) "__init__" = some (some (.ref fI)))
    (tI : PySem.W.typeIn X.K (.ref fI) = some (.type "function")) (F1 : FnOk X.prog X.w X.K X.mg X.base CX k fI fd ps sp) (hr : Room (k + 1) X.A) (hb : Binds X.K fd ps []) (hx : Passes CX X (fun _ _ _ => False)) (hg : Gl X x)
    (hm : X.mg x = some (.ref C)) (ha : PA X (e :: es) ta) (hdb : (x == ("__debug__" : Str)) = false := by decide) (he : starEach (e :: es) X.env = (false, eval e X.env) :: starEach es X.env := by rfl)
    (hpl : (backTo pos (starEach es X.env)).any (·.1) = false := by rfl) : PMk X (.Call (.Name x p) (e :: es) [] pos) (tMkO C sp [] ta) := by
  intro pins s σ H Q I h
  obtain ⟨nm, N, qn, bs, bm, hdct, sn, sub, ab, col, dd, k0, k1, k2, k3, k5, hC, hT⟩ := PySem.W.excInit_of I.kIn T.ini
  refine wpAny_Call_Name_kw (ld_glob I hg hm ?_ hdb)
  refine PySem.W.callWith_K (h₀ := X.base) I.ok.mod.kin T.kp (thn (ha.run pos pins s σ H _ I h) fun us s1 z => ?_) he hpl
  obtain ⟨vs, H1, I1, r1, hz, q1⟩ := z
  have X1 := I1.kIn
  refine ⟨X1, ?_⟩
  obtain ⟨nm, N, qn, bs, bm, hdct, sn, sub, ab, col, dd, k0, k1, k2, k3, k5, hC, hT⟩ := PySem.W.excInit_of X1 T.ini
  show wpAny _ _ (call (.ref C) us) _ _ _
  obtain ⟨hp, g, dr, tk, os⟩ := s1
  have up : hp.objs.size ≤ hp.objs.size + 1 := Nat.le_succ _
  have hq := q1 (hp.objs.size + 1) (I1.hok.fresh up)
  have kk : ∀ b o, hp.get? b = some o → ((hp.push (PySem.W.kdv_tup us)).push (PySem.HandSPX.excO C hp.objs.size)).get? b = some o :=
    fun b o e => Heap.get?_push_of_some _ (Heap.get?_push_of_some _ e)
  have hget : ((hp.push (PySem.W.kdv_tup us)).push (PySem.HandSPX.excO C hp.objs.size)).get? (hp.objs.size + 1) = some (PySem.HandSPX.excO C hp.objs.size) := by heap_get
  have I2 : Inv X pins σ (upd H1 (hp.objs.size + 1) (exo (hp.objs.size + 1) C none)) ⟨(hp.push (PySem.W.kdv_tup us)).push (PySem.HandSPX.excO C hp.objs.size), g, dr, tk, os⟩ :=
    I1.laid (t' := tk) (a := hp.objs.size + 1) (o := exo (hp.objs.size + 1) C none) (h' := (hp.push (PySem.W.kdv_tup us)).push (PySem.HandSPX.excO C hp.objs.size)) kk up (exo_ok hget)
  have r2 : Vals (V.ref (hp.objs.size + 1) :: (vs ++ [])) (Value.ref (hp.objs.size + 1) :: us) := .cons rfl (by rw [List.append_nil]; exact r1)
  have hl : (Value.ref (hp.objs.size + 1) :: us).length = ps.length := by
    rw [← r2.length]
    exact F1.len _ _ _ _ hq
  have hus : us.length ≤ sizeLine := by
    rw [← Paired.length r1, sizeLine_eq]
    omega
  have hbd := hb ⟨(hp.push (PySem.W.kdv_tup us)).push (PySem.HandSPX.excO C hp.objs.size), g, dr, tk, os⟩ (Value.ref (hp.objs.size + 1) :: us) I2.kIn (by rw [List.append_nil]; exact hl)
  rw [List.append_nil] at hbd
  have go := F1.run _ X.stack _ _ ⟨Value.ref (hp.objs.size + 1) :: us, []⟩ (Value.ref (hp.objs.size + 1) :: us) _ _ (fun _ _ _ => False) (hr.make C us []) (I2.env0.make C us []) hbd r2 hq
  obtain ⟨LB, oldI, bB, L, tlb⟩ := T.b.tl hT
  refine wpAny_call (own2 L tlb hC (PySem.W.looks_findIn X1 iC) (fun self => PySem.W.bind_fn X1 self tI) hus (codeAny_mono go fun r s2 z => ?_))
  cases r with
  | error er => exact hx pins σ _ _ er s2 I2 z
  | ok fl =>
    cases fl with
    | ret u =>
      obtain ⟨v, H2, os2, bare2, un2, hok2, rv, ev, d, fs, ea, ed, hd1, q2⟩ := z
      subst ev
      obtain ⟨h2, g2, d2, t2, os'⟩ := s2
      exact ⟨rv, mk_end (raises_own T.sub T.ty) I1 up kk un2 hok2 os2 bare2 ea ed hd1 q2⟩
    | next => exact False.elim z
    | brk => exact False.elim z
    | cont => exact False.elim z
end
theorem kyB : XB2 "KeyError" "LookupError.__new__" "KeyError.__init__" kyTl := ⟨kyStore, kyIni, by decide +kernel, _, _, _, PySem.F.excBase_LookupError, by decide +kernel, by decide +kernel, by decide +kernel, by decide +kernel⟩
end KY

set_option maxRecDepth 100000
set_option maxHeartbeats 2000000
open PySem PySem.Spec PyProof.Rows L2 KX
/-! ### a method of a made tuple: its object is remembered -/
namespace KX
section
variable {X : Cx}
/-- tuple(list): a new tuple, whose object has no dict -/
theorem call_tupleF : CallR X (.type "tuple") (fun xs H Q => ∃ p ys, xs = [.ref p] ∧ SqL X.K H p ys ∧ ∀ l o, H l = none → o.cls = .type "tuple" → o.dict = none → Q (.ref l) (upd H l (.frz o (.tup ys)))) := by
  intro pins s σ H xs us Q I r h
  obtain ⟨p, ys, rfl, hq, q⟩ := h
  obtain ⟨u, rfl, rx⟩ := vals1 r
  cases rx
  obtain ⟨its, rv, pl, hz⟩ := I.list hq
  have hn := rv.length
  refine call_tuple_list pl.isList (fun hp2 kp => ?_) (by simp only [List.size_toArray] <;> omega)
  have J : Inv X pins σ H { s with heap := hp2 } := I.kept (t' := s.toks) kp
  have J2 : Inv X pins σ (upd H hp2.objs.size (.frz { cls := .type "tuple", data := .seq its.toArray } (.tup ys))) { s with heap := hp2.push { cls := .type "tuple", data := .seq its.toArray } } :=
    J.laid (t' := s.toks) (fun b o e => Heap.get?_push_of_some _ e) (Nat.le_refl _) (show ObjOk X.prog X.w _ _ _ (.frz _ (.tup ys)) from ⟨Heap.get?_push_size _ rfl, hz, its, rv, IsTup.new _ _⟩)
  exact ⟨.ref hp2.objs.size, _, J2, rfl, q _ _ (J.hok.fresh (Nat.le_refl _)) rfl rfl⟩
def tBMF (T : String) (r : V → List V → Hp → VK → Prop) (to : TE) (t : TA) : TE := fun σ H Q => to σ H fun x H1 => (∃ p o u, x = .ref p ∧ H1 p = some (.frz o u) ∧ o.cls = .type T ∧ o.dict = none) ∧ t σ H1 fun xs H2 => r x xs H2 Q
variable {o e : Expr} {es : List Expr} {to : TE} {t : TA} {name : Str} {apos cpos : Pos} {T id : String} {r : V → List V → Hp → VK → Prop}
theorem pe_bmF (pa : PlainAttrs T) (slot : Slot T name id) (hty : typeOf (.builtin id) = pure (.type "method_descriptor")) (hm : MtR X id r) (ho : PE X o to) (ha : PA X (e :: es) t)
    (hbase : attributeBase o name X.env (eval o X.env) = eval o X.env := by rfl)
    (hfew : ((backTo cpos (starEach (e :: es) X.env)).all (fun x => !x.1) && (backToKw cpos (keywordEach [] X.env)).all (fun x => x.1.isSome)
      && decide ((e :: es).length + ([] : List Keyword).length + (if ([] : List Keyword).isEmpty then 0 else 1) < 30)) = true := by rfl)
    (hline : (apos.endLine == cpos.line) = true := by rfl) (hs : starEach (e :: es) X.env = (false, eval e X.env) :: starEach es X.env := by rfl) (hplain : (backTo cpos (starEach es X.env)).any (·.1) = false := by rfl) :
    PE X (.Call (.Attribute o name apos) (e :: es) [] cpos) (tBMF T r to t) := by
  refine ⟨fun pins s σ H Q I h => ?_⟩
  refine wpAny_Call_method_late hbase hfew hline rfl (thn (ho.run pins s σ H _ I h) fun v s1 ⟨x, H1, I1, r1, ty, q1⟩ => ?_)
  obtain ⟨p, ob, u, rfl, ef, hc, hd⟩ := ty
  cases r1
  obtain ⟨eg, _⟩ := (show ObjOk X.prog X.w H1 s1.heap p (.frz ob u) from I1.hok p _ ef)
  refine ⟨T, id, pa, slot, hty, ⟨ob, eg, hc⟩, fun a e => ?_, ?_⟩
  · cases e
    exact ⟨ob, eg, hd⟩
  · have hA := ha.run cpos pins s1 σ H1 _ I1 q1
    rw [hs] at hA ⊢
    refine Calls.callWith_builtin (by show (false || (backTo cpos (starEach es X.env)).any (·.1)) = false; rw [hplain] <;> rfl) (Calls.evalArgs_plain ?_)
    exact thn hA fun us s2 ⟨vs, H2, I2, r2, q2⟩ => hm pins s2 σ H2 (.ref p) vs (.ref p) us Q I2 rfl r2 q2
end
end KX

set_option maxRecDepth 100000
set_option maxHeartbeats 2000000
namespace KX
open PySem PySem.Spec PyProof.Rows L2 RZ
inductive MixD (X : Cx) : List ExceptHandler → List Cls → Prop
  | nil : MixD X [] []
  | dead {hds : List ExceptHandler} : MixD X hds []
  | plain {x : Str} {c : Value} {ts : Addr → Value → Option Addr → TS} {b0 : Stmt} {bs : List Stmt} {p1 p2 : Pos} {hds : List ExceptHandler} {l : List Cls} (hc : Names X x c)
      (hb : ∀ (a : Addr) (oe : Obj) (cls : Value) (d : Option Addr) (pn : List (Addr × Obj)), Zc cls d oe → (∃ vs, oe.data = .fields vs) → PSs (X.suite a ((a, oe) :: pn)) (b0 :: bs) (ts a cls d)) (r : MixD X hds l) :
      MixD X (.ExceptHandler (some (.Name x p1)) none (b0 :: bs) p2 :: hds) (⟨c, none, ts⟩ :: l)
  | named {x n : Str} {i : Nat} {c : Value} {ts : Addr → Value → Option Addr → TS} {b0 : Stmt} {bs : List Stmt} {p1 p2 : Pos} {hds : List ExceptHandler} {l : List Cls} (hi : X.N[i]? = some n) (hn : X.env.kindOf n = some .local) (hc : Names X x c)
      (hb : ∀ (a : Addr) (oe : Obj) (cls : Value) (d : Option Addr) (pn : List (Addr × Obj)), Zc cls d oe → (∃ vs, oe.data = .fields vs) → PSs (X.suite a ((a, oe) :: pn)) (b0 :: bs) (ts a cls d)) (r : MixD X hds l) :
      MixD X (.ExceptHandler (some (.Name x p1)) (some n) (b0 :: bs) p2 :: hds) (⟨c, some i, ts⟩ :: l)
section
variable {X : Cx} {body : List Stmt} {hd0 : ExceptHandler} {hds : List ExceptHandler} {l : List Cls} {pos : Pos} {tb : WX → TS} {Wo : WX}
theorem ps_try_mixD (hs : X.stack = X.env :: X.outer) (hf : X.env.frame = some X.env.locals) (nd : X.N.Nodup) (tk : Takes X Wo) (hWo : ∀ cls d σ G, ¬ Wo cls d σ G)
    (hb : ∀ (W : WX) (pn : List (Addr × Obj)) (xe : Value → Shared → Prop), Takes (X.tr pn xe) W → PassesOwn (model X.prog X.w) X.A X.env xe → PSs (X.tr pn xe) body (tb W))
    (hh : MixD X (hd0 :: hds) l) : PS X (.Try body (hd0 :: hds) [] [] pos) (fun D σ G => tb (wMix X.K Wo D l) D σ G) := by
  refine ⟨fun pins s σ G D I h => wpAny_Try_except ?_⟩
  have ok := I.ok
  have frm : X.A.frames = some (X.env :: X.outer) := ok.frames.trans (by rw [hs])
  refine wpAny_mono ((hb (wMix X.K Wo D l) (X.pn ++ pins) (fun e t1 => wpAny (model X.prog X.w) X.A (noteFrame e X.env) (fun _ t2 => wpAny (model X.prog X.w) X.A (setFlight e none) (fun _ t3 =>
    wpAny (model X.prog X.w) X.A (handleBy e X.env (hd0 :: hds)) (SP X pins D) X.xe t3) X.xe t2) X.xe t1) (fun u s1 caught => ?_) PassesOwn.looking).run [] s σ G D (I.toTry _) h) (fun fl s1 fin => ?_) (fun _ _ z => z)
  · obtain ⟨ea, B0, sI, pins1, σ1, G1, cls, d, rfl, IT, nb, up, sky, na, os, ag, wish⟩ := caught
    have I1 : Inv X pins σ1 G1 sI := IT.ofTry ok
    refine Sky.land Zc.steady frm hf (show Sky B0 (X.env :: X.outer) ea (Zc cls d) X.env.locals s1.heap by rw [← hs]; exact sky) fun h3 lands up3 => ?_
    have I3 : Inv X pins σ1 G1 { s1 with heap := h3 } := I1.landed nb lands.1 (up.trans up3) os ag
    obtain ⟨oe3, fv3, at3, z3, dat3⟩ := lands.there
    have off : ea ∉ frs (X.env :: X.outer) := fun hm => by
      obtain ⟨_, o1, e1, nf⟩ := lands.2.2.1.mem hm
      rw [at3] at e1
      cases e1
      exact nf _ dat3
    have offL : ea ≠ X.env.locals := fun z => off (List.mem_filterMap.mpr ⟨X.env, List.mem_cons_self, by rw [hf, z]⟩)
    have offF : ea ∉ X.fs := fun hm => by
      obtain ⟨en, hen, q⟩ := List.mem_filterMap.mp hm
      exact off (List.mem_filterMap.mpr ⟨en, List.mem_cons_of_mem _ hen, q⟩)
    have S3 := I3.suite at3 dat3 na offL offF
    have looks : PySem.W.Looks (model X.prog X.w) h3 (typeOf (.ref ea)) cls := fun A Q E t k q => wpAny_typeOf_ref (k _ _ at3) (by rw [z3.1]; exact q)
    have reads : ∀ {x : Str} {c : Value} {p1 : Pos} {Q : Value → Shared → Prop} {E : Value → Shared → Prop}, Names X x c → Q c { s1 with heap := h3 } → wpAny (model X.prog X.w) (X.A.mark (some (.ref ea))) (eval (.Name x p1) X.env) Q E { s1 with heap := h3 } := fun {x c p1 Q E} hc q => by
      obtain ⟨hg, hdb, hm | ⟨hm, hv, hnn⟩⟩ := hc
      · exact ld_glob (X := X.suite ea ((ea, oe3) :: (X.pn ++ pins))) S3 hg hm q hdb
      · exact ld_blt (X := X.suite ea ((ea, oe3) :: (X.pn ++ pins))) S3 hg hm hv q hnn hdb
    have each : ∀ {hl : List ExceptHandler} {cl : List Cls}, MixD X hl cl → wMix X.K Wo D cl cls d σ1 G1 → wpAny (model X.prog X.w) X.A (handleBy (.ref ea) X.env hl) (SP X pins D) X.xe { s1 with heap := h3 } := by
      intro hl cl mk
      induction mk with
      | dead =>
        intro wo
        exact absurd wo (hWo _ _ _ _)
      | nil =>
        intro wo
        refine wpAny_handleBy_nil ?_
        obtain ⟨_, _, _, ox, fx, T, _, _, atx, _, datx, tl1, _⟩ := id lands
        unfold PySem.passOn
        refine wpAny_bind (wpAny_field atx datx tl1 ?_)
        rw [if_neg (by simp)]
        have out : wpAny (model X.prog X.w) X.A (setFlight (.ref ea) X.env.frame) (fun _ t4 => wpAny (model X.prog X.w) X.A (throw (.ref ea) : Sem Flow) (SP X pins D) X.xe t4) X.xe { s1 with heap := h3 } := by
          rw [hf]
          refine HandSPX.setFlight_upZ lands fun h4 hx4 up4 => wpAny_throw (tk _ _ ⟨ea, B0, sI, pins, σ1, G1, cls, d, rfl, I1, nb, (up.trans up3).trans up4, .inr (.inr (by rw [hs]; exact hx4)), na, os, ag, wo⟩)
        first | exact wpAny_bind (wpAny_pure (wpAny_bind out)) | exact wpAny_bind out
      | @plain x c ts b0 bs p1 p2 hds2 l2 hc hb r ih =>
        intro wq
        obtain ⟨b, e1, yes, no⟩ := wq
        refine wpAny_handleBy_cons (codeAny_handlers_test (reads hc ((PySem.W.exm_one (M := model X.prog X.w) I3.kIn looks e1).here ?_))) (by intro q; cases q)
        cases b with
        | false => exact ih (no rfl)
        | true =>
          refine codeAny_handlers_suite (HandSPX.lands_againZ lands fun h4 lands4 up4 => ?_)
          obtain ⟨oe4, fv4, at4, z4, dat4⟩ := lands4.there
          have I4 : Inv X pins σ1 G1 { s1 with heap := h4 } := I1.landed nb lands4.1 ((up.trans up3).trans up4) os ag
          refine wpAny_mono ((hb ea oe4 cls d (X.pn ++ pins) z4 ⟨_, dat4⟩).run [] _ _ G1 _ (I4.suite at4 dat4 na offL offF) (yes rfl ea na)) (fun fl t6 fin => ?_) (fun _ _ z => z.elim)
          cases fl with
          | ret u =>
            obtain ⟨v6, σ6, G6, S6, r6, q6⟩ := fin
            exact ⟨v6, σ6, G6, S6.unsuite ok, r6, q6⟩
          | _ =>
            obtain ⟨σ6, G6, S6, q6⟩ := fin
            exact ⟨σ6, G6, S6.unsuite ok, q6⟩
      | @named x n i c ts b0 bs p1 p2 hds2 l2 hi hn hc hb r ih =>
        intro wq
        obtain ⟨b, e1, yes, no⟩ := wq
        refine wpAny_handleBy_cons (codeAny_handlers_test (reads hc ((PySem.W.exm_one (M := model X.prog X.w) I3.kIn looks e1).here ?_))) (by intro q; cases q)
        cases b with
        | false => exact ih (no rfl)
        | true =>
          refine codeAny_handlers_suite_as (HandSPX.lands_againZ lands fun h4 lands4 up4 => ?_)
          obtain ⟨oe4, fv4, at4, z4, dat4⟩ := lands4.there
          have I4 : Inv X pins σ1 G1 { s1 with heap := h4 } := I1.landed nb lands4.1 ((up.trans up3).trans up4) os ag
          refine store_ok (X := X.suite ea ((ea, oe4) :: (X.pn ++ pins))) (v := .ref ea) (I4.suite at4 dat4 na offL offF) nd hi (.inl hn) rfl (fun t5 S5 => ?_) (.inr hn)
          refine wpAny_mono ((hb ea oe4 cls d (X.pn ++ pins) z4 ⟨_, dat4⟩).run [] t5 _ G1 _ S5 (yes rfl ea na)) (fun fl t6 fin => ?_) (fun _ _ z => z.elim)
          have gone : ∀ {σ6 : L2.St} {G6 : Hp} {R : Shared → Prop}, Inv (X.suite ea ((ea, oe4) :: (X.pn ++ pins))) [] σ6 G6 t6 → (∀ t7, Inv X pins (σ6.set i none) G6 t7 → R t7) →
              wpAny (model X.prog X.w) X.A (do bindName X.env n .none; unbindBehindTheSuite X.env n p2) (fun _ t7 => R t7) X.xe t6 := fun {σ6 G6 R} S6 k => gone_ok (S6.unsuite ok) nd hi hn k
          cases fl with
          | ret u =>
            obtain ⟨v6, σ6, G6, S6, r6, q6⟩ := fin
            exact gone S6 fun t7 I7 => ⟨v6, _, _, I7, r6, q6⟩
          | _ =>
            obtain ⟨σ6, G6, S6, q6⟩ := fin
            exact gone S6 fun t7 I7 => ⟨_, _, I7, q6⟩
    exact each hh wish
  · cases fl with
    | next =>
      obtain ⟨σ6, G6, I6, q6⟩ := fin
      exact wpAny_execs_nil ⟨σ6, G6, I6.ofTry ok, q6⟩
    | ret u =>
      obtain ⟨v6, σ6, G6, I6, r6, q6⟩ := fin
      exact ⟨v6, σ6, G6, I6.ofTry ok, r6, q6⟩
    | _ =>
      obtain ⟨σ6, G6, I6, q6⟩ := fin
      exact ⟨σ6, G6, I6.ofTry ok, q6⟩
end
/-! ### a lambda without parameters that captures names, handed to a def and called there -/
section
open LamX NdefX
variable {X : Cx} {pins : List (Addr × Obj)} {σ : L2.St} {H : Hp} {s : Shared}
/-- az(), in the def that got the lambda as az -/
theorem pe_act0 {CXg : CXT} {Eg : XK} {Nz : List Str} {qz : Str} {sz : Scope} {g fl cl : Addr} {cdz pmz ctz : Value} {q : Str} {pars : Arguments} {bd : Expr} {scp : Scope} {cs : List (Str × Addr)} {k : Nat} {az : Str} {pn : List (Addr × Obj)} {xe : Value → Shared → Prop} {W : WX} {tb : XK → TE} {p1 p2 : Pos} {N fr : List Str} {ws : List (Option V)}
    (S : NScope N [] fr scp) (C : CellsAt cs fr ws s.heap H) (hf : s.heap.get? fl = some (PySem.W.kla_obj "<lambda>" q pars bd scp cs pmz cl ctz)) (hfn : H fl = none) (hfr : fl ∉ frs X.stack)
    (hbind : bindArgs (PySem.W.kla_fn "<lambda>" q pars bd scp cs pmz (.ref cl) ctz) ⟨[], []⟩ = pure [])
    (tk : Takes ((cxOf CXg X.prog X.w X.K X.mg X.base Nz qz sz g cdz X.A X.stack s H Eg).tr pn xe) W) (hr : Room (k + 1) (X.A.deeper (envOfC qz sz s.heap.objs.size g cdz)))
    (hbody : ∀ (A : Around) (outer : List PySem.Env) (s : Shared) (H : Hp) (E : XK), Room k (A.deeper (envF (lamF q pars scp cs cl) fl s.heap.objs.size)) → PE (ncx (L2.CX X.prog X.w) X.prog X.w X.K X.mg X.base N (lamF q pars scp cs cl) fl A outer s H E) bd (tb E))
    (hN : Nz[0]? = some az) (hv : Vis sz az) (hd : (az == ("__debug__" : Str)) = false := by decide) (hcd : (az == ("__classdict__" : Str)) = false := by decide) :
    PE ((cxOf CXg X.prog X.w X.K X.mg X.base Nz qz sz g cdz X.A X.stack s H Eg).tr pn xe) (.Call (.Name az p1) [] [] p2)
      (fun σZ HZ Qy => σZ[0]? = some (some (.ref fl)) ∧ HZ cl = some (CodeO cl q) ∧ tb (fun cls d H' => W cls d σZ H') (startF N [] ws) HZ Qy) := by
  refine ⟨fun pinsZ sZ σZ HZ Qy IZ h => ?_⟩
  obtain ⟨hs, hc, hb⟩ := h
  refine wpAny_Call_Name_kw (thn ((pe_var (pos := p1) (i := 0) hN hv hd hcd).run pinsZ sZ σZ HZ (fun v H1 => v = .ref fl ∧ H1 = HZ) IZ ⟨.ref fl, hs, rfl, rfl⟩) fun u s1 ⟨v, H1, I1, r1, q1⟩ => ?_)
  obtain ⟨ev, eH⟩ := q1
  subst ev
  rw [eH] at I1
  obtain rfl : u = Value.ref fl := r1
  have of1 : s1.heap.get? fl = some (PySem.W.kla_obj "<lambda>" q pars bd scp cs pmz cl ctz) := I1.base.keep fl _ hf hfn hfr (fun z => nomatch (show fl ∈ ([] : List Addr) from z))
  refine PySem.W.callWith_F0 (first := []) ⟨_, _, _, _, of1⟩ ?_
  show wpAny _ _ (call (.ref fl) []) _ _ _
  have un : Un (frs X.stack) [] H HZ s.heap s1.heap := I1.base
  have rc : codeAny (model X.prog X.w) (X.A.deeper (envOfC qz sz s.heap.objs.size g cdz)) (.call (.ref fl) ⟨[], []⟩) (CR (L2.CX X.prog X.w) (envOfC qz sz s.heap.objs.size g cdz :: X.stack) X.prog X.w HZ s1 Qy (fun cls d H' => W cls d σZ H')) s1 :=
    lam_run (k := k) S hbind hr I1.env0 of1 hc (cells_later C un) .nil rfl (fun hr2 => hbody _ _ _ _ _ hr2) hb
  refine wpAny_call (codeAny_mono rc fun r s' hq => ?_)
  cases r with
  | error e => exact tk e s' (XE.of_call I1 (fun cls d H' h => h) hq)
  | ok fw =>
    cases fw with
    | ret u => exact I1.after hq
    | next => exact False.elim hq
    | brk => exact False.elim hq
    | cont => exact False.elim hq
/-- the def g (one parameter, called in it): TT is what it makes of the lambda's reading -/
def GivesR (X : Cx) (k : Nat) (Nz : List Str) (xg : Str) (sz : Scope) (g : Addr) (cdz : Value) (bz : List Stmt) (az : Str) (qz : Str) (TT : (XK → Hp → VK → Prop) → Hp → VK → Prop) : Prop :=
  ∀ (fl cl : Addr) (sz0 : Shared) (Hz : Hp) (Qz : VK) (tl : XK → Hp → VK → Prop), Room k (X.A.deeper (envOfC xg sz sz0.heap.objs.size g cdz)) →
    (∀ (W : WX) (pn : List (Addr × Obj)) (xe : Value → Shared → Prop) (p1 p2 : Pos), Takes ((cxOf C8.CX0 X.prog X.w X.K X.mg X.base Nz xg sz g cdz X.A X.stack sz0 Hz C8.E0).tr pn xe) W →
      PE ((cxOf C8.CX0 X.prog X.w X.K X.mg X.base Nz xg sz g cdz X.A X.stack sz0 Hz C8.E0).tr pn xe) (.Call (.Name az p1) [] [] p2) (fun σZ HZ Qy => σZ[0]? = some (some (.ref fl)) ∧ HZ cl = some (CodeO cl qz) ∧ tl (fun cls d H' => W cls d σZ H') HZ Qy)) →
    Hz cl = some (CodeO cl qz) → TT tl Hz Qz →
    ∃ t, PSs (cxOf C8.CX0 X.prog X.w X.K X.mg X.base Nz xg sz g cdz X.A X.stack sz0 Hz C8.E0).nox bz t ∧ t { nx := fun _ H' => Qz .non H', rt := Qz } (L2.start Nz [.ref fl]) Hz
def tLamR (T : List (Addr × Str)) (TT : (XK → Hp → VK → Prop) → Hp → VK → Prop) (t : XK → TE) (js : List Nat) (N : List Str) : TE := fun σ H Q => Tabs T H ∧ ∀ H1, ExtN H H1 → Tabs T H1 → TT (fun E H' Q' => t E (startF N [] (js.map (slotAt σ))) H' Q') H1 Q
/-- the call xg(lambda: bd) -/
theorem pe_lamR {T : List (Addr × Str)} {TT : (XK → Hp → VK → Prop) → Hp → VK → Prop} {xg az : Str} {g cc Pz : Addr} {k : Nat} {pz : Arguments} {bz : List Stmt} {sz : Scope} {dVz kVz docz pmz cdz ctz ocz : Value} {anz odz : Option Addr} {slz : Array (Option Value)} {Nz N fr : List Str} {js : List Nat}
    {pars : Arguments} {bd : Expr} {scp : Scope} {tz : XK → TE} {pp lp ps : Pos} (hg : Gl X xg) (hm : X.mg xg = some (.ref g)) (hkp : PySem.W.keepIn X.K (.ref g) = true)
    (lk : X.K.lookup g = some ⟨ocz, odz, .func (PySem.W.fnOf xg xg pz bz sz dVz kVz docz pmz anz cdz ctz), slz⟩) (hcz : PySem.W.codeIn X.K cdz xg = true) (hbz : L2.Binds X.K (PySem.W.fnOf xg xg pz bz sz dVz kVz docz pmz anz cdz ctz) [az] []) (Sz : FnScope Nz [az] sz) (hNz : Nz[0]? = some az) (hvz : Vis sz az)
    (hG : GivesR X (k + 1) Nz xg sz g cdz bz az (X.env.qual ++ "<lambda>") TT)
    (TB : TabB X.base X.mg cc Pz) (hcd : X.env.code = .ref cc) (hmT : (Pz, X.env.qual ++ "<lambda>") ∈ T) (hone : ∀ p ∈ T, p.1 = Pz → p.2 = X.env.qual ++ "<lambda>") (hr : Room (k + 2) X.A) (S : NScope N [] fr scp)
    (hfree : ∀ y ∈ scp.names, y.2 = .free → X.env.scope.names.lookup y.1 = some .cell ∨ X.env.scope.names.lookup y.1 = some .free) (hfr : ∀ y ∈ fr, (y, NameKind.free) ∈ scp.names) (hjs : js.map (fun j => X.N[j]?) = fr.map some)
    (hdef : defaultsOf pars X.env = ([], []))
    (hbind : ∀ (q : Str) (cl : List (Str × Addr)) (pm cv ctv : Value), bindArgs (PySem.W.kla_fn "<lambda>" q pars bd scp cl pm cv ctv) ⟨[], []⟩ = pure [])
    (hbd : ∀ (A : Around) (outer : List PySem.Env) (s : Shared) (H : Hp) (E : XK) (fl cl : Addr), Room k (A.deeper (envF (lamF (X.env.qual ++ "<lambda>") pars scp (cloFrom X.env.cells scp.names []) cl) fl s.heap.objs.size)) →
      PE (ncx (L2.CX X.prog X.w) X.prog X.w X.K X.mg X.base N (lamF (X.env.qual ++ "<lambda>") pars scp (cloFrom X.env.cells scp.names []) cl) fl A outer s H E) bd (tz E))
    (hdb : (xg == ("__debug__" : Str)) = false := by decide) (hda : (az == ("__debug__" : Str)) = false := by decide) (hdc : (az == ("__classdict__" : Str)) = false := by decide) :
    PE X (.Call (.Name xg pp) [.Lambda pars bd scp lp] [] ps) (tLamR T TT tz js N) := by
  refine ⟨fun pn sh σ G Qz J hyp => ?_⟩
  obtain ⟨tabs, hyp⟩ := hyp
  refine wpAny_Call_Name_kw (ld_glob J hg hm ?_ hdb)
  refine PySem.W.callWith_K (h₀ := X.base) J.ok.mod.kin hkp ?_ (by rfl) (by rfl)
  show wpAny _ _ (spliced ((false, eval (.Lambda pars bd scp lp) X.env) :: backTo ps (starEach [] X.env))) _ _ sh
  have hfr2 : ∀ y ∈ scp.names, y.2 = .free → ∃ c, X.env.cells.lookup y.1 = some c := fun y hy e => (hfree y hy e).elim (fun z => J.ok.has _ (.inl z)) fun z => J.ok.has _ (.inr z)
  refine Calls.spliced_cons (lam_make2 J TB hcd hmT hone tabs hdef hfr2 fun fl cl pm2 ct2 G1 sh1 J1 eN T1 hfl hfn hfr' hco => ?_)
  refine Calls.spliced_nil ⟨J1.kIn, ?_⟩
  have cp := cells_of J1 (Caps.made J1.ok hfree hfr hjs)
  have ran : codeAny (model X.prog X.w) X.A (.call (.ref g) ⟨[.ref fl], []⟩) (CR C8.CX0 X.stack X.prog X.w G1 sh1 Qz C8.E0) sh1 := by
    refine run_ofS (N := Nz) (ps := [az]) (us := [.ref fl]) (vs := [.ref fl]) lk hcz Sz hr J1.env0 (hbz sh1 [.ref fl] J1.kIn rfl) (.cons rfl .nil) rfl fun hr2 => ?_
    obtain ⟨t', ht', hq'⟩ := hG fl cl sh1 G1 Qz (fun E H' Q' => tz E (startF N [] (js.map (slotAt σ))) H' Q') hr2 (fun W pn2 xe p1 p2 tk => pe_act0 S cp hfl hfn hfr' (hbind _ _ _ _ _) tk hr2 (fun A outer s H E hr3 => hbd A outer s H E fl cl hr3) hNz hvz hda hdc) hco (hyp G1 eN T1)
    exact ⟨t', ht'.nox, hq'⟩
  refine wpAny_call (codeAny_mono ran fun res sh2 hq => ?_)
  cases res with
  | error e => exact (show False from hq).elim
  | ok fw =>
    cases fw with
    | ret u => exact J1.after hq
    | next => exact False.elim hq
    | brk => exact False.elim hq
    | cont => exact False.elim hq
end
end KX

set_option maxRecDepth 100000
set_option maxHeartbeats 4000000
namespace KX
open PySem PySem.Spec PyProof.Rows L2
/-! ### tuple * number, the empty tuple too -/
theorem tuple_mul0 (l : Addr) (n : Nat) (dd : Option Addr) (sl : Array (Option Value)) (x : Int) (u : Tok) (c0 : (decide (x < -(2 ^ 63)) || decide (x ≥ 2 ^ 63)) = false) :
    Meets (Builtin.«tuple.__mul__» ⟨[.ref l, .int x u], []⟩) (fun _ R s => s.heap.get? l = some { cls := .type "tuple", dict := dd, data := .seq #[] n, slots := sl } ∧ R (.ok (.ret (Value.ref l))) s) :=
  .of_wp fun prog w A R s h => by
    obtain ⟨hp, g, d, tk, os⟩ := s
    obtain ⟨hl, h⟩ := h
    have c1 : ((#[] : Array Value).isEmpty || x == 1) = true := rfl
    have f1 := AutoSeq1.idx_int
    wp_walk using wpAny_loadPart' hl
    refine wpAny_ite_false (decide_eq_false (by rw [c0]; exact Bool.false_ne_true)) ?_
    wp_walk using wpAny_loadPart' hl
    exact ⟨_, rfl, h⟩
def rRepE (K : PySem.W.Frag) : R2 := fun x y H Q => ∃ l k xs, x = .ref l ∧ y = .int k ∧ SqT K H l xs ∧ 2 ≤ k ∧ k ≤ 1000 ∧ xs.length ≤ 1000 ∧ (xs = [] → Q (.ref l) H) ∧ (xs ≠ [] → ∀ p, H p = none → Q (.ref p) (upd H p (.tup (List.replicate k.toNat xs).flatten)))
theorem op_repE {X : Cx} : OpR X (binaryOp .Mult) (rRepE X.K) := by
  intro pins s σ H x y v u Q I rx ry h
  obtain ⟨l, k, xs, rfl, rfl, hT, h1, h2, hz, q0, q1⟩ := h
  by_cases hne : xs = []
  · subst hne
    cases rx
    obtain ⟨t, rfl⟩ := ry
    obtain ⟨its, r, ⟨⟨cls, dd, data, sl⟩, ho, hc, n, hd⟩, hs⟩ := I.tuple hT
    simp only at hc hd
    subst hc hd
    cases r
    have c0 : (decide (k < -(2 ^ 63)) || decide (k ≥ 2 ^ 63)) = false := by
      rw [decide_eq_false (by omega), decide_eq_false (by omega)] <;> rfl
    exact wpAny_binaryOp_repeat_ref (T := "tuple") (U := "int") (by decide) ⟨_, ho, rfl⟩ (fun s' => typeIs_int s' k t) noFill_tuple_mul F.fills_int_mul F.slot_int_rmul repeat_tuple F.slot_int_index.lookup
      (call_meets F.slot_int_rmul (typeIs_int s k t) F.entry_int_rmul (F.args_int_rmul_2 _ _) (int_rmul_tuple k t l #[] n dd sl)
        ⟨ho, rfl, ⟨_, ho, rfl⟩, call_meets F.slot_tuple_mul ⟨_, ho, rfl⟩ F.entry_tuple_mul (F.args_tuple_mul_2 _ _) (tuple_mul0 l n dd sl k t c0) ⟨ho, ⟨.ref l, H, I, rfl, q0 rfl⟩⟩⟩)
  · exact op_repT pins s σ H (.ref l) (.int k) v u Q I rx ry ⟨l, k, xs, rfl, rfl, hT, hne, h1, h2, hz, q1 hne⟩
section
variable {l : Addr} {P : PSt} {K : PySem.W.Frag} {ta tb : TE} {ds : List PyData}
theorem gd_repE {k : Int} (kp : Kp l P) (h : GD l P (· = .tuple ds) ta) (hb : GI l P (· = k) tb) (k2 : 2 ≤ k) (k1 : k ≤ 1000) (hz : ds.length ≤ 1000) :
    GD l P (· = .tuple (List.replicate k.toNat ds).flatten) (tOp (rRepE K) ta tb) := fun σ H Q st p q =>
  h σ H _ st p fun H1 v e s k1' st1 x => hb σ H1 _ st1 (kp _ _ _ k1' st1 p) fun H2 i hb k2' st2 => by
    subst s hb
    obtain ⟨a, xs, rfl, na, ea, hx⟩ := dx_tupOf (x.up k2'.same)
    have hl := hx.len
    refine ⟨a, i, xs, rfl, rfl, .inl (.inl ea), k2, k1, by omega, fun z => ?_, fun _ b nb => q _ _ _ rfl ((k1'.trans k2').new nb) (st2.new nb) (dx_tup nb st2 (dxs_rep hx _))⟩
    subst z
    have e : ds = [] := List.eq_nil_of_length_eq_zero (by simpa using hl.symm)
    subst e
    have e2 : (List.replicate i.toNat ([] : List PyData)).flatten = [] := by simp
    rw [e2] at q
    exact q _ _ _ rfl (k1'.trans k2') st2 (x.up k2'.same)
end
end KX

set_option maxRecDepth 100000
set_option maxHeartbeats 4000000
namespace KX
open PySem PySem.Spec PyProof.Rows L2 PySem.W
/-! ### sorted(t), t a tuple of alike data -/
section
variable {prog : Program} {w : World} {A : Around} {E : Value → Shared → Prop} {s : Shared} {β : Type} {us : List Value} {ps : List β} {code : β → PyData} {Rz : Value → β → Prop}
theorem each_later {h h' : Heap} (kp : ∀ b o, h.get? b = some o → h'.get? b = some o) (er : EachIs (fun v b => ∃ as, Reads h v (code b) as) us ps) : EachIs (fun v b => ∃ as, Reads h' v (code b) as) us ps :=
  er.mono fun _ _ ⟨as, r⟩ => ⟨as, PyProof.Rows.Reads.keeps kp r⟩
theorem sorted_tupD {tp : Addr} {ob : Obj} {n : Nat} {Qz : Value → Shared → Prop} (ho : s.heap.get? tp = some ob) (hc : ob.cls = .type "tuple") (hd : ob.data = .seq us.toArray n) (e : EachIs Rz us ps) (er : EachIs (fun v b => ∃ as, Reads s.heap v (code b) as) us ps)
    (hal : AllAlike (ps.map code)) (hk : Sortable (ps.map code)) (hL : ps.length ≤ sizeLine) (hu : ∀ b, b ∈ ps → A.units + 2 + (code b).depth < cLine)
    (hq : ∀ (h' : Heap) (out : List Value), (∀ b o, s.heap.get? b = some o → h'.get? b = some o) → out.length = ps.length → EachIs Rz out (ps.mergeSort (dataLe false code)) →
      Qz (.ref h'.objs.size) { s with heap := sortedHeap (h'.push (seqObj "list" us.toArray 0)) h'.objs.size us (List.toArray out) }) :
    wpAny (model prog w) A (call (.builtin "sorted") [.ref tp]) Qz E s := by
  have hlen : us.length ≤ sizeLine := by rw [e.length]; exact hL
  refine call_function_entry_kw kind_sorted plain_sorted entry_sorted (args_sorted1 _) ?_
  unfold Builtin.«sorted»
  refine wpAny_bind (m := checkCount "sorted" 1 1 _) (wpAny_pure ?_)
  refine wpAny_bind (wpAny_collect_seq tp (.inr rfl) ho hc hd (fun h1 kp => ?_) (by rw [List.size_toArray]; exact hlen))
  rw [List.toList_toArray]
  refine wpAny_bind (wpAny_newList ?_ hlen)
  have at1 : (h1.push (seqObj "list" us.toArray 0)).get? h1.objs.size = some (seqObj "list" us.toArray 0) := Heap.get?_push_size _ rfl
  have old1 : ∀ b o, s.heap.get? b = some o → (h1.push (seqObj "list" us.toArray 0)).get? b = some o := fun b o q => Heap.get?_push_of_some _ (kp b o q)
  refine wpAny_bind (wpAny_holding (wpAny_call_entry_kw slot_list_sort ⟨_, at1, rfl⟩ entry_list_sort ?body (args_list_sort _)))
  case body =>
    show wpAny (model prog w) A.in1.in1 (Builtin.«list.sort» ⟨[.ref h1.objs.size], []⟩) _ _ { s with heap := h1.push (seqObj "list" us.toArray 0) }
    have er' : EachIs (fun v b => ∃ as, Reads (sortingHeap (h1.push (seqObj "list" us.toArray 0)) h1.objs.size us) v (code b) as) us ps :=
      each_later (fun b o q => sortingHeap_old (Nat.ne_of_lt (Heap.lt_size (kp b o q))) (old1 b o q)) er
    refine list_sort_vals (s := { s with heap := h1.push (seqObj "list" us.toArray 0) }) at1 (SortsAt.data (s := { s with heap := sortingHeap (h1.push (seqObj "list" us.toArray 0)) h1.objs.size us }) (each_map (R := fun v d => ∃ as, Reads (sortingHeap (h1.push (seqObj "list" us.toArray 0)) h1.objs.size us) v d as) code er') hal hk (bound_map hu)) hlen ?_
    exact ⟨.none, rfl, wpAny_pure ⟨_, rfl, hq h1 _ kp (by rw [sortVals_length false rfl]; exact e.length) (sortVals_data false e er' hal)⟩⟩
end
section
variable {X : Cx}
/-- sorted(t), t a tuple of alike data -/
def rSortT {β : Type} (K : PySem.W.Frag) (enc : β → PyData) : List V → Hp → VK → Prop := fun vs H Q => ∃ (a : Addr) (bs : List (V × β)), vs = [.ref a] ∧ SqT K H a (bs.map (·.1)) ∧ (∀ b ∈ bs, Dp K H b.1 (enc b.2)) ∧ AllAlike (bs.map fun b => enc b.2) ∧ Sortable (bs.map fun b => enc b.2) ∧
  (∀ b ∈ bs, (enc b.2).depth ≤ 50) ∧ ∀ p, H p = none → Q (.ref p) (L2.upd H p (.lst ((bs.mergeSort (dataLe false fun b => enc b.2)).map (·.1))))
theorem cr_sortT {β : Type} {enc : β → PyData} {k : Nat} (hr : Room k X.A) : CallR X (.builtin "sorted") (rSortT X.K enc) := by
  intro pins s σ H vs us Q I r h
  obtain ⟨a, bs, e, hS, hd, hal, hk, hu, q⟩ := h
  subst e
  obtain ⟨u, rfl, ru⟩ := vals1 r
  cases ru
  obtain ⟨its, rv, ⟨ob, ho, hc, n, hdat⟩, hz⟩ := I.tuple hS
  have hlen := rv.length
  rw [List.length_map] at hlen hz
  have er : EachIs (fun v (b : V × β) => ∃ as, Reads s.heap v (enc b.2) as) its bs := each_pairs (by omega) fun i u b e f => by
    obtain ⟨u', e', ru⟩ := rv.get (i := i) (x := b.1) (by rw [List.getElem?_map, f]; rfl)
    rw [e] at e'
    cases e'
    exact Dp.reads I (enc b.2) b.1 u (hd b (List.mem_of_getElem? f)) ru
  have eR : EachIs (fun v (b : V × β) => RelV b.1 v) its bs := each_pairs (by omega) fun i u b e f => by
    obtain ⟨u', e', ru⟩ := rv.get (i := i) (x := b.1) (by rw [List.getElem?_map, f]; rfl)
    rw [e] at e'
    cases e'
    exact ru
  have hun := hr.un
  refine sorted_tupD (code := fun b : V × β => enc b.2) ho hc hdat eR er hal hk (by omega) (fun b hb => by have := hu b hb; omega) fun h1 out kp hl he => ?_
  have rel : ∀ {ws : List Value} {ps : List (V × β)}, EachIs (fun v (b : V × β) => RelV b.1 v) ws ps → Vals (ps.map (·.1)) ws := by
    intro ws ps e
    induction e with
    | nil => exact .nil
    | cons h t ih => exact .cons h ih
  have at1 : (h1.push (seqObj "list" its.toArray 0)).get? h1.objs.size = some (seqObj "list" its.toArray 0) := Heap.get?_push_size _ rfl
  obtain ⟨ep, hep⟩ := sortedHeap_at (out := out.toArray) at1
  have J : Inv X pins σ H { s with heap := h1 } := I.kept (t' := s.toks) kp
  have old : ∀ b o, h1.get? b = some o → (sortedHeap (h1.push (seqObj "list" its.toArray 0)) h1.objs.size its out.toArray).get? b = some o := fun b o q => by
    have lt := Heap.lt_size q
    rw [sortedHeap_old (Nat.ne_of_lt lt) (by rw [size_push']; exact Nat.lt_succ_of_lt lt)]
    exact Heap.get?_push_of_some _ q
  refine ⟨.ref h1.objs.size, _, J.laid (t' := s.toks) old (Nat.le_refl _) (o := .lst ((bs.mergeSort (dataLe false fun b => enc b.2)).map (·.1))) ⟨?_, out, ep, rel he, hep⟩, rfl, q _ (J.hok.fresh (Nat.le_refl _))⟩
  rw [List.length_map, List.length_mergeSort]
  omega
end
end KX

set_option maxRecDepth 100000
set_option maxHeartbeats 4000000
namespace KX
open PySem PySem.Spec PyProof.Rows
/-! ### set(t), t a tuple of texts, any number of them -/
/-- how many texts of the first i are there for the first time -/
def dcnt (ts : List Str) : Nat → Nat
  | 0 => 0
  | i + 1 => if ((ts.take i).any fun y => y == ts.getD i Str.empty) = true then dcnt ts i else dcnt ts i + 1
theorem dcnt_le (ts : List Str) : ∀ i, dcnt ts i ≤ i
  | 0 => Nat.le_refl _
  | i + 1 => by
    have := dcnt_le ts i
    unfold dcnt
    split <;> omega
abbrev sawS (ts : List Str) (i : Nat) : Str → Bool := fun y => (ts.take i).any fun z => z == y
section
variable {prog : Program} {w : World} {A : Around} {R : Result → Shared → Prop} {It : Addr} {fz wz : List Addr} {Gz : Array GenState → Array GenState → Prop} {m : Nat} {Pz : Nat → Value → Prop} {Sz : Nat → Shared → Prop}
theorem loopTxt (Wk : WalksS prog w A.in1 It fz wz Gz m Pz Sz) (D : Addr) (nD : D ∉ fz) (ts : List Str) (lm : ts.length = m) (few : m + 1 < scanBound) (isT : ∀ i v, Pz i v → ∃ t, v = .str (ts.getD i Str.empty) t) :
    ∀ (c i : Nat) (s : Shared), m - i = c → i ≤ m → Sz i s → s.heap.SetOf (PySem.strKind prog w) D (sawS ts i) (dcnt ts i) →
      (∀ s', Moved (D :: wz) Gz s s' → s'.heap.SetOf (PySem.strKind prog w) D (sawS ts m) (dcnt ts m) → R (.ok (.ret .none)) s') → codeAny (model prog w) A (.builtin "set.update.loop" ⟨[.ref D, .ref It], []⟩) R s := by
  have nDw : D ∉ wz := fun z => nD (Wk.sub _ z)
  have more : ∀ b ∈ wz, b ∈ D :: wz := fun b z => List.mem_cons_of_mem _ z
  intro c
  induction c with
  | zero =>
    intro i s ec le st so fin
    obtain rfl : i = m := by omega
    refine codeAny_builtin F.entry_set_update_loop ?_
    rw [Around.under_plainId F.plain_set_update_loop _]
    show wpAny _ A.in1 (pyNext (.ref It) >>= _) _ _ s
    refine wpAny_bind (Wk.done s _ _ st fun s1 mv => ?_)
    refine wpAny_pure (fin s1 (mv.mono more) ?_)
    obtain ⟨ob, es, ep, tb, eo, more2⟩ := so
    exact ⟨ob, es, ep, tb, mv.heap D _ nDw eo, more2⟩
  | succ c again =>
    intro i s ec le st so fin
    have lt : i < m := by omega
    refine codeAny_builtin F.entry_set_update_loop ?_
    rw [Around.under_plainId F.plain_set_update_loop _]
    show wpAny _ A.in1 (pyNext (.ref It) >>= _) _ _ s
    refine wpAny_bind (Wk.item i s _ _ lt st fun v s1 hv st1 mv => ?_)
    obtain ⟨tk, rfl⟩ := isT i v hv
    have so1 : s1.heap.SetOf (PySem.strKind prog w) D (sawS ts i) (dcnt ts i) := by
      obtain ⟨ob, es, ep, tb, eo, more2⟩ := so
      exact ⟨ob, es, ep, tb, mv.heap D _ nDw eo, more2⟩
    obtain ⟨x, ex⟩ : ∃ x, x = ts.getD i Str.empty := ⟨_, rfl⟩
    have gx : ts[i]? = some x := by
      rw [ex, List.getD_eq_getElem?_getD, List.getElem?_eq_getElem (by omega)]
      rfl
    rw [← ex]
    show wpAny _ A.in1 (holding [Value.str x tk] (setAdd D (.str x tk)) >>= _) _ _ s1
    refine wpAny_bind (wpAny_holding ?_)
    unfold setAdd
    refine wpAny_holding (wpAny_bind ((PySem.strKind prog w).pyHash (k := x) (strKind_is _ _ _ _) ?_))
    have le1 := dcnt_le ts i
    refine wpAny_setAddHashed_of (knd := PySem.strKind prog w) (s := { s1 with toks := s1.toks + 1 }) (strKind_is _ _ _ _) rfl so1 (by omega) fun h2 but so2 => ?_
    have so3 : h2.SetOf (PySem.strKind prog w) D (sawS ts (i + 1)) (dcnt ts (i + 1)) := by
      refine SetOf_congr so2 (fun y => ?_) ?_
      · show ((ts.take i).any (fun z => z == y) || decide (y = x)) = (ts.take (i + 1)).any fun z => z == y
        rw [List.take_add_one, gx, List.any_append]
        congr 1
        show decide (y = x) = ((x == y) || false)
        rw [Bool.or_false]
        by_cases e : y = x
        · subst e; simp
        · rw [decide_eq_false e]
          exact (beq_eq_false_iff_ne.mpr fun z => e z.symm).symm
      · show (if ((ts.take i).any fun z => z == x) = true then dcnt ts i else dcnt ts i + 1) = dcnt ts (i + 1)
        rw [dcnt, ← ex]
    refine wpAny_pure ⟨plainId_quiet F.plain_set_update_loop _, again (i + 1) _ (by omega) lt (Wk.frame _ s1 _ _ st1 (Nat.le_succ _) fun b hb o e => ?_) so3 fun s3 mv3 so4 => ?_⟩
    · rw [but.2 b (fun z : b = D => nD (by rw [← z]; exact hb))]
      exact e
    · refine fin s3 (Moved.trans Wk.gtrans ((mv.mono more).then_heap (Nat.le_succ _) fun b o hb e => ?_) mv3) so4
      rw [but.2 b (fun z : b = D => hb (by rw [z]; exact List.mem_cons_self))]
      exact e
end
abbrev nSet (ld : Bool) : Obj := { cls := .type "set", dict := none, data := .set #[] 0 (.fresh 0 0 ld) }
section
variable {prog : Program} {w : World} {A : Around} {E : Value → Shared → Prop} {s : Shared}
theorem call_setTxt {tp : Addr} {ys : Array Value} {ts : List Str} {Q : Value → Shared → Prop} (noh : A.handled = none) (ht : s.heap.IsTuple tp ys) (are : StrsAre ys.toList ts) (few : ts.length + 1 < scanBound)
    (fin : ∀ (h2 : Heap) (tk : Nat), h2.SetOf (PySem.strKind prog w) s.heap.objs.size (sawS ts ts.length) (dcnt ts ts.length) → (∀ b o, b < s.heap.objs.size → s.heap.get? b = some o → h2.get? b = some o) →
      Q (.ref s.heap.objs.size) { s with heap := h2, toks := tk }) : wpAny (model prog w) A (call (.type "set") [.ref tp]) Q E s := by
  obtain ⟨c1, tl1, gmro⟩ := PySem.F.called_set.mro
  have gmade := PySem.F.called_set.made
  have gsub := PySem.F.called_set.sub
  have g1 := PySem.F.called_set.notType
  have g2 := PySem.F.called_set.canCreate
  have gct := PySem.F.typeCall_set_1 (.ref tp)
  refine wpAny_call (codeAny_of_tree (show wpAny _ _ (callAny (.type "set") _) _ _ _ from wpAny_pure ⟨Code.quiet_builtin _ (by decide +kernel), codeAny_builtin PySem.F.entry_type_call ?_⟩))
  rw [Around.under_plain (weight_type_call_type "set" [.ref tp] []) rfl]
  repeat (any_goals (first | wp_step | assumption))
  refine codeAny_mono (code_set_new_1 (.ref tp) (E := E) (Q₁ := fun ob t1 => ∃ ld : Bool, ob = .ref s.heap.objs.size ∧ t1 = { s with heap := s.heap.push (nSet ld) }) fun ld => ⟨ld, rfl, rfl⟩) fun r1 t1 k1 => ?_
  cases r1 with
  | error e => exact k1
  | ok f1 =>
    cases f1 with
    | ret ob =>
      obtain ⟨ld, eo, et⟩ := k1
      subst eo et
      have atS : (s.heap.push (nSet ld)).get? s.heap.objs.size = some (nSet ld) := Heap.get?_push_size _ rfl
      have tyS : Shared.TypeIs { s with heap := s.heap.push (nSet ld) } (.ref s.heap.objs.size) "set" := ⟨_, atS, rfl⟩
      have gli := PySem.F.called_set.init.lookup
      have gbi := PySem.F.called_set.init.bind (.ref s.heap.objs.size)
      repeat (any_goals (first | wp_step | assumption))
      refine codeAny_mono (codeAny_call_builtin (R := wants (fun r t2 => r = .none ∧ ∃ h2 tk, t2 = { s with heap := h2, toks := tk } ∧ h2.SetOf (PySem.strKind prog w) s.heap.objs.size (sawS ts ts.length) (dcnt ts ts.length) ∧
          (∀ b o, b < s.heap.objs.size → s.heap.get? b = some o → h2.get? b = some o)) E) PySem.F.called_set.init.plain PySem.F.entry_set_init (check_set_init_1 tyS ?_)) fun r2 t2 k2 => ?_
      · obtain ⟨⟨oc, od, odat, osl⟩, eT, ec, nT, ed⟩ := ht
        simp only at ec ed
        subst ec
        subst ed
        have eT2 : (s.heap.push (nSet ld)).get? tp = some { cls := .type "tuple", dict := od, data := .seq ys nT, slots := osl } := Heap.get?_push_of_some _ eT
        have b1 := PySem.F.sub_tuple_set
        have b2 := PySem.F.sub_tuple_frozenset
        have b3 : (Value.type "tuple" == Value.type "dict") = false := by decide
        have isT : (s.heap.push (nSet ld)).IsTuple tp ys := ⟨_, eT2, rfl, nT, rfl⟩
        unfold Builtin.«set.__init__» noKeywords Builtin.Frozenset.updateFrom
        generalize kept : pyIter = iterF
        wp_walk
        subst kept
        refine wpAny_pyIter_tuple isT (wpAny_bind (wpAny_runValue ?_))
        have ltp : tp < s.heap.objs.size := Heap.lt_size eT
        have noh3 : A.in1.in1.in1.handled = none := by simp [noh]
        have szP : (s.heap.push (nSet ld)).objs.size = s.heap.objs.size + 1 := Heap.size_push ..
        have ne1 : tp ≠ (s.heap.push (nSet ld)).objs.size := by rw [szP]; exact Nat.ne_of_lt (Nat.lt_succ_of_lt ltp)
        have ne2 : s.heap.objs.size ∉ [(s.heap.push (nSet ld)).objs.size, tp] := by
          rw [szP]
          simp only [List.mem_cons, List.not_mem_nil, or_false, not_or]
          exact ⟨Nat.ne_of_lt (Nat.lt_succ_self _), Nat.ne_of_gt ltp⟩
        have lz : ts.length = ys.size := by rw [← StrsAre.len_eq are, Array.length_toList]
        refine loopTxt ((Walks.tuple noh3 _ tp ne1 ys).toS) s.heap.objs.size ne2 ts lz (by rw [← lz]; exact few) (fun i v hv => SS.strs_at are i v (by rw [Array.getElem?_toList]; exact hv)) (ys.size - 0) 0 _ (by omega) (Nat.zero_le _)
          ⟨⟨_, Heap.get?_push_size _ rfl, rfl, rfl⟩, (isT.push _)⟩ ?z0 ?z1
        case z0 =>
          have gg : ((s.heap.push (nSet ld)).push { cls := .type "tuple_iterator", data := .fields #[.ref tp, .int 0 0] }).get? s.heap.objs.size = some (nSet ld) := Heap.get?_push_of_some _ atS
          exact SetOf_congr ((setObjOf_fresh (knd := PySem.strKind prog w) ld).setOf gg (by unfold scanBound; omega)) (fun _ => rfl) rfl
        case z1 =>
          intro t3 mv so
          obtain ⟨h3, g3, d3, k3, o3⟩ := t3
          obtain rfl : g3 = s.gens := mv.gens
          obtain rfl : d3 = s.drawn := mv.drawn
          obtain rfl : o3 = s.os := mv.os
          rw [← lz] at so
          show wpAny _ _ _ _ _ _
          refine wpAny_pure (show wpAny _ _ (ret Value.none) _ _ _ from wpAny_pure ⟨rfl, h3, k3, rfl, so, fun b o hb e => ?_⟩)
          refine mv.heap b o ?_ (Heap.get?_push_of_some _ (Heap.get?_push_of_some _ e))
          rw [szP]
          simp only [List.mem_cons, List.not_mem_nil, or_false, not_or]
          exact ⟨Nat.ne_of_lt hb, Nat.ne_of_lt (Nat.lt_succ_of_lt hb)⟩
      · cases r2 with
        | error e => exact k2
        | ok f2 =>
          cases f2 with
          | ret r =>
            obtain ⟨rfl, h2, tk, rfl, so, old⟩ := k2
            repeat (any_goals (first | wp_step | assumption))
            exact fin _ _ so old
          | _ => exact k2.elim
    | _ => exact k1.elim
end
end KX

set_option maxRecDepth 100000
set_option maxHeartbeats 2000000
namespace KX
open PySem PySem.Spec PyProof.Rows L2
/-! ### len(set(t)), t a tuple of texts -/
section
variable {X : Cx} {pos : Pos}
theorem dcnt_nodup : ∀ (ts : List Str), ts.Nodup → ∀ i, i ≤ ts.length → dcnt ts i = i
  | ts, nd, 0, _ => rfl
  | ts, nd, i + 1, h => by
    have e : ((ts.take i).any fun y => y == ts.getD i Str.empty) = false := by
      rw [List.any_eq_false]
      intro y hy
      obtain ⟨j, hj, ej⟩ := List.getElem_of_mem hy
      rw [List.length_take] at hj
      rw [List.getElem_take] at ej
      have gi : ts.getD i Str.empty = ts[i] := by
        rw [List.getD_eq_getElem?_getD, List.getElem?_eq_getElem (by omega)]
        rfl
      rw [gi]
      intro z
      have z := (beq_iff_eq.mp z)
      rw [← ej] at z
      have := (List.nodup_iff_pairwise_ne.mp nd)
      rw [List.pairwise_iff_getElem] at this
      exact this j i (by omega) (by omega) (by omega) z
    unfold dcnt
    rw [e, if_neg (by decide), dcnt_nodup ts nd i (by omega)]
def tLenSetT (K : PySem.W.Frag) (ta : TE) : TE := fun σ H Q => ta σ H fun x H1 => ∃ (l : Addr) (ts : List Str), x = .ref l ∧ SqT K H1 l (ts.map V.str) ∧ ts.length ≤ 1000 ∧ Q (.int (dcnt ts ts.length : Int)) H1
theorem pe_lenSetT {e0 : Expr} {ta : TE} {pa pb pc pd : Pos} (cm : X.calm = true) (gl : Gl X "len") (ml : X.mg "len" = none) (gs : Gl X "set") (ms : X.mg "set" = none) (he : PE X e0 ta)
    (se : starEach [e0] X.env = (false, eval e0 X.env) :: starEach [] X.env := by rfl) : PE X (.Call (.Name "len" pa) [.Call (.Name "set" pb) [e0] [] pc] [] pd) (tLenSetT X.K ta) := by
  refine ⟨fun pn sh σ G Qz J hyp => ?_⟩
  refine Call_ (ld_blt J gl ml boot_len ?_)
  refine callWith_builtin1 (args_cons ?_ rfl) rfl rfl
  refine Call_ (ld_blt J gs ms boot_set ?_)
  refine callWith_type1 (args_cons (thn (he.run pn sh σ G _ J hyp) fun v s1 ⟨x, H1, I1, r1, q1⟩ => args_nil ?_) se) se rfl
  obtain ⟨l, ts, rfl, hq, few, q1⟩ := q1
  cases r1
  obtain ⟨its, r, pl, hz⟩ := I1.tuple hq
  have hb : (1001 : Nat) < scanBound := by decide
  refine call_setTxt (I1.ok.hd cm) pl (by simpa using strsAre_of r) (by omega) fun h2 tk so old => ?_
  refine args_nil ?_
  obtain ⟨o, es, ep, t, ho, hex, hd, _, _, _, hf, hn⟩ := so
  have I2 : Inv X pn σ H1 { s1 with heap := h2, toks := tk } := I1.kept fun b o e => old b o (Heap.lt_size e) e
  have := dcnt_le ts ts.length
  exact call_len_set ho hex hd hf (by rw [hn]; have hs : (1001 : Nat) < sizeLine := (by decide); omega) ⟨.int (dcnt ts ts.length : Int), H1, I2.tok _, ⟨_, by rw [hn]⟩, q1⟩
end
end KX

set_option maxRecDepth 100000
set_option maxHeartbeats 2000000
namespace KX
open PySem PySem.Spec PyProof.Rows L2
section
variable {X : Cx} {o e : Expr} {es : List Expr} {to te : TE} {ta : TA} {f : Str} {p p' p1 p2 pos : Pos} {B newI iniI : String} {tl : List Value}
theorem pe_biniO {pl : Sem Bool} (hg : Gl X "OverflowError") (hm : X.mg "OverflowError" = none) (vV : PySem.W.findCls X.K (.type "OverflowError") (.type "type") "__init__" = some (.val (.builtin "OverflowError.__init__"))) (ha : PA X (e :: es) ta)
    (hc : eval (.Call (.Attribute (.Name "OverflowError" p1) "__init__" p2) (e :: es) [] pos) X.env = (do
      let cv ← eval (.Name "OverflowError" p1) X.env
      standAt p2.atName
      let (fn, ahead) ← holding [cv] (getMethod cv "__init__" pl)
      callWith pos fn ahead (backTo pos (starEach (e :: es) X.env)) (backToKw pos (keywordEach [] X.env))) := by rfl)
    (he : starEach (e :: es) X.env = (false, eval e X.env) :: starEach es X.env := by rfl) (hpl : (backTo pos (starEach es X.env)).any (·.1) = false := by rfl) :
    PE X (.Call (.Attribute (.Name "OverflowError" p1) "__init__" p2) (e :: es) [] pos) (tBini X.K "OverflowError" newI "OverflowError.__init__" tl ta) := by
  refine ⟨fun pins s σ H Q I h => ?_⟩
  have ty : typeOf (.type "OverflowError") = pure (.type "type") := by kernel_rfl
  refine PySem.W.methodCall_KW (ld_blt I hg hm PyProof.Rows.Boot.«OverflowError» ?_ (by decide) (by decide)) hc
  obtain ⟨m, fr⟩ := I.fr
  refine PySem.W.method_type fr I.ok.mod.kin ty (by decide +kernel) vV (by decide +kernel) ?_
  show wpAny _ _ (callWith pos (Value.builtin "OverflowError.__init__") [] (backTo pos (starEach (e :: es) X.env)) []) _ _ _
  refine PyProof.Rows.callWith_method1 (thn (ha.run pos pins _ σ H _ (I.tok _) h) fun us s1 z => ?_) he hpl
  obtain ⟨vs, H1, I1, r1, a, C, ws, ev, hl, T, ea, q⟩ := z
  subst ev
  cases r1 with
  | @cons _ u0 _ ur ra rw' =>
    obtain rfl : u0 = Value.ref a := ra
    have hlen : ur.length ≤ sizeLine := by
      rw [← Paired.length rw', sizeLine_eq]
      omega
    exact init_told T I1 ea hlen fun s2 J => ⟨.non, H1, J, rfl, q⟩
end
end KX

set_option maxRecDepth 100000
set_option maxHeartbeats 4000000
namespace U1

open PySem PySem.Spec PyProof.Rows L2 KX
/-! ### the text -/
def topS (i : Nat) : Stmt := PySem.Challenge.pw_spareskept_k04_union_of_rowsets.main.body.getD i (.Pass ⟨0, 0, 0, 0⟩)
abbrev sBetween : Stmt := topS 8
abbrev sTupB : Stmt := topS 9
/-- a def of the text as it stands behind the top -/
structure Df (K : PySem.W.Frag) (mg : Str → Option Value) (x : String) (st : Stmt) (ps : List Str) (f : Addr) (fd : FuncData) : Prop where
  F : Fun K x x st f fd
  b : Binds K fd ps []
  g : mg x = some (.ref f)
/-- the built-in names that the text uses -/
structure Bl (mg : Str → Option Value) : Prop where
  isi : mg "isinstance" = none
  bool : mg "bool" = none
  int : mg "int" = none
  str : mg "str" = none
  tuple : mg "tuple" = none
  list : mg "list" = none
  len : mg "len" = none
  all : mg "all" = none
  range : mg "range" = none
  max : mg "max" = none
  min : mg "min" = none
  abs : mg "abs" = none
  repr : mg "repr" = none
  sorted : mg "sorted" = none
  ixe : mg "IndexError" = none
  vae : mg "ValueError" = none
  zip : mg "zip" = none
  kye : mg "KeyError" = none
  sum : mg "sum" = none

/-! ### kinds of data -/
def tyN : PyData → String
  | .none => "NoneType" | .bool _ => "bool" | .int _ => "int" | .str _ => "str" | .list _ => "list" | .tuple _ => "tuple" | .dict _ => "dict"
def isaN (T : String) : PyData → Bool := fun d => (kitB (tyN d) T).getD false
theorem Dx.ty {K : PySem.W.Frag} {H : Hp} {v : V} {d : PyData} (h : Dx H v d) : TyX K H v (.type (tyN d)) := by
  cases h with
  | non => exact .base .non
  | bl b => exact .base (.bl b)
  | int i => exact .base (.int i)
  | str x => exact .base (.str x)
  | lst e n h => exact .base (.lst e)
  | tup e h => exact .base (.tup e)
  | dic e => exact .base (.dK e)
  | dic1 e => exact .base (.dK e)
def okT (T : String) : Bool := (["NoneType", "bool", "int", "str", "list", "tuple", "dict"].all fun a => (kitB a T).isSome)
section
variable {X : Cx}
/-- isinstance(x, T), x data, T a built-in class -/
def rIsD (T : String) : List V → Hp → VK → Prop := fun xs H Q => match xs with
  | [x, c] => c = .ty T ∧ ∃ d, Dx H x d ∧ Q (.bl (isaN T d)) H
  | _ => False
theorem call_isD {T : String} (hT : okT T = true) : CallR X (.builtin "isinstance") (rIsD T) := by
  intro pins s σ H xs us Q I r h
  match xs, h with
  | [x, c], h =>
  obtain ⟨e, d, hd, q⟩ := h
  subst e
  have ha := List.all_eq_true.mp hT
  have hs : (kitB (tyN d) T).isSome = true := ha (tyN d) (by cases d <;> simp [tyN])
  obtain ⟨b, hb⟩ := Option.isSome_iff_exists.mp hs
  have q2 : Q (.bl b) H := by
    have : isaN T d = b := by unfold isaN; rw [hb]; rfl
    rw [← this]; exact q
  exact call_isi pins s σ H _ us Q I r ⟨x, .ty T, .type (tyN d), .type T, b, rfl, .ty T, Dx.ty hd, kit_ty hb, q2⟩
/-- isinstance(x, T) as an expression -/
theorem pe_isD {T x : String} {e : Expr} {te : TE} {p p2 pos : Pos} (hT : okT T = true) (mi : X.mg "isinstance" = none) (hm : X.mg x = none) (hv : bootBuiltins x = some (.type T)) (he : PE X e te) (hg0 : Gl X "isinstance") (hg : Gl X x)
    (hn : (x : Str) ≠ "__name__" := by decide) (hd : ((x : Str) == ("__debug__" : Str)) = false := by decide)
    (h1 : starEach [e, .Name x p2] X.env = (false, eval e X.env) :: starEach [.Name x p2] X.env := by rfl) (h2 : starEach [.Name x p2] X.env = (false, eval (.Name x p2) X.env) :: starEach [] X.env := by rfl)
    (hpl : (backTo pos (starEach [.Name x p2] X.env)).any (·.1) = false := by rfl) :
    PE X (.Call (.Name "isinstance" p) [e, .Name x p2] [] pos) (tCB (rIsD T) (tCons te (tCons (tC (.ty T)) tNil))) := by
  refine ⟨fun pins s σ H Q I h => ?_⟩
  refine (pe_callB (call_isD hT) hg0 mi (by decide +kernel) (pa_cons he (pa_cons (pe_bltn (v := .ty T) hg hm hv rfl hn hd) pa_nil h2) h1) (by decide) (by decide) h1 hpl).run pins s σ H Q I ?_
  exact h
end
/-! ### is_between -/
def betw (lo hi : Int) : PyData → Bool
  | .int i => decide (lo ≤ i) && decide (i ≤ hi)
  | _ => false
def spBetween : Sp := fun vs H Q _ => ∃ v d lo hi, vs = [v, .int lo, .int hi] ∧ Dx H v d ∧ Q (.bl (betw lo hi d)) H
theorem scBetween : FnScope ["value", "low", "high"] ["value", "low", "high"] (defScope sBetween) := ⟨rfl, rfl, rfl, by decide +kernel, rfl, by decide +kernel, by decide +kernel⟩
section
variable {P : Program} {w : World} {K : PySem.W.Frag} {mg : Str → Option Value} {base : Heap}
theorem ok_between {f : Addr} {fd : FuncData} (B : Bl mg) (D : Df K mg "is_between" sBetween ["value", "low", "high"] f fd) : FnOk P w K mg base CX0 1 f fd ["value", "low", "high"] spBetween := by
  refine D.F.ok scBetween (fun vs H Q E h => ?_) (fun cdv A outer s H vs Q E hr h => ?_)
  · obtain ⟨v, d, lo, hi, rfl, _⟩ := h
    rfl
  · obtain ⟨v, d, lo, hi, rfl, hd, q⟩ := h
    refine ⟨_, pss_cons (ps_if (PW.pt (pw_or (pt_val (pe_isD (T := "bool") (x := "bool") (by decide +kernel) B.isi B.bool (by decide +kernel) (pv 0) (by rfl) (by rfl)))
        (pw_or1 (pt_not (pt_val (pe_isD (T := "int") (x := "int") (by decide +kernel) B.isi B.int (by decide +kernel) (pv 0) (by rfl) (by rfl))))))) (pss_one (ps_ret pe_bl)) pss_nil)
      (pss_one (ps_ret (pe_chain op_le op_le (pv 1) (pv 0) (pv 2)))), ?_⟩
    refine ⟨v, rfl, rfl, d, hd, _, rfl, ?_⟩
    cases d with
    | bool b => exact q
    | int i =>
      refine iteF ⟨v, rfl, rfl, _, hd, _, rfl, ?_⟩
      refine iteF ⟨_, rfl, v, rfl, ?_⟩
      cases hd
      refine ⟨lo, i, rfl, rfl, _, rfl, ?_⟩
      have e : betw lo hi (.int i) = (decide (lo ≤ i) && decide (i ≤ hi)) := rfl
      rw [e] at q
      by_cases h : lo ≤ i
      · rw [decide_eq_true h] at q ⊢
        exact iteT ⟨_, rfl, _, _, rfl, rfl, q⟩
      · rw [decide_eq_false h] at q ⊢
        exact iteF q
    | _ => exact iteF ⟨v, rfl, rfl, _, hd, _, rfl, q⟩
end
end U1
namespace U1

open PySem PySem.Spec PyProof.Rows L2 KX
abbrev sName : Stmt := topS 21
abbrev sRow : Stmt := topS 22
abbrev sVals : Stmt := topS 23
/-- the constants of the text -/
structure Cs (mg : Str → Option Value) : Prop where
  wid : ∃ t, mg "MAX_WIDTH" = some (.int 4 t)
  cost : ∃ t, mg "MAX_COST" = some (.int 1000000 t)
  val : ∃ t, mg "MAX_VALUE" = some (.int 1000000000 t)
  exp : ∃ t, mg "MAX_EXPIRY" = some (.int 1000000000 t)
  lets : ∃ t, mg "MAX_LETTERS" = some (.int 8 t)
  abc : ∃ t, mg "LETTERS" = some (.str "abcdefghijklmnopqrstuvwxyz" t)
/-! ### is_tuple_between -/
def tupB (lo hi : Int) : PyData → Bool
  | .tuple ds => decide (lo ≤ (ds.length : Int)) && decide ((ds.length : Int) ≤ hi)
  | _ => false
def spTupB : Sp := fun vs H Q _ => ∃ v d lo hi, vs = [v, .int lo, .int hi] ∧ Dx H v d ∧ Q (.bl (tupB lo hi d)) H
theorem scTupB : FnScope ["value", "low", "high"] ["value", "low", "high"] (defScope sTupB) := ⟨rfl, rfl, rfl, by decide +kernel, rfl, by decide +kernel, by decide +kernel⟩
theorem isa_tuple {d : PyData} : isaN "tuple" d = match d with | .tuple _ => true | _ => false := by
  cases d <;> (simp only [isaN, tyN]; decide +kernel)
theorem isa_str {d : PyData} : isaN "str" d = match d with | .str _ => true | _ => false := by
  cases d <;> (simp only [isaN, tyN]; decide +kernel)
theorem isa_int {d : PyData} : isaN "int" d = match d with | .int _ => true | .bool _ => true | _ => false := by
  cases d <;> (simp only [isaN, tyN]; decide +kernel)
theorem isa_bool {d : PyData} : isaN "bool" d = match d with | .bool _ => true | _ => false := by
  cases d <;> (simp only [isaN, tyN]; decide +kernel)
section
variable {P : Program} {w : World} {K : PySem.W.Frag} {mg : Str → Option Value} {base : Heap}
theorem ok_tupB {f : Addr} {fd : FuncData} (B : Bl mg) (D : Df K mg "is_tuple_between" sTupB ["value", "low", "high"] f fd) : FnOk P w K mg base CX0 1 f fd ["value", "low", "high"] spTupB := by
  refine D.F.ok scTupB (fun vs H Q E h => ?_) (fun cdv A outer s H vs Q E hr h => ?_)
  · obtain ⟨v, d, lo, hi, rfl, _⟩ := h
    rfl
  · obtain ⟨v, d, lo, hi, rfl, hd, q⟩ := h
    refine ⟨_, pss_one (ps_ret (pe_and (pe_isD (T := "tuple") (x := "tuple") (by decide +kernel) B.isi B.tuple (by decide +kernel) (pv 0) (by rfl) (by rfl))
      (pe_one (pe_chain op_le op_le (pv 1) (pe_callB call_len_seq (by rfl) B.len PySem.boot_len (pa_cons (pv 0) pa_nil)) (pv 2))))), ?_⟩
    refine ⟨v, rfl, rfl, d, hd, _, rfl, ?_⟩
    rw [isa_tuple]
    cases d with
    | tuple ds =>
      cases hd with
      | @tup a xs _ e h =>
        refine iteT ⟨_, rfl, _, rfl, a, xs, rfl, .inr (.inl (.inl e)), _, _, rfl, rfl, _, rfl, ?_⟩
        rw [h.len]
        have e : tupB lo hi (.tuple ds) = (decide (lo ≤ (ds.length : Int)) && decide ((ds.length : Int) ≤ hi)) := rfl
        rw [e] at q
        by_cases h : lo ≤ (ds.length : Int)
        · rw [decide_eq_true h] at q ⊢
          exact iteT ⟨_, rfl, _, _, rfl, rfl, q⟩
        · rw [decide_eq_false h] at q ⊢
          exact iteF q
    | _ => exact iteF q
end
/-! ### is_name -/
def abc : Str := "abcdefghijklmnopqrstuvwxyz"
def letD (x : Str) : Bool := x.cps.toList.all fun c => decide (c ∈ abc.cps.toList)
def nameD : PyData → Bool
  | .str x => (decide (1 ≤ (x.length : Int)) && decide ((x.length : Int) ≤ 8)) && letD x
  | _ => false
/-- texts are not too long -/
def smS : PyData → Prop
  | .str x => x.length ≤ sizeLine
  | _ => True
def spName : Sp := fun vs H Q _ => ∃ v d, vs = [v] ∧ Dx H v d ∧ smS d ∧ ∀ H', Same H H' → Q (.bl (nameD d)) H'
theorem scName : FnScope ["value", "letter"] ["value"] (defScope sName) := ⟨rfl, rfl, rfl, by decide +kernel, rfl, by decide +kernel, by decide +kernel⟩
theorem same_new {H : Hp} {p : Addr} {o : HO} (h : H p = none) : Same H (upd H p o) := fun b x e => by
  rw [upd_ne (ne_of_none e h)]
  exact e
theorem same_at {H H' : Hp} {p : Addr} {o : HO} (h : Same H H') (n : H p = none) : Same H (upd H' p o) := fun b x e => by
  rw [upd_ne (ne_of_none e n)]
  exact h _ _ e
section
variable {P : Program} {w : World} {K : PySem.W.Frag} {mg : Str → Option Value} {base : Heap}
theorem ok_name {f : Addr} {fd : FuncData} (B : Bl mg) (C : Cs mg) (D : Df K mg "is_name" sName ["value"] f fd) : FnOk P w K mg base CX0 1 f fd ["value"] spName := by
  obtain ⟨t8, m8⟩ := C.lets
  obtain ⟨ta, ma⟩ := C.abc
  refine D.F.ok scName (fun vs H Q E h => ?_) (fun cdv A outer s H vs Q E hr h => ?_)
  · obtain ⟨v, d, rfl, _⟩ := h
    rfl
  · obtain ⟨v, d, rfl, hd, hsm, q⟩ := h
    refine ⟨_, pss_cons (ps_if (PW.pt (pw_or (pt_not (pt_val (pe_isD (T := "str") (x := "str") (by decide +kernel) B.isi B.str (by decide +kernel) (pv 0) (by rfl) (by rfl))))
        (pw_or1 (pt_not (pt_chain op_le op_le pe_int (pe_callB call_len_str (by rfl) B.len PySem.boot_len (pa_cons (pv 0) pa_nil)) (pe_glob (v := .int 8) (by rfl) m8 ⟨_, rfl⟩)))))) (pss_one (ps_ret pe_bl)) pss_nil)
      (pss_one (ps_ret (pe_callB (cr_all rfl) (by rfl) B.all (by decide +kernel) (pa_cons (pe_lc (own := [("letter", 1)]) (g := gName 1) rfl scName.nd (pi_str (pv 0)) (blkOk_by (N := ["value", "letter"]) (sc := defScope sName) (by decide +kernel))
        (fun _ _ _ _ _ => pg_name (i := 1) scName.nd rfl (Or.inl rfl)) (fun _ _ _ _ _ => pts_nil) (fun _ _ _ _ _ => pe_cmpR op_in_sign (pv 1) (pe_glob (v := .str abc) (by rfl) ma ⟨_, rfl⟩) (by rfl))) pa_nil)))), ?_⟩
    refine ⟨v, rfl, rfl, d, hd, _, rfl, ?_⟩
    rw [isa_str]
    cases d with
    | str x =>
      cases hd
      refine iteF ⟨.str x, rfl, x, rfl, hsm, 1, _, rfl, rfl, _, rfl, ?_⟩
      have en : nameD (.str x) = ((decide (1 ≤ (x.length : Int)) && decide ((x.length : Int) ≤ 8)) && letD x) := rfl
      rw [en] at q
      by_cases h1 : 1 ≤ (x.length : Int)
      · rw [decide_eq_true h1] at q ⊢
        refine iteT ⟨_, _, rfl, rfl, _, rfl, ?_⟩
        by_cases h2 : (x.length : Int) ≤ 8
        · rw [decide_eq_true h2] at q ⊢
          refine iteF ⟨_, rfl, x, rfl, fun D nD => ?_⟩
          refine lc_it walk_str (fun i G => Same H G ∧ G D = some (.lst (((x.cps.toList.take i).map fun c => decide (c ∈ abc.cps.toList)).map V.bl))) ⟨same_at (Same.refl H) nD, upd_same⟩ (fun _ _ _ _ => trivial) (fun i c G G' hi hp hy => ?_) (fun G hp => ?_)
          · obtain ⟨rfl, cc, ec, rfl⟩ := hy
            refine ⟨rfl, _, rfl, cc, abc, rfl, rfl, _, hp.2, ?_, same_at hp.1 nD, ?_⟩
            · rw [List.length_map, List.length_map, List.length_take]
              have hx : x.cps.toList.length = x.length := by simp [Str.length]
              have hb : (8 : Nat) < sizeLine := by decide
              omega
            · rw [upd_same, List.take_add_one, show x.cps.toList[i]? = some cc by simpa using ec]
              simp
          · have hx : x.cps.toList.take x.cps.size = x.cps.toList := List.take_of_length_le (by simp)
            rw [hx] at hp
            refine ⟨D, _, rfl, .inl (.inl hp.2), ?_⟩
            have := q G hp.1
            rw [List.all_map]
            exact this
        · rw [decide_eq_false h2] at q ⊢
          exact iteT (q H (Same.refl H))
      · rw [decide_eq_false h1] at q ⊢
        exact iteF ⟨_, rfl, iteT (q H (Same.refl H))⟩
    | _ => exact iteT (q H (Same.refl H))
end
end U1
namespace U1

open PySem PySem.Spec PyProof.Rows L2 KX
/-! ### are_row_values -/
def valsD : PyData → Bool
  | .tuple ds => (decide (1 ≤ (ds.length : Int)) && decide ((ds.length : Int) ≤ 4)) && ds.all (betw (-1000000000) 1000000000)
  | _ => false
def spVals : Sp := fun vs H Q _ => ∃ v d, vs = [v] ∧ Dx H v d ∧ ∀ H', Same H H' → Q (.bl (valsD d)) H'
theorem scVals : FnScope ["value", "number"] ["value"] (defScope sVals) := ⟨rfl, rfl, rfl, by decide +kernel, rfl, by decide +kernel, by decide +kernel⟩
section
variable {P : Program} {w : World} {K : PySem.W.Frag} {mg : Str → Option Value} {base : Heap}
theorem ok_vals {f fB fT : Addr} {fd fdB fdT : FuncData} (B : Bl mg) (C : Cs mg) (D : Df K mg "are_row_values" sVals ["value"] f fd) (DB : Df K mg "is_between" sBetween ["value", "low", "high"] fB fdB)
    (DT : Df K mg "is_tuple_between" sTupB ["value", "low", "high"] fT fdT) : FnOk P w K mg base CX0 2 f fd ["value"] spVals := by
  obtain ⟨tw, mw⟩ := C.wid
  obtain ⟨tv, mv⟩ := C.val
  have GB : FnOk P w K mg base CX0 1 fB fdB _ spBetween := ok_between B DB
  have GT : FnOk P w K mg base CX0 1 fT fdT _ spTupB := ok_tupB B DT
  refine D.F.ok scVals (fun vs H Q E h => ?_) (fun cdv A outer s H vs Q E hr h => ?_)
  · obtain ⟨v, d, rfl, _⟩ := h
    rfl
  · obtain ⟨v, d, rfl, hd, q⟩ := h
    refine ⟨_, pss_cons (ps_if (pt_not (pt_val (pe_call GT hr (by rfl) DT.g DT.F.kp DT.b .nil pass0 (pa_cons (pv 0) (pa_cons pe_int (pa_cons (pe_glob (v := .int 4) (by rfl) mw ⟨_, rfl⟩) pa_nil)))))) (pss_one (ps_ret pe_bl)) pss_nil)
      (pss_one (ps_ret (pe_callB (cr_all rfl) (by rfl) B.all (by decide +kernel) (pa_cons (pe_lc (own := [("number", 1)]) (g := gName 1) rfl scVals.nd (pi_tup (pv 0)) (blkOk_by (N := ["value", "number"]) (sc := defScope sVals) (by decide +kernel))
        (fun _ _ _ _ _ => pg_name (i := 1) scVals.nd rfl (Or.inl rfl)) (fun _ _ _ _ _ => pts_nil)
        (fun _ _ _ _ _ => pe_call GB hr (by rfl) DB.g DB.F.kp DB.b .nil pass0 (pa_cons (pv 1) (pa_cons (pe_un un_neg (pe_glob (v := .int 1000000000) (by rfl) mv ⟨_, rfl⟩)) (pa_cons (pe_glob (v := .int 1000000000) (by rfl) mv ⟨_, rfl⟩) pa_nil))))) pa_nil)))), ?_⟩
    refine ⟨v, rfl, v, d, 1, 4, rfl, hd, _, rfl, ?_⟩
    cases d with
    | tuple ds =>
      cases hd with
      | @tup a xs _ ea h =>
        have et : tupB 1 4 (.tuple ds) = (decide (1 ≤ (ds.length : Int)) && decide ((ds.length : Int) ≤ 4)) := rfl
        have en : valsD (.tuple ds) = ((decide (1 ≤ (ds.length : Int)) && decide ((ds.length : Int) ≤ 4)) && ds.all (betw (-1000000000) 1000000000)) := rfl
        rw [en] at q
        rw [et]
        cases eb : (decide (1 ≤ (ds.length : Int)) && decide ((ds.length : Int) ≤ 4)) with
        | false =>
          rw [eb] at q
          exact iteT (q H (Same.refl H))
        | true =>
          rw [eb] at q
          have hlen : ds.length ≤ 4 := by
            rw [Bool.and_eq_true] at eb
            have := of_decide_eq_true eb.2
            omega
          refine iteF ⟨.ref a, rfl, a, rfl, ⟨_, .inl (.inl ea)⟩, fun D nD => ?_⟩
          refine lc_tup (xs := xs) (fun i G => Same H G ∧ G D = some (.lst (((ds.take i).map (betw (-1000000000) 1000000000)).map V.bl))) ⟨same_at (Same.refl H) nD, upd_same⟩
            (fun i G hi hp => .inl (.inl (hp.1 _ _ ea))) (fun i x G hx hp => ?_) (fun G hp => ?_)
          · obtain ⟨d, ed, hd⟩ := h.get' hx
            refine ⟨rfl, x, rfl, _, rfl, x, d, -1000000000, 1000000000, rfl, hd.up hp.1, _, hp.2, ?_, same_at hp.1 nD, ?_⟩
            · rw [List.length_map, List.length_map, List.length_take]
              have hb : (4 : Nat) < sizeLine := by decide
              omega
            · rw [upd_same, List.take_add_one, ed]
              simp
          · have hx : ds.take xs.length = ds := List.take_of_length_le (by rw [h.len]; exact Nat.le_refl _)
            rw [hx] at hp
            refine ⟨D, _, rfl, .inl (.inl hp.2), ?_⟩
            have := q G hp.1
            rw [List.all_map]
            exact this
    | _ => exact iteT (q H (Same.refl H))
end
/-! ### is_row -/
def rowD : PyData → Bool
  | .tuple [n, c, vs, e] => nameD n && betw 1 1000000 c && (valsD vs && betw 1 1000000000 e)
  | _ => false
/-- all texts are not too long -/
def smA : PyData → Prop
  | .tuple ds => ∀ d ∈ ds, smS d
  | _ => True
def spRow : Sp := fun vs H Q _ => ∃ v d, vs = [v] ∧ Dx H v d ∧ smA d ∧ ∀ H', Same H H' → Q (.bl (rowD d)) H'
theorem scRow : FnScope ["value", "name", "cost", "values", "expiry"] ["value"] (defScope sRow) := ⟨rfl, rfl, rfl, by decide +kernel, rfl, by decide +kernel, by decide +kernel⟩
theorem tupB_four {d : PyData} : tupB 4 4 d = true → ∃ a b c e, d = .tuple [a, b, c, e] := by
  intro h
  cases d with
  | tuple ds =>
    have e : (decide (4 ≤ (ds.length : Int)) && decide ((ds.length : Int) ≤ 4)) = true := h
    rw [Bool.and_eq_true] at e
    have h1 := of_decide_eq_true e.1
    have h2 := of_decide_eq_true e.2
    match ds, h1, h2 with
    | [a, b, c, e], _, _ => exact ⟨a, b, c, e, rfl⟩
    | [], h1, _ => simp at h1
    | [_], h1, _ => simp at h1
    | [_, _], h1, _ => simp at h1
    | [_, _, _], h1, _ => simp at h1
    | _ :: _ :: _ :: _ :: _ :: _, _, h2 => simp at h2; omega
  | _ => cases h
theorem rowD_not {d : PyData} (h : tupB 4 4 d = false) : rowD d = false := by
  unfold rowD
  split
  · simp [tupB] at h
  · rfl
section
variable {P : Program} {w : World} {K : PySem.W.Frag} {mg : Str → Option Value} {base : Heap}
theorem ok_row {f fB fT fN fV : Addr} {fd fdB fdT fdN fdV : FuncData} (B : Bl mg) (C : Cs mg) (D : Df K mg "is_row" sRow ["value"] f fd) (DB : Df K mg "is_between" sBetween ["value", "low", "high"] fB fdB)
    (DT : Df K mg "is_tuple_between" sTupB ["value", "low", "high"] fT fdT) (DN : Df K mg "is_name" sName ["value"] fN fdN) (DV : Df K mg "are_row_values" sVals ["value"] fV fdV) : FnOk P w K mg base CX0 3 f fd ["value"] spRow := by
  obtain ⟨tc, mc⟩ := C.cost
  obtain ⟨te, me⟩ := C.exp
  have GB : FnOk P w K mg base CX0 2 fB fdB _ spBetween := (ok_between B DB).mono (by decide)
  have GT : FnOk P w K mg base CX0 2 fT fdT _ spTupB := (ok_tupB B DT).mono (by decide)
  have GN : FnOk P w K mg base CX0 2 fN fdN _ spName := (ok_name B C DN).mono (by decide)
  have GV : FnOk P w K mg base CX0 2 fV fdV _ spVals := ok_vals B C DV DB DT
  refine D.F.ok scRow (fun vs H Q E h => ?_) (fun cdv A outer s H vs Q E hr h => ?_)
  · obtain ⟨v, d, rfl, _⟩ := h
    rfl
  · obtain ⟨v, d, rfl, hd, hsm, q⟩ := h
    have nd := scRow.nd
    refine ⟨_, pss_cons (ps_if (pt_not (pt_val (pe_call GT hr (by rfl) DT.g DT.F.kp DT.b .nil pass0 (pa_cons (pv 0) (pa_cons pe_int (pa_cons pe_int pa_nil)))))) (pss_one (ps_ret pe_bl)) pss_nil)
      (pss_cons (ps_asg (pv 0) (pg_tup (by rfl) (pgs_cons (pg_name (i := 1) nd rfl (.inl rfl)) (pgs_cons (pg_name (i := 2) nd rfl (.inl rfl)) (pgs_cons (pg_name (i := 3) nd rfl (.inl rfl)) (pgs_cons (pg_name (i := 4) nd rfl (.inl rfl)) pgs_nil))))))
      (pss_cons (ps_if (PW.pt (pw_or (pt_not (pt_val (pe_call GN hr (by rfl) DN.g DN.F.kp DN.b .nil pass0 (pa_cons (pv 1) pa_nil))))
        (pw_or1 (pt_not (pt_val (pe_call GB hr (by rfl) DB.g DB.F.kp DB.b .nil pass0 (pa_cons (pv 2) (pa_cons pe_int (pa_cons (pe_glob (v := .int 1000000) (by rfl) mc ⟨_, rfl⟩) pa_nil))))))))) (pss_one (ps_ret pe_bl)) pss_nil)
      (pss_one (ps_ret (pe_and (pe_call GV hr (by rfl) DV.g DV.F.kp DV.b .nil pass0 (pa_cons (pv 3) pa_nil))
        (pe_one (pe_call GB hr (by rfl) DB.g DB.F.kp DB.b .nil pass0 (pa_cons (pv 4) (pa_cons pe_int (pa_cons (pe_glob (v := .int 1000000000) (by rfl) me ⟨_, rfl⟩) pa_nil)))))))))), ?_⟩
    refine ⟨v, rfl, v, d, 4, 4, rfl, hd, _, rfl, ?_⟩
    cases eb : tupB 4 4 d with
    | false =>
      rw [rowD_not eb] at q
      exact iteT (q H (Same.refl H))
    | true =>
      obtain ⟨n, c, vs, e, rfl⟩ := tupB_four eb
      cases hd with
      | @tup a xs _ ea h =>
        match xs, h, ea with
        | [vn, vc, vv, ve], .cons hn (.cons hc (.cons hv (.cons he .nil))), ea =>
          have sn : smS n := hsm n (by simp)
          refine iteF ⟨.ref a, rfl, a, _, rfl, .inl (.inl ea), rfl, _, _, rfl, _, _, rfl, _, _, rfl, _, _, rfl, rfl, ?_⟩
          refine ⟨vn, rfl, vn, n, rfl, hn, sn, fun H1 s1 => ⟨_, rfl, ?_⟩⟩
          have er : rowD (.tuple [n, c, vs, e]) = (nameD n && betw 1 1000000 c && (valsD vs && betw 1 1000000000 e)) := rfl
          rw [er] at q
          cases en : nameD n with
          | false =>
            rw [en] at q
            exact iteT (iteT (q H1 s1))
          | true =>
            rw [en] at q
            refine iteF ⟨vc, rfl, vc, c, 1, 1000000, rfl, hc.up s1, _, rfl, ?_⟩
            cases ec : betw 1 1000000 c with
            | false =>
              rw [ec] at q
              exact iteT (q H1 s1)
            | true =>
              rw [ec] at q
              refine iteF ⟨vv, rfl, vv, vs, rfl, hv.up s1, fun H2 s2 => ⟨_, rfl, ?_⟩⟩
              cases ev : valsD vs with
              | false =>
                rw [ev] at q
                exact iteF (q H2 (s1.trans s2))
              | true =>
                rw [ev] at q
                exact iteT ⟨ve, rfl, ve, e, 1, 1000000000, rfl, (he.up s1).up s2, q H2 (s1.trans s2)⟩
end
end U1

set_option maxRecDepth 100000
set_option maxHeartbeats 4000000
namespace U1

open PySem PySem.Spec PyProof.Rows L2 KX
def clsB : Stmt → List Stmt
  | .ClassDef (body := b) .. => b
  | _ => []
end U1
namespace U1

open PySem PySem.Spec PyProof.Rows L2 KX
abbrev sDraw : Stmt := topS 34
abbrev sStream : Stmt := topS 33
def spDraw : Sp := fun vs H Q _ => ∃ (l : Addr) (t : Int), vs = [.ref l, .int t] ∧ StO H l ∧ 0 < t ∧ t < 2 ^ 64 ∧ ∀ H' n, Keep l H H' → StO H' l → 0 ≤ n → n < t → Q (.int n) H'
theorem scDraw : FnScope ["stream", "total", "found", "one", "stir", "two"] ["stream", "total"] (defScope sDraw) := ⟨rfl, rfl, rfl, by decide +kernel, rfl, by decide +kernel, by decide +kernel⟩
theorem i63 {a b c : Int} : atI [V.int a, V.int b, V.int c] 0 = some (V.int a) ∧ atI [V.int a, V.int b, V.int c] 1 = some (V.int b) ∧ atI [V.int a, V.int b, V.int c] 2 = some (V.int c) := ⟨rfl, rfl, rfl⟩
theorem mod_bd {x m : Int} (h : 0 < m) (h2 : m < 2 ^ 64) : -(2 ^ 64) < x % m ∧ x % m < 2 ^ 64 := by
  have a := Int.emod_nonneg x (show m ≠ 0 by omega)
  have b := Int.emod_lt_of_pos x h
  omega
section
variable {P : Program} {w : World} {K : PySem.W.Frag} {mg : Str → Option Value} {base : Heap}
theorem ok_draw {f : Addr} {fd : FuncData} (B : Bl mg) (D : Df K mg "_law_draw" sDraw ["stream", "total"] f fd) : FnOk P w K mg base CX0 1 f fd ["stream", "total"] spDraw := by
  refine D.F.ok scDraw (fun vs H Q E h => ?_) (fun cdv A outer s H vs Q E hr h => ?_)
  · obtain ⟨l, t, rfl, _⟩ := h
    rfl
  · obtain ⟨l, t, rfl, ⟨a, b, c, el⟩, t0, t1, q⟩ := h
    have nd := scDraw.nd
    refine ⟨_, pss_cons (ps_if (pt_cmpR op_gt (pe_ix ix_list (pv 0) pe_int (fun _ _ => rfl)) pe_int (nomark _))
        (pss_cons (ps_set (i := 2) nd rfl (.inl rfl) (pe_op op_mod (pe_ix ix_list (pv 0) pe_int (fun _ _ => rfl)) (pv 1)))
        (pss_cons (ps_asg (pe_op op_fdivW (pe_ix ix_list (pv 0) pe_int (fun _ _ => rfl)) (pv 1)) (pg_sub (pv 0) pe_int set_list))
        (pss_one (ps_ret (pv 2))))) pss_nil)
      (pss_cons (ps_asg (pe_op op_add (pe_ix ix_list (pv 0) pe_int (fun _ _ => rfl)) pe_int) (pg_sub (pv 0) pe_int set_list))
      (pss_cons (ps_set (i := 3) nd rfl (.inl rfl) (pe_op op_mod (pe_op op_add (pe_ix ix_list (pv 0) pe_int (fun _ _ => rfl)) (pe_op op_mul pe_int (pe_ix ix_list (pv 0) pe_int (fun _ _ => rfl)))) pe_int))
      (pss_cons (ps_set (i := 4) nd rfl (.inl rfl) (pe_op op_add (pe_op op_mul (pe_op op_mod (pe_op op_mul (pv 3) (pv 3)) pe_int) (pv 3)) (pe_op op_mul pe_int (pe_ix ix_list (pv 0) pe_int (fun _ _ => rfl)))))
      (pss_cons (ps_set (i := 5) nd rfl (.inl rfl) (pe_op op_mod (pe_op op_add (pv 4) (pe_op op_mod (pe_ix ix_list (pv 0) pe_int (fun _ _ => rfl)) pe_int)) pe_int))
      (pss_one (ps_ret (pe_op op_mod (pe_op op_add (pe_op op_fdiv (pe_op op_mod (pe_op op_mul (pv 5) (pv 5)) pe_int) pe_int)
        (pe_op op_mul (pe_op op_mul (pv 3) pe_int) (pe_callTy call_int1 (by rfl) B.int (by decide +kernel) (pa_cons (pe_cmpR op_gt (pv 1) (pe_op op_pow pe_int pe_int) (nomark _)) pa_nil)))) (pv 1)))))))), ?_⟩
    refine ⟨.ref l, rfl, l, _, 0, .int a, rfl, rfl, .inl (.inl el), rfl, a, 0, rfl, rfl, _, rfl, ite2 (fun h => ?_) fun h => ?_⟩
    · refine ⟨.ref l, rfl, l, _, 0, .int a, rfl, rfl, .inl (.inl el), rfl, .int t, rfl, a, t, rfl, rfl, t0, ?_⟩
      refine ⟨.ref l, rfl, l, _, 0, .int a, rfl, rfl, .inl (.inl el), rfl, .int t, rfl, a, t, rfl, rfl, wide_div (b := 64) t0 (by omega) (by decide) (by decide), ?_⟩
      refine ⟨.ref l, rfl, l, _, 0, 0, rfl, rfl, el, rfl, .int (a % t), rfl, ?_⟩
      exact q _ _ Keep.at ⟨_, _, _, upd_same⟩ (Int.emod_nonneg a (by omega)) (Int.emod_lt_of_pos a t0)
    · refine ⟨.ref l, rfl, l, _, 2, .int c, rfl, rfl, .inl (.inl el), rfl, c, 1, rfl, rfl, .ref l, rfl, l, _, 2, 2, rfl, rfl, el, rfl, ?_⟩
      have e2 : (upd H l (.lst [.int a, .int b, .int (c + 1)])) l = some (.lst [.int a, .int b, .int (c + 1)]) := upd_same
      refine ⟨.ref l, rfl, l, _, 1, .int b, rfl, rfl, .inl (.inl e2), rfl, .ref l, rfl, l, _, 2, .int (c + 1), rfl, rfl, .inl (.inl e2), rfl, 1500450271, c + 1, rfl, rfl, .inl ⟨by decide, by decide⟩,
        b, _, rfl, rfl, _, 4294967279, rfl, rfl, (show (0 : Int) < 4294967279 by decide), ?_⟩
      have o1 := mod_bd (x := b + 1500450271 * (c + 1)) (m := 4294967279) (by decide) (by decide)
      refine ⟨_, rfl, _, rfl, _, _, rfl, rfl, .inl o1, _, 4294967231, rfl, rfl, (show (0 : Int) < 4294967231 by decide), _, rfl, _, _, rfl, rfl, .inr o1,
        .ref l, rfl, l, _, 2, .int (c + 1), rfl, rfl, .inl (.inl e2), rfl, 10007, c + 1, rfl, rfl, .inl ⟨by decide, by decide⟩, _, _, rfl, rfl, ?_⟩
      refine ⟨_, rfl, .ref l, rfl, l, _, 1, .int b, rfl, rfl, .inl (.inl e2), rfl, b, 65537, rfl, rfl, (show (0 : Int) < 65537 by decide), _, _, rfl, rfl, _, 4294967197, rfl, rfl, (show (0 : Int) < 4294967197 by decide), ?_⟩
      have o2 : ∀ x : Int, -(2 ^ 64) < x % 4294967197 ∧ x % 4294967197 < 2 ^ 64 := fun x => mod_bd (x := x) (m := 4294967197) (by decide) (by decide)
      refine ⟨_, rfl, _, rfl, _, _, rfl, rfl, .inl (o2 _), _, 4294967189, rfl, rfl, (show (0 : Int) < 4294967189 by decide), _, 64, rfl, rfl, (show (0 : Int) < 64 ∧ (64 : Int) < 1073741824 by decide), ?_⟩
      refine ⟨_, rfl, _, 67108864, rfl, rfl, .inl o1, .int t, rfl, 10, 6, rfl, rfl, ⟨by decide, by decide, by decide⟩, t, _, rfl, rfl, .inr ⟨_, rfl, ?_⟩⟩
      refine ⟨_, _, rfl, rfl, .inr ?_, _, _, rfl, rfl, .int t, rfl, _, t, rfl, rfl, t0, ?_⟩
      · split <;> decide
      · exact q _ _ Keep.at ⟨_, _, _, upd_same⟩ (Int.emod_nonneg _ (by omega)) (Int.emod_lt_of_pos _ t0)
end
/-! ### _law_stream -/
def spStream (K : PySem.W.Frag) : Sp := fun vs H Q _ => ∃ (a : Addr) (ns : List Int) (k : Int), vs = [.ref a, .int k] ∧ SqL K H a (ns.map V.int) ∧ 0 ≤ k ∧ k ≤ 1000 ∧ ∀ H' p, Same H H' → H p = none → StO H' p → Q (.ref p) H'
theorem scStream : FnScope ["script", "at", "cell", "great"] ["script", "at"] (defScope sStream) := ⟨rfl, rfl, rfl, by decide +kernel, rfl, by decide +kernel, by decide +kernel⟩
section
variable {P : Program} {w : World} {K : PySem.W.Frag} {mg : Str → Option Value} {base : Heap}
theorem ok_stream {f : Addr} {fd : FuncData} (B : Bl mg) (D : Df K mg "_law_stream" sStream ["script", "at"] f fd) : FnOk P w K mg base CX0 1 f fd ["script", "at"] (spStream K) := by
  refine D.F.ok scStream (fun vs H Q E h => ?_) (fun cdv A outer s H vs Q E hr h => ?_)
  · obtain ⟨a, ns, k, rfl, _⟩ := h
    rfl
  · obtain ⟨a, ns, k, rfl, hS, k0, k1, q⟩ := h
    have nd := scStream.nd
    refine ⟨_, pss_cons (ps_set (i := 2) nd rfl (.inl rfl) (pe_op op_add (pe_op op_mul pe_int (pv 1)) pe_int))
      (pss_cons (ps_if (pt_cmpR op_lt (pv 1) (pe_callB call_len_seq (by rfl) B.len PySem.boot_len (pa_cons (pv 0) pa_nil)) (nomark _))
        (pss_one (ps_set (i := 2) nd rfl (.inl rfl) (pe_ix ix_list (pv 0) (pv 1) (fun _ _ => rfl)))) pss_nil)
      (pss_cons (ps_set (i := 3) nd rfl (.inl rfl) (pe_op op_mod (pe_callB call_abs (by rfl) B.abs (by decide +kernel) (pa_cons (pv 2) pa_nil)) (pe_op op_powW (pe_op op_pow pe_int pe_int) pe_int)))
      (pss_one (ps_ret (pe_lst (pa_cons (pe_callB (call_max2 rfl) (by rfl) B.max (by decide +kernel) (pa_cons pe_int (pa_cons (pe_op op_sub (pv 3) (pe_op op_pow pe_int pe_int)) pa_nil)))
        (pa_cons (pe_op op_mod (pe_op op_add (pe_op op_add (pe_op op_add (pe_op op_mul (pv 3) pe_int) (pe_op op_mul pe_int (pv 1))) (pe_op op_mul pe_int (pe_callTy call_int1 (by rfl) B.int (by decide +kernel) (pa_cons (pe_cmpR op_lt (pv 2) pe_int (nomark _)) pa_nil)))) pe_int) pe_int)
        (pa_cons pe_int pa_nil)))))))), ?_⟩
    refine ⟨.int k, rfl, 5, k, rfl, rfl, .inl ⟨by decide, by decide⟩, _, 3, rfl, rfl, ?_⟩
    have c1 : (0 : Int) ≤ 60 ∧ (60 : Int) ≤ 1000000 ∧ (10 : Int).natAbs < 2 ^ 64 := by decide
    have c2 : (0 : Int) ≤ 12 ∧ ((Builtin.Int.intBits ((10 : Int) ^ (60 : Int).toNat) : Nat) : Int) * 12 ≤ 2 ^ 27 := by decide +kernel
    have c3 : (0 : Int) < ((10 : Int) ^ (60 : Int).toNat) ^ (12 : Int).toNat := by decide +kernel
    have c4 : (0 : Int) ≤ 17 ∧ (17 : Int) ≤ 1000000 ∧ (10 : Int).natAbs < 2 ^ 64 := by decide
    have c5 : (0 : Int) < 4294967291 := by decide
    refine ⟨.int k, rfl, .ref a, rfl, a, _, rfl, .inl hS, k, _, rfl, rfl, _, rfl, ite2 (fun h => ?_) (fun h => ?_)⟩
    · have hk : k < (ns.map V.int).length := of_decide_eq_true h
      rw [List.length_map] at hk
      have hk2 : k.toNat < ns.length := by omega
      refine ⟨.ref a, rfl, .int k, rfl, a, _, k, .int ns[k.toNat], rfl, rfl, hS, ?_, ?_⟩
      · have e : ((k.toNat : Nat) : Int) = k := by omega
        have z : atI (ns.map V.int) ((k.toNat : Nat) : Int) = some (.int ns[k.toNat]) := atI_nat (by
          rw [List.getElem?_map, List.getElem?_eq_getElem hk2]
          rfl)
        rw [e] at z
        exact z
      · refine ⟨_, rfl, _, rfl, 10, 60, rfl, rfl, c1, _, 12, rfl, rfl, c2, _, _, rfl, rfl, c3, ?_⟩
        refine ⟨_, rfl, 10, 17, rfl, rfl, c4, _, _, rfl, rfl, _, _, rfl, ?_⟩
        refine ⟨_, rfl, _, 9576890767, rfl, rfl, .inr ⟨by decide, by decide⟩, .int k, rfl, 611953, k, rfl, rfl, .inl ⟨by decide, by decide⟩, _, _, rfl, rfl, ?_⟩
        refine ⟨_, rfl, _, 0, rfl, rfl, .inr ⟨_, rfl, 2, _, rfl, rfl, .inl ⟨by decide, by decide⟩, _, _, rfl, rfl, _, 7, rfl, rfl, _, _, rfl, rfl, c5, ?_⟩⟩
        refine ⟨by show 3 ≤ sizeLine; decide, fun p np => ?_⟩
        exact q _ p (same_new np) np ⟨_, _, _, upd_same⟩
    · refine ⟨_, rfl, _, rfl, 10, 60, rfl, rfl, c1, _, 12, rfl, rfl, c2, _, _, rfl, rfl, c3, ?_⟩
      refine ⟨_, rfl, 10, 17, rfl, rfl, c4, _, _, rfl, rfl, _, _, rfl, ?_⟩
      refine ⟨_, rfl, _, 9576890767, rfl, rfl, .inr ⟨by decide, by decide⟩, .int k, rfl, 611953, k, rfl, rfl, .inl ⟨by decide, by decide⟩, _, _, rfl, rfl, ?_⟩
      refine ⟨_, rfl, _, 0, rfl, rfl, .inr ⟨_, rfl, 2, _, rfl, rfl, .inl ⟨by decide, by decide⟩, _, _, rfl, rfl, _, 7, rfl, rfl, _, _, rfl, rfl, c5, ?_⟩⟩
      refine ⟨by show 3 ≤ sizeLine; decide, fun p np => ?_⟩
      exact q _ p (same_new np) np ⟨_, _, _, upd_same⟩
end
end U1
namespace U1

open PySem PySem.Spec PyProof.Rows L2 KX
abbrev sNm : Stmt := topS 35
/-! ### _law_name -/
def baseL (n : Nat) : List Nat := [97 + n / 2 % 26] ++ (if n % 2 = 1 then [97] else []) ++ (if n > 51 then [97 + n / 52] else [])
def Lets (l : List Nat) : Prop := ∀ c ∈ l, 97 ≤ c ∧ c ≤ 122
def NameOf (n : Nat) (x : Str) : Prop := ∃ suf : List Nat, x.cps.toList = baseL n ++ suf ∧ Lets suf ∧ (suf.length = 0 ∨ (n % 2 = 1 ∧ n < 52 ∧ (suf.length = 2 ∨ suf.length = 6)))
theorem abc_at : ∀ i : Nat, i < 26 → abc.cps.toList[i]? = some (97 + i) := by decide +kernel
theorem abc_has : ∀ c : Nat, 97 ≤ c → c ≤ 122 → c ∈ abc.cps.toList := fun c h1 h2 => by
  have h := abc_at (c - 97) (by omega)
  rw [show 97 + (c - 97) = c by omega] at h
  exact List.mem_of_getElem? h
theorem abc_len : abc.length ≤ sizeLine := by decide +kernel
theorem app_cps (x y : Str) : (x ++ y).cps.toList = x.cps.toList ++ y.cps.toList := by
  show (x.cps ++ y.cps).toList = _
  simp
theorem base_cps (a b : Nat) (p q : Prop) [Decidable p] [Decidable q] : (((⟨#[a]⟩ : Str) ++ (if p then ("a" : Str) else "")) ++ (if q then (⟨#[b]⟩ : Str) else "")).cps.toList = [a] ++ (if p then [97] else []) ++ (if q then [b] else []) := by
  rw [app_cps, app_cps]
  by_cases hp : p
  · rw [if_pos hp, if_pos hp]
    by_cases hq : q
    · rw [if_pos hq, if_pos hq]; rfl
    · rw [if_neg hq, if_neg hq]; rfl
  · rw [if_neg hp, if_neg hp]
    by_cases hq : q
    · rw [if_pos hq, if_pos hq]; rfl
    · rw [if_neg hq, if_neg hq]; rfl
theorem b2i_one {c : Prop} [Decidable c] : ((if decide c = true then (1 : Int) else 0) = 1) ↔ c := by
  by_cases h : c
  · rw [decide_eq_true h, if_pos rfl]; simp [h]
  · rw [decide_eq_false h, if_neg (by decide)]; simp [h]
theorem len_cps (x : Str) : x.length = x.cps.toList.length := by simp [Str.length]
def spNm : Sp := fun vs H Q _ => ∃ (l : Addr) (n : Nat), vs = [.ref l, .int (n : Int)] ∧ StO H l ∧ n < 61 ∧ ∀ H' x, Keep l H H' → StO H' l → NameOf n x → Q (.str x) H'
theorem scNm : FnScope ["stream", "at", "letters", "name", "turn"] ["stream", "at"] (defScope sNm) := ⟨rfl, rfl, rfl, by decide +kernel, rfl, by decide +kernel, by decide +kernel⟩
section
variable {P : Program} {w : World} {K : PySem.W.Frag} {mg : Str → Option Value} {base : Heap}
theorem ok_nm {f fD : Addr} {fd fdD : FuncData} (B : Bl mg) (D : Df K mg "_law_name" sNm ["stream", "at"] f fd) (DD : Df K mg "_law_draw" sDraw ["stream", "total"] fD fdD) : FnOk P w K mg base CX0 2 f fd ["stream", "at"] spNm := by
  have GD : FnOk P w K mg base CX0 1 fD fdD _ spDraw := ok_draw B DD
  refine D.F.ok scNm (fun vs H Q E h => ?_) (fun cdv A outer s H vs Q E hr h => ?_)
  · obtain ⟨l, n, rfl, _⟩ := h
    rfl
  · obtain ⟨l, n, rfl, hs, hn, q⟩ := h
    have nd := scNm.nd
    refine ⟨_, pss_cons (ps_set (i := 2) nd rfl (.inl rfl) pe_str)
      (pss_cons (ps_set (i := 3) nd rfl (.inl rfl) (pe_op op_add_str (pe_op op_add_str (pe_ix ix_str (pv 2) (pe_op op_mod (pe_op op_fdiv (pv 1) pe_int) pe_int) (fun _ _ => rfl))
          (pe_ix ix_list (pe_lst (pa_cons pe_str (pa_cons pe_str pa_nil))) (pe_op op_mod (pv 1) pe_int) (fun _ _ => rfl)))
          (pe_op op_mul_s (pe_ix ix_str (pv 2) (pe_op op_fdiv (pv 1) pe_int) (fun _ _ => rfl)) (pe_callTy call_int1 (by rfl) B.int (by decide +kernel) (pa_cons (pe_cmpR op_gt (pv 1) pe_int (nomark _)) pa_nil)))))
      (pss_cons (ps_for PassesOwn.never rfl (pi_range1 (by rfl) B.range (pa_cons (pe_op op_mul (pe_op op_mul (pe_ix ix_list (pe_lst (pa_cons pe_int (pa_cons pe_int (pa_cons pe_int (pa_cons pe_int pa_nil)))))
              (pe_call GD hr (by rfl) DD.g DD.F.kp DD.b .nil pass0 (pa_cons (pv 0) (pa_cons pe_int pa_nil))) (fun _ _ => rfl))
              (pe_callTy call_int1 (by rfl) B.int (by decide +kernel) (pa_cons (pe_op op_mod (pv 1) pe_int) pa_nil)))
              (pe_callTy call_int1 (by rfl) B.int (by decide +kernel) (pa_cons (pe_cmpR op_lt (pv 1) pe_int (nomark _)) pa_nil))) pa_nil))
          (pg_name (i := 4) nd rfl (.inl rfl))
          (pss_one (ps_set (i := 3) nd rfl (.inl rfl) (pe_op op_add_str (pv 3) (pe_ix ix_str (pv 2) (pe_call GD hr (by rfl) DD.g DD.F.kp DD.b .nil pass0 (pa_cons (pv 0) (pa_cons pe_int pa_nil))) (fun _ _ => rfl))))))
      (pss_one (ps_ret (pv 3))))), ?_⟩
    have c26 : (0 : Int) < 26 := by decide
    have c2 : (0 : Int) < 2 ∧ (2 : Int) < 1073741824 := by decide
    have c52 : (0 : Int) < 52 ∧ (52 : Int) < 1073741824 := by decide
    have e1 : atI abc.cps.toList (((n : Int) / 2) % 26) = some (97 + n / 2 % 26) := by
      have := atI_nat (abc_at (n / 2 % 26) (by omega))
      rw [show (((n / 2 % 26 : Nat)) : Int) = ((n : Int) / 2) % 26 by omega] at this
      exact this
    have e2 : atI abc.cps.toList ((n : Int) / 52) = some (97 + n / 52) := by
      have := atI_nat (abc_at (n / 52) (by omega))
      rw [show (((n / 52 : Nat)) : Int) = (n : Int) / 52 by omega] at this
      exact this
    refine ⟨_, rfl, .int (n : Int), rfl, n, 2, rfl, rfl, c2, _, 26, rfl, rfl, c26, abc, _, _, rfl, rfl, abc_len, e1, ?_⟩
    refine ⟨by show 2 ≤ sizeLine; decide, fun p np => ?_⟩
    have h1 := hs.new (o := .lst [.str "", .str "a"]) np
    have e3 : atI [V.str "", V.str "a"] ((n : Int) % 2) = some (.str (if n % 2 = 1 then "a" else "")) := by
      rcases Nat.mod_two_eq_zero_or_one n with z | z
      · rw [if_neg (by omega), show (n : Int) % 2 = ((0 : Nat) : Int) by omega]
        rfl
      · rw [if_pos z, show (n : Int) % 2 = ((1 : Nat) : Int) by omega]
        rfl
    refine ⟨.int (n : Int), rfl, n, 2, rfl, rfl, (show (0 : Int) < 2 by decide), p, _, _, _, rfl, rfl, .inl (.inl upd_same), e3, _, _, rfl, rfl, ?_, ?_⟩
    · have : ((if n % 2 = 1 then ("a" : Str) else "") : Str).length ≤ 1 := by split <;> decide
      have h2 : (⟨#[97 + n / 2 % 26]⟩ : Str).length = 1 := rfl
      have hb : (2 : Nat) < sizeLine := by decide
      omega
    · refine ⟨_, rfl, .int (n : Int), rfl, n, 52, rfl, rfl, c52, abc, _, _, rfl, rfl, abc_len, e2, ?_⟩
      refine ⟨.int (n : Int), rfl, n, 51, rfl, rfl, .inr ⟨_, rfl, _, _, rfl, rfl, ?_, ?_⟩⟩
      · split <;> simp
      · have eb : (((⟨#[97 + n / 2 % 26]⟩ : Str) ++ (if n % 2 = 1 then ("a" : Str) else "")) ++ (if (if decide ((51 : Int) < (n : Int)) = true then (1 : Int) else 0) = 1 then (⟨#[97 + n / 52]⟩ : Str) else "")).cps.toList = baseL n := by
          rw [base_cps]
          unfold baseL
          congr 1
          by_cases z : n > 51
          · rw [if_pos z, if_pos (b2i_one.mpr (by omega))]
          · rw [if_neg z, if_neg (fun h => z (by have := b2i_one.mp h; omega))]
        have lb : (baseL n).length ≤ 3 := by
          unfold baseL
          split <;> split <;> simp
        refine ⟨_, _, rfl, rfl, ?_, ?_⟩
        · have k1 := len_cps ((((⟨#[97 + n / 2 % 26]⟩ : Str) ++ (if n % 2 = 1 then ("a" : Str) else "")) ++ (if (if decide ((51 : Int) < (n : Int)) = true then (1 : Int) else 0) = 1 then (⟨#[97 + n / 52]⟩ : Str) else "")))
          rw [eb, strLen_append] at k1
          have hb : (3 : Nat) < sizeLine := by decide
          omega
        · generalize hX : (((⟨#[97 + n / 2 % 26]⟩ : Str) ++ (if n % 2 = 1 then ("a" : Str) else "")) ++ (if (if decide ((51 : Int) < (n : Int)) = true then (1 : Int) else 0) = 1 then (⟨#[97 + n / 52]⟩ : Str) else "")) = X0 at eb ⊢
          refine ⟨by show 4 ≤ sizeLine; decide, fun p2 np2 => ?_⟩
          have h2 := h1.new (o := .lst [.int 0, .int 0, .int 2, .int 6]) np2
          refine ⟨.ref l, rfl, l, 4, rfl, h2, by decide, by decide, fun H2 d kd sd d0 d4 => ?_⟩
          have e4 : ∃ m : Nat, atI [V.int 0, V.int 0, V.int 2, V.int 6] d = some (.int (m : Int)) ∧ (m = 0 ∨ m = 2 ∨ m = 6) := by
            have : d = 0 ∨ d = 1 ∨ d = 2 ∨ d = 3 := by omega
            rcases this with rfl | rfl | rfl | rfl
            · exact ⟨0, rfl, by simp⟩
            · exact ⟨0, rfl, by simp⟩
            · exact ⟨2, rfl, by simp⟩
            · exact ⟨6, rfl, by simp⟩
          obtain ⟨m, em, hm⟩ := e4
          have pl : H2 p2 = some _ := kd _ _ (h1.ne np2) upd_same
          refine ⟨p2, _, d, _, rfl, rfl, .inl (.inl pl), em, .int (n : Int), rfl, n, 2, rfl, rfl, (show (0 : Int) < 2 by decide), .inl ⟨_, rfl, m, _, rfl, rfl, .inl ?_, ?_⟩⟩
          · omega
          · refine ⟨.int (n : Int), rfl, n, 52, rfl, rfl, .inr ⟨_, rfl, _, _, rfl, rfl, .inr ?_, ?_⟩⟩
            · split <;> decide
            · have hj : ∃ j : Nat, ((m : Int) * ((n : Int) % 2)) * (if decide ((n : Int) < 52) = true then (1 : Int) else 0) = (j : Int) ∧ (j = 0 ∨ (n % 2 = 1 ∧ n < 52 ∧ (j = 2 ∨ j = 6))) := by
                by_cases z : (n : Int) < 52
                · rw [decide_eq_true z, if_pos rfl, Int.mul_one]
                  rcases Nat.mod_two_eq_zero_or_one n with y | y
                  · exact ⟨0, by rw [show (n : Int) % 2 = 0 by omega]; simp, .inl rfl⟩
                  · refine ⟨m, by rw [show (n : Int) % 2 = 1 by omega]; simp, ?_⟩
                    rcases hm with h | h | h
                    · exact .inl h
                    · exact .inr ⟨y, by omega, .inl h⟩
                    · exact .inr ⟨y, by omega, .inr h⟩
                · rw [decide_eq_false z, if_neg (by decide), Int.mul_zero]
                  exact ⟨0, rfl, .inl rfl⟩
              obtain ⟨j, ej, hj⟩ := hj
              refine ⟨_, rfl, ?_, ?_, ?_⟩
              · show (-(2 ^ 62) : Int) ≤ _
                rw [ej]
                omega
              · show (_ : Int) < 2 ^ 62
                rw [ej]
                omega
              · have st1 : StO H2 l := sd
                have kp1 : Keep l H H2 := (((Keep.refl l H).new np).new np2).trans kd
                refine for_range (lo := 0) (n := Int.toNat _) (fun i σ G => Keep l H G ∧ StO G l ∧ ∃ (x : Str) (suf : List Nat) (tv : Option V), σ = [some (.ref l), some (.int n), some (.str abc), some (.str x), tv] ∧ x.cps.toList = baseL n ++ suf ∧ Lets suf ∧ suf.length = i)
                  ⟨kp1, st1, X0, [], none, rfl, by rw [eb, List.append_nil], fun c hc => absurd hc (by simp), rfl⟩ (fun i σ G hi hp => ?_) (fun σ G hp => ?_)
                · obtain ⟨kp, st, x, suf, tv, rfl, ex, hl, hi2⟩ := hp
                  have hi3 : i < j := by
                    have h := hi
                    rw [show Int.toNat _ = j from congrArg Int.toNat ej] at h
                    exact h
                  refine ⟨.str x, rfl, _, rfl, .ref l, rfl, l, 26, rfl, st, by decide, by decide, fun G2 d2 kd2 sd2 d20 d26 => ?_⟩
                  have e5 : atI abc.cps.toList d2 = some (97 + d2.toNat) := by
                    have := atI_nat (abc_at d2.toNat (by omega))
                    rw [show ((d2.toNat : Nat) : Int) = d2 by omega] at this
                    exact this
                  refine ⟨abc, _, _, rfl, rfl, abc_len, e5, x, _, rfl, rfl, ?_, kp.trans kd2, sd2, _, suf ++ [97 + d2.toNat], _, rfl, ?_, ?_, ?_⟩
                  · have k1 := len_cps x
                    rw [ex, List.length_append] at k1
                    have k2 : (⟨#[97 + d2.toNat]⟩ : Str).length = 1 := rfl
                    have hb : (20 : Nat) < sizeLine := by decide
                    omega
                  · rw [app_cps, ex, List.append_assoc]
                  · intro c hc
                    rcases List.mem_append.mp hc with hc | hc
                    · exact hl c hc
                    · have : c = 97 + d2.toNat := by simpa using hc
                      omega
                  · rw [List.length_append, hi2]
                    rfl
                · obtain ⟨kp, st, x, suf, tv, rfl, ex, hl, hi2⟩ := hp
                  have hi3 : suf.length = j := hi2.trans (congrArg Int.toNat ej)
                  refine ⟨_, rfl, q G x kp st ⟨suf, ex, hl, ?_⟩⟩
                  rw [hi3]
                  exact hj
end
theorem name_ok {n : Nat} {x : Str} (hn : n < 61) (h : NameOf n x) : nameD (.str x) = true ∧ x.length ≤ 8 := by
  obtain ⟨suf, ex, hl, hs⟩ := h
  have hb : (baseL n).length = 1 + (if n % 2 = 1 then 1 else 0) + (if n > 51 then 1 else 0) := by
    unfold baseL
    split <;> split <;> simp
  have lx := len_cps x
  rw [ex, List.length_append, hb] at lx
  have h8 : 1 ≤ x.length ∧ x.length ≤ 8 := by
    split at lx <;> split at lx <;> omega
  refine ⟨?_, h8.2⟩
  have all : letD x = true := by
    unfold letD
    rw [ex, List.all_eq_true]
    intro c hc
    refine decide_eq_true (abc_has c ?_ ?_)
    all_goals
      rcases List.mem_append.mp hc with hc | hc
      · unfold baseL at hc
        split at hc <;> split at hc <;> simp at hc <;> omega
      · have := hl c hc
        omega
  show ((decide (1 ≤ (x.length : Int)) && decide ((x.length : Int) ≤ 8)) && letD x) = true
  rw [all, decide_eq_true (by omega), decide_eq_true (by omega)]
  rfl
end U1

set_option maxRecDepth 100000
set_option maxHeartbeats 4000000
namespace KX
open PySem PySem.Spec PyProof.Rows L2
/-- what is seen but for two addresses -/
def view (l q : Addr) (H : Hp) : Hp := hid q (hid l H)
theorem view_at {l q b : Addr} {H : Hp} (h : b ≠ l) (h' : b ≠ q) : view l q H b = H b := by
  unfold view
  rw [hid_at h', hid_at h]
theorem view_same {l q : Addr} {H H' : Hp} (k : ∀ b o, b ≠ l → b ≠ q → H b = some o → H' b = some o) : Same (view l q H) (view l q H') := fun b o e => by
  obtain ⟨n, e⟩ := hid_some e
  obtain ⟨n', e⟩ := hid_some e
  rw [view_at n' n]
  exact k b o n' n e
theorem view_keep {l q : Addr} {H H' : Hp} (k : Keep l H H') : Same (view l q H) (view l q H') := view_same fun b o n _ e => k b o n e
theorem view_tup {l q p : Addr} {H : Hp} {xs : List V} {ds : List PyData} (n : H p = none) (hl : p ≠ l) (hq : p ≠ q) (h : Dxs (view l q H) xs ds) : Dx (view l q (L2.upd H p (.tup xs))) (.ref p) (.tuple ds) :=
  .tup (by rw [view_at hl hq]; exact upd_same) (h.up (view_keep ((Keep.refl l H).new n)))
theorem Keep.to {l : Addr} {H H' : Hp} {b : Addr} {o : HO} (k : Keep l H H') (n : b ≠ l) (e : H b = some o) : H' b = some o := k b o n e
end KX
namespace U1

open PySem PySem.Spec PyProof.Rows L2 KX
abbrev sRs : Stmt := topS 36
/-! ### _law_rowset -/
structure Rec where
  nm : Str
  cost : Int
  vals : List Int
  exp : Int
def encR (r : Rec) : PyData := .tuple [.str r.nm, .int r.cost, .tuple (r.vals.map .int), .int r.exp]
structure RecOk (w n : Nat) (r : Rec) : Prop where
  nm : NameOf n r.nm
  c0 : 1 ≤ r.cost
  c1 : r.cost ≤ 1000000
  len : r.vals.length = w
  vs : ∀ v ∈ r.vals, -1000000000 ≤ v ∧ v ≤ 1000000000
  e0 : 1 ≤ r.exp
  e1 : r.exp ≤ 1000000000
/-- the rows as they are made, one for each number -/
def Made (w : Nat) (recs : List Rec) : Prop := ∀ (i : Nat) (r : Rec), recs[i]? = some r → RecOk w i r
def sortR (recs : List Rec) : List Rec := recs.mergeSort (PySem.W.dataLe false encR)
def spRs : Sp := fun vs H Q _ => ∃ (l : Addr) (n w : Nat), vs = [.ref l, .int (n : Int), .int (w : Int)] ∧ StO H l ∧ n ≤ 61 ∧ 1 ≤ w ∧ w ≤ 4 ∧
  ∀ H' p recs, Keep l H H' → StO H' l → recs.length = n → Made w recs → Dx (hid l H') (.ref p) (.tuple ((sortR recs).map encR)) → Q (.ref p) H'
theorem scRs : FnScope ["stream", "total", "wide", "top", "dear", "last", "rows", "at", "worths", "col"] ["stream", "total", "wide"] (defScope sRs) := ⟨rfl, rfl, rfl, by decide +kernel, rfl, by decide +kernel, by decide +kernel⟩
theorem dxs_ints {H : Hp} : ∀ (ns : List Int), Dxs H (ns.map V.int) (ns.map PyData.int)
  | [] => .nil
  | n :: ns => .cons (.int n) (dxs_ints ns)
theorem menu {ns : List Int} {d : Int} (h0 : 0 ≤ d) (h1 : d < (ns.length : Int)) : ∃ t, t ∈ ns ∧ atI (ns.map V.int) d = some (.int t) := by
  have hl : d.toNat < ns.length := by omega
  refine ⟨ns[d.toNat], List.getElem_mem hl, ?_⟩
  have := atI_nat (xs := ns.map V.int) (j := d.toNat) (v := .int ns[d.toNat]) (by rw [List.getElem?_map, List.getElem?_eq_getElem hl]; rfl)
  rw [show ((d.toNat : Nat) : Int) = d by omega] at this
  exact this
theorem alike_recs (rs : List Rec) : PySem.W.AllAlike (rs.map encR) := PySem.W.AllAlike.of fun a b => by
  simp [encR, PySem.W.alike, PySem.W.alikeAll, PySem.W.alike_ints]
theorem tup_recs (rs : List Rec) : PySem.W.Sortable (rs.map encR) := PySem.W.Sortable.tuples fun b => ⟨_, _, rfl⟩
theorem depth_rec (r : Rec) : (encR r).depth ≤ 50 := by
  simp [encR, PyData.depth, PyData.depthAll, PySem.W.depth_ints]
theorem plain_rec (r : Rec) : (encR r).plain = true := by
  simp [encR, PyData.plain, PyData.plainAll, pl_ints]
theorem dxs_pairs {H : Hp} : ∀ (bs : List (V × Rec)), (∀ b ∈ bs, Dx H b.1 (encR b.2)) → Dxs H (bs.map (·.1)) (bs.map fun b => encR b.2)
  | [], _ => .nil
  | b :: bs, h => .cons (h b (by simp)) (dxs_pairs bs fun c hc => h c (by simp [hc]))
section
variable {P : Program} {w : World} {K : PySem.W.Frag} {mg : Str → Option Value} {base : Heap}
theorem ok_rs {f fD fN : Addr} {fd fdD fdN : FuncData} (B : Bl mg) (D : Df K mg "_law_rowset" sRs ["stream", "total", "wide"] f fd) (DD : Df K mg "_law_draw" sDraw ["stream", "total"] fD fdD) (DN : Df K mg "_law_name" sNm ["stream", "at"] fN fdN) :
    FnOk P w K mg base CX0 3 f fd ["stream", "total", "wide"] spRs := by
  have GD : FnOk P w K mg base CX0 2 fD fdD _ spDraw := (ok_draw B DD).mono (by decide)
  have GN : FnOk P w K mg base CX0 2 fN fdN _ spNm := ok_nm B DN DD
  refine D.F.ok scRs (fun vs H Q E h => ?_) (fun cdv A outer s H vs Q E hr h => ?_)
  · obtain ⟨l, n, w, rfl, _⟩ := h
    rfl
  · obtain ⟨l, n, wd, rfl, hs, hn, hw1, hw4, q⟩ := h
    have nd := scRs.nd
    refine ⟨_, pss_cons (ps_set (i := 3) nd rfl (.inr rfl) (pe_ix ix_list (pe_lst (pa_cons pe_int (pa_cons pe_int (pa_cons pe_int (pa_cons (pe_op op_pow pe_int pe_int) pa_nil)))))
          (pe_call GD hr (by rfl) DD.g DD.F.kp DD.b .nil pass0 (pa_cons (pv 0) (pa_cons pe_int pa_nil))) (fun _ _ => rfl)))
      (pss_cons (ps_par (i := 4) (j := 5) rfl nd rfl rfl (by decide) rfl rfl (pa_cons (pe_ix ix_list (pe_lst (pa_cons pe_int (pa_cons pe_int (pa_cons pe_int (pa_cons (pe_op op_pow pe_int pe_int) pa_nil)))))
          (pe_call GD hr (by rfl) DD.g DD.F.kp DD.b .nil pass0 (pa_cons (pv 0) (pa_cons pe_int pa_nil))) (fun _ _ => rfl))
          (pa_cons (pe_ix ix_list (pe_lst (pa_cons pe_int (pa_cons pe_int (pa_cons (pe_op op_pow pe_int pe_int) pa_nil))))
          (pe_call GD hr (by rfl) DD.g DD.F.kp DD.b .nil pass0 (pa_cons (pv 0) (pa_cons pe_int pa_nil))) (fun _ _ => rfl)) pa_nil)) (by rfl))
      (pss_cons (ps_set (i := 6) nd rfl (.inl rfl) (pe_lst pa_nil))
      (pss_cons (ps_for PassesOwn.never rfl (pi_range1 (by rfl) B.range (pa_cons (pv 1) pa_nil)) (pg_name (i := 7) nd rfl (.inl rfl))
        (pss_cons (ps_set (i := 8) nd rfl (.inl rfl) (pe_callTy call_tuple_of (by rfl) B.tuple (by decide +kernel) (pa_cons (pe_lc (own := [("col", 9)]) (g := gName 9) rfl nd (pi_range1 (by rfl) B.range (pa_cons (pv 2) pa_nil))
            (blkOk_by (N := ["stream", "total", "wide", "top", "dear", "last", "rows", "at", "worths", "col"]) (sc := defScope sRs) (by decide +kernel)) (fun _ _ _ _ _ => pg_name (i := 9) nd rfl (Or.inl rfl)) (fun _ _ _ _ _ => pts_nil)
            (fun _ _ _ _ _ => pe_op op_sub (pe_call GD hr (by rfl) DD.g DD.F.kp DD.b .nil pass0 (pa_cons (pv 0) (pa_cons (pe_op op_add (pe_op op_mul pe_int (pv 3)) pe_int) pa_nil))) (pv 3))) pa_nil)))
        (pss_one (ps_expr (pe_bm PySem.F.plainAttrs_list PySem.F.slot_list_append PySem.F.type_list_append mt_append (pv 6) (pa_cons (pe_tup (pa_cons (pe_call GN hr (by rfl) DN.g DN.F.kp DN.b .nil pass0 (pa_cons (pv 0) (pa_cons (pv 7) pa_nil)))
            (pa_cons (pe_op op_add pe_int (pe_call GD hr (by rfl) DD.g DD.F.kp DD.b .nil pass0 (pa_cons (pv 0) (pa_cons (pv 4) pa_nil)))) (pa_cons (pv 8)
            (pa_cons (pe_op op_add pe_int (pe_call GD hr (by rfl) DD.g DD.F.kp DD.b .nil pass0 (pa_cons (pv 0) (pa_cons (pv 5) pa_nil)))) pa_nil))))) pa_nil))))))
      (pss_one (ps_ret (pe_callTy call_tuple_of (by rfl) B.tuple (by decide +kernel) (pa_cons (pe_callB (cr_sortE (enc := encR) hr) (by rfl) B.sorted (by decide +kernel) (pa_cons (pv 6) pa_nil)) pa_nil))))))), ?_⟩
    -- top = [1, 2, 4, 10 ** 9][draw]
    refine ⟨10, 9, rfl, rfl, ⟨by decide, by decide, by decide⟩, by show 4 ≤ sizeLine; decide, fun p1 n1 => ?_⟩
    refine ⟨.ref l, rfl, l, 4, rfl, hs.new n1, by decide, by decide, fun H1 d1 k1 s1 d10 d14 => ?_⟩
    have a1 : H1 p1 = some _ := k1.to (hs.ne n1) upd_same
    obtain ⟨top, mt, et⟩ := menu (ns := [1, 2, 4, 10 ^ (9 : Int).toNat]) d10 d14
    have ht : 1 ≤ top ∧ top ≤ 1000000000 := by
      have : ∀ t ∈ [1, 2, 4, (10 : Int) ^ (9 : Int).toNat], 1 ≤ t ∧ t ≤ 1000000000 := by decide
      exact this top mt
    refine ⟨p1, _, d1, _, rfl, rfl, .inl (.inl a1), et, ?_⟩
    -- dear, last
    refine ⟨10, 6, rfl, rfl, ⟨by decide, by decide, by decide⟩, by show 4 ≤ sizeLine; decide, fun p2 n2 => ?_⟩
    refine ⟨.ref l, rfl, l, 4, rfl, s1.new n2, by decide, by decide, fun H2 d2 k2 s2 d20 d24 => ?_⟩
    have a2 : H2 p2 = some _ := k2.to (s1.ne n2) upd_same
    obtain ⟨dear, md, ed⟩ := menu (ns := [1, 3, 9, 10 ^ (6 : Int).toNat]) d20 d24
    have hd : 1 ≤ dear ∧ dear ≤ 1000000 := by
      have : ∀ t ∈ [1, 3, 9, (10 : Int) ^ (6 : Int).toNat], 1 ≤ t ∧ t ≤ 1000000 := by decide
      exact this dear md
    refine ⟨p2, _, d2, _, rfl, rfl, .inl (.inl a2), ed, ?_⟩
    refine ⟨10, 9, rfl, rfl, ⟨by decide, by decide, by decide⟩, by show 3 ≤ sizeLine; decide, fun p3 n3 => ?_⟩
    refine ⟨.ref l, rfl, l, 3, rfl, s2.new n3, by decide, by decide, fun H3 d3 k3 s3 d30 d34 => ?_⟩
    have a3 : H3 p3 = some _ := k3.to (s2.ne n3) upd_same
    obtain ⟨last, ml, el⟩ := menu (ns := [1, 3, 10 ^ (9 : Int).toNat]) d30 d34
    have hl : 1 ≤ last ∧ last ≤ 1000000000 := by
      have : ∀ t ∈ [1, 3, (10 : Int) ^ (9 : Int).toNat], 1 ≤ t ∧ t ≤ 1000000000 := by decide
      exact this last ml
    refine ⟨p3, _, d3, _, rfl, rfl, .inl (.inl a3), el, _, _, rfl, ?_⟩
    -- rows = []
    refine ⟨Nat.zero_le _, fun r nr => ?_⟩
    have hrl : r ≠ l := s3.ne nr
    have kk : Keep l H (L2.upd H3 r (.lst [])) := ((((((Keep.refl l H).new n1).trans k1).new n2).trans k2).new n3).trans k3 |>.new nr
    have s4 : StO (L2.upd H3 r (.lst [])) l := s3.new nr
    have hHr : H r = none := by
      cases e : H r with
      | none => rfl
      | some o =>
        have := ((((((Keep.refl l H).new n1).trans k1).new n2).trans k2).new n3).trans k3 r o hrl e
        rw [nr] at this
        cases this
    refine ⟨.int (n : Int), rfl, n, rfl, by omega, by omega, ?_⟩
    refine for_range (lo := 0) (n := n) (fun i σ G => Keep l H G ∧ StO G l ∧ ∃ (vs : List V) (recs : List Rec) (ta tw tc : Option V), σ = [some (.ref l), some (.int n), some (.int wd), some (.int top), some (.int dear), some (.int last), some (.ref r), ta, tw, tc] ∧
        G r = some (.lst vs) ∧ Dxs (view l r G) vs (recs.map encR) ∧ recs.length = i ∧ Made wd recs)
      ⟨kk, s4, [], [], none, none, none, rfl, upd_same, .nil, rfl, fun i r h => by simp at h⟩ (fun i σ G hi hp => ?_) (fun σ G hp => ?_)
    · obtain ⟨kp, st, vs, recs, ta, tw, tc, rfl, gr, hx, hlen, hmade⟩ := hp
      refine ⟨.int (wd : Int), rfl, wd, rfl, by omega, by omega, fun D0 nD => ?_⟩
      have hDl : D0 ≠ l := st.ne nD
      refine lc_range (lo := 0) (n := wd) (fun j F => Keep l G F ∧ StO F l ∧ ∃ ns : List Int, ns.length = j ∧ (∀ v ∈ ns, -1000000000 ≤ v ∧ v ≤ 1000000000) ∧ F D0 = some (.lst (ns.map V.int)))
        ⟨(Keep.refl l G).new nD, st.new nD, [], rfl, fun v h => absurd h (by simp), upd_same⟩ (fun j F hj hF => ?_) (fun F hF => ?_)
      · obtain ⟨kF, sF, ns, hns, hv, eD⟩ := hF
        refine ⟨rfl, .ref l, rfl, .int top, rfl, 2, top, rfl, rfl, .inl ⟨by decide, by decide⟩, _, 1, rfl, rfl, l, 2 * top + 1, rfl, sF, by omega, by omega, fun F2 d kd sd d0 d1 => ?_⟩
        have eD2 : F2 D0 = some _ := kd.to hDl eD
        refine ⟨.int top, rfl, d, top, rfl, rfl, _, eD2, ?_, ?_⟩
        · rw [List.length_map]
          have hb : (4 : Nat) < sizeLine := by decide
          omega
        · refine ⟨fun b o nb eb => by rw [upd_ne (ne_of_none eb nD)]; exact kd b o nb (kF b o nb eb), ?_, ns ++ [d - top], ?_, ?_, ?_⟩
          · obtain ⟨x, y, z, e⟩ := sd
            exact ⟨x, y, z, by rw [upd_ne hDl.symm]; exact e⟩
          · rw [List.length_append, hns]
            rfl
          · intro v hv'
            rcases List.mem_append.mp hv' with hv' | hv'
            · exact hv v hv'
            · have : v = d - top := by simpa using hv'
              omega
          · rw [upd_same, List.map_append]
            rfl
      · obtain ⟨kF, sF, ns, hns, hv, eD⟩ := hF
        refine ⟨D0, _, rfl, .inl ⟨.inl (.inl eD), fun t nt => ?_⟩⟩
        have htl : t ≠ l := sF.ne nt
        have gr1 : F r = some (.lst vs) := kF.to hrl gr
        have htr : t ≠ r := (ne_of_none gr1 nt).symm
        have s5 : StO (L2.upd F t (.tup (ns.map V.int))) l := sF.new nt
        have dt : Dx (view l r (L2.upd F t (.tup (ns.map V.int)))) (.ref t) (.tuple (ns.map PyData.int)) := view_tup nt htl htr (dxs_ints ns)
        have k5 : Keep l G (L2.upd F t (.tup (ns.map V.int))) := kF.new nt
        refine ⟨.ref r, rfl, .inl ⟨rfl, _, .inl (.inl (k5.to hrl gr))⟩, .ref l, rfl, _, rfl, l, i, by simp, s5, by omega, fun G2 x k6 s6 hnm => ?_⟩
        refine ⟨.ref l, rfl, .int dear, rfl, l, dear, rfl, s6, by omega, by omega, fun G3 dc k7 s7 c0 c1 => ⟨1, dc, rfl, rfl, .ref t, rfl, ?_⟩⟩
        refine ⟨.ref l, rfl, .int last, rfl, l, last, rfl, s7, by omega, by omega, fun G4 de k8 s8 e0 e1 => ⟨1, de, rfl, rfl, by show 4 ≤ sizeLine; decide, fun u nu => ?_⟩⟩
        have hul : u ≠ l := s8.ne nu
        have kk4 : Keep l G G4 := ((k5.trans k6).trans k7).trans k8
        have gr4 : G4 r = some (.lst vs) := kk4.to hrl gr
        have hur : u ≠ r := (ne_of_none gr4 nu).symm
        have dt4 : Dx (view l r G4) (.ref t) (.tuple (ns.map PyData.int)) := dt.up (view_keep ((k6.trans k7).trans k8))
        have du : Dx (view l r (L2.upd G4 u (.tup [.str x, .int (1 + dc), .ref t, .int (1 + de)]))) (.ref u) (encR ⟨x, 1 + dc, ns, 1 + de⟩) :=
          view_tup nu hul hur (.cons (.str x) (.cons (.int _) (.cons dt4 (.cons (.int _) .nil))))
        have ku : Keep l G (L2.upd G4 u (.tup [.str x, .int (1 + dc), .ref t, .int (1 + de)])) := kk4.new nu
        have vlen : vs.length = recs.length := by
          have := hx.len
          rwa [List.length_map] at this
        refine ⟨r, vs, .ref u, rfl, rfl, by rw [upd_ne hur.symm]; exact gr4, ?_, ?_⟩
        · have hb : (61 : Nat) < sizeLine := by decide
          omega
        · have sup : Same (view l r (L2.upd G4 u (.tup [.str x, .int (1 + dc), .ref t, .int (1 + de)]))) (view l r (L2.upd (L2.upd G4 u (.tup [.str x, .int (1 + dc), .ref t, .int (1 + de)])) r (.lst (vs ++ [.ref u])))) :=
            view_same fun b o _ nb e => by rw [upd_ne nb]; exact e
          refine ⟨fun b o nb eb => by rw [upd_ne (ne_of_none eb hHr)]; exact ku b o nb (kp b o nb eb), ?_, vs ++ [.ref u], recs ++ [⟨x, 1 + dc, ns, 1 + de⟩], _, _, _, rfl, upd_same, ?_, ?_, ?_⟩
          · obtain ⟨y1, y2, y3, e⟩ := s8.new (o := .tup [.str x, .int (1 + dc), .ref t, .int (1 + de)]) nu
            exact ⟨y1, y2, y3, by rw [upd_ne hrl.symm]; exact e⟩
          · rw [List.map_append]
            exact ((hx.up (view_keep ku)).up sup).app (.cons (du.up sup) .nil)
          · rw [List.length_append, hlen]
            rfl
          · intro j r' hj
            by_cases hjl : j < recs.length
            · exact hmade j r' (by rw [List.getElem?_append_left hjl] at hj; exact hj)
            · rw [List.getElem?_append_right (by omega)] at hj
              have hj0 : j - recs.length = 0 := by
                have := (List.getElem?_eq_some_iff.mp hj).1
                simp at this
                omega
              rw [hj0] at hj
              cases hj
              have hji : j = i := by omega
              rw [hji]
              exact ⟨hnm, by show 1 ≤ 1 + dc; omega, by show 1 + dc ≤ _; omega, hns, hv, by show 1 ≤ 1 + de; omega, by show 1 + de ≤ _; omega⟩
    · obtain ⟨kp, st, vs, recs, ta, tw, tc, rfl, gr, hx, hlen, hmade⟩ := hp
      have vlen : vs.length = recs.length := by
        have := hx.len
        rwa [List.length_map] at this
      have eachH : ∀ b ∈ vs.zip recs, Dx (hid l G) b.1 (encR b.2) := fun b hb => by
        obtain ⟨i, hi, e⟩ := List.mem_iff_getElem.mp hb
        have e' : (vs.zip recs)[i]? = some b := by rw [List.getElem?_eq_getElem hi, e]
        rw [List.getElem?_zip_eq_some] at e'
        obtain ⟨d, ed, hd⟩ := hx.get' e'.1
        rw [List.getElem?_map, e'.2] at ed
        cases ed
        exact hd.up (hid_same r (hid l G))
      have each : ∀ b ∈ vs.zip recs, Dx G b.1 (encR b.2) := fun b hb => (eachH b hb).up (hid_same l G)
      refine ⟨.ref r, rfl, r, vs.zip recs, rfl, .inl (.inl ?_), ?_, ?_, ?_, ?_, fun p np => ?_⟩
      · rw [List.map_fst_zip (by omega)]
        exact gr
      · intro b hb
        exact dp_dx _ _ (plain_rec b.2) (each b hb)
      · have := alike_recs ((vs.zip recs).map (·.2))
        rwa [List.map_map] at this
      · have := tup_recs ((vs.zip recs).map (·.2))
        rwa [List.map_map] at this
      · exact fun b _ => depth_rec b.2
      · have hm : ∀ b ∈ (vs.zip recs).mergeSort (PySem.W.dataLe false fun b => encR b.2), Dx (hid l (L2.upd G p (.lst (((vs.zip recs).mergeSort (PySem.W.dataLe false fun b => encR b.2)).map (·.1))))) b.1 (encR b.2) := fun b hb =>
          ((eachH b (List.mem_mergeSort.mp hb)).up (hnew np))
        have e1 : ((vs.zip recs).mergeSort (PySem.W.dataLe false fun b => encR b.2)).map (fun b => encR b.2) = (sortR recs).map encR := by
          have e2 : ((vs.zip recs).mergeSort (PySem.W.dataLe false fun b => encR b.2)).map Prod.snd = sortR recs := by
            have h := List.map_mergeSort (f := Prod.snd) (r := PySem.W.dataLe false fun b : V × Rec => encR b.2) (s := PySem.W.dataLe false encR) (l := vs.zip recs) (fun a _ b _ => rfl)
            rw [List.map_snd_zip (by omega)] at h
            exact h
          rw [← e2, List.map_map]
          rfl
        have hx2 := dxs_pairs _ hm
        rw [e1] at hx2
        have sp := st.new (o := .lst (((vs.zip recs).mergeSort (PySem.W.dataLe false fun b => encR b.2)).map (·.1))) np
        refine ⟨p, _, rfl, .inl ⟨.inl (.inl upd_same), fun p2 np2 => ?_⟩⟩
        exact q _ p2 recs ((kp.new np).new np2) (sp.new np2) hlen hmade (dx_tup np2 sp hx2)
end
end U1
namespace U1

open PySem PySem.Spec PyProof.Rows L2 KX
theorem nm_len {r : Rec} {w : Nat} (h : RecOk w 0 r) : r.nm.length = 1 := by
  obtain ⟨suf, ex, hl, hs⟩ := h.nm
  have lx := len_cps r.nm
  rw [ex, List.length_append] at lx
  have hb : (baseL 0).length = 1 := rfl
  rcases hs with hs | ⟨z, _⟩
  · omega
  · omega
theorem fine_ints {B : Nat} : ∀ ns : List Int, (∀ v ∈ ns, -1000000000 ≤ v ∧ v ≤ 1000000000) → 1000000000 ≤ B → fineAll B (ns.map PyData.int) = true
  | [], _, _ => rfl
  | n :: ns, h, hB => by
    have := h n (by simp)
    simp only [List.map_cons, fineAll, fine, Bool.and_eq_true]
    exact ⟨decide_eq_true (by omega), fine_ints ns (fun v hv => h v (by simp [hv])) hB⟩
theorem wt_ints : ∀ ns : List Int, wtAll (ns.map PyData.int) = ns.length
  | [] => rfl
  | n :: ns => by
    simp only [List.map_cons, wtAll, wt_ints ns, List.length_cons]
    rw [show wt (.int n) = 1 by simp [wt]]
    omega
theorem rec_good {r : Rec} {w : Nat} (h : RecOk w 0 r) (hw : w ≤ 4) : Good (10 ^ 40) 10 (encR r) := by
  have l1 := nm_len h
  have hl := h.len
  have c0 := h.c0
  have c1 := h.c1
  have e0 := h.e0
  have e1 := h.e1
  obtain ⟨suf, ex, hs, hx⟩ := h.nm
  refine ⟨?_, ?_⟩
  · simp only [encR, fine, fineAll, Bool.and_eq_true]
    refine ⟨?_, decide_eq_true (by omega), fine_ints _ h.vs (by decide), decide_eq_true (by omega), trivial⟩
    refine List.all_eq_true.mpr fun c hc => decide_eq_true ?_
    rw [ex] at hc
    rcases List.mem_append.mp hc with hc | hc
    · have : c = 97 := by simpa [baseL] using hc
      omega
    · have := hs c hc
      omega
  · simp only [encR, wt, wtAll, wt_ints]
    omega
theorem betw_int {lo hi i : Int} (h0 : lo ≤ i) (h1 : i ≤ hi) : betw lo hi (.int i) = true := by
  show (decide (lo ≤ i) && decide (i ≤ hi)) = true
  rw [decide_eq_true h0, decide_eq_true h1]
  rfl
theorem rec_row {r : Rec} {w n : Nat} (hn : n < 61) (h : RecOk w n r) (h1 : 1 ≤ w) (hw : w ≤ 4) : rowD (encR r) = true := by
  show (nameD (.str r.nm) && betw 1 1000000 (.int r.cost) && (valsD (.tuple (r.vals.map .int)) && betw 1 1000000000 (.int r.exp))) = true
  rw [(name_ok hn h.nm).1, betw_int h.c0 h.c1, betw_int h.e0 h.e1]
  have hl := h.len
  have ev : valsD (.tuple (r.vals.map .int)) = true := by
    show ((decide (1 ≤ (((r.vals.map PyData.int).length : Nat) : Int)) && decide ((((r.vals.map PyData.int).length : Nat) : Int) ≤ 4)) && (r.vals.map PyData.int).all (betw (-1000000000) 1000000000)) = true
    rw [List.length_map, decide_eq_true (by omega), decide_eq_true (by omega)]
    simp only [Bool.true_and, List.all_eq_true]
    intro d hd
    obtain ⟨v, hv, rfl⟩ := List.mem_map.mp hd
    exact betw_int (h.vs v hv).1 (h.vs v hv).2
  rw [ev]
  rfl
def okEnt : PyData → Bool
  | .tuple [.tuple [.str n, c, v, e], .bool b] => (rowD (.tuple [.str n, c, v, e]) == b) && decide (n.length ≤ 100) && !(tyN c == "str") && !(tyN v == "str") && !(tyN e == "str")
  | _ => false

end U1

set_option maxRecDepth 100000
set_option maxHeartbeats 4000000
namespace U1
open PySem PySem.Spec PyProof.Rows L2 KX
abbrev sAsc : Stmt := topS 10
abbrev sOW : Stmt := topS 24
abbrev sHW : Stmt := topS 25
abbrev sIR : Stmt := topS 26
abbrev sNO : Stmt := topS 27
/-! ### is_ascending -/
def ltS (a b : Str) : Bool := decide (a.cps.toList < b.cps.toList)
def ascS : List Str → Bool
  | a :: b :: r => ltS a b && ascS (b :: r)
  | _ => true
theorem asc_pairs : ∀ ns : List Str, ((ns.zip (ns.drop 1)).map fun q => ltS q.1 q.2).all id = ascS ns
  | [] => rfl
  | [_] => rfl
  | a :: b :: r => by
    have ih := asc_pairs (b :: r)
    have e : ((a :: b :: r).zip ((a :: b :: r).drop 1)) = (a, b) :: ((b :: r).zip ((b :: r).drop 1)) := rfl
    rw [e, List.map_cons, List.all_cons, ih]
    rfl
theorem vals_strsD {H : Hp} : ∀ {xs : List V} {ns : List Str}, Dxs H xs (ns.map PyData.str) → xs = ns.map V.str
  | [], [], _ => rfl
  | x :: xs, n :: ns, .cons h t => by
    cases h
    rw [vals_strsD t]
    rfl
theorem sl_same {K : PySem.W.Frag} {H : Hp} {ds : List PyData} {Q : VK} {lo hi : Option Int} {v : V} (hd : Dx H v (.tuple ds)) (q : ∀ H' p, Same H H' → Dx H' (.ref p) (.tuple (KX.cutD ds lo hi)) → Q (.ref p) H') : rSlA K v lo hi H Q := by
  cases hd with
  | @tup a xs _ ea h =>
    refine ⟨a, xs, rfl, .inl (.inl ea), fun hw => q H a (Same.refl H) ?_, fun _ p np => q _ p (same_new np) (.tup upd_same ((dxs_cut h lo hi).up (same_new np)))⟩
    have : KX.cutD ds lo hi = ds := by
      unfold KX.cutD
      rw [← h.len, hw.1, hw.2, List.drop_zero, Nat.sub_zero, List.take_of_length_le (by rw [h.len]; exact Nat.le_refl _)]
    rw [this]
    exact .tup ea h
def spAsc : Sp := fun vs H Q _ => ∃ (v : V) (ns : List Str), vs = [v] ∧ Dx H v (.tuple (ns.map .str)) ∧ ns.length ≤ 1000 ∧ ∀ H', Same H H' → Q (.bl (ascS ns)) H'
theorem scAsc : FnScope ["names", "first", "second"] ["names"] (defScope sAsc) := ⟨rfl, rfl, rfl, by decide +kernel, rfl, by decide +kernel, by decide +kernel⟩
section
variable {P : Program} {w : World} {K : PySem.W.Frag} {mg : Str → Option Value} {base : Heap}
theorem ok_asc {f : Addr} {fd : FuncData} (B : Bl mg) (D : Df K mg "is_ascending" sAsc ["names"] f fd) : FnOk P w K mg base CX0 1 f fd ["names"] spAsc := by
  refine D.F.ok scAsc (fun vs H Q E h => ?_) (fun cdv A outer s H vs Q E hr h => ?_)
  · obtain ⟨v, ns, rfl, _⟩ := h
    rfl
  · obtain ⟨v, ns, rfl, hd, hl, q⟩ := h
    have nd := scAsc.nd
    refine ⟨_, pss_one (ps_ret (pe_callB (cr_all rfl) (by rfl) B.all (by decide +kernel) (pa_cons (pe_lc (own := [("first", 1), ("second", 2)]) (g := gTup K 2 (gCons (gName 1) (gCons (gName 2) gNil))) rfl nd (RZ.pi_zipA (by rfl) B.zip (pa_cons (pv 0) (pa_cons (pe_slice sl_tupA (pv 0) (po_some pe_int) po_none) pa_nil)))
        (blkOk_by (N := ["names", "first", "second"]) (sc := defScope sAsc) (by decide +kernel)) (fun _ _ _ _ _ => pg_tup rfl (pgs_cons (pg_name (i := 1) nd rfl (Or.inl rfl)) (pgs_cons (pg_name (i := 2) nd rfl (Or.inl rfl)) pgs_nil))) (fun _ _ _ _ _ => pts_nil)
        (fun _ _ _ _ _ => pe_cmpR op_lt_str (pv 1) (pv 2) (nomark _))) pa_nil))), ?_⟩
    refine ⟨v, rfl, v, rfl, 1, rfl, ?_⟩
    refine (show ∀ {σ : L2.St} {H : Hp} {Q : Option Int → Hp → Prop}, Q none H → tNoPart σ H Q from fun h => h) (sl_same hd fun H2 p s2 dp => ?_)
    rw [show (1 : Int) = ((1 : Nat) : Int) from rfl, cutD_from, ← List.map_drop] at dp
    cases hd with
    | @tup a xs _ ea h =>
    cases dp with
    | @tup _ ys _ ep hp =>
    have exs := vals_strsD h
    have eys := vals_strsD hp
    have lx : xs.length = ns.length := by rw [exs, List.length_map]
    have ly : ys.length = ns.length - 1 := by rw [eys, List.length_map, List.length_drop]
    refine ⟨a, p, xs, ys, rfl, .inr ⟨.inl (.inl (s2 _ _ ea)), .inl (.inl ep), fun D nD => ?_⟩⟩
    refine lc_zipS (xs := xs) (ys := ys) (by omega) (fun i G => Same H2 G ∧ G D = some (.lst ((((ns.zip (ns.drop 1)).take i).map fun q => ltS q.1 q.2).map V.bl))) ⟨same_new nD, upd_same⟩ (fun i G _ hG => ⟨.inl (.inl (hG.1 _ _ (s2 _ _ ea))), .inl (.inl (hG.1 _ _ ep))⟩) (fun i x y T G hx hy hG nT => ?_) (fun G hG => ?_)
    · obtain ⟨sG, eD⟩ := hG
      rw [exs, List.getElem?_map] at hx
      rw [eys, List.getElem?_map] at hy
      obtain ⟨n1, e1, rfl⟩ := Option.map_eq_some_iff.mp hx
      obtain ⟨n2, e2, rfl⟩ := Option.map_eq_some_iff.mp hy
      have ez : (ns.zip (ns.drop 1))[i]? = some (n1, n2) := by rw [List.getElem?_zip_eq_some]; exact ⟨e1, e2⟩
      have sT : Same G (upd G T (.tup [.str n1, .str n2])) := same_new nT
      refine ⟨T, _, rfl, .inl (.inl upd_same), rfl, _, _, rfl, _, _, rfl, rfl, rfl, ?_⟩
      refine ⟨.str n1, rfl, .str n2, rfl, n1, n2, rfl, rfl, _, sT _ _ eD, ?_, same_at (sG.trans sT) nD, ?_⟩
      · rw [List.length_map, List.length_map, List.length_take, List.length_zip, List.length_drop]
        have hb : (1000 : Nat) < sizeLine := by decide
        omega
      · rw [upd_same, List.take_add_one, ez, List.map_append, List.map_append]
        rfl
    · obtain ⟨sG, eD⟩ := hG
      rw [List.take_of_length_le (by rw [List.length_zip, List.length_drop]; omega)] at eD
      refine ⟨D, _, rfl, .inl (.inl eD), ?_⟩
      rw [asc_pairs]
      exact q G (s2.trans sG)
/-! ### names_of -/
def spNO : Sp := fun vs H Q _ => ∃ (v : V) (rs : List Rec), vs = [v] ∧ Dx H v (.tuple (rs.map encR)) ∧ rs.length ≤ 1000 ∧ ∀ H' p, Same H H' → Dx H' (.ref p) (.tuple ((rs.map (·.nm)).map .str)) → Q (.ref p) H'
theorem scNO : FnScope ["rows", "row"] ["rows"] (defScope sNO) := ⟨rfl, rfl, rfl, by decide +kernel, rfl, by decide +kernel, by decide +kernel⟩
theorem row_dx {H : Hp} {v : V} {r : Rec} (h : Dx H v (encR r)) : ∃ a z vs, v = .ref a ∧ H a = some (.tup [.str r.nm, .int r.cost, .ref z, .int r.exp]) ∧ H z = some (.tup vs) ∧ vs = r.vals.map V.int := by
  unfold encR at h
  cases h with
  | @tup a xs _ ea h =>
    match xs, h, ea with
    | [v1, v2, v3, v4], .cons h1 (.cons h2 (.cons h3 (.cons h4 .nil))), ea =>
      cases h1
      cases h2
      cases h4
      cases h3 with
      | @tup z vs _ ez hz =>
        refine ⟨a, z, vs, rfl, ea, ez, ?_⟩
        have : ∀ {xs : List V} {ns : List Int}, Dxs H xs (ns.map PyData.int) → xs = ns.map V.int := fun {xs ns} => by
          induction ns generalizing xs with
          | nil => intro h; cases h; rfl
          | cons n ns ih =>
            intro h
            cases h with
            | cons h t =>
              cases h
              rw [ih t]
              rfl
        exact this hz
theorem ok_no {f : Addr} {fd : FuncData} (B : Bl mg) (cn : ∃ t, mg "NAME" = some (.int 0 t)) (D : Df K mg "names_of" sNO ["rows"] f fd) : FnOk P w K mg base CX0 1 f fd ["rows"] spNO := by
  obtain ⟨tn, mn⟩ := cn
  refine D.F.ok scNO (fun vs H Q E h => ?_) (fun cdv A outer s H vs Q E hr h => ?_)
  · obtain ⟨v, ns, rfl, _⟩ := h
    rfl
  · obtain ⟨v, rs, rfl, hd, hl, q⟩ := h
    have nd := scNO.nd
    refine ⟨_, pss_one (ps_ret (pe_callTy call_tuple_of (by rfl) B.tuple (by decide +kernel) (pa_cons (pe_lc (own := [("row", 1)]) (g := gName 1) rfl nd (pi_tup (pv 0))
        (blkOk_by (N := ["rows", "row"]) (sc := defScope sNO) (by decide +kernel)) (fun _ _ _ _ _ => pg_name (i := 1) nd rfl (Or.inl rfl)) (fun _ _ _ _ _ => pts_nil)
        (fun _ _ _ _ _ => pe_ix (r := rIxT K) ix_tup (pv 1) (pe_glob (v := .int 0) (by rfl) mn ⟨_, rfl⟩) (fun _ _ => rfl))) pa_nil))), ?_⟩
    cases hd with
    | @tup a xs _ ea h =>
    have lx := h.len
    rw [List.length_map] at lx
    refine ⟨.ref a, rfl, a, rfl, ⟨_, .inl (.inl ea)⟩, fun D nD => ?_⟩
    refine lc_tup (xs := xs) (fun i G => Same H G ∧ G D = some (.lst (((rs.take i).map (·.nm)).map V.str))) ⟨same_new nD, upd_same⟩ (fun i G _ hG => .inl (.inl (hG.1 _ _ ea))) (fun i x G hx hG => ?_) (fun G hG => ?_)
    · obtain ⟨sG, eD⟩ := hG
      obtain ⟨d, ed, hdx⟩ := h.get' hx
      rw [List.getElem?_map] at ed
      obtain ⟨r, er, rfl⟩ := Option.map_eq_some_iff.mp ed
      obtain ⟨b, z, vs, rfl, eb, _⟩ := row_dx (hdx.up sG)
      refine ⟨rfl, .ref b, rfl, b, _, 0, .str r.nm, rfl, rfl, .inl (.inl eb), rfl, _, eD, ?_, same_at sG nD, ?_⟩
      · rw [List.length_map, List.length_map, List.length_take]
        have hb : (1000 : Nat) < sizeLine := by decide
        omega
      · rw [upd_same, List.take_add_one, er, List.map_append, List.map_append]
        rfl
    · obtain ⟨sG, eD⟩ := hG
      rw [List.take_of_length_le (by omega)] at eD
      refine ⟨D, _, rfl, .inl ⟨.inl (.inl eD), fun p np => ?_⟩⟩
      have : ∀ (ns : List Str) (G : Hp), Dxs G (ns.map V.str) (ns.map PyData.str) := fun ns G => by
        induction ns with
        | nil => exact .nil
        | cons n ns ih => exact .cons (.str n) ih
      exact q _ p (sG.trans (same_new np)) (.tup upd_same (this _ _))
/-! ### have_one_width, for rows of one width -/
theorem call_lenK {X : Cx} {K : PySem.W.Frag} (h : X.K = K) : CallR X (.builtin "len") (fun xs H Q => ∃ p ys, xs = [V.ref p] ∧ (SqL K H p ys ∨ SqT K H p ys) ∧ Q (.int (ys.length : Int)) H) := by
  subst h
  exact call_len_seq
theorem scHW : FnScope ["rows", "row"] ["rows"] (defScope sHW) := ⟨rfl, rfl, rfl, by decide +kernel, rfl, by decide +kernel, by decide +kernel⟩
/-- the rows have one width -/
def oneW : List Rec → Bool
  | [] => true
  | r :: rs => (r :: rs).all fun e => decide (e.vals.length = r.vals.length)
def spHW : Sp := fun vs H Q _ => ∃ (v : V) (rs : List Rec), vs = [v] ∧ Dx H v (.tuple (rs.map encR)) ∧ rs.length ≤ 1000 ∧ ∀ H', Same H H' → Q (.bl (oneW rs)) H'
theorem ok_hw {f : Addr} {fd : FuncData} (B : Bl mg) (cv : ∃ t, mg "VALUES" = some (.int 2 t)) (D : Df K mg "have_one_width" sHW ["rows"] f fd) : FnOk P w K mg base CX0 1 f fd ["rows"] spHW := by
  obtain ⟨tv, mv⟩ := cv
  refine D.F.ok scHW (fun vs H Q E h => ?_) (fun cdv A outer s H vs Q E hr h => ?_)
  · obtain ⟨v, rs, rfl, _⟩ := h
    rfl
  · obtain ⟨v, rs, rfl, hd, hl, q⟩ := h
    have nd := scHW.nd
    refine ⟨_, pss_one (ps_ret (pe_callB (cr_all rfl) (by rfl) B.all (by decide +kernel) (pa_cons (pe_lc (own := [("row", 1)]) (g := gName 1) rfl nd (pi_tup (pv 0))
        (blkOk_by (N := ["rows", "row"]) (sc := defScope sHW) (by decide +kernel)) (fun _ _ _ _ _ => pg_name (i := 1) nd rfl (Or.inl rfl)) (fun _ _ _ _ _ => pts_nil)
        (fun _ _ _ _ _ => pe_cmpR op_eq (pe_callB (call_lenK (K := K) rfl) (by rfl) B.len PySem.boot_len (pa_cons (pe_ix (r := rIxT K) ix_tup (pv 1) (pe_glob (v := .int 2) (by rfl) mv ⟨_, rfl⟩) (fun _ _ => rfl)) pa_nil))
          (pe_callB (call_lenK (K := K) rfl) (by rfl) B.len PySem.boot_len (pa_cons (pe_ix (r := rIxT K) ix_tup (pe_ix (r := rIxT K) ix_tup (pv 0) pe_int (fun _ _ => rfl)) (pe_glob (v := .int 2) (by rfl) mv ⟨_, rfl⟩) (fun _ _ => rfl)) pa_nil)) (nomark _))) pa_nil))), ?_⟩
    cases hd with
    | @tup a xs _ ea h =>
    have lx := h.len
    rw [List.length_map] at lx
    refine ⟨.ref a, rfl, a, rfl, ⟨_, .inl (.inl ea)⟩, fun D nD => ?_⟩
    refine lc_tup (xs := xs) (fun i G => Same H G ∧ G D = some (.lst (((rs.take i).map fun r => decide (r.vals.length = (rs.headD ⟨"", 0, [], 0⟩).vals.length)).map V.bl))) ⟨same_new nD, upd_same⟩ (fun i G _ hG => .inl (.inl (hG.1 _ _ ea))) (fun i x G hx hG => ?_) (fun G hG => ?_)
    · obtain ⟨sG, eD⟩ := hG
      have hi : i < xs.length := (List.getElem?_eq_some_iff.mp hx).1
      obtain ⟨d, ed, hdx⟩ := h.get' hx
      rw [List.getElem?_map] at ed
      obtain ⟨r, er, rfl⟩ := Option.map_eq_some_iff.mp ed
      obtain ⟨b, z, vs, rfl, eb, ez, ev⟩ := row_dx (hdx.up sG)
      have h0 : 0 < rs.length := by omega
      obtain ⟨x0, e0, hd0⟩ := h.get (i := 0) (d := encR rs[0]) (by rw [List.getElem?_map, List.getElem?_eq_getElem h0]; rfl)
      obtain ⟨b0, z0, vs0, rfl, eb0, ez0, ev0⟩ := row_dx (hd0.up sG)
      have eh : rs.headD ⟨"", 0, [], 0⟩ = rs[0] := by
        cases rs with
        | nil => exact absurd h0 (by simp)
        | cons r rs => rfl
      refine ⟨rfl, .ref b, rfl, b, _, 2, .ref z, rfl, rfl, .inl (.inl eb), rfl, z, vs, rfl, .inr (.inl (.inl ez)), ?_⟩
      refine ⟨.ref a, rfl, a, xs, 0, .ref b0, rfl, rfl, .inl (.inl (sG _ _ ea)), atI_nat (j := 0) e0, b0, _, 2, .ref z0, rfl, rfl, .inl (.inl eb0), rfl, z0, vs0, rfl, .inr (.inl (.inl ez0)), rfl, _, eD, ?_, same_at sG nD, ?_⟩
      · rw [List.length_map, List.length_map, List.length_take]
        have hb : (1000 : Nat) < sizeLine := by decide
        omega
      · rw [upd_same, List.take_add_one, er, List.map_append, List.map_append, eh, ev, ev0, List.length_map, List.length_map]
        have eb : decide (V.int (r.vals.length : Int) = V.int (rs[0].vals.length : Int)) = decide (r.vals.length = rs[0].vals.length) := by
          by_cases z : r.vals.length = rs[0].vals.length
          · rw [decide_eq_true z, decide_eq_true (by rw [z])]
          · rw [decide_eq_false z, decide_eq_false (fun e => z (by have := V.int.inj e; omega))]
        rw [eb]
        rfl
    · obtain ⟨sG, eD⟩ := hG
      rw [List.take_of_length_le (by omega)] at eD
      refine ⟨D, _, rfl, .inl (.inl eD), ?_⟩
      have : (rs.map fun r => decide (r.vals.length = (rs.headD ⟨"", 0, [], 0⟩).vals.length)).all id = oneW rs := by
        rw [List.all_map]
        cases rs with
        | nil => rfl
        | cons r rs => rfl
      rw [this]
      exact q G sG
end
end U1

set_option maxRecDepth 100000
set_option maxHeartbeats 4000000
namespace U1
open PySem PySem.Spec PyProof.Rows L2 KX
/-! ### are_rows_of_one_width, is_rowset: any data -/
def intD' : PyData → Option Int
  | .int i => some i
  | _ => none
def recD : PyData → Rec
  | .tuple [.str n, .int c, .tuple vs, .int e] => ⟨n, c, vs.filterMap intD', e⟩
  | _ => ⟨"", 0, [], 0⟩
theorem ints_back : ∀ ns : List Int, (ns.map PyData.int).filterMap intD' = ns
  | [] => rfl
  | n :: ns => by
    rw [List.map_cons, List.filterMap_cons]
    show n :: (ns.map PyData.int).filterMap intD' = n :: ns
    rw [ints_back ns]
theorem recD_enc (r : Rec) : recD (encR r) = r := by
  show (⟨r.nm, r.cost, (r.vals.map PyData.int).filterMap intD', r.exp⟩ : Rec) = r
  rw [ints_back]
theorem ints_rec {lo hi : Int} : ∀ {ds : List PyData}, ds.all (betw lo hi) = true → ∃ ns : List Int, ds = ns.map .int
  | [], _ => ⟨[], rfl⟩
  | d :: ds, h => by
    rw [List.all_cons, Bool.and_eq_true] at h
    obtain ⟨ns, e⟩ := ints_rec h.2
    cases d with
    | int i => exact ⟨i :: ns, by rw [e]; rfl⟩
    | _ => exact absurd h.1 (by simp [betw])
theorem row_rec {d : PyData} (h : rowD d = true) : ∃ r, d = encR r := by
  match d, h with
  | .tuple [n, c, vs, e], h =>
    change (nameD n && betw 1 1000000 c && (valsD vs && betw 1 1000000000 e)) = true at h
    simp only [Bool.and_eq_true] at h
    obtain ⟨⟨h1, h2⟩, h3, h4⟩ := h
    cases n with
    | str n =>
      cases c with
      | int c =>
        cases e with
        | int e =>
          cases vs with
          | tuple ws =>
            simp only [valsD, Bool.and_eq_true] at h3
            obtain ⟨ns, rfl⟩ := ints_rec h3.2
            exact ⟨⟨n, c, ns, e⟩, rfl⟩
          | _ => simp [valsD] at h3
        | _ => simp [betw] at h4
      | _ => simp [betw] at h2
    | _ => simp [nameD] at h1
theorem rows_rec : ∀ {ds : List PyData}, ds.all rowD = true → ∃ rs : List Rec, ds = rs.map encR
  | [], _ => ⟨[], rfl⟩
  | d :: ds, h => by
    rw [List.all_cons, Bool.and_eq_true] at h
    obtain ⟨rs, e⟩ := rows_rec h.2
    obtain ⟨r, rfl⟩ := row_rec h.1
    exact ⟨r :: rs, by rw [e]; rfl⟩
theorem recs_back (rs : List Rec) : (rs.map encR).map recD = rs := by
  rw [List.map_map]
  have : recD ∘ encR = id := funext recD_enc
  rw [this, List.map_id]
def rowsD : PyData → Bool
  | .tuple ds => ds.all rowD && oneW (ds.map recD)
  | _ => false
def rowsetD : PyData → Bool
  | .tuple ds => decide (ds.length ≤ 60) && (rowsD (.tuple ds) && ascS ((ds.map recD).map (·.nm)))
  | _ => false
/-- its texts are not too long, it has not too many items -/
def SmR (d : PyData) : Prop := ∀ ds, d = .tuple ds → ds.length ≤ 1000 ∧ ∀ e ∈ ds, smA e
def spOW : Sp := fun vs H Q _ => ∃ (v : V) (d : PyData), vs = [v] ∧ Dx H v d ∧ SmR d ∧ ∀ H', Same H H' → Q (.bl (rowsD d)) H'
def spIR : Sp := fun vs H Q _ => ∃ (v : V) (d : PyData), vs = [v] ∧ Dx H v d ∧ SmR d ∧ ∀ H', Same H H' → Q (.bl (rowsetD d)) H'
theorem scOW : FnScope ["value", "row"] ["value"] (defScope sOW) := ⟨rfl, rfl, rfl, by decide +kernel, rfl, by decide +kernel, by decide +kernel⟩
theorem scIR : FnScope ["value"] ["value"] (defScope sIR) := ⟨rfl, rfl, rfl, by decide +kernel, rfl, by decide +kernel, by decide +kernel⟩
theorem isa_tupleT {ds : List PyData} : isaN "tuple" (.tuple ds) = true := isa_tuple
section
variable {P : Program} {w : World} {K : PySem.W.Frag} {mg : Str → Option Value} {base : Heap}
theorem ok_ow {k : Nat} {f fR fW : Addr} {fd fdR fdW : FuncData} (B : Bl mg) (D : Df K mg "are_rows_of_one_width" sOW ["value"] f fd) (DR : Df K mg "is_row" sRow ["value"] fR fdR) (DW : Df K mg "have_one_width" sHW ["rows"] fW fdW)
    (GR : FnOk P w K mg base CX0 k fR fdR ["value"] spRow) (GW : FnOk P w K mg base CX0 k fW fdW ["rows"] spHW) : FnOk P w K mg base CX0 (k + 1) f fd ["value"] spOW := by
  refine D.F.ok scOW (fun vs H Q E h => ?_) (fun cdv A outer s H vs Q E hr h => ?_)
  · obtain ⟨v, d, rfl, _⟩ := h
    rfl
  · obtain ⟨v, d, rfl, hd, hsm, q⟩ := h
    have nd := scOW.nd
    refine ⟨_, pss_cons (ps_if (PW.pt (pw_or (pt_not (pt_val (pe_isD (T := "tuple") (x := "tuple") (by decide +kernel) B.isi B.tuple (by decide +kernel) (pv 0) (by rfl) (by rfl))))
        (pw_or1 (pt_not (pt_val (pe_callB (cr_all rfl) (by rfl) B.all (by decide +kernel) (pa_cons (pe_lc (own := [("row", 1)]) (g := gName 1) rfl nd (pi_tup (pv 0)) (blkOk_by (N := ["value", "row"]) (sc := defScope sOW) (by decide +kernel))
          (fun _ _ _ _ _ => pg_name (i := 1) nd rfl (Or.inl rfl)) (fun _ _ _ _ _ => pts_nil) (fun _ _ _ _ _ => pe_call GR hr (by rfl) DR.g DR.F.kp DR.b .nil pass0 (pa_cons (pv 1) pa_nil))) pa_nil))))))) (pss_one (ps_ret pe_bl)) pss_nil)
      (pss_one (ps_ret (pe_call GW hr (by rfl) DW.g DW.F.kp DW.b .nil pass0 (pa_cons (pv 0) pa_nil)))), ?_⟩
    refine ⟨v, rfl, rfl, d, hd, _, rfl, ?_⟩
    rw [isa_tuple]
    cases d with
    | tuple ds =>
      obtain ⟨hl, sm⟩ := hsm ds rfl
      refine iteF ?_
      obtain ⟨a, xs, rfl, ea, hx⟩ : ∃ a xs, v = .ref a ∧ H a = some (.tup xs) ∧ Dxs H xs ds := by
        cases hd with
        | @tup a xs _ ea h => exact ⟨a, xs, rfl, ea, h⟩
      have lx := hx.len
      refine ⟨.ref a, rfl, a, rfl, ⟨_, .inl (.inl ea)⟩, fun L nL => ?_⟩
      refine lc_tup (xs := xs) (fun i G => Same H G ∧ G L = some (.lst (((ds.take i).map rowD).map V.bl))) ⟨same_new nL, upd_same⟩ (fun i G _ hG => .inl (.inl (hG.1 _ _ ea))) (fun i x G hx2 hG => ?_) (fun G hG => ?_)
      · obtain ⟨sG, eL⟩ := hG
        obtain ⟨e, ee, hxe⟩ := hx.get' hx2
        have hi : i < ds.length := (List.getElem?_eq_some_iff.mp ee).1
        refine ⟨rfl, x, rfl, x, e, rfl, hxe.up sG, sm e (List.mem_of_getElem? ee), fun G2 s2 => ⟨_, s2 _ _ eL, ?_, same_at (sG.trans s2) nL, ?_⟩⟩
        · rw [List.length_map, List.length_map, List.length_take]
          have hb : (1000 : Nat) < sizeLine := by decide
          omega
        · rw [upd_same, List.take_add_one, ee]
          simp
      · obtain ⟨sG, eL⟩ := hG
        rw [List.take_of_length_le (by omega)] at eL
        refine ⟨L, _, rfl, .inl (.inl eL), _, rfl, ?_⟩
        have e1 : (ds.map rowD).all id = ds.all rowD := by rw [List.all_map]; rfl
        rw [e1]
        change ∀ H', Same H H' → Q (.bl (ds.all rowD && oneW (ds.map recD))) H' at q
        cases er : ds.all rowD with
        | false =>
          rw [er] at q
          exact iteT (q G sG)
        | true =>
          rw [er] at q
          obtain ⟨rs, rfl⟩ := rows_rec er
          rw [recs_back] at q
          rw [List.length_map] at hl
          exact iteF ⟨.ref a, rfl, .ref a, rs, rfl, (Dx.tup ea hx).up sG, hl, fun G2 s2 => q G2 (sG.trans s2)⟩
    | _ => exact iteT (iteT (q H (Same.refl H)))
theorem ok_ir {k : Nat} {f fT fO fA fN : Addr} {fd fdT fdO fdA fdN : FuncData} (B : Bl mg) (cr : ∃ t, mg "MAX_ROWS" = some (.int 60 t)) (D : Df K mg "is_rowset" sIR ["value"] f fd) (DT : Df K mg "is_tuple_between" sTupB ["value", "low", "high"] fT fdT) (DO : Df K mg "are_rows_of_one_width" sOW ["value"] fO fdO)
    (DA : Df K mg "is_ascending" sAsc ["names"] fA fdA) (DN : Df K mg "names_of" sNO ["rows"] fN fdN) (GT : FnOk P w K mg base CX0 k fT fdT ["value", "low", "high"] spTupB) (GO : FnOk P w K mg base CX0 k fO fdO ["value"] spOW) (GA : FnOk P w K mg base CX0 k fA fdA ["names"] spAsc) (GN : FnOk P w K mg base CX0 k fN fdN ["rows"] spNO) :
    FnOk P w K mg base CX0 (k + 1) f fd ["value"] spIR := by
  obtain ⟨tr, mr⟩ := cr
  refine D.F.ok scIR (fun vs H Q E h => ?_) (fun cdv A outer s H vs Q E hr h => ?_)
  · obtain ⟨v, d, rfl, _⟩ := h
    rfl
  · obtain ⟨v, d, rfl, hd, hsm, q⟩ := h
    refine ⟨_, pss_cons (ps_if (PW.pt (pw_or (pt_not (pt_val (pe_call GT hr (by rfl) DT.g DT.F.kp DT.b .nil pass0 (pa_cons (pv 0) (pa_cons pe_int (pa_cons (pe_glob (v := .int 60) (by rfl) mr ⟨_, rfl⟩) pa_nil))))))
        (pw_or1 (pt_not (pt_val (pe_call GO hr (by rfl) DO.g DO.F.kp DO.b .nil pass0 (pa_cons (pv 0) pa_nil))))))) (pss_one (ps_ret pe_bl)) pss_nil)
      (pss_one (ps_ret (pe_call GA hr (by rfl) DA.g DA.F.kp DA.b .nil pass0 (pa_cons (pe_call GN hr (by rfl) DN.g DN.F.kp DN.b .nil pass0 (pa_cons (pv 0) pa_nil)) pa_nil)))), ?_⟩
    refine ⟨v, rfl, v, d, 0, 60, rfl, hd, _, rfl, ?_⟩
    cases d with
    | tuple ds =>
      have et : tupB 0 60 (.tuple ds) = (decide ((0 : Int) ≤ (ds.length : Int)) && decide ((ds.length : Int) ≤ 60)) := rfl
      change ∀ H', Same H H' → Q (.bl (decide (ds.length ≤ 60) && (rowsD (.tuple ds) && ascS ((ds.map recD).map (·.nm))))) H' at q
      rw [et, decide_eq_true (by omega)]
      by_cases h60 : ds.length ≤ 60
      · rw [decide_eq_true h60] at q
        rw [decide_eq_true (show (ds.length : Int) ≤ 60 by omega)]
        refine iteF ⟨v, rfl, v, _, rfl, hd, hsm, fun G sG => ⟨_, rfl, ?_⟩⟩
        cases er : rowsD (.tuple ds) with
        | false =>
          rw [er] at q
          exact iteT (q G sG)
        | true =>
          rw [er] at q
          have ea : ds.all rowD = true := by
            have : (ds.all rowD && oneW (ds.map recD)) = true := er
            rw [Bool.and_eq_true] at this
            exact this.1
          obtain ⟨rs, rfl⟩ := rows_rec ea
          rw [recs_back] at q
          rw [List.length_map] at h60
          refine iteF ⟨v, rfl, v, rs, rfl, hd.up sG, by omega, fun G2 p s2 hp => ?_⟩
          exact ⟨.ref p, rs.map (fun r : Rec => r.nm), rfl, hp, by rw [List.length_map]; omega, fun G3 s3 => q G3 ((sG.trans s2).trans s3)⟩
      · rw [decide_eq_false h60] at q
        rw [decide_eq_false (show ¬ (ds.length : Int) ≤ 60 by omega)]
        exact iteT (iteT (q H (Same.refl H)))
    | _ => exact iteT (iteT (q H (Same.refl H)))
end
end U1

set_option maxRecDepth 100000
set_option maxHeartbeats 4000000
namespace U1
open PySem PySem.Spec PyProof.Rows L2 KX
abbrev sIniU : Stmt := (clsB (topS 3)).getD 0 (.Pass ⟨0, 0, 0, 0⟩)
/-- the class UnknownName, at U; its __init__ at fU -/
structure UN (K : PySem.W.Frag) (mg : Str → Option Value) (U fU : Addr) (gU : FuncData) : Prop where
  g : mg "UnknownName" = some (.ref U)
  x : KY.XC2 K "KeyError" "LookupError.__new__" "KeyError.__init__" kyTl U
  i : XI K U
  no : PySem.W.findIn K (.ref U) "name" = some none
  iC : PySem.W.findIn K (.ref U) "__init__" = some (some (.ref fU))
  tI : PySem.W.typeIn K (.ref fU) = some (.type "function")
  vV : PySem.W.findCls K (.type "KeyError") (.type "type") "__init__" = some (.val (.builtin "KeyError.__init__"))
  F : Fun K "__init__" "UnknownName.__init__" sIniU fU gU
  b : Binds K gU ["self", "name"] []
/-- an own class over ValueError without an __init__ -/
structure OC (K : PySem.W.Frag) (mg : Str → Option Value) (x : Str) (R : Addr) : Prop where
  g : mg x = some (.ref R)
  q : PySem.W.excIn K R [.type "ValueError", .type "Exception", .type "BaseException", .type "object"] "ValueError.__new__" = true
  kp : PySem.W.keepIn K (.ref R) = true
  sub : PySem.W.subIn K (.ref R) (.type "BaseException") = some true
  ty : PySem.W.typeIn K (.ref R) = some (.type "type")
def spIniU (U : Addr) : Sp := fun vs H Q _ => ∃ a v, vs = [.ref a, v] ∧ H a = some (exo a U none) ∧ ∀ dx, H dx = none → dx ≠ a → Q .non (upd (upd H dx (exd dx [("name", v)])) a (exo a U (some dx)))
theorem scIniU : FnScope ["self", "name"] ["self", "name"] (defScope sIniU) := ⟨rfl, rfl, rfl, by decide +kernel, rfl, by decide +kernel, by decide +kernel⟩
/-- the data d is one of the texts -/
def amg (ns : List Str) (d : PyData) : Bool := ns.any fun n => isSt n d
section
variable {P : Program} {w : World} {K : PySem.W.Frag} {mg : Str → Option Value} {base : Heap} {U fU : Addr} {gU : FuncData}
theorem ok_iniU (B : Bl mg) (T : UN K mg U fU gU) : FnOk P w K mg base CX0 1 fU gU ["self", "name"] (spIniU U) := by
  refine T.F.ok scIniU (fun vs H Q E h => ?_) (fun cdv A outer s H vs Q E hr h => ?_)
  · obtain ⟨a, v, rfl, _⟩ := h
    rfl
  · obtain ⟨a, v, rfl, ea, q⟩ := h
    refine ⟨_, pss_cons (ps_expr (KY.pe_bini (newI := "LookupError.__new__") (tl := kyTl) (by rfl) B.kye T.vV (pa_cons (pv 0) (pa_cons (pv 1) pa_nil))))
      (pss_one (KY.ps_fst (B := "KeyError") (newI := "LookupError.__new__") (iniI := "KeyError.__init__") (tl := kyTl) (pv 0) (pv 1))), ?_⟩
    refine ⟨.ref a, rfl, v, rfl, a, U, [v], rfl, by simp, T.x, ea, ?_⟩
    exact ⟨v, rfl, .ref a, rfl, a, U, rfl, T.x, T.no, ea, fun dx n ne => q dx n ne⟩
end
structure RsOk (rs : List Rec) : Prop where
  le : rs.length ≤ 60
  row : (rs.map encR).all rowD = true
  one : oneW rs = true
  asc : ascS (rs.map (·.nm)) = true
section
variable {P : Program} {w : World} {K : PySem.W.Frag} {mg : Str → Option Value} {base : Heap} {R : Addr}
end
end U1

set_option maxRecDepth 100000
set_option maxHeartbeats 4000000
namespace U1
open PySem PySem.Spec PyProof.Rows L2 KX
abbrev sIniM : Stmt := (clsB (topS 6)).getD 0 (.Pass ⟨0, 0, 0, 0⟩)
def ovTl : List Value := [.type "OverflowError", .type "ArithmeticError", .type "Exception", .type "BaseException", .type "object"]
theorem ovB : XB "OverflowError" "OverflowError.__new__" "OverflowError.__init__" ovTl := ⟨PySem.F.excBase_OverflowError, PySem.F.store_OverflowError⟩
/-- the class TooMany, at M; its __init__ at fM -/
structure TM (K : PySem.W.Frag) (mg : Str → Option Value) (M fM : Addr) (gM : FuncData) : Prop where
  g : mg "TooMany" = some (.ref M)
  x : XC K "OverflowError" "OverflowError.__new__" "OverflowError.__init__" ovTl M
  i : XI K M
  no : PySem.W.findIn K (.ref M) "limit" = some none
  iC : PySem.W.findIn K (.ref M) "__init__" = some (some (.ref fM))
  tI : PySem.W.typeIn K (.ref fM) = some (.type "function")
  vV : PySem.W.findCls K (.type "OverflowError") (.type "type") "__init__" = some (.val (.builtin "OverflowError.__init__"))
  F : Fun K "__init__" "TooMany.__init__" sIniM fM gM
  b : Binds K gM ["self", "limit"] []
  ov : mg "OverflowError" = none
def spIniM (M : Addr) : Sp := fun vs H Q _ => ∃ a v, vs = [.ref a, v] ∧ H a = some (exo a M none) ∧ ∀ dx, H dx = none → dx ≠ a → Q .non (upd (upd H dx (exd dx [("limit", v)])) a (exo a M (some dx)))
theorem scIniM : FnScope ["self", "limit"] ["self", "limit"] (defScope sIniM) := ⟨rfl, rfl, rfl, by decide +kernel, rfl, by decide +kernel, by decide +kernel⟩
section
variable {P : Program} {w : World} {K : PySem.W.Frag} {mg : Str → Option Value} {base : Heap} {R M fM : Addr} {gM : FuncData}
theorem ok_iniM (B : Bl mg) (T : TM K mg M fM gM) : FnOk P w K mg base CX0 1 fM gM ["self", "limit"] (spIniM M) := by
  refine T.F.ok scIniM (fun vs H Q E h => ?_) (fun cdv A outer s H vs Q E hr h => ?_)
  · obtain ⟨a, v, rfl, _⟩ := h
    rfl
  · obtain ⟨a, v, rfl, ea, q⟩ := h
    refine ⟨_, pss_cons (ps_expr (pe_biniO (newI := "OverflowError.__new__") (tl := ovTl) (by rfl) T.ov T.vV (pa_cons (pv 0) (pa_cons (pv 1) pa_nil))))
      (pss_one (ps_fst (B := "OverflowError") (newI := "OverflowError.__new__") (iniI := "OverflowError.__init__") (tl := ovTl) (pv 0) (pv 1))), ?_⟩
    refine ⟨.ref a, rfl, v, rfl, a, M, [v], rfl, by simp, T.x, ea, ?_⟩
    exact ⟨v, rfl, .ref a, rfl, a, M, rfl, T.x, T.no, ea, fun dx n ne => q dx n ne⟩
/-- some name occurs twice -/
def dupB (rs : List Rec) : Bool := decide (dcnt (rs.map (·.nm)) rs.length < rs.length)
theorem rows_recs {d : PyData} (h : rowsD d = true) : ∃ rs : List Rec, d = .tuple (rs.map encR) := by
  cases d with
  | tuple ds =>
    have h : (ds.all rowD && oneW (ds.map recD)) = true := h
    rw [Bool.and_eq_true] at h
    obtain ⟨rs, rfl⟩ := rows_rec h.1
    exact ⟨rs, rfl⟩
  | _ => cases h
end
end U1

set_option maxRecDepth 100000
set_option maxHeartbeats 4000000
namespace U1
open PySem PySem.Spec PyProof.Rows L2 KX
theorem sm_name {n : Nat} {x : Str} (hn : n < 61) (h : NameOf n x) : smS (.str x) := by
  have hb : (8 : Nat) ≤ sizeLine := by decide
  exact Nat.le_trans (name_ok hn h).2 hb
def ROk (wd : Nat) (r : Rec) : Prop := ∃ n, n < 61 ∧ RecOk wd n r
theorem rec_sm {wd : Nat} {r : Rec} (h : ROk wd r) : smA (encR r) := fun d hd => by
  obtain ⟨n, hn, o⟩ := h
  simp at hd
  rcases hd with rfl | rfl | rfl | rfl
  · exact sm_name hn o.nm
  all_goals trivial
theorem rec_rd {wd : Nat} {r : Rec} (h : ROk wd r) (w1 : 1 ≤ wd) (w4 : wd ≤ 4) : rowD (encR r) = true := by
  obtain ⟨n, hn, o⟩ := h
  exact rec_row hn o w1 w4
theorem wtAll_le {W : Nat} : ∀ {es : List PyData}, (∀ e ∈ es, wt e ≤ W) → wtAll es ≤ es.length * W
  | [], _ => by simp [wtAll]
  | e :: es, h => by
    have h1 := h e (by simp)
    have h2 := wtAll_le (es := es) fun x hx => h x (by simp [hx])
    simp only [wtAll, List.length_cons, Nat.succ_mul]
    omega
theorem depthAll_le {k : Nat} : ∀ {es : List PyData}, (∀ e ∈ es, e.depth ≤ k) → PyData.depthAll es ≤ k
  | [], _ => by simp [PyData.depthAll]
  | e :: es, h => by
    have h1 := h e (by simp)
    have h2 := depthAll_le (es := es) fun x hx => h x (by simp [hx])
    simp only [PyData.depthAll]
    omega
theorem rec_fine {wd : Nat} {r : Rec} (h : ROk wd r) (hw : wd ≤ 4) : fine (10 ^ 40) (encR r) = true ∧ wt (encR r) ≤ 20 ∧ (encR r).depth ≤ 50 := by
  obtain ⟨n, hn, h⟩ := h
  have l8 := (name_ok hn h.nm).2
  have hl := h.len
  have c0 := h.c0
  have c1 := h.c1
  have e0 := h.e0
  have e1 := h.e1
  obtain ⟨suf, ex, hs, hx⟩ := h.nm
  refine ⟨?_, ?_, depth_rec r⟩
  · simp only [encR, fine, fineAll, Bool.and_eq_true]
    refine ⟨?_, decide_eq_true (by omega), fine_ints _ h.vs (by decide), decide_eq_true (by omega), trivial⟩
    refine List.all_eq_true.mpr fun c hc => decide_eq_true ?_
    rw [ex] at hc
    rcases List.mem_append.mp hc with hc | hc
    · unfold baseL at hc
      rcases List.mem_append.mp hc with hc | hc
      · rcases List.mem_append.mp hc with hc | hc
        · have := List.mem_singleton.mp hc
          omega
        · split at hc
          · have := List.mem_singleton.mp hc
            omega
          · cases hc
      · split at hc
        · have := List.mem_singleton.mp hc
          omega
        · cases hc
    · have := hs c hc
      omega
  · simp only [encR, wt, wtAll, wt_ints]
    omega
theorem big_show {d : PyData} (f : fine (10 ^ 40) d = true) (h2 : wt d ≤ 2000) (h3 : d.depth ≤ 100) : d.showable = true ∧ d.depth ≤ 100 ∧ d.shown.length ≤ sizeLine := by
  have h1 := shown_le (B := 10 ^ 40) (by decide) d f
  refine ⟨showable_fine (B := 10 ^ 40) (by decide) d f, h3, ?_⟩
  rw [sizeLine_eq]
  omega
/-! ### names up to number 60 -/
theorem base_cases (n : Nat) (hn : n < 61) : (n < 52 ∧ baseL n = (97 + n / 2) :: (if n % 2 = 1 then [97] else [])) ∨ (52 ≤ n ∧ baseL n = (97 + (n / 2 - 26)) :: ((if n % 2 = 1 then [97] else []) ++ [98])) := by
  by_cases h : n < 52
  · refine .inl ⟨h, ?_⟩
    have m26 : n / 2 % 26 = n / 2 := Nat.mod_eq_of_lt (by omega)
    have g51 : ¬ n > 51 := by omega
    simp [baseL, m26, g51]
  · refine .inr ⟨by omega, ?_⟩
    have m26 : n / 2 % 26 = n / 2 - 26 := by omega
    have g51 : n > 51 := by omega
    have d52 : n / 52 = 1 := by omega
    simp [baseL, m26, g51, d52]
theorem name_inj {n m : Nat} {x : Str} (hn : n < 61) (hm : m < 61) (h1 : NameOf n x) (h2 : NameOf m x) : n = m := by
  obtain ⟨s1, e1, _, k1⟩ := h1
  obtain ⟨s2, e2, _, k2⟩ := h2
  rw [e1] at e2
  rcases base_cases n hn with ⟨a1, b1⟩ | ⟨a1, b1⟩ <;> rcases base_cases m hm with ⟨a2, b2⟩ | ⟨a2, b2⟩ <;> rw [b1, b2] at e2 <;> simp only [List.cons_append, List.cons.injEq] at e2 <;> obtain ⟨e3, e4⟩ := e2 <;>
    rcases Nat.mod_two_eq_zero_or_one n with z | z <;> rcases Nat.mod_two_eq_zero_or_one m with y | y <;> simp [z, y] at e4 <;> have l := congrArg List.length e4 <;> (try simp at l) <;> (try omega)
/-- a text that may be a name's: a letter first, a or b second -/
def nmx : List Nat → Bool
  | [] => false
  | [c] => decide (97 ≤ c)
  | c :: d :: _ => decide (97 ≤ c) && decide (d ≤ 98)
theorem nmx_of {n : Nat} {x : Str} (hn : n < 61) (h : NameOf n x) : nmx x.cps.toList = true := by
  obtain ⟨s, e, _, k⟩ := h
  rw [e]
  rcases base_cases n hn with ⟨a1, b1⟩ | ⟨a1, b1⟩ <;> rw [b1] <;> rcases Nat.mod_two_eq_zero_or_one n with z | z <;> simp [z]
  · have : s = [] := List.eq_nil_of_length_eq_zero (by omega)
    subst this
    simp [nmx]
  · simp [nmx]
  · simp [nmx]
  · simp [nmx]
def leN (a b : Str) : Bool := decide (a.cps.toList ≤ b.cps.toList)
theorem le_rec {a b : Rec} (h : a.nm = b.nm → a = b) : PySem.W.dataLe false encR a b = leN a.nm b.nm := by
  show (!PySem.W.dataLt (encR b) (encR a)) = _
  by_cases e : a.nm = b.nm
  · have := h e
    subst this
    have z : PySem.W.dataLt (encR a) (encR a) = false := lex_irrefl _
    rw [z]
    exact (decide_eq_true (List.le_refl _)).symm
  · have ne : PyData.eqv (.str b.nm) (.str a.nm) = false := by
      simp [PyData.eqv]
      exact fun z => e z.symm
    unfold encR
    rw [PySem.W.dataLt_tuple, PySem.W.dataLt_cons (by simp [PySem.W.alike]), ne, if_neg (by decide), PySem.W.dataLt_str]
    exact PySem.W.not_lt_str _ _
theorem made_dist {wd : Nat} {recs : List Rec} (h : Made wd recs) (hl : recs.length ≤ 61) : ∀ a ∈ recs, ∀ b ∈ recs, a.nm = b.nm → a = b := fun r1 h1 r2 h2 e => by
  obtain ⟨i, hi, e1⟩ := List.getElem_of_mem h1
  obtain ⟨j, hj, e2⟩ := List.getElem_of_mem h2
  have a := (h i r1 (by rw [List.getElem?_eq_getElem hi, e1])).nm
  have b := (h j r2 (by rw [List.getElem?_eq_getElem hj, e2])).nm
  rw [e] at a
  have := name_inj (by omega) (by omega) a b
  subst this
  rw [← e1, ← e2]
theorem made_nodup {wd : Nat} {recs : List Rec} (h : Made wd recs) (hl : recs.length ≤ 61) : (recs.map (·.nm)).Nodup := by
  rw [List.nodup_iff_pairwise_ne, List.pairwise_iff_getElem]
  intro i j hi hj lt e
  rw [List.length_map] at hi hj
  rw [List.getElem_map, List.getElem_map] at e
  have a := (h i _ (List.getElem?_eq_getElem hi)).nm
  have b := (h j _ (List.getElem?_eq_getElem hj)).nm
  rw [e] at a
  have := name_inj (by omega) (by omega) a b
  omega
theorem names_sort {wd : Nat} {recs : List Rec} (h : Made wd recs) (hl : recs.length ≤ 61) : (sortR recs).map (·.nm) = (recs.map (·.nm)).mergeSort leN :=
  List.map_mergeSort fun a ha b hb => le_rec (made_dist h hl a ha b hb)
theorem le_tot (a b : Str) : (leN a b || leN b a) = true := by
  unfold leN
  rcases List.le_total a.cps.toList b.cps.toList with h | h
  · rw [decide_eq_true h]; rfl
  · rw [decide_eq_true h]; simp
theorem le_tr (a b c : Str) (h1 : leN a b = true) (h2 : leN b c = true) : leN a c = true :=
  decide_eq_true (List.le_trans (of_decide_eq_true h1) (of_decide_eq_true h2))
theorem asc_of : ∀ {ns : List Str}, ns.Pairwise (fun a b => leN a b = true) → ns.Nodup → ascS ns = true
  | [], _, _ => rfl
  | [_], _, _ => rfl
  | a :: b :: r, hp, nd => by
    have le : a.cps.toList ≤ b.cps.toList := of_decide_eq_true ((List.pairwise_cons.mp hp).1 b (by simp))
    have ne : a ≠ b := fun z => (List.nodup_cons.mp nd).1 (by rw [z]; simp)
    have lt : a.cps.toList < b.cps.toList := by
      rcases List.le_iff_lt_or_eq.mp le with h | h
      · exact h
      · exact absurd (by
          cases a with
          | mk x =>
            cases b with
            | mk y =>
              have : x = y := Array.toList_inj.mp h
              rw [this]) ne
    show (ltS a b && ascS (b :: r)) = true
    rw [asc_of (List.pairwise_cons.mp hp).2 (List.nodup_cons.mp nd).2]
    show (decide _ && true) = true
    rw [decide_eq_true lt]
    rfl
theorem asc_sort {wd : Nat} {recs : List Rec} (h : Made wd recs) (hl : recs.length ≤ 61) : ascS ((sortR recs).map (·.nm)) = true := by
  rw [names_sort h hl]
  exact asc_of (List.pairwise_mergeSort le_tr le_tot _) ((List.mergeSort_perm _ _).nodup_iff.mpr (made_nodup h hl))
theorem names_nodup {wd : Nat} {recs : List Rec} (h : Made wd recs) (hl : recs.length ≤ 61) : ((sortR recs).map (·.nm)).Nodup := by
  rw [names_sort h hl]
  exact (List.mergeSort_perm _ _).nodup_iff.mpr (made_nodup h hl)
theorem sort_rok {wd : Nat} {recs : List Rec} (h : Made wd recs) (hl : recs.length ≤ 61) : ∀ r ∈ sortR recs, ROk wd r := fun r hr => by
  have hr : r ∈ recs := List.mem_mergeSort.mp hr
  obtain ⟨i, hi, e⟩ := List.getElem_of_mem hr
  exact ⟨i, by omega, h i r (by rw [List.getElem?_eq_getElem hi, e])⟩
theorem eqv_ints : ∀ xs ys : List Int, PyData.eqvAll (xs.map .int) (ys.map .int) = decide (xs = ys)
  | [], [] => by simp [PyData.eqvAll]
  | [], y :: ys => by simp [PyData.eqvAll]
  | x :: xs, [] => by simp [PyData.eqvAll]
  | x :: xs, y :: ys => by
    rw [List.map_cons, List.map_cons, PySem.W.eqv_all_cons, eqv_ints xs ys]
    by_cases h : x = y <;> by_cases h2 : xs = ys <;> simp [PyData.eqv, h, h2]
/-! ### [row for row in rows if ..] -/
theorem filter_at (f : Rec → Bool) {rs : List Rec} {i : Nat} {r : Rec} (h : rs[i]? = some r) : (rs.take (i + 1)).filter f = (rs.take i).filter f ++ (if f r = true then [r] else []) := by
  rw [List.take_add_one, h, List.filter_append]
  by_cases z : f r = true
  · simp [z]
  · simp [z]
theorem lc_filter {K : PySem.W.Frag} {a D : Addr} {xs : List V} {rs : List Rec} {g : TG} {tt : TT} {te : TE} {vs : List Nat} {σ : L2.St} {H1 : Hp} {Qd : Hp → Prop} (f : Rec → Bool) (nD : H1 D = none) (ea : H1 a = some (.tup xs)) (hx : Dxs H1 xs (rs.map encR)) (hl : rs.length ≤ 1000)
    (hs : ∀ (r : Rec) (x : V) (G : Hp), r ∈ rs → Same H1 G → Dx G x (encR r) → ∀ (Pt : V → Hp → Prop) (Pf : Hp → Prop), (if f r = true then Pt x G else Pf G) → g x (wipe σ vs) G fun σ2 H2 => wipe σ2 vs = wipe σ vs ∧ tt σ2 H2 fun b H3 => if b = true then te σ2 H3 Pt else Pf H3)
    (hd : ∀ G ys, Same H1 G → G D = some (.lst ys) → Dxs (hid D G) ys ((rs.filter f).map encR) → Qd G) :
    ∃ W : Nat → Nat → Hp → Prop, (∃ m, W 0 m (upd H1 D (.lst []))) ∧ ∀ i m H, W i m H →
      ((Itt K a).stop i H ∧ Qd H) ∨ ((Itt K a).go i H ∧ ∃ Nx : Hp → Prop, (∀ H', Nx H' → ∃ m', m' < m ∧ W (i + 1) m' H') ∧ ∀ x H', (Itt K a).yld i H x H' → g x (wipe σ vs) H' fun σ2 H2 => wipe σ2 vs = wipe σ vs ∧ tt σ2 H2 fun b H3 =>
        if b = true then te σ2 H3 fun y H4 => ∃ acc, H4 D = some (.lst acc) ∧ acc.length < sizeLine ∧ Nx (upd H4 D (.lst (acc ++ [y]))) else Nx H3) := by
  have lx := hx.len
  rw [List.length_map] at lx
  refine lc_tup (xs := xs) (fun i G => Same H1 G ∧ ∃ ys, G D = some (.lst ys) ∧ Dxs (hid D G) ys (((rs.take i).filter f).map encR)) ⟨same_new nD, [], upd_same, .nil⟩ (fun i G _ hG => .inl (.inl (hG.1 _ _ ea))) (fun i x G hxi hG => ?_) (fun G hG => ?_)
  · obtain ⟨sG, ys, eD, hy⟩ := hG
    obtain ⟨d, ed, hdx⟩ := hx.get' hxi
    rw [List.getElem?_map] at ed
    obtain ⟨r, er, rfl⟩ := Option.map_eq_some_iff.mp ed
    have el := filter_at f er
    have ly : ys.length ≤ i := by
      rw [hy.len, List.length_map]
      exact Nat.le_trans (List.length_filter_le _ _) (by rw [List.length_take]; omega)
    have ii : i < rs.length := (List.getElem?_eq_some_iff.mp er).1
    refine hs r x G (List.mem_of_getElem? er) sG (hdx.up sG) _ _ ?_
    by_cases lt : f r = true
    · rw [if_pos lt] at el ⊢
      refine ⟨ys, eD, ?_, same_at sG nD, ys ++ [x], upd_same, ?_⟩
      · have hb : (1000 : Nat) < sizeLine := by decide
        omega
      · rw [el, List.map_append]
        refine (hy.up fun c u e => ?_).app (.cons ((hdx.up (H' := hid D (upd G D (.lst (ys ++ [x])))) fun c u e => ?_)) .nil)
        · obtain ⟨nc, e⟩ := hid_some e
          rw [hid_at nc, upd_ne nc]
          exact e
        · have nc : c ≠ D := ne_of_none e nD
          rw [hid_at nc, upd_ne nc]
          exact sG _ _ e
    · rw [if_neg lt] at el ⊢
      rw [List.append_nil] at el
      exact ⟨sG, ys, eD, by rw [el]; exact hy⟩
  · obtain ⟨sG, ys, eD, hy⟩ := hG
    rw [List.take_of_length_le (by omega)] at hy
    exact hd G ys sG eD hy
/-- a list of ints out of the rows -/
theorem lc_ints {K : PySem.W.Frag} {a D : Addr} {xs : List V} {rs : List Rec} {g : TG} {tt : TT} {te : TE} {vs : List Nat} {σ : L2.St} {H1 : Hp} {Qd : Hp → Prop} (f : Rec → Int) (nD : H1 D = none) (ea : H1 a = some (.tup xs)) (hx : Dxs H1 xs (rs.map encR)) (hl : rs.length ≤ 1000)
    (hs : ∀ (r : Rec) (x : V) (G : Hp), r ∈ rs → Same H1 G → Dx G x (encR r) → ∀ (Pt : V → Hp → Prop) (Pf : Hp → Prop), Pt (.int (f r)) G → g x (wipe σ vs) G fun σ2 H2 => wipe σ2 vs = wipe σ vs ∧ tt σ2 H2 fun b H3 => if b = true then te σ2 H3 Pt else Pf H3)
    (hd : ∀ G, Same H1 G → G D = some (.lst ((rs.map f).map V.int)) → Qd G) :
    ∃ W : Nat → Nat → Hp → Prop, (∃ m, W 0 m (upd H1 D (.lst []))) ∧ ∀ i m H, W i m H →
      ((Itt K a).stop i H ∧ Qd H) ∨ ((Itt K a).go i H ∧ ∃ Nx : Hp → Prop, (∀ H', Nx H' → ∃ m', m' < m ∧ W (i + 1) m' H') ∧ ∀ x H', (Itt K a).yld i H x H' → g x (wipe σ vs) H' fun σ2 H2 => wipe σ2 vs = wipe σ vs ∧ tt σ2 H2 fun b H3 =>
        if b = true then te σ2 H3 fun y H4 => ∃ acc, H4 D = some (.lst acc) ∧ acc.length < sizeLine ∧ Nx (upd H4 D (.lst (acc ++ [y]))) else Nx H3) := by
  have lx := hx.len
  rw [List.length_map] at lx
  refine lc_tup (xs := xs) (fun i G => Same H1 G ∧ G D = some (.lst (((rs.take i).map f).map V.int))) ⟨same_new nD, upd_same⟩ (fun i G _ hG => .inl (.inl (hG.1 _ _ ea))) (fun i x G hxi hG => ?_) (fun G hG => ?_)
  · obtain ⟨sG, eD⟩ := hG
    obtain ⟨d, ed, hdx⟩ := hx.get' hxi
    rw [List.getElem?_map] at ed
    obtain ⟨r, er, rfl⟩ := Option.map_eq_some_iff.mp ed
    have ii : i < rs.length := (List.getElem?_eq_some_iff.mp er).1
    refine hs r x G (List.mem_of_getElem? er) sG (hdx.up sG) _ _ ?_
    refine ⟨_, eD, ?_, same_at sG nD, ?_⟩
    · rw [List.length_map, List.length_map, List.length_take]
      have hb : (1000 : Nat) < sizeLine := by decide
      omega
    · rw [upd_same, List.take_add_one, er, List.map_append, List.map_append]
      rfl
  · obtain ⟨sG, eD⟩ := hG
    rw [List.take_of_length_le (by omega)] at eD
    exact hd G sG eD
theorem dx_tup' {H : Hp} {v : V} {ds : List PyData} (h : Dx H v (.tuple ds)) : ∃ a xs, v = .ref a ∧ H a = some (.tup xs) ∧ Dxs H xs ds := by
  cases h with
  | @tup a xs _ ea h => exact ⟨a, xs, rfl, ea, h⟩
theorem eqv_self (r : Rec) : PyData.eqv (encR r) (encR r) = true := by
  simp [encR, PyData.eqv, PyData.eqvAll, eqv_ints]
theorem eqv_rows : ∀ rs : List Rec, PyData.eqvAll (rs.map encR) (rs.map encR) = true
  | [] => by simp [PyData.eqvAll]
  | r :: rs => by simp [PyData.eqvAll, eqv_self, eqv_rows rs]
theorem eqv_tup (rs : List Rec) : PyData.eqv (.tuple (rs.map encR)) (.tuple (rs.map encR)) = true := by simpa [PyData.eqv] using eqv_rows rs
theorem plain_rows : ∀ rs : List Rec, PyData.plainAll (rs.map encR) = true
  | [] => by simp [PyData.plainAll]
  | r :: rs => by simp [PyData.plainAll, plain_rec, plain_rows rs]
theorem plain_tup (rs : List Rec) : (PyData.tuple (rs.map encR)).plain = true := by simpa [PyData.plain] using plain_rows rs
theorem deep_rows (rs : List Rec) : PyData.depthAll (rs.map encR) ≤ 50 := depthAll_le fun e he => by
  obtain ⟨r, _, rfl⟩ := List.mem_map.mp he
  exact depth_rec r
theorem deep_tup (rs : List Rec) : (PyData.tuple (rs.map encR)).depth ≤ 64 := by
  have := deep_rows rs
  simp only [PyData.depth]
  omega
theorem dp_tup {K : PySem.W.Frag} {H : Hp} {v : V} {rs : List Rec} (h : Dx H v (.tuple (rs.map encR))) : Dp K H v (.tuple (rs.map encR)) := dp_dx _ _ (plain_tup rs) h
theorem any_self {bs : List Rec} {r : Rec} (h : r ∈ bs) : ((bs.map encR).any fun z => PyData.eqv z (encR r)) = true :=
  List.any_eq_true.mpr ⟨encR r, List.mem_map.mpr ⟨r, h, rfl⟩, eqv_self r⟩
theorem rows_fine {wd : Nat} {rs : List Rec} (hr : ∀ r ∈ rs, ROk wd r) (hl : rs.length ≤ 61) (hw : wd ≤ 4) : (PyData.tuple (rs.map encR)).showable = true ∧ (PyData.tuple (rs.map encR)).depth ≤ 100 ∧ (PyData.tuple (rs.map encR)).shown.length ≤ sizeLine := by
  have hm : ∀ e ∈ rs.map encR, fine (10 ^ 40) e = true ∧ wt e ≤ 20 ∧ e.depth ≤ 50 := fun e he => by
    obtain ⟨r, mr, rfl⟩ := List.mem_map.mp he
    exact rec_fine (hr r mr) hw
  have fr := fineAll_mem.mpr fun e he => (hm e he).1
  have gr := wtAll_le fun e he => (hm e he).2.1
  have kr := depthAll_le fun e he => (hm e he).2.2
  rw [List.length_map] at gr
  refine big_show ?_ ?_ ?_
  · simpa only [fine] using fr
  · simp only [wt]
    omega
  · simp only [PyData.depth]
    omega
end U1

set_option maxRecDepth 100000
set_option maxHeartbeats 4000000
/-! Ex31: zip of a tuple and a list (Ex5 with the roles exchanged) -/
namespace KX
open PySem PySem.Spec PyProof.Rows L2
def ItN (K : PySem.W.Frag) (a b : Addr) : It :=
  ⟨fun i H => ∃ (xs ys : List V) (x y : V), SqT K H a xs ∧ SqL K H b ys ∧ xs[i]? = some x ∧ ys[i]? = some y,
    fun i H v G => ∃ T x y, v = .ref T ∧ H T = none ∧ G = upd H T (.tup [x, y]) ∧ (∀ xs, SqT K H a xs → xs[i]? = some x) ∧ ∀ ys, SqL K H b ys → ys[i]? = some y,
    fun i H => ∃ xs ys : List V, SqT K H a xs ∧ SqL K H b ys ∧ xs.length = i ∧ ys.length = i⟩
theorem turn_n {P : Program} {w : World} {K : PySem.W.Frag} {elts : List Expr} {kk : Nat} {tpos : Pos} {a b z TI TO i1 i2 : Addr} (D : ZipApart z TI TO i1 i2 a b) :
    Turn P w K (.Tuple elts kk tpos) (ItN K a b) [z, TI, TO, i1, i2] z (fun i h => IsZip h z TI TO .none ∧ IsPair h TI (.ref i1) (.ref i2) ∧ (∃ x y, IsPair h TO x y) ∧ h.IsTupleIter i1 a i ∧ h.IsListIter i2 b i) where
  mem := by simp
  obj := fun i h st c hc => by
    obtain ⟨hz, hTI, ⟨x, y, hTO⟩, ⟨o1, e1, _, d1⟩, ⟨o2, e2, _, d2⟩⟩ := st
    simp only [List.mem_cons, List.not_mem_nil, or_false] at hc
    rcases hc with rfl | rfl | rfl | rfl | rfl
    · exact ⟨_, hz, fun v q => nomatch q⟩
    · exact ⟨_, hTI, fun v q => nomatch q⟩
    · exact ⟨_, hTO, fun v q => nomatch q⟩
    · exact ⟨o1, e1, fun v q => by rw [d1] at q; cases q⟩
    · exact ⟨o2, e2, fun v q => by rw [d2] at q; cases q⟩
  keep := fun i h h' st k => by
    obtain ⟨hz, hTI, ⟨x, y, hTO⟩, t1, t2⟩ := st
    exact ⟨k z (by simp) _ hz, k TI (by simp) _ hTI, ⟨x, y, k TO (by simp) _ hTO⟩, t1.at fun o q => k i1 (by simp) o q, t2.at fun o q => k i2 (by simp) o q⟩
  item := by
    intro X hP hw hK hc i pins s σ H E I hf st hg
    subst hP hw hK
    obtain ⟨hz, hTI, ⟨x0, y0, hTO⟩, t1, t2⟩ := st
    obtain ⟨xs, ys, x, y, hqx, hqy, hx, hy⟩ := hg
    obtain ⟨its, rv, pl, _⟩ := I.tuple hqx
    obtain ⟨its2, rv2, pt, _⟩ := I.list hqy
    obtain ⟨u, hu, ru⟩ := rv.get hx
    obtain ⟨u2, hu2, ru2⟩ := rv2.get hy
    have zl : z < s.heap.objs.size := Heap.lt_size hz
    have hh : X.A.in1.handled = none := I.ok.hd hc
    have li : i < its.toArray.size := by simpa using (List.getElem?_eq_some_iff.mp hu).1
    have li2 : i < its2.toArray.size := by simpa using (List.getElem?_eq_some_iff.mp hu2).1
    refine wpAny_pyNext_zipD2_item (sep_of D) (Draws.tuple hh i1 a D.l1i1 its.toArray) (Draws.list hh i2 b D.l2i2 its2.toArray) hz hTI hTO ⟨t1, pl⟩ ⟨t2, pt.isList⟩ li li2 fun x1 x2 h' tk q1 q2 z' TO' s1' s2' hT hsz hk => ?_
    have e1 : x1 = u := Option.some.inj (q1.symm.trans (by simpa using hu))
    have e2 : x2 = u2 := Option.some.inj (q2.symm.trans (by simpa using hu2))
    subst e1 e2
    refine ⟨_, rfl, wpAny_letOwnedTupleGo_zip (s := { s with heap := h', toks := tk }) z' fun h'' z'' sb => ?_⟩
    have hT2 : h''.get? s.heap.objs.size = some { cls := .type "tuple", data := .seq #[x1, x2] } := (sb.2 _ (Nat.ne_of_gt zl)).trans hT
    have new : ObjOk X.prog X.w (upd H s.heap.objs.size (.tup [x, y])) h'' s.heap.objs.size (.tup [x, y]) := ⟨by show 2 ≤ sizeLine; decide, [x1, x2], .cons ru (.cons ru2 .nil), ⟨_, hT2, rfl, _, rfl⟩⟩
    have moved : ∀ c o, c ∉ [z, TI, TO, i1, i2] → s.heap.get? c = some o → h''.get? c = some o := fun c o hb q => by
      simp only [List.mem_cons, List.not_mem_nil, or_false, not_or] at hb
      exact (sb.2 c hb.1).trans (hk c o hb.1 hb.2.2.1 hb.2.2.2.1 hb.2.2.2.2 q)
    have I1 : Inv X pins σ (upd H s.heap.objs.size (.tup [x, y])) { s with heap := h'', toks := tk } := I.turnedNew (t' := tk) (ch := [z, TI, TO, i1, i2]) moved hf (Nat.le_refl _) new
    refine ⟨.ref s.heap.objs.size, _, I1, rfl, ⟨_, x, y, rfl, I.hok.fresh (Nat.le_refl _), rfl, fun l hl => by rw [I.tuple_inj hl hqx]; exact hx, fun l hl => by rw [I.list_inj hl hqy]; exact hy⟩,
      ⟨z'', (sb.2 _ D.TIz).trans (hk _ _ D.TIz D.TITO D.TIi1 D.TIi2 hTI), ⟨x1, x2, (sb.2 _ D.TOz).trans TO'⟩, s1'.1.at fun o q => (sb.2 _ D.i1z).trans q, s2'.1.at fun o q => (sb.2 _ D.i2z).trans q⟩, fun c hcm => ?_⟩
    have lt : c < s.heap.objs.size := by
      simp only [List.mem_cons, List.not_mem_nil, or_false] at hcm
      rcases hcm with rfl | rfl | rfl | rfl | rfl
      · exact zl
      · exact Heap.lt_size hTI
      · exact Heap.lt_size hTO
      · obtain ⟨_, q, _⟩ := t1; exact Heap.lt_size q
      · obtain ⟨_, q, _⟩ := t2; exact Heap.lt_size q
    rw [upd_ne (Nat.ne_of_lt lt)]
    exact (hf c hcm).1
  done := by
    intro X hP hw hK hc i pins s σ H E I hf st hg
    subst hP hw hK
    obtain ⟨hz, hTI, ⟨x0, y0, hTO⟩, t1, t2⟩ := st
    obtain ⟨xs, ys, hqx, hqy, e1, e2⟩ := hg
    obtain ⟨its, rv, pl, _⟩ := I.tuple hqx
    obtain ⟨its2, rv2, pt, _⟩ := I.list hqy
    have l1 := rv.length
    have l2 := rv2.length
    have hh : X.A.in1.handled = none := I.ok.hd hc
    have s1 : its.toArray.size = i := by simp; omega
    have s2 : its2.toArray.size = i := by simp; omega
    refine wpAny_pyNext_zipD2_end (sep_of D) (Draws.tuple hh i1 a D.l1i1 its.toArray) (Draws.list hh i2 b D.l2i2 its2.toArray) hz hTI hTO ⟨t1, pl⟩ ⟨t2, pt.isList⟩ (by omega) (by omega) (.inl s1.symm) fun h' tk hk => ⟨rfl, ?_⟩
    refine I.turnedL (t' := tk) (ch := [z, TI, TO, i1, i2]) (fun c o hb q => ?_) hf
    simp only [List.mem_cons, List.not_mem_nil, or_false, not_or] at hb
    exact hk c o hb.1 hb.2.2.1 hb.2.2.2.1 hb.2.2.2.2 q
  self := fun A i s Q E st h => wpAny_pyIter_zip st.1 h
/-! the call -/
abbrev zn1 (h : Heap) (a : Addr) : Heap := h.push { cls := .type "tuple_iterator", data := .fields #[.ref a, .int 0 0] }
abbrev zn2 (h : Heap) (a b : Addr) : Heap := (zn1 h a).push { cls := .type "list_iterator", data := .fields #[.ref b, .int 0 0] }
abbrev zn3 (h : Heap) (a b : Addr) : Heap := (zn2 h a b).push { cls := .type "tuple", data := .seq #[.ref h.objs.size, .ref (zn1 h a).objs.size] }
abbrev zn4 (h : Heap) (a b : Addr) : Heap := (zn3 h a b).push { cls := .type "tuple", data := .seq #[.none, .none] }
abbrev zn5 (h : Heap) (a b : Addr) : Heap := (zn4 h a b).push { cls := .type "zip", data := .fields #[.none, .bool false, .bool false, .ref (zn2 h a b).objs.size, .ref (zn3 h a b).objs.size] }
theorem meets_zn (a b : Addr) (xs ys : Array Value) :
    Meets (Builtin.«zip.__new__» ⟨[.type "zip", .ref a, .ref b], []⟩) (fun _ R s => s.heap.IsTuple a xs ∧ s.heap.IsList b ys ∧ R (.ok (.ret (.ref (zn4 s.heap a b).objs.size))) { s with heap := zn5 s.heap a b }) :=
  .of_wp fun prog w A R s h => by
    obtain ⟨hp, g, d, tk, os⟩ := s
    obtain ⟨ha, hb, h⟩ := h
    have hsub := sub_zip
    have La : Heap.IsTuple (Shared.heap ⟨hp, g, d, tk, os⟩) a xs := ha
    have Lb : Heap.IsList (Shared.heap ⟨hp.push { cls := .type "tuple_iterator", data := .fields #[.ref a, .int 0 0] }, g, d, tk, os⟩) b ys := Heap.IsList.push hb _
    wp_walk using wpAny_pyIter_tuple La, wpAny_pyIter_list Lb
    exact ⟨_, rfl, h⟩
section
variable {prog : Program} {w : World} {A : Around} {E : Value → Shared → Prop} {s : Shared}
theorem call_zn {a b : Addr} {xs ys : Array Value} {Q : Value → Shared → Prop} (ha : s.heap.IsTuple a xs) (hb : s.heap.IsList b ys)
    (go : ∀ h', IsZip h' (s.heap.objs.size + 4) (s.heap.objs.size + 2) (s.heap.objs.size + 3) .none → IsPair h' (s.heap.objs.size + 2) (.ref s.heap.objs.size) (.ref (s.heap.objs.size + 1)) → IsPair h' (s.heap.objs.size + 3) .none .none →
      h'.IsTupleIter s.heap.objs.size a 0 → h'.IsListIter (s.heap.objs.size + 1) b 0 → (∀ c o, s.heap.get? c = some o → h'.get? c = some o) → Q (.ref (s.heap.objs.size + 4)) { s with heap := h' }) :
    wpAny (model prog w) A (call (.type "zip") [.ref a, .ref b]) Q E s := by
  refine callType_new F.called_zip (by decide) (F.typeCall_zip_2 _ _) (F.newCall_zip_2 _ _) (fun obj => F.args_object_init_3 obj _ _) F.entry_zip_new (meets_zn a b xs ys) ⟨ha, hb, ?_⟩
  have n1 : (zn1 s.heap a).objs.size = s.heap.objs.size + 1 := by rw [Heap.size_push]
  have n2 : (zn2 s.heap a b).objs.size = s.heap.objs.size + 2 := by rw [Heap.size_push, n1]
  have n3 : (zn3 s.heap a b).objs.size = s.heap.objs.size + 3 := by rw [Heap.size_push, n2]
  have n4 : (zn4 s.heap a b).objs.size = s.heap.objs.size + 4 := by rw [Heap.size_push, n3]
  have k45 : ∀ {c o}, (zn4 s.heap a b).get? c = some o → (zn5 s.heap a b).get? c = some o := fun e => Heap.get?_push_of_some _ e
  have k35 : ∀ {c o}, (zn3 s.heap a b).get? c = some o → (zn5 s.heap a b).get? c = some o := fun e => k45 (Heap.get?_push_of_some _ e)
  have k25 : ∀ {c o}, (zn2 s.heap a b).get? c = some o → (zn5 s.heap a b).get? c = some o := fun e => k35 (Heap.get?_push_of_some _ e)
  have k15 : ∀ {c o}, (zn1 s.heap a).get? c = some o → (zn5 s.heap a b).get? c = some o := fun e => k25 (Heap.get?_push_of_some _ e)
  have o5 : (zn5 s.heap a b).get? (zn4 s.heap a b).objs.size = some _ := Heap.get?_push_size _ rfl
  have o4 := k45 (c := (zn3 s.heap a b).objs.size) (Heap.get?_push_size _ rfl)
  have o3 := k35 (c := (zn2 s.heap a b).objs.size) (Heap.get?_push_size _ rfl)
  have o2 := k25 (c := (zn1 s.heap a).objs.size) (Heap.get?_push_size _ rfl)
  have o1 := k15 (c := s.heap.objs.size) (Heap.get?_push_size _ rfl)
  show _ ∧ _
  rw [n2, n3, n4] at o5
  rw [n3] at o4
  rw [n1, n2] at o3
  rw [n1] at o2
  rw [n4]
  exact ⟨⟨_, o5, rfl⟩, go _ o5 o3 o4 ⟨_, o1, rfl, rfl⟩ ⟨_, o2, rfl, rfl⟩ fun c o x => k15 (Heap.get?_push_of_some _ x)⟩
end
def iZipN (K : PySem.W.Frag) (ta : TA) : TI := fun σ H R => ta σ H fun vs H1 => ∃ a b xs ys, vs = [.ref a, .ref b] ∧ SqT K H1 a xs ∧ SqL K H1 b ys ∧ R (ItN K a b) H1
theorem pi_zipN {X : Cx} {e e2 : Expr} {ta : TA} {p pos tpos : Pos} {elts : List Expr} {kk : Nat} (hg : Gl X "zip") (hm : X.mg "zip" = none) (ha : PA X [e, e2] ta)
    (hs : starEach [e, e2] X.env = (false, eval e X.env) :: starEach [e2] X.env := by rfl) (hpl : (backTo pos (starEach [e2] X.env)).any (·.1) = false := by rfl) :
    PI X (.Tuple elts kk tpos) (.Call (.Name "zip" p) [e, e2] [] pos) (iZipN X.K ta) := by
  refine ⟨fun pins s σ H R I h => ?_⟩
  refine Call_ (ld_blt I hg hm PyProof.Rows.boot_zip (PyProof.Rows.callWith_type1 (thn (ha.run pos pins s σ H _ I h) fun us s1 z => ?_) hs hpl))
  obtain ⟨vs, H1, I1, r1, a, b, xs, ys, ex, hqx, hqy, q⟩ := z
  subst ex
  obtain rfl : us = [.ref a, .ref b] := by
    cases r1 with
    | cons r rr =>
      cases rr with
      | cons r' rr =>
        cases rr
        cases r
        cases r'
        rfl
  obtain ⟨its, rv, pl, _⟩ := I1.tuple hqx
  obtain ⟨its2, rv2, pt, _⟩ := I1.list hqy
  have lta : a < s1.heap.objs.size := by
    obtain ⟨o, ho, _⟩ := id pl
    exact Heap.lt_size ho
  refine call_zn (show s1.heap.IsTuple a its.toArray from pl) pt.isList fun h' hz hTI hTO t1 t2 hk => wpAny_pyIter_zip hz ?_
  have I2 : Inv X pins σ H1 { s1 with heap := h' } := I1.kept (t' := s1.toks) hk
  refine ⟨s1.heap.objs.size + 4, [s1.heap.objs.size + 4, s1.heap.objs.size + 2, s1.heap.objs.size + 3, s1.heap.objs.size, s1.heap.objs.size + 1], _, _, H1, rfl, I2, turn_n (PySem.W.ktu_apart s1.heap.objs.size a b lta pt.lt), ⟨hz, hTI, ⟨_, _, hTO⟩, t1, t2⟩, fun c hcm => ?_, q⟩
  have le : s1.heap.objs.size ≤ c := by
    simp only [List.mem_cons, List.not_mem_nil, or_false] at hcm
    rcases hcm with rfl | rfl | rfl | rfl | rfl <;> omega
  exact I1.fpOk le (I1.hok.fresh le)
/-- [e for x, y in zip(l, t)] -/
theorem lc_zipN {K : PySem.W.Frag} {a b : Addr} {xs ys : List V} {g : TG} {tt : TT} {te : TE} {vs : List Nat} {σ : L2.St} {H1 : Hp} {D : Addr} {Qd : Hp → Prop} (hl : xs.length = ys.length) (Pv : Nat → Hp → Prop) (h0 : Pv 0 (upd H1 D (.lst [])))
    (hq : ∀ i G, i ≤ xs.length → Pv i G → SqT K G a xs ∧ SqL K G b ys)
    (hs : ∀ (i : Nat) (x y : V) (T : Addr) (G : Hp), xs[i]? = some x → ys[i]? = some y → Pv i G → G T = none → g (.ref T) (wipe σ vs) (upd G T (.tup [x, y])) fun σ2 H2 => wipe σ2 vs = wipe σ vs ∧ tt σ2 H2 fun b H3 =>
      if b = true then te σ2 H3 fun y H4 => ∃ zs, H4 D = some (.lst zs) ∧ zs.length < sizeLine ∧ Pv (i + 1) (upd H4 D (.lst (zs ++ [y]))) else Pv (i + 1) H3) (hd : ∀ G, Pv xs.length G → Qd G) :
    ∃ W : Nat → Nat → Hp → Prop, (∃ m, W 0 m (upd H1 D (.lst []))) ∧ ∀ i m H, W i m H → ((ItN K a b).stop i H ∧ Qd H) ∨ ((ItN K a b).go i H ∧ ∃ Nx : Hp → Prop, (∀ H', Nx H' → ∃ m', m' < m ∧ W (i + 1) m' H') ∧ ∀ x H', (ItN K a b).yld i H x H' →
      g x (wipe σ vs) H' fun σ2 H2 => wipe σ2 vs = wipe σ vs ∧ tt σ2 H2 fun b H3 => if b = true then te σ2 H3 fun y H4 => ∃ zs, H4 D = some (.lst zs) ∧ zs.length < sizeLine ∧ Nx (upd H4 D (.lst (zs ++ [y]))) else Nx H3) := by
  refine ⟨fun i m H => m = xs.length - i ∧ i ≤ xs.length ∧ Pv i H, ⟨xs.length, by simp, Nat.zero_le _, h0⟩, fun i m H hw => ?_⟩
  obtain ⟨rfl, hi, p⟩ := hw
  obtain ⟨qx, qy⟩ := hq i H hi p
  by_cases lt : i < xs.length
  · refine .inr ⟨⟨xs, ys, xs[i], ys[i], qx, qy, List.getElem?_eq_getElem lt, List.getElem?_eq_getElem (by omega)⟩, Pv (i + 1), fun H' p' => ⟨xs.length - (i + 1), by omega, rfl, lt, p'⟩, fun v H' y => ?_⟩
    obtain ⟨T, x, y, rfl, nT, rfl, e1, e2⟩ := y
    exact hs i x y T H (e1 xs qx) (e2 ys qy) p nT
  · have e : i = xs.length := by omega
    subst e
    exact .inl ⟨⟨xs, ys, qx, qy, rfl, hl.symm⟩, hd H p⟩
end KX

set_option maxRecDepth 100000
set_option maxHeartbeats 4000000
/-! Ex33: zip of three lists -/
namespace KX
open PySem PySem.Spec PyProof.Rows L2
def It3 (K : PySem.W.Frag) (a b c : Addr) : It :=
  ⟨fun i H => ∃ (xs ys us : List V) (x y u : V), SqL K H a xs ∧ SqL K H b ys ∧ SqL K H c us ∧ xs[i]? = some x ∧ ys[i]? = some y ∧ us[i]? = some u,
    fun i H v G => ∃ T x y u, v = .ref T ∧ H T = none ∧ G = upd H T (.tup [x, y, u]) ∧ (∀ xs, SqL K H a xs → xs[i]? = some x) ∧ (∀ ys, SqL K H b ys → ys[i]? = some y) ∧ ∀ us, SqL K H c us → us[i]? = some u,
    fun i H => ∃ xs ys us : List V, SqL K H a xs ∧ SqL K H b ys ∧ SqL K H c us ∧ xs.length = i ∧ ys.length = i ∧ us.length = i⟩
structure Ap3 (z TI TO i1 i2 i3 a b c : Addr) : Prop where
  s : ZipSep3 z TI TO i1 i2 i3 [i1, a] [i2, b] [i3, c]
  la : a ≠ i1
  lb : b ≠ i2
  lc : c ≠ i3
theorem turn_3 {P : Program} {w : World} {K : PySem.W.Frag} {elts : List Expr} {kk : Nat} {tpos : Pos} {a b c z TI TO i1 i2 i3 : Addr} (D : Ap3 z TI TO i1 i2 i3 a b c) :
    Turn P w K (.Tuple elts kk tpos) (It3 K a b c) [z, TI, TO, i1, i2, i3] z (fun i h => IsZip h z TI TO .none ∧ IsTupOf3 h TI (.ref i1) (.ref i2) (.ref i3) ∧ (∃ x y u, IsTupOf3 h TO x y u) ∧ h.IsListIter i1 a i ∧ h.IsListIter i2 b i ∧ h.IsListIter i3 c i) where
  mem := by simp
  obj := fun i h st e hc => by
    obtain ⟨hz, hTI, ⟨x, y, u, hTO⟩, ⟨o1, e1, _, d1⟩, ⟨o2, e2, _, d2⟩, ⟨o3, e3, _, d3⟩⟩ := st
    simp only [List.mem_cons, List.not_mem_nil, or_false] at hc
    rcases hc with rfl | rfl | rfl | rfl | rfl | rfl
    · exact ⟨_, hz, fun v q => nomatch q⟩
    · exact ⟨_, hTI, fun v q => nomatch q⟩
    · exact ⟨_, hTO, fun v q => nomatch q⟩
    · exact ⟨o1, e1, fun v q => by rw [d1] at q; cases q⟩
    · exact ⟨o2, e2, fun v q => by rw [d2] at q; cases q⟩
    · exact ⟨o3, e3, fun v q => by rw [d3] at q; cases q⟩
  keep := fun i h h' st k => by
    obtain ⟨hz, hTI, ⟨x, y, u, hTO⟩, t1, t2, t3⟩ := st
    exact ⟨k z (by simp) _ hz, k TI (by simp) _ hTI, ⟨x, y, u, k TO (by simp) _ hTO⟩, t1.at fun o e => k i1 (by simp) o e, t2.at fun o q => k i2 (by simp) o q, t3.at fun o q => k i3 (by simp) o q⟩
  item := by
    intro X hP hw hK hc i pins s σ H E I hf st hg
    subst hP hw hK
    obtain ⟨hz, hTI, ⟨x0, y0, u0, hTO⟩, t1, t2, t3⟩ := st
    obtain ⟨xs, ys, us, x, y, u, hqx, hqy, hqu, hx, hy, hu⟩ := hg
    obtain ⟨it1, rv1, p1, _⟩ := I.list hqx
    obtain ⟨it2, rv2, p2, _⟩ := I.list hqy
    obtain ⟨it3, rv3, p3, _⟩ := I.list hqu
    obtain ⟨a1, ha1, ra1⟩ := rv1.get hx
    obtain ⟨a2, ha2, ra2⟩ := rv2.get hy
    obtain ⟨a3, ha3, ra3⟩ := rv3.get hu
    have zl : z < s.heap.objs.size := Heap.lt_size hz
    have hh : X.A.in1.handled = none := I.ok.hd hc
    have l1 : i < it1.toArray.size := by simpa using (List.getElem?_eq_some_iff.mp ha1).1
    have l2 : i < it2.toArray.size := by simpa using (List.getElem?_eq_some_iff.mp ha2).1
    have l3 : i < it3.toArray.size := by simpa using (List.getElem?_eq_some_iff.mp ha3).1
    refine wpAny_pyNext_zipD3_item D.s (Draws.list hh i1 a D.la it1.toArray) (Draws.list hh i2 b D.lb it2.toArray) (Draws.list hh i3 c D.lc it3.toArray) hz hTI hTO ⟨t1, p1.isList⟩ ⟨t2, p2.isList⟩ ⟨t3, p3.isList⟩ l1 l2 l3 fun x1 x2 x3 h' tk q1 q2 q3 z' TO' s1' s2' s3' hT hsz hk => ?_
    have e1 : x1 = a1 := Option.some.inj (q1.symm.trans (by simpa using ha1))
    have e2 : x2 = a2 := Option.some.inj (q2.symm.trans (by simpa using ha2))
    have e3 : x3 = a3 := Option.some.inj (q3.symm.trans (by simpa using ha3))
    subst e1 e2 e3
    refine ⟨_, rfl, wpAny_letOwnedTupleGo_zip (s := { s with heap := h', toks := tk }) z' fun h'' z'' sb => ?_⟩
    have hT2 : h''.get? s.heap.objs.size = some { cls := .type "tuple", data := .seq #[x1, x2, x3] } := (sb.2 _ (Nat.ne_of_gt zl)).trans hT
    have new : ObjOk X.prog X.w (upd H s.heap.objs.size (.tup [x, y, u])) h'' s.heap.objs.size (.tup [x, y, u]) := ⟨by show 3 ≤ sizeLine; decide, [x1, x2, x3], .cons ra1 (.cons ra2 (.cons ra3 .nil)), ⟨_, hT2, rfl, _, rfl⟩⟩
    have moved : ∀ e o, e ∉ [z, TI, TO, i1, i2, i3] → s.heap.get? e = some o → h''.get? e = some o := fun e o hb q => by
      simp only [List.mem_cons, List.not_mem_nil, or_false, not_or] at hb
      exact (sb.2 e hb.1).trans (hk e o hb.1 hb.2.2.1 hb.2.2.2.1 hb.2.2.2.2.1 hb.2.2.2.2.2 q)
    have I1 : Inv X pins σ (upd H s.heap.objs.size (.tup [x, y, u])) { s with heap := h'', toks := tk } := I.turnedNew (t' := tk) (ch := [z, TI, TO, i1, i2, i3]) moved hf (Nat.le_refl _) new
    have i1z : i1 ≠ z := D.s.zi1.symm
    have i2z : i2 ≠ z := D.s.zi2.symm
    have i3z : i3 ≠ z := D.s.zi3.symm
    refine ⟨.ref s.heap.objs.size, _, I1, rfl, ⟨_, x, y, u, rfl, I.hok.fresh (Nat.le_refl _), rfl, fun l hl => by rw [I.list_inj hl hqx]; exact hx, fun l hl => by rw [I.list_inj hl hqy]; exact hy, fun l hl => by rw [I.list_inj hl hqu]; exact hu⟩,
      ⟨z'', (sb.2 _ D.s.TIz).trans (hk _ _ D.s.TIz D.s.TITO D.s.TIi1 D.s.TIi2 D.s.TIi3 hTI), ⟨x1, x2, x3, (sb.2 _ D.s.TOz).trans TO'⟩, s1'.1.at fun o q => (sb.2 _ i1z).trans q, s2'.1.at fun o q => (sb.2 _ i2z).trans q, s3'.1.at fun o q => (sb.2 _ i3z).trans q⟩, fun e hcm => ?_⟩
    have lt : e < s.heap.objs.size := by
      simp only [List.mem_cons, List.not_mem_nil, or_false] at hcm
      rcases hcm with rfl | rfl | rfl | rfl | rfl | rfl
      · exact zl
      · exact Heap.lt_size hTI
      · exact Heap.lt_size hTO
      · obtain ⟨_, q, _⟩ := t1; exact Heap.lt_size q
      · obtain ⟨_, q, _⟩ := t2; exact Heap.lt_size q
      · obtain ⟨_, q, _⟩ := t3; exact Heap.lt_size q
    rw [upd_ne (Nat.ne_of_lt lt)]
    exact (hf e hcm).1
  done := by
    intro X hP hw hK hc i pins s σ H E I hf st hg
    subst hP hw hK
    obtain ⟨hz, hTI, ⟨x0, y0, u0, hTO⟩, t1, t2, t3⟩ := st
    obtain ⟨xs, ys, us, hqx, hqy, hqu, e1, e2, e3⟩ := hg
    obtain ⟨it1, rv1, p1, _⟩ := I.list hqx
    obtain ⟨it2, rv2, p2, _⟩ := I.list hqy
    obtain ⟨it3, rv3, p3, _⟩ := I.list hqu
    have l1 := rv1.length
    have l2 := rv2.length
    have l3 := rv3.length
    have hh : X.A.in1.handled = none := I.ok.hd hc
    have s1 : it1.toArray.size = i := by simp; omega
    have s2 : it2.toArray.size = i := by simp; omega
    have s3 : it3.toArray.size = i := by simp; omega
    refine wpAny_pyNext_zipD3_end D.s (Draws.list hh i1 a D.la it1.toArray) (Draws.list hh i2 b D.lb it2.toArray) (Draws.list hh i3 c D.lc it3.toArray) hz hTI hTO ⟨t1, p1.isList⟩ ⟨t2, p2.isList⟩ ⟨t3, p3.isList⟩ (by omega) (by omega) (by omega) (.inl s1.symm) fun h' tk hk => ⟨rfl, ?_⟩
    refine I.turnedL (t' := tk) (ch := [z, TI, TO, i1, i2, i3]) (fun e o hb q => ?_) hf
    simp only [List.mem_cons, List.not_mem_nil, or_false, not_or] at hb
    exact hk e o hb.1 hb.2.2.1 hb.2.2.2.1 hb.2.2.2.2.1 hb.2.2.2.2.2 q
  self := fun A i s Q E st h => wpAny_pyIter_zip st.1 h
def iZip3 (K : PySem.W.Frag) (ta : TA) : TI := fun σ H R => ta σ H fun vs H1 => ∃ a b c xs ys us, vs = [.ref a, .ref b, .ref c] ∧ SqL K H1 a xs ∧ SqL K H1 b ys ∧ SqL K H1 c us ∧ R (It3 K a b c) H1
theorem pi_zip3 {X : Cx} {e e2 e3 : Expr} {ta : TA} {p pos tpos : Pos} {elts : List Expr} {kk : Nat} (hg : Gl X "zip") (hm : X.mg "zip" = none) (ha : PA X [e, e2, e3] ta)
    (hs : starEach [e, e2, e3] X.env = (false, eval e X.env) :: starEach [e2, e3] X.env := by rfl) (hpl : (backTo pos (starEach [e2, e3] X.env)).any (·.1) = false := by rfl) :
    PI X (.Tuple elts kk tpos) (.Call (.Name "zip" p) [e, e2, e3] [] pos) (iZip3 X.K ta) := by
  refine ⟨fun pins s σ H R I h => ?_⟩
  refine Call_ (ld_blt I hg hm PyProof.Rows.boot_zip (PyProof.Rows.callWith_type1 (thn (ha.run pos pins s σ H _ I h) fun us s1 z => ?_) hs hpl))
  obtain ⟨vs, H1, I1, r1, a, b, c, xs, ys, us3, ex, hqx, hqy, hqu, q⟩ := z
  subst ex
  obtain rfl : us = [.ref a, .ref b, .ref c] := by
    cases r1 with
    | cons r rr =>
      cases rr with
      | cons r' rr =>
        cases rr with
        | cons r'' rr =>
          cases rr
          cases r
          cases r'
          cases r''
          rfl
  obtain ⟨it1, rv1, p1, _⟩ := I1.list hqx
  obtain ⟨it2, rv2, p2, _⟩ := I1.list hqy
  obtain ⟨it3, rv3, p3, _⟩ := I1.list hqu
  have la := p1.lt
  have lb := p2.lt
  have lc := p3.lt
  refine zip_begins3 (begins_list a it1.toArray) (begins_list b it2.toArray) (begins_list c it3.toArray) p1.isList p2.isList p3.isList fun h' hz hTI hTO g1 g2 g3 hsz hk => wpAny_pyIter_zip hz ?_
  have I2 : Inv X pins σ H1 { s1 with heap := h' } := I1.kept (t' := s1.toks) hk
  have ap : Ap3 (s1.heap.objs.size + 5) (s1.heap.objs.size + 3) (s1.heap.objs.size + 4) s1.heap.objs.size (s1.heap.objs.size + 1) (s1.heap.objs.size + 2) a b c :=
    ⟨zip_sep3 (fp1 := [a]) (fp2 := [b]) (fp3 := [c]) (fun d hd => by rw [List.mem_singleton.mp hd]; exact la) (fun d hd => by rw [List.mem_singleton.mp hd]; exact lb) (fun d hd => by rw [List.mem_singleton.mp hd]; exact lc), Nat.ne_of_lt la, Nat.ne_of_lt (Nat.lt_succ_of_lt lb), Nat.ne_of_lt (Nat.lt_succ_of_lt (Nat.lt_succ_of_lt lc))⟩
  refine ⟨s1.heap.objs.size + 5, [s1.heap.objs.size + 5, s1.heap.objs.size + 3, s1.heap.objs.size + 4, s1.heap.objs.size, s1.heap.objs.size + 1, s1.heap.objs.size + 2], _, _, H1, rfl, I2, turn_3 ap, ⟨hz, hTI, ⟨_, _, _, hTO⟩, ⟨_, g1, rfl, rfl⟩, ⟨_, g2, rfl, rfl⟩, ⟨_, g3, rfl, rfl⟩⟩, fun d hcm => ?_, q⟩
  have le : s1.heap.objs.size ≤ d := by
    simp only [List.mem_cons, List.not_mem_nil, or_false] at hcm
    rcases hcm with rfl | rfl | rfl | rfl | rfl | rfl <;> omega
  exact I1.fpOk le (I1.hok.fresh le)
/-- [e for x, y, u in zip(l, m, n)] -/
theorem lc_zip3 {K : PySem.W.Frag} {a b c : Addr} {xs ys us : List V} {g : TG} {tt : TT} {te : TE} {vs : List Nat} {σ : L2.St} {F : Hp} {D : Addr} {Fin : Hp → Prop} (l1 : xs.length = ys.length) (l2 : us.length = ys.length) (Pv : Nat → Hp → Prop) (base : Pv 0 (upd F D (.lst [])))
    (stays : ∀ i G, i ≤ ys.length → Pv i G → SqL K G a xs ∧ SqL K G b ys ∧ SqL K G c us)
    (step : ∀ (i : Nat) (x y u : V) (T : Addr) (G : Hp), xs[i]? = some x → ys[i]? = some y → us[i]? = some u → Pv i G → G T = none → g (.ref T) (wipe σ vs) (upd G T (.tup [x, y, u])) fun σ2 G2 => wipe σ2 vs = wipe σ vs ∧ tt σ2 G2 fun q G3 =>
      if q = true then te σ2 G3 fun v G4 => ∃ ws, G4 D = some (.lst ws) ∧ ws.length < sizeLine ∧ Pv (i + 1) (upd G4 D (.lst (ws ++ [v]))) else Pv (i + 1) G3) (last : ∀ G, Pv ys.length G → Fin G) :
    ∃ W : Nat → Nat → Hp → Prop, (∃ m, W 0 m (upd F D (.lst []))) ∧ ∀ i m G, W i m G → ((It3 K a b c).stop i G ∧ Fin G) ∨ ((It3 K a b c).go i G ∧ ∃ Nx : Hp → Prop, (∀ G', Nx G' → ∃ m', m' < m ∧ W (i + 1) m' G') ∧ ∀ x G', (It3 K a b c).yld i G x G' →
      g x (wipe σ vs) G' fun σ2 G2 => wipe σ2 vs = wipe σ vs ∧ tt σ2 G2 fun q G3 => if q = true then te σ2 G3 fun v G4 => ∃ ws, G4 D = some (.lst ws) ∧ ws.length < sizeLine ∧ Nx (upd G4 D (.lst (ws ++ [v]))) else Nx G3) := by
  refine ⟨fun i m G => m = ys.length - i ∧ i ≤ ys.length ∧ Pv i G, ⟨ys.length, by simp, Nat.zero_le _, base⟩, fun i m G hw => ?_⟩
  obtain ⟨rfl, hi, p⟩ := hw
  obtain ⟨q1, q2, q3⟩ := stays i G hi p
  by_cases lt : i < ys.length
  · refine .inr ⟨⟨xs, ys, us, xs[i], ys[i], us[i], q1, q2, q3, List.getElem?_eq_getElem (by omega), List.getElem?_eq_getElem lt, List.getElem?_eq_getElem (by omega)⟩, Pv (i + 1), fun G' p' => ⟨ys.length - (i + 1), by omega, rfl, lt, p'⟩, fun v G' yl => ?_⟩
    obtain ⟨T, x, y, u, rfl, nT, rfl, e1, e2, e3⟩ := yl
    exact step i x y u T G (e1 xs q1) (e2 ys q2) (e3 us q3) p nT
  · have e : i = ys.length := by omega
    subst e
    exact .inl ⟨⟨xs, ys, us, q1, q2, q3, l1, rfl, l2⟩, last G p⟩
end KX

set_option maxRecDepth 100000
set_option maxHeartbeats 4000000
/-! Ex34: what is told is locked: for k, v in f(..).items() -/
namespace KX
open PySem PySem.Spec PyProof.Rows L2
def tFrz (t : TE) : TE := fun σ H Q => t σ H fun x H1 => ∃ d u, x = .ref d ∧ H1 d = some u ∧ Mut (some u) ∧ ∀ od, Q x (upd H1 d (.frz od u))
theorem pe_frz {X : Cx} {e : PySem.Expr} {t : TE} (h : PE X e t) : PE X e (tFrz t) := ⟨fun pins s σ H Q I z => thn (h.run pins s σ H _ I z) fun u s' q => by
  obtain ⟨v, H', I', r, d, w, rfl, e1, m, k⟩ := q
  obtain ⟨od, I2⟩ := I'.lock e1 m
  exact ⟨_, _, I2, r, k od⟩⟩
end KX

set_option maxRecDepth 100000
set_option maxHeartbeats 4000000
namespace KX
open PySem PySem.Spec PyProof.Rows L2 PySem.W
/-! ### d.setdefault(t, x), the keys tuples -/
section
variable {X : Cx} {pins : List (Addr × Obj)} {σ : L2.St} {H : Hp} {s : Shared} {a b : Addr} {r : Value} {d : V} {k : List L2.Key} {A : Around} {E : Value → Shared → Prop}
theorem d_setdT {kvs : List (List L2.Key × V)} {Q : Value → Shared → Prop} (hu : A.units + 1 < cLine) (I : Inv X pins σ H s) (e : H a = some (.dT kvs)) (eb : H b = some (.tup (k.map kV))) (rd : RelV d r) (hl : kvs.length < sizeLine)
    (h1 : ∀ v, valV kvs k = some v → ∀ (w' : Value) (s' : Shared), Inv X pins σ H s' → RelV v w' → Q w' s') (h2 : valV kvs k = none → ∀ (w' : Value) (s' : Shared), Inv X pins σ (L2.upd H a (.dT (putK kvs k d))) s' → RelV d w' → Q w' s') :
    wpAny (model X.prog X.w) A (call (.builtin "dict.setdefault") [.ref a, .ref b, r]) Q E s := by
  obtain ⟨z, hd, xs, rel, dd⟩ := dt_of I.hok e
  have hz : xs.length ≤ sizeLine := by rw [← Paired.length rel]; exact z
  have q := rel.val k
  refine call_setdefault_heap (hsz := hz) (tupleKind_room_in1 hu) (key_of I.hok eb) hd dd (fun p hp => ?_) fun hn h' dd' hs => ?_
  · rw [hp] at q
    cases q0 : valV kvs k with
    | none =>
      rw [q0] at q
      exact (show False from q).elim
    | some v0 =>
      rw [q0] at q
      exact h1 v0 q0 _ _ (I.tok _) q
  · rw [hn] at q
    cases q0 : valV kvs k with
    | some v0 =>
      rw [q0] at q
      exact (show False from q).elim
    | none =>
      have hl2 : (putK kvs k d).length ≤ sizeLine := by
        have := length_putK kvs k d
        omega
      obtain ⟨u, es, ep, hq, g2, g3, g4, _, g5⟩ := dd'
      refine h2 q0 _ _ (d_write I (by rw [e]; exact True.intro) hs ⟨u, hq⟩ ⟨hl2, hd, _, (rel.put k eb rd).keeps fun c ys ec => ?_, u, es, ep, hq, g2, g3, g4, g5⟩) rd
      rw [upd_ne (ne_of ec e (fun z => nomatch z))]
      exact ec
end
def tDSetdT (td ty tx : TE) : TE := fun σ H Q => td σ H fun x H1 => ∃ a, x = .ref a ∧ IsD H1 a ∧ ty σ H1 fun y H2 => tx σ H2 fun z H3 => ∃ (kvs : List (List L2.Key × V)) (k : List L2.Key) (b : Addr), H3 a = some (.dT kvs) ∧ y = .ref b ∧ H3 b = some (.tup (k.map kV)) ∧ kvs.length < sizeLine ∧
  (∀ v, valV kvs k = some v → Q v H3) ∧ (valV kvs k = none → Q z (L2.upd H3 a (.dT (putK kvs k z))))
section
variable {X : Cx} {o e f : Expr} {td ty tx : TE} {apos cpos : Pos}
theorem pe_dsetdT (hu : X.A.units + 1 < cLine) (ho : PE X o td) (he : PE X e ty) (hf : PE X f tx) (m : M2 X o "setdefault" apos e f cpos) : PE X (.Call (.Attribute o "setdefault" apos) [e, f] [] cpos) (tDSetdT td ty tx) := by
  refine ⟨fun pins s σ H Q I h => ?_⟩
  refine wpAny_Call_method m.base m.few m.line PySem.F.plainAttrs_dict PySem.F.slot_dict_setdefault PySem.F.type_dict_setdefault (thn (ho.run pins s σ H _ I h) fun u s1 ⟨x, H1, I1, rx, a, ex, d, q1⟩ => ?_)
  subst ex
  obtain rfl : u = Value.ref a := rx
  obtain ⟨t1, t2, _⟩ := isD_at I1 d
  refine ⟨t1, t2, ?_⟩
  rw [m.trees]
  refine Calls.callWith_builtin rfl (Calls.evalArgs_plain (Calls.spliced_cons (thn (he.run pins s1 σ H1 _ I1 q1) fun iv s2 ⟨y, H2, I2, ry, q2⟩ =>
    Calls.spliced_cons (thn (hf.run pins s2 σ H2 _ I2 q2) fun fv s3 ⟨z, H3, I3, rz, kvs, k, b, ea, ey, eb, hl, q3, q4⟩ => Calls.spliced_nil ?_))))
  subst ey
  cases ry
  exact d_setdT hu I3 ea eb rz hl (fun v hv w' s4 I4 rw' => ⟨v, _, I4, rw', q3 v hv⟩) fun hn w' s4 I4 rw' => ⟨z, _, I4, rw', q4 hn⟩
end
/-! ### sorted(d), the keys pairs of numbers -/
def encP (p : Int × Int) : PyData := .tuple [.int p.1, .int p.2]
def keyP (p : Int × Int) : List L2.Key := [.inl p.1, .inl p.2]
def PtAt (H : Hp) (v : V) (p : Int × Int) : Prop := ∃ t, v = .ref t ∧ H t = some (.tup [.int p.1, .int p.2])
theorem PtAt.dx {H : Hp} {v : V} {p : Int × Int} (h : PtAt H v p) : Dx H v (encP p) := by
  obtain ⟨t, rfl, e⟩ := h
  exact .tup e (.cons (.int _) (.cons (.int _) .nil))
theorem PtAt.up {H G : Hp} {v : V} {p : Int × Int} (h : PtAt H v p) (s : Same H G) : PtAt G v p := by
  obtain ⟨t, rfl, e⟩ := h
  exact ⟨t, rfl, s _ _ e⟩
theorem key_p {p : Int × Int} : (keyP p).map kV = [V.int p.1, V.int p.2] := rfl
theorem pts_of {H : Hp} : ∀ {kvs : List (List L2.Key × V)} {ks : List (List L2.Key × Addr × Value)} {pts : List (Int × Int)}, KT H kvs ks → kvs.map (·.1) = pts.map keyP →
    ∃ bs : List (V × (Int × Int)), bs.map (·.2) = pts ∧ bs.map (·.1) = ks.map (fun x => V.ref x.2.1) ∧ ∀ b ∈ bs, PtAt H b.1 b.2
  | [], [], [], .nil, _ => ⟨[], rfl, rfl, fun b h => nomatch h⟩
  | [], _, _ :: _, _, e => by simp at e
  | _ :: _, _, [], _, e => by simp at e
  | kv :: kvs, k :: ks, p :: pts, .cons h t, e => by
    rw [List.map_cons, List.map_cons, List.cons.injEq] at e
    obtain ⟨bs, e1, e2, e3⟩ := pts_of t e.2
    refine ⟨(.ref k.2.1, p) :: bs, by rw [List.map_cons, e1], by rw [List.map_cons, List.map_cons, e2], fun b hb => ?_⟩
    rcases List.mem_cons.mp hb with rfl | hb
    · refine ⟨k.2.1, rfl, ?_⟩
      have := h.2.1
      rw [e.1, key_p] at this
      exact this
    · exact e3 b hb
theorem alike_pts (ps : List (Int × Int)) : AllAlike (ps.map encP) := AllAlike.of fun a b => by simp [encP, alike, alikeAll]
theorem sortable_pts (ps : List (Int × Int)) : Sortable (ps.map encP) := Sortable.tuples fun b => ⟨_, _, rfl⟩
def rSortP : List V → Hp → VK → Prop := fun vs H Q => ∃ (a : Addr) (kvs : List (List L2.Key × V)) (pts : List (Int × Int)), vs = [.ref a] ∧ Rd H a (.dT kvs) ∧ kvs.map (·.1) = pts.map keyP ∧
  ∀ p (bs : List (V × (Int × Int))), H p = none → bs.map (·.2) = pts → (∀ b ∈ bs, PtAt H b.1 b.2) → Q (.ref p) (L2.upd H p (.lst ((bs.mergeSort (dataLe false fun b => encP b.2)).map (·.1))))
theorem cr_sortP {X : Cx} {k : Nat} (hcalm : X.calm = true) (hr : Room k X.A) : CallR X (.builtin "sorted") rSortP := by
  intro pins s σ H vs us Q I r h
  obtain ⟨a, kvs, pts, e, hS, hks, q⟩ := h
  subst e
  obtain ⟨u, rfl, ru⟩ := vals1 r
  cases ru
  obtain ⟨z, lo, ks, pr, o, es, ep, ho, hx, hdt, he, hn⟩ := (show ObjOk X.prog X.w H s.heap a (.dT kvs) from hS.ok I.hok)
  have l1 : es.size = ks.length := size_of_entries he
  have l2 : kvs.length = ks.length := Paired.length pr
  obtain ⟨bs, eb1, eb2, eb3⟩ := pts_of pr hks
  have hun := hr.un
  refine call_function_entry_kw kind_sorted plain_sorted entry_sorted (args_sorted1 _) ?_
  unfold Builtin.«sorted»
  refine wpAny_bind (m := checkCount "sorted" 1 1 _) (wpAny_pure ?_)
  refine wpAny_bind (kdu_collect (A := X.A.in1) (kdl_raw lo hx hdt) (I.ok.hd hcalm) ho (by omega) fun h1 tk acc kp it => ?_)
  have ea : acc.toList = ks.map fun x => Value.ref x.2.1 := by
    have hl : acc.toList.length = ks.length := by rw [Array.length_toList, it.1]; exact l1
    apply List.ext_getElem?
    intro j
    rw [List.getElem?_map]
    cases hj : acc.toList[j]? with
    | none =>
      have h1 := List.getElem?_eq_none_iff.mp hj
      rw [List.getElem?_eq_none (by omega)]
      all_goals rfl
    | some v =>
      obtain ⟨en, hen, hv⟩ := it.2 j v (by rw [← Array.getElem?_toList]; exact hj)
      have qe := entry_at he j
      rw [hen] at qe
      cases hb : ks[j]? with
      | none =>
        rw [hb] at qe
        exact nomatch (show some en = none from qe)
      | some b =>
        rw [hb] at qe
        have e2 : en = entryOfKey (tupleKind (mixKind X.prog X.w)) b := Option.some.inj qe
        rw [hv, e2]
        all_goals rfl
  have lb : bs.length = ks.length := by
    have := congrArg List.length eb2
    rwa [List.length_map, List.length_map] at this
  have lpl : acc.toList.length = bs.length := by rw [ea, List.length_map, lb]
  have hlen : acc.toList.length ≤ sizeLine := by omega
  have J : Inv X pins σ H { s with heap := h1, toks := tk } := I.kept kp
  have at_ : ∀ (i : Nat) (u : Value) (b : V × (Int × Int)), acc.toList[i]? = some u → bs[i]? = some b → RelV b.1 u := fun i u b e f => by
    have g1 : (bs.map (·.1))[i]? = some b.1 := by rw [List.getElem?_map, f]; rfl
    rw [eb2, List.getElem?_map] at g1
    rw [ea, List.getElem?_map] at e
    cases hk : ks[i]? with
    | none => rw [hk] at e; cases e
    | some x =>
      rw [hk] at e g1
      have e1 : Value.ref x.2.1 = u := Option.some.inj e
      have e2 : V.ref x.2.1 = b.1 := Option.some.inj g1
      rw [← e1, ← e2]
      exact rfl
  have er : EachIs (fun v (b : V × (Int × Int)) => ∃ as, Reads h1 v (encP b.2) as) acc.toList bs := each_pairs lpl fun i u b e f =>
    Dp.reads J (encP b.2) b.1 u (dp_dx _ _ (by simp [encP, PyData.plain, PyData.plainAll]) (eb3 b (List.mem_of_getElem? f)).dx) (at_ i u b e f)
  have eR : EachIs (fun v (b : V × (Int × Int)) => RelV b.1 v) acc.toList bs := each_pairs lpl at_
  refine wpAny_bind (wpAny_newList ?_ hlen)
  have at1 : (h1.push (seqObj "list" acc.toList.toArray 0)).get? h1.objs.size = some (seqObj "list" acc.toList.toArray 0) := Heap.get?_push_size _ rfl
  have hal : AllAlike (bs.map fun b => encP b.2) := by
    rw [show (bs.map fun b => encP b.2) = (bs.map (·.2)).map encP by rw [List.map_map]; rfl]
    exact alike_pts _
  have hk : Sortable (bs.map fun b => encP b.2) := by
    rw [show (bs.map fun b => encP b.2) = (bs.map (·.2)).map encP by rw [List.map_map]; rfl]
    exact sortable_pts _
  have hdep : ∀ b, b ∈ bs → (encP b.2).depth ≤ 50 := fun b _ => by simp [encP, PyData.depth, PyData.depthAll]
  refine wpAny_bind (wpAny_holding (wpAny_call_entry_kw slot_list_sort ⟨_, at1, rfl⟩ entry_list_sort ?body (args_list_sort _)))
  case body =>
    show wpAny (model X.prog X.w) X.A.in1.in1 (Builtin.«list.sort» ⟨[.ref h1.objs.size], []⟩) _ _ { s with heap := h1.push (seqObj "list" acc.toList.toArray 0), toks := tk }
    have er' : EachIs (fun v (b : V × (Int × Int)) => ∃ as, Reads (sortingHeap (h1.push (seqObj "list" acc.toList.toArray 0)) h1.objs.size acc.toList) v (encP b.2) as) acc.toList bs :=
      each_later (fun b o q => sortingHeap_old (Nat.ne_of_lt (Heap.lt_size q)) (Heap.get?_push_of_some _ q)) er
    refine list_sort_vals (s := { s with heap := h1.push (seqObj "list" acc.toList.toArray 0), toks := tk }) at1 (SortsAt.data (s := { s with heap := sortingHeap (h1.push (seqObj "list" acc.toList.toArray 0)) h1.objs.size acc.toList, toks := tk })
      (each_map (R := fun v d => ∃ as, Reads (sortingHeap (h1.push (seqObj "list" acc.toList.toArray 0)) h1.objs.size acc.toList) v d as) (fun b : V × (Int × Int) => encP b.2) er') hal hk (bound_map fun b hb => by have := hdep b hb; show X.A.units + 2 + (encP b.2).depth < cLine; omega)) hlen ?_
    have rel : ∀ {ws : List Value} {ps : List (V × (Int × Int))}, EachIs (fun v (b : V × (Int × Int)) => RelV b.1 v) ws ps → Vals (ps.map (·.1)) ws := by
      intro ws ps e
      induction e with
      | nil => exact .nil
      | cons h t ih => exact .cons h ih
    have fin : ∀ out : List Value, out.length = bs.length → EachIs (fun v (b : V × (Int × Int)) => RelV b.1 v) out (bs.mergeSort (dataLe false fun b => encP b.2)) →
        EP X pins σ Q (.ref h1.objs.size) { s with heap := sortedHeap (h1.push (seqObj "list" acc.toList.toArray 0)) h1.objs.size acc.toList (List.toArray out), toks := tk } := fun out hl2 he2 => by
      obtain ⟨ep2, hep⟩ := sortedHeap_at (vs := acc.toList) (out := out.toArray) at1
      have old : ∀ b o, h1.get? b = some o → (sortedHeap (h1.push (seqObj "list" acc.toList.toArray 0)) h1.objs.size acc.toList out.toArray).get? b = some o := fun b o q => by
        have lt := Heap.lt_size q
        rw [sortedHeap_old (Nat.ne_of_lt lt) (by rw [size_push']; exact Nat.lt_succ_of_lt lt)]
        exact Heap.get?_push_of_some _ q
      refine ⟨.ref h1.objs.size, _, J.laid (t' := tk) old (Nat.le_refl _) (o := .lst ((bs.mergeSort (dataLe false fun b => encP b.2)).map (·.1))) ⟨?_, out, ep2, rel he2, hep⟩, rfl, q _ bs (J.hok.fresh (Nat.le_refl _)) eb1 eb3⟩
      rw [List.length_map, List.length_mergeSort]
      omega
    exact ⟨.none, rfl, wpAny_pure ⟨_, rfl, fin _ (by rw [sortVals_length false rfl]; exact lpl) (sortVals_data false eR er' hal)⟩⟩
end KX

set_option maxRecDepth 100000
set_option maxHeartbeats 4000000
namespace KX
open PySem PySem.Spec PyProof.Rows L2 PySem.W
section
variable {X : Cx}
/-- x in l, x not in l: l a list of data, x data, no dicts -/
def rInLD (K : PySem.W.Frag) (f : Bool → Bool) : R2 := fun x y H Q => ∃ d ds, Dp K H x d ∧ Dp K H y (.list ds) ∧ d.plain = true ∧ PyData.plainAll ds = true ∧ PyData.depthAll ds ≤ 60 ∧ Q (.bl (f (ds.any fun z => PyData.eqv z d))) H
theorem op_ninLD (hu : X.A.units + 64 < cLine) : OpR X (compareOp .NotIn) (rInLD X.K not) := by
  intro pins s σ H x y v u Q I rx ry h
  obtain ⟨d, ds, hd, he, pd, pe, hm, q⟩ := h
  obtain ⟨as, r1⟩ := Dp.reads I d x v hd rx
  obtain ⟨bs, r2⟩ := Dp.reads I (.list ds) y u he ry
  exact SeqAt.notIn_list_data r2 r1 pe pd (by omega) ⟨.bl _, H, I, rfl, q⟩
/-- min(l), l a list of alike data: one of its items -/
def rMinD {β : Type} (K : PySem.W.Frag) (enc : β → PyData) : List V → Hp → VK → Prop := fun vs H Q => ∃ (a : Addr) (bs : List (V × β)), vs = [.ref a] ∧ SqL K H a (bs.map (·.1)) ∧ bs ≠ [] ∧ (∀ b ∈ bs, Dp K H b.1 (enc b.2)) ∧ (∀ b ∈ bs, (enc b.2).depth ≤ 50) ∧
  (∀ x ∈ bs, ∀ y ∈ bs, alike (enc x.2) (enc y.2) = true) ∧ (∀ x ∈ bs, enc x.2 ≠ .none) ∧ ∀ b ∈ bs, Q b.1 H
theorem call_minD {β : Type} {enc : β → PyData} {k : Nat} (hcalm : X.calm = true) (hr : Room k X.A) : CallR X (.builtin "min") (rMinD X.K enc) := by
  intro pins s σ H vs us Q I r h
  obtain ⟨a, bs, e, hS, hne, hd, hdp, hal, hnn, q⟩ := h
  subst e
  obtain ⟨u, rfl, ru⟩ := vals1 r
  cases ru
  obtain ⟨its, rv, pl, hz⟩ := I.list hS
  have hlen := rv.length
  rw [List.length_map] at hlen hz
  have hun := hr.un
  have er : EachIs (fun v (b : V × β) => ∃ as, Reads s.heap v (enc b.2) as) its bs := each_pairs (by omega) fun i u b e f => by
    obtain ⟨u', e', ru⟩ := rv.get (i := i) (x := b.1) (by rw [List.getElem?_map, f]; rfl)
    rw [e] at e'
    cases e'
    exact Dp.reads I (enc b.2) b.1 u (hd b (List.mem_of_getElem? f)) ru
  obtain ⟨as, ra⟩ := each_readsAll (fun b : V × β => enc b.2) er
  have fin : ∀ (i : Nat) (v : Value) (h' : PySem.Heap) (tk : Tok), its.toArray[i]? = some v → (∀ b o, s.heap.get? b = some o → h'.get? b = some o) → EP X pins σ Q v { s with heap := h', toks := tk } := fun i v h' tk hv kp => by
    have hv : its[i]? = some v := by simpa using hv
    have hi : i < bs.length := by
      have := (List.getElem?_eq_some_iff.mp hv).1
      omega
    obtain ⟨u', e', ru⟩ := rv.get (i := i) (x := bs[i].1) (by rw [List.getElem?_map, List.getElem?_eq_getElem hi]; rfl)
    rw [hv] at e'
    cases e'
    exact ⟨bs[i].1, H, I.kept kp, ru, q _ (List.getElem_mem hi)⟩
  cases bs with
  | nil => exact absurd rfl hne
  | cons b0 bs =>
    have hdl : PyData.depthAll (enc b0.2 :: bs.map fun b => enc b.2) ≤ 50 := by
      have gen : ∀ es : List PyData, (∀ e ∈ es, e.depth ≤ 50) → PyData.depthAll es ≤ 50 := by
        intro es
        induction es with
        | nil => intro _; simp [PyData.depthAll]
        | cons e es ih =>
          intro h
          have h1 := h e (by simp)
          have h2 := ih fun x hx => h x (by simp [hx])
          simp only [PyData.depthAll]
          omega
      refine gen _ fun e he => ?_
      rcases List.mem_cons.mp he with rfl | he
      · exact hdp b0 (by simp)
      · obtain ⟨b, hb, rfl⟩ := List.mem_map.mp he
        exact hdp b (by simp [hb])
    have mem : ∀ e ∈ enc b0.2 :: bs.map (fun b => enc b.2), ∃ b ∈ b0 :: bs, e = enc b.2 := fun e he => by
      rcases List.mem_cons.mp he with rfl | he
      · exact ⟨b0, by simp, rfl⟩
      · obtain ⟨b, hb, rfl⟩ := List.mem_map.mp he
        exact ⟨b, by simp [hb], rfl⟩
    refine min_list_data (I.ok.hd hcalm) pl.isList (vs := its.toArray) (x := enc b0.2) (xs := bs.map fun b => enc b.2) (as := as) (by simpa using ra) ⟨fun x hx y hy => ?_, fun x hx => ?_⟩ (by omega) fun i v h' tk bs' hv _ kp => fin i v h' tk hv kp
    · obtain ⟨b, hb, rfl⟩ := mem x hx
      obtain ⟨c, hc, rfl⟩ := mem y hy
      exact hal b hb c hc
    · obtain ⟨b, hb, rfl⟩ := mem x hx
      exact hnn b hb
end
end KX

set_option maxRecDepth 100000
set_option maxHeartbeats 4000000
namespace KX
open PySem PySem.Spec PyProof.Rows L2 PySem.W
section
variable {X : Cx}
/-- min(l), l a list of alike data: the least item -/
def rMinX {β : Type} (K : PySem.W.Frag) (enc : β → PyData) : List V → Hp → VK → Prop := fun vs H Q => ∃ (a : Addr) (bs : List (V × β)), vs = [.ref a] ∧ SqL K H a (bs.map (·.1)) ∧ bs ≠ [] ∧ (∀ b ∈ bs, Dp K H b.1 (enc b.2)) ∧ (∀ b ∈ bs, (enc b.2).depth ≤ 50) ∧
  (∀ x ∈ bs, ∀ y ∈ bs, alike (enc x.2) (enc y.2) = true) ∧ (∀ x ∈ bs, enc x.2 ≠ .none) ∧ ∀ b ∈ bs, (∃ b0 rest, bs = b0 :: rest ∧ enc b.2 = minD (enc b0.2) (rest.map fun b => enc b.2)) → Q b.1 H
theorem call_minX {β : Type} {enc : β → PyData} {k : Nat} (hcalm : X.calm = true) (hr : Room k X.A) : CallR X (.builtin "min") (rMinX X.K enc) := by
  intro pins s σ H vs us Q I r h
  obtain ⟨a, bs, e, hS, hne, hd, hdp, hal, hnn, q⟩ := h
  subst e
  obtain ⟨u, rfl, ru⟩ := vals1 r
  cases ru
  obtain ⟨its, rv, pl, hz⟩ := I.list hS
  have hlen := rv.length
  rw [List.length_map] at hlen hz
  have hun := hr.un
  have er : EachIs (fun v (b : V × β) => ∃ as, Reads s.heap v (enc b.2) as) its bs := each_pairs (by omega) fun i u b e f => by
    obtain ⟨u', e', ru⟩ := rv.get (i := i) (x := b.1) (by rw [List.getElem?_map, f]; rfl)
    rw [e] at e'
    cases e'
    exact Dp.reads I (enc b.2) b.1 u (hd b (List.mem_of_getElem? f)) ru
  obtain ⟨as, ra⟩ := each_readsAll (fun b : V × β => enc b.2) er
  have fin : ∀ (i : Nat) (v : Value) (h' : PySem.Heap) (tk : Tok) (m : PyData) (cs : List Addr), (∃ b0 rest, bs = b0 :: rest ∧ m = minD (enc b0.2) (rest.map fun b => enc b.2)) → Reads h' v m cs → its.toArray[i]? = some v → (∀ b o, s.heap.get? b = some o → h'.get? b = some o) → EP X pins σ Q v { s with heap := h', toks := tk } := fun i v h' tk m cs hm hrd hv kp => by
    have hv : its[i]? = some v := by simpa using hv
    have hi : i < bs.length := by
      have := (List.getElem?_eq_some_iff.mp hv).1
      omega
    obtain ⟨u', e', ru⟩ := rv.get (i := i) (x := bs[i].1) (by rw [List.getElem?_map, List.getElem?_eq_getElem hi]; rfl)
    rw [hv] at e'
    cases e'
    obtain ⟨as2, r2⟩ := Dp.reads (I.kept (t' := tk) kp) (enc bs[i].2) bs[i].1 v (hd _ (List.getElem_mem hi)) ru
    have eu := (Reads.unique r2 _ _ hrd).1
    obtain ⟨b0, rest, e1, e2⟩ := hm
    exact ⟨bs[i].1, H, I.kept kp, ru, q _ (List.getElem_mem hi) ⟨b0, rest, e1, eu.trans e2⟩⟩
  cases bs with
  | nil => exact absurd rfl hne
  | cons b0 bs =>
    have hdl : PyData.depthAll (enc b0.2 :: bs.map fun b => enc b.2) ≤ 50 := by
      have gen : ∀ es : List PyData, (∀ e ∈ es, e.depth ≤ 50) → PyData.depthAll es ≤ 50 := by
        intro es
        induction es with
        | nil => intro _; simp [PyData.depthAll]
        | cons e es ih =>
          intro h
          have h1 := h e (by simp)
          have h2 := ih fun x hx => h x (by simp [hx])
          simp only [PyData.depthAll]
          omega
      refine gen _ fun e he => ?_
      rcases List.mem_cons.mp he with rfl | he
      · exact hdp b0 (by simp)
      · obtain ⟨b, hb, rfl⟩ := List.mem_map.mp he
        exact hdp b (by simp [hb])
    have mem : ∀ e ∈ enc b0.2 :: bs.map (fun b => enc b.2), ∃ b ∈ b0 :: bs, e = enc b.2 := fun e he => by
      rcases List.mem_cons.mp he with rfl | he
      · exact ⟨b0, by simp, rfl⟩
      · obtain ⟨b, hb, rfl⟩ := List.mem_map.mp he
        exact ⟨b, by simp [hb], rfl⟩
    refine min_list_data (I.ok.hd hcalm) pl.isList (vs := its.toArray) (x := enc b0.2) (xs := bs.map fun b => enc b.2) (as := as) (by simpa using ra) ⟨fun x hx y hy => ?_, fun x hx => ?_⟩ (by omega) fun i v h' tk bs' hv rd kp => fin i v h' tk _ bs' ⟨b0, bs, rfl, rfl⟩ rd hv kp
    · obtain ⟨b, hb, rfl⟩ := mem x hx
      obtain ⟨c, hc, rfl⟩ := mem y hy
      exact hal b hb c hc
    · obtain ⟨b, hb, rfl⟩ := mem x hx
      exact hnn b hb
end
end KX

set_option maxRecDepth 100000
set_option maxHeartbeats 4000000
namespace KX
open PySem PySem.Spec PyProof.Rows L2
/-- a walk over zip of a tuple and a list -/
theorem walk_zipN {K : PySem.W.Frag} {p q : Addr} {us vs : List V} {n : Nat} (e : us.length = n) (e2 : vs.length = n) : Walk (ItN K p q) n (fun G => SqT K G p us ∧ SqL K G q vs) (YPair (fun m => us[m]?) (fun m => vs[m]?)) :=
  ⟨fun m G lt k => ⟨us, vs, us[m]'(by omega), vs[m]'(by omega), k.1, k.2, List.getElem?_eq_getElem _, List.getElem?_eq_getElem _⟩, fun G k => ⟨us, vs, k.1, k.2, e, e2⟩, fun m G r G2 _ k w => by
    obtain ⟨c, u, v, w1, w2, w3, w4, w5⟩ := w
    exact ⟨c, u, v, w1, w2, w3, w4 us k.1, w5 vs k.2⟩⟩
end KX

set_option maxRecDepth 100000
set_option maxHeartbeats 4000000
/-! Ex45: sets whose members are nested tuples -/
namespace KX
open PySem PySem.Spec PyProof.Rows L2
/-- the tuple at the address is the key -/
def IsN (hp : Heap) (q : NestedKey) (c : Addr) : Prop := NestedIs hp q (.ref c) ∧ q.depth ≤ 8
theorem isN_tup {hp : Heap} {q : NestedKey} {c : Addr} (x : IsN hp q c) : ∃ o us n qs, q = .tup qs ∧ hp.get? c = some o ∧ o.cls = .type "tuple" ∧ o.data = .seq us n ∧ NestedAll hp qs us.toList := by
  obtain ⟨x, _⟩ := x
  cases x with
  | tup e1 e2 e3 e4 => exact ⟨_, _, _, _, rfl, e1, e2, e3, e4⟩
theorem isN_keep {h1 h2 : Heap} {q : NestedKey} {c : Addr} (x : IsN h1 q c) (k : ∀ b o, h1.get? b = some o → h2.get? b = some o) : IsN h2 q c :=
  ⟨NestedIs.at (fun b o us n e _ => k b o e) q _ x.1, x.2⟩
theorem isN_but {h1 h2 : Heap} {q : NestedKey} {c D : Addr} {o : Obj} {es : Array (Int × Value)} {ep : Nat} {t : SetTable} (x : IsN h1 q c) (e : h1.get? D = some o) (d : o.data = .set es ep t) (k : Heap.SameBut D h1 h2) : IsN h2 q c :=
  ⟨NestedIs.at (fun b ob us n eb db => (k.2 b fun z => by
    subst z
    rw [e] at eb
    cases eb
    rw [d] at db
    cases db).trans eb) q _ x.1, x.2⟩
section
variable {P : Program} {w : World}
mutual
/-- no member is of a class statement -/
theorem cls_key : ∀ (q : NestedKey) (u : Value) (n : Nat) (A : Around) (E : Value → Shared → Prop) (s : Shared) (Q : Bool → Shared → Prop), NestedIs s.heap q u → q.depth ≤ n → Q false s → wpAny (model P w) A (ofAClassStatement n u) Q E s
  | .none, _, n, _, _, _, _, x, _, k => by cases x; cases n <;> exact wpAny_pure k
  | .num _, _, n, _, _, _, _, x, _, k => by cases x <;> cases n <;> exact wpAny_pure k
  | .text _, _, n, _, _, _, _, x, _, k => by cases x; cases n <;> exact wpAny_pure k
  | .tup qs, _, n, A, E, s, Q, x, dn, k => by
    cases x with
    | @tup c o us m _ e1 e2 e3 e4 =>
      simp only [NestedKey.depth] at dn
      obtain ⟨n, rfl⟩ : ∃ m, n = m + 1 := ⟨n - 1, by omega⟩
      have hT : s.TypeIs (.ref c) "tuple" := ⟨o, e1, e2⟩
      unfold ofAClassStatement
      refine wpAny_bind (wpAny_typeOf hT ?_)
      dsimp only
      have e : (("tuple" : String) == "tuple") = true := by decide
      simp only [e, if_true, Bool.not_true, Bool.false_eq_true, if_false]
      try refine wpAny_bind (wpAny_pure ?_)
      try simp only [Bool.not_true, Bool.false_eq_true, if_false]
      show wpAny _ _ (seqItems? (.ref c) >>= _) _ _ s
      refine wpAny_bind (wpAny_seqItems e1 e3 ?_)
      dsimp only
      refine wpAny_bind ?_
      show wpAny _ _ (forIn us _ _) _ _ s
      rw [← Array.forIn_toList]
      refine wpAny_forIn_list _ (fun rest r s2 => r.1 = none ∧ s2 = s ∧ ∃ rs, NestedAll s.heap rs rest ∧ NestedKey.depthAll rs ≤ n ∧ rs.length ≤ qs.length ∧ ∀ u ∈ rest, ∀ (B : Around) (F : Value → Shared → Prop) (R : Bool → Shared → Prop), R false s → wpAny (model P w) B (ofAClassStatement n u) R F s) _ ?_ ?_ _ _
        ⟨rfl, rfl, qs, e4, by omega, Nat.le_refl _, cls_keys qs us.toList n s e4 (by omega)⟩
      · rintro u rest r s2 ⟨hr, rfl, rs, h1, h2, h3, all⟩
        refine wpAny_bind (all u List.mem_cons_self _ _ _ ?_)
        simp only [Bool.false_eq_true, if_false]
        cases h1 with
        | @cons a _ as _ h1a h1b =>
          refine wpAny_pure ⟨rfl, rfl, as, h1b, ?_, ?_, fun v hv => all v (List.mem_cons_of_mem _ hv)⟩
          · simp only [NestedKey.depthAll] at h2; omega
          · rw [List.length_cons] at h3; omega
      · rintro ⟨r1, r2⟩ s2 ⟨hr, rfl, _⟩
        simp only at hr
        subst hr
        exact wpAny_pure k
theorem cls_keys : ∀ (qs : List NestedKey) (us : List Value) (n : Nat) (s : Shared), NestedAll s.heap qs us → NestedKey.depthAll qs ≤ n → ∀ u ∈ us, ∀ (B : Around) (F : Value → Shared → Prop) (R : Bool → Shared → Prop), R false s → wpAny (model P w) B (ofAClassStatement n u) R F s
  | [], _, _, _, x, _, u, hu, _, _, _, _ => by cases x; cases hu
  | q :: qs, _, n, s, x, dn, u, hu, B, F, R, k => by
    cases x with
    | cons x1 x2 =>
      simp only [NestedKey.depthAll] at dn
      rcases List.mem_cons.mp hu with e | hu
      · rw [e]; exact cls_key q _ n B F s R x1 (by omega) k
      · exact cls_keys qs _ n s x2 (by omega) u hu B F R k
end
mutual
/-- whether a member is hashed by value alone: some answer -/
theorem byv_key : ∀ (q : NestedKey) (u : Value) (n : Nat) (A : Around) (E : Value → Shared → Prop) (s : Shared) (Q : Bool → Shared → Prop), NestedIs s.heap q u → (∀ b, Q b s) → wpAny (model P w) A (hashByValue n u) Q E s
  | .none, _, n, _, _, _, _, x, k => by cases x; cases n <;> exact wpAny_pure (k _)
  | .num _, _, n, _, _, _, _, x, k => by cases x <;> cases n <;> exact wpAny_pure (k _)
  | .text _, _, n, _, _, _, _, x, k => by cases x; cases n <;> exact wpAny_pure (k _)
  | .tup qs, _, 0, A, E, s, Q, x, k => by cases x; exact wpAny_pure (k _)
  | .tup qs, _, n + 1, A, E, s, Q, x, k => by
    cases x with
    | @tup c o us m _ e1 e2 e3 e4 =>
      have hT : s.TypeIs (.ref c) "tuple" := ⟨o, e1, e2⟩
      unfold hashByValue
      refine wpAny_bind (wpAny_specialOf hT F.slot_tuple_hash.lookup ?_)
      show wpAny _ _ (seqItems? (.ref c) >>= _) _ _ s
      refine wpAny_bind (wpAny_seqItems e1 e3 ?_)
      refine wpAny_bind ?_
      show wpAny _ _ (forIn us _ _) _ _ s
      rw [← Array.forIn_toList]
      refine wpAny_forIn_list _ (fun rest r s2 => s2 = s ∧ ∀ u ∈ rest, ∀ (B : Around) (F : Value → Shared → Prop) (R : Bool → Shared → Prop), (∀ b, R b s) → wpAny (model P w) B (hashByValue n u) R F s) _ ?_ ?_ _ _ ⟨rfl, byv_keys qs us.toList n s e4⟩
      · rintro u rest r s2 ⟨rfl, all⟩
        refine wpAny_bind (all u List.mem_cons_self _ _ _ fun b => ?_)
        cases b with
        | true =>
          simp only [Bool.not_true, Bool.false_eq_true, if_false]
          exact wpAny_pure ⟨rfl, fun v hv => all v (List.mem_cons_of_mem _ hv)⟩
        | false =>
          simp only [Bool.not_false, if_true]
          exact wpAny_pure (by
            refine wpAny_pure ?_
            exact k _)
      · rintro ⟨r1, r2⟩ s2 ⟨rfl, _⟩
        cases r1 with
        | none => exact wpAny_pure (k _)
        | some b => exact wpAny_pure (k _)
theorem byv_keys : ∀ (qs : List NestedKey) (us : List Value) (n : Nat) (s : Shared), NestedAll s.heap qs us → ∀ u ∈ us, ∀ (B : Around) (F : Value → Shared → Prop) (R : Bool → Shared → Prop), (∀ b, R b s) → wpAny (model P w) B (hashByValue n u) R F s
  | [], _, _, _, x, u, hu, _, _, _, _ => by cases x; cases hu
  | q :: qs, _, n, s, x, u, hu, B, F, R, k => by
    cases x with
    | cons x1 x2 =>
      rcases List.mem_cons.mp hu with e | hu
      · rw [e]; exact byv_key q _ n B F s R x1 k
      · exact byv_keys qs _ n s x2 u hu B F R k
end
end
end KX

set_option maxRecDepth 100000
set_option maxHeartbeats 4000000
/-! Ex46: a member is searched for, and added -/
namespace KX
open PySem PySem.Spec PyProof.Rows L2
section
variable {P : Program} {w : World} {A : Around} {E : Value → Shared → Prop} {s : Shared}
theorem seen_key {q : NestedKey} {c : Addr} {Qz : Bool → Shared → Prop} (hq : IsN s.heap q c) {us : List Value} (hu : ∀ u ∈ us, ∃ q2 d, u = Value.ref d ∧ IsN s.heap q2 d) (fin : Qz false s) :
    wpAny (model P w) A (searchCouldBeSeen (.ref c) us) Qz E s := by
  unfold searchCouldBeSeen
  refine wpAny_bind ?_
  refine wpAny_forIn_list _ (fun rest r s2 => r.1 = none ∧ s2 = s ∧ ∀ u ∈ rest, ∃ q2 d, u = Value.ref d ∧ IsN s.heap q2 d) _ ?_ ?_ _ _ ⟨rfl, rfl, hu⟩
  · rintro u rest r s2 ⟨hr, rfl, all⟩
    obtain ⟨q2, d, rfl, hd⟩ := all u List.mem_cons_self
    have tl : ∀ u ∈ rest, ∃ q2 d, u = Value.ref d ∧ IsN s2.heap q2 d := fun v hv => all v (List.mem_cons_of_mem _ hv)
    dsimp only
    by_cases same : (c == d || (carriedByValue (.ref c) && carriedByValue (.ref d))) = true
    · refine wp_if_pos same ?_
      exact wpAny_pure ⟨rfl, rfl, tl⟩
    · refine wp_if_neg same ?_
      refine wpAny_bind (quiet_key q _ 8 s2 hq.1 hq.2 _ _ _ ?_)
      simp only [Bool.not_true, Bool.false_eq_true, if_false]
      refine wpAny_bind (quiet_key q2 _ 8 s2 hd.1 hd.2 _ _ _ ?_)
      simp only [Bool.not_true, Bool.false_eq_true, if_false]
      refine wpAny_bind (cls_key q _ 8 _ _ s2 _ hq.1 hq.2 ?_)
      simp only [Bool.false_eq_true, if_false]
      refine wpAny_bind (cls_key q2 _ 8 _ _ s2 _ hd.1 hd.2 ?_)
      simp only [Bool.false_eq_true, if_false]
      exact wpAny_pure ⟨rfl, rfl, tl⟩
  · rintro ⟨r1, r2⟩ s2 ⟨hr, rfl, _⟩
    simp only at hr
    subst hr
    exact wpAny_pure fin
/-- the entries of the members: where each stands, and which key it is -/
def entN (w : World) (ms : List (Addr × NestedKey)) : List (Int × Value) := ms.map fun m => (m.2.hash w, Value.ref m.1)
def hshN (w : World) (ms : List (Addr × NestedKey)) : List Int := ms.map fun m => m.2.hash w
/-- a set of nested tuples at D -/
structure SetN (w : World) (hp : Heap) (D : Addr) (ms : List (Addr × NestedKey)) (es : Array (Int × Value)) (ep : Nat) (t : SetTable) : Prop where
  ob : ∃ o, hp.get? D = some o ∧ o.ExactSet ∧ o.data = .set es ep t
  ents : es.toList = entN w ms
  tab : TabOk t (hshN w ms)
  one : (ms.map (·.2)).Nodup
  key : ∀ m ∈ ms, IsN hp m.2 m.1
  led : w.params.followText "set-order" = true ∨ t.led = true
  room : ms.length * 5 < t.mask * 3
  few : ms.length < 64
variable {D : Addr} {ms : List (Addr × NestedKey)} {es : Array (Int × Value)} {ep : Nat} {t : SetTable}
theorem SetN.size (R : SetN w s.heap D ms es ep t) : es.size = ms.length := by
  have e := congrArg List.length R.ents
  unfold entN at e
  rwa [Array.length_toList, List.length_map] at e
theorem SetN.psz (R : SetN w s.heap D ms es ep t) : t.place.size = ms.length := by
  have e := R.tab.sz
  unfold hshN at e
  rwa [List.length_map] at e
theorem SetN.fits (R : SetN w s.heap D ms es ep t) : t.fits es.size = true := by
  have e1 := R.psz
  have e2 := R.size
  have e3 := R.room
  unfold SetTable.fits SetTable.fill
  rw [R.tab.dm, Bool.and_eq_true, beq_iff_eq, decide_eq_true_eq]
  refine ⟨by omega, ?_⟩
  show t.place.size + 0 ≤ t.mask
  omega
theorem SetN.ent (R : SetN w s.heap D ms es ep t) {i : Nat} {m : Addr × NestedKey} (e : ms[i]? = some m) : es[i]? = some (m.2.hash w, Value.ref m.1) := by
  rw [← Array.getElem?_toList, R.ents]
  unfold entN
  rw [List.getElem?_map, e] <;> rfl
theorem SetN.stay (R : SetN w s.heap D ms es ep t) : ¬ t.gaveWay = true := by
  unfold SetTable.gaveWay
  rw [mask_odd R.tab.mok]
  decide
abbrev strtN (t : SetTable) (h : Int) : SetTable.Probe := runAt t.mask (SetTable.bits h % (t.mask + 1)) (SetTable.bits h)
theorem nth_dummy (mk : Nat) : ∀ (n : Nat) (p : SetTable.Probe), p.dummy = none → (nth mk p n).dummy = none := by
  intro n
  induction n with
  | zero => exact fun _ h => h
  | succ n ih =>
    intro p h
    refine ih (adv mk p) ?_
    unfold adv
    split <;> exact h
/-- from the c-th step of its way on -/
theorem find_from (R : SetN w s.heap D ms es ep t) {x : Addr} {q : NestedKey} {hs : Int} (ehs : hs = q.hash w) (hx : IsN s.heap q x) (hu : A.units + 8 < cLine) {K : Nat} (kf : K < 10 * SetTable.turns t.mask)
    (free : way t.mask hs K ∉ t.place.toList) (full : ∀ c, c < K → way t.mask hs c ∈ t.place.toList) {Qz : SetFound → Shared → Prop}
    (there : q ∈ ms.map (·.2) → Qz (.there none) s) (gone : q ∉ ms.map (·.2) → Qz (.free (way t.mask hs K) false) s) :
    ∀ (f c : Nat) (st : Option SetTable.Probe), st.getD (t.probeStart hs) = nth t.mask (strtN t hs) c → c ≤ K → K - c < f →
      (∀ (i : Nat) (m : Addr × NestedKey), ms[i]? = some m → m.2 = q → ∃ c2, c ≤ c2 ∧ c2 < K ∧ t.place.toList[i]? = some (way t.mask hs c2)) →
      wpAny (model P w) A (setSearchFrom D (.ref x) hs true f st) Qz E s
  | 0, _, _, _, _, lt, _ => absurd lt (Nat.not_lt_zero _)
  | f + 1, c, st, est, le, lt, ahead => by
    obtain ⟨o, ho, hex, hd⟩ := R.ob
    rw [setSearchFrom_succ]
    refine wpAny_bind (wpAny_setState_of ho hd R.fits ?_)
    dsimp only
    refine wp_if_neg R.stay ?_
    try refine wpAny_bind (wpAny_pure ?_)
    have jn : ∀ n, (nth t.mask (nth t.mask (strtN t hs) c) n).j = way t.mask hs (c + n) := fun n => congrArg SetTable.Probe.j (nth_add t.mask c (strtN t hs) n).symm
    have hat : ∀ (i : Nat) (m : Addr × NestedKey), ms[i]? = some m → (es[i]?.map (·.1)).getD 0 = m.2.hash w := fun i m e => by
      rw [R.ent e] <;> rfl
    have gs := go_spec t R.tab.ris R.tab.dm (fun i => (es[i]?.map (·.1)).getD 0) hs (10 * SetTable.turns t.mask) (K - c) (nth t.mask (strtN t hs) c) (nth_dummy _ c _ rfl) (by omega)
      (fun n hn => by rw [jn]; exact full (c + n) (by omega)) (by rw [jn, show c + (K - c) = K by omega]; exact free)
    rcases gs with ⟨n, i, hn, hi, hh, before, pr⟩ | ⟨before, pr⟩
    · have pr2 : t.probe (fun i => (es[i]?.map (·.1)).getD 0) hs (st.getD (t.probeStart hs)) = some (.candidate (way t.mask hs (c + n)) i (nth t.mask (strtN t hs) (c + (n + 1)))) := by
        rw [est, ← jn, nth_add t.mask c (strtN t hs) (n + 1)]
        exact pr
      rw [pr2]
      dsimp only
      rw [jn] at hi
      have il : i < ms.length := by
        have := (List.getElem?_eq_some_iff.mp hi).1
        have := R.psz
        rw [Array.length_toList] at *
        omega
      obtain ⟨m, em⟩ : ∃ m, ms[i]? = some m := ⟨_, List.getElem?_eq_getElem il⟩
      have mm := List.mem_of_getElem? em
      have go : wpAny (model P w) A (searchRest D (.ref x) hs true f es t (way t.mask hs (c + n)) i (nth t.mask (strtN t hs) (c + (n + 1)))) Qz E s := by
        unfold searchRest
        rw [R.ent em]
        dsimp only
        refine wpAny_bind (wpAny_holding ((nestedKind P w).eqBool (x := m.2) (y := q) hu (R.key m mm) hx ?_))
        refine wpAny_bind (wpAny_setState_of ho hd R.fits ?_)
        dsimp only
        by_cases eq : m.2 = q
        · refine wp_if_pos (by simp [eq]) ?_
          exact wpAny_pure (there (List.mem_map.mpr ⟨m, mm, eq⟩))
        · refine wp_if_neg (by simp [eq]) ?_
          try refine wpAny_bind (wpAny_pure ?_)
          rw [sameMem]
          dsimp only
          have live : t.slot (way t.mask hs (c + n)) = .live i := slot_live R.tab.ris hi
          simp only [if_true, live, R.ent em]
          refine wpAny_bind (wpAny_isSame_ref_self (wpAny_bind (wpAny_pure ?_)))
          simp only [if_true]
          refine wp_if_neg (by simp [eq]) ?_
          refine find_from R ehs hx hu kf free full there gone f (c + (n + 1)) _ rfl (by omega) (by omega) fun i2 m2 e2 q2 => ?_
          obtain ⟨c2, a1, a2, a3⟩ := ahead i2 m2 e2 q2
          refine ⟨c2, ?_, a2, a3⟩
          rcases Nat.lt_trichotomy c2 (c + n) with z | z | z
          · refine absurd ?_ (before (c2 - c) i2 (by omega) (by rw [jn, show c + (c2 - c) = c2 by omega]; exact a3))
            rw [hat i2 m2 e2, q2, ehs]
          · rw [z] at a3
            have l2 := slot_live R.tab.ris a3
            rw [live] at l2
            injection l2 with l2
            rw [← l2, em] at e2
            exact absurd ((congrArg Prod.snd (Option.some.inj e2)).trans q2) eq
          · omega
      by_cases ld : t.led = true
      · refine wp_if_neg (by simp [ld]) ?_
        try refine wpAny_bind (wpAny_pure ?_)
        exact go
      · refine wp_if_pos (by simp [ld]) ?_
        refine wpAny_bind (seen_key hx (fun u hu2 => ?_) ?_)
        · obtain ⟨e, he, ee⟩ := List.mem_map.mp hu2
          have he2 : e ∈ es.toList := by
            have : e ∈ es ∧ e.1 = hs := by simpa using he
            simpa using this.1
          rw [R.ents] at he2
          obtain ⟨m2, hm2, e2⟩ := List.mem_map.mp he2
          exact ⟨m2.2, m2.1, by rw [← ee, ← e2], R.key m2 hm2⟩
        · refine wp_if_neg (by decide) ?_
          try refine wpAny_bind (wpAny_pure ?_)
          exact go
    · have pr2 : t.probe (fun i => (es[i]?.map (·.1)).getD 0) hs (st.getD (t.probeStart hs)) = some (.empty (way t.mask hs K) none) := by
        have e2 : way t.mask hs K = (nth t.mask (nth t.mask (strtN t hs) c) (K - c)).j := by rw [jn, show c + (K - c) = K by omega]
        rw [est, e2]
        exact pr
      rw [pr2]
      dsimp only
      refine wpAny_pure (gone fun hm => ?_)
      obtain ⟨m, hm, eq⟩ := List.mem_map.mp hm
      obtain ⟨i, ei⟩ := List.getElem?_of_mem hm
      obtain ⟨c2, a1, a2, a3⟩ := ahead i m ei eq
      refine before (c2 - c) i (by omega) (by rw [jn, show c + (c2 - c) = c2 by omega]; exact a3) ?_
      rw [hat i m ei, eq, ehs]
/-- the search of an adding -/
theorem find_key (R : SetN w s.heap D ms es ep t) {x : Addr} {q : NestedKey} (hx : IsN s.heap q x) (hu : A.units + 8 < cLine) {Qz : SetFound → Shared → Prop} (there : q ∈ ms.map (·.2) → Qz (.there none) s)
    (gone : ∀ K, q ∉ ms.map (·.2) → way t.mask (q.hash w) K ∉ t.place.toList → (∀ c, c < K → way t.mask (q.hash w) c ∈ t.place.toList) → Qz (.free (way t.mask (q.hash w) K) false) s) :
    wpAny (model P w) A (setSearch D (.ref x) (q.hash w) true) Qz E s := by
  have room := R.room
  obtain ⟨K, kf, free, full⟩ := R.tab.first (by unfold hshN; rw [List.length_map]; omega) (q.hash w)
  have small : K < 100000 := by
    have : 10 * SetTable.turns t.mask ≤ 1420 := by
      unfold SetTable.turns
      rcases R.tab.mok with e | e | e <;> omega
    omega
  unfold setSearch
  refine find_from R rfl hx hu kf free full there (fun n => gone K n free full) 100000 0 none rfl (Nat.zero_le _) (by omega) fun i m em eq => ?_
  have hi : (hshN w ms)[i]? = some (q.hash w) := by
    unfold hshN
    rw [List.getElem?_map, em, ← eq] <;> rfl
  have il : i < t.place.toList.length := by
    have := (List.getElem?_eq_some_iff.mp em).1
    rw [Array.length_toList, R.psz]
    exact this
  obtain ⟨c, hc, e⟩ := R.tab.before free hi (List.getElem?_eq_getElem il)
  exact ⟨c, Nat.zero_le _, hc, by rw [List.getElem?_eq_getElem il, e]⟩
end
end KX

set_option maxRecDepth 100000
set_option maxHeartbeats 4000000
/-! Ex47: adding a member, all of a walk's -/
namespace KX
open PySem PySem.Spec PyProof.Rows L2
theorem pick_all {α : Type} (xs : List α) : ∀ n, n ≤ xs.length → (List.range n).filterMap (fun i => xs[i]?) = xs.take n
  | 0, _ => by simp
  | n + 1, h => by
    have lt : n < xs.length := h
    rw [List.range_succ, List.filterMap_append, pick_all xs n (Nat.le_of_lt lt), List.take_add_one, List.getElem?_eq_getElem lt]
    congr 1
    rw [List.filterMap_cons_some (List.getElem?_eq_getElem lt)] <;> rfl
section
variable {P : Program} {w : World} {A : Around} {E : Value → Shared → Prop} {s : Shared} {D : Addr} {ms : List (Addr × NestedKey)} {es : Array (Int × Value)} {ep : Nat} {t : SetTable}
/-- the members in the order of a table laid anew -/
theorem laid_ents {ord : Array Nat} (he : es.toList = entN w ms) (pm : ord.toList.Perm (List.range ms.length)) :
    ∃ ns, (ord.filterMap (es[·]?)).toList = entN w ns ∧ ns.Perm ms ∧ hshN w ns = ord.toList.map fun i => (es.map (·.1)).getD i 0 := by
  have sz : es.size = ms.length := by
    have := congrArg List.length he
    unfold entN at this
    rwa [Array.length_toList, List.length_map] at this
  have at1 : ∀ i (h : i < ms.length), es[i]? = some ((ms[i]).2.hash w, Value.ref (ms[i]).1) := fun i h => by
    rw [← Array.getElem?_toList, he]
    unfold entN
    rw [List.getElem?_map, List.getElem?_eq_getElem h] <;> rfl
  refine ⟨ord.toList.filterMap fun i => ms[i]?, ?_, ?_, ?_⟩
  · have key : ∀ l : List Nat, (∀ i ∈ l, i < ms.length) → l.filterMap (fun i => es[i]?) = entN w (l.filterMap fun i => ms[i]?) := by
      intro l
      induction l with
      | nil => intro _; rfl
      | cons i l ih =>
        intro hl
        have hi := hl i List.mem_cons_self
        rw [List.filterMap_cons_some (at1 i hi), List.filterMap_cons_some (List.getElem?_eq_getElem hi), ih fun j hj => hl j (List.mem_cons_of_mem _ hj)]
        rfl
    have := key ord.toList fun i hi => List.mem_range.mp (pm.mem_iff.mp hi)
    first | (rw [Array.toList_filterMap]; exact this) | simpa using this
  · have h1 := pm.filterMap fun i => ms[i]?
    rwa [pick_all ms ms.length (Nat.le_refl _), List.take_length] at h1
  · have key : ∀ l : List Nat, (∀ i ∈ l, i < ms.length) → hshN w (l.filterMap fun i => ms[i]?) = l.map fun i => (es.map (·.1)).getD i 0 := by
      intro l
      induction l with
      | nil => intro _; rfl
      | cons i l ih =>
        intro hl
        have hi := hl i List.mem_cons_self
        have e1 : (es.map (·.1))[i]? = some ((ms[i]).2.hash w) := by rw [Array.getElem?_map, at1 i hi] <;> rfl
        rw [List.filterMap_cons_some (List.getElem?_eq_getElem hi), List.map_cons, ← ih fun j hj => hl j (List.mem_cons_of_mem _ hj)]
        show (ms[i]).2.hash w :: hshN w _ = _
        congr 1
        simp [Array.getD_eq_getD_getElem?, e1]
    exact key ord.toList fun i hi => List.mem_range.mp (pm.mem_iff.mp hi)
/-- the table laid anew, larger -/
theorem lay_key {o : Obj} (ho : s.heap.get? D = some o) (hex : o.ExactSet) (hd : o.data = .set es ep t) (he : es.toList = entN w ms) (hp : t.place.size = es.size) (hm : t.dummies = #[]) (fl : es.size ≤ t.mask)
    (one : (ms.map (·.2)).Nodup) (key : ∀ m ∈ ms, IsN s.heap m.2 m.1) (ld : w.params.followText "set-order" = true ∨ t.led = true) (few : ms.length < 64) {want M : Nat}
    (hw : SetTable.sizeAbove want - 1 = M) (hM : MaskOk M) (hw2 : SetTable.sizeAbove want ≤ 128) (rm : ms.length * 5 < M * 3) {Qz : Unit → Shared → Prop}
    (fin : ∀ h2 ns fs e2 t2, Heap.SameBut D s.heap h2 → SetN w h2 D ns fs e2 t2 → ns.Perm ms → Qz () { s with heap := h2 }) : wpAny (model P w) A (setRelay D want) Qz E s := by
  have sz : es.size = ms.length := by
    have := congrArg List.length he
    unfold entN at this
    rwa [Array.length_toList, List.length_map] at this
  have fit : t.fits es.size = true := by
    unfold SetTable.fits SetTable.fill
    rw [hm, Bool.and_eq_true, beq_iff_eq, decide_eq_true_eq]
    refine ⟨hp, ?_⟩
    show t.place.size + 0 ≤ t.mask
    omega
  obtain ⟨t2, ord, el, pm, T, em, ell, epl, edm⟩ := relaid_ok t (hs := es.map (·.1)) (wanted := want) hw hM (by rw [Array.size_map, sz]; omega)
  rw [Array.size_map, sz] at pm
  obtain ⟨ns, r1, r2, r3⟩ := laid_ents (w := w) he pm
  rw [← r3] at T
  have s2 : (ord.filterMap (es[·]?)).size = es.size := by
    have := congrArg List.length r1
    unfold entN at this
    rw [Array.length_toList, List.length_map, r2.length_eq] at this
    omega
  rw [setRelay_eq]
  refine wpAny_bind (wpAny_setState_of ho hd fit ?_)
  dsimp only
  refine wp_if_neg (by rw [sizeLine_eq]; omega) ?_
  try refine wpAny_bind (wpAny_pure ?_)
  rw [el]
  dsimp only
  refine wpAny_bind ?_
  refine wp_if_neg (by rw [s2]; simp) ?_
  try refine wpAny_bind (wpAny_pure ?_)
  refine wpAny_pure ?_
  dsimp only
  refine wpAny_storeSet_of ho hd ?_ (by rw [s2, sz, sizeLine_eq]; omega)
  have but : Heap.SameBut D s.heap (s.heap.update D (Obj.putSet (ord.filterMap (es[·]?)) t2)) := Heap.SameBut.update ..
  exact fin _ ns _ (ep + 1) t2 but ⟨⟨_, store_at ho hd, ⟨hex.1, hex.2.1, hex.2.2⟩, rfl⟩, r1, T, (r2.map (·.2)).nodup_iff.mpr one, fun m mm => isN_but (key m (r2.mem_iff.mp mm)) ho hd but, by rw [ell]; exact ld, by rw [r2.length_eq, em]; exact rm, by rw [r2.length_eq]; exact few⟩ r2
theorem plain_off {t : SetTable} {hs : List Int} (T : TabOk t hs) (b : Bool) : TabOk (if b = true then t else { t with plain := false }) hs := by
  cases b with
  | true => exact T
  | false => exact ⟨T.ris, T.dm, T.sz, T.mok, T.bd, T.reach⟩
/-- one more member -/
theorem add_key (R : SetN w s.heap D ms es ep t) {x : Addr} {q : NestedKey} (hx : IsN s.heap q x) (hu : A.units + 8 < cLine) (few : ms.length + 1 < 64) {Qz : Bool → Shared → Prop}
    (fin : ∀ b h2 ns fs e2 t2, Heap.SameBut D s.heap h2 → SetN w h2 D ns fs e2 t2 → (q ∈ ms.map (·.2) → ns = ms) → (q ∉ ms.map (·.2) → ns.Perm ((x, q) :: ms)) → Qz b { s with heap := h2 }) :
    wpAny (model P w) A (setAddHashed D (.ref x) (q.hash w)) Qz E s := by
  obtain ⟨o, ho, hex, hd⟩ := R.ob
  have sz := R.size
  have room := R.room
  unfold setAddHashed
  refine wpAny_holding ?_
  rw [show (100000 : Nat) = 99999 + 1 from rfl, setAddHashedIn_succ]
  refine wpAny_bind (wpAny_setState_of ho hd R.fits ?_)
  dsimp only
  refine wp_if_neg (by simp [byScan, Value.scannable]) ?_
  try refine wpAny_bind (wpAny_pure ?_)
  refine wpAny_bind (find_key R hx hu (fun hm => ?_) fun K hm free full => ?_)
  · dsimp only
    exact wpAny_pure (fin false s.heap ms es ep t (Heap.SameBut.refl D s.heap) R (fun _ => rfl) fun z => absurd hm z)
  dsimp only
  refine wpAny_bind (wpAny_setState_of ho hd R.fits ?_)
  dsimp only
  obtain ⟨p1, p2, p3, p4, p5, p6, p7, p8, p9⟩ := R.tab.put free full
  generalize hpt : t.put (way t.mask (q.hash w) K) = pt at p1 p3 p4 p5 p6 p7 p8 p9 ⊢
  obtain ⟨t1, p⟩ := pt
  dsimp only at p1 p3 p4 p5 p6 p7 p8 p9 ⊢
  subst p1
  have ins : (SetTable.insertAt es (SetTable.below t.place (way t.mask (q.hash w) K)) (q.hash w, Value.ref x)).toList = entN w (ms.take (SetTable.below t.place (way t.mask (q.hash w) K)) ++ (x, q) :: ms.drop (SetTable.below t.place (way t.mask (q.hash w) K))) := by
    rw [SetTable.toList_insertAt, R.ents]
    unfold entN
    rw [List.map_append, List.map_cons, List.map_take, List.map_drop]
  generalize hpp : SetTable.below t.place (way t.mask (q.hash w) K) = p at p2 p3 ins ⊢
  have pm : (ms.take p ++ (x, q) :: ms.drop p).Perm ((x, q) :: ms) := by
    have e := List.perm_middle (l₁ := ms.take p) (l₂ := ms.drop p) (a := (x, q))
    rwa [List.take_append_drop] at e
  have ehh : hshN w (ms.take p ++ (x, q) :: ms.drop p) = (hshN w ms).take p ++ q.hash w :: (hshN w ms).drop p := by
    unfold hshN
    rw [List.map_append, List.map_cons, List.map_take, List.map_drop]
  rw [← ehh] at p3
  have one1 : ((ms.take p ++ (x, q) :: ms.drop p).map (·.2)).Nodup := by
    refine (pm.map (·.2)).nodup_iff.mpr ?_
    rw [List.map_cons]
    exact List.nodup_cons.mpr ⟨hm, R.one⟩
  have len1 : (ms.take p ++ (x, q) :: ms.drop p).length = ms.length + 1 := pm.length_eq
  have ess : (SetTable.insertAt es p (q.hash w, Value.ref x)).size = ms.length + 1 := by
    have := congrArg List.length ins
    unfold entN at this
    rwa [Array.length_toList, List.length_map, len1] at this
  generalize SetTable.insertAt es p (q.hash w, Value.ref x) = fs at ins ess ⊢
  generalize ms.take p ++ (x, q) :: ms.drop p = ns at pm len1 p3 one1 ins
  have lenh : (hshN w ms).length = ms.length := List.length_map _
  rw [lenh] at p9
  -- by value or not: the table's mark may go
  have rest : ∀ b : Bool, wpAny (model P w) A (do
      storeSet D fs (if b = true then t1 else { t1 with plain := false })
      if (!false && (if b = true then t1 else { t1 with plain := false }).tooFull) = true then setRelay D (SetTable.grown (es.size + 1))
      pure true) Qz E s := fun b => by
    have T1 := plain_off p3 b
    have ld1 : w.params.followText "set-order" = true ∨ (if b = true then t1 else { t1 with plain := false }).led = true := by
      cases b
      · exact R.led.imp id fun z => by show t1.led = true; rw [p5]; exact z
      · exact R.led.imp id fun z => by show t1.led = true; rw [p5]; exact z
    have mk1 : (if b = true then t1 else { t1 with plain := false }).mask = t.mask := by cases b <;> exact p4
    have fl1 : (if b = true then t1 else { t1 with plain := false }).fill = ms.length + 1 := by cases b <;> exact p9
    generalize (if b = true then t1 else { t1 with plain := false }) = t2 at T1 ld1 mk1 fl1 ⊢
    refine wpAny_bind (wpAny_storeSet_of ho hd ?_ (by rw [ess, sizeLine_eq]; omega))
    have but : Heap.SameBut D s.heap (s.heap.update D (Obj.putSet fs t2)) := Heap.SameBut.update ..
    have ho1 := store_at (es' := fs) (t' := t2) ho hd
    generalize s.heap.update D (Obj.putSet fs t2) = h1 at but ho1 ⊢
    have key1 : ∀ m ∈ ns, IsN h1 m.2 m.1 := fun m mm => by
      rcases List.mem_cons.mp (pm.mem_iff.mp mm) with e | mm
      · rw [e]; exact isN_but hx ho hd but
      · exact isN_but (R.key m mm) ho hd but
    by_cases full2 : t2.tooFull = true
    · have big : (ms.length + 1) * 5 ≥ t2.mask * 3 := by
        have h := full2
        unfold SetTable.tooFull at h
        rw [decide_eq_true_eq, fl1] at h
        exact h
      refine wp_if_pos (by simp [full2]) ?_
      rw [sz]
      have psz : t2.place.size = fs.size := by
        have := T1.sz
        unfold hshN at this
        rw [List.length_map, len1] at this
        omega
      have two : (t.mask = 7 ∧ ms.length = 4) ∨ (t.mask = 31 ∧ ms.length = 18) := by
        rcases R.tab.mok with e | e | e
        · left; rw [mk1, e] at big; rw [e] at room; exact ⟨e, by omega⟩
        · right; rw [mk1, e] at big; rw [e] at room; exact ⟨e, by omega⟩
        · exfalso; rw [mk1, e] at big; omega
      have go : ∀ M, SetTable.sizeAbove (SetTable.grown (ms.length + 1)) - 1 = M → MaskOk M → SetTable.sizeAbove (SetTable.grown (ms.length + 1)) ≤ 128 → (ms.length + 1) * 5 < M * 3 →
          wpAny (model P w) A (setRelay D (SetTable.grown (ms.length + 1)) >>= fun _ => pure true) Qz E { s with heap := h1 } := fun M g1 g2 g3 g4 => by
        refine wpAny_bind (lay_key (s := { s with heap := h1 }) ho1 ⟨hex.1, hex.2.1, hex.2.2⟩ rfl ins psz T1.dm (by rw [ess, mk1]; rcases two with ⟨e, e2⟩ | ⟨e, e2⟩ <;> omega) one1 key1 ld1 (by rw [len1]; exact few) g1 g2 g3 (by rw [len1]; exact g4) ?_)
        intro h2 ns2 fs2 e2 t3 but2 R2 pm2
        exact wpAny_pure (fin true h2 ns2 fs2 e2 t3 (but.trans but2) R2 (fun z => absurd z hm) fun _ => pm2.trans pm)
      rcases two with ⟨_, e2⟩ | ⟨_, e2⟩
      · exact go 31 (by rw [e2, size_20]) (.inr (.inl rfl)) (by rw [e2, size_20]; decide) (by omega)
      · exact go 127 (by rw [e2, size_76]) (.inr (.inr rfl)) (by rw [e2, size_76]; decide) (by omega)
    · refine wp_if_neg (by simp [full2]) ?_
      refine wpAny_pure (fin true h1 ns fs (ep + 1) t2 but ⟨⟨_, ho1, ⟨hex.1, hex.2.1, hex.2.2⟩, rfl⟩, ins, T1, one1, key1, ld1, ?_, by rw [len1]; exact few⟩ (fun z => absurd z hm) fun _ => pm)
      have h := full2
      unfold SetTable.tooFull at h
      rw [decide_eq_true_eq, fl1] at h
      rw [len1]
      omega
  by_cases pl : t1.plain = true
  · first
      | (refine wpAny_bind ?_; refine wp_if_pos pl ?_; refine byv_key q _ 8 _ _ s _ hx.1 fun b => ?_; exact rest b)
      | (refine wp_if_pos pl (wpAny_bind (byv_key q _ 8 _ _ s _ hx.1 fun b => ?_)); exact rest b)
  · first
      | (refine wpAny_bind ?_; refine wp_if_neg pl ?_; refine wpAny_pure ?_; exact rest true)
      | (refine wp_if_neg pl (wpAny_bind (wpAny_pure ?_)); exact rest true)
end
end KX

set_option maxRecDepth 100000
set_option maxHeartbeats 4000000
namespace KX
open PySem PySem.Spec PyProof.Rows
/-! ### set(xs), xs a list of texts; of ints -/
section
variable {prog : Program} {w : World} {A : Around} {E : Value → Shared → Prop} {s : Shared}
open L2 in
theorem call_setTxtL {tp : Addr} {ys : Array Value} {ts : List Str} {Q : Value → Shared → Prop} (noh : A.handled = none) (ht : s.heap.IsList tp ys) (are : StrsAre ys.toList ts) (few : ts.length + 1 < scanBound)
    (fin : ∀ (h2 : Heap) (tk : Nat), h2.SetOf (PySem.strKind prog w) s.heap.objs.size (sawS ts ts.length) (dcnt ts ts.length) → (∀ b o, b < s.heap.objs.size → s.heap.get? b = some o → h2.get? b = some o) →
      Q (.ref s.heap.objs.size) { s with heap := h2, toks := tk }) : wpAny (model prog w) A (call (.type "set") [.ref tp]) Q E s := by
  obtain ⟨c1, tl1, gmro⟩ := PySem.F.called_set.mro
  have gmade := PySem.F.called_set.made
  have gsub := PySem.F.called_set.sub
  have g1 := PySem.F.called_set.notType
  have g2 := PySem.F.called_set.canCreate
  have gct := PySem.F.typeCall_set_1 (.ref tp)
  refine wpAny_call (codeAny_of_tree (show wpAny _ _ (callAny (.type "set") _) _ _ _ from wpAny_pure ⟨Code.quiet_builtin _ (by decide +kernel), codeAny_builtin PySem.F.entry_type_call ?_⟩))
  rw [Around.under_plain (weight_type_call_type "set" [.ref tp] []) rfl]
  repeat (any_goals (first | wp_step | assumption))
  refine codeAny_mono (code_set_new_1 (.ref tp) (E := E) (Q₁ := fun ob t1 => ∃ ld : Bool, ob = .ref s.heap.objs.size ∧ t1 = { s with heap := s.heap.push (nSet ld) }) fun ld => ⟨ld, rfl, rfl⟩) fun r1 t1 k1 => ?_
  cases r1 with
  | error e => exact k1
  | ok f1 =>
    cases f1 with
    | ret ob =>
      obtain ⟨ld, eo, et⟩ := k1
      subst eo et
      have atS : (s.heap.push (nSet ld)).get? s.heap.objs.size = some (nSet ld) := Heap.get?_push_size _ rfl
      have tyS : Shared.TypeIs { s with heap := s.heap.push (nSet ld) } (.ref s.heap.objs.size) "set" := ⟨_, atS, rfl⟩
      have gli := PySem.F.called_set.init.lookup
      have gbi := PySem.F.called_set.init.bind (.ref s.heap.objs.size)
      repeat (any_goals (first | wp_step | assumption))
      refine codeAny_mono (codeAny_call_builtin (R := wants (fun r t2 => r = .none ∧ ∃ h2 tk, t2 = { s with heap := h2, toks := tk } ∧ h2.SetOf (PySem.strKind prog w) s.heap.objs.size (sawS ts ts.length) (dcnt ts ts.length) ∧
          (∀ b o, b < s.heap.objs.size → s.heap.get? b = some o → h2.get? b = some o)) E) PySem.F.called_set.init.plain PySem.F.entry_set_init (check_set_init_1 tyS ?_)) fun r2 t2 k2 => ?_
      · obtain ⟨⟨oc, od, odat, osl⟩, eT, ec, nT, ed⟩ := ht
        simp only at ec ed
        subst ec
        subst ed
        have eT2 : (s.heap.push (nSet ld)).get? tp = some { cls := .type "list", dict := od, data := .seq ys nT, slots := osl } := Heap.get?_push_of_some _ eT
        have b1 := PySem.F.sub_list_set
        have b2 := PySem.F.sub_list_frozenset
        have b3 : (Value.type "list" == Value.type "dict") = false := by decide
        have isT : (s.heap.push (nSet ld)).IsList tp ys := ⟨_, eT2, rfl, nT, rfl⟩
        unfold Builtin.«set.__init__» noKeywords Builtin.Frozenset.updateFrom
        generalize kept : pyIter = iterF
        wp_walk
        subst kept
        refine wpAny_pyIter_list isT (wpAny_bind (wpAny_runValue ?_))
        have ltp : tp < s.heap.objs.size := Heap.lt_size eT
        have noh3 : A.in1.in1.in1.handled = none := by simp [noh]
        have szP : (s.heap.push (nSet ld)).objs.size = s.heap.objs.size + 1 := Heap.size_push ..
        have ne1 : tp ≠ (s.heap.push (nSet ld)).objs.size := by rw [szP]; exact Nat.ne_of_lt (Nat.lt_succ_of_lt ltp)
        have ne2 : s.heap.objs.size ∉ [(s.heap.push (nSet ld)).objs.size, tp] := by
          rw [szP]
          simp only [List.mem_cons, List.not_mem_nil, or_false, not_or]
          exact ⟨Nat.ne_of_lt (Nat.lt_succ_self _), Nat.ne_of_gt ltp⟩
        have lz : ts.length = ys.size := by rw [← StrsAre.len_eq are, Array.length_toList]
        refine loopTxt ((Walks.list noh3 _ tp ne1 ys).toS) s.heap.objs.size ne2 ts lz (by rw [← lz]; exact few) (fun i v hv => SS.strs_at are i v (by rw [Array.getElem?_toList]; exact hv)) (ys.size - 0) 0 _ (by omega) (Nat.zero_le _)
          ⟨⟨_, Heap.get?_push_size _ rfl, rfl, rfl⟩, (isT.push _)⟩ ?z0 ?z1
        case z0 =>
          have gg : ((s.heap.push (nSet ld)).push { cls := .type "list_iterator", data := .fields #[.ref tp, .int 0 0] }).get? s.heap.objs.size = some (nSet ld) := Heap.get?_push_of_some _ atS
          exact SetOf_congr ((setObjOf_fresh (knd := PySem.strKind prog w) ld).setOf gg (by unfold scanBound; omega)) (fun _ => rfl) rfl
        case z1 =>
          intro t3 mv so
          obtain ⟨h3, g3, d3, k3, o3⟩ := t3
          obtain rfl : g3 = s.gens := mv.gens
          obtain rfl : d3 = s.drawn := mv.drawn
          obtain rfl : o3 = s.os := mv.os
          rw [← lz] at so
          show wpAny _ _ _ _ _ _
          refine wpAny_pure (show wpAny _ _ (ret Value.none) _ _ _ from wpAny_pure ⟨rfl, h3, k3, rfl, so, fun b o hb e => ?_⟩)
          refine mv.heap b o ?_ (Heap.get?_push_of_some _ (Heap.get?_push_of_some _ e))
          rw [szP]
          simp only [List.mem_cons, List.not_mem_nil, or_false, not_or]
          exact ⟨Nat.ne_of_lt hb, Nat.ne_of_lt (Nat.lt_succ_of_lt hb)⟩
      · cases r2 with
        | error e => exact k2
        | ok f2 =>
          cases f2 with
          | ret r =>
            obtain ⟨rfl, h2, tk, rfl, so, old⟩ := k2
            repeat (any_goals (first | wp_step | assumption))
            exact fin _ _ so old
          | _ => exact k2.elim
    | _ => exact k1.elim
open L2 in
theorem call_setIntL {tp : Addr} {ys : Array Value} {ts : List Int} {Q : Value → Shared → Prop} (noh : A.handled = none) (ht : s.heap.IsList tp ys) (are : IntsAre ys.toList ts) (few : ts.length + 1 < scanBound)
    (fin : ∀ (h2 : Heap) (tk c : Nat), SetR w h2 s.heap.objs.size (fun j => decide (j ∈ ts)) c → c ≤ ts.length → (∀ b o, b < s.heap.objs.size → s.heap.get? b = some o → h2.get? b = some o) →
      Q (.ref s.heap.objs.size) { s with heap := h2, toks := tk }) : wpAny (model prog w) A (call (.type "set") [.ref tp]) Q E s := by
  obtain ⟨c1, tl1, gmro⟩ := PySem.F.called_set.mro
  have gmade := PySem.F.called_set.made
  have gsub := PySem.F.called_set.sub
  have g1 := PySem.F.called_set.notType
  have g2 := PySem.F.called_set.canCreate
  have gct := PySem.F.typeCall_set_1 (.ref tp)
  refine wpAny_call (codeAny_of_tree (show wpAny _ _ (callAny (.type "set") _) _ _ _ from wpAny_pure ⟨Code.quiet_builtin _ (by decide +kernel), codeAny_builtin PySem.F.entry_type_call ?_⟩))
  rw [Around.under_plain (weight_type_call_type "set" [.ref tp] []) rfl]
  repeat (any_goals (first | wp_step | assumption))
  refine codeAny_mono (code_set_led1 (.ref tp) (E := E) (Q₁ := fun ob t1 => ob = .ref s.heap.objs.size ∧ t1 = { s with heap := s.heap.push (nSet (!w.params.followText "set-order")) }) ⟨rfl, rfl⟩) fun r1 t1 k1 => ?_
  cases r1 with
  | error e => exact k1
  | ok f1 =>
    cases f1 with
    | ret ob =>
      obtain ⟨eo, et⟩ := k1
      subst eo et
      have atS : (s.heap.push (nSet (!w.params.followText "set-order"))).get? s.heap.objs.size = some (nSet (!w.params.followText "set-order")) := Heap.get?_push_size _ rfl
      have tyS : Shared.TypeIs { s with heap := s.heap.push (nSet (!w.params.followText "set-order")) } (.ref s.heap.objs.size) "set" := ⟨_, atS, rfl⟩
      have gli := PySem.F.called_set.init.lookup
      have gbi := PySem.F.called_set.init.bind (.ref s.heap.objs.size)
      repeat (any_goals (first | wp_step | assumption))
      refine codeAny_mono (codeAny_call_builtin (R := wants (fun r t2 => r = .none ∧ ∃ h2 tk c, t2 = { s with heap := h2, toks := tk } ∧ SetR w h2 s.heap.objs.size (fun j => decide (j ∈ ts)) c ∧ c ≤ ts.length ∧
          (∀ b o, b < s.heap.objs.size → s.heap.get? b = some o → h2.get? b = some o)) E) PySem.F.called_set.init.plain PySem.F.entry_set_init (check_set_init_1 tyS ?_)) fun r2 t2 k2 => ?_
      · obtain ⟨⟨oc, od, odat, osl⟩, eT, ec, nT, ed⟩ := ht
        simp only at ec ed
        subst ec
        subst ed
        have eT2 : (s.heap.push (nSet (!w.params.followText "set-order"))).get? tp = some { cls := .type "list", dict := od, data := .seq ys nT, slots := osl } := Heap.get?_push_of_some _ eT
        have b1 := PySem.F.sub_list_set
        have b2 := PySem.F.sub_list_frozenset
        have b3 : (Value.type "list" == Value.type "dict") = false := by decide
        have isT : (s.heap.push (nSet (!w.params.followText "set-order"))).IsList tp ys := ⟨_, eT2, rfl, nT, rfl⟩
        unfold Builtin.«set.__init__» noKeywords Builtin.Frozenset.updateFrom
        generalize kept : pyIter = iterF
        wp_walk
        subst kept
        refine wpAny_pyIter_list isT (wpAny_bind (wpAny_runValue ?_))
        have ltp : tp < s.heap.objs.size := Heap.lt_size eT
        have noh3 : A.in1.in1.in1.handled = none := by simp [noh]
        have szP : (s.heap.push (nSet (!w.params.followText "set-order"))).objs.size = s.heap.objs.size + 1 := Heap.size_push ..
        have ne1 : tp ≠ (s.heap.push (nSet (!w.params.followText "set-order"))).objs.size := by rw [szP]; exact Nat.ne_of_lt (Nat.lt_succ_of_lt ltp)
        have ne2 : s.heap.objs.size ∉ [(s.heap.push (nSet (!w.params.followText "set-order"))).objs.size, tp] := by
          rw [szP]
          simp only [List.mem_cons, List.not_mem_nil, or_false, not_or]
          exact ⟨Nat.ne_of_lt (Nat.lt_succ_self _), Nat.ne_of_gt ltp⟩
        have lz : ys.size = ts.length := by
          have q := IntsAre.length are
          rw [Array.length_toList] at q
          exact q
        have each : ∀ (i : Nat) (v : Value), ys[i]? = some v → ∃ k t, ts[i]? = some k ∧ v = .int k t := fun i v hv => by
          have hi : i < ts.length := by rw [← lz]; exact (Array.getElem?_eq_some_iff.mp hv).1
          obtain ⟨t, e⟩ := PyProof.Rows.IntsAre.int_at are i v (by rw [Array.getElem?_toList]; exact hv)
          refine ⟨ts[i], t, List.getElem?_eq_getElem hi, ?_⟩
          rw [e, List.getD_eq_getElem?_getD, List.getElem?_eq_getElem hi] <;> rfl
        refine set_update_ints ((Walks.list noh3 _ tp ne1 ys).toS) s.heap.objs.size ne2 ts lz few each (ys.size - 0) 0 _ (by omega) (Nat.zero_le _)
          ⟨⟨_, Heap.get?_push_size _ rfl, rfl, rfl⟩, (isT.push _)⟩ ?z0 ?z1
        case z0 =>
          have gg : ((s.heap.push (nSet (!w.params.followText "set-order"))).push { cls := .type "list_iterator", data := .fields #[.ref tp, .int 0 0] }).get? s.heap.objs.size = some (nSet (!w.params.followText "set-order")) := Heap.get?_push_of_some _ atS
          exact ⟨0, Nat.le_refl 0, setR_new_at gg⟩
        case z1 =>
          intro t3 cc mv lc so
          obtain ⟨h3, g3, d3, k3, o3⟩ := t3
          obtain rfl : g3 = s.gens := mv.gens
          obtain rfl : d3 = s.drawn := mv.drawn
          obtain rfl : o3 = s.os := mv.os
          rw [lz] at lc
          show wpAny _ _ _ _ _ _
          refine wpAny_pure (show wpAny _ _ (ret Value.none) _ _ _ from wpAny_pure ⟨rfl, h3, k3, cc, rfl, so, lc, fun b o hb e => ?_⟩)
          refine mv.heap b o ?_ (Heap.get?_push_of_some _ (Heap.get?_push_of_some _ e))
          rw [szP]
          simp only [List.mem_cons, List.not_mem_nil, or_false, not_or]
          exact ⟨Nat.ne_of_lt hb, Nat.ne_of_lt (Nat.lt_succ_of_lt hb)⟩
      · cases r2 with
        | error e => exact k2
        | ok f2 =>
          cases f2 with
          | ret r =>
            obtain ⟨rfl, h2, tk, c, rfl, so, lc, old⟩ := k2
            repeat (any_goals (first | wp_step | assumption))
            exact fin _ _ _ so lc old
          | _ => exact k2.elim
    | _ => exact k1.elim
end
end KX
namespace KX
open PySem PySem.Spec PyProof.Rows L2
section
variable {X : Cx} {pos : Pos}
def tLenSetL (K : PySem.W.Frag) (ta : TE) : TE := fun σ H Q => ta σ H fun x H1 => ∃ (l : Addr) (ts : List Str), x = .ref l ∧ SqL K H1 l (ts.map V.str) ∧ ts.length ≤ 1000 ∧ Q (.int (dcnt ts ts.length : Int)) H1
theorem pe_lenSetL {e0 : Expr} {ta : TE} {pa pb pc pd : Pos} (cm : X.calm = true) (gl : Gl X "len") (ml : X.mg "len" = none) (gs : Gl X "set") (ms : X.mg "set" = none) (he : PE X e0 ta)
    (se : starEach [e0] X.env = (false, eval e0 X.env) :: starEach [] X.env := by rfl) : PE X (.Call (.Name "len" pa) [.Call (.Name "set" pb) [e0] [] pc] [] pd) (tLenSetL X.K ta) := by
  refine ⟨fun pn sh σ G Qz J hyp => ?_⟩
  refine Call_ (ld_blt J gl ml boot_len ?_)
  refine callWith_builtin1 (args_cons ?_ rfl) rfl rfl
  refine Call_ (ld_blt J gs ms boot_set ?_)
  refine callWith_type1 (args_cons (thn (he.run pn sh σ G _ J hyp) fun v s1 ⟨x, H1, I1, r1, q1⟩ => args_nil ?_) se) se rfl
  obtain ⟨l, ts, rfl, hq, few, q1⟩ := q1
  cases r1
  obtain ⟨its, r, pl, hz⟩ := I1.list hq
  have hb : (1001 : Nat) < scanBound := by decide
  refine call_setTxtL (I1.ok.hd cm) pl.isList (by simpa using strsAre_of r) (by omega) fun h2 tk so old => ?_
  refine args_nil ?_
  obtain ⟨o, es, ep, t, ho, hex, hd, _, _, _, hf, hn⟩ := so
  have I2 : Inv X pn σ H1 { s1 with heap := h2, toks := tk } := I1.kept fun b o e => old b o (Heap.lt_size e) e
  have := dcnt_le ts ts.length
  exact call_len_set ho hex hd hf (by rw [hn]; have hs : (1001 : Nat) < sizeLine := (by decide); omega) ⟨.int (dcnt ts ts.length : Int), H1, I2.tok _, ⟨_, by rw [hn]⟩, q1⟩
/-- set(xs), xs a list of ints -/
def rSetIL (K : PySem.W.Frag) (w : World) : List V → Hp → VK → Prop := fun xs H Q => ∃ (l : Addr) (ns : List Int), xs = [.ref l] ∧ SqL K H l (ns.map V.int) ∧ ns.length ≤ 1000 ∧
  ∀ (p : Addr) (c : Nat), H p = none → c ≤ ns.length → Q (.ref p) (upd H p (SetO w p (fun j => decide (j ∈ ns)) c))
theorem cr_setIL (cm : X.calm = true) : CallR X (.type "set") (rSetIL X.K X.w) := by
  intro pins s σ H xs us Q I r h
  obtain ⟨l, ns, rfl, hq, few, q⟩ := h
  obtain ⟨u, rfl, ru⟩ := vals1 r
  cases ru
  obtain ⟨its, rv, pl, hz⟩ := I.list hq
  have hb : (1001 : Nat) < scanBound := by decide
  refine call_setIntL (I.ok.hd cm) pl.isList (ts := ns) (by simpa using ints_of_vals rv) (by omega) fun h2 tk c so lc old => ?_
  exact ⟨.ref _, upd H s.heap.objs.size (SetO X.w s.heap.objs.size (fun j => decide (j ∈ ns)) c), I.laid (t' := tk) (fun b o e => old b o (Heap.lt_size e) e) (Nat.le_refl _) (setO_new so), rfl, q _ c (I.hok.fresh (Nat.le_refl _)) lc⟩
end
end KX

set_option maxRecDepth 100000
set_option maxHeartbeats 4000000
/-! Ex42: set(xs) of texts as an object, and sorted of it -/
namespace KX
open PySem PySem.Spec PyProof.Rows
def xOf (e : Int × Value) : Str := match e.2 with
  | .str x _ => x
  | _ => Str.empty
def GoodX (w : World) (e : Int × Value) : Prop := ∃ x t, e = (hashStr w x, .str x t)
theorem goodX_is {P : Program} {w : World} {e : Int × Value} (h : GoodX w e) (k : Str) : (strKind P w).is k e.2 = decide (xOf e = k) := by
  obtain ⟨x, t, rfl⟩ := h
  have h1 : (strKind P w).is x (.str x t) = true := strKind_is P w x t
  by_cases z : x = k
  · subst z
    rw [h1]
    exact (decide_eq_true rfl).symm
  · rw [show decide (xOf (hashStr w x, Value.str x t) = k) = false from decide_eq_false z]
    cases y : (strKind P w).is k (.str x t) with
    | false => rfl
    | true => exact absurd ((strKind P w).inj _ _ _ h1 y) z
theorem goodX_elems {P : Program} {w : World} {l : List (Int × Value)} (h : ∀ e ∈ l, GoodX w e) : ElemsOf (strKind P w) l := fun e he => by
  obtain ⟨x, t, rfl⟩ := h e he
  exact ⟨⟨x, strKind_is P w x t, rfl⟩, rfl⟩
/-- a set of the texts ks, no one twice, at D -/
def SetX (w : World) (h : Heap) (D : Addr) (ks : List Str) : Prop :=
  ∃ o es ep t, h.get? D = some o ∧ o.ExactSet ∧ o.data = .set es ep t ∧ (∀ e ∈ es.toList, GoodX w e) ∧ (es.toList.map xOf).Perm ks ∧ ks.Nodup ∧ es.size < scanBound ∧ t.fits es.size = true ∧
    L2.Ris t.place.toList ∧ (w.params.followText "set-order" = true ∨ t.led = true)
theorem SetX.at {w : World} {h h' : Heap} {D : Addr} {ks : List Str} (R : SetX w h D ks) (k : ∀ o, h.get? D = some o → h'.get? D = some o) : SetX w h' D ks := by
  obtain ⟨o, es, ep, t, ho, r⟩ := R
  exact ⟨o, es, ep, t, k o ho, r⟩
/-- the texts so far, each once -/
def addX (ks : List Str) (x : Str) : List Str := if x ∈ ks then ks else x :: ks
def accX (ts : List Str) : List Str := ts.foldl addX []
theorem setX_new {w : World} {h : Heap} {D : Addr} (ho : h.get? D = some (nSet (!w.params.followText "set-order"))) : SetX w h D [] :=
  ⟨_, #[], 0, _, ho, ⟨rfl, rfl, rfl⟩, rfl, (fun e he => by simp at he), .nil, .nil, (by decide), (by rfl), List.Pairwise.nil, by
    show _ ∨ (!w.params.followText "set-order") = true
    cases w.params.followText "set-order"
    · exact .inr rfl
    · exact .inl rfl⟩
section
variable {P : Program} {w : World} {A : Around} {E : Value → Shared → Prop} {s : Shared} {D : Addr} {ks : List Str}
open L2 in
theorem setX_tail {gw : Bool → Sem Unit} (hg : ∀ (b : Bool) (s1 : Shared) (Qz : Unit → Shared → Prop), Qz () s1 → wpAny (model P w) A (gw b) Qz E s1)
    {o : Obj} {es : Array (Int × Value)} {ep : Nat} {t : SetTable} (ho : s.heap.get? D = some o) (hex : o.ExactSet) (hd : o.data = .set es ep t)
    {fs : Array (Int × Value)} {t2 : SetTable} {ms : List Str} (g1 : ∀ e ∈ fs.toList, GoodX w e) (p1 : (fs.toList.map xOf).Perm ms) (n1 : ms.Nodup)
    (few : fs.size < scanBound) (fit : t2.fits fs.size = true) (rs : Ris t2.place.toList) (ld : w.params.followText "set-order" = true ∨ t2.led = true) {dm : Bool} {R : Option Bool → Shared → Prop}
    (fin : ∀ h2, Heap.SameBut D s.heap h2 → SetX w h2 D ms → R (some true) { s with heap := h2 }) :
    wpAny (model P w) A (do
        storeSet D fs t2
        if (!dm && t2.tooFull) = true then do
            gw (relayAll t2 fs (SetTable.grown fs.size)).2.2
            storeSet D (relayAll t2 fs (SetTable.grown fs.size)).1 (relayAll t2 fs (SetTable.grown fs.size)).2.1
            pure (some true)
          else pure (some true)) R E s := by
  refine wpAny_bind (wpAny_storeSet_of ho hd ?_ (fits_of_scanBound few))
  have at1 := store_at (es' := fs) (t' := t2) ho hd
  have but1 := Heap.SameBut.update s.heap D (Obj.putSet fs t2)
  split
  · have pm := relayAll_perm t2 fs (SetTable.grown fs.size)
    have f3 := relayAll_fits t2 fs (SetTable.grown fs.size)
    have r3 := relayAll_ris t2 fs (SetTable.grown fs.size)
    have l3 := relayAll_led t2 fs (SetTable.grown fs.size)
    generalize relayAll t2 fs (SetTable.grown fs.size) = Zr at pm f3 r3 l3 ⊢
    obtain ⟨gs, t3, gv⟩ := Zr
    dsimp only at pm f3 r3 l3 ⊢
    have zs : gs.size = fs.size := by rw [← Array.length_toList, pm.length_eq, Array.length_toList]
    have few3 : gs.size < scanBound := by rw [zs]; exact few
    refine wpAny_bind (hg _ _ _ ?_)
    refine wpAny_bind (wpAny_storeSet_of at1 rfl ?_ (fits_of_scanBound few3))
    have at3 := store_at (es' := gs) (t' := t3) at1 rfl
    refine wpAny_pure (fin _ (but1.trans (Heap.SameBut.update _ D _)) ?_)
    exact ⟨_, gs, _, t3, at3, hex, rfl, fun e he => g1 e (pm.mem_iff.mp he), (pm.map xOf).trans p1, n1, few3, f3, r3, ld.imp id fun y => by rw [l3]; exact y⟩
  · exact wpAny_pure (fin _ but1 ⟨_, fs, _, t2, at1, hex, rfl, g1, p1, n1, few, fit, rs, ld⟩)
open L2 in
theorem setX_add {k : Str} {tk : Tok} {Q : Bool → Shared → Prop} (R : SetX w s.heap D ks) (room : ks.length + 1 < scanBound)
    (fin : ∀ b h2, Heap.SameBut D s.heap h2 → SetX w h2 D (addX ks k) → Q b { s with heap := h2 }) : wpAny (model P w) A (setAddHashed D (.str k tk) ((strKind P w).hash k)) Q E s := by
  obtain ⟨o, es, ep, t, ho, hex, hd, g, pm0, n0, few, fit, rs, ld⟩ := R
  have hkey : (strKind P w).is k (.str k tk) = true := strKind_is P w k tk
  have sca : (Value.str k tk).scannable = true := rfl
  have hel : ElemsOf (strKind P w) es.toList := goodX_elems g
  have lz : es.size = ks.length := by rw [← Array.length_toList, ← pm0.length_eq, List.length_map]
  unfold setAddHashed setAddHashedIn
  refine wpAny_holding (wpAny_bind (wpAny_setState_of ho hd fit ?_))
  dsimp only
  rw [byScan_of sca few hel]
  simp only [↓reduceIte]
  unfold setAddByScan
  refine wpAny_bind ?_
  refine wpAny_bind (wpAny_rule ?_)
  refine wpAny_bind (wpAny_setScan_of hkey ho hd fit hel ?_)
  cases fi : List.findIdx? (fun e => (strKind P w).is k e.2) es.toList with
  | some j =>
    dsimp only
    obtain ⟨hj, pj, _⟩ := List.findIdx?_eq_some_iff_getElem.mp fi
    have hk : k ∈ ks := by
      have pj : (strKind P w).is k (es.toList[j]).2 = true := pj
      rw [goodX_is (g _ (List.getElem_mem hj))] at pj
      exact pm0.mem_iff.mp (List.mem_map.mpr ⟨_, List.getElem_mem hj, of_decide_eq_true pj⟩)
    refine wpAny_pure (wpAny_pure ?_)
    have q := fin false s.heap (Heap.SameBut.refl D s.heap)
    unfold addX at q
    rw [if_pos hk] at q
    exact q ⟨o, es, ep, t, ho, hex, hd, g, pm0, n0, few, fit, rs, ld⟩
  | none =>
    dsimp only
    have hk : k ∉ ks := fun y => by
      obtain ⟨e, he, ee⟩ := List.mem_map.mp (pm0.mem_iff.mpr y)
      have c := List.findIdx?_eq_none_iff.mp fi e he
      rw [goodX_is (g e he), decide_eq_true ee] at c
      cases c
    have gv : ∀ (b : Bool) {s1 : Shared} {Qz : Unit → Shared → Prop}, Qz () s1 → wpAny (model P w) A (match b with | true => rule "set.scan.the-table-gave-way" | false => pure ()) Qz E s1 :=
      fun b s1 Qz q => by cases b <;> first | exact wpAny_pure q | exact wpAny_rule q
    have pm := layNew_perm t es ((strKind P w).hash k) (.str k tk)
    have f1 := layNew_fits t es ((strKind P w).hash k) (.str k tk)
    have r1 := layNew_ris t es ((strKind P w).hash k) (.str k tk) rs
    have l1 := layNew_led t es ((strKind P w).hash k) (.str k tk)
    generalize layNew t es ((strKind P w).hash k) (.str k tk) = Zr at pm f1 r1 l1 ⊢
    obtain ⟨fs, t1, dm, gave⟩ := Zr
    dsimp only at pm f1 r1 l1 ⊢
    rw [Array.toList_push] at pm
    have pc : fs.toList.Perm (((strKind P w).hash k, Value.str k tk) :: es.toList) := pm.trans (List.perm_append_singleton _ _)
    have pk : (fs.toList.map xOf).Perm (k :: ks) := (pc.map xOf).trans (pm0.cons k)
    have g1 : ∀ e ∈ fs.toList, GoodX w e := fun e he => by
      rcases List.mem_cons.mp (pc.mem_iff.mp he) with y | y
      · rw [y]; exact ⟨k, tk, rfl⟩
      · exact g e y
    have zs : fs.size = ks.length + 1 := by rw [← Array.length_toList, pc.length_eq, List.length_cons, Array.length_toList, lz]
    have few1 : fs.size < scanBound := by rw [zs]; exact room
    have led1 : w.params.followText "set-order" = true ∨ t1.led = true := ld.imp id fun y => by rw [l1]; exact y
    have nd1 : (k :: ks).Nodup := List.nodup_cons.mpr ⟨hk, n0⟩
    have fin2 : ∀ h2, Heap.SameBut D s.heap h2 → SetX w h2 D (k :: ks) → Q true { s with heap := h2 } := fun h2 sb r => by
      have q := fin true h2 sb
      unfold addX at q
      rw [if_neg hk] at q
      exact q r
    refine wpAny_bind (gv _ ?_)
    split
    · refine wpAny_bind ?_
      rw [hashByValue_scannable 8 sca]
      refine wpAny_pure ?_
      refine setX_tail ?_ ho hex hd g1 pk nd1 few1 ?_ ?_ ?_ ?_
      · intro b s1 Qz q; cases b <;> first | exact wpAny_pure q | exact wpAny_rule q
      · first | (split <;> first | exact f1 | exact SetTable.fits_plain_off f1) | exact f1
      · first | (split <;> exact r1) | exact r1
      · first | (split <;> exact led1) | exact led1
      · intro h2 sb r; dsimp only; exact wpAny_pure (fin2 h2 sb r)
    · refine wpAny_bind (wpAny_pure ?_)
      simp only [↓reduceIte]
      refine setX_tail ?_ ho hex hd g1 pk nd1 few1 f1 r1 led1 ?_
      · intro b s1 Qz q; cases b <;> first | exact wpAny_pure q | exact wpAny_rule q
      · intro h2 sb r; dsimp only; exact wpAny_pure (fin2 h2 sb r)
end
theorem accX_len (ts : List Str) : ∀ ks : List Str, (ts.foldl addX ks).length ≤ ks.length + ts.length := by
  induction ts with
  | nil => intro ks; exact Nat.le_refl _
  | cons x ts ih =>
    intro ks
    have := ih (addX ks x)
    have h2 : (addX ks x).length ≤ ks.length + 1 := by
      unfold addX
      split
      · omega
      · rw [List.length_cons]; omega
    rw [List.foldl_cons, List.length_cons]
    omega
section
variable {prog : Program} {w : World} {A : Around} {R : Result → Shared → Prop} {It : Addr} {fz wz : List Addr} {Gz : Array GenState → Array GenState → Prop} {m : Nat} {Pz : Nat → Value → Prop} {Sz : Nat → Shared → Prop}
theorem loopX (Wk : WalksS prog w A.in1 It fz wz Gz m Pz Sz) (D : Addr) (nD : D ∉ fz) (ts : List Str) (lm : ts.length = m) (few : m + 1 < scanBound) (isT : ∀ i v, Pz i v → ∃ t, v = .str (ts.getD i Str.empty) t) :
    ∀ (c i : Nat) (s : Shared), m - i = c → i ≤ m → Sz i s → SetX w s.heap D (accX (ts.take i)) →
      (∀ s2, Moved (D :: wz) Gz s s2 → SetX w s2.heap D (accX ts) → R (.ok (.ret .none)) s2) → codeAny (model prog w) A (.builtin "set.update.loop" ⟨[.ref D, .ref It], []⟩) R s := by
  have nDw : D ∉ wz := fun z => nD (Wk.sub _ z)
  have more : ∀ b ∈ wz, b ∈ D :: wz := fun b z => List.mem_cons_of_mem _ z
  intro c
  induction c with
  | zero =>
    intro i s ec le st so fin
    obtain rfl : i = m := by omega
    refine codeAny_builtin F.entry_set_update_loop ?_
    rw [Around.under_plainId F.plain_set_update_loop _]
    show wpAny _ A.in1 (pyNext (.ref It) >>= _) _ _ s
    refine wpAny_bind (Wk.done s _ _ st fun s1 mv => ?_)
    rw [List.take_of_length_le (by omega)] at so
    exact wpAny_pure (fin s1 (mv.mono more) (so.at fun o e => mv.heap D o nDw e))
  | succ c again =>
    intro i s ec le st so fin
    have lt : i < m := by omega
    refine codeAny_builtin F.entry_set_update_loop ?_
    rw [Around.under_plainId F.plain_set_update_loop _]
    show wpAny _ A.in1 (pyNext (.ref It) >>= _) _ _ s
    refine wpAny_bind (Wk.item i s _ _ lt st fun v s1 hv st1 mv => ?_)
    obtain ⟨tk, rfl⟩ := isT i v hv
    have so1 : SetX w s1.heap D (accX (ts.take i)) := so.at fun o e => mv.heap D o nDw e
    obtain ⟨x, ex⟩ : ∃ x, x = ts.getD i Str.empty := ⟨_, rfl⟩
    have gx : ts[i]? = some x := by
      rw [ex, List.getD_eq_getElem?_getD, List.getElem?_eq_getElem (by omega)]
      rfl
    rw [← ex]
    show wpAny _ A.in1 (holding [Value.str x tk] (setAdd D (.str x tk)) >>= _) _ _ s1
    refine wpAny_bind (wpAny_holding ?_)
    unfold setAdd
    refine wpAny_holding (wpAny_bind ((PySem.strKind prog w).pyHash (k := x) (strKind_is _ _ _ _) ?_))
    have la := accX_len (ts.take i) []
    have la2 : (accX (ts.take i)).length ≤ i := by
      have : (ts.take i).length ≤ i := by rw [List.length_take]; exact Nat.min_le_left _ _
      show ((ts.take i).foldl addX []).length ≤ i
      rw [List.length_nil] at la
      omega
    refine setX_add (s := { s1 with toks := s1.toks + 1 }) so1 (by omega) fun b h2 but so2 => ?_
    have so3 : SetX w h2 D (accX (ts.take (i + 1))) := by
      have e : accX (ts.take (i + 1)) = addX (accX (ts.take i)) x := by
        unfold accX
        rw [List.take_add_one, gx, List.foldl_append]
        rfl
      rw [e]
      exact so2
    refine wpAny_pure ⟨plainId_quiet F.plain_set_update_loop _, again (i + 1) _ (by omega) lt (Wk.frame _ s1 _ _ st1 (Nat.le_succ _) fun b hb o e => ?_) so3 fun s3 mv3 so4 => ?_⟩
    · rw [but.2 b (fun z : b = D => nD (by rw [← z]; exact hb))]
      exact e
    · refine fin s3 (Moved.trans Wk.gtrans ((mv.mono more).then_heap (Nat.le_succ _) fun b o hb e => ?_) mv3) so4
      rw [but.2 b (fun z : b = D => hb (by rw [z]; exact List.mem_cons_self))]
      exact e
end
end KX

set_option maxRecDepth 100000
set_option maxHeartbeats 4000000
/-! Ex43: set(t), sorted(set(t)) of a tuple of texts -/
namespace KX
open PySem PySem.Spec PyProof.Rows
section
variable {prog : Program} {w : World} {A : Around} {E : Value → Shared → Prop} {s : Shared}
open L2 in
theorem call_setX {tp : Addr} {ys : Array Value} {ts : List Str} {Q : Value → Shared → Prop} (noh : A.handled = none) (ht : s.heap.IsTuple tp ys) (are : StrsAre ys.toList ts) (few : ts.length + 1 < scanBound)
    (fin : ∀ (h2 : Heap) (tk : Nat), SetX w h2 s.heap.objs.size (accX ts) → (∀ b o, b < s.heap.objs.size → s.heap.get? b = some o → h2.get? b = some o) →
      Q (.ref s.heap.objs.size) { s with heap := h2, toks := tk }) : wpAny (model prog w) A (call (.type "set") [.ref tp]) Q E s := by
  obtain ⟨c1, tl1, gmro⟩ := PySem.F.called_set.mro
  have gmade := PySem.F.called_set.made
  have gsub := PySem.F.called_set.sub
  have g1 := PySem.F.called_set.notType
  have g2 := PySem.F.called_set.canCreate
  have gct := PySem.F.typeCall_set_1 (.ref tp)
  refine wpAny_call (codeAny_of_tree (show wpAny _ _ (callAny (.type "set") _) _ _ _ from wpAny_pure ⟨Code.quiet_builtin _ (by decide +kernel), codeAny_builtin PySem.F.entry_type_call ?_⟩))
  rw [Around.under_plain (weight_type_call_type "set" [.ref tp] []) rfl]
  repeat (any_goals (first | wp_step | assumption))
  refine codeAny_mono (code_set_led1 (.ref tp) (E := E) (Q₁ := fun ob t1 => ob = .ref s.heap.objs.size ∧ t1 = { s with heap := s.heap.push (nSet (!w.params.followText "set-order")) }) ⟨rfl, rfl⟩) fun r1 t1 k1 => ?_
  cases r1 with
  | error e => exact k1
  | ok f1 =>
    cases f1 with
    | ret ob =>
      obtain ⟨eo, et⟩ := k1
      subst eo et
      have atS : (s.heap.push (nSet (!w.params.followText "set-order"))).get? s.heap.objs.size = some (nSet (!w.params.followText "set-order")) := Heap.get?_push_size _ rfl
      have tyS : Shared.TypeIs { s with heap := s.heap.push (nSet (!w.params.followText "set-order")) } (.ref s.heap.objs.size) "set" := ⟨_, atS, rfl⟩
      have gli := PySem.F.called_set.init.lookup
      have gbi := PySem.F.called_set.init.bind (.ref s.heap.objs.size)
      repeat (any_goals (first | wp_step | assumption))
      refine codeAny_mono (codeAny_call_builtin (R := wants (fun r t2 => r = .none ∧ ∃ h2 tk, t2 = { s with heap := h2, toks := tk } ∧ SetX w h2 s.heap.objs.size (accX ts) ∧
          (∀ b o, b < s.heap.objs.size → s.heap.get? b = some o → h2.get? b = some o)) E) PySem.F.called_set.init.plain PySem.F.entry_set_init (check_set_init_1 tyS ?_)) fun r2 t2 k2 => ?_
      · obtain ⟨⟨oc, od, odat, osl⟩, eT, ec, nT, ed⟩ := ht
        simp only at ec ed
        subst ec
        subst ed
        have eT2 : (s.heap.push (nSet (!w.params.followText "set-order"))).get? tp = some { cls := .type "tuple", dict := od, data := .seq ys nT, slots := osl } := Heap.get?_push_of_some _ eT
        have b1 := PySem.F.sub_tuple_set
        have b2 := PySem.F.sub_tuple_frozenset
        have b3 : (Value.type "tuple" == Value.type "dict") = false := by decide
        have isT : (s.heap.push (nSet (!w.params.followText "set-order"))).IsTuple tp ys := ⟨_, eT2, rfl, nT, rfl⟩
        unfold Builtin.«set.__init__» noKeywords Builtin.Frozenset.updateFrom
        generalize kept : pyIter = iterF
        wp_walk
        subst kept
        refine wpAny_pyIter_tuple isT (wpAny_bind (wpAny_runValue ?_))
        have ltp : tp < s.heap.objs.size := Heap.lt_size eT
        have noh3 : A.in1.in1.in1.handled = none := by simp [noh]
        have szP : (s.heap.push (nSet (!w.params.followText "set-order"))).objs.size = s.heap.objs.size + 1 := Heap.size_push ..
        have ne1 : tp ≠ (s.heap.push (nSet (!w.params.followText "set-order"))).objs.size := by rw [szP]; exact Nat.ne_of_lt (Nat.lt_succ_of_lt ltp)
        have ne2 : s.heap.objs.size ∉ [(s.heap.push (nSet (!w.params.followText "set-order"))).objs.size, tp] := by
          rw [szP]
          simp only [List.mem_cons, List.not_mem_nil, or_false, not_or]
          exact ⟨Nat.ne_of_lt (Nat.lt_succ_self _), Nat.ne_of_gt ltp⟩
        have lz : ts.length = ys.size := by rw [← StrsAre.len_eq are, Array.length_toList]
        refine loopX ((Walks.tuple noh3 _ tp ne1 ys).toS) s.heap.objs.size ne2 ts lz (by rw [← lz]; exact few) (fun i v hv => SS.strs_at are i v (by rw [Array.getElem?_toList]; exact hv)) (ys.size - 0) 0 _ (by omega) (Nat.zero_le _)
          ⟨⟨_, Heap.get?_push_size _ rfl, rfl, rfl⟩, (isT.push _)⟩ ?z0 ?z1
        case z0 =>
          have gg : ((s.heap.push (nSet (!w.params.followText "set-order"))).push { cls := .type "tuple_iterator", data := .fields #[.ref tp, .int 0 0] }).get? s.heap.objs.size = some (nSet (!w.params.followText "set-order")) := Heap.get?_push_of_some _ atS
          exact setX_new gg
        case z1 =>
          intro t3 mv so
          obtain ⟨h3, g3, d3, k3, o3⟩ := t3
          obtain rfl : g3 = s.gens := mv.gens
          obtain rfl : d3 = s.drawn := mv.drawn
          obtain rfl : o3 = s.os := mv.os
          show wpAny _ _ _ _ _ _
          refine wpAny_pure (show wpAny _ _ (ret Value.none) _ _ _ from wpAny_pure ⟨rfl, h3, k3, rfl, so, fun b o hb e => ?_⟩)
          refine mv.heap b o ?_ (Heap.get?_push_of_some _ (Heap.get?_push_of_some _ e))
          rw [szP]
          simp only [List.mem_cons, List.not_mem_nil, or_false, not_or]
          exact ⟨Nat.ne_of_lt hb, Nat.ne_of_lt (Nat.lt_succ_of_lt hb)⟩
      · cases r2 with
        | error e => exact k2
        | ok f2 =>
          cases f2 with
          | ret r =>
            obtain ⟨rfl, h2, tk, rfl, so, old⟩ := k2
            repeat (any_goals (first | wp_step | assumption))
            exact fin _ _ so old
          | _ => exact k2.elim
    | _ => exact k1.elim
end
end KX

set_option maxRecDepth 100000
set_option maxHeartbeats 4000000
/-! Ex44: sorted(set(t)) of texts -/
namespace KX
open PySem PySem.Spec PyProof.Rows
section
variable {prog : Program} {w : World} {A : Around} {E : Value → Shared → Prop} {s : Shared}
open L2 PySem.W in
theorem sorted_setX {D : Addr} {ks : List Str} {Q : Value → Shared → Prop} (R : SetX w s.heap D ks) (hh : A.handled = none) (hu : A.units + 4 < cLine)
    (fin : ∀ (s2 : Shared) (p : Addr) (out : List Value) (c : Nat), (∀ b o, s.heap.get? b = some o → s2.heap.get? b = some o) → s2.gens = s.gens → s2.os = s.os → s.heap.objs.size ≤ p →
      (∃ ms : List Str, ms.Perm ks ∧ s2.heap.get? p = some (seqObj "list" out.toArray c) ∧ Vals ((ms.mergeSort (dataLe false PyData.str)).map V.str) out) → Q (.ref p) s2) :
    wpAny (model prog w) A (call (.builtin "sorted") [.ref D]) Q E s := by
  obtain ⟨o, es, ep, t, ho, hex, hd, g, pm0, n0, few, fit, rs, ld⟩ := R
  have lz : es.size = ks.length := by rw [← Array.length_toList, ← pm0.length_eq, List.length_map]
  refine Calls.call_function_entry kind_sorted plain_sorted entry_sorted (args_sorted1 _) ?_
  unfold Builtin.«sorted»
  refine wpAny_bind (m := checkCount "sorted" 1 1 _) (wpAny_pure ?_)
  refine wpAny_bind (collect_set (A := A.in1) hh ⟨o, ho, hex.1, hd⟩ fit few rs ld fun s1 vs k1 hz g1 o1 pm => ?_)
  have each : ∀ v ∈ vs, ∃ x t, v = Value.str x t := fun v hv => by
    obtain ⟨e, he, q⟩ := List.mem_map.mp (pm.mem_iff.mp hv)
    obtain ⟨x, t, rfl⟩ := g e he
    exact ⟨x, t, q.symm⟩
  have xo : ∀ l : List Value, (∀ v ∈ l, ∃ x t, v = Value.str x t) → EachIs (fun v (b : Str) => RelV (.str b) v) l (l.map fun v => xOf (0, v)) := by
    intro l
    induction l with
    | nil => intro _; exact .nil
    | cons v l ih =>
      intro h
      obtain ⟨x, t, rfl⟩ := h v List.mem_cons_self
      exact .cons ⟨t, rfl⟩ (ih fun u hu => h u (List.mem_cons_of_mem _ hu))
  have eR := xo vs each
  have pk : (vs.map fun v => xOf (0, v)).Perm ks := by
    have q := pm.map fun v => xOf (0, v)
    rw [List.map_map] at q
    exact q.trans pm0
  generalize (vs.map fun v => xOf (0, v)) = ms at eR pk
  have lv : vs.length = ks.length := by rw [eR.length, pk.length_eq]
  have hlen : vs.length ≤ sizeLine := by rw [lv, ← lz]; exact fits_of_scanBound few
  refine wpAny_bind (wpAny_newList ?_ hlen)
  have at1 : (s1.heap.push (seqObj "list" vs.toArray 0)).get? s1.heap.objs.size = some (seqObj "list" vs.toArray 0) := Heap.get?_push_size _ rfl
  have al : AllAlike (ms.map PyData.str) := AllAlike.of fun a b => by simp [alike]
  have er : ∀ h : Heap, EachIs (fun v (b : Str) => ∃ as, Reads h v (PyData.str b) as) vs ms := fun h => eR.mono fun v b r => by
    obtain ⟨t, rfl⟩ := r
    exact ⟨[], .str b t⟩
  refine wpAny_bind (wpAny_holding (wpAny_call_entry_kw slot_list_sort ⟨_, at1, rfl⟩ entry_list_sort ?body (args_list_sort _)))
  case body =>
    show wpAny (model prog w) A.in1.in1 (Builtin.«list.sort» ⟨[.ref s1.heap.objs.size], []⟩) _ _ { s1 with heap := s1.heap.push (seqObj "list" vs.toArray 0) }
    refine list_sort_vals (s := { s1 with heap := s1.heap.push (seqObj "list" vs.toArray 0) }) at1 (SortsAt.data (s := { s1 with heap := sortingHeap (s1.heap.push (seqObj "list" vs.toArray 0)) s1.heap.objs.size vs }) (each_map (R := fun v d => ∃ as, Reads (sortingHeap (s1.heap.push (seqObj "list" vs.toArray 0)) s1.heap.objs.size vs) v d as) PyData.str (er _)) al (Sortable.others fun n => ⟨by simp, by simp⟩) (bound_map fun b _ => by
      simp only [PyData.depth, Around.in1_units]
      omega)) hlen ?_
    have fe := sortVals_data (h' := sortingHeap (s1.heap.push (seqObj "list" vs.toArray 0)) s1.heap.objs.size vs) (enc := PyData.str) false eR (er _) al
    have rel : ∀ {us : List Value} {ps : List Str}, EachIs (fun v (b : Str) => RelV (.str b) v) us ps → Vals (ps.map V.str) us := by
      intro us ps e
      induction e with
      | nil => exact .nil
      | cons h t ih => exact .cons h ih
    generalize sortVals (dataKind (sortingHeap (s1.heap.push (seqObj "list" vs.toArray 0)) s1.heap.objs.size vs) (ms.map PyData.str)) false vs vs = out at fe
    obtain ⟨c, hc⟩ := sortedHeap_at (vs := vs) (out := out.toArray) at1
    refine ⟨.none, rfl, wpAny_pure ⟨_, rfl, fin _ s1.heap.objs.size out c (fun b u e => ?_) g1 o1 hz ⟨ms, pk, hc, rel fe⟩⟩⟩
    have q := k1 b u e
    have lt := Heap.lt_size q
    show (sortedHeap (s1.heap.push (seqObj "list" vs.toArray 0)) s1.heap.objs.size vs out.toArray).get? b = some u
    rw [sortedHeap_old (Nat.ne_of_lt lt) (by rw [size_push']; exact Nat.lt_succ_of_lt lt)]
    exact Heap.get?_push_of_some _ q
end
end KX
namespace KX
open PySem PySem.Spec PyProof.Rows L2
/-- a set of texts as an object -/
def SetXO (w : World) (D : Addr) (ks : List Str) : HO := .ext fun h => SetX w h D ks
section
variable {X : Cx}
theorem setXO_new {w : World} {P : Program} {H : Hp} {h : Heap} {D : Addr} {ks : List Str} (R : SetX w h D ks) : ObjOk P w H h D (SetXO w D ks) := by
  have ⟨o, _, _, _, ho, _⟩ := R
  exact ⟨R, ⟨o, ho⟩, fun h1 h2 p k => SetX.at p k⟩
/-- set(t), t a tuple of texts -/
def rSetXT (K : PySem.W.Frag) (w : World) : List V → Hp → VK → Prop := fun xs H Q => ∃ (l : Addr) (ts : List Str), xs = [.ref l] ∧ SqT K H l (ts.map V.str) ∧ ts.length ≤ 1000 ∧ ∀ p, H p = none → Q (.ref p) (upd H p (SetXO w p (accX ts)))
theorem cr_setXT (cm : X.calm = true) : CallR X (.type "set") (rSetXT X.K X.w) := by
  intro pins s σ H xs us Q I r h
  obtain ⟨l, ts, rfl, hq, few, q⟩ := h
  obtain ⟨u, rfl, ru⟩ := vals1 r
  cases ru
  obtain ⟨its, rv, pl, hz⟩ := I.tuple hq
  have hb : (1001 : Nat) < scanBound := by decide
  refine call_setX (I.ok.hd cm) pl (ts := ts) (by simpa using strsAre_of rv) (by omega) fun h2 tk so old => ?_
  exact ⟨.ref _, upd H s.heap.objs.size (SetXO X.w s.heap.objs.size (accX ts)), I.laid (t' := tk) (fun b o e => old b o (Heap.lt_size e) e) (Nat.le_refl _) (setXO_new so), rfl, q _ (I.hok.fresh (Nat.le_refl _))⟩
/-- sorted(s), s a set of texts -/
def rSortedX (w : World) : List V → Hp → VK → Prop := fun xs H Q => ∃ (D : Addr) (ks : List Str), xs = [.ref D] ∧ H D = some (SetXO w D ks) ∧ ks.length ≤ 1000 ∧ ∀ (ms : List Str) (p : Addr), ms.Perm ks → H p = none → Q (.ref p) (upd H p (.lst ((ms.mergeSort (PySem.W.dataLe false PyData.str)).map V.str)))
theorem cr_sortedX {k : Nat} (cm : X.calm = true) (hr : Room k X.A) : CallR X (.builtin "sorted") (rSortedX X.w) := by
  intro pins s σ H xs us Q I r h
  obtain ⟨D, ks, rfl, ha, few, q⟩ := h
  obtain ⟨u, rfl, ru⟩ := vals1 r
  cases ru
  have R : SetX X.w s.heap D ks := (I.hok D _ ha).1
  have hun := hr.un
  refine sorted_setX R (I.ok.hd cm) (by omega) fun s2 p out c kp g1 o1 hp ⟨ms, pm, hg, rv⟩ => ?_
  have hlen : ((ms.mergeSort (PySem.W.dataLe false PyData.str)).map V.str).length ≤ sizeLine := by
    have hb : (1000 : Nat) ≤ sizeLine := by decide
    rw [List.length_map, List.length_mergeSort, pm.length_eq]
    omega
  have hn : H p = none := I.hok.fresh hp
  have J : Inv X pins σ (upd H p (.lst ((ms.mergeSort (PySem.W.dataLe false PyData.str)).map V.str))) { s with heap := s2.heap, gens := s2.gens, drawn := s2.drawn, toks := s2.toks } :=
    I.call (ch := []) (Un.laid kp hp hn) (I.hok.laid kp hp ⟨hlen, out, c, rv, hg⟩) (by rw [g1]; exact I.bare) (fun _ z => nomatch z)
  have e : s2 = { s with heap := s2.heap, gens := s2.gens, drawn := s2.drawn, toks := s2.toks } := by
    cases s2
    cases s
    cases o1
    rfl
  rw [e]
  exact ⟨.ref p, _, J, rfl, q ms p pm hn⟩
end
end KX

set_option maxRecDepth 100000
set_option maxHeartbeats 4000000
/-! Ex48: set(xs) of nested tuples: all members added -/
namespace KX
open PySem PySem.Spec PyProof.Rows L2
theorem key_nodup_len : ∀ (l D : List NestedKey), l.Nodup → (∀ x ∈ l, x ∈ D) → l.length ≤ D.length
  | [], _, _, _ => Nat.zero_le _
  | x :: l, D, h, hs => by
    obtain ⟨h1, h2⟩ := List.nodup_cons.mp h
    have hx := hs x List.mem_cons_self
    have ih := key_nodup_len l (D.erase x) h2 fun y hy => by
      have ne : y ≠ x := fun e => h1 (e ▸ hy)
      exact (List.mem_erase_of_ne ne).mpr (hs y (List.mem_cons_of_mem _ hy))
    have e := List.length_erase_of_mem hx
    have p := List.length_pos_of_mem hx
    rw [List.length_cons]
    omega
section
variable {prog : Program} {w : World} {A : Around} {E : Value → Shared → Prop} {s : Shared} {R : Result → Shared → Prop} {It : Addr} {fz wz : List Addr} {Gz : Array GenState → Array GenState → Prop} {m : Nat} {Pz : Nat → Value → Prop} {Sz : Nat → Shared → Prop}
/-- of the members ks, each key once -/
def GotN (w : World) (h : Heap) (D : Addr) (ks : List (Addr × NestedKey)) : Prop :=
  ∃ L es ep t, SetN w h D L es ep t ∧ (∀ k ∈ L, k ∈ ks) ∧ ∀ k ∈ ks, k.2 ∈ L.map (·.2)
theorem SetN.re {h h' : Heap} {D : Addr} {ms : List (Addr × NestedKey)} {es : Array (Int × Value)} {ep : Nat} {t : SetTable} (R : SetN w h D ms es ep t) (k : ∀ o, h.get? D = some o → h'.get? D = some o) (key : ∀ m ∈ ms, IsN h' m.2 m.1) : SetN w h' D ms es ep t := by
  obtain ⟨o, ho, r⟩ := R.ob
  exact ⟨⟨o, k o ho, r⟩, R.ents, R.tab, R.one, key, R.led, R.room, R.few⟩
theorem GotN.re {h h' h0 : Heap} {D : Addr} {ks all : List (Addr × NestedKey)} (G : GotN w h D ks) (k : ∀ o, h.get? D = some o → h'.get? D = some o) (sub : ∀ k ∈ ks, k ∈ all) (kn : ∀ k ∈ all, IsN h0 k.2 k.1) (up : ∀ b o, h0.get? b = some o → h'.get? b = some o) : GotN w h' D ks := by
  obtain ⟨L, es, ep, t, R, g1, g2⟩ := G
  exact ⟨L, es, ep, t, R.re k fun m hm => isN_keep (kn m (sub m (g1 m hm))) up, g1, g2⟩
theorem setN_new {h : Heap} {D : Addr} (ho : h.get? D = some (nSet (!w.params.followText "set-order"))) : GotN w h D [] :=
  ⟨[], #[], 0, _, ⟨⟨_, ho, ⟨rfl, rfl, rfl⟩, rfl⟩, rfl, ⟨List.Pairwise.nil, rfl, rfl, .inl rfl, (fun x hx => by cases hx), fun i h j e => by cases e⟩, List.nodup_nil, (fun m hm => by cases hm), by
    show _ ∨ (!w.params.followText "set-order") = true
    cases w.params.followText "set-order"
    · exact .inr rfl
    · exact .inl rfl, (show 0 * 5 < 7 * 3 by decide), (show 0 < 64 by decide)⟩, (fun k hk => by cases hk), fun k hk => by cases hk⟩
theorem loopN (Wk : WalksS prog w A.in1 It fz wz Gz m Pz Sz) (D : Addr) (nD : D ∉ fz) (ks : List (Addr × NestedKey)) (lm : ks.length = m) (ds : List NestedKey) (few : ds.length ≤ 62) (dn : ∀ k ∈ ks, k.2 ∈ ds) (hu : A.units + 16 < cLine)
    (h0 : Heap) (kn : ∀ k ∈ ks, IsN h0 k.2 k.1) (nw : ∀ b ∈ D :: wz, h0.get? b = none) (isT : ∀ i v, Pz i v → ∃ k, ks[i]? = some k ∧ v = .ref k.1) :
    ∀ (c i : Nat) (s : Shared), m - i = c → i ≤ m → Sz i s → (∀ b o, h0.get? b = some o → s.heap.get? b = some o) → GotN w s.heap D (ks.take i) →
      (∀ s2, Moved (D :: wz) Gz s s2 → GotN w s2.heap D ks → R (.ok (.ret .none)) s2) → codeAny (model prog w) A (.builtin "set.update.loop" ⟨[.ref D, .ref It], []⟩) R s := by
  have nDw : D ∉ wz := fun z => nD (Wk.sub _ z)
  have more : ∀ b ∈ wz, b ∈ D :: wz := fun b z => List.mem_cons_of_mem _ z
  have upm : ∀ {s s1 : Shared}, (∀ b o, h0.get? b = some o → s.heap.get? b = some o) → Moved wz Gz s s1 → ∀ b o, h0.get? b = some o → s1.heap.get? b = some o := fun up mv b o e => by
    refine mv.heap b o (fun z => ?_) (up b o e)
    rw [nw b (more b z)] at e
    cases e
  intro c
  induction c with
  | zero =>
    intro i s ec le st up so fin
    obtain rfl : i = m := by omega
    refine codeAny_builtin F.entry_set_update_loop ?_
    rw [Around.under_plainId F.plain_set_update_loop _]
    show wpAny _ A.in1 (pyNext (.ref It) >>= _) _ _ s
    refine wpAny_bind (Wk.done s _ _ st fun s1 mv => ?_)
    rw [List.take_of_length_le (by omega)] at so
    exact wpAny_pure (fin s1 (mv.mono more) (so.re (fun o e => mv.heap D o nDw e) (fun k hk => hk) kn (upm up mv)))
  | succ c again =>
    intro i s ec le st up so fin
    have lt : i < m := by omega
    refine codeAny_builtin F.entry_set_update_loop ?_
    rw [Around.under_plainId F.plain_set_update_loop _]
    show wpAny _ A.in1 (pyNext (.ref It) >>= _) _ _ s
    refine wpAny_bind (Wk.item i s _ _ lt st fun v s1 hv st1 mv => ?_)
    obtain ⟨⟨x, q⟩, ek, rfl⟩ := isT i v hv
    have km := List.mem_of_getElem? ek
    have up1 := upm up mv
    have so1 : GotN w s1.heap D (ks.take i) := so.re (fun o e => mv.heap D o nDw e) (fun k hk => List.mem_of_mem_take hk) kn up1
    have kx : IsN s1.heap q x := isN_keep (kn _ km) up1
    show wpAny _ A.in1 (holding [Value.ref x] (setAdd D (.ref x)) >>= _) _ _ s1
    refine wpAny_bind (wpAny_holding ?_)
    unfold setAdd
    have hu1 : A.in1.units = A.units + 1 := Around.in1_units A
    refine wpAny_holding (wpAny_bind (pyHash_key q _ _ _ _ kx.1 (by have := kx.2; omega) ?_))
    obtain ⟨L, es, ep, t, RR, g1, g2⟩ := so1
    have few2 : L.length ≤ 62 := by
      have h := key_nodup_len (L.map (·.2)) ds RR.one fun y hy => by
        obtain ⟨k, hk, e⟩ := List.mem_map.mp hy
        rw [← e]
        exact dn k (List.mem_of_mem_take (g1 k hk))
      rw [List.length_map] at h
      omega
    refine add_key (s := { s1 with toks := s1.toks + q.draws }) RR kx (by omega) (by omega) fun b h2 ns fs e2 t2 but R2 old new => ?_
    have et : ks.take (i + 1) = ks.take i ++ [(x, q)] := by
      rw [List.take_add_one, ek]
      rfl
    have so3 : GotN w h2 D (ks.take (i + 1)) := by
      rw [et]
      by_cases hq : q ∈ L.map (·.2)
      · have en := old hq
        subst en
        refine ⟨ns, fs, e2, t2, R2, fun k hk => List.mem_append_left _ (g1 k hk), fun k hk => ?_⟩
        rcases List.mem_append.mp hk with hk | hk
        · exact g2 k hk
        · rw [List.mem_singleton.mp hk]; exact hq
      · have pm := new hq
        refine ⟨ns, fs, e2, t2, R2, fun k hk => ?_, fun k hk => ?_⟩
        · rcases List.mem_cons.mp (pm.mem_iff.mp hk) with e | hk
          · rw [e]; exact List.mem_append_right _ List.mem_cons_self
          · exact List.mem_append_left _ (g1 k hk)
        · refine (pm.map (·.2)).mem_iff.mpr ?_
          rw [List.map_cons]
          rcases List.mem_append.mp hk with hk | hk
          · exact List.mem_cons_of_mem _ (g2 k hk)
          · rw [List.mem_singleton.mp hk]; exact List.mem_cons_self
    have up2 : ∀ b o, h0.get? b = some o → h2.get? b = some o := fun b o e => by
      rw [but.2 b fun z : b = D => by rw [z, nw D List.mem_cons_self] at e; cases e]
      exact up1 b o e
    refine wpAny_pure ⟨plainId_quiet F.plain_set_update_loop _, again (i + 1) _ (by omega) lt (Wk.frame _ s1 _ _ st1 (Nat.le_add_right _ _) fun b hb o e => ?_) up2 so3 fun s3 mv3 so4 => ?_⟩
    · rw [but.2 b (fun z : b = D => nD (by rw [← z]; exact hb))]
      exact e
    · refine fin s3 (Moved.trans Wk.gtrans ((mv.mono more).then_heap (Nat.le_add_right _ _) fun b o hb e => ?_) mv3) so4
      rw [but.2 b (fun z : b = D => hb (by rw [z]; exact List.mem_cons_self))]
      exact e
end
end KX

set_option maxRecDepth 100000
set_option maxHeartbeats 4000000
/-! Ex49: set(xs), xs a list of nested tuples -/
namespace KX
open PySem PySem.Spec PyProof.Rows
section
variable {prog : Program} {w : World} {A : Around} {E : Value → Shared → Prop} {s : Shared}
open L2 in
theorem call_setN {tp : Addr} {ys : Array Value} {ks : List (Addr × NestedKey)} {ds : List NestedKey} {Q : Value → Shared → Prop} (noh : A.handled = none) (ht : s.heap.IsList tp ys) (are : ys.toList = ks.map fun k => Value.ref k.1) (kn : ∀ k ∈ ks, IsN s.heap k.2 k.1) (dn : ∀ k ∈ ks, k.2 ∈ ds) (few : ds.length ≤ 62) (hu : A.units + 32 < cLine)
    (fin : ∀ (h2 : Heap) (tk : Nat), GotN w h2 s.heap.objs.size ks → (∀ b o, b < s.heap.objs.size → s.heap.get? b = some o → h2.get? b = some o) →
      Q (.ref s.heap.objs.size) { s with heap := h2, toks := tk }) : wpAny (model prog w) A (call (.type "set") [.ref tp]) Q E s := by
  obtain ⟨c1, tl1, gmro⟩ := PySem.F.called_set.mro
  have gmade := PySem.F.called_set.made
  have gsub := PySem.F.called_set.sub
  have g1 := PySem.F.called_set.notType
  have g2 := PySem.F.called_set.canCreate
  have gct := PySem.F.typeCall_set_1 (.ref tp)
  refine wpAny_call (codeAny_of_tree (show wpAny _ _ (callAny (.type "set") _) _ _ _ from wpAny_pure ⟨Code.quiet_builtin _ (by decide +kernel), codeAny_builtin PySem.F.entry_type_call ?_⟩))
  rw [Around.under_plain (weight_type_call_type "set" [.ref tp] []) rfl]
  repeat (any_goals (first | wp_step | assumption))
  refine codeAny_mono (code_set_led1 (.ref tp) (E := E) (Q₁ := fun ob t1 => ob = .ref s.heap.objs.size ∧ t1 = { s with heap := s.heap.push (nSet (!w.params.followText "set-order")) }) ⟨rfl, rfl⟩) fun r1 t1 k1 => ?_
  cases r1 with
  | error e => exact k1
  | ok f1 =>
    cases f1 with
    | ret ob =>
      obtain ⟨eo, et⟩ := k1
      subst eo et
      have atS : (s.heap.push (nSet (!w.params.followText "set-order"))).get? s.heap.objs.size = some (nSet (!w.params.followText "set-order")) := Heap.get?_push_size _ rfl
      have tyS : Shared.TypeIs { s with heap := s.heap.push (nSet (!w.params.followText "set-order")) } (.ref s.heap.objs.size) "set" := ⟨_, atS, rfl⟩
      have gli := PySem.F.called_set.init.lookup
      have gbi := PySem.F.called_set.init.bind (.ref s.heap.objs.size)
      repeat (any_goals (first | wp_step | assumption))
      refine codeAny_mono (codeAny_call_builtin (R := wants (fun r t2 => r = .none ∧ ∃ h2 tk, t2 = { s with heap := h2, toks := tk } ∧ GotN w h2 s.heap.objs.size ks ∧
          (∀ b o, b < s.heap.objs.size → s.heap.get? b = some o → h2.get? b = some o)) E) PySem.F.called_set.init.plain PySem.F.entry_set_init (check_set_init_1 tyS ?_)) fun r2 t2 k2 => ?_
      · obtain ⟨⟨oc, od, odat, osl⟩, eT, ec, nT, ed⟩ := ht
        simp only at ec ed
        subst ec
        subst ed
        have eT2 : (s.heap.push (nSet (!w.params.followText "set-order"))).get? tp = some { cls := .type "list", dict := od, data := .seq ys nT, slots := osl } := Heap.get?_push_of_some _ eT
        have b1 := PySem.F.sub_list_set
        have b2 := PySem.F.sub_list_frozenset
        have b3 : (Value.type "list" == Value.type "dict") = false := by decide
        have isT : (s.heap.push (nSet (!w.params.followText "set-order"))).IsList tp ys := ⟨_, eT2, rfl, nT, rfl⟩
        unfold Builtin.«set.__init__» noKeywords Builtin.Frozenset.updateFrom
        generalize kept : pyIter = iterF
        wp_walk
        subst kept
        refine wpAny_pyIter_list isT (wpAny_bind (wpAny_runValue ?_))
        have ltp : tp < s.heap.objs.size := Heap.lt_size eT
        have noh3 : A.in1.in1.in1.handled = none := by simp [noh]
        have szP : (s.heap.push (nSet (!w.params.followText "set-order"))).objs.size = s.heap.objs.size + 1 := Heap.size_push ..
        have ne1 : tp ≠ (s.heap.push (nSet (!w.params.followText "set-order"))).objs.size := by rw [szP]; exact Nat.ne_of_lt (Nat.lt_succ_of_lt ltp)
        have ne2 : s.heap.objs.size ∉ [(s.heap.push (nSet (!w.params.followText "set-order"))).objs.size, tp] := by
          rw [szP]
          simp only [List.mem_cons, List.not_mem_nil, or_false, not_or]
          exact ⟨Nat.ne_of_lt (Nat.lt_succ_self _), Nat.ne_of_gt ltp⟩
        have lz : ks.length = ys.size := by
          have q := congrArg List.length are
          rw [Array.length_toList, List.length_map] at q
          exact q.symm
        have each : ∀ (i : Nat) (v : Value), ys[i]? = some v → ∃ k, ks[i]? = some k ∧ v = .ref k.1 := fun i v hv => by
          rw [← Array.getElem?_toList, are, List.getElem?_map] at hv
          cases e : ks[i]? with
          | none => rw [e] at hv; cases hv
          | some k =>
            rw [e] at hv
            cases hv
            exact ⟨k, rfl, rfl⟩
        have upS : ∀ (b : Addr) (o : Obj), s.heap.get? b = some o → ((s.heap.push (nSet (!w.params.followText "set-order"))).push { cls := .type "list_iterator", data := .fields #[.ref tp, .int 0 0] }).get? b = some o := fun b o e => Heap.get?_push_of_some _ (Heap.get?_push_of_some _ e)
        refine loopN ((Walks.list noh3 _ tp ne1 ys).toS) s.heap.objs.size ne2 ks lz ds few dn ?hu s.heap kn ?nw each (ys.size - 0) 0 _ (by omega) (Nat.zero_le _)
          ⟨⟨_, Heap.get?_push_size _ rfl, rfl, rfl⟩, (isT.push _)⟩ upS ?z0 ?z1
        case hu =>
          simp only [Around.in1_units]
          omega
        case nw =>
          intro b hb
          rw [szP] at hb
          rcases List.mem_cons.mp hb with e | hb
          · rw [e]; exact Heap.get?_none_of_le (Nat.le_refl _)
          · rw [List.mem_singleton.mp hb]; exact Heap.get?_none_of_le (Nat.le_succ _)
        case z0 =>
          have gg : ((s.heap.push (nSet (!w.params.followText "set-order"))).push { cls := .type "list_iterator", data := .fields #[.ref tp, .int 0 0] }).get? s.heap.objs.size = some (nSet (!w.params.followText "set-order")) := Heap.get?_push_of_some _ atS
          exact setN_new gg
        case z1 =>
          intro t3 mv so
          obtain ⟨h3, g3, d3, k3, o3⟩ := t3
          obtain rfl : g3 = s.gens := mv.gens
          obtain rfl : d3 = s.drawn := mv.drawn
          obtain rfl : o3 = s.os := mv.os
          show wpAny _ _ _ _ _ _
          refine wpAny_pure (show wpAny _ _ (ret Value.none) _ _ _ from wpAny_pure ⟨rfl, h3, k3, rfl, so, fun b o hb e => ?_⟩)
          refine mv.heap b o ?_ (Heap.get?_push_of_some _ (Heap.get?_push_of_some _ e))
          rw [szP]
          simp only [List.mem_cons, List.not_mem_nil, or_false, not_or]
          exact ⟨Nat.ne_of_lt hb, Nat.ne_of_lt (Nat.lt_succ_of_lt hb)⟩
      · cases r2 with
        | error e => exact k2
        | ok f2 =>
          cases f2 with
          | ret r =>
            obtain ⟨rfl, h2, tk, rfl, so, old⟩ := k2
            repeat (any_goals (first | wp_step | assumption))
            exact fin _ _ so old
          | _ => exact k2.elim
    | _ => exact k1.elim
end
end KX

set_option maxRecDepth 100000
set_option maxHeartbeats 4000000
/-! Ex50: set(xs), sorted of it: rules over data -/
namespace KX
open PySem PySem.Spec PyProof.Rows L2
open PySem.W (AllAlike Sortable EachIs dataLe)
mutual
/-- the key that a datum is -/
def keyD : PyData → NestedKey
  | .none => .none
  | .bool b => .num (if b = true then 1 else 0)
  | .int i => .num i
  | .str x => .text x
  | .list _ => .none
  | .dict _ => .none
  | .tuple ds => .tup (keysD ds)
def keysD : List PyData → List NestedKey
  | [] => []
  | d :: ds => keyD d :: keysD ds
/-- numbers, texts, tuples of such -/
def firmD : PyData → Bool
  | .int _ => true
  | .str _ => true
  | .tuple ds => firmsD ds
  | .none => false
  | .bool _ => false
  | .list _ => false
  | .dict _ => false
def firmsD : List PyData → Bool
  | [] => true
  | d :: ds => firmD d && firmsD ds
end
mutual
theorem keyD_inj : ∀ d e : PyData, firmD d = true → firmD e = true → keyD d = keyD e → d = e
  | .int i, .int j, _, _, h => by rw [keyD, keyD] at h; cases h; rfl
  | .int i, .str x, _, _, h => by rw [keyD, keyD] at h; cases h
  | .int i, .tuple ds, _, _, h => by rw [keyD, keyD] at h; cases h
  | .str i, .int j, _, _, h => by rw [keyD, keyD] at h; cases h
  | .str i, .str x, _, _, h => by rw [keyD, keyD] at h; cases h; rfl
  | .str i, .tuple ds, _, _, h => by rw [keyD, keyD] at h; cases h
  | .tuple i, .int j, _, _, h => by rw [keyD, keyD] at h; cases h
  | .tuple i, .str x, _, _, h => by rw [keyD, keyD] at h; cases h
  | .tuple ds, .tuple es, f, g, h => by
    rw [keyD, keyD] at h
    rw [firmD] at f g
    injection h with h
    rw [keysD_inj ds es f g h]
  | .none, _, f, _, _ => by rw [firmD] at f; cases f
  | .bool _, _, f, _, _ => by rw [firmD] at f; cases f
  | .list _, _, f, _, _ => by rw [firmD] at f; cases f
  | .dict _, _, f, _, _ => by rw [firmD] at f; cases f
  | .int _, .none, _, f, _ => by rw [firmD] at f; cases f
  | .int _, .bool _, _, f, _ => by rw [firmD] at f; cases f
  | .int _, .list _, _, f, _ => by rw [firmD] at f; cases f
  | .int _, .dict _, _, f, _ => by rw [firmD] at f; cases f
  | .str _, .none, _, f, _ => by rw [firmD] at f; cases f
  | .str _, .bool _, _, f, _ => by rw [firmD] at f; cases f
  | .str _, .list _, _, f, _ => by rw [firmD] at f; cases f
  | .str _, .dict _, _, f, _ => by rw [firmD] at f; cases f
  | .tuple _, .none, _, f, _ => by rw [firmD] at f; cases f
  | .tuple _, .bool _, _, f, _ => by rw [firmD] at f; cases f
  | .tuple _, .list _, _, f, _ => by rw [firmD] at f; cases f
  | .tuple _, .dict _, _, f, _ => by rw [firmD] at f; cases f
theorem keysD_inj : ∀ ds es : List PyData, firmsD ds = true → firmsD es = true → keysD ds = keysD es → ds = es
  | [], [], _, _, _ => rfl
  | [], e :: es, _, _, h => by rw [keysD, keysD] at h; cases h
  | d :: ds, [], _, _, h => by rw [keysD, keysD] at h; cases h
  | d :: ds, e :: es, f, g, h => by
    rw [keysD, keysD] at h
    rw [firmsD, Bool.and_eq_true] at f g
    injection h with h1 h2
    rw [keyD_inj d e f.1 g.1 h1, keysD_inj ds es f.2 g.2 h2]
end
section
variable {X : Cx} {pins : List (Addr × Obj)} {σ : L2.St} {H : Hp} {s : Shared}
mutual
theorem nested_of (I : Inv X pins σ H s) : ∀ (d : PyData) (v : V) (u : Value), firmD d = true → Dp X.K H v d → RelV v u → NestedIs s.heap (keyD d) u
  | .int i, _, _, _, h, r => by
    cases h
    obtain ⟨t, rfl⟩ := r
    exact .int _ _
  | .str x, _, _, _, h, r => by
    cases h
    obtain ⟨t, rfl⟩ := r
    exact .text _ _
  | .tuple ds, _, _, f, h, r => by
    cases h with
    | tup hs ha =>
      cases r
      rw [firmD] at f
      obtain ⟨its, rv, ⟨o, ho, hc, n, hd⟩, _⟩ := I.tuple hs
      rw [keyD]
      exact .tup ho hc hd (nesteds_of I ds _ its f ha rv)
  | .none, _, _, f, _, _ => by rw [firmD] at f; cases f
  | .bool _, _, _, f, _, _ => by rw [firmD] at f; cases f
  | .list _, _, _, f, _, _ => by rw [firmD] at f; cases f
  | .dict _, _, _, f, _, _ => by rw [firmD] at f; cases f
theorem nesteds_of (I : Inv X pins σ H s) : ∀ (ds : List PyData) (vs : List V) (us : List Value), firmsD ds = true → DpAll X.K H vs ds → Vals vs us → NestedAll s.heap (keysD ds) us
  | [], _, _, _, h, r => by
    cases h
    cases r
    exact .nil
  | d :: ds, _, _, f, h, r => by
    cases h with
    | cons h1 h2 =>
      cases r with
      | cons r1 r2 =>
        rw [firmsD, Bool.and_eq_true] at f
        rw [keysD]
        exact .cons (nested_of I d _ _ f.1 h1 r1) (nesteds_of I ds _ _ f.2 h2 r2)
end
end
/-- a set of nested tuples as an object -/
structure SetN0 (w : World) (hp : Heap) (D : Addr) (ms : List (Addr × NestedKey)) : Prop where
  ex : ∃ es ep t, (∃ o, hp.get? D = some o ∧ o.ExactSet ∧ o.data = .set es ep t) ∧ es.toList = entN w ms ∧ TabOk t (hshN w ms) ∧ (ms.map (·.2)).Nodup ∧ (w.params.followText "set-order" = true ∨ t.led = true) ∧ ms.length * 5 < t.mask * 3 ∧ ms.length < 64
theorem SetN.to0 {w : World} {hp : Heap} {D : Addr} {ms : List (Addr × NestedKey)} {es : Array (Int × Value)} {ep : Nat} {t : SetTable} (R : SetN w hp D ms es ep t) : SetN0 w hp D ms :=
  ⟨es, ep, t, R.ob, R.ents, R.tab, R.one, R.led, R.room, R.few⟩
def SetNO (w : World) (D : Addr) (ms : List (Addr × NestedKey)) : HO := .ext fun h => SetN0 w h D ms
theorem setNO_new {w : World} {P : Program} {H : Hp} {h : Heap} {D : Addr} {ms : List (Addr × NestedKey)} (R : SetN0 w h D ms) : ObjOk P w H h D (SetNO w D ms) := by
  have ⟨es, ep, t, ⟨o, ho, r⟩, r2⟩ := R
  exact ⟨R, ⟨o, ho⟩, fun h1 h2 p k => by
    obtain ⟨es, ep, t, ⟨o, ho, r⟩, r2⟩ := p
    exact ⟨es, ep, t, ⟨o, k o ho, r⟩, r2⟩⟩
section
variable {X : Cx} {β : Type}
theorem refs_vals : ∀ {ks : List (Addr × β)} {us : List Value}, Vals (ks.map fun p => V.ref p.1) us → us = ks.map fun p => Value.ref p.1
  | [], _, .nil => rfl
  | p :: ks, _, .cons r t => by
    cases r
    rw [refs_vals t]
    rfl
/-- the members of the set: of the list, each datum once -/
abbrev nkOf (enc : β → PyData) (b : Addr × β) : Addr × NestedKey := (b.1, keyD (enc b.2))
/-- set(xs), xs a list of tuples -/
def rSetNL (enc : β → PyData) (K : PySem.W.Frag) (w : World) : List V → Hp → VK → Prop := fun xs H Q => ∃ (l : Addr) (bs : List (Addr × β)) (ds : List β), xs = [.ref l] ∧ SqL K H l (bs.map fun b => V.ref b.1) ∧ (∀ b ∈ bs, Dp K H (.ref b.1) (enc b.2)) ∧ (∀ b ∈ bs, firmD (enc b.2) = true ∧ (keyD (enc b.2)).depth ≤ 8) ∧
  (∀ b ∈ bs, b.2 ∈ ds) ∧ ds.length ≤ 62 ∧
  ∀ (p : Addr) (Lb : List (Addr × β)), H p = none → (∀ b ∈ Lb, b ∈ bs) → (∀ b ∈ bs, enc b.2 ∈ Lb.map fun c => enc c.2) → (Lb.map fun c => enc c.2).Nodup → Lb.length ≤ 62 → Q (.ref p) (upd H p (SetNO w p (Lb.map (nkOf enc))))
theorem pick_back {α γ : Type} (f : α → γ) (bs : List α) : ∀ (L : List γ), (∀ k ∈ L, k ∈ bs.map f) → ∃ Lb : List α, L = Lb.map f ∧ ∀ b ∈ Lb, b ∈ bs
  | [], _ => ⟨[], rfl, fun b hb => by cases hb⟩
  | k :: L, h => by
    obtain ⟨b, hb, e⟩ := List.mem_map.mp (h k List.mem_cons_self)
    obtain ⟨Lb, e2, hL⟩ := pick_back f bs L fun k hk => h k (List.mem_cons_of_mem _ hk)
    refine ⟨b :: Lb, by rw [List.map_cons, e, e2], fun c hc => ?_⟩
    rcases List.mem_cons.mp hc with z | z
    · rw [z]; exact hb
    · exact hL c z
theorem cr_setNL (enc : β → PyData) (cm : X.calm = true) (hu : X.A.units + 32 < cLine) : CallR X (.type "set") (rSetNL enc X.K X.w) := by
  intro pins s σ H xs us Q I r h
  obtain ⟨l, bs, ds, rfl, hl, hd, hf, dn, few, q⟩ := h
  obtain ⟨u, rfl, ru⟩ := vals1 r
  cases ru
  obtain ⟨its, rv, pl, hz⟩ := I.list hl
  have refs : its = (bs.map (nkOf enc)).map fun k => Value.ref k.1 := by
    rw [List.map_map]
    exact refs_vals rv
  refine call_setN (I.ok.hd cm) pl.isList (ks := bs.map (nkOf enc)) (ds := ds.map fun b => keyD (enc b)) (by simpa using refs) (fun k hk => ?_) (fun k hk => ?_) (by rw [List.length_map]; exact few) hu fun h2 tk G old => ?_
  · obtain ⟨b, hb, rfl⟩ := List.mem_map.mp hk
    exact ⟨nested_of I _ _ _ (hf b hb).1 (hd b hb) rfl, (hf b hb).2⟩
  · obtain ⟨b, hb, rfl⟩ := List.mem_map.mp hk
    exact List.mem_map.mpr ⟨b.2, dn b hb, rfl⟩
  obtain ⟨L, es, ep, t, R, g1, g2⟩ := G
  obtain ⟨Lb, rfl, sub⟩ := pick_back (nkOf enc) bs L g1
  have one : (Lb.map fun c => keyD (enc c.2)).Nodup := by
    have := R.one
    rw [List.map_map] at this
    exact this
  have len : Lb.length ≤ 62 := by
    have h := key_nodup_len (Lb.map fun c => keyD (enc c.2)) (ds.map fun b => keyD (enc b)) one fun y hy => by
      obtain ⟨b, hb, rfl⟩ := List.mem_map.mp hy
      exact List.mem_map.mpr ⟨b.2, dn b (sub b hb), rfl⟩
    rw [List.length_map, List.length_map] at h
    omega
  refine ⟨.ref _, upd H s.heap.objs.size (SetNO X.w s.heap.objs.size (Lb.map (nkOf enc))), I.laid (t' := tk) (fun b o e => old b o (Heap.lt_size e) e) (Nat.le_refl _) (setNO_new R.to0), rfl, q _ Lb (I.hok.fresh (Nat.le_refl _)) sub (fun b hb => ?_) ?_ len⟩
  · have h := g2 _ (List.mem_map.mpr ⟨b, hb, rfl⟩)
    rw [List.map_map] at h
    obtain ⟨c, hc, e⟩ := List.mem_map.mp h
    refine List.mem_map.mpr ⟨c, hc, ?_⟩
    exact keyD_inj _ _ (hf c (sub c hc)).1 (hf b hb).1 e
  · refine nodup_of_map (f := keyD) ?_
    rw [List.map_map]
    exact one
/-- sorted(s), s such a set -/
def rSortedN (enc : β → PyData) (K : PySem.W.Frag) (w : World) : List V → Hp → VK → Prop := fun xs H Q => ∃ (D : Addr) (Lb : List (Addr × β)), xs = [.ref D] ∧ H D = some (SetNO w D (Lb.map (nkOf enc))) ∧ (∀ b ∈ Lb, Dp K H (.ref b.1) (enc b.2)) ∧ (∀ b ∈ Lb, (enc b.2).depth ≤ 50) ∧ Lb.length ≤ 62 ∧
  AllAlike (Lb.map fun b => enc b.2) ∧ Sortable (Lb.map fun b => enc b.2) ∧
  ∀ (bs : List (Addr × β)) (p : Addr), bs.Perm Lb → H p = none → Q (.ref p) (upd H p (.lst ((bs.mergeSort (dataLe false fun b => enc b.2)).map fun b => V.ref b.1)))
end
theorem perm_map_back {α γ : Type} (f : α → γ) : ∀ (vs : List γ) (L : List α), vs.Perm (L.map f) → ∃ bs : List α, bs.Perm L ∧ vs = bs.map f
  | [], L, h => by
    have e := h.length_eq
    rw [List.length_map] at e
    cases L with
    | nil => exact ⟨[], .refl _, rfl⟩
    | cons a L => cases e
  | v :: vs, L, h => by
    obtain ⟨b, hb, e⟩ := List.mem_map.mp (h.mem_iff.mp List.mem_cons_self)
    obtain ⟨l1, l2, rfl⟩ := List.append_of_mem hb
    have h2 : (v :: vs).Perm (v :: (l1 ++ l2).map f) := by
      refine h.trans ?_
      rw [← e, ← List.map_cons]
      exact (List.perm_middle).map f
    obtain ⟨bs, p, eq⟩ := perm_map_back f vs (l1 ++ l2) (List.Perm.cons_inv h2)
    exact ⟨b :: bs, (p.cons b).trans List.perm_middle.symm, by rw [List.map_cons, e, eq]⟩
theorem sortable_perm {ds es : List PyData} (p : ds.Perm es) (h : Sortable ds) : Sortable es := by
  rcases h with h | h
  · exact .inl fun d hd => h d (p.mem_iff.mpr hd)
  · exact .inr fun d hd => h d (p.mem_iff.mpr hd)
section
variable {prog : Program} {w : World} {A : Around} {E : Value → Shared → Prop} {s : Shared} {β : Type}
open PySem.W in
theorem sorted_setN {enc : β → PyData} {D : Addr} {Lb : List (Addr × β)} {Q : Value → Shared → Prop} (R0 : SetN0 w s.heap D (Lb.map (nkOf enc))) (er : ∀ b ∈ Lb, ∃ as, Reads s.heap (.ref b.1) (enc b.2) as) (hal : AllAlike (Lb.map fun b => enc b.2)) (hk : Sortable (Lb.map fun b => enc b.2)) (hh : A.handled = none) (hu : ∀ b ∈ Lb, A.units + 4 + (enc b.2).depth < cLine)
    (fin : ∀ (s2 : Shared) (p : Addr) (out : List Value) (c : Nat), (∀ b o, s.heap.get? b = some o → s2.heap.get? b = some o) → s2.gens = s.gens → s2.os = s.os → s.heap.objs.size ≤ p →
      (∃ bs : List (Addr × β), bs.Perm Lb ∧ s2.heap.get? p = some (seqObj "list" out.toArray c) ∧ out = (bs.mergeSort (dataLe false fun b => enc b.2)).map fun b => Value.ref b.1) → Q (.ref p) s2) :
    wpAny (model prog w) A (call (.builtin "sorted") [.ref D]) Q E s := by
  obtain ⟨es, ep, t, ⟨o, ho, hex, hd⟩, ents, tab, one, led, room, few⟩ := R0
  have lz : es.size = Lb.length := by
    have e := congrArg List.length ents
    unfold entN at e
    rwa [Array.length_toList, List.length_map, List.length_map] at e
  rw [List.length_map] at room few
  have psz : t.place.size = Lb.length := by
    have e := tab.sz
    unfold hshN at e
    rwa [List.length_map, List.length_map] at e
  have fit : t.fits es.size = true := by
    unfold SetTable.fits SetTable.fill
    rw [tab.dm, Bool.and_eq_true, beq_iff_eq, decide_eq_true_eq]
    refine ⟨by omega, ?_⟩
    show t.place.size + 0 ≤ t.mask
    omega
  have sb : (1001 : Nat) < scanBound := by decide
  refine Calls.call_function_entry kind_sorted plain_sorted entry_sorted (args_sorted1 _) ?_
  unfold Builtin.«sorted»
  refine wpAny_bind (m := checkCount "sorted" 1 1 _) (wpAny_pure ?_)
  refine wpAny_bind (collect_set (A := A.in1) hh ⟨o, ho, hex.1, hd⟩ fit (by omega) tab.ris led fun s1 vs k1 hz g1 o1 pm => ?_)
  have pm2 : vs.Perm (Lb.map fun b => Value.ref b.1) := by
    refine pm.trans ?_
    rw [ents]
    unfold entN
    rw [List.map_map, List.map_map]
    exact List.Perm.refl _
  obtain ⟨bs, pb, eb⟩ : ∃ bs : List (Addr × β), bs.Perm Lb ∧ vs = bs.map fun b => Value.ref b.1 := by
    obtain ⟨bs, e1, e2⟩ := perm_map_back _ _ _ pm2
    exact ⟨bs, e1, e2⟩
  subst eb
  have hlen : (bs.map fun b => Value.ref b.1).length ≤ sizeLine := by rw [List.length_map, pb.length_eq, sizeLine_eq]; omega
  refine wpAny_bind (wpAny_newList ?_ hlen)
  generalize hvs : (bs.map fun b => Value.ref b.1) = vs at hlen pm pm2
  have at1 : (s1.heap.push (seqObj "list" vs.toArray 0)).get? s1.heap.objs.size = some (seqObj "list" vs.toArray 0) := Heap.get?_push_size _ rfl
  have al : AllAlike (bs.map fun b => enc b.2) := fun d hd e he => hal d ((pb.map _).mem_iff.mp hd) e ((pb.map _).mem_iff.mp he)
  have sk : Sortable (bs.map fun b => enc b.2) := sortable_perm (pb.map _).symm hk
  have eR : EachIs (fun v (b : Addr × β) => v = Value.ref b.1) vs bs := by
    rw [← hvs]
    clear hvs al sk pb
    induction bs with
    | nil => exact .nil
    | cons b bs ih => exact .cons rfl ih
  have er2 : ∀ h : Heap, (∀ b o, s.heap.get? b = some o → h.get? b = some o) → EachIs (fun v (b : Addr × β) => ∃ as, Reads h v (enc b.2) as) vs bs := fun h up => by
    refine (PySem.W.each_mem eR).mono fun v b r => ?_
    obtain ⟨r1, r2⟩ := r
    rw [r1]
    obtain ⟨as, q⟩ := er b (pb.mem_iff.mp r2)
    exact ⟨as, PyProof.Rows.Reads.keeps up q⟩
  have up3 : ∀ b o, s.heap.get? b = some o → (sortingHeap (s1.heap.push (seqObj "list" vs.toArray 0)) s1.heap.objs.size vs).get? b = some o := fun b o e => by
    have q := k1 b o e
    exact sortingHeap_old (Nat.ne_of_lt (Heap.lt_size q)) (Heap.get?_push_of_some _ q)
  refine wpAny_bind (wpAny_holding (wpAny_call_entry_kw slot_list_sort ⟨_, at1, rfl⟩ entry_list_sort ?body (args_list_sort _)))
  case body =>
    show wpAny (model prog w) A.in1.in1 (Builtin.«list.sort» ⟨[.ref s1.heap.objs.size], []⟩) _ _ { s1 with heap := s1.heap.push (seqObj "list" vs.toArray 0) }
    refine list_sort_vals (s := { s1 with heap := s1.heap.push (seqObj "list" vs.toArray 0) }) at1 (SortsAt.data (s := { s1 with heap := sortingHeap (s1.heap.push (seqObj "list" vs.toArray 0)) s1.heap.objs.size vs }) (each_map (R := fun v d => ∃ as, Reads (sortingHeap (s1.heap.push (seqObj "list" vs.toArray 0)) s1.heap.objs.size vs) v d as) (fun b : Addr × β => enc b.2) (er2 _ up3)) al sk (bound_map fun b hb => by
      have := hu b (pb.mem_iff.mp hb)
      simp only [Around.in1_units]
      omega)) hlen ?_
    have fe := sortVals_data (h' := sortingHeap (s1.heap.push (seqObj "list" vs.toArray 0)) s1.heap.objs.size vs) (enc := fun b : Addr × β => enc b.2) false eR (er2 _ up3) al
    have rel : ∀ {us : List Value} {ps : List (Addr × β)}, EachIs (fun v (b : Addr × β) => v = Value.ref b.1) us ps → us = ps.map fun b => Value.ref b.1 := by
      intro us ps e
      induction e with
      | nil => rfl
      | cons h t ih => rw [h, ih]; rfl
    generalize sortVals (dataKind (sortingHeap (s1.heap.push (seqObj "list" vs.toArray 0)) s1.heap.objs.size vs) (bs.map fun b => enc b.2)) false vs vs = out at fe
    obtain ⟨c, hc⟩ := sortedHeap_at (vs := vs) (out := out.toArray) at1
    refine ⟨.none, rfl, wpAny_pure ⟨_, rfl, fin _ s1.heap.objs.size out c (fun b u e => ?_) g1 o1 hz ⟨bs, pb, hc, rel fe⟩⟩⟩
    have q := k1 b u e
    have lt := Heap.lt_size q
    show (sortedHeap (s1.heap.push (seqObj "list" vs.toArray 0)) s1.heap.objs.size vs out.toArray).get? b = some u
    rw [sortedHeap_old (Nat.ne_of_lt lt) (by rw [size_push']; exact Nat.lt_succ_of_lt lt)]
    exact Heap.get?_push_of_some _ q
end
section
variable {X : Cx} {β : Type}
theorem cr_sortedN (enc : β → PyData) {k : Nat} (cm : X.calm = true) (hr : Room k X.A) : CallR X (.builtin "sorted") (rSortedN enc X.K X.w) := by
  intro pins s σ H xs us Q I r h
  obtain ⟨D, Lb, rfl, ha, hd, hdp, few, al, sk, q⟩ := h
  obtain ⟨u, rfl, ru⟩ := vals1 r
  cases ru
  have R : SetN0 X.w s.heap D (Lb.map (nkOf enc)) := (I.hok D _ ha).1
  have hun := hr.un
  refine sorted_setN R (fun b hb => Dp.reads I _ _ _ (hd b hb) rfl) al sk (I.ok.hd cm) (fun b hb => by have := hdp b hb; omega) fun s2 p out c kp g1 o1 hp ⟨bs, pm, hg, eo⟩ => ?_
  have hlen : ((bs.mergeSort (dataLe false fun b => enc b.2)).map fun b => V.ref b.1).length ≤ sizeLine := by
    have hb : (1000 : Nat) ≤ sizeLine := by decide
    rw [List.length_map, List.length_mergeSort, pm.length_eq]
    omega
  have rv : Vals ((bs.mergeSort (dataLe false fun b => enc b.2)).map fun b => V.ref b.1) out := by
    rw [eo]
    generalize bs.mergeSort (dataLe false fun b => enc b.2) = cs
    induction cs with
    | nil => exact .nil
    | cons c cs ih => exact .cons rfl ih
  have hn : H p = none := I.hok.fresh hp
  have J : Inv X pins σ (upd H p (.lst ((bs.mergeSort (dataLe false fun b => enc b.2)).map fun b => V.ref b.1))) { s with heap := s2.heap, gens := s2.gens, drawn := s2.drawn, toks := s2.toks } :=
    I.call (ch := []) (Un.laid kp hp hn) (I.hok.laid kp hp ⟨hlen, out, c, rv, hg⟩) (by rw [g1]; exact I.bare) (fun _ z => nomatch z)
  have e : s2 = { s with heap := s2.heap, gens := s2.gens, drawn := s2.drawn, toks := s2.toks } := by
    cases s2
    cases s
    cases o1
    rfl
  rw [e]
  exact ⟨.ref p, _, J, rfl, q bs p pm hn⟩
end
end KX

set_option maxRecDepth 100000
set_option maxHeartbeats 1000000
namespace U1
open PySem PySem.Spec PyProof.Rows L2 KX
/-! ### comprehensions over data -/
theorem filt_at {α : Type} (f : α → Bool) {rs : List α} {i : Nat} {r : α} (h : rs[i]? = some r) : (rs.take (i + 1)).filter f = (rs.take i).filter f ++ (if f r = true then [r] else []) := by
  rw [List.take_add_one, h, List.filter_append]
  congr 1
  show List.filter f [r] = _
  rw [List.filter_cons, List.filter_nil]
theorem take_snoc {α : Type} {rs : List α} {i : Nat} {r : α} (h : rs[i]? = some r) : rs.take (i + 1) = rs.take i ++ [r] := by
  rw [List.take_add_one, h]
  rfl
section
variable {α : Type} {K : PySem.W.Frag} {a D : Addr} {xs : List V} {rs : List α} {g : TG} {tt : TT} {te : TE} {vs : List Nat} {σ : L2.St} {H1 : Hp} {Qd : Hp → Prop}
theorem dat_step (e F : α → PyData) (f : α → Bool) (nD : H1 D = none) (hx : Dxs H1 xs (rs.map e)) (hl : rs.length ≤ 1000) {i : Nat} {x : V} {G : Hp} (hxi : xs[i]? = some x)
    (hG : Same H1 G ∧ ∃ ys, G D = some (.lst ys) ∧ Dxs (hid D G) ys (((rs.take i).filter f).map F)) {Pv : Nat → Hp → Prop} (hPv : ∀ j G, (Same H1 G ∧ ∃ ys, G D = some (.lst ys) ∧ Dxs (hid D G) ys (((rs.take j).filter f).map F)) → Pv j G) :
    ∃ r, rs[i]? = some r ∧ r ∈ rs ∧ Dx G x (e r) ∧ (∀ y G2, f r = true → Same G G2 → Dx (hid D G2) y (F r) → ∃ acc, G2 D = some (.lst acc) ∧ acc.length < sizeLine ∧ Pv (i + 1) (upd G2 D (.lst (acc ++ [y])))) ∧ ∀ G2, f r = false → Same G G2 → Pv (i + 1) G2 := by
  have lx := hx.len
  rw [List.length_map] at lx
  obtain ⟨sG, ys, eD, hy⟩ := hG
  obtain ⟨d, ed, hdx⟩ := hx.get' hxi
  rw [List.getElem?_map] at ed
  obtain ⟨r, er, rfl⟩ := Option.map_eq_some_iff.mp ed
  have el := filt_at f er
  have ly : ys.length ≤ i := by
    rw [hy.len, List.length_map]
    exact Nat.le_trans (List.length_filter_le _ _) (by rw [List.length_take]; omega)
  have ii : i < rs.length := (List.getElem?_eq_some_iff.mp er).1
  have hb : (1000 : Nat) < sizeLine := by decide
  have hu : ∀ (G2 : Hp), Same G G2 → ∀ (o : HO), Same (hid D G) (hid D (upd G2 D o)) := fun G2 s2 o b ob eb => by
    obtain ⟨nb, eb⟩ := hid_some eb
    rw [hid_at nb, upd_ne nb]
    exact s2 _ _ eb
  refine ⟨r, er, List.mem_of_getElem? er, hdx.up sG, fun y G2 hf s2 hyd => ⟨ys, s2 _ _ eD, by omega, hPv _ _ ⟨same_at (sG.trans s2) nD, ys ++ [y], upd_same, ?_⟩⟩, fun G2 hf s2 => hPv _ _ ⟨sG.trans s2, ys, s2 _ _ eD, ?_⟩⟩
  · rw [el, if_pos hf, List.map_append]
    refine (hy.up (hu _ s2 _)).app (.cons (hyd.up fun b ob eb => ?_) .nil)
    obtain ⟨nb, eb⟩ := hid_some eb
    rw [hid_at nb, upd_ne nb]
    exact eb
  · rw [el, hf, if_neg (by simp), List.append_nil]
    refine hy.up fun b ob eb => ?_
    obtain ⟨nb, eb⟩ := hid_some eb
    rw [hid_at nb]
    exact s2 _ _ eb
/-- a comprehension over a list of data -/
theorem lc_datL (e F : α → PyData) (f : α → Bool) (nD : H1 D = none) (ea : H1 a = some (.lst xs)) (hx : Dxs H1 xs (rs.map e)) (hl : rs.length ≤ 1000)
    (hs : ∀ (i : Nat) (r : α) (x : V) (G : Hp), rs[i]? = some r → r ∈ rs → Same H1 G → Dx G x (e r) → ∀ (Pt : V → Hp → Prop) (Pf : Hp → Prop), (∀ y G2, f r = true → Same G G2 → Dx (hid D G2) y (F r) → Pt y G2) → (∀ G2, f r = false → Same G G2 → Pf G2) → (∃ zs, G D = some (.lst zs)) →
      g x (wipe σ vs) G fun σ2 H2 => wipe σ2 vs = wipe σ vs ∧ tt σ2 H2 fun b H3 => if b = true then te σ2 H3 Pt else Pf H3)
    (hd : ∀ G ys, Same H1 G → G D = some (.lst ys) → Dxs (hid D G) ys ((rs.filter f).map F) → Qd G) :
    ∃ W : Nat → Nat → Hp → Prop, (∃ m, W 0 m (upd H1 D (.lst []))) ∧ ∀ i m H, W i m H →
      ((Itl K a).stop i H ∧ Qd H) ∨ ((Itl K a).go i H ∧ ∃ Nx : Hp → Prop, (∀ H', Nx H' → ∃ m', m' < m ∧ W (i + 1) m' H') ∧ ∀ x H', (Itl K a).yld i H x H' → g x (wipe σ vs) H' fun σ2 H2 => wipe σ2 vs = wipe σ vs ∧ tt σ2 H2 fun b H3 =>
        if b = true then te σ2 H3 fun y H4 => ∃ acc, H4 D = some (.lst acc) ∧ acc.length < sizeLine ∧ Nx (upd H4 D (.lst (acc ++ [y]))) else Nx H3) := by
  have lx := hx.len
  rw [List.length_map] at lx
  refine lc_list (xs := xs) (fun i G => Same H1 G ∧ ∃ ys, G D = some (.lst ys) ∧ Dxs (hid D G) ys (((rs.take i).filter f).map F)) ⟨same_new nD, [], upd_same, .nil⟩ (fun i G _ hG => .inl (.inl (hG.1 _ _ ea))) (fun i x G hxi hG => ?_) (fun G hG => ?_)
  · obtain ⟨r, er, rr, hdx, k1, k2⟩ := dat_step e F f nD hx hl hxi hG (Pv := fun j G => Same H1 G ∧ ∃ ys, G D = some (.lst ys) ∧ Dxs (hid D G) ys (((rs.take j).filter f).map F)) (fun _ _ h => h)
    exact hs i r x G er rr hG.1 hdx _ _ k1 k2 (by obtain ⟨_, ys, q, _⟩ := hG; exact ⟨ys, q⟩)
  · obtain ⟨sG, ys, eD, hy⟩ := hG
    rw [List.take_of_length_le (by omega)] at hy
    exact hd G ys sG eD hy
/-- over a tuple of data -/
theorem lc_datT (e F : α → PyData) (f : α → Bool) (nD : H1 D = none) (ea : H1 a = some (.tup xs)) (hx : Dxs H1 xs (rs.map e)) (hl : rs.length ≤ 1000)
    (hs : ∀ (i : Nat) (r : α) (x : V) (G : Hp), rs[i]? = some r → r ∈ rs → Same H1 G → Dx G x (e r) → ∀ (Pt : V → Hp → Prop) (Pf : Hp → Prop), (∀ y G2, f r = true → Same G G2 → Dx (hid D G2) y (F r) → Pt y G2) → (∀ G2, f r = false → Same G G2 → Pf G2) → (∃ zs, G D = some (.lst zs)) →
      g x (wipe σ vs) G fun σ2 H2 => wipe σ2 vs = wipe σ vs ∧ tt σ2 H2 fun b H3 => if b = true then te σ2 H3 Pt else Pf H3)
    (hd : ∀ G ys, Same H1 G → G D = some (.lst ys) → Dxs (hid D G) ys ((rs.filter f).map F) → Qd G) :
    ∃ W : Nat → Nat → Hp → Prop, (∃ m, W 0 m (upd H1 D (.lst []))) ∧ ∀ i m H, W i m H →
      ((Itt K a).stop i H ∧ Qd H) ∨ ((Itt K a).go i H ∧ ∃ Nx : Hp → Prop, (∀ H', Nx H' → ∃ m', m' < m ∧ W (i + 1) m' H') ∧ ∀ x H', (Itt K a).yld i H x H' → g x (wipe σ vs) H' fun σ2 H2 => wipe σ2 vs = wipe σ vs ∧ tt σ2 H2 fun b H3 =>
        if b = true then te σ2 H3 fun y H4 => ∃ acc, H4 D = some (.lst acc) ∧ acc.length < sizeLine ∧ Nx (upd H4 D (.lst (acc ++ [y]))) else Nx H3) := by
  have lx := hx.len
  rw [List.length_map] at lx
  refine lc_tup (xs := xs) (fun i G => Same H1 G ∧ ∃ ys, G D = some (.lst ys) ∧ Dxs (hid D G) ys (((rs.take i).filter f).map F)) ⟨same_new nD, [], upd_same, .nil⟩ (fun i G _ hG => .inl (.inl (hG.1 _ _ ea))) (fun i x G hxi hG => ?_) (fun G hG => ?_)
  · obtain ⟨r, er, rr, hdx, k1, k2⟩ := dat_step e F f nD hx hl hxi hG (Pv := fun j G => Same H1 G ∧ ∃ ys, G D = some (.lst ys) ∧ Dxs (hid D G) ys (((rs.take j).filter f).map F)) (fun _ _ h => h)
    exact hs i r x G er rr hG.1 hdx _ _ k1 k2 (by obtain ⟨_, ys, q, _⟩ := hG; exact ⟨ys, q⟩)
  · obtain ⟨sG, ys, eD, hy⟩ := hG
    rw [List.take_of_length_le (by omega)] at hy
    exact hd G ys sG eD hy
end
theorem row_valsAt {H : Hp} {v : V} {r : Rec} (h : Dx H v (encR r)) : ∃ a z, v = .ref a ∧ H a = some (.tup [.str r.nm, .int r.cost, .ref z, .int r.exp]) ∧ H z = some (.tup (r.vals.map V.int)) := by
  obtain ⟨a, z, vs, e1, e2, e3, rfl⟩ := row_dx h
  exact ⟨a, z, e1, e2, e3⟩
theorem valV_mem {κ : Type} [DecidableEq κ] {kvs : List (κ × V)} {k : κ} {v : V} (h : valV kvs k = some v) : (k, v) ∈ kvs := by
  unfold valV at h
  obtain ⟨p, hp, e⟩ := Option.map_eq_some_iff.mp h
  have h1 := List.mem_of_find?_eq_some hp
  have h2 := List.find?_some (p := fun kv : κ × V => decide (kv.1 = k)) hp
  have h2 : p.1 = k := of_decide_eq_true h2
  rw [← h2, ← e]
  exact h1
/-- a list of rows -/
def RowsL (H : Hp) (v : V) (rs : List Rec) : Prop := ∃ a xs, v = .ref a ∧ H a = some (.lst xs) ∧ Dxs H xs (rs.map encR)
theorem RowsL.up {H G : Hp} {v : V} {rs : List Rec} (h : RowsL H v rs) (s : Same H G) : RowsL G v rs := by
  obtain ⟨a, xs, e, ea, hx⟩ := h
  exact ⟨a, xs, e, s _ _ ea, hx.up s⟩
instance : DecidableEq Rec := fun a b => by
  cases a with
  | mk n c v e =>
    cases b with
    | mk n2 c2 v2 e2 =>
      rw [Rec.mk.injEq]
      infer_instance
theorem eqv_tupE (ds es : List PyData) : PyData.eqv (.tuple ds) (.tuple es) = PyData.eqvAll ds es := by rw [PyData.eqv]
theorem eqv_recs (a b : Rec) : PyData.eqv (encR a) (encR b) = decide (a = b) := by
  obtain ⟨n, c, v, e⟩ := a
  obtain ⟨n2, c2, v2, e2⟩ := b
  have hv := eqv_ints v v2
  have h1 : PyData.eqv (encR ⟨n, c, v, e⟩) (encR ⟨n2, c2, v2, e2⟩) = (PyData.eqv (.str n) (.str n2) && (PyData.eqv (.int c) (.int c2) && (PyData.eqv (.tuple (v.map .int)) (.tuple (v2.map .int)) && (PyData.eqv (.int e) (.int e2) && true)))) := by
    unfold encR
    rw [eqv_tupE, PySem.W.eqv_all_cons, PySem.W.eqv_all_cons, PySem.W.eqv_all_cons, PySem.W.eqv_all_cons]
    rfl
  rw [h1]
  have e1 : PyData.eqv (.tuple (v.map .int)) (.tuple (v2.map .int)) = decide (v = v2) := by rw [eqv_tupE]; exact hv
  rw [e1]
  by_cases z1 : n = n2 <;> by_cases z2 : c = c2 <;> by_cases z3 : v = v2 <;> by_cases z4 : e = e2 <;> simp [PyData.eqv, z1, z2, z3, z4]
/-- the rows whose name belongs, first, to another row -/
def confl (rs : List Rec) : List Rec := rs.filter fun r => !decide (rs.find? (fun q => decide (q.nm = r.nm)) = some r)
/-- rows of one name are one row -/
def cons (rs : List Rec) : Prop := ∀ a ∈ rs, ∀ b ∈ rs, a.nm = b.nm → a = b
theorem confl_cons {rs : List Rec} (h : confl rs = []) : cons rs := fun a ha b hb e => by
  have f : ∀ r ∈ rs, rs.find? (fun q => decide (q.nm = r.nm)) = some r := fun r hr => by
    have := List.filter_eq_nil_iff.mp h r hr
    simpa using this
  have h1 := f a ha
  have h2 := f b hb
  rw [e, h2] at h1
  exact (Option.some.inj h1).symm
theorem cons_confl {rs : List Rec} (h : cons rs) : confl rs = [] := List.filter_eq_nil_iff.mpr fun r hr => by
  cases e : rs.find? fun q => decide (q.nm = r.nm) with
  | none =>
    have := List.find?_eq_none.mp e r hr
    simp at this
  | some q =>
    have h1 := List.mem_of_find?_eq_some e
    have h2 := List.find?_some (p := fun q : Rec => decide (q.nm = r.nm)) e
    have h2 : q.nm = r.nm := of_decide_eq_true h2
    simp [h q h1 r hr h2]
theorem confl_iff {rs : List Rec} {n : Str} : n ∈ (confl rs).map (·.nm) ↔ ∃ a ∈ rs, ∃ b ∈ rs, a.nm = n ∧ b.nm = n ∧ a ≠ b := by
  constructor
  · intro h
    obtain ⟨r, hr, rfl⟩ := List.mem_map.mp h
    obtain ⟨h1, h2⟩ := List.mem_filter.mp hr
    cases e : rs.find? fun q => decide (q.nm = r.nm) with
    | none =>
      have := List.find?_eq_none.mp e r h1
      simp at this
    | some q =>
      rw [e] at h2
      have g1 := List.mem_of_find?_eq_some e
      have g2 := List.find?_some (p := fun q : Rec => decide (q.nm = r.nm)) e
      have g2 : q.nm = r.nm := of_decide_eq_true g2
      exact ⟨q, g1, r, h1, g2, rfl, by simpa using h2⟩
  · rintro ⟨a, ha, b, hb, ea, eb, ne⟩
    have key : ∀ r ∈ rs, r.nm = n → (rs.find? fun q => decide (q.nm = r.nm)) = rs.find? fun q => decide (q.nm = n) := fun r _ e => by rw [e]
    by_cases e : (rs.find? fun q => decide (q.nm = n)) = some a
    · refine List.mem_map.mpr ⟨b, List.mem_filter.mpr ⟨hb, ?_⟩, eb⟩
      rw [key b hb eb, e]
      simpa using ne
    · refine List.mem_map.mpr ⟨a, List.mem_filter.mpr ⟨ha, ?_⟩, ea⟩
      rw [key a ha ea]
      simpa using e

end U1

set_option maxRecDepth 100000
set_option maxHeartbeats 2000000
namespace KX
open PySem PySem.Spec PyProof.Rows L2
section
variable {X : Cx} {o e : Expr} {es : List Expr} {to te : TE} {ta : TA} {f : Str} {p p' p1 p2 pos : Pos} {B newI iniI : String} {tl : List Value}
theorem pe_biniL {pl : Sem Bool} (hg : Gl X "LookupError") (hm : X.mg "LookupError" = none) (vV : PySem.W.findCls X.K (.type "LookupError") (.type "type") "__init__" = some (.val (.builtin "LookupError.__init__"))) (ha : PA X (e :: es) ta)
    (hc : eval (.Call (.Attribute (.Name "LookupError" p1) "__init__" p2) (e :: es) [] pos) X.env = (do
      let cv ← eval (.Name "LookupError" p1) X.env
      standAt p2.atName
      let (fn, ahead) ← holding [cv] (getMethod cv "__init__" pl)
      callWith pos fn ahead (backTo pos (starEach (e :: es) X.env)) (backToKw pos (keywordEach [] X.env))) := by rfl)
    (he : starEach (e :: es) X.env = (false, eval e X.env) :: starEach es X.env := by rfl) (hpl : (backTo pos (starEach es X.env)).any (·.1) = false := by rfl) :
    PE X (.Call (.Attribute (.Name "LookupError" p1) "__init__" p2) (e :: es) [] pos) (tBini X.K "LookupError" newI "LookupError.__init__" tl ta) := by
  refine ⟨fun pins s σ H Q I h => ?_⟩
  have ty : typeOf (.type "LookupError") = pure (.type "type") := by kernel_rfl
  refine PySem.W.methodCall_KW (ld_blt I hg hm PyProof.Rows.Boot.«LookupError» ?_ (by decide) (by decide)) hc
  obtain ⟨m, fr⟩ := I.fr
  refine PySem.W.method_type fr I.ok.mod.kin ty (by decide +kernel) vV (by decide +kernel) ?_
  show wpAny _ _ (callWith pos (Value.builtin "LookupError.__init__") [] (backTo pos (starEach (e :: es) X.env)) []) _ _ _
  refine PyProof.Rows.callWith_method1 (thn (ha.run pos pins _ σ H _ (I.tok _) h) fun us s1 z => ?_) he hpl
  obtain ⟨vs, H1, I1, r1, a, C, ws, ev, hl, T, ea, q⟩ := z
  subst ev
  cases r1 with
  | @cons _ u0 _ ur ra rw' =>
    obtain rfl : u0 = Value.ref a := ra
    have hlen : ur.length ≤ sizeLine := by
      rw [← Paired.length rw', sizeLine_eq]
      omega
    exact init_told T I1 ea hlen fun s2 J => ⟨.non, H1, J, rfl, q⟩
end
end KX

set_option maxRecDepth 100000
set_option maxHeartbeats 1000000
namespace U1
open PySem PySem.Spec PyProof.Rows L2 KX
/-! ### have_one_width of a list, conflicting_names -/
abbrev sUR : Stmt := topS 28
abbrev sDR : Stmt := topS 29
abbrev sCN : Stmt := topS 30
abbrev sCC : Stmt := topS 31
theorem dxs_bls {H : Hp} : ∀ {ms : List Bool} {ys : List V}, Dxs H ys (ms.map .bool) → ys = ms.map V.bl
  | [], [], _ => rfl
  | m :: ms, y :: ys, .cons h t => by
    cases h
    rw [dxs_bls t]
    rfl
theorem dxs_strs {H : Hp} : ∀ ns : List Str, Dxs H (ns.map V.str) (ns.map PyData.str)
  | [] => .nil
  | n :: ns => .cons (.str n) (dxs_strs ns)
def spHWL : Sp := fun vs H Q _ => ∃ (v : V) (rs : List Rec), vs = [v] ∧ RowsL H v rs ∧ rs.length ≤ 1000 ∧ ∀ H', Same H H' → Q (.bl (oneW rs)) H'
def spCN : Sp := fun vs H Q _ => ∃ (v : V) (rs : List Rec), vs = [v] ∧ RowsL H v rs ∧ rs.length ≤ 1000 ∧ ∀ H' p, Same H H' → H' p = some (.lst (((confl rs).map (·.nm)).map V.str)) → Q (.ref p) H'
abbrev NCN : List Str := ["rows", "found", "row"]
theorem scCN : FnScope NCN ["rows"] (defScope sCN) := ⟨rfl, rfl, rfl, by decide +kernel, rfl, by decide +kernel, by decide +kernel⟩
section
variable {P : Program} {w : World} {K : PySem.W.Frag} {mg : Str → Option Value} {base : Heap}
theorem ok_hwL {f : Addr} {fd : FuncData} (B : Bl mg) (cv : ∃ t, mg "VALUES" = some (.int 2 t)) (D : Df K mg "have_one_width" sHW ["rows"] f fd) : FnOk P w K mg base CX0 1 f fd ["rows"] spHWL := by
  obtain ⟨tv, mv⟩ := cv
  refine D.F.ok scHW (fun vs H Q E h => ?_) (fun cdv A outer s H vs Q E hr h => ?_)
  · obtain ⟨v, rs, rfl, _⟩ := h
    rfl
  · obtain ⟨v, rs, rfl, hd, hl, q⟩ := h
    have nd := scHW.nd
    refine ⟨_, pss_one (ps_ret (pe_callB (cr_all rfl) (by rfl) B.all (by decide +kernel) (pa_cons (pe_lc (own := [("row", 1)]) (g := gName 1) rfl nd (pi_list (pv 0))
        (blkOk_by (N := ["rows", "row"]) (sc := defScope sHW) (by decide +kernel)) (fun _ _ _ _ _ => pg_name (i := 1) nd rfl (Or.inl rfl)) (fun _ _ _ _ _ => pts_nil)
        (fun _ _ _ _ _ => pe_cmpR op_eq (pe_callB (call_lenK (K := K) rfl) (by rfl) B.len PySem.boot_len (pa_cons (pe_ix (r := rIxT K) ix_tup (pv 1) (pe_glob (v := .int 2) (by rfl) mv ⟨_, rfl⟩) (fun _ _ => rfl)) pa_nil))
          (pe_callB (call_lenK (K := K) rfl) (by rfl) B.len PySem.boot_len (pa_cons (pe_ix (r := rIxT K) ix_tup (pe_ix (r := rIxL K) ix_list (pv 0) pe_int (fun _ _ => rfl)) (pe_glob (v := .int 2) (by rfl) mv ⟨_, rfl⟩) (fun _ _ => rfl)) pa_nil)) (nomark _))) pa_nil))), ?_⟩
    obtain ⟨a, xs, rfl, ea, hx⟩ := hd
    have lx := hx.len
    rw [List.length_map] at lx
    refine ⟨.ref a, rfl, a, rfl, ⟨_, .inl (.inl ea)⟩, fun D nD => ?_⟩
    refine lc_datL encR (fun r : Rec => .bool (decide (r.vals.length = (rs.headD ⟨"", 0, [], 0⟩).vals.length))) (fun _ => true) nD ea hx hl (fun i r x G er rr sG hdx Pt Pf k1 k2 gD => ?_) (fun G ys sG eD hy => ?_)
    · obtain ⟨b, z, rfl, eb, ez⟩ := row_valsAt hdx
      have h0 : 0 < rs.length := List.length_pos_of_mem rr
      obtain ⟨x0, e0, hd0⟩ := hx.get (i := 0) (d := encR rs[0]) (by rw [List.getElem?_map, List.getElem?_eq_getElem h0]; rfl)
      obtain ⟨b0, z0, rfl, eb0, ez0⟩ := row_valsAt (hd0.up sG)
      have eh : rs.headD ⟨"", 0, [], 0⟩ = rs[0] := by
        cases rs with
        | nil => exact absurd h0 (by simp)
        | cons r rs => rfl
      refine ⟨rfl, .ref b, rfl, b, _, 2, .ref z, rfl, rfl, .inl (.inl eb), rfl, z, _, rfl, .inr (.inl (.inl ez)), ?_⟩
      refine ⟨.ref a, rfl, a, xs, 0, .ref b0, rfl, rfl, .inl (.inl (sG _ _ ea)), atI_nat (j := 0) e0, b0, _, 2, .ref z0, rfl, rfl, .inl (.inl eb0), rfl, z0, _, rfl, .inr (.inl (.inl ez0)), rfl, k1 _ G rfl (Same.refl G) ?_⟩
      have eb : decide (V.int (((r.vals.map V.int).length : Nat) : Int) = V.int (((rs[0].vals.map V.int).length : Nat) : Int)) = decide (r.vals.length = (rs.headD ⟨"", 0, [], 0⟩).vals.length) := by
        rw [eh, List.length_map, List.length_map]
        by_cases z : r.vals.length = rs[0].vals.length
        · rw [decide_eq_true z, decide_eq_true (by rw [z])]
        · rw [decide_eq_false z, decide_eq_false (fun e => z (by have := V.int.inj e; omega))]
      rw [eb]
      exact .bl _
    · rw [List.filter_eq_self.mpr (fun _ _ => rfl)] at hy
      have e1 : (rs.map fun r : Rec => PyData.bool (decide (r.vals.length = (rs.headD ⟨"", 0, [], 0⟩).vals.length))) = (rs.map fun r => decide (r.vals.length = (rs.headD ⟨"", 0, [], 0⟩).vals.length)).map PyData.bool := by
        rw [List.map_map]
        rfl
      rw [e1] at hy
      rw [dxs_bls hy] at eD
      refine ⟨D, _, rfl, .inl (.inl eD), ?_⟩
      have : (rs.map fun r => decide (r.vals.length = (rs.headD ⟨"", 0, [], 0⟩).vals.length)).all id = oneW rs := by
        rw [List.all_map]
        cases rs with
        | nil => rfl
        | cons r rs => rfl
      rw [this]
      exact q G sG
/-- the dict of the first rows -/
def FirstD (G : Hp) (kvs : List (Key × V)) (rs : List Rec) : Prop := kvs.length ≤ rs.length ∧ ∀ n : Str, (∀ v, valV kvs (.inr n) = some v → ∃ q, rs.find? (fun r => decide (r.nm = n)) = some q ∧ Dx G v (encR q)) ∧ (valV kvs (.inr n) = none → rs.find? (fun r => decide (r.nm = n)) = none)
theorem ok_cn {f : Addr} {fd : FuncData} (cn : ∃ t, mg "NAME" = some (.int 0 t)) (D : Df K mg "conflicting_names" sCN ["rows"] f fd) : FnOk P w K mg base CX0 1 f fd ["rows"] spCN := by
  obtain ⟨tn, mn⟩ := cn
  refine D.F.ok scCN (fun vs H Q E h => ?_) (fun cdv A outer s H vs Q E hr h => ?_)
  · obtain ⟨v, rs, rfl, _⟩ := h
    rfl
  · obtain ⟨v, rs, rfl, hd, hl, q⟩ := h
    have nd := scCN.nd
    have hu : (A.deeper (envOfC (Str.ofString "conflicting_names") (defScope sCN) s.heap.objs.size f cdv)).units + 1 < cLine := by
      have := hr.units
      omega
    have hu64 : (A.deeper (envOfC (Str.ofString "conflicting_names") (defScope sCN) s.heap.objs.size f cdv)).units + 64 < cLine := by
      have := hr.units
      omega
    refine ⟨_, pss_cons (ps_set (i := 1) nd rfl (.inr rfl) pe_dnewK)
      (pss_cons (ps_for PassesOwn.never rfl (pi_list (pv 0)) (pg_name (i := 2) nd rfl (.inl rfl))
        (pss_one (ps_expr (pe_dsetd (pv 1) (pe_ix (r := rIxT K) ix_tup (pv 2) (pe_glob (v := .int 0) (by rfl) mn ⟨_, rfl⟩) (fun _ _ => rfl)) (pv 2) ⟨by rfl, by rfl, by rfl, by rfl⟩))))
      (pss_one (ps_ret (pe_lc (own := [("row", 2)]) (g := gName 2) rfl nd (pi_list (pv 0)) (blkOk_by (N := NCN) (sc := defScope sCN) (by decide +kernel)) (fun _ _ _ _ _ => pg_name (i := 2) nd rfl (Or.inl rfl))
        (fun _ _ _ _ _ => pts_one (pt_cmpR (r := rEqP K not) (op_neP hr.units) (pe_dget hu (pv 1) (pe_ix (r := rIxT K) ix_tup (pv 2) (pe_glob (v := .int 0) (by rfl) mn ⟨_, rfl⟩) (fun _ _ => rfl)) (fun _ _ => rfl)) (pv 2) (nomark _)))
        (fun _ _ _ _ _ => pe_ix (r := rIxT K) ix_tup (pv 2) (pe_glob (v := .int 0) (by rfl) mn ⟨_, rfl⟩) (fun _ _ => rfl)))))), ?_⟩
    obtain ⟨a, xs, rfl, ea, hx⟩ := hd
    have lx := hx.len
    rw [List.length_map] at lx
    have big : (1000 : Nat) < sizeLine := by decide
    refine fun D0 nD0 => ?_
    have s0 : Same H (upd H D0 (.dK [])) := same_new nD0
    have eD0 : (upd H D0 (.dK [])) D0 = some (.dK []) := upd_same
    generalize upd H D0 (.dK []) = H0 at s0 eD0
    refine ⟨.ref a, rfl, a, rfl, ⟨_, .inl (.inl (s0 _ _ ea))⟩, ?_⟩
    refine for_list (K := K) (xs := xs) (fun i σ N => Same H N ∧ ∃ (kvs : List (Key × V)) (o2 : Option V), N D0 = some (.dK kvs) ∧ FirstD H kvs (rs.take i) ∧ σ = [some (.ref a), some (.ref D0), o2])
      ⟨s0, [], none, eD0, ⟨Nat.zero_le _, fun n => ⟨fun v h => (by cases h), fun _ => rfl⟩⟩, rfl⟩ (fun i σ N _ hN => .inl (.inl (hN.1 _ _ ea))) (fun i x σ N hxi hN => ?_) (fun σ N hN => ?_)
    · obtain ⟨sN, kvs, o2, eD, ⟨fl, fk⟩, rfl⟩ := hN
      obtain ⟨dd, edd, hdx⟩ := hx.get' hxi
      rw [List.getElem?_map] at edd
      obtain ⟨r, er, rfl⟩ := Option.map_eq_some_iff.mp edd
      have ii : i < rs.length := (List.getElem?_eq_some_iff.mp er).1
      obtain ⟨b, z, rfl, eb, ez⟩ := row_valsAt (hdx.up sN)
      rw [List.length_take] at fl
      have ts := take_snoc er
      have lt1 : (rs.take (i + 1)).length = i + 1 := by rw [List.length_take]; omega
      have find1 : ∀ n : Str, (rs.take (i + 1)).find? (fun r => decide (r.nm = n)) = ((rs.take i).find? fun r => decide (r.nm = n)).or (if r.nm = n then some r else none) := fun n => by
        rw [ts, List.find?_append]
        congr 1
        by_cases e : r.nm = n
        · rw [if_pos e, List.find?_cons_of_pos (by rw [decide_eq_true_eq]; exact e)]
        · rw [if_neg e, List.find?_cons_of_neg (by rw [decide_eq_true_eq]; exact e)]
          rfl
      refine ⟨.ref D0, rfl, D0, rfl, .inl ⟨_, .inl eD⟩, .ref b, rfl, b, _, 0, .str r.nm, rfl, rfl, .inl (.inl eb), rfl, .ref b, rfl, kvs, .inr r.nm, eD, rfl, by omega, fun u hu => ?_, fun hn => ?_⟩
      · refine ⟨sN, kvs, _, eD, ⟨by omega, fun n => ⟨fun v hv => ?_, fun hv => ?_⟩⟩, rfl⟩
        · obtain ⟨q, e1, e2⟩ := (fk n).1 v hv
          exact ⟨q, by rw [find1, e1]; rfl, e2⟩
        · rw [find1, (fk n).2 hv]
          have ne : ¬ r.nm = n := fun e => by rw [← e, hu] at hv; cases hv
          rw [if_neg ne]
          rfl
      · refine ⟨same_at sN nD0, putK kvs (.inr r.nm) (.ref b), _, upd_same, ⟨?_, fun n => ⟨fun v hv => ?_, fun hv => ?_⟩⟩, rfl⟩
        · have := length_putK kvs (.inr r.nm) (.ref b)
          omega
        · rw [valV_put] at hv
          by_cases e : (Sum.inr n : Key) = .inr r.nm
          · rw [if_pos e] at hv
            cases Sum.inr.inj e
            cases hv
            exact ⟨r, by rw [find1, (fk r.nm).2 hn, if_pos rfl]; rfl, hdx⟩
          · rw [if_neg e] at hv
            obtain ⟨q, e1, e2⟩ := (fk n).1 v hv
            exact ⟨q, by rw [find1, e1]; rfl, e2⟩
        · rw [valV_put] at hv
          by_cases e : (Sum.inr n : Key) = .inr r.nm
          · rw [if_pos e] at hv; cases hv
          · rw [if_neg e] at hv
            have ne : ¬ r.nm = n := fun z => e (by rw [z])
            rw [find1, (fk n).2 hv, if_neg ne]
            rfl
    · obtain ⟨sN, kvs, o2, eD, ⟨fl, fk⟩, rfl⟩ := hN
      rw [List.take_of_length_le (by omega)] at fk
      refine ⟨.ref a, rfl, a, rfl, ⟨_, .inl (.inl (sN _ _ ea))⟩, fun L nL => ?_⟩
      refine lc_datL encR (fun r : Rec => .str r.nm) (fun r => !decide (rs.find? (fun q => decide (q.nm = r.nm)) = some r)) nL (sN _ _ ea) (hx.up sN) hl (fun i r x G er rr sG hdx Pt Pf k1 k2 gD => ?_) (fun G ys sG eL hy => ?_)
      · obtain ⟨b, z, rfl, eb, ez⟩ := row_valsAt hdx
        have there : ∃ v, valV kvs (.inr r.nm) = some v := by
          cases e : valV kvs (.inr r.nm) with
          | some v => exact ⟨v, rfl⟩
          | none =>
            have h := (fk r.nm).2 e
            have h2 := List.find?_eq_none.mp h r rr
            simp at h2
        obtain ⟨v, ev⟩ := there
        obtain ⟨q1, e1, e2⟩ := (fk r.nm).1 v ev
        have dg : DGet G D0 (.str r.nm) (some v) := by
          have h := DGet.k (k := Sum.inr r.nm) (sG _ _ eD)
          rw [ev] at h
          exact h
        refine ⟨rfl, .ref D0, rfl, .ref b, rfl, b, _, 0, .str r.nm, rfl, rfl, .inl (.inl eb), rfl, D0, v, rfl, dg, .ref b, rfl, encR q1, encR r, dp_dx _ _ (plain_rec q1) ((e2.up sN).up sG), dp_dx _ _ (plain_rec r) hdx, plain_rec q1, plain_rec r, Nat.le_trans (Nat.min_le_left _ _) (Nat.le_trans (depth_rec q1) (by decide)), _, rfl, ?_⟩
        have eb2 : (!PyData.eqv (encR q1) (encR r)) = !decide (rs.find? (fun q => decide (q.nm = r.nm)) = some r) := by
          rw [eqv_recs, e1]
          congr 1
          exact decide_eq_decide.mpr ⟨fun e => by rw [e], fun e => Option.some.inj e⟩
        rw [eb2]
        cases et : !decide (rs.find? (fun q => decide (q.nm = r.nm)) = some r) with
        | true =>
          refine iteT ⟨.ref b, rfl, b, _, 0, .str r.nm, rfl, rfl, .inl (.inl eb), rfl, k1 _ G et (Same.refl G) (.str _)⟩
        | false => exact iteF (k2 G et (Same.refl G))
      · have e1 : ((rs.filter fun r => !decide (rs.find? (fun q => decide (q.nm = r.nm)) = some r)).map fun r : Rec => PyData.str r.nm) = ((confl rs).map (·.nm)).map PyData.str := by
          rw [List.map_map]
          rfl
        rw [e1] at hy
        rw [vals_strsD hy] at eL
        exact q G L (sN.trans sG) eL
end

end U1

set_option maxRecDepth 100000
set_option maxHeartbeats 1000000
namespace U1
open PySem PySem.Spec PyProof.Rows L2 KX
/-! ### rows without doubles, in their order -/
def dedR : List Rec → List Rec
  | [] => []
  | r :: rs => if r ∈ dedR rs then dedR rs else r :: dedR rs
theorem mem_ded : ∀ {rs : List Rec} {r : Rec}, r ∈ dedR rs ↔ r ∈ rs
  | [], r => Iff.rfl
  | x :: rs, r => by
    show r ∈ (if x ∈ dedR rs then dedR rs else x :: dedR rs) ↔ _
    by_cases h : x ∈ dedR rs
    · rw [if_pos h, mem_ded, List.mem_cons]
      exact ⟨.inr, fun z => z.elim (fun e => by rw [e]; exact mem_ded.mp h) id⟩
    · rw [if_neg h, List.mem_cons, List.mem_cons, mem_ded]
theorem ded_nodup : ∀ rs : List Rec, (dedR rs).Nodup
  | [] => .nil
  | x :: rs => by
    show (if x ∈ dedR rs then dedR rs else x :: dedR rs).Nodup
    by_cases h : x ∈ dedR rs
    · rw [if_pos h]
      exact ded_nodup rs
    · rw [if_neg h]
      exact List.nodup_cons.mpr ⟨h, ded_nodup rs⟩
/-- all rows, each once, ascending -/
def uniR (rs : List Rec) : List Rec := sortR (dedR rs)
theorem mem_uni {rs : List Rec} {r : Rec} : r ∈ uniR rs ↔ r ∈ rs := List.mem_mergeSort.trans mem_ded
theorem str_cps {a b : Str} (h : a.cps.toList = b.cps.toList) : a = b := by
  cases a with
  | mk x =>
    cases b with
    | mk y => rw [show x = y from Array.toList_inj.mp h]
theorem leN_anti {a b : Str} (h1 : leN a b = true) (h2 : leN b a = true) : a = b := str_cps (List.le_antisymm (of_decide_eq_true h1) (of_decide_eq_true h2))
theorem cons_sub {rs L : List Rec} (c : cons rs) (h : ∀ r ∈ L, r ∈ rs) : cons L := fun a ha b hb e => c a (h a ha) b (h b hb) e
theorem sort_names {L : List Rec} (c : cons L) : (sortR L).map (·.nm) = (L.map (·.nm)).mergeSort leN := List.map_mergeSort fun a ha b hb => le_rec (c a ha b hb)
theorem cons_nodup : ∀ {L : List Rec}, cons L → L.Nodup → (L.map (·.nm)).Nodup
  | [], _, _ => .nil
  | r :: L, c, n => by
    obtain ⟨n1, n2⟩ := List.nodup_cons.mp n
    rw [List.map_cons]
    refine List.nodup_cons.mpr ⟨fun h => ?_, cons_nodup (cons_sub c fun r hr => List.mem_cons_of_mem _ hr) n2⟩
    obtain ⟨q, hq, e⟩ := List.mem_map.mp h
    have := c q (List.mem_cons_of_mem _ hq) r List.mem_cons_self e
    exact n1 (this ▸ hq)
theorem sort_eq {L M : List Rec} (c : cons L) (p : L.Perm M) : sortR L = sortR M := by
  have cM : cons M := cons_sub c fun r hr => p.mem_iff.mpr hr
  have pw : ∀ {N : List Rec}, cons N → (sortR N).Pairwise fun a b => leN a.nm b.nm = true := fun {N} cN => by
    have h := List.pairwise_mergeSort le_tr le_tot (N.map fun r : Rec => r.nm)
    rw [← sort_names cN] at h
    exact List.pairwise_map.mp h
  refine List.Perm.eq_of_pairwise (le := fun a b => leN a.nm b.nm = true) (fun a b ha hb z1 z2 => ?_) (pw c) (pw cM) ((List.mergeSort_perm _ _).trans (p.trans (List.mergeSort_perm _ _).symm))
  exact c a (List.mem_mergeSort.mp ha) b (p.mem_iff.mpr (List.mem_mergeSort.mp hb)) (leN_anti z1 z2)
theorem uni_eq {rs L : List Rec} (c : cons rs) (h1 : ∀ r ∈ L, r ∈ rs) (h2 : ∀ r ∈ rs, r ∈ L) (n : L.Nodup) : sortR L = uniR rs :=
  sort_eq (cons_sub c h1) ((List.perm_ext_iff_of_nodup n (ded_nodup rs)).mpr fun r => ⟨fun h => mem_ded.mpr (h1 r h), fun h => h2 r (mem_ded.mp h)⟩)
theorem uni_same {rs L : List Rec} (c : cons rs) (h : ∀ r, r ∈ L ↔ r ∈ rs) : uniR L = uniR rs :=
  uni_eq c (fun r hr => (h r).mp (mem_ded.mp hr)) (fun r hr => mem_ded.mpr ((h r).mpr hr)) (ded_nodup L)
theorem uni_asc {rs : List Rec} (c : cons rs) : ascS ((uniR rs).map (·.nm)) = true := by
  have cd : cons (dedR rs) := cons_sub c fun r hr => mem_ded.mp hr
  unfold uniR
  rw [sort_names cd]
  exact asc_of (List.pairwise_mergeSort le_tr le_tot _) ((List.mergeSort_perm _ _).nodup_iff.mpr (cons_nodup cd (ded_nodup rs)))
theorem firms_ints : ∀ ns : List Int, firmsD (ns.map PyData.int) = true
  | [] => by rw [List.map_nil, firmsD]
  | n :: ns => by rw [List.map_cons, firmsD, firms_ints ns, firmD]; rfl
theorem firm_rec (r : Rec) : firmD (encR r) = true := by
  unfold encR
  simp only [firmD, firmsD, firms_ints, Bool.and_self]
theorem deep_intsK : ∀ ns : List Int, NestedKey.depthAll (keysD (ns.map PyData.int)) = 0
  | [] => by rw [List.map_nil, keysD]; rfl
  | n :: ns => by
    rw [List.map_cons, keysD, keyD, NestedKey.depthAll, deep_intsK ns]
    rfl
theorem deep_rowK (r : Rec) : (keyD (encR r)).depth ≤ 8 := by
  unfold encR
  simp only [keyD, keysD, NestedKey.depth, NestedKey.depthAll, deep_intsK]
  omega
theorem pair_up {H : Hp} : ∀ {xs : List V} {rs : List Rec}, Dxs H xs (rs.map encR) → ∃ bs : List (Addr × Rec), xs = bs.map (fun b => V.ref b.1) ∧ bs.map (·.2) = rs ∧ ∀ b ∈ bs, Dx H (.ref b.1) (encR b.2)
  | [], [], _ => ⟨[], rfl, rfl, fun b hb => by cases hb⟩
  | x :: xs, r :: rs, .cons h t => by
    obtain ⟨bs, e1, e2, h3⟩ := pair_up t
    obtain ⟨a, z, vs, rfl, _⟩ := row_dx h
    refine ⟨(a, r) :: bs, by rw [List.map_cons, e1], by rw [List.map_cons, e2], fun b hb => ?_⟩
    rcases List.mem_cons.mp hb with e | hb
    · rw [e]; exact h
    · exact h3 b hb
theorem dx_pairs {H : Hp} : ∀ {bs : List (Addr × Rec)}, (∀ b ∈ bs, Dx H (.ref b.1) (encR b.2)) → Dxs H (bs.map fun b => V.ref b.1) ((bs.map (·.2)).map encR)
  | [], _ => .nil
  | b :: bs, h => .cons (h b List.mem_cons_self) (dx_pairs fun c hc => h c (List.mem_cons_of_mem _ hc))
theorem sort_snd {bs : List (Addr × Rec)} : (bs.mergeSort (PySem.W.dataLe false fun b => encR b.2)).map (·.2) = sortR (bs.map (·.2)) :=
  List.map_mergeSort (f := Prod.snd) (r := PySem.W.dataLe false fun b : Addr × Rec => encR b.2) (s := PySem.W.dataLe false encR) (l := bs) (fun a _ b _ => rfl)
/-! ### different_rows -/
def spDR : Sp := fun vs H Q _ => ∃ (v : V) (rs us : List Rec), vs = [v] ∧ RowsL H v rs ∧ rs.length ≤ 1000 ∧ cons rs ∧ (∀ r ∈ rs, r ∈ us) ∧ us.length ≤ 62 ∧ ∀ H' p, Same H H' → Dx H' (.ref p) (.tuple ((uniR rs).map encR)) → Q (.ref p) H'
theorem scDR : FnScope ["rows"] ["rows"] (defScope sDR) := ⟨rfl, rfl, rfl, by decide +kernel, rfl, by decide +kernel, by decide +kernel⟩
/-- tuple(sorted(set(rows))) -/
abbrev tUni (X : Cx) (te : TE) : TE := tCB (fun xs H Q => ∃ p ys, xs = [.ref p] ∧ ((SqL X.K H p ys ∧ ∀ l, H l = none → Q (.ref l) (upd H l (.tup ys))) ∨ (SqT X.K H p ys ∧ Q (.ref p) H))) (tCons (tCB (rSortedN encR X.K X.w) (tCons (tCB (rSetNL encR X.K X.w) (tCons te tNil)) tNil)) tNil)
theorem uni_go {K : PySem.W.Frag} {w : World} {H : Hp} {v : V} {rs us : List Rec} {Q : VK} (h : RowsL H v rs) (c : cons rs) (cov : ∀ r ∈ rs, r ∈ us) (few : us.length ≤ 62) (q : ∀ H' p, Same H H' → Dx H' (.ref p) (.tuple ((uniR rs).map encR)) → Q (.ref p) H') :
    rSetNL encR K w [v] H fun x G => rSortedN encR K w [x] G fun y G2 => ∃ p ys, [y] = [V.ref p] ∧ ((SqL K G2 p ys ∧ ∀ l, G2 l = none → Q (.ref l) (upd G2 l (.tup ys))) ∨ (SqT K G2 p ys ∧ Q (.ref p) G2)) := by
  obtain ⟨a, xs, rfl, ea, hx⟩ := h
  obtain ⟨bs, rfl, rfl, hb⟩ := pair_up hx
  refine ⟨a, bs, us, rfl, .inl (.inl ea), fun b hb2 => dp_dx _ _ (plain_rec b.2) (hb b hb2), fun b _ => ⟨firm_rec b.2, deep_rowK b.2⟩, fun b hb2 => cov b.2 (List.mem_map.mpr ⟨b, hb2, rfl⟩), few, fun s Lb ns sub all one len => ?_⟩
  have s1 : Same H (upd H s (SetNO w s (Lb.map (nkOf encR)))) := same_new ns
  have al := alike_recs (Lb.map (·.2))
  have so := tup_recs (Lb.map (·.2))
  rw [List.map_map] at al so
  refine ⟨s, Lb, rfl, upd_same, fun b hb2 => dp_dx _ _ (plain_rec b.2) ((hb b (sub b hb2)).up s1), fun b _ => depth_rec b.2, len, al, so, fun cs l pm nl => ?_⟩
  have s2 := s1.trans (same_new (o := .lst ((cs.mergeSort (PySem.W.dataLe false fun b => encR b.2)).map fun b => V.ref b.1)) nl)
  refine ⟨l, _, rfl, .inl ⟨.inl (.inl upd_same), fun p np => ?_⟩⟩
  refine q _ p (s2.trans (same_new np)) (.tup upd_same ?_)
  have s3 := s2.trans (same_new (o := .tup ((cs.mergeSort (PySem.W.dataLe false fun b => encR b.2)).map fun b => V.ref b.1)) np)
  have e : uniR (bs.map (·.2)) = (cs.mergeSort (PySem.W.dataLe false fun b => encR b.2)).map (·.2) := by
    rw [sort_snd]
    refine (uni_eq c (fun r hr => ?_) (fun r hr => ?_) ?_).symm
    · obtain ⟨b, hb2, rfl⟩ := List.mem_map.mp hr
      exact List.mem_map.mpr ⟨b, sub b (pm.mem_iff.mp hb2), rfl⟩
    · obtain ⟨b, hb2, rfl⟩ := List.mem_map.mp hr
      obtain ⟨d, hd, e⟩ := List.mem_map.mp (all b hb2)
      have e2 : d.2 = b.2 := by
        have := congrArg recD e
        rwa [recD_enc, recD_enc] at this
      exact List.mem_map.mpr ⟨d, pm.mem_iff.mpr hd, e2⟩
    · refine nodup_of_map (f := encR) ?_
      rw [List.map_map]
      exact (pm.map _).nodup_iff.mpr one
  rw [e]
  exact dx_pairs fun b hb2 => (hb b (sub b (pm.mem_iff.mp (List.mem_mergeSort.mp hb2)))).up s3
section
variable {P : Program} {w : World} {K : PySem.W.Frag} {mg : Str → Option Value} {base : Heap}
theorem ok_dr {f : Addr} {fd : FuncData} (B : Bl mg) (hs : mg "set" = none) (D : Df K mg "different_rows" sDR ["rows"] f fd) : FnOk P w K mg base CX0 1 f fd ["rows"] spDR := by
  refine D.F.ok scDR (fun vs H Q E h => ?_) (fun cdv A outer s H vs Q E hr h => ?_)
  · obtain ⟨v, rs, us, rfl, _⟩ := h
    rfl
  · obtain ⟨v, rs, us, rfl, hd, hl, c, cov, few, q⟩ := h
    have hu : (A.deeper (envOfC (Str.ofString "different_rows") (defScope sDR) s.heap.objs.size f cdv)).units + 32 < cLine := by
      have := hr.units
      omega
    refine ⟨_, pss_one (ps_ret (pe_callTy call_tuple_of (by rfl) B.tuple (by decide +kernel) (pa_cons (pe_callB (cr_sortedN encR rfl hr) (by rfl) B.sorted (by decide +kernel) (pa_cons (pe_callTy (T := "set") (cr_setNL encR rfl hu) (by rfl) hs (by decide +kernel) (pa_cons (pv 0) pa_nil)) pa_nil)) pa_nil))), ?_⟩
    exact ⟨v, rfl, uni_go hd c cov few q⟩
end

end U1

set_option maxRecDepth 100000
set_option maxHeartbeats 1000000
namespace U1
open PySem PySem.Spec PyProof.Rows L2 KX
/-! ### check_conflicts -/
abbrev sIniN : Stmt := (clsB (topS 4)).getD 0 (.Pass ⟨0, 0, 0, 0⟩)
def lkTl : List Value := [.type "LookupError", .type "Exception", .type "BaseException", .type "object"]
theorem lkB : XB "LookupError" "LookupError.__new__" "LookupError.__init__" lkTl := ⟨PySem.F.excBase_LookupError, PySem.F.store_LookupError⟩
/-- the class NameConflict, at N; its __init__ at fN -/
structure NC (K : PySem.W.Frag) (mg : Str → Option Value) (N fN : Addr) (gN : FuncData) : Prop where
  g : mg "NameConflict" = some (.ref N)
  x : XC K "LookupError" "LookupError.__new__" "LookupError.__init__" lkTl N
  i : XI K N
  no : PySem.W.findIn K (.ref N) "name" = some none
  iC : PySem.W.findIn K (.ref N) "__init__" = some (some (.ref fN))
  tI : PySem.W.typeIn K (.ref fN) = some (.type "function")
  vV : PySem.W.findCls K (.type "LookupError") (.type "type") "__init__" = some (.val (.builtin "LookupError.__init__"))
  F : Fun K "__init__" "NameConflict.__init__" sIniN fN gN
  b : Binds K gN ["self", "name"] []
  lk : mg "LookupError" = none
def spIniN (N : Addr) : Sp := fun vs H Q _ => ∃ a v, vs = [.ref a, v] ∧ H a = some (exo a N none) ∧ ∀ dx, H dx = none → dx ≠ a → Q .non (upd (upd H dx (exd dx [("name", v)])) a (exo a N (some dx)))
theorem scIniN : FnScope ["self", "name"] ["self", "name"] (defScope sIniN) := ⟨rfl, rfl, rfl, by decide +kernel, rfl, by decide +kernel, by decide +kernel⟩
theorem ltN_le {a b : Str} (h : PySem.W.dataLt (.str a) (.str b) = true) : leN a b = true := by
  rw [PySem.W.dataLt_str] at h
  unfold leN
  exact decide_eq_true (List.le_of_lt (of_decide_eq_true h))
theorem ltN_not {a b : Str} (h : PySem.W.dataLt (.str a) (.str b) = false) : leN b a = true := by
  rw [PySem.W.dataLt_str] at h
  unfold leN
  exact decide_eq_true (List.not_lt.mp (of_decide_eq_false h))
def leastN (ns : List Str) (m : Str) : Prop := m ∈ ns ∧ ∀ n ∈ ns, leN m n = true
theorem leastN_one {ns : List Str} {m k : Str} (h : leastN ns m) (g : leastN ns k) : m = k := leN_anti (h.2 k g.1) (g.2 m h.1)
theorem le_refl (a : Str) : leN a a = true := decide_eq_true (List.le_refl _)
theorem min_strs : ∀ (ns : List Str) (n : Str), ∃ m, PySem.W.minD (.str n) (ns.map .str) = .str m ∧ leastN (n :: ns) m
  | [], n => ⟨n, rfl, by simp, fun k hk => by rw [List.mem_singleton.mp hk]; exact le_refl n⟩
  | a :: ns, n => by
    have e : PySem.W.minD (.str n) ((a :: ns).map .str) = PySem.W.minD (if PySem.W.dataLt (.str a) (.str n) = true then .str a else .str n) (ns.map .str) := rfl
    rw [e]
    by_cases h : PySem.W.dataLt (.str a) (.str n) = true
    · rw [if_pos h]
      obtain ⟨m, e1, e2, e3⟩ := min_strs ns a
      refine ⟨m, e1, List.mem_cons_of_mem _ e2, fun k hk => ?_⟩
      rcases List.mem_cons.mp hk with z | z
      · rw [z]; exact le_tr _ _ _ (e3 a List.mem_cons_self) (ltN_le h)
      · exact e3 k z
    · rw [if_neg h]
      obtain ⟨m, e1, e2, e3⟩ := min_strs ns n
      refine ⟨m, e1, ?_, fun k hk => ?_⟩
      · rcases List.mem_cons.mp e2 with z | z
        · rw [z]; exact List.mem_cons_self
        · exact List.mem_cons_of_mem _ (List.mem_cons_of_mem _ z)
      · rcases List.mem_cons.mp hk with z | z
        · rw [z]; exact e3 n List.mem_cons_self
        · rcases List.mem_cons.mp z with z | z
          · rw [z]; exact le_tr _ _ _ (e3 n List.mem_cons_self) (ltN_not (by simpa using h))
          · exact e3 k (List.mem_cons_of_mem _ z)
/-- min of a list of texts -/
theorem min_go {K : PySem.W.Frag} {H : Hp} {a : Addr} {ns : List Str} {Q : VK} (ea : SqL K H a (ns.map V.str)) (ne : ns ≠ []) (q : ∀ m, leastN ns m → Q (.str m) H) : rMinX K PyData.str [.ref a] H Q := by
  refine ⟨a, ns.map fun n => (V.str n, n), rfl, ?_, by simpa using ne, fun b hb => ?_, fun b hb => ?_, fun x hx y hy => ?_, fun x hx => by simp, fun b hb h => ?_⟩
  · rw [List.map_map]
    exact ea
  · obtain ⟨n, _, rfl⟩ := List.mem_map.mp hb
    exact .str n
  · simp [PyData.depth]
  · simp [PySem.W.alike]
  · obtain ⟨b0, rest, e1, e2⟩ := h
    cases ns with
    | nil => exact absurd rfl ne
    | cons n ns =>
      rw [List.map_cons] at e1
      injection e1 with e1 e3
      rw [← e1, ← e3, List.map_map] at e2
      obtain ⟨m, e4, e5⟩ := min_strs ns n
      have e6 : PyData.str b.2 = .str m := e2.trans e4
      injection e6 with e6
      obtain ⟨n2, _, e7⟩ := List.mem_map.mp hb
      have : b.1 = .str m := by rw [← e7, ← e6, ← e7]
      rw [this]
      exact q m e5
def spCC (N : Addr) : Sp := fun vs H Q E => ∃ (v : V) (rs : List Rec), vs = [v] ∧ RowsL H v rs ∧ rs.length ≤ 1000 ∧ (confl rs = [] → ∀ H', Same H H' → Q .non H') ∧
  (confl rs ≠ [] → ∀ m H' dd, leastN ((confl rs).map (·.nm)) m → Same H H' → H' dd = some (.xd [("name", .str m)]) → E (.ref N) (some dd) H')
theorem scCC : FnScope ["rows", "conflicts"] ["rows"] (defScope sCC) := ⟨rfl, rfl, rfl, by decide +kernel, rfl, by decide +kernel, by decide +kernel⟩
section
variable {P : Program} {w : World} {K : PySem.W.Frag} {mg : Str → Option Value} {base : Heap} {N fN : Addr} {gN : FuncData}
theorem ok_iniN (T : NC K mg N fN gN) : FnOk P w K mg base CX0 1 fN gN ["self", "name"] (spIniN N) := by
  refine T.F.ok scIniN (fun vs H Q E h => ?_) (fun cdv A outer s H vs Q E hr h => ?_)
  · obtain ⟨a, v, rfl, _⟩ := h
    rfl
  · obtain ⟨a, v, rfl, ea, q⟩ := h
    refine ⟨_, pss_cons (ps_expr (pe_biniL (newI := "LookupError.__new__") (tl := lkTl) (by rfl) T.lk T.vV (pa_cons (pv 0) (pa_cons (pv 1) pa_nil))))
      (pss_one (ps_fst (B := "LookupError") (newI := "LookupError.__new__") (iniI := "LookupError.__init__") (tl := lkTl) (pv 0) (pv 1))), ?_⟩
    refine ⟨.ref a, rfl, v, rfl, a, N, [v], rfl, by simp, T.x, ea, ?_⟩
    exact ⟨v, rfl, .ref a, rfl, a, N, rfl, T.x, T.no, ea, fun dx n ne => q dx n ne⟩
theorem ok_cc {k : Nat} {f fC : Addr} {fd gC : FuncData} (B : Bl mg) (T : NC K mg N fN gN) (D : Df K mg "check_conflicts" sCC ["rows"] f fd) (DC : Df K mg "conflicting_names" sCN ["rows"] fC gC) (GC : FnOk P w K mg base CX0 (k + 2) fC gC ["rows"] spCN) :
    FnOk P w K mg base (L2.CX P w) (k + 3) f fd ["rows"] (spCC N) := by
  have GN : FnOk P w K mg base CX0 (k + 1) fN gN _ (spIniN N) := (ok_iniN T).mono (by omega)
  refine D.F.okX scCC (fun vs H Q E h => ?_) (fun cdv A outer s H vs Q E hr h => ?_)
  · obtain ⟨v, rs, rfl, _⟩ := h
    rfl
  · obtain ⟨v, rs, rfl, hd, hl, q1, q2⟩ := h
    have nd := scCC.nd
    refine ⟨_, pss_cons (ps_set (i := 1) nd rfl (.inl rfl) (pe_call GC hr (by rfl) DC.g DC.F.kp DC.b .nil pass0 (pa_cons (pv 0) pa_nil)))
      (pss_one (ps_if (pt_truth (pv 1) (fun _ => rfl)) (pss_one (ps_raise rfl (takes_of rfl rfl rfl rfl) (pmk_x T.x T.iC T.tI GN hr T.b pass0 (by rfl) T.g (pa_cons (pe_callB (call_minX (enc := PyData.str) rfl hr) (by rfl) B.min (by decide +kernel) (pa_cons (pv 1) pa_nil)) pa_nil)))) pss_nil)), ?_⟩
    refine ⟨v, rfl, v, rs, rfl, hd, hl, fun G p sG ep => ?_⟩
    refine ⟨.ref p, rfl, _, .inl ⟨_, .inl (.inl ep), rfl⟩, ?_⟩
    have hb : (1000 : Nat) < sizeLine := by decide
    cases ec : confl rs with
    | nil =>
      refine iteF ?_
      exact q1 ec G sG
    | cons r0 cs =>
      refine iteT ⟨.ref p, rfl, ?_⟩
      unfold tNil
      refine min_go (.inl (.inl ep)) (by rw [ec]; simp) fun m hm => ?_
      refine ⟨by simp, fun b nb => ?_⟩
      refine ⟨b, .str m, rfl, upd_same, fun dx ndx ne => ⟨rfl, dx, [("name", .str m)], upd_same, ?_, ?_, ?_⟩⟩
      · rw [upd_ne ne, upd_same]
      · rw [upd_ne ne] at ndx
        exact ndx
      · rw [upd_ne ne] at ndx
        refine q2 (by rw [ec]; simp) m _ dx hm (fun c o e => ?_) upd_same
        have e := sG _ _ e
        rw [upd_ne (ne_of_none e ndx), del_ne (ne_of_none e nb), upd_ne (ne_of_none e nb), upd_ne (ne_of_none e ndx), upd_ne (ne_of_none e nb)]
        exact e
end

end U1

set_option maxRecDepth 100000
set_option maxHeartbeats 1000000
namespace U1
open PySem PySem.Spec PyProof.Rows L2 KX
/-! ### union_rowsets -/
def encP (ps : List Rec) : PyData := .tuple (ps.map encR)
def setsD : PyData → Bool
  | .tuple ds => ds.all rowsetD
  | _ => false
def SmU (d : PyData) : Prop := ∀ ds, d = .tuple ds → ds.length ≤ 1000 ∧ ∀ e ∈ ds, SmR e
theorem set_part {e : PyData} (h : rowsetD e = true) : ∃ ps, e = encP ps ∧ RsOk ps := by
  cases e with
  | tuple ds =>
    change (decide (ds.length ≤ 60) && (rowsD (.tuple ds) && ascS ((ds.map recD).map (·.nm)))) = true at h
    simp only [Bool.and_eq_true, decide_eq_true_eq] at h
    obtain ⟨h1, h2, h3⟩ := h
    change (ds.all rowD && oneW (ds.map recD)) = true at h2
    rw [Bool.and_eq_true] at h2
    obtain ⟨rs, rfl⟩ := rows_rec h2.1
    rw [recs_back] at h2 h3
    exact ⟨rs, rfl, by rw [List.length_map] at h1; exact h1, h2.1, h2.2, h3⟩
  | _ => cases h
theorem sets_parts : ∀ {ds : List PyData}, ds.all rowsetD = true → ∃ pss : List (List Rec), ds = pss.map encP ∧ ∀ ps ∈ pss, RsOk ps
  | [], _ => ⟨[], rfl, fun ps hp => by cases hp⟩
  | d :: ds, h => by
    rw [List.all_cons, Bool.and_eq_true] at h
    obtain ⟨ps, rfl, ok⟩ := set_part h.1
    obtain ⟨pss, rfl, oks⟩ := sets_parts h.2
    refine ⟨ps :: pss, rfl, fun qs hq => ?_⟩
    rcases List.mem_cons.mp hq with e | hq
    · rw [e]; exact ok
    · exact oks qs hq
theorem parts_inj {a b : List (List Rec)} (h : a.map encP = b.map encP) : a = b := by
  have inj : ∀ {x y : List Rec}, encP x = encP y → x = y := fun {x y} e => by
    have e : x.map encR = y.map encR := PyData.tuple.inj e
    have := congrArg (List.map recD) e
    rwa [recs_back, recs_back] at this
  induction a generalizing b with
  | nil => cases b with
    | nil => rfl
    | cons y b => cases h
  | cons x a ih => cases b with
    | nil => cases h
    | cons y b =>
      rw [List.map_cons, List.map_cons, List.cons.injEq] at h
      rw [inj h.1, ih h.2]
def spUR (R N M : Addr) : Sp := fun vs H Q E => ∃ (v : V) (d : PyData), vs = [v] ∧ Dx H v d ∧ SmU d ∧ (setsD d = false → ∀ H', Same H H' → E (.ref R) none H') ∧
  ∀ pss : List (List Rec), d = .tuple (pss.map encP) → (∀ ps ∈ pss, RsOk ps) → pss.flatten.length ≤ 1000 ∧ (oneW pss.flatten = false → ∀ H', Same H H' → E (.ref R) none H') ∧ (oneW pss.flatten = true →
    (confl pss.flatten ≠ [] → ∀ m H' dd, leastN ((confl pss.flatten).map (·.nm)) m → Same H H' → H' dd = some (.xd [("name", .str m)]) → E (.ref N) (some dd) H') ∧
    (confl pss.flatten = [] → ∃ us : List Rec, (∀ r ∈ pss.flatten, r ∈ us) ∧ us.length ≤ 62 ∧ (60 < (uniR pss.flatten).length → ∀ H' dd, Same H H' → H' dd = some (.xd [("limit", .int 60)]) → E (.ref M) (some dd) H') ∧
      ((uniR pss.flatten).length ≤ 60 → ∀ H' p, Same H H' → Dx H' (.ref p) (.tuple ((uniR pss.flatten).map encR)) → Q (.ref p) H')))
abbrev NUR : List Str := ["rowsets", "rowset", "rows", "row", "united"]
theorem scUR : FnScope NUR ["rowsets"] (defScope sUR) := ⟨rfl, rfl, rfl, by decide +kernel, rfl, by decide +kernel, by decide +kernel⟩
section
variable {P : Program} {w : World} {K : PySem.W.Frag} {mg : Str → Option Value} {base : Heap} {R N M fM : Addr} {gM : FuncData}
theorem ok_ur {k : Nat} {f fI fW fC fD : Addr} {fd gI gW gC gD : FuncData} (B : Bl mg) (cr : ∃ t, mg "MAX_ROWS" = some (.int 60 t)) (TR : OC K mg "InvalidRowset" R) (T : TM K mg M fM gM) (D : Df K mg "union_rowsets" sUR ["rowsets"] f fd)
    (DI : Df K mg "is_rowset" sIR ["value"] fI gI) (DW : Df K mg "have_one_width" sHW ["rows"] fW gW) (DC : Df K mg "check_conflicts" sCC ["rows"] fC gC) (DD : Df K mg "different_rows" sDR ["rows"] fD gD)
    (GI : FnOk P w K mg base CX0 (k + 3) fI gI ["value"] spIR) (GW : FnOk P w K mg base CX0 (k + 3) fW gW ["rows"] spHWL) (GC : FnOk P w K mg base (L2.CX P w) (k + 3) fC gC ["rows"] (spCC N)) (GD : FnOk P w K mg base CX0 (k + 3) fD gD ["rows"] spDR) :
    FnOk P w K mg base (L2.CX P w) (k + 4) f fd ["rowsets"] (spUR R N M) := by
  have GM : FnOk P w K mg base CX0 (k + 2) fM gM _ (spIniM M) := (ok_iniM B T).mono (by omega)
  obtain ⟨tr, mr⟩ := cr
  refine D.F.okX scUR (fun vs H Q E h => ?_) (fun cdv A outer s H vs Q E hr h => ?_)
  · obtain ⟨v, d, rfl, _⟩ := h
    rfl
  · obtain ⟨v, d, rfl, hd, sm, qe, q⟩ := h
    have nd := scUR.nd
    refine ⟨_, pss_cons (ps_if (PW.pt (pw_or (pt_not (pt_val (pe_isD (T := "tuple") (x := "tuple") (by decide +kernel) B.isi B.tuple (by decide +kernel) (pv 0) (by rfl) (by rfl))))
        (pw_or1 (pt_not (pt_val (pe_callB (cr_all rfl) (by rfl) B.all (by decide +kernel) (pa_cons (pe_lc (own := [("rowset", 1)]) (g := gName 1) rfl nd (pi_tup (pv 0)) (blkOk_by (N := NUR) (sc := defScope sUR) (by decide +kernel))
          (fun _ _ _ _ _ => pg_name (i := 1) nd rfl (Or.inl rfl)) (fun _ _ _ _ _ => pts_nil) (fun _ _ _ _ _ => pe_call GI hr (by rfl) DI.g DI.F.kp DI.b .nil pass0 (pa_cons (pv 1) pa_nil))) pa_nil)))))))
        (pss_one (ps_raise rfl (takes_of rfl rfl rfl rfl) (pmk_own PySem.F.excBase_ValueError TR.q TR.g TR.kp (raises_own TR.sub TR.ty) (by rfl)))) pss_nil)
      (pss_cons (ps_setLc2 (i := 2) (own := [("rowset", 1), ("row", 3)]) (vs1 := [3]) (g := gName 1) (g1 := gName 3) (wi1 := iTup K (tVar 1)) (te := tVar 3) rfl nd rfl rfl (sw_true rfl rfl rfl (by decide +kernel)) (pi_tup (pv 0)) (blkOk_by (N := NUR) (sc := defScope sUR) (by decide +kernel)) (by decide)
          (fun _ _ _ _ _ => pg_name (i := 1) nd rfl (Or.inl rfl)) (fun _ _ _ _ _ => pts_nil) (fun _ _ _ _ _ => pi_tup (pv 1)) (fun _ _ _ _ _ => pg_name (i := 3) nd rfl (Or.inl rfl)) (fun _ _ _ _ _ => pts_nil) (fun _ _ _ _ _ => pv 3))
      (pss_cons (ps_if (pt_not (pt_val (pe_call GW hr (by rfl) DW.g DW.F.kp DW.b .nil pass0 (pa_cons (pv 2) pa_nil)))) (pss_one (ps_raise rfl (takes_of rfl rfl rfl rfl) (pmk_own PySem.F.excBase_ValueError TR.q TR.g TR.kp (raises_own TR.sub TR.ty) (by rfl)))) pss_nil)
      (pss_cons (ps_expr (pe_callS GC hr (by rfl) DC.g DC.F.kp DC.b (fun σ => passAt (takes_of rfl rfl rfl rfl) σ) (pa_cons (pv 2) pa_nil)))
      (pss_cons (ps_set (i := 4) nd rfl (.inl rfl) (pe_call GD hr (by rfl) DD.g DD.F.kp DD.b .nil pass0 (pa_cons (pv 2) pa_nil)))
      (pss_cons (ps_if (pt_cmpR op_gt (pe_callB (call_lenK (K := K) rfl) (by rfl) B.len PySem.boot_len (pa_cons (pv 4) pa_nil)) (pe_glob (v := .int 60) (by rfl) mr ⟨_, rfl⟩) (nomark _))
          (pss_one (ps_raise rfl (takes_of rfl rfl rfl rfl) (pmk_x T.x T.iC T.tI GM hr T.b pass0 (by rfl) T.g (pa_cons (pe_glob (v := .int 60) (by rfl) mr ⟨_, rfl⟩) pa_nil)))) pss_nil)
      (pss_one (ps_ret (pv 4)))))))), ?_⟩
    refine ⟨v, rfl, rfl, d, hd, _, rfl, ?_⟩
    rw [isa_tuple]
    cases d with
    | tuple ds =>
      obtain ⟨hl, sms⟩ := sm ds rfl
      refine iteF ?_
      obtain ⟨a, xs, rfl, ea, hx⟩ := dx_tup' hd
      have lx := hx.len
      refine ⟨.ref a, rfl, a, rfl, ⟨_, .inl (.inl ea)⟩, fun L nL => ?_⟩
      refine lc_datT (rs := ds) id (fun e => .bool (rowsetD e)) (fun _ => true) nL ea (by rw [List.map_id]; exact hx) hl (fun i e x G ee er sG hdx Pt Pf k1 k2 gD => ?_) (fun G ys sG eL hy => ?_)
      · exact ⟨rfl, x, rfl, x, e, rfl, hdx, sms e er, fun G2 s2 => k1 _ G2 rfl s2 (.bl _)⟩
      · rw [List.filter_eq_self.mpr (fun _ _ => rfl)] at hy
        have e1 : (ds.map fun e => PyData.bool (rowsetD e)) = (ds.map rowsetD).map PyData.bool := by
          rw [List.map_map]
          rfl
        rw [e1] at hy
        rw [dxs_bls hy] at eL
        refine ⟨L, _, rfl, .inl (.inl eL), _, rfl, ?_⟩
        have e2 : (ds.map rowsetD).all id = ds.all rowsetD := by rw [List.all_map]; rfl
        rw [e2]
        cases er : ds.all rowsetD with
        | false => exact iteT (qe er G sG)
        | true =>
          obtain ⟨pss, rfl, oks⟩ := sets_parts er
          obtain ⟨few, q1, q2⟩ := q pss rfl oks
          refine iteF ⟨.ref a, rfl, a, rfl, ⟨_, .inl (.inl (sG _ _ ea))⟩, fun D1 nD1 => ?_⟩
          have hxG := hx.up sG
          have eaG := sG _ _ ea
          have big : (1000 : Nat) < sizeLine := by decide
          rw [List.length_map] at lx
          have atS : ∀ {i : Nat} {x : V}, xs[i]? = some x → ∃ ps b zs, pss[i]? = some ps ∧ x = .ref b ∧ G b = some (.tup zs) ∧ Dxs G zs (ps.map encR) := fun {i x} hxi => by
            obtain ⟨d, ed, hdx⟩ := hxG.get' hxi
            rw [List.getElem?_map] at ed
            obtain ⟨ps, ep, rfl⟩ := Option.map_eq_some_iff.mp ed
            obtain ⟨b, zs, e1, e2, e3⟩ := dx_tup' hdx
            exact ⟨ps, b, zs, ep, e1, e2, e3⟩
          have flen : ∀ i, (pss.take i).flatten.length ≤ pss.flatten.length := fun i => by
            have e := congrArg List.length (congrArg List.flatten (List.take_append_drop i pss))
            rw [List.flatten_append, List.length_append] at e
            omega
          refine ⟨fun i m N2 => m = xs.length - i ∧ i ≤ xs.length ∧ Same G N2 ∧ ∃ ys, N2 D1 = some (.lst ys) ∧ Dxs (hid D1 N2) ys ((pss.take i).flatten.map encR), ⟨xs.length, by simp, Nat.zero_le _, same_new nD1, [], upd_same, .nil⟩, ?_⟩
          rintro i m N2 ⟨rfl, hi, sN, ys, eD, hy⟩
          have eaN := sN _ _ eaG
          by_cases hlt : i < xs.length
          · refine .inr ⟨⟨xs, xs[i], .inl (.inl eaN), by simp [hlt]⟩, fun N3 => Same G N3 ∧ ∃ ys, N3 D1 = some (.lst ys) ∧ Dxs (hid D1 N3) ys ((pss.take (i + 1)).flatten.map encR), fun N3 p3 => ⟨xs.length - (i + 1), by omega, rfl, hlt, p3⟩, fun x N3 y => ?_⟩
            obtain ⟨e, y⟩ := y
            subst e
            obtain ⟨ps, b, zs, ep, rfl, eb, hz⟩ := atS (y xs (.inl (.inl eaN)))
            have lz := hz.len
            rw [List.length_map] at lz
            have tk : (pss.take (i + 1)).flatten = (pss.take i).flatten ++ ps := by rw [take_snoc ep, List.flatten_append]; simp
            have fl1 := flen (i + 1)
            rw [tk, List.length_append] at fl1
            refine ⟨rfl, .ref b, rfl, b, rfl, ⟨_, .inl (.inl (sN _ _ eb))⟩, ?_⟩
            refine ⟨fun j k N4 => k = zs.length - j ∧ j ≤ zs.length ∧ Same G N4 ∧ ∃ ys, N4 D1 = some (.lst ys) ∧ Dxs (hid D1 N4) ys (((pss.take i).flatten ++ ps.take j).map encR), ⟨zs.length, by simp, Nat.zero_le _, sN, ys, eD, by rw [List.take_zero, List.append_nil]; exact hy⟩, ?_⟩
            rintro j k N4 ⟨rfl, hj, s4, ys4, eD4, hy4⟩
            have eb4 := s4 _ _ eb
            by_cases hlt2 : j < zs.length
            · refine .inr ⟨⟨zs, zs[j], .inl (.inl eb4), by simp [hlt2]⟩, fun N5 => Same G N5 ∧ ∃ ys, N5 D1 = some (.lst ys) ∧ Dxs (hid D1 N5) ys (((pss.take i).flatten ++ ps.take (j + 1)).map encR), fun N5 p5 => ⟨zs.length - (j + 1), by omega, rfl, hlt2, p5⟩, fun z N5 y5 => ?_⟩
              obtain ⟨e, y5⟩ := y5
              subst e
              obtain ⟨d2, ed2, hz2⟩ := hz.get' (y5 zs (.inl (.inl eb4)))
              rw [List.getElem?_map] at ed2
              obtain ⟨r, er2, rfl⟩ := Option.map_eq_some_iff.mp ed2
              have ly := hy4.len
              rw [List.length_map, List.length_append, List.length_take] at ly
              refine ⟨rfl, z, rfl, ys4, eD4, by omega, same_at s4 nD1, ys4 ++ [z], upd_same, ?_⟩
              rw [take_snoc er2, ← List.append_assoc, List.map_append]
              refine (hy4.up fun c o e => ?_).app (.cons (hz2.up fun c o e => ?_) .nil)
              · obtain ⟨nc, e⟩ := hid_some e
                rw [hid_at nc, upd_ne nc]
                exact e
              · have nc : c ≠ D1 := ne_of_none e nD1
                rw [hid_at nc, upd_ne nc]
                exact s4 _ _ e
            · refine .inl ⟨⟨zs, .inl (.inl eb4), by omega⟩, s4, ys4, eD4, ?_⟩
              rw [tk]
              rw [List.take_of_length_le (show ps.length ≤ j by omega)] at hy4
              exact hy4
          · rw [List.take_of_length_le (by omega)] at hy
            refine .inl ⟨⟨xs, .inl (.inl eaN), by omega⟩, ?_⟩
            have rows : RowsL N2 (.ref D1) pss.flatten := ⟨D1, ys, rfl, eD, hy.up fun b o e => (hid_some e).2⟩
            have s2 := sG.trans sN
            refine ⟨.ref D1, rfl, .ref D1, pss.flatten, rfl, rows, few, fun G3 s3 => ⟨_, rfl, ?_⟩⟩
            have s03 := s2.trans s3
            cases e1 : oneW pss.flatten with
            | false => exact iteT (q1 e1 G3 s03)
            | true =>
              refine iteF ⟨.ref D1, rfl, .ref D1, pss.flatten, rfl, rows.up s3, few, fun hc G4 s4 => ?_, fun hc m G4 dd lm s4 ed => (q2 e1).1 hc m G4 dd lm (s03.trans s4) ed⟩
              obtain ⟨us, cov, fu, qM, qR⟩ := (q2 e1).2 hc
              refine ⟨.ref D1, rfl, .ref D1, pss.flatten, us, rfl, (rows.up s3).up s4, few, confl_cons hc, cov, fu, fun G5 p s5 hp => ?_⟩
              have s05 := (s03.trans s4).trans s5
              obtain ⟨p', zs, e, ep, hz⟩ := dx_tup' hp
              cases e
              have lz := hz.len
              rw [List.length_map] at lz
              refine ⟨.ref p, rfl, p, zs, rfl, .inr (.inl (.inl ep)), _, _, rfl, rfl, _, rfl, ?_⟩
              by_cases h60 : (60 : Int) < ((zs.length : Nat) : Int)
              · rw [decide_eq_true h60]
                refine iteT ⟨by simp, fun b nb => ⟨b, .int 60, rfl, upd_same, fun dx ndx ne => ⟨rfl, dx, [("limit", .int 60)], upd_same, ?_, ?_, ?_⟩⟩⟩
                · rw [upd_ne ne, upd_same]
                · rw [upd_ne ne] at ndx
                  exact ndx
                · rw [upd_ne ne] at ndx
                  refine qM (by omega) _ dx (fun c o e => ?_) upd_same
                  have e := s05 _ _ e
                  rw [upd_ne (ne_of_none e ndx), del_ne (ne_of_none e nb), upd_ne (ne_of_none e nb), upd_ne (ne_of_none e ndx), upd_ne (ne_of_none e nb)]
                  exact e
              · rw [decide_eq_false h60]
                exact iteF ⟨.ref p, rfl, qR (by omega) G5 p s05 hp⟩
    | _ => exact iteT (qe rfl H (Same.refl H))
end

end U1

set_option maxRecDepth 100000
set_option maxHeartbeats 4000000
namespace KX
open PySem PySem.Spec PyProof.Rows L2
/-! ### xs * k, the new list none of the first addresses -/
def rRepS : R2 := fun x y H Q => ∃ a m zs, x = .ref a ∧ y = .int m ∧ H a = some (.lst zs) ∧ 0 ≤ m ∧ m ≤ 1000 ∧ zs.length * m.toNat ≤ sizeLine ∧ ∀ p, H p = none → p ≠ sysModules → Q (.ref p) (L2.upd H p (.lst (List.replicate m.toNat zs).flatten))
theorem op_repS {X : Cx} : OpR X (binaryOp .Mult) rRepS := by
  intro pins s σ H x y v u Q I rx ry hyp
  obtain ⟨a, m, zs, rfl, rfl, hA, m0, m1, fit, q⟩ := hyp
  cases rx
  obtain ⟨tk, rfl⟩ := ry
  obtain ⟨_, ws, c, rw_, lw, ea⟩ := I.lstM hA
  have fit2 : ws.toArray.size * m.toNat ≤ sizeLine := by rw [List.size_toArray, ← lw]; exact fit
  have c1 : ¬ ws.toArray.size * m.toNat > (2 ^ 63 - 1) / 8 := by
    have line8 : sizeLine ≤ (2 ^ 63 - 1) / 8 := by decide
    omega
  have c2 : ¬ (!Builtin.List.listFitsIndex m) = true := by
    rw [fitsIndex_both (by omega) (by omega)]
    exact Bool.false_ne_true
  have c3 : ¬ Builtin.List.listTooLong (ws.toArray.size * m.toNat) = true := by
    rw [notLongL fit2]
    exact Bool.false_ne_true
  have made : List.foldl (fun b1 b2 => b1 ++ b2) #[] (List.replicate (if ws.toArray.isEmpty = true then 0 else m.toNat) ws.toArray) = (List.replicate m.toNat ws).flatten.toArray := by
    have each : ∀ j : Nat, List.foldl (fun b1 b2 => b1 ++ b2) #[] (List.replicate j ws.toArray) = (List.replicate j ws).flatten.toArray := fun j => by
      have r := foldl_rep ws j []
      rwa [List.nil_append] at r
    rw [each]
    cases ws with
    | nil => simp
    | cons w0 ws' => rw [if_neg (by simp)]
  refine wpAny_binaryOp_repeat_ref (U := "int") (T := "list") (by decide) ⟨_, ea, rfl⟩ (fun s2 => typeIs_int s2 m tk) noFill_list_mul F.fills_int_mul F.slot_int_rmul repeat_list F.slot_int_index.lookup
    (call_meets F.slot_int_rmul (typeIs_int s m tk) F.entry_int_rmul (F.args_int_rmul_2 _ _) (int___rmul___int_list m tk a ws.toArray c)
      ⟨ea, rfl, ⟨_, ea, rfl⟩, call_meets F.slot_list_mul ⟨_, ea, rfl⟩ F.entry_list_mul (F.args_list_mul_2 _ _) (AutoListH.list___mul___list_int_3 a ws.toArray c m tk c2 c1 c3) ⟨ea, ?_⟩⟩)
  rw [made]
  exact ⟨.ref _, _, I.lnew (t' := s.toks) (rw_.rep m.toNat) (by rw [lm_len_rep_flat, Nat.mul_comm]; exact fit), rfl, q _ I.fresh (new_big I (Nat.le_refl _))⟩
end KX

set_option maxRecDepth 100000
set_option maxHeartbeats 1000000
namespace U1
open PySem PySem.Spec PyProof.Rows L2 KX
section
variable {X : Cx}
theorem call_reprU (hu : X.A.units + 200 < cLine) (hg : X.A.guards = some []) : CallR X (.builtin "repr") rReprD := by
  intro pins s σ H xs us Q I r h
  obtain ⟨x, d, e, hd, hs, hdp, hz, q⟩ := h
  subst e
  obtain ⟨u, rfl, rx⟩ := vals1 r
  obtain ⟨as, hrd, hn⟩ := Dx.reads I d x u hd rx
  have fin : ∀ h' u' tk, (∀ b o, s.heap.get? b = some o → h'.get? b = some o) → EP X pins σ Q (.str d.shown u') { s with heap := h', toks := tk } := fun h' u' tk hk =>
    ⟨.str d.shown, H, I.kept (t' := tk) hk, ⟨_, rfl⟩, q⟩
  cases hd with
  | non =>
    cases (show u = Value.none from rx)
    simp only [PyData.shown] at fin
    exact PySem.P.repr_of_none (fin _ _ _ fun _ _ e => e)
  | bl b =>
    cases (show u = Value.bool b from rx)
    simp only [PyData.shown] at fin
    exact PySem.P.repr_of_bool (fin _ _ _ fun _ _ e => e)
  | int i =>
    obtain ⟨t, z⟩ := (show ∃ t, u = Value.int i t from rx)
    cases z
    simp only [PyData.shown] at fin
    exact PySem.P.repr_of_int (by simpa [PyData.showable] using hs) (fin _ _ _ fun _ _ e => e)
  | str y =>
    obtain ⟨t, z⟩ := (show ∃ t, u = Value.str y t from rx)
    cases z
    simp only [PyData.shown] at fin hz
    exact PySem.P.repr_of_str (fin _ _ _ fun _ _ e => e) hz
  | lst e n h =>
    cases (show u = Value.ref _ from rx)
    exact repr_of_reads' hrd hs (fun _ => hn) hg (by omega) (fun _ _ e => e) fin hz
  | tup e h =>
    cases (show u = Value.ref _ from rx)
    exact repr_of_reads' hrd hs (fun _ => hn) hg (by omega) (fun _ _ e => e) fin hz
  | dic e =>
    cases (show u = Value.ref _ from rx)
    exact repr_of_reads' hrd hs (fun _ => hn) hg (by omega) (fun _ _ e => e) fin hz
  | dic1 e =>
    cases (show u = Value.ref _ from rx)
    exact repr_of_reads' hrd hs (fun _ => hn) hg (by omega) (fun _ _ e => e) fin hz
end
theorem okGc {P : Program} {w : World} {K : PySem.W.Frag} {mg : Str → Option Value} {base : Heap} {x qual : Str} {st : Stmt} {f c0 : Addr} {oc kV doc pm ct : Value} {od an : Option Addr} {osl : Array (Option Value)} {N ps : List Str} {k : Nat} {sp : Sp}
    (lk : K.lookup f = some ⟨oc, od, .func (PySem.W.fnOf x qual (defArgs st) (defBody st) (defScope st) .none kV doc pm an (.ref c0) ct), osl⟩) (hcd : PySem.W.codeIn K (.ref c0) qual = true) (S : FnScope N ps (defScope st))
    (len : ∀ vs H Q E, sp vs H Q E → vs.length = ps.length)
    (hbody : ∀ (B : Around) (outs : List PySem.Env) (s : Shared) (H : Hp) (vs : List V) (Q : VK) (E : XK), (B.deeper (envOfC qual (defScope st) s.heap.objs.size f (.ref c0))).guards = some [] → Room k (B.deeper (envOfC qual (defScope st) s.heap.objs.size f (.ref c0))) →
      sp vs H Q E → ∃ t, PSs (cxOf CX0 P w K mg base N qual (defScope st) f (.ref c0) B outs s H E).nox (defBody st) t ∧ t { nx := fun _ H' => Q .non H', rt := Q } (L2.start N vs) H) :
    FnG P w K mg base CX0 (k + 1) f (PySem.W.fnOf x qual (defArgs st) (defBody st) (defScope st) .none kV doc pm an (.ref c0) ct) ps sp := by
  refine fn_ofG lk hcd S len fun B outs s H vs Q E hg hr hsp => ?_
  obtain ⟨t, h, q⟩ := hbody B outs s H vs Q E hg hr hsp
  exact ⟨t, h.nox, q⟩
theorem tabs_new {P0 : Addr} {q : Str} {H : Hp} (h : H P0 = some (.tbl #[])) : LamX.Tabs [(P0, q)] H := fun p hp => by
  cases List.mem_singleton.mp hp
  exact LamX.TabS.nil h
theorem tabs_upd {l : Addr} {T : List (Addr × Str)} {H : Hp} {xs ys : List V} (e : H l = some (.lst xs)) (t : LamX.Tabs T H) : LamX.Tabs T (upd H l (.lst ys)) := fun p hp => by
  obtain ⟨ps, h1, h2, h3⟩ := t p hp
  refine ⟨ps, ?_, h2, fun pos cv hc => ?_⟩
  · rw [upd_ne (fun z => by rw [z, e] at h1; cases h1)]
    exact h1
  · obtain ⟨c, e1, e2⟩ := h3 pos cv hc
    refine ⟨c, e1, ?_⟩
    rw [upd_ne (fun z => by rw [z, e] at e2; unfold LamX.CodeO at e2; cases e2)]
    exact e2
theorem tabs_same {T : List (Addr × Str)} {H H' : Hp} (s : Same H H') (t : LamX.Tabs T H) : LamX.Tabs T H' := t.ext fun b o e => s b o e
theorem ext_same {H H' : Hp} (s : Same H H') : LamX.ExtN H H' := LamX.ExtN.of fun b o e => s b o e
/-! ### _law_outcome -/
abbrev sOut : Stmt := topS 37
/-- which clause takes which error -/
structure XS (K : PySem.W.Frag) (mg : Str → Option Value) (S R N M : Addr) : Prop where
  gS : mg "SparesError" = some (.ref S)
  rs : PySem.W.exmOne K (.ref R) (.ref S) = some true
  ns : PySem.W.exmOne K (.ref N) (.ref S) = some false
  nn : PySem.W.exmOne K (.ref N) (.ref N) = some true
  ms : PySem.W.exmOne K (.ref M) (.ref S) = some false
  mn : PySem.W.exmOne K (.ref M) (.ref N) = some false
  mm : PySem.W.exmOne K (.ref M) (.ref M) = some true
  iR : XI K R
  kR : PySem.W.kitOne K (.ref R) (.ref R) = some true
  kN : PySem.W.kitOne K (.ref N) (.type "LookupError") = some true
  kK : PySem.W.kitOne K (.ref N) (.type "KeyError") = some false
  kM : PySem.W.kitOne K (.ref M) (.type "OverflowError") = some true
def confT (m : Str) : Str := "conflict " ++ (PyData.str m).shown
def ErrW (R N M : Addr) (Q : VK) : XK := fun cls d G => (cls = .ref R ∧ d = none ∧ Q (.str "rowset") G) ∨
  (cls = .ref N ∧ ∃ dd m, d = some dd ∧ G dd = some (.xd [("name", .str m)]) ∧ m.length ≤ 8 ∧ (PyData.str m).shown.length ≤ 9000 ∧ Q (.str (confT m)) G) ∨
  (cls = .ref M ∧ ∃ dd, d = some dd ∧ G dd = some (.xd [("limit", .int 60)]) ∧ Q (.str "limit 60") G)
def TTout (R N M : Addr) : (XK → Hp → VK → Prop) → Hp → VK → Prop := fun tl H Q => ∀ (E : XK) (Q' : VK), (∀ cls d G, ErrW R N M Q cls d G → E cls d G) → (∀ v G, Q (.str "returned") G → Q' v G) → tl E H Q'
theorem scOut : FnScope ["call", "e"] ["call"] (defScope sOut) := ⟨rfl, rfl, rfl, by decide +kernel, rfl, by decide +kernel, by decide +kernel⟩
theorem lim60 : ("limit " : Str) ++ PyData.shown (.int 60) = "limit 60" := by decide +kernel
section
variable {X : Cx} {R N S M fN fM g : Addr} {gN gM : FuncData} {k : Nat} {cdg : Value} {q : Str}
abbrev zOut (X : Cx) (s : Shared) (H : Hp) (g : Addr) (cdg : Value) : Cx := (cxOf C8.CX0 X.prog X.w X.K X.mg X.base ["call", "e"] "_law_outcome" (defScope sOut) g cdg X.A X.stack s H C8.E0).nox
theorem out_gives (B : Bl X.mg) (TR : OC X.K X.mg "InvalidRowset" R) (TN : NC X.K X.mg N fN gN) (TT : TM X.K X.mg M fM gM) (Z : XS X.K X.mg S R N M)
    (hgd : ∀ s : Shared, (X.A.deeper (envOfC "_law_outcome" (defScope sOut) s.heap.objs.size g cdg)).guards = some []) :
    GivesR X k ["call", "e"] "_law_outcome" (defScope sOut) g cdg (defBody sOut) "call" q (TTout R N M) := by
  intro f c' s H Q tl hr act hc h
  have nd := scOut.nd
  have hg := hgd s
  have hu : (X.A.deeper (envOfC "_law_outcome" (defScope sOut) s.heap.objs.size g cdg)).units + 200 < cLine := by
    have := hr.un
    omega
  refine ⟨_, pss_cons (ps_try_mixD (X := zOut X s H g cdg) (tb := fun W => tDrop (fun σZ HZ Qy => σZ[0]? = some (some (.ref f)) ∧ HZ c' = some (LamX.CodeO c' q) ∧ tl (fun cls d H' => W cls d σZ H') HZ Qy)) (Wo := fun _ _ _ _ => False)
      (l := [⟨.ref S, some 1, _⟩, ⟨.ref N, some 1, _⟩, ⟨.ref M, some 1, _⟩]) rfl rfl nd takes0 (fun _ _ _ _ h => h)
      (fun W pn xe tk _ => pss_one (ps_expr (by exact act W pn xe _ _ tk)))
      (.named rfl rfl ⟨rfl, by decide, .inl Z.gS⟩ (fun a oe cls d pn hz hf => pss_one (ps_ret (by exact pe_ifExp (pt_val (pe_callB (call_isN hz hf) (by rfl) B.isi (by decide +kernel) (pa_cons (pv 1) (pa_cons (pe_glob (v := .ref R) (by rfl) TR.g rfl) pa_nil)))) pe_str pe_str)))
      (.named rfl rfl ⟨rfl, by decide, .inl TN.g⟩ (fun a oe cls d pn hz hf => pss_one (ps_ret (by exact pe_ifExp (PW.pt (pw_and (pt_val (pe_callB (call_isX hz hf) (by rfl) B.isi (by decide +kernel) (pa_cons (pv 1) (pa_cons (pe_bltn (v := .ty "LookupError") (by rfl) TN.lk (by decide +kernel) rfl) pa_nil))))
          (pw_and1 (pt_not (pt_val (pe_callB (call_isX hz hf) (by rfl) B.isi (by decide +kernel) (pa_cons (pv 1) (pa_cons (pe_bltn (v := .ty "KeyError") (by rfl) B.kye (by decide +kernel) rfl) pa_nil)))))))) (pe_op op_add_str pe_str (pe_callB (call_reprU hu hg) (by rfl) B.repr (by decide +kernel) (pa_cons (pe_xf TN.i.xf TN.no hz hf (pv 1)) pa_nil))) pe_str)))
      (.named rfl rfl ⟨rfl, by decide, .inl TT.g⟩ (fun a oe cls d pn hz hf => pss_one (ps_ret (by exact pe_ifExp (pt_val (pe_callB (call_isX hz hf) (by rfl) B.isi (by decide +kernel) (pa_cons (pv 1) (pa_cons (pe_bltn (v := .ty "OverflowError") (by rfl) TT.ov (by decide +kernel) rfl) pa_nil)))) (pe_op op_add_str pe_str (pe_callB (call_reprU hu hg) (by rfl) B.repr (by decide +kernel) (pa_cons (pe_xf TT.i.xf TT.no hz hf (pv 1)) pa_nil))) pe_str))) .dead))))
    (pss_one (ps_ret pe_str)), ?_⟩
  refine ⟨rfl, hc, h _ _ (fun cls d G e => ?_) (fun v G k => k)⟩
  rcases e with ⟨rfl, rfl, k⟩ | ⟨rfl, dd, m, rfl, edd, hm, hl, k⟩ | ⟨rfl, dd, rfl, edd, k⟩
  · refine ⟨true, Z.rs, fun _ a na => ?_, fun z => by cases z⟩
    exact ⟨.ref a, rfl, R, .ref R, true, Z.iR, rfl, rfl, rfl, .inl ⟨.ref R, fun u r => r, Z.kR⟩, _, rfl, iteT k⟩
  · refine ⟨false, Z.ns, fun z => (by cases z), fun _ => ⟨true, Z.nn, fun _ a na => ?_, fun z => by cases z⟩⟩
    have l1 : List.lookup ("name" : Str) [(("name" : Str), V.str m)] = some (.str m) := by simp [List.lookup]
    refine ⟨.ref a, rfl, N, dd, [("name", .str m)], .ty "LookupError", true, TN.i, rfl, rfl, edd, rfl, .inl ⟨.type "LookupError", fun u r => r, Z.kN⟩, _, rfl, iteT ?_⟩
    refine ⟨.ref a, rfl, N, dd, [("name", .str m)], .ty "KeyError", false, TN.i, rfl, rfl, edd, rfl, .inl ⟨.type "KeyError", fun u r => r, Z.kK⟩, _, rfl, iteT ?_⟩
    refine ⟨.ref a, rfl, rfl, rfl, dd, [("name", .str m)], .str m, rfl, edd, l1, .str m, .str m, rfl, .str m, rfl, by simp [PyData.depth], by have hb : (9000 : Nat) ≤ sizeLine := (by decide); omega, "conflict ", (PyData.str m).shown, rfl, rfl, ?_, k⟩
    have : ("conflict " : Str).length = 9 := by decide
    have hb : (10000 : Nat) ≤ sizeLine := by decide
    omega
  · refine ⟨false, Z.ms, fun z => (by cases z), fun _ => ⟨false, Z.mn, fun z => (by cases z), fun _ => ⟨true, Z.mm, fun _ a na => ?_, fun z => by cases z⟩⟩⟩
    have l1 : List.lookup ("limit" : Str) [(("limit" : Str), V.int 60)] = some (.int 60) := by simp [List.lookup]
    refine ⟨.ref a, rfl, M, dd, [("limit", .int 60)], .ty "OverflowError", true, TT.i, rfl, rfl, edd, rfl, .inl ⟨.type "OverflowError", fun u r => r, Z.kM⟩, _, rfl, iteT ?_⟩
    refine ⟨.ref a, rfl, rfl, rfl, dd, [("limit", .int 60)], .int 60, rfl, edd, l1, .int 60, .int 60, rfl, .int 60, by decide +kernel, by decide, by decide +kernel, "limit ", PyData.shown (.int 60), rfl, rfl, by decide +kernel, ?_⟩
    rw [lim60]
    exact k
end

end U1

set_option maxRecDepth 100000
set_option maxHeartbeats 1000000
namespace U1
open PySem PySem.Spec PyProof.Rows L2 KX
/-! ### a list of lists of rows -/
theorem set_self {α : Type} : ∀ {xs : List α} {i : Nat} {x : α}, xs[i]? = some x → xs.set i x = xs
  | [], _, _, h => rfl
  | y :: xs, 0, x, h => by
    cases h
    rfl
  | y :: xs, i + 1, x, h => by
    rw [List.set_cons_succ, set_self (by simpa using h)]
theorem rec_tups {H N : Hp} {v : V} {r : Rec} (h : Dx H v (encR r)) (k : ∀ b xs, H b = some (.tup xs) → N b = some (.tup xs)) : Dx N v (encR r) := by
  obtain ⟨a, z, rfl, ea, ez⟩ := row_valsAt h
  exact .tup (k _ _ ea) (.cons (.str _) (.cons (.int _) (.cons (.tup (k _ _ ez) (dxs_ints _)) (.cons (.int _) .nil))))
theorem recs_tups {H N : Hp} (k : ∀ b xs, H b = some (.tup xs) → N b = some (.tup xs)) : ∀ {vs : List V} {rs : List Rec}, Dxs H vs (rs.map encR) → Dxs N vs (rs.map encR)
  | [], [], _ => .nil
  | v :: vs, r :: rs, .cons h t => .cons (rec_tups h k) (recs_tups k t)
structure LL (l : Addr) (H N : Hp) (D : Addr) (as : List (Addr × List V)) (ps : List (List Rec)) : Prop where
  k : Keep l H N
  sH : StO H l
  st : StO N l
  eD : N D = some (.lst (as.map fun a => V.ref a.1))
  nD : H D = none
  inj : ∀ (i j : Nat) a b, as[i]? = some a → as[j]? = some b → a.1 = b.1 → i = j
  at_ : ∀ (i : Nat) a, as[i]? = some a → a.1 ≠ D ∧ H a.1 = none ∧ N a.1 = some (.lst a.2)
  len : as.length = ps.length
  dat : ∀ (i : Nat) a p, as[i]? = some a → ps[i]? = some p → Dxs (hid l N) a.2 (p.map encR)
section
variable {l D : Addr} {H N : Hp} {as : List (Addr × List V)} {ps : List (List Rec)}
theorem LL.ne {l b : Addr} {H : Hp} (s : StO H l) (n : H b = none) : b ≠ l := s.ne n
theorem LL.keep (L : LL l H N D as ps) {N2 : Hp} (k : Keep l N N2) (st : StO N2 l) : LL l H N2 D as ps :=
  ⟨L.k.trans k, L.sH, st, k _ _ (L.sH.ne L.nD) L.eD, L.nD, L.inj, fun i a ha => by
    obtain ⟨h1, h2, h3⟩ := L.at_ i a ha
    exact ⟨h1, h2, k _ _ (L.sH.ne h2) h3⟩, L.len, fun i a p ha hp => (L.dat i a p ha hp).up k.same⟩
theorem LL.start {D : Addr} (st : StO H l) (nD : H D = none) : LL l H (upd H D (.lst [])) D [] [] :=
  ⟨Keep.of (same_new nD), st, st.new nD, upd_same, nD, (fun i j a b h => by simp at h), (fun i a h => by simp at h), rfl, fun i a p h => by simp at h⟩
theorem LL.no (L : LL l H N D as ps) {b : Addr} (n : N b = none) : H b = none := by
  cases e : H b with
  | none => rfl
  | some o =>
    by_cases z : b = l
    · obtain ⟨x, y, w, es⟩ := L.st
      rw [z, es] at n
      cases n
    · rw [L.k b o z e] at n
      cases n
theorem LL.add (L : LL l H N D as ps) {a : Addr} {ys : List V} {p : List Rec} (n : N a = none) (hy : Dxs (hid l N) ys (p.map encR)) :
    LL l H (upd (upd N a (.lst ys)) D (.lst (as.map (fun a => V.ref a.1) ++ [.ref a]))) D (as ++ [(a, ys)]) (ps ++ [p]) := by
  have hn := L.no n
  have aD : a ≠ D := fun z => by rw [z, L.eD] at n; cases n
  have lD : l ≠ D := (L.sH.ne L.nD).symm
  have la : l ≠ a := (L.sH.ne hn).symm
  have up : ∀ {b : Addr} {o : HO}, N b = some o → b ≠ D → (upd (upd N a (.lst ys)) D (.lst (as.map (fun a => V.ref a.1) ++ [.ref a]))) b = some o := fun {b o} e h => by
    rw [upd_ne h, upd_ne (ne_of_none e n)]
    exact e
  have tu : ∀ b xs, (hid l N) b = some (.tup xs) → (hid l (upd (upd N a (.lst ys)) D (.lst (as.map (fun a => V.ref a.1) ++ [.ref a])))) b = some (.tup xs) := fun b xs e => by
    obtain ⟨nb, e⟩ := hid_some e
    rw [hid_at nb]
    exact up e fun z => by rw [z, L.eD] at e; cases e
  refine ⟨fun b o nb e => up (L.k b o nb e) (ne_of_none e L.nD), L.sH, ?_, by rw [upd_same, List.map_append]; rfl, L.nD, fun i j b c hb hc e => ?_, fun i b hb => ?_, by rw [List.length_append, List.length_append, L.len]; rfl, fun i b q hb hq => ?_⟩
  · obtain ⟨x, y, z, e⟩ := L.st
    exact ⟨x, y, z, up e lD⟩
  · have key : ∀ {i : Nat} {b : Addr × List V}, (as ++ [(a, ys)])[i]? = some b → (as[i]? = some b ∧ b.1 ≠ a) ∨ (i = as.length ∧ b.1 = a) := fun {i b} h => by
      rw [List.getElem?_append] at h
      split at h
      · exact .inl ⟨h, fun z => by
          have := (L.at_ i b h).2.2
          rw [z, n] at this
          cases this⟩
      · rename_i hi
        cases e : i - as.length with
        | zero =>
          rw [e] at h
          cases h
          exact .inr ⟨by omega, rfl⟩
        | succ m => rw [e] at h; simp at h
    rcases key hb with ⟨h1, h2⟩ | ⟨h1, h2⟩ <;> rcases key hc with ⟨h3, h4⟩ | ⟨h3, h4⟩
    · exact L.inj i j b c h1 h3 e
    · exact absurd (e.trans h4) h2
    · exact absurd (e.symm.trans h2) h4
    · omega
  · rw [List.getElem?_append] at hb
    split at hb
    · obtain ⟨h1, h2, h3⟩ := L.at_ i b hb
      exact ⟨h1, h2, up h3 h1⟩
    · cases e : i - as.length with
      | zero =>
        rw [e] at hb
        cases hb
        exact ⟨aD, hn, by rw [upd_ne aD, upd_same]⟩
      | succ m => rw [e] at hb; simp at hb
  · rw [List.getElem?_append] at hb hq
    rw [L.len] at hb
    split at hb
    · rename_i hi
      rw [if_pos hi] at hq
      exact recs_tups tu (L.dat i b q hb hq)
    · rename_i hi
      rw [if_neg hi] at hq
      cases e : i - ps.length with
      | zero =>
        rw [e] at hb hq
        cases hb
        cases hq
        exact recs_tups tu hy
      | succ m => rw [e] at hb; simp at hb
theorem LL.put (L : LL l H N D as ps) {i : Nat} {a : Addr × List V} {ys : List V} {p : List Rec} (ha : as[i]? = some a) (hy : Dxs (hid l N) ys (p.map encR)) : LL l H (upd N a.1 (.lst ys)) D (as.set i (a.1, ys)) (ps.set i p) := by
  obtain ⟨a1, a2, a3⟩ := L.at_ i a ha
  have hi : i < as.length := (List.getElem?_eq_some_iff.mp ha).1
  have m1 : (as.set i (a.1, ys)).map (fun a => V.ref a.1) = as.map fun a => V.ref a.1 := by
    rw [List.map_set]
    exact set_self (by rw [List.getElem?_map, ha]; rfl)
  have key : ∀ {j : Nat} {b : Addr × List V}, (as.set i (a.1, ys))[j]? = some b → (j = i ∧ b = (a.1, ys)) ∨ (j ≠ i ∧ as[j]? = some b ∧ b.1 ≠ a.1) := fun {j b} h => by
    rw [List.getElem?_set] at h
    by_cases z : i = j
    · rw [if_pos z, if_pos hi] at h
      exact .inl ⟨z.symm, (Option.some.inj h).symm⟩
    · rw [if_neg z] at h
      exact .inr ⟨fun e => z e.symm, h, fun e => z (L.inj i j a b ha h e.symm)⟩
  have tu : ∀ b xs, (hid l N) b = some (.tup xs) → (hid l (upd N a.1 (.lst ys))) b = some (.tup xs) := fun b xs e => by
    obtain ⟨nb, e⟩ := hid_some e
    rw [hid_at nb, upd_ne (fun z => by rw [z, a3] at e; cases e)]
    exact e
  refine ⟨fun b o nb e => ?_, L.sH, ?_, by rw [m1, upd_ne a1.symm]; exact L.eD, L.nD, fun x y b c hb hc e => ?_, fun j b hb => ?_, by rw [List.length_set, List.length_set]; exact L.len, fun j b q hb hq => ?_⟩
  · rw [upd_ne (ne_of_none e a2)]
    exact L.k b o nb e
  · obtain ⟨x, y, z, e⟩ := L.st
    exact ⟨x, y, z, by rw [upd_ne (L.sH.ne a2).symm]; exact e⟩
  · rcases key hb with ⟨h1, h2⟩ | ⟨h1, h2, h3⟩ <;> rcases key hc with ⟨g1, g2⟩ | ⟨g1, g2, g3⟩
    · omega
    · rw [h2] at e
      exact absurd e.symm g3
    · rw [g2] at e
      exact absurd e h3
    · exact L.inj x y b c h2 g2 e
  · rcases key hb with ⟨h1, h2⟩ | ⟨h1, h2, h3⟩
    · rw [h2]
      exact ⟨a1, a2, upd_same⟩
    · obtain ⟨b1, b2, b3⟩ := L.at_ j b h2
      exact ⟨b1, b2, by rw [upd_ne h3]; exact b3⟩
  · rcases key hb with ⟨h1, h2⟩ | ⟨h1, h2, h3⟩
    · rw [h1, List.getElem?_set, if_pos rfl, if_pos (by rw [← L.len]; exact hi)] at hq
      cases hq
      rw [h2]
      exact recs_tups tu hy
    · rw [List.getElem?_set, if_neg (fun e => h1 e.symm)] at hq
      exact recs_tups tu (L.dat j b q h2 hq)
theorem LL.get (L : LL l H N D as ps) {i : Nat} (hi : i < ps.length) : ∃ a, as[i]? = some a ∧ ps[i]? = some ps[i] ∧ a.1 ≠ D ∧ N a.1 = some (.lst a.2) ∧ Dxs (hid l N) a.2 (ps[i].map encR) ∧ a.2.length = ps[i].length := by
  have hl := L.len
  have h1 : as[i]? = some as[i] := List.getElem?_eq_getElem (by omega)
  obtain ⟨a1, a2, a3⟩ := L.at_ i _ h1
  have d := L.dat i _ _ h1 (List.getElem?_eq_getElem hi)
  exact ⟨_, h1, List.getElem?_eq_getElem hi, a1, a3, d, by have := d.len; rwa [List.length_map] at this⟩
end
/-- tuple([tuple(part) for part in parts]) -/
theorem lc_parts {K : PySem.W.Frag} {l D D2 : Addr} {H N : Hp} {as : List (Addr × List V)} {ps : List (List Rec)} {j : Nat} {te : TE} {vs : List Nat} {σ : L2.St} {Qd : Hp → Prop} (L : LL l H N D as ps) (few : ps.length ≤ 100) (n2 : N D2 = none)
    (hw : ∀ x, wipe ((wipe σ vs).set j (some x)) vs = wipe σ vs)
    (ht : ∀ (x : Addr) (ys : List V) (G : Hp) (Q : VK), G x = some (.lst ys) → (∀ t, G t = none → Q (.ref t) (upd G t (.tup ys))) → te ((wipe σ vs).set j (some (.ref x))) G Q)
    (hd : ∀ G zs, Keep l H G → StO G l → G D2 = some (.lst zs) → Dxs (hid l (hid D2 G)) zs (ps.map encP) → (∀ b o, N b = some o → G b = some o) → Qd G) :
    ∃ W : Nat → Nat → Hp → Prop, (∃ m, W 0 m (upd N D2 (.lst []))) ∧ ∀ i m H, W i m H →
      ((Itl K D).stop i H ∧ Qd H) ∨ ((Itl K D).go i H ∧ ∃ Nx : Hp → Prop, (∀ H', Nx H' → ∃ m', m' < m ∧ W (i + 1) m' H') ∧ ∀ x H', (Itl K D).yld i H x H' → gName j x (wipe σ vs) H' fun σ2 H2 => wipe σ2 vs = wipe σ vs ∧ tYes σ2 H2 fun b H3 =>
        if b = true then te σ2 H3 fun y H4 => ∃ acc, H4 D2 = some (.lst acc) ∧ acc.length < sizeLine ∧ Nx (upd H4 D2 (.lst (acc ++ [y]))) else Nx H3) := by
  have h2 := L.no n2
  have l2 := L.sH.ne h2
  refine lc_list (xs := as.map fun a => V.ref a.1) (fun i G => Same N G ∧ ∃ zs, G D2 = some (.lst zs) ∧ Dxs (hid l (hid D2 G)) zs ((ps.take i).map encP)) ⟨same_new n2, [], upd_same, .nil⟩ (fun i G _ hG => .inl (.inl (hG.1 _ _ L.eD))) (fun i x G hx hG => ?_) (fun G hG => ?_)
  · obtain ⟨sG, zs, e2, hz⟩ := hG
    rw [List.getElem?_map] at hx
    obtain ⟨a, ha, rfl⟩ := Option.map_eq_some_iff.mp hx
    have hi : i < ps.length := by rw [← L.len]; exact (List.getElem?_eq_some_iff.mp ha).1
    obtain ⟨a1, a2, a3⟩ := L.at_ i a ha
    have hp : ps[i]? = some ps[i] := List.getElem?_eq_getElem hi
    have da := L.dat i a _ ha hp
    refine ⟨hw _, ht a.1 a.2 G _ (sG _ _ a3) fun t nt => ?_⟩
    have t2 : t ≠ D2 := fun z => by rw [z, e2] at nt; cases nt
    have hl := hz.len
    rw [List.length_map, List.length_take] at hl
    have hb : (1000 : Nat) < sizeLine := by decide
    have tl : t ≠ l := (L.st.same sG).ne nt
    have s3 : Same G (upd G t (.tup a.2)) := same_new nt
    refine ⟨zs, by rw [upd_ne t2.symm]; exact e2, by omega, fun b o e => ?_, zs ++ [.ref t], upd_same, ?_⟩
    · rw [upd_ne (ne_of_none e n2)]
      exact s3 _ _ (sG _ _ e)
    · rw [take_snoc hp, List.map_append]
      have s5 : ∀ {b : Addr} {o : HO}, b ≠ D2 → G b = some o → (upd (upd G t (.tup a.2)) D2 (.lst (zs ++ [.ref t]))) b = some o := fun nb e => by
        rw [upd_ne nb]
        exact s3 _ _ e
      refine (hz.up fun b o e => ?_).app (.cons (.tup (xs := a.2) ?_ (da.up fun b o e => ?_)) .nil)
      · obtain ⟨nb, e⟩ := hid_some e
        obtain ⟨nb2, e⟩ := hid_some e
        rw [hid_at nb, hid_at nb2]
        exact s5 nb2 e
      · rw [hid_at tl, hid_at t2, upd_ne t2, upd_same]
      · obtain ⟨nb, e⟩ := hid_some e
        have nb2 := ne_of_none e n2
        rw [hid_at nb, hid_at nb2]
        exact s5 nb2 (sG _ _ e)
  · obtain ⟨sG, zs, e2, hz⟩ := hG
    rw [List.take_of_length_le (by rw [List.length_map, L.len]; exact Nat.le_refl _)] at hz
    exact hd G zs (L.k.trans (Keep.of sG)) (L.st.same sG) e2 hz fun b o e => sG b o e

end U1

set_option maxRecDepth 100000
set_option maxHeartbeats 1000000
namespace U1
open PySem PySem.Spec PyProof.Rows L2 KX
/-! ### _law_split -/
abbrev sSp : Stmt := topS 38
abbrev NSp : List Str := ["stream", "rows", "total", "found", "turn", "row", "own", "at", "part"]
theorem scSp : FnScope NSp ["stream", "rows"] (defScope sSp) := ⟨rfl, rfl, rfl, by decide +kernel, rfl, by decide +kernel, by decide +kernel⟩
def rTupOf (K : PySem.W.Frag) : List V → Hp → VK → Prop := fun xs H Q => ∃ p ys, xs = [.ref p] ∧ ((SqL K H p ys ∧ ∀ l, H l = none → Q (.ref l) (upd H l (.tup ys))) ∨ (SqT K H p ys ∧ Q (.ref p) H))
structure SplitOk (rs : List Rec) (pss : List (List Rec)) : Prop where
  l1 : 1 ≤ pss.length
  l5 : pss.length ≤ 5
  sub : ∀ ps ∈ pss, ps.Sublist rs
  cov : ∀ r ∈ rs, ∃ ps ∈ pss, r ∈ ps
def spSp : Sp := fun vs H Q _ => ∃ (l : Addr) (v : V) (rs : List Rec), vs = [.ref l, v] ∧ StO H l ∧ Dx (hid l H) v (.tuple (rs.map encR)) ∧ rs.length ≤ 61 ∧
  ∀ H' p pss, Keep l H H' → StO H' l → SplitOk rs pss → Dx (hid l H') (.ref p) (.tuple (pss.map encP)) → Q (.ref p) H'
/-- the parts while row i is dealt out, up to part j -/
structure Deal (rs : List Rec) (t i j own : Nat) (ps : List (List Rec)) : Prop where
  len : ps.length = t
  sub : ∀ (x : Nat) p, ps[x]? = some p → p.Sublist (rs.take (i + 1)) ∧ (j ≤ x → p.Sublist (rs.take i))
  old : ∀ r ∈ rs.take i, ∃ p ∈ ps, r ∈ p
  new : own < j → ∀ r, rs[i]? = some r → ∃ p ∈ ps, r ∈ p
structure Dealt (rs : List Rec) (t i : Nat) (ps : List (List Rec)) : Prop where
  len : ps.length = t
  sub : ∀ p ∈ ps, p.Sublist (rs.take i)
  cov : ∀ r ∈ rs.take i, ∃ p ∈ ps, r ∈ p
theorem take_sub {α : Type} (xs : List α) (i : Nat) : (xs.take i).Sublist (xs.take (i + 1)) := by
  have h := List.take_sublist i (xs.take (i + 1))
  rwa [List.take_take, Nat.min_eq_left (Nat.le_succ i)] at h
theorem Dealt.start {rs : List Rec} {t i own : Nat} {ps : List (List Rec)} (d : Dealt rs t i ps) : Deal rs t i 0 own ps :=
  ⟨d.len, fun x p h => ⟨(d.sub p (List.mem_of_getElem? h)).trans (take_sub rs i), fun _ => d.sub p (List.mem_of_getElem? h)⟩, d.cov, fun h => absurd h (Nat.not_lt_zero _)⟩
theorem Deal.done {rs : List Rec} {t i own : Nat} {ps : List (List Rec)} {r : Rec} (d : Deal rs t i t own ps) (ho : own < t) (er : rs[i]? = some r) : Dealt rs t (i + 1) ps := by
  refine ⟨d.len, fun p hp => ?_, fun q hq => ?_⟩
  · obtain ⟨x, hx⟩ := List.getElem?_of_mem hp
    exact (d.sub x p hx).1
  · rw [take_snoc er] at hq
    rcases List.mem_append.mp hq with h | h
    · exact d.old q h
    · rw [List.mem_singleton.mp h]
      exact d.new ho r er
theorem Deal.skip {rs : List Rec} {t i j own : Nat} {ps : List (List Rec)} (d : Deal rs t i j own ps) (ne : j ≠ own) : Deal rs t i (j + 1) own ps :=
  ⟨d.len, fun x p h => ⟨(d.sub x p h).1, fun z => (d.sub x p h).2 (by omega)⟩, d.old, fun z => d.new (by omega)⟩
theorem Deal.give {rs : List Rec} {t i j own : Nat} {ps : List (List Rec)} {r : Rec} {p : List Rec} (d : Deal rs t i j own ps) (er : rs[i]? = some r) (ep : ps[j]? = some p) : Deal rs t i (j + 1) own (ps.set j (p ++ [r])) := by
  have hj : j < ps.length := (List.getElem?_eq_some_iff.mp ep).1
  have sp := (d.sub j p ep).2 (Nat.le_refl _)
  have mem : ∀ {q : Rec}, (∃ p ∈ ps, q ∈ p) → ∃ p' ∈ ps.set j (p ++ [r]), q ∈ p' := fun {q} h => by
    obtain ⟨p2, h1, h2⟩ := h
    obtain ⟨x, hx⟩ := List.getElem?_of_mem h1
    by_cases z : j = x
    · subst z
      rw [ep] at hx
      cases hx
      exact ⟨p ++ [r], List.mem_of_getElem? (i := j) (by rw [List.getElem?_set, if_pos rfl, if_pos hj]), List.mem_append_left _ h2⟩
    · exact ⟨p2, List.mem_of_getElem? (i := x) (by rw [List.getElem?_set, if_neg z]; exact hx), h2⟩
  refine ⟨by rw [List.length_set]; exact d.len, fun x q h => ?_, fun q hq => mem (d.old q hq), fun _ q hq => ?_⟩
  · rw [List.getElem?_set] at h
    by_cases z : j = x
    · rw [if_pos z, if_pos hj] at h
      cases h
      refine ⟨?_, fun y => by omega⟩
      rw [take_snoc er]
      exact sp.append (List.Sublist.refl _)
    · rw [if_neg z] at h
      exact ⟨(d.sub x q h).1, fun y => (d.sub x q h).2 (by omega)⟩
  · rw [er] at hq
    cases hq
    exact ⟨p ++ [r], List.mem_of_getElem? (i := j) (by rw [List.getElem?_set, if_pos rfl, if_pos hj]), List.mem_append_right _ List.mem_cons_self⟩
section
variable {P : Program} {w : World} {K : PySem.W.Frag} {mg : Str → Option Value} {base : Heap}
theorem ok_sp {k : Nat} {f fD : Addr} {fd gD : FuncData} (B : Bl mg) (D : Df K mg "_law_split" sSp ["stream", "rows"] f fd) (DD : Df K mg "_law_draw" sDraw ["stream", "total"] fD gD) (GD : FnOk P w K mg base CX0 k fD gD ["stream", "total"] spDraw) :
    FnOk P w K mg base CX0 (k + 1) f fd ["stream", "rows"] spSp := by
  refine D.F.ok scSp (fun vs H Q E h => ?_) (fun cdv A outer s H vs Q E hr h => ?_)
  · obtain ⟨l, v, rs, rfl, _⟩ := h
    rfl
  · obtain ⟨l, v, rs, rfl, st, hd, l61, q⟩ := h
    have nd := scSp.nd
    refine ⟨_, pss_cons (ps_set (i := 2) nd rfl (.inl rfl) (pe_op op_add pe_int (pe_call GD hr (by rfl) DD.g DD.F.kp DD.b .nil pass0 (pa_cons (pv 0) (pa_cons pe_int pa_nil)))))
      (pss_cons (ps_setLc (i := 3) (own := [("turn", 4)]) (g := gName 4) (by rfl) nd rfl rfl (sw_true rfl rfl rfl (by decide +kernel)) (pi_range1 (by rfl) B.range (pa_cons (pv 2) pa_nil)) (blkOk_by (N := NSp) (sc := defScope sSp) (by decide +kernel)) (fun _ _ _ _ _ => pg_name (i := 4) nd rfl (Or.inl rfl)) (fun _ _ _ _ _ => pts_nil) (fun _ _ _ _ _ => pe_lst pa_nil))
      (pss_cons (ps_for PassesOwn.never rfl (pi_tup (pv 1)) (pg_name (i := 5) nd rfl (.inl rfl))
        (pss_cons (ps_set (i := 6) nd rfl (.inl rfl) (pe_call GD hr (by rfl) DD.g DD.F.kp DD.b .nil pass0 (pa_cons (pv 0) (pa_cons (pv 2) pa_nil))))
        (pss_one (ps_for PassesOwn.never rfl (pi_range1 (by rfl) B.range (pa_cons (pv 2) pa_nil)) (pg_name (i := 7) nd rfl (.inl rfl))
          (pss_one (ps_if (PW.pt (pw_or (pt_cmpR op_eq (pv 7) (pv 6) (nomark _)) (pw_or1 (pt_cmpR op_eq (pe_call GD hr (by rfl) DD.g DD.F.kp DD.b .nil pass0 (pa_cons (pv 0) (pa_cons pe_int pa_nil))) pe_int (nomark _)))))
            (pss_one (ps_expr (pe_bm PySem.F.plainAttrs_list PySem.F.slot_list_append PySem.F.type_list_append mt_append (pe_ix (r := rIxL K) ix_list (pv 3) (pv 7) (fun _ _ => rfl)) (pa_cons (pv 5) pa_nil)))) pss_nil))))))
      (pss_one (ps_ret (pe_callTy call_tuple_of (by rfl) B.tuple (by decide +kernel) (pa_cons (pe_lc (own := [("part", 8)]) (g := gName 8) rfl nd (pi_list (pv 3)) (blkOk_by (N := NSp) (sc := defScope sSp) (by decide +kernel)) (fun _ _ _ _ _ => pg_name (i := 8) nd rfl (Or.inl rfl)) (fun _ _ _ _ _ => pts_nil)
        (fun _ _ _ _ _ => pe_callTy (T := "tuple") (r := rTupOf K) call_tuple_of (by rfl) B.tuple (by decide +kernel) (pa_cons (pv 8) pa_nil))) pa_nil)))))), ?_⟩
    obtain ⟨a, xs, rfl, ea, hx⟩ := dx_tup' hd
    have lx := hx.len
    rw [List.length_map] at lx
    refine ⟨.ref l, rfl, l, 5, rfl, st, by decide, by decide, fun H1 n k1 st1 n0 n5 => ⟨1, n, rfl, rfl, ?_⟩⟩
    have hb : (1000 : Nat) < sizeLine := by decide
    have t1 : 1 ≤ (1 + n).toNat := by omega
    have t5 : (1 + n).toNat ≤ 5 := by omega
    have aH : H a = some (.tup xs) := (hid_some ea).2
    have al : a ≠ l := (hid_some ea).1
    have aH1 := k1 _ _ al aH
    refine ⟨.int (1 + n), rfl, 1 + n, rfl, by omega, by omega, fun D nD => ?_⟩
    have L0 := LL.start st1 nD
    refine lc_range (fun j G => ∃ as ps, LL l H1 G D as ps ∧ as.length = j ∧ ∀ p ∈ ps, p = []) ⟨[], [], L0, rfl, by simp⟩ (fun j G hj hG => ?_) (fun G hG => ?_)
    · obtain ⟨as, ps, L, la, hp⟩ := hG
      refine ⟨rfl, by show 0 ≤ sizeLine; omega, fun b nb => ?_⟩
      have bD : D ≠ b := fun z => by rw [← z, L.eD] at nb; cases nb
      refine ⟨as.map (fun a => V.ref a.1), by rw [upd_ne bD]; exact L.eD, by rw [List.length_map]; omega, as ++ [(b, [])], ps ++ [[]], L.add nb .nil, by rw [List.length_append, la]; rfl, fun p hp2 => ?_⟩
      rcases List.mem_append.mp hp2 with h | h
      · exact hp p h
      · exact List.mem_singleton.mp h
    · obtain ⟨as, ps, L, la, hp⟩ := hG
      have dx1 : Dxs (hid l H1) xs (rs.map encR) := hx.up k1.same
      refine ⟨.ref a, rfl, a, rfl, ⟨_, .inl (.inl (L.k _ _ al aH1))⟩, ?_⟩
      refine for_tup (K := K) (xs := xs) (fun i σ N => ∃ as ps, LL l H1 N D as ps ∧ Dealt rs (1 + n).toNat i ps ∧ ∃ o4 o5 o6 o7 o8 : Option V, σ = [some (.ref l), some (.ref a), some (.int (1 + n)), some (.ref D), o4, o5, o6, o7, o8])
        ⟨as, ps, L, ⟨by rw [← L.len, la], fun p h => by rw [hp p h]; exact List.nil_sublist _, fun r h => by rw [List.take_zero] at h; cases h⟩, _, _, _, _, _, rfl⟩ (fun i σ N _ hN => .inl (.inl (hN.choose_spec.choose_spec.1.k _ _ al aH1))) (fun i x σ N hxi hN => ?_) (fun σ N hN => ?_)
      · obtain ⟨as, ps, L, dl, o4, o5, o6, o7, o8, rfl⟩ := hN
        obtain ⟨d, ed, hdx⟩ := dx1.get' hxi
        rw [List.getElem?_map] at ed
        obtain ⟨r, er, rfl⟩ := Option.map_eq_some_iff.mp ed
        refine ⟨.ref l, rfl, .int (1 + n), rfl, l, 1 + n, rfl, L.st, by omega, by omega, fun N1 own k2 st2 w0 w1 => ?_⟩
        have L1 := L.keep k2 st2
        refine ⟨.int (1 + n), rfl, 1 + n, rfl, by omega, by omega, ?_⟩
        refine for_range (fun j σ G => ∃ as ps, LL l H1 G D as ps ∧ Deal rs (1 + n).toNat i j own.toNat ps ∧ ∃ o4 o7 o8 : Option V, σ = [some (.ref l), some (.ref a), some (.int (1 + n)), some (.ref D), o4, some x, some (.int own), o7, o8])
          ⟨as, ps, L1, dl.start, _, _, _, rfl⟩ (fun j σ G hj hG => ?_) (fun σ G hG => ?_)
        · obtain ⟨as, ps, L, de, o4, o7, o8, rfl⟩ := hG
          have hjp : j < ps.length := by rw [de.len]; exact hj
          -- the row is given to part j
          have give : ∀ G2 : Hp, Keep l G G2 → StO G2 l → ∃ p xs, (V.ref D) = .ref p ∧ SqL K G2 p xs ∧ ∃ a2 : Addr × List V, atI xs (0 + (j : Int)) = some (.ref a2.1) ∧ G2 a2.1 = some (.lst a2.2) ∧ a2.2.length < sizeLine ∧
              ∃ as2 ps2, LL l H1 (upd G2 a2.1 (.lst (a2.2 ++ [x]))) D as2 ps2 ∧ Deal rs (1 + n).toNat i (j + 1) own.toNat ps2 := fun G2 k3 st3 => by
            have L2 := L.keep k3 st3
            obtain ⟨a2, h1, h2, h3, h4, h5, h6⟩ := L2.get hjp
            refine ⟨D, _, rfl, .inl (.inl L2.eD), a2, ?_, h4, ?_, as.set j (a2.1, a2.2 ++ [x]), ps.set j (ps[j] ++ [r]), L2.put h1 ?_, de.give er h2⟩
            · rw [Int.zero_add]
              exact atI_nat (by rw [List.getElem?_map, h1]; rfl)
            · have := ((de.sub j _ h2).1).length_le
              rw [List.length_take] at this
              omega
            · rw [List.map_append]
              exact h5.app (.cons (hdx.up L2.k.same) .nil)
          refine ⟨.int (0 + (j : Int)), rfl, .int own, rfl, rfl, _, rfl, ?_⟩
          by_cases e : (V.int (0 + (j : Int))) = .int own
          · rw [decide_eq_true e]
            obtain ⟨p, xs2, e1, e2, a2, e3, e4, e5, as2, ps2, L3, d3⟩ := give G (Keep.refl l G) L.st
            exact iteT (iteT ⟨.ref D, rfl, .int (0 + (j : Int)), rfl, p, xs2, _, _, e1, rfl, e2, e3, .inl ⟨rfl, _, .inl (.inl e4)⟩, x, rfl, a2.1, a2.2, x, rfl, rfl, e4, e5, as2, ps2, L3, d3, _, _, _, rfl⟩)
          · rw [decide_eq_false e]
            refine iteF ⟨.ref l, rfl, l, 4, rfl, L.st, by decide, by decide, fun G2 m k3 st3 m0 m4 => ⟨rfl, _, rfl, ?_⟩⟩
            by_cases em : V.int m = .int 0
            · rw [decide_eq_true em]
              obtain ⟨p, xs2, e1, e2, a2, e3, e4, e5, as2, ps2, L3, d3⟩ := give G2 k3 st3
              exact iteT ⟨.ref D, rfl, .int (0 + (j : Int)), rfl, p, xs2, _, _, e1, rfl, e2, e3, .inl ⟨rfl, _, .inl (.inl e4)⟩, x, rfl, a2.1, a2.2, x, rfl, rfl, e4, e5, as2, ps2, L3, d3, _, _, _, rfl⟩
            · rw [decide_eq_false em]
              exact iteF ⟨as, ps, L.keep k3 st3, de.skip (fun z => e (by congr 1; omega)), _, _, _, rfl⟩
        · obtain ⟨as, ps, L, de, o4, o7, o8, rfl⟩ := hG
          exact ⟨as, ps, L, de.done (by omega) er, _, _, _, _, _, rfl⟩
      · obtain ⟨as, ps, L, dl, o4, o5, o6, o7, o8, rfl⟩ := hN
        have ft : rs.take xs.length = rs := List.take_of_length_le (by omega)
        refine ⟨.ref D, rfl, D, rfl, ⟨_, .inl (.inl L.eD)⟩, fun D2 n2 => ?_⟩
        refine lc_parts L (by rw [dl.len]; omega) n2 (fun x => rfl) (fun x ys G Q e qq => ⟨.ref x, rfl, x, ys, rfl, .inl ⟨.inl (.inl e), qq⟩⟩) (fun G zs k2 s2 e2 hz up => ?_)
        refine ⟨D2, zs, rfl, .inl ⟨.inl (.inl e2), fun p np => ?_⟩⟩
        have pl := s2.ne np
        refine q _ p ps ((k1.trans k2).new np) (s2.new np) ⟨by rw [dl.len]; exact t1, by rw [dl.len]; exact t5, fun p hp => by have := dl.sub p hp; rwa [ft] at this, fun r hr => dl.cov r (by rw [ft]; exact hr)⟩ (.tup (by rw [hid_at pl, upd_same]) (hz.up fun b o e => ?_))
        obtain ⟨nb, e⟩ := hid_some e
        obtain ⟨nb2, e⟩ := hid_some e
        rw [hid_at nb, upd_ne (ne_of_none e np)]
        exact e
end

end U1

set_option maxRecDepth 100000
set_option maxHeartbeats 1000000
namespace U1
open PySem PySem.Spec PyProof.Rows L2 KX
/-! ### _law_other_row -/
abbrev sOr : Stmt := topS 39
abbrev NOr : List Str := ["stream", "row", "name", "cost", "items", "expiry", "some"]
theorem scOr : FnScope NOr ["stream", "row"] (defScope sOr) := ⟨rfl, rfl, rfl, by decide +kernel, rfl, by decide +kernel, by decide +kernel⟩
def spOr : Sp := fun vs H Q _ => ∃ (l : Addr) (v : V) (wd : Nat) (r : Rec), vs = [.ref l, v] ∧ StO H l ∧ Dx (hid l H) v (encR r) ∧ ROk wd r ∧ 1 ≤ wd ∧ wd ≤ 4 ∧
  ∀ H' y r', Keep l H H' → StO H' l → ROk wd r' → r'.nm = r.nm → Dx (hid l H') y (encR r') → Q y H'
theorem catS {K : PySem.W.Frag} {H : Hp} {ds es : List PyData} {Q : VK} {v u : V} (hd : Dx H v (.tuple ds)) (he : Dx H u (.tuple es)) (hz : ds.length + es.length ≤ sizeLine) (q : ∀ H' p, Same H H' → Dx H' (.ref p) (.tuple (ds ++ es)) → Q (.ref p) H') : rCatA K v u H Q := by
  obtain ⟨t, xs, rfl, et, hx⟩ := dx_tup' hd
  obtain ⟨c, ys, rfl, ec, hy⟩ := dx_tup' he
  have l1 := hx.len
  have l2 := hy.len
  refine ⟨t, c, xs, ys, rfl, rfl, .inl (.inl et), .inl (.inl ec), by omega, fun z => ?_, fun _ z => ?_, fun _ _ p np => q _ p (same_new np) (.tup upd_same ((hx.app hy).up (same_new np)))⟩
  · subst z
    have e : ds = [] := List.eq_nil_of_length_eq_zero l1.symm
    subst e
    exact q H c (Same.refl H) he
  · subst z
    have e : es = [] := List.eq_nil_of_length_eq_zero l2.symm
    subst e
    rw [List.append_nil] at q
    exact q H t (Same.refl H) hd
theorem ints_vals {H : Hp} : ∀ {ns : List Int} {ys : List V}, Dxs H ys (ns.map .int) → ys = ns.map V.int
  | [], [], _ => rfl
  | n :: ns, y :: ys, .cons h t => by
    cases h
    rw [ints_vals t]
    rfl
theorem cut_neg (ns : List Int) (x : Int) : KX.cutD ((ns ++ [x]).map PyData.int) none (some (-1)) = ns.map PyData.int := by
  have hl : ((ns ++ [x]).map PyData.int).length = ns.length + 1 := by rw [List.length_map, List.length_append]; rfl
  unfold KX.cutD
  rw [hl, HT.sIx_none]
  have e : HT.sIx (ns.length + 1) (ns.length + 1) (some (-1)) = ns.length := by
    show (if (-1 : Int) < 0 then ((-1 : Int) + ((ns.length + 1 : Nat) : Int)).toNat else min (-1 : Int).toNat (ns.length + 1)) = ns.length
    rw [if_pos (by decide)]
    omega
  rw [e, List.drop_zero, Nat.sub_zero, List.map_append, List.take_append_of_le_length (by rw [List.length_map]; exact Nat.le_refl _), List.take_of_length_le (by rw [List.length_map]; exact Nat.le_refl _)]
section
variable {P : Program} {w : World} {K : PySem.W.Frag} {mg : Str → Option Value} {base : Heap}
theorem ok_or {k : Nat} {f fD : Addr} {fd gD : FuncData} (D : Df K mg "_law_other_row" sOr ["stream", "row"] f fd) (DD : Df K mg "_law_draw" sDraw ["stream", "total"] fD gD) (GD : FnOk P w K mg base CX0 k fD gD ["stream", "total"] spDraw) :
    FnOk P w K mg base CX0 (k + 1) f fd ["stream", "row"] spOr := by
  refine D.F.ok scOr (fun vs H Q E h => ?_) (fun cdv A outer s H vs Q E hr h => ?_)
  · obtain ⟨l, v, wd, r, rfl, _⟩ := h
    rfl
  · obtain ⟨l, v, wd, r, rfl, st, hd, ok, w1, w4, q⟩ := h
    have nd := scOr.nd
    refine ⟨_, pss_cons (ps_asg (pv 1) (pg_tup (by rfl) (pgs_cons (pg_name (i := 2) nd rfl (.inl rfl)) (pgs_cons (pg_name (i := 3) nd rfl (.inl rfl)) (pgs_cons (pg_name (i := 4) nd rfl (.inl rfl)) (pgs_cons (pg_name (i := 5) nd rfl (.inl rfl)) pgs_nil))))))
      (pss_cons (ps_set (i := 6) nd rfl (.inl rfl) (pe_lst (pa_cons (pe_tup (pa_cons (pv 2) (pa_cons (pe_op op_add (pe_op op_mod (pv 3) (pe_op op_powW pe_int pe_int)) pe_int) (pa_cons (pv 4) (pa_cons (pv 5) pa_nil)))))
        (pa_cons (pe_tup (pa_cons (pv 2) (pa_cons (pv 3) (pa_cons (pv 4) (pa_cons (pe_op op_add (pe_op op_mod (pv 5) (pe_op op_powW pe_int pe_int)) pe_int) pa_nil))))) pa_nil))))
      (pss_one (ps_ret (pe_ix (r := rIxL K) ix_list (pe_op op_cat (pv 6) (pe_lst (pa_cons (pe_tup (pa_cons (pv 2) (pa_cons (pv 3) (pa_cons (pe_op op_catA (pe_slice sl_tupA (pv 4) po_none (po_some (pe_un un_neg pe_int))) (pe_tup (pa_cons (pe_op op_sub pe_int (pe_op op_mod (pe_ix (r := rIxT K) ix_tup (pv 4) (pe_un un_neg pe_int) (fun _ _ => rfl)) pe_int)) pa_nil))) (pa_cons (pv 5) pa_nil))))) pa_nil)))
        (pe_call GD hr (by rfl) DD.g DD.F.kp DD.b .nil pass0 (pa_cons (pv 0) (pa_cons pe_int pa_nil))) (fun _ _ => rfl))))), ?_⟩
    obtain ⟨a, z, rfl, ea, ez⟩ := row_valsAt hd
    obtain ⟨al, ea⟩ := hid_some ea
    obtain ⟨zl, ez⟩ := hid_some ez
    obtain ⟨n, hn, o⟩ := ok
    refine ⟨.ref a, rfl, a, _, rfl, .inl (.inl ea), rfl, _, _, rfl, _, _, rfl, _, _, rfl, _, _, rfl, rfl, ?_⟩
    refine ⟨.str r.nm, rfl, .int r.cost, rfl, 10, 6, rfl, rfl, ⟨by decide, by decide +kernel⟩, r.cost, _, rfl, rfl, by show (0 : Int) < _; decide, _, 1, rfl, rfl, .ref z, rfl, .int r.exp, rfl, by show 4 ≤ sizeLine; decide, fun t1 n1 => ?_⟩
    refine ⟨.str r.nm, rfl, .int r.cost, rfl, .ref z, rfl, .int r.exp, rfl, 10, 9, rfl, rfl, ⟨by decide, by decide +kernel⟩, r.exp, _, rfl, rfl, by show (0 : Int) < _; decide, _, 1, rfl, rfl, by show 4 ≤ sizeLine; decide, fun t2 n2 => ⟨by show 2 ≤ sizeLine; decide, fun p np => ?_⟩⟩
    refine ⟨.ref p, rfl, .str r.nm, rfl, .int r.cost, rfl, .ref z, rfl, ?_⟩
    have hv : r.vals ≠ [] := fun e => by have := o.len; rw [e] at this; simp at this; omega
    obtain ⟨init, x, ev⟩ : ∃ init x, r.vals = init ++ [x] := by
      rcases List.eq_nil_or_concat r.vals with e | ⟨init, x, e⟩
      · exact absurd e hv
      · exact ⟨init, x, by rw [e, List.concat_eq_append]⟩
    rw [ev] at ez
    have olen := o.len
    rw [ev, List.length_append] at olen
    have olen : init.length + 1 = wd := olen
    have ovs := o.vs
    rw [ev] at ovs
    have s1 := same_new (o := .tup [V.str r.nm, V.int (r.cost % 10 ^ (6 : Int).toNat + 1), V.ref z, V.int r.exp]) n1
    have e1 : (upd H t1 (.tup [V.str r.nm, V.int (r.cost % 10 ^ (6 : Int).toNat + 1), V.ref z, V.int r.exp])) t1 = some (.tup [V.str r.nm, V.int (r.cost % 10 ^ (6 : Int).toNat + 1), V.ref z, V.int r.exp]) := upd_same
    generalize upd H t1 (.tup [V.str r.nm, V.int (r.cost % 10 ^ (6 : Int).toNat + 1), V.ref z, V.int r.exp]) = H1 at s1 e1 n2 np ⊢
    have s2 := same_new (o := .tup [V.str r.nm, V.int r.cost, V.ref z, V.int (r.exp % 10 ^ (9 : Int).toNat + 1)]) n2
    have e2 : (upd H1 t2 (.tup [V.str r.nm, V.int r.cost, V.ref z, V.int (r.exp % 10 ^ (9 : Int).toNat + 1)])) t2 = some (.tup [V.str r.nm, V.int r.cost, V.ref z, V.int (r.exp % 10 ^ (9 : Int).toNat + 1)]) := upd_same
    generalize upd H1 t2 (.tup [V.str r.nm, V.int r.cost, V.ref z, V.int (r.exp % 10 ^ (9 : Int).toNat + 1)]) = H2 at s2 e2 np ⊢
    have s3 := same_new (o := .lst [V.ref t1, V.ref t2]) np
    have e3 : (upd H2 p (.lst [V.ref t1, V.ref t2])) p = some (.lst [V.ref t1, V.ref t2]) := upd_same
    generalize upd H2 p (.lst [V.ref t1, V.ref t2]) = H3 at s3 e3 ⊢
    have dz : Dx H (.ref z) (.tuple ((init ++ [x]).map .int)) := .tup ez (dxs_ints _)
    have s03 := (s1.trans s2).trans s3
    have ez3 := s03 _ _ ez
    refine ⟨1, rfl, -1, rfl, ?_⟩
    refine sl_same (dz.up s03) fun H4 y1 s4 h4 => ?_
    rw [cut_neg] at h4
    refine ⟨.ref z, rfl, 1, rfl, z, _, -1, .int x, rfl, rfl, .inl (.inl (s4 _ _ ez3)), by rw [List.map_append]; exact atI_last _ _, x, 2, rfl, rfl, by show (0 : Int) < _; decide, 1, _, rfl, rfl, by show 1 ≤ sizeLine; decide, fun t4 n4 => ?_⟩
    have s5 := same_new (o := .tup [V.int (1 - x % 2)]) n4
    have h5 : Dx (upd H4 t4 (.tup [V.int (1 - x % 2)])) (.ref t4) (.tuple [.int (1 - x % 2)]) := .tup upd_same (.cons (.int _) .nil)
    generalize upd H4 t4 (.tup [V.int (1 - x % 2)]) = H5 at s5 h5 ⊢
    refine catS (h4.up s5) h5 (by rw [List.length_map]; show init.length + 1 ≤ sizeLine; have hb : (1000 : Nat) < sizeLine := (by decide); omega) fun H6 y6 s6 h6 => ?_
    refine ⟨.int r.exp, rfl, by show 4 ≤ sizeLine; decide, fun t7 n7 => ?_⟩
    have s7 := same_new (o := .tup [V.str r.nm, V.int r.cost, V.ref y6, V.int r.exp]) n7
    have e7 : (upd H6 t7 (.tup [V.str r.nm, V.int r.cost, V.ref y6, V.int r.exp])) t7 = some (.tup [V.str r.nm, V.int r.cost, V.ref y6, V.int r.exp]) := upd_same
    generalize upd H6 t7 (.tup [V.str r.nm, V.int r.cost, V.ref y6, V.int r.exp]) = H7 at s7 e7 ⊢
    refine ⟨by show 1 ≤ sizeLine; decide, fun p8 n8 => ?_⟩
    have s8 := same_new (o := .lst [V.ref t7]) n8
    have e8 : (upd H7 p8 (.lst [V.ref t7])) p8 = some (.lst [V.ref t7]) := upd_same
    generalize upd H7 p8 (.lst [V.ref t7]) = H8 at s8 e8 ⊢
    have s38 := ((((s4.trans s5).trans s6).trans s7).trans s8)
    refine ⟨p, p8, _, _, rfl, rfl, s38 _ _ e3, e8, by show 2 + 1 ≤ sizeLine; decide, fun p9 n9 => ?_⟩
    have s9 := same_new (o := .lst ([V.ref t1, V.ref t2] ++ [V.ref t7])) n9
    have e9 : (upd H8 p9 (.lst ([V.ref t1, V.ref t2] ++ [V.ref t7]))) p9 = some (.lst [V.ref t1, V.ref t2, V.ref t7]) := upd_same
    generalize upd H8 p9 (.lst ([V.ref t1, V.ref t2] ++ [V.ref t7])) = H9 at s9 e9 n9 ⊢
    have s09 := (s03.trans s38).trans s9
    refine ⟨.ref l, rfl, l, 3, rfl, st.same s09, by decide, by decide, fun H' m k' st' m0 m3 => ?_⟩
    have kl := (Keep.of s09).trans k'
    have up : ∀ {b : Addr} {o : HO}, b ≠ l → H9 b = some o → (hid l H') b = some o := fun nb e => by rw [hid_at nb]; exact k' _ _ nb e
    have st9 := st.same s09
    have neT : ∀ {b : Addr} {vs : List V}, H9 b = some (.tup vs) → b ≠ l := fun {b vs} e z => by
      obtain ⟨x1, x2, x3, es⟩ := st9
      rw [z, es] at e
      cases e
    have upT : ∀ {b : Addr} {vs : List V}, H9 b = some (.tup vs) → (hid l H') b = some (.tup vs) := fun e => up (neT e) e
    have E1 := upT (s9 _ _ (s38 _ _ (s3 _ _ (s2 _ _ e1))))
    have E2 := upT (s9 _ _ (s38 _ _ (s3 _ _ e2)))
    have E7 := upT (s9 _ _ (s8 _ _ e7))
    have EZ := upT (s09 _ _ ez)
    have dZ : Dx (hid l H') (.ref z) (.tuple (r.vals.map .int)) := by
      rw [ev]
      exact .tup EZ (dxs_ints _)
    obtain ⟨y6', ys, ey6, ey, hys⟩ := dx_tup' h6
    cases ey6
    have EY := upT (s9 _ _ (s8 _ _ (s7 _ _ ey)))
    have eys : ys = (init ++ [1 - x % 2]).map V.int := ints_vals (ns := init ++ [1 - x % 2]) (H := H6) (by rw [List.map_append]; exact hys)
    have hys : Dxs (hid l H') ys ((init ++ [1 - x % 2]).map .int) := by
      rw [eys]
      exact dxs_ints _
    have mm : m = 0 ∨ m = 1 ∨ m = 2 := by omega
    rcases mm with rfl | rfl | rfl
    · refine ⟨p9, _, 0, .ref t1, rfl, rfl, .inl (.inl (k' _ _ (fun z => by obtain ⟨x1, x2, x3, es⟩ := st9; rw [z, es] at e9; cases e9) e9)), rfl, ?_⟩
      exact q H' _ ⟨r.nm, r.cost % 10 ^ (6 : Int).toNat + 1, r.vals, r.exp⟩ kl st' ⟨n, hn, o.nm, by show 1 ≤ r.cost % 1000000 + 1; omega, by show r.cost % 1000000 + 1 ≤ 1000000; omega, o.len, o.vs, o.e0, o.e1⟩ rfl (.tup E1 (.cons (.str _) (.cons (.int _) (.cons dZ (.cons (.int _) .nil)))))
    · refine ⟨p9, _, 1, .ref t2, rfl, rfl, .inl (.inl (k' _ _ (fun z => by obtain ⟨x1, x2, x3, es⟩ := st9; rw [z, es] at e9; cases e9) e9)), rfl, ?_⟩
      exact q H' _ ⟨r.nm, r.cost, r.vals, r.exp % 10 ^ (9 : Int).toNat + 1⟩ kl st' ⟨n, hn, o.nm, o.c0, o.c1, o.len, o.vs, by show 1 ≤ r.exp % 1000000000 + 1; omega, by show r.exp % 1000000000 + 1 ≤ 1000000000; omega⟩ rfl (.tup E2 (.cons (.str _) (.cons (.int _) (.cons dZ (.cons (.int _) .nil)))))
    · refine ⟨p9, _, 2, .ref t7, rfl, rfl, .inl (.inl (k' _ _ (fun z => by obtain ⟨x1, x2, x3, es⟩ := st9; rw [z, es] at e9; cases e9) e9)), rfl, ?_⟩
      refine q H' _ ⟨r.nm, r.cost, init ++ [1 - x % 2], r.exp⟩ kl st' ⟨n, hn, o.nm, o.c0, o.c1, by show (init ++ [1 - x % 2]).length = wd; rw [List.length_append]; exact olen, fun v hv => ?_, o.e0, o.e1⟩ rfl (.tup E7 (.cons (.str _) (.cons (.int _) (.cons (.tup EY hys) (.cons (.int _) .nil)))))
      rcases List.mem_append.mp hv with h | h
      · exact ovs v (List.mem_append_left _ h)
      · rw [List.mem_singleton.mp h]
        omega
end

end U1

set_option maxRecDepth 100000
set_option maxHeartbeats 1000000
namespace U1
open PySem PySem.Spec PyProof.Rows L2 KX
/-! ### _law_with_conflicts -/
theorem lc_lists {K : PySem.W.Frag} {l a D : Addr} {H : Hp} {xs : List V} {pss : List (List Rec)} {j : Nat} {te : TE} {vs : List Nat} {σ : L2.St} {Qd : Hp → Prop} (st : StO H l) (ea : H a = some (.tup xs)) (hx : Dxs (hid l H) xs (pss.map encP)) (nD : H D = none) (few : pss.length ≤ 100)
    (hw : ∀ x, wipe ((wipe σ vs).set j (some x)) vs = wipe σ vs)
    (ht : ∀ (x : Addr) (ys : List V) (G : Hp) (Q : VK), G x = some (.tup ys) → (∀ t, G t = none → Q (.ref t) (upd G t (.lst ys))) → te ((wipe σ vs).set j (some (.ref x))) G Q)
    (hd : ∀ G as, LL l H G D as pss → Qd G) :
    ∃ W : Nat → Nat → Hp → Prop, (∃ m, W 0 m (upd H D (.lst []))) ∧ ∀ i m H, W i m H →
      ((Itt K a).stop i H ∧ Qd H) ∨ ((Itt K a).go i H ∧ ∃ Nx : Hp → Prop, (∀ H', Nx H' → ∃ m', m' < m ∧ W (i + 1) m' H') ∧ ∀ x H', (Itt K a).yld i H x H' → gName j x (wipe σ vs) H' fun σ2 H2 => wipe σ2 vs = wipe σ vs ∧ tYes σ2 H2 fun b H3 =>
        if b = true then te σ2 H3 fun y H4 => ∃ acc, H4 D = some (.lst acc) ∧ acc.length < sizeLine ∧ Nx (upd H4 D (.lst (acc ++ [y]))) else Nx H3) := by
  have lx := hx.len
  rw [List.length_map] at lx
  have al : a ≠ l := fun z => by
    obtain ⟨x1, x2, x3, es⟩ := st
    rw [z, es] at ea
    cases ea
  refine lc_tup (xs := xs) (fun i G => ∃ as, LL l H G D as (pss.take i)) ⟨[], LL.start st nD⟩ (fun i G _ hG => .inl (.inl (hG.choose_spec.k _ _ al ea))) (fun i x G hxi hG => ?_) (fun G hG => ?_)
  · obtain ⟨as, L⟩ := hG
    obtain ⟨d, ed, hdx⟩ := hx.get' hxi
    rw [List.getElem?_map] at ed
    obtain ⟨p, ep, rfl⟩ := Option.map_eq_some_iff.mp ed
    obtain ⟨b, ys, rfl, eb, hy⟩ := dx_tup' hdx
    obtain ⟨nb, eb⟩ := hid_some eb
    have ii : i < pss.length := (List.getElem?_eq_some_iff.mp ep).1
    refine ⟨hw _, ht b ys G _ (L.k _ _ nb eb) fun t nt => ?_⟩
    have tD : D ≠ t := fun z => by rw [← z, L.eD] at nt; cases nt
    have hl := L.len
    rw [List.length_take] at hl
    have hb : (1000 : Nat) < sizeLine := by decide
    refine ⟨_, by rw [upd_ne tD]; exact L.eD, by rw [List.length_map]; omega, as ++ [(t, ys)], ?_⟩
    rw [take_snoc ep]
    exact L.add nt (hy.up L.k.same)
  · obtain ⟨as, L⟩ := hG
    rw [List.take_of_length_le (by omega)] at L
    exact hd G as L
def rLstOf (K : PySem.W.Frag) : List V → Hp → VK → Prop := fun xs H Q => ∃ p ys, xs = [V.ref p] ∧ (SqL K H p ys ∨ SqT K H p ys) ∧ ∀ l, H l = none → Q (.ref l) (upd H l (.lst ys))
abbrev sWc : Stmt := topS 40
abbrev NWc : List Str := ["stream", "parts", "part", "turn", "at", "spot", "every", "names", "row", "other"]
theorem scWc : FnScope NWc ["stream", "parts"] (defScope sWc) := ⟨rfl, rfl, rfl, by decide +kernel, rfl, by decide +kernel, by decide +kernel⟩
def optD : Option Str → PyData
  | none => .none
  | some m => .str m
/-- the least of the names that belong to two rows -/
def LeastO (rs : List Rec) (o : Option Str) : Prop := (o = none → confl rs = []) ∧ ∀ m, o = some m → leastN ((confl rs).map (·.nm)) m
structure Chg (wd : Nat) (pss qss : List (List Rec)) : Prop where
  nms : qss.map (fun p => p.map fun r : Rec => r.nm) = pss.map fun p => p.map fun r : Rec => r.nm
  ok : ∀ p ∈ qss, ∀ r ∈ p, ROk wd r
def spWc : Sp := fun vs H Q _ => ∃ (l : Addr) (v : V) (wd : Nat) (pss : List (List Rec)), vs = [.ref l, v] ∧ StO H l ∧ Dx (hid l H) v (.tuple (pss.map encP)) ∧ 1 ≤ pss.length ∧ pss.length ≤ 5 ∧ (∀ p ∈ pss, p.length ≤ 61) ∧ (∀ p ∈ pss, ∀ r ∈ p, ROk wd r) ∧ 1 ≤ wd ∧ wd ≤ 4 ∧
  ∀ H' p qss o, Keep l H H' → StO H' l → Chg wd pss qss → LeastO qss.flatten o → Dx (hid l H') (.ref p) (.tuple [.tuple (qss.map encP), optD o]) → Q (.ref p) H'
/-- the comprehension's own test -/
abbrev rowSc : Scope := { kind := .function, names := [(".0", .local), ("row", .cell), ("every", .free)], isGenerator := false, isCoroutine := false }
def twice (rs : List Rec) (r : Rec) : Bool := rs.any fun o => decide (o.nm = r.nm) && !decide (o = r)
theorem twice_names {rs : List Rec} {n : Str} : n ∈ ((rs.filter (twice rs)).map (·.nm)) ↔ n ∈ (confl rs).map (·.nm) := by
  rw [confl_iff]
  constructor
  · intro h
    obtain ⟨r, hr, rfl⟩ := List.mem_map.mp h
    obtain ⟨h1, h2⟩ := List.mem_filter.mp hr
    obtain ⟨o, ho, e⟩ := List.any_eq_true.mp h2
    rw [Bool.and_eq_true, decide_eq_true_eq] at e
    exact ⟨o, ho, r, h1, e.1, rfl, by simpa using e.2⟩
  · rintro ⟨a, ha, b, hb, ea, eb, ne⟩
    exact List.mem_map.mpr ⟨b, List.mem_filter.mpr ⟨hb, List.any_eq_true.mpr ⟨a, ha, by simp [ea, eb, ne]⟩⟩, eb⟩
theorem any_filter (rs : List Rec) (f : Rec → Bool) : (!(rs.filter f).isEmpty) = rs.any f := by
  induction rs with
  | nil => rfl
  | cons r rs ih =>
    rw [List.filter_cons, List.any_cons]
    cases h : f r with
    | true => simp
    | false => simp [ih]
theorem dxs_set {H : Hp} {d : PyData} {v : V} (h : Dx H v d) : ∀ {vs : List V} {ds : List PyData} (j : Nat), Dxs H vs ds → Dxs H (vs.set j v) (ds.set j d)
  | _, _, _, .nil => .nil
  | _, _, 0, .cons _ t => .cons h t
  | _, _, j + 1, .cons g t => .cons g (dxs_set h j t)
theorem flat_len {N : Nat} : ∀ {ps : List (List Rec)}, (∀ p ∈ ps, p.length ≤ N) → ps.flatten.length ≤ ps.length * N
  | [], _ => by simp
  | p :: ps, h => by
    have h1 := h p List.mem_cons_self
    have h2 := flat_len fun q hq => h q (List.mem_cons_of_mem _ hq)
    rw [List.flatten_cons, List.length_append, List.length_cons, Nat.succ_mul]
    omega
theorem flat_take (ps : List (List Rec)) (i : Nat) : (ps.take i).flatten.length ≤ ps.flatten.length := by
  have e := congrArg List.length (congrArg List.flatten (List.take_append_drop i ps))
  rw [List.flatten_append, List.length_append] at e
  omega
theorem Chg.lens {wd : Nat} {pss qss : List (List Rec)} (c : Chg wd pss qss) {N : Nat} (h : ∀ p ∈ pss, p.length ≤ N) : qss.length = pss.length ∧ ∀ p ∈ qss, p.length ≤ N := by
  have hl := congrArg List.length c.nms
  rw [List.length_map, List.length_map] at hl
  refine ⟨hl, fun p hp => ?_⟩
  have hm : p.map (fun r : Rec => r.nm) ∈ pss.map fun p => p.map fun r : Rec => r.nm := by
    rw [← c.nms]
    exact List.mem_map.mpr ⟨p, hp, rfl⟩
  obtain ⟨q, hq, e⟩ := List.mem_map.mp hm
  have := congrArg List.length e
  rw [List.length_map, List.length_map] at this
  have := h q hq
  omega
theorem Chg.set {wd : Nat} {pss qss : List (List Rec)} (c : Chg wd pss qss) {i j : Nat} {p : List Rec} {r r' : Rec} (ep : qss[i]? = some p) (er : p[j]? = some r) (ok : ROk wd r') (en : r'.nm = r.nm) : Chg wd pss (qss.set i (p.set j r')) := by
  refine ⟨?_, fun q hq x hx => ?_⟩
  · rw [← c.nms, List.map_set]
    refine set_self ?_
    rw [List.getElem?_map, ep]
    show some (p.map fun r : Rec => r.nm) = some ((p.set j r').map fun r : Rec => r.nm)
    rw [List.map_set, set_self (x := r'.nm) (by rw [List.getElem?_map, er, en]; rfl)]
  · rcases List.mem_or_eq_of_mem_set hq with h | h
    · exact c.ok q h x hx
    · rw [h] at hx
      rcases List.mem_or_eq_of_mem_set hx with h2 | h2
      · exact c.ok p (List.mem_of_getElem? ep) x h2
      · rw [h2]; exact ok
section
variable {P : Program} {w : World} {K : PySem.W.Frag} {mg : Str → Option Value} {base : Heap}
theorem ok_wc {k : Nat} {f fD fO : Addr} {fd gD gO : FuncData} (B : Bl mg) (D : Df K mg "_law_with_conflicts" sWc ["stream", "parts"] f fd) (DD : Df K mg "_law_draw" sDraw ["stream", "total"] fD gD) (DO : Df K mg "_law_other_row" sOr ["stream", "row"] fO gO)
    (GD : FnOk P w K mg base CX0 k fD gD ["stream", "total"] spDraw) (GO : FnOk P w K mg base CX0 k fO gO ["stream", "row"] spOr) :
    FnOk P w K mg base CX0 (k + 1) f fd ["stream", "parts"] spWc := by
  refine D.F.ok scWc (fun vs H Q E h => ?_) (fun cdv A outer s H vs Q E hr h => ?_)
  · obtain ⟨l, v, wd, pss, rfl, _⟩ := h
    rfl
  · obtain ⟨l, v, wd, pss, rfl, st, hd, n1, n5, few, oks, w1, w4, q⟩ := h
    have nd := scWc.nd
    have hu : (A.deeper (envOfC (Str.ofString "_law_with_conflicts") (defScope sWc) s.heap.objs.size f cdv)).units < cLine := by
      have := hr.units
      omega
    refine ⟨_, pss_cons (ps_setLc (i := 1) (own := [("part", 2)]) (g := gName 2) (by rfl) nd rfl rfl (sw_true rfl rfl rfl (by decide +kernel)) (pi_tup (pv 1)) (blkOk_by (N := NWc) (sc := defScope sWc) (by decide +kernel)) (fun _ _ _ _ _ => pg_name (i := 2) nd rfl (Or.inl rfl)) (fun _ _ _ _ _ => pts_nil)
        (fun _ _ _ _ _ => pe_callTy (T := "list") (r := rLstOf K) call_list_of (by rfl) B.list (by decide +kernel) (pa_cons (pv 2) pa_nil)))
      (pss_cons (ps_for PassesOwn.never rfl (pi_range1 (by rfl) B.range (pa_cons (pe_op op_add pe_int (pe_call GD hr (by rfl) DD.g DD.F.kp DD.b .nil pass0 (pa_cons (pv 0) (pa_cons pe_int pa_nil)))) pa_nil)) (pg_name (i := 3) nd rfl (.inl rfl))
        (pss_cons (ps_set (i := 4) nd rfl (.inl rfl) (pe_call GD hr (by rfl) DD.g DD.F.kp DD.b .nil pass0 (pa_cons (pv 0) (pa_cons (pe_callB (call_lenK (K := K) rfl) (by rfl) B.len PySem.boot_len (pa_cons (pv 1) pa_nil)) pa_nil))))
        (pss_one (ps_if (pt_cmpR (op_neL0 hu) (pe_ix (r := rIxL K) ix_list (pv 1) (pv 4) (fun _ _ => rfl)) (pe_lst pa_nil) (nomark _))
          (pss_cons (ps_set (i := 5) nd rfl (.inl rfl) (pe_call GD hr (by rfl) DD.g DD.F.kp DD.b .nil pass0 (pa_cons (pv 0) (pa_cons (pe_callB (call_lenK (K := K) rfl) (by rfl) B.len PySem.boot_len (pa_cons (pe_ix (r := rIxL K) ix_list (pv 1) (pv 4) (fun _ _ => rfl)) pa_nil)) pa_nil))))
          (pss_one (ps_asg (pe_call GO hr (by rfl) DO.g DO.F.kp DO.b .nil pass0 (pa_cons (pv 0) (pa_cons (pe_ix (r := rIxL K) ix_list (pe_ix (r := rIxL K) ix_list (pv 1) (pv 4) (fun _ _ => rfl)) (pv 5) (fun _ _ => rfl)) pa_nil)))
            (pg_sub (pe_ix (r := rIxL K) ix_list (pv 1) (pv 4) (fun _ _ => rfl)) (pv 5) set_list)))) pss_nil))))
      (pss_cons (ps_set (i := 6) nd rfl (.inr rfl) (pe_lst pa_nil))
      (pss_cons (ps_for PassesOwn.never rfl (pi_list (pv 1)) (pg_name (i := 2) nd rfl (.inl rfl)) (pss_one (ps_set (i := 6) nd rfl (.inr rfl) (pe_op op_cat (pv 6) (pv 2)))))
      (pss_cons (ps_setLc (i := 7) (own := [("row", 8)]) (g := gName 8) (by rfl) nd rfl rfl (sw_true rfl rfl rfl (by decide +kernel)) (pi_list (pv 6)) (blkOk_by (N := NWc) (sc := defScope sWc) (by decide +kernel)) (fun _ _ _ _ _ => pg_name (i := 8) nd rfl (Or.inr rfl))
        (tt := tTest (tOp (rNeL0 K) (tLc (iList K (tVar 6)) (gName 9) (tAnd (tTest (tOp rEq (tOp (rIxT K) (tVar 9) (tC (V.int 0))) (tOp (rIxT K) (tVar 8) (tC (V.int 0))))) (tTest (tOp (rEqP K not) (tVar 9) (tVar 8)))) (tC (V.int 1)) [9]) (tLst tNil)))
        (fun _ _ _ _ _ => pts_one (pt_cmpR (r := rNeL0 K) (op_neL0 (show _ < cLine from hu)) (pe_lc (own := [("other", 9)]) (g := gName 9) rfl nd (pi_list (pv 6)) (blkOk_by (N := NWc) (sc := relS rowSc (defScope sWc)) (by decide +kernel)) (fun _ _ _ _ _ => pg_name (i := 9) nd rfl (Or.inl rfl))
          (fun _ _ _ _ _ => pts_one (PW.pt (pw_and (pt_cmpR op_eq (pe_ix (r := rIxT K) ix_tup (pv 9) pe_int (fun _ _ => rfl)) (pe_ix (r := rIxT K) ix_tup (pv 8) pe_int (fun _ _ => rfl)) (by rfl)) (pw_and1 (pt_cmpR (r := rEqP K not) (op_neP hr.units) (pv 9) (pv 8) (by rfl))))))
          (fun _ _ _ _ _ => pe_int)) (pe_lst pa_nil) (nomark _)))
        (fun _ _ _ _ _ => pe_ix (r := rIxT K) ix_tup (pv 8) pe_int (fun _ _ => rfl)))
      (pss_one (ps_ret (pe_tup (pa_cons (pe_callTy call_tuple_of (by rfl) B.tuple (by decide +kernel) (pa_cons (pe_lc (own := [("part", 2)]) (g := gName 2) rfl nd (pi_list (pv 1)) (blkOk_by (N := NWc) (sc := defScope sWc) (by decide +kernel)) (fun _ _ _ _ _ => pg_name (i := 2) nd rfl (Or.inl rfl)) (fun _ _ _ _ _ => pts_nil)
          (fun _ _ _ _ _ => pe_callTy (T := "tuple") (r := rTupOf K) call_tuple_of (by rfl) B.tuple (by decide +kernel) (pa_cons (pv 2) pa_nil))) pa_nil))
        (pa_cons (pe_ifExp (pt_cmpR (op_neL0 hu) (pv 7) (pe_lst pa_nil) (nomark _)) (pe_callB (call_minX (enc := PyData.str) rfl hr) (by rfl) B.min (by decide +kernel) (pa_cons (pv 7) pa_nil)) pe_non) pa_nil))))))))), ?_⟩
    obtain ⟨a, xs, rfl, ea, hx⟩ := dx_tup' hd
    obtain ⟨al, aH⟩ := hid_some ea
    have lx := hx.len
    rw [List.length_map] at lx
    have hb : (1000 : Nat) < sizeLine := by decide
    refine ⟨.ref a, rfl, a, rfl, ⟨_, .inl (.inl aH)⟩, fun D0 nD => ?_⟩
    refine lc_lists st aH hx nD (by omega) (fun x => rfl) (fun x ys G Q e qq => ⟨.ref x, rfl, x, ys, rfl, .inr (.inl (.inl e)), qq⟩) (fun G as L => ?_)
    refine ⟨.ref l, rfl, l, 2, rfl, L.st, by decide, by decide, fun H1 n k1 st1 m0 m2 => ⟨1, n, rfl, rfl, 1 + n, rfl, by omega, by omega, ?_⟩⟩
    have L1 := L.keep k1 st1
    refine for_range (fun j σ G => ∃ as ps, LL l H G D0 as ps ∧ Chg wd pss ps ∧ ∃ o2 o3 o4 o5 o6 o7 o8 o9 : Option V, σ = [some (.ref l), some (.ref D0), o2, o3, o4, o5, o6, o7, o8, o9])
      ⟨as, pss, L1, ⟨rfl, oks⟩, _, _, _, _, _, _, _, _, rfl⟩ (fun t σ G ht hG => ?_) (fun σ G hG => ?_)
    · clear L L1 as
      obtain ⟨as, ps, L, c, o2, o3, o4, o5, o6, o7, o8, o9, rfl⟩ := hG
      obtain ⟨lp, l61⟩ := c.lens few
      have la := L.len
      refine ⟨.ref l, rfl, .ref D0, rfl, D0, _, rfl, .inl (.inl (.inl L.eD)), l, _, rfl, L.st, by rw [List.length_map]; omega, by rw [List.length_map]; omega, fun H2 at' k2 st2 a0 a1 => ?_⟩
      rw [List.length_map] at a1
      have L2 := L.keep k2 st2
      obtain ⟨i, rfl⟩ := Int.eq_ofNat_of_zero_le a0
      have hi : i < ps.length := by omega
      obtain ⟨a2, h1, h2, h3, h4, h5, h6⟩ := L2.get hi
      have at1 : atI (as.map fun a => V.ref a.1) ((i : Nat) : Int) = some (.ref a2.1) := atI_nat (by rw [List.getElem?_map, h1]; rfl)
      refine ⟨.ref D0, rfl, .int (i : Int), rfl, D0, _, _, .ref a2.1, rfl, rfl, .inl (.inl L2.eD), at1, by show 0 ≤ sizeLine; omega, fun b nb => ⟨a2.1, b, a2.2, rfl, rfl, .inl (.inl (same_new nb _ _ h4)), .inl (.inl upd_same), _, rfl, ?_⟩⟩
      have L3 := L2.keep (Keep.of (same_new (o := .lst []) nb)) (st2.new nb)
      have h43 := same_new (o := .lst []) nb _ _ h4
      generalize upd H2 b (.lst []) = H3 at L3 h43 ⊢
      cases ee : a2.2.isEmpty with
      | true => exact iteF ⟨as, ps, L3, c, _, _, _, _, _, _, _, _, rfl⟩
      | false =>
        have pos : 0 < a2.2.length := List.length_pos_iff.mpr fun z => by rw [z] at ee; cases ee
        have lpi := l61 _ (List.getElem_mem hi)
        refine iteT ⟨.ref l, rfl, .ref D0, rfl, .int (i : Int), rfl, D0, _, _, .ref a2.1, rfl, rfl, .inl (.inl L3.eD), at1, a2.1, a2.2, rfl, .inl (.inl (.inl h43)), l, _, rfl, L3.st, by omega, by omega, fun H4 sp k4 st4 s0 s1 => ?_⟩
        have L4 := L3.keep k4 st4
        obtain ⟨j, rfl⟩ := Int.eq_ofNat_of_zero_le s0
        have hj : j < a2.2.length := by omega
        obtain ⟨a1', a2', a3'⟩ := L4.at_ i a2 h1
        have d4 := L4.dat i a2 _ h1 h2
        have er : ps[i][j]? = some ps[i][j] := List.getElem?_eq_getElem (by omega)
        have dj := d4.get' (List.getElem?_eq_getElem hj)
        obtain ⟨dd, ed, hdd⟩ := dj
        rw [List.getElem?_map, er] at ed
        cases ed
        have at2 : atI a2.2 ((j : Nat) : Int) = some a2.2[j] := atI_nat (List.getElem?_eq_getElem hj)
        have okr := c.ok _ (List.mem_of_getElem? h2) _ (List.mem_of_getElem? er)
        refine ⟨.ref l, rfl, .ref D0, rfl, .int (i : Int), rfl, D0, _, _, .ref a2.1, rfl, rfl, .inl (.inl L4.eD), at1, .int (j : Int), rfl, a2.1, a2.2, _, a2.2[j], rfl, rfl, .inl (.inl a3'), at2, l, a2.2[j], wd, ps[i][j], rfl, L4.st, hdd, okr, w1, w4, fun H5 y r' k5 st5 ok' en dy => ?_⟩
        have L5 := L4.keep k5 st5
        obtain ⟨_, _, a5⟩ := L5.at_ i a2 h1
        have ix : ixN a2.2.length ((j : Nat) : Int) = some j := by
          unfold ixN
          rw [if_pos (by omega), if_pos (by omega)]
          rfl
        refine ⟨.ref D0, rfl, .int (i : Int), rfl, D0, _, _, .ref a2.1, rfl, rfl, .inl (.inl L5.eD), at1, .int (j : Int), rfl, a2.1, a2.2, _, j, rfl, rfl, a5, ix, ?_⟩
        refine ⟨_, _, L5.put h1 (ys := a2.2.set j y) (p := ps[i].set j r') ?_, c.set h2 er ok' en, _, _, _, _, _, _, _, _, rfl⟩
        rw [List.map_set]
        exact dxs_set dy j (d4.up k5.same)
    · clear L L1 as
      obtain ⟨as, ps, L, c, o2, o3, o4, o5, o6, o7, o8, o9, rfl⟩ := hG
      obtain ⟨lp, l61⟩ := c.lens few
      have fl := flat_len l61
      have f305 : ps.flatten.length ≤ 305 := by rw [lp] at fl; omega
      refine ⟨by show 0 ≤ sizeLine; omega, fun E0 nE => ?_⟩
      have L6 := L.keep (Keep.of (same_new (o := .lst []) nE)) (L.st.new nE)
      have eE : (upd G E0 (.lst [])) E0 = some (.lst []) := upd_same
      generalize upd G E0 (.lst []) = G0 at L6 eE ⊢
      refine ⟨.ref D0, rfl, D0, rfl, ⟨_, .inl (.inl L6.eD)⟩, ?_⟩
      refine for_list (K := K) (xs := as.map fun a => V.ref a.1) (fun i σ N => Same G0 N ∧ ∃ E ys, N E = some (.lst ys) ∧ Dxs (hid l G0) ys ((ps.take i).flatten.map encR) ∧ ∃ o2 o3 o4 o5 o7 o8 o9 : Option V, σ = [some (.ref l), some (.ref D0), o2, o3, o4, o5, some (.ref E), o7, o8, o9])
        ⟨Same.refl G0, E0, [], eE, .nil, _, _, _, _, _, _, _, rfl⟩ (fun i σ N _ hN => .inl (.inl (hN.1 _ _ L6.eD))) (fun i x σ N hxi hN => ?_) (fun σ N hN => ?_)
      · obtain ⟨sN, E, ys, eE2, hy, o2, o3, o4, o5, o7, o8, o9, rfl⟩ := hN
        rw [List.getElem?_map] at hxi
        obtain ⟨a2, h1, rfl⟩ := Option.map_eq_some_iff.mp hxi
        have hi : i < ps.length := by rw [← L6.len]; exact (List.getElem?_eq_some_iff.mp h1).1
        obtain ⟨_, _, a3⟩ := L6.at_ i a2 h1
        have hp : ps[i]? = some ps[i] := List.getElem?_eq_getElem hi
        have d6 := L6.dat i a2 _ h1 hp
        have lys := hy.len
        have ld := d6.len
        rw [List.length_map] at lys ld
        have f1 := flat_take ps i
        have f2 := l61 _ (List.getElem_mem hi)
        refine ⟨.ref E, rfl, .ref a2.1, rfl, E, a2.1, ys, a2.2, rfl, rfl, eE2, sN _ _ a3, by omega, fun p np => ⟨sN.trans (same_new np), p, _, upd_same, ?_, _, _, _, _, _, _, _, rfl⟩⟩
        rw [take_snoc hp, List.flatten_append, List.map_append, List.flatten_singleton]
        exact hy.app d6
      · obtain ⟨sN, E, ys, eE2, hy, o2, o3, o4, o5, o7, o8, o9, rfl⟩ := hN
        rw [List.length_map, List.take_of_length_le (by rw [L6.len]; exact Nat.le_refl _)] at hy
        have L7 := L6.keep (Keep.of sN) (L6.st.same sN)
        have hyN : Dxs N ys (ps.flatten.map encR) := hy.up fun b o e => sN b o (hid_some e).2
        refine ⟨.ref E, rfl, E, rfl, ⟨_, .inl (.inl eE2)⟩, fun Ln nLn => ?_⟩
        refine lc_datL encR (fun r : Rec => .str r.nm) (twice ps.flatten) nLn eE2 hyN (by omega) (fun i r x F er rr sF hdx Pt Pf k1 k2 gD => ?_) (fun F ns sF eL hn => ?_)
        · obtain ⟨br, zr, rfl, ebr, ezr⟩ := row_valsAt hdx
          have eEF := sF _ _ eE2
          refine ⟨rfl, .ref E, rfl, E, rfl, ⟨_, .inl (.inl eEF)⟩, fun Li nLi => ?_⟩
          refine lc_datL encR (fun _ : Rec => .int 1) (fun o => decide (o.nm = r.nm) && !decide (o = r)) nLi eEF (hyN.up sF) (by omega) (fun i2 o x2 F2 eo ro sF2 hdo Pt2 Pf2 j1 j2 gD2 => ?_) (fun F2 us sF2 eLi hu2 => ?_)
          · obtain ⟨bo, zo, rfl, ebo, ezo⟩ := row_valsAt hdo
            refine ⟨rfl, .ref bo, rfl, bo, _, 0, .str o.nm, rfl, rfl, .inl (.inl ebo), rfl, .ref br, rfl, br, _, 0, .str r.nm, rfl, rfl, .inl (.inl (sF2 _ _ ebr)), rfl, rfl, _, rfl, ?_⟩
            by_cases en : o.nm = r.nm
            · rw [decide_eq_true (show V.str o.nm = V.str r.nm by rw [en])]
              refine iteT ⟨.ref bo, rfl, .ref br, rfl, encR o, encR r, dp_dx _ _ (plain_rec o) hdo, dp_dx _ _ (plain_rec r) (hdx.up sF2), plain_rec o, plain_rec r, Nat.le_trans (Nat.min_le_left _ _) (Nat.le_trans (depth_rec o) (by decide)), _, rfl, ?_⟩
              rw [eqv_recs]
              cases ec : decide (o = r) with
              | true => exact iteF (j2 F2 (by rw [ec, Bool.not_true, Bool.and_false]) (Same.refl F2))
              | false => exact iteT (j1 _ F2 (by rw [ec, Bool.not_false, Bool.and_true]; exact decide_eq_true en) (Same.refl F2) (.int 1))
            · rw [decide_eq_false (fun z => en (V.str.inj z))]
              exact iteF (iteF (j2 F2 (by rw [decide_eq_false en, Bool.false_and]) (Same.refl F2)))
          · refine ⟨by show 0 ≤ sizeLine; omega, fun b nb => ⟨Li, b, us, rfl, rfl, .inl (.inl (same_new nb _ _ eLi)), .inl (.inl upd_same), _, rfl, ?_⟩⟩
            have et : (!us.isEmpty) = twice ps.flatten r := by
              unfold twice
              rw [← any_filter]
              have h := hu2.len
              rw [List.length_map] at h
              congr 1
              generalize (ps.flatten.filter fun o => decide (o.nm = r.nm) && !decide (o = r)) = fs at h
              cases us <;> cases fs <;> first | rfl | (simp at h)
            rw [et]
            have s9 := sF2.trans (same_new (o := .lst []) nb)
            cases e : twice ps.flatten r with
            | true => exact iteT ⟨.ref br, rfl, br, _, 0, .str r.nm, rfl, rfl, .inl (.inl (s9 _ _ ebr)), rfl, k1 _ _ e s9 (.str _)⟩
            | false => exact iteF (k2 _ e s9)
        · have e1 : ((ps.flatten.filter (twice ps.flatten)).map fun r : Rec => PyData.str r.nm) = ((ps.flatten.filter (twice ps.flatten)).map fun r : Rec => r.nm).map PyData.str := by
            rw [List.map_map]
            rfl
          rw [e1] at hn
          rw [vals_strsD hn] at eL
          have tn : ∀ n, n ∈ ((ps.flatten.filter (twice ps.flatten)).map fun r : Rec => r.nm) ↔ n ∈ (confl ps.flatten).map (·.nm) := fun n => twice_names
          generalize ((ps.flatten.filter (twice ps.flatten)).map fun r : Rec => r.nm) = nms at eL tn
          have L8 := L7.keep (Keep.of sF) (L7.st.same sF)
          refine ⟨.ref D0, rfl, D0, rfl, ⟨_, .inl (.inl L8.eD)⟩, fun D2 n2 => ?_⟩
          refine lc_parts L8 (by omega) n2 (fun x => rfl) (fun x ys G Q e qq => ⟨.ref x, rfl, x, ys, rfl, .inl ⟨.inl (.inl e), qq⟩⟩) (fun G2 zs k2 s2 e2 hz up => ?_)
          refine ⟨D2, zs, rfl, .inl ⟨.inl (.inl e2), fun p np => ?_⟩⟩
          have pl := s2.ne np
          have eL3 := same_new (o := .tup zs) np _ _ (up _ _ eL)
          have fin : ∀ (A2 : Hp) (y : V) (o : Option Str), Same (upd G2 p (.tup zs)) A2 → LeastO ps.flatten o → (∀ F : Hp, Dx F y (optD o)) → ∀ p', A2 p' = none → Q (.ref p') (upd A2 p' (.tup [.ref p, y])) := fun A2 y o sA lo dy p' np' => by
            have stA := (s2.new (o := .tup zs) np).same sA
            have p'l := stA.ne np'
            refine q _ p' ps o (((k2.new np).trans (Keep.of sA)).new np') (stA.new np') c lo (.tup (by rw [hid_at p'l, upd_same]) (.cons (.tup (xs := zs) ?_ (hz.up fun b o e => ?_)) (.cons (dy _) .nil)))
            · have e := sA _ _ (upd_same (H := G2) (a := p) (o := .tup zs))
              rw [hid_at pl, upd_ne (ne_of_none e np')]
              exact e
            · obtain ⟨nb, e⟩ := hid_some e
              obtain ⟨nb2, e⟩ := hid_some e
              have e := sA _ _ (same_new (o := .tup zs) np _ _ e)
              rw [hid_at nb, upd_ne (ne_of_none e np')]
              exact e
          refine ⟨.ref Ln, rfl, by show 0 ≤ sizeLine; omega, fun b nb => ⟨Ln, b, _, rfl, rfl, .inl (.inl (same_new nb _ _ eL3)), .inl (.inl upd_same), _, rfl, ?_⟩⟩
          have sA := same_new (o := .lst []) nb
          have two : 2 ≤ sizeLine := by omega
          cases nms with
          | nil =>
            refine iteF ⟨two, fun p' np' => fin _ .non none sA ⟨fun _ => ?_, fun m h => (by cases h)⟩ (fun F => .non) p' np'⟩
            cases ec : confl ps.flatten with
            | nil => rfl
            | cons r0 cs =>
              have := (tn r0.nm).mpr (by rw [ec]; exact List.mem_cons_self)
              cases this
          | cons n0 ns0 =>
            refine iteT ⟨.ref Ln, rfl, ?_⟩
            unfold tNil
            refine min_go (.inl (.inl (sA _ _ eL3))) (by simp) fun m hm => ⟨two, fun p' np' => fin _ (.str m) (some m) sA ⟨fun h => (by cases h), fun k h => ?_⟩ (fun F => .str m) p' np'⟩
            cases h
            exact ⟨(tn m).mp hm.1, fun n hn => hm.2 n ((tn n).mpr hn)⟩
end

end U1

set_option maxRecDepth 100000
set_option maxHeartbeats 1000000
namespace U1
open PySem PySem.Spec PyProof.Rows L2 KX
/-! ### _law_all_rows -/
abbrev sAll : Stmt := topS 41
theorem scAll : FnScope ["parts", "found", "part"] ["parts"] (defScope sAll) := ⟨rfl, rfl, rfl, by decide +kernel, rfl, by decide +kernel, by decide +kernel⟩
def spAll : Sp := fun vs H Q _ => ∃ (v : V) (pss : List (List Rec)) (us : List Rec), vs = [v] ∧ Dx H v (.tuple (pss.map encP)) ∧ pss.flatten.length ≤ 1000 ∧ cons pss.flatten ∧ (∀ r ∈ pss.flatten, r ∈ us) ∧ us.length ≤ 62 ∧
  ∀ H' p, Same H H' → Dx H' (.ref p) (.tuple ((uniR pss.flatten).map encR)) → Q (.ref p) H'
section
variable {P : Program} {w : World} {K : PySem.W.Frag} {mg : Str → Option Value} {base : Heap}
theorem ok_all {f : Addr} {fd : FuncData} (B : Bl mg) (hs : mg "set" = none) (D : Df K mg "_law_all_rows" sAll ["parts"] f fd) : FnOk P w K mg base CX0 1 f fd ["parts"] spAll := by
  refine D.F.ok scAll (fun vs H Q E h => ?_) (fun cdv A outer s H vs Q E hr h => ?_)
  · obtain ⟨v, pss, us, rfl, _⟩ := h
    rfl
  · obtain ⟨v, pss, us, rfl, hd, few, c, cov, f62, q⟩ := h
    have nd := scAll.nd
    have hu : (A.deeper (envOfC (Str.ofString "_law_all_rows") (defScope sAll) s.heap.objs.size f cdv)).units + 32 < cLine := by
      have := hr.units
      omega
    refine ⟨_, pss_cons (ps_set (i := 1) nd rfl (.inl rfl) (pe_lst pa_nil))
      (pss_cons (ps_for PassesOwn.never rfl (pi_tup (pv 0)) (pg_name (i := 2) nd rfl (.inl rfl)) (pss_one (ps_set (i := 1) nd rfl (.inl rfl) (pe_op op_cat (pv 1) (pe_callTy (T := "list") (r := rLstOf K) call_list_of (by rfl) B.list (by decide +kernel) (pa_cons (pv 2) pa_nil))))))
      (pss_one (ps_ret (pe_callTy call_tuple_of (by rfl) B.tuple (by decide +kernel) (pa_cons (pe_callB (cr_sortedN encR rfl hr) (by rfl) B.sorted (by decide +kernel) (pa_cons (pe_callTy (T := "set") (cr_setNL encR rfl hu) (by rfl) hs (by decide +kernel) (pa_cons (pv 1) pa_nil)) pa_nil)) pa_nil))))), ?_⟩
    obtain ⟨a, xs, rfl, ea, hx⟩ := dx_tup' hd
    have lx := hx.len
    rw [List.length_map] at lx
    have hb : (1000 : Nat) < sizeLine := by decide
    refine ⟨by show 0 ≤ sizeLine; omega, fun E0 nE => ?_⟩
    have s0 := same_new (o := .lst []) nE
    have eE : (upd H E0 (.lst [])) E0 = some (.lst []) := upd_same
    generalize upd H E0 (.lst []) = H0 at s0 eE ⊢
    refine ⟨.ref a, rfl, a, rfl, ⟨_, .inl (.inl (s0 _ _ ea))⟩, ?_⟩
    refine for_tup (K := K) (xs := xs) (fun i σ N => Same H N ∧ ∃ E ys, N E = some (.lst ys) ∧ Dxs H ys ((pss.take i).flatten.map encR) ∧ ∃ o2 : Option V, σ = [some (.ref a), some (.ref E), o2])
      ⟨s0, E0, [], eE, .nil, _, rfl⟩ (fun i σ N _ hN => .inl (.inl (hN.1 _ _ ea))) (fun i x σ N hxi hN => ?_) (fun σ N hN => ?_)
    · obtain ⟨sN, E, ys, eE2, hy, o2, rfl⟩ := hN
      obtain ⟨d, ed, hdx⟩ := hx.get' hxi
      rw [List.getElem?_map] at ed
      obtain ⟨p, ep, rfl⟩ := Option.map_eq_some_iff.mp ed
      obtain ⟨b, zs, rfl, eb, hz⟩ := dx_tup' hdx
      have l1 := hy.len
      have l2 := hz.len
      rw [List.length_map] at l1 l2
      have f1 := flat_take pss (i + 1)
      rw [take_snoc ep, List.flatten_append, List.length_append, List.flatten_singleton] at f1
      refine ⟨.ref E, rfl, .ref b, rfl, b, zs, rfl, .inr (.inl (.inl (sN _ _ eb))), fun t nt => ?_⟩
      have s1 := same_new (o := .lst zs) nt
      refine ⟨E, t, ys, zs, rfl, rfl, s1 _ _ eE2, upd_same, by omega, fun p np => ⟨(sN.trans s1).trans (same_new np), p, _, upd_same, ?_, _, rfl⟩⟩
      rw [take_snoc ep, List.flatten_append, List.map_append, List.flatten_singleton]
      exact hy.app hz
    · obtain ⟨sN, E, ys, eE2, hy, o2, rfl⟩ := hN
      rw [List.take_of_length_le (by omega)] at hy
      exact ⟨.ref E, rfl, uni_go ⟨E, ys, rfl, eE2, hy.up sN⟩ c cov f62 fun G p sG hp => q G p (sN.trans sG) hp⟩
end

end U1

set_option maxRecDepth 100000
set_option maxHeartbeats 1000000
namespace U1
open PySem PySem.Spec PyProof.Rows L2 KX
/-! ### _law_right -/
theorem big_show2 {d : PyData} (f : fine (10 ^ 40) d = true) (h2 : wt d ≤ 16000) (h3 : d.depth ≤ 100) : d.showable = true ∧ d.depth ≤ 100 ∧ d.shown.length ≤ sizeLine := by
  have h1 := shown_le (B := 10 ^ 40) (by decide) d f
  refine ⟨showable_fine (B := 10 ^ 40) (by decide) d f, h3, ?_⟩
  rw [sizeLine_eq]
  omega
theorem part_fine {wd : Nat} {p : List Rec} (h : ∀ r ∈ p, ROk wd r) (hw : wd ≤ 4) : fine (10 ^ 40) (encP p) = true ∧ wt (encP p) ≤ p.length * 20 + 1 ∧ (encP p).depth ≤ 51 := by
  have hm : ∀ e ∈ p.map encR, fine (10 ^ 40) e = true ∧ wt e ≤ 20 ∧ e.depth ≤ 50 := fun e he => by
    obtain ⟨r, mr, rfl⟩ := List.mem_map.mp he
    exact rec_fine (h r mr) hw
  have fr := fineAll_mem.mpr fun e he => (hm e he).1
  have gr := wtAll_le fun e he => (hm e he).2.1
  have kr := depthAll_le fun e he => (hm e he).2.2
  rw [List.length_map] at gr
  unfold encP
  refine ⟨by simpa only [fine] using fr, by simp only [wt]; omega, by simp only [PyData.depth]; omega⟩
theorem wt_parts {wd : Nat} (hw : wd ≤ 4) : ∀ {pss : List (List Rec)}, (∀ p ∈ pss, ∀ r ∈ p, ROk wd r) → wtAll (pss.map encP) ≤ pss.flatten.length * 20 + pss.length
  | [], _ => by simp [wtAll]
  | p :: pss, h => by
    have h1 := (part_fine (h p List.mem_cons_self) hw).2.1
    have h2 := wt_parts hw fun q hq => h q (List.mem_cons_of_mem _ hq)
    rw [List.map_cons, List.flatten_cons, List.length_append, List.length_cons]
    simp only [wtAll]
    omega
theorem parts_show {wd : Nat} {pss : List (List Rec)} (h : ∀ p ∈ pss, ∀ r ∈ p, ROk wd r) (hw : wd ≤ 4) (few : pss.flatten.length ≤ 700) (n : pss.length ≤ 100) : (PyData.tuple (pss.map encP)).showable = true ∧ (PyData.tuple (pss.map encP)).depth ≤ 100 ∧ (PyData.tuple (pss.map encP)).shown.length ≤ sizeLine := by
  have hm : ∀ e ∈ pss.map encP, fine (10 ^ 40) e = true ∧ e.depth ≤ 51 := fun e he => by
    obtain ⟨p, mp, rfl⟩ := List.mem_map.mp he
    have := part_fine (h p mp) hw
    exact ⟨this.1, this.2.2⟩
  have fr := fineAll_mem.mpr fun e he => (hm e he).1
  have gr := wt_parts hw h
  have kr := depthAll_le fun e he => (hm e he).2
  refine big_show2 (by simpa only [fine] using fr) (by simp only [wt]; omega) (by simp only [PyData.depth]; omega)
theorem oneW_wd {wd : Nat} {rs : List Rec} (h : ∀ r ∈ rs, r.vals.length = wd) : oneW rs = true := by
  cases rs with
  | nil => rfl
  | cons r rs => exact List.all_eq_true.mpr fun e he => decide_eq_true ((h e he).trans (h r List.mem_cons_self).symm)
theorem rok_len {wd : Nat} {r : Rec} (h : ROk wd r) : r.vals.length = wd := by
  obtain ⟨n, _, o⟩ := h
  exact o.len
structure PartsOk (wd : Nat) (pss : List (List Rec)) : Prop where
  ok : ∀ p ∈ pss, RsOk p
  rk : ∀ p ∈ pss, ∀ r ∈ p, ROk wd r
  us : ∃ us : List Rec, us.length ≤ 60 ∧ ∀ r ∈ pss.flatten, r ∈ us
  c : cons pss.flatten
theorem PartsOk.flat {wd : Nat} {pss : List (List Rec)} (h : PartsOk wd pss) : ∀ r ∈ pss.flatten, ROk wd r := fun r hr => by
  obtain ⟨p, hp, hr⟩ := List.mem_flatten.mp hr
  exact h.rk p hp r hr
theorem PartsOk.uni {wd : Nat} {pss : List (List Rec)} (h : PartsOk wd pss) : (uniR pss.flatten).length ≤ 60 := by
  obtain ⟨us, l, cov⟩ := h.us
  have nd : (uniR pss.flatten).Nodup := (List.mergeSort_perm _ _).nodup_iff.mpr (ded_nodup _)
  have := List.Nodup.length_le_of_subset nd (fun r hr => cov r (mem_uni.mp hr))
  omega
theorem PartsOk.set {wd : Nat} {pss : List (List Rec)} (h : PartsOk wd pss) (w1 : 1 ≤ wd) (w4 : wd ≤ 4) : RsOk (uniR pss.flatten) := by
  have rk : ∀ r ∈ uniR pss.flatten, ROk wd r := fun r hr => h.flat r (mem_uni.mp hr)
  refine ⟨h.uni, List.all_eq_true.mpr fun d hd => ?_, oneW_wd fun r hr => rok_len (rk r hr), uni_asc h.c⟩
  obtain ⟨r, hr, rfl⟩ := List.mem_map.mp hd
  exact rec_rd (rk r hr) w1 w4
theorem smu_parts {wd : Nat} {pss : List (List Rec)} (rk : ∀ p ∈ pss, ∀ r ∈ p, ROk wd r) (n : pss.length ≤ 1000) (l : ∀ p ∈ pss, p.length ≤ 1000) : SmU (.tuple (pss.map encP)) := fun ds e => by
  cases e
  refine ⟨by rw [List.length_map]; exact n, fun d hd => ?_⟩
  obtain ⟨p, hp, rfl⟩ := List.mem_map.mp hd
  intro es e
  cases e
  refine ⟨by rw [List.length_map]; exact l p hp, fun x hx => ?_⟩
  obtain ⟨r, hr, rfl⟩ := List.mem_map.mp hx
  exact rec_sm (rk p hp r hr)
theorem rsok_rowset {rs : List Rec} (h : RsOk rs) : rowsetD (encP rs) = true := by
  show (decide ((rs.map encR).length ≤ 60) && (((rs.map encR).all rowD && oneW ((rs.map encR).map recD)) && ascS (((rs.map encR).map recD).map (·.nm)))) = true
  rw [recs_back, List.length_map, decide_eq_true h.le, h.row, h.one, h.asc]
  rfl
theorem sets_true {pss : List (List Rec)} (h : ∀ p ∈ pss, RsOk p) : setsD (.tuple (pss.map encP)) = true := List.all_eq_true.mpr fun d hd => by
  obtain ⟨p, hp, rfl⟩ := List.mem_map.mp hd
  exact rsok_rowset (h p hp)
/-- union_rowsets of parts that go together -/
theorem ur_good {R N M : Addr} {wd : Nat} {pss : List (List Rec)} {H : Hp} {v : V} {Q : VK} {E : XK} (h : PartsOk wd pss) (n : pss.length ≤ 1000) (few : pss.flatten.length ≤ 1000) (hd : Dx H v (.tuple (pss.map encP)))
    (q : ∀ H' p, Same H H' → Dx H' (.ref p) (.tuple ((uniR pss.flatten).map encR)) → Q (.ref p) H') : spUR R N M [v] H Q E := by
  refine ⟨v, _, rfl, hd, smu_parts h.rk n fun p hp => Nat.le_trans (h.ok p hp).le (by decide), fun z => (by rw [sets_true h.ok] at z; cases z), fun qss e oks => ?_⟩
  have e := parts_inj (PyData.tuple.inj e)
  subst e
  have one := oneW_wd fun r hr => rok_len (h.flat r hr)
  refine ⟨few, fun z => (by rw [one] at z; cases z), fun _ => ⟨fun z => absurd (cons_confl h.c) z, fun _ => ?_⟩⟩
  obtain ⟨us, l, cov⟩ := h.us
  exact ⟨us, cov, by omega, fun z => absurd h.uni (by omega), fun _ H' p s hp => q H' p s hp⟩
theorem rsok_nil : RsOk [] := ⟨by decide, rfl, rfl, rfl⟩
theorem mem_flat_rev {pss : List (List Rec)} {r : Rec} : r ∈ pss.reverse.flatten ↔ r ∈ pss.flatten := by
  rw [List.mem_flatten, List.mem_flatten]
  exact ⟨fun ⟨p, h, g⟩ => ⟨p, List.mem_reverse.mp h, g⟩, fun ⟨p, h, g⟩ => ⟨p, List.mem_reverse.mpr h, g⟩⟩
theorem PartsOk.rev {wd : Nat} {pss : List (List Rec)} (h : PartsOk wd pss) : PartsOk wd pss.reverse := by
  obtain ⟨us, l, cov⟩ := h.us
  exact ⟨fun p hp => h.ok p (List.mem_reverse.mp hp), fun p hp => h.rk p (List.mem_reverse.mp hp), ⟨us, l, fun r hr => cov r (mem_flat_rev.mp hr)⟩, cons_sub h.c fun r hr => mem_flat_rev.mp hr⟩
theorem flat_nil (pss : List (List Rec)) : (pss ++ [[]]).flatten = pss.flatten := by simp
theorem PartsOk.more {wd : Nat} {pss : List (List Rec)} (h : PartsOk wd pss) : PartsOk wd (pss ++ [[]]) := by
  refine ⟨fun p hp => ?_, fun p hp => ?_, by rw [flat_nil]; exact h.us, by rw [flat_nil]; exact h.c⟩
  · rcases List.mem_append.mp hp with z | z
    · exact h.ok p z
    · rw [List.mem_singleton.mp z]; exact rsok_nil
  · rcases List.mem_append.mp hp with z | z
    · exact h.rk p z
    · rw [List.mem_singleton.mp z]; intro r hr; cases hr
abbrev sRt : Stmt := topS 42
abbrev NRt : List Str := ["parts", "kept", "due", "turn", "found"]
theorem scRt : FnScope NRt ["parts"] (defScope sRt) := ⟨rfl, rfl, rfl, by decide +kernel, rfl, by decide +kernel, by decide +kernel⟩
def spRt : Sp := fun vs H Q _ => ∃ (v : V) (wd : Nat) (pss : List (List Rec)), vs = [v] ∧ Dx H v (.tuple (pss.map encP)) ∧ PartsOk wd pss ∧ pss.length ≤ 5 ∧ 1 ≤ wd ∧ wd ≤ 4 ∧ ∀ H', Same H H' → Q (.bl true) H'
theorem hid_up {l : Addr} {H : Hp} {v : V} {d : PyData} (h : Dx (hid l H) v d) : Dx H v d := h.up fun b o e => (hid_some e).2
section
variable {P : Program} {w : World} {K : PySem.W.Frag} {mg : Str → Option Value} {base : Heap} {R N M : Addr}
theorem ok_rt {k : Nat} {f fA fU fI : Addr} {fd gA gU gI : FuncData} (B : Bl mg) (F : Fun K "_law_right" "_law_right" sRt f fd)
    (DA : Df K mg "_law_all_rows" sAll ["parts"] fA gA) (DU : Df K mg "union_rowsets" sUR ["rowsets"] fU gU) (DI : Df K mg "is_rowset" sIR ["value"] fI gI)
    (GA : FnOk P w K mg base CX0 k fA gA ["parts"] spAll) (GU : FnOk P w K mg base (L2.CX P w) k fU gU ["rowsets"] (spUR R N M)) (GI : FnOk P w K mg base CX0 k fI gI ["value"] spIR) :
    FnG P w K mg base CX0 (k + 1) f fd ["parts"] spRt := by
  refine okG F scRt (fun vs H Q E h => ?_) (fun cdv A outer s H vs Q E hgd hr h => ?_)
  · obtain ⟨v, wd, pss, rfl, _⟩ := h
    rfl
  · obtain ⟨v, wd, pss, rfl, hd, po, n5, w1, w4, q⟩ := h
    have nd := scRt.nd
    refine ⟨_, pss_cons (ps_par (i := 1) (j := 2) rfl nd rfl rfl (by decide) rfl rfl (pa_cons (pe_callB (call_reprD hr hgd) (by rfl) B.repr (by decide +kernel) (pa_cons (pv 0) pa_nil)) (pa_cons (pe_call GA hr (by rfl) DA.g DA.F.kp DA.b .nil pass0 (pa_cons (pv 0) pa_nil)) pa_nil)) (by rfl))
      (pss_cons (ps_for PassesOwn.never rfl (pi_range1 (by rfl) B.range (pa_cons pe_int pa_nil)) (pg_name (i := 3) nd rfl (.inl rfl))
        (pss_cons (ps_set (i := 4) nd rfl (.inl rfl) (pe_call GU hr (by rfl) DU.g DU.F.kp DU.b .nil passL (pa_cons (pv 0) pa_nil)))
        (pss_one (ps_if (PW.pt (pw_or (pt_cmpR op_ne (pe_callB (call_reprD hr hgd) (by rfl) B.repr (by decide +kernel) (pa_cons (pv 4) pa_nil)) (pe_callB (call_reprD hr hgd) (by rfl) B.repr (by decide +kernel) (pa_cons (pv 2) pa_nil)) (nomark _))
          (pw_or1 (pt_cmpR op_isnot_bl (pe_call GI hr (by rfl) DI.g DI.F.kp DI.b .nil pass0 (pa_cons (pv 4) pa_nil)) pe_bl (nomark _))))) (pss_one (ps_ret pe_bl)) pss_nil))))
      (pss_cons (ps_if (PW.pt (pw_or (pt_cmpR op_ne (pe_callB (call_reprD hr hgd) (by rfl) B.repr (by decide +kernel) (pa_cons (pe_call GU hr (by rfl) DU.g DU.F.kp DU.b .nil passL (pa_cons (pe_op op_catA (pv 0) (pe_tup (pa_cons (pe_tup pa_nil) pa_nil))) pa_nil)) pa_nil)) (pe_callB (call_reprD hr hgd) (by rfl) B.repr (by decide +kernel) (pa_cons (pv 2) pa_nil)) (nomark _))
          (pw_or1 (pt_cmpR op_ne (pe_callB (call_reprD hr hgd) (by rfl) B.repr (by decide +kernel) (pa_cons (pe_call GU hr (by rfl) DU.g DU.F.kp DU.b .nil passL (pa_cons (pe_revT (pv 0)) pa_nil)) pa_nil)) (pe_callB (call_reprD hr hgd) (by rfl) B.repr (by decide +kernel) (pa_cons (pv 2) pa_nil)) (nomark _))))) (pss_one (ps_ret pe_bl)) pss_nil)
      (pss_one (ps_ret (pe_cmpR op_eq (pe_callB (call_reprD hr hgd) (by rfl) B.repr (by decide +kernel) (pa_cons (pv 0) pa_nil)) (pv 1) (nomark _)))))), ?_⟩
    obtain ⟨us, l60, cov⟩ := po.us
    have l61 : ∀ p ∈ pss, p.length ≤ 60 := fun p hp => (po.ok p hp).le
    have fl := flat_len l61
    have few : pss.flatten.length ≤ 300 := by omega
    obtain ⟨k1, k2, k3⟩ := parts_show po.rk w4 (by omega) (by omega)
    obtain ⟨u1, u2, u3⟩ := rows_fine (fun r hr => po.flat r (mem_uni.mp hr)) (Nat.le_succ_of_le po.uni) w4
    refine ⟨v, rfl, v, _, rfl, hd, k1, k2, k3, v, rfl, v, pss, us, rfl, hd, by omega, po.c, cov, by omega, fun G p sG hp => ?_⟩
    obtain ⟨a, xs, rfl, ea, hx⟩ := dx_tup' hd
    have smU' : SmR (.tuple ((uniR pss.flatten).map encR)) := fun es e => by
      cases e
      refine ⟨by rw [List.length_map]; exact Nat.le_trans po.uni (by decide), fun x hx => ?_⟩
      obtain ⟨r, hr, rfl⟩ := List.mem_map.mp hx
      exact rec_sm (po.flat r (mem_uni.mp hr))
    have rsu : rowsetD (.tuple ((uniR pss.flatten).map encR)) = true := rsok_rowset (po.set w1 w4)
    have hb : (1000 : Nat) < sizeLine := by decide
    refine ⟨_, _, rfl, ?_⟩
    refine ⟨2, rfl, by decide, by decide, ?_⟩
    refine for_range (fun j σ N => Same H N ∧ Same G N ∧ ∃ o3 o4 : Option V, σ = [some (.ref a), some (.str (PyData.tuple (pss.map encP)).shown), some (.ref p), o3, o4])
      ⟨sG, Same.refl G, _, _, rfl⟩ (fun j σ N hj hN => ?_) (fun σ N hN => ?_)
    · obtain ⟨sN, gN, o3, o4, rfl⟩ := hN
      refine ⟨.ref a, rfl, ?_⟩
      unfold tNil
      refine ur_good po (by omega) (by omega) (hd.up sN) fun G2 p2 s2 hp2 => ?_
      refine ⟨.ref p2, rfl, .ref p2, _, rfl, hp2, u1, u2, u3, .ref p, rfl, .ref p, _, rfl, (hp.up gN).up s2, u1, u2, u3, rfl, _, rfl, iteNS rfl ?_⟩
      refine ⟨.ref p2, rfl, .ref p2, _, rfl, hp2, smU', fun G3 s3 => ⟨_, true, rfl, rfl, _, rfl, ?_⟩⟩
      rw [rsu]
      exact iteF ⟨(sN.trans s2).trans s3, (gN.trans s2).trans s3, _, _, rfl⟩
    · obtain ⟨sN, gN, o3, o4, rfl⟩ := hN
      refine ⟨.ref a, rfl, by show 0 ≤ sizeLine; omega, fun t nt => ⟨by show 1 ≤ sizeLine; omega, fun t2 nt2 => ?_⟩⟩
      have s1 := same_new (o := .tup []) nt
      have e1 : (upd N t (.tup [])) t = some (.tup []) := upd_same
      generalize upd N t (.tup []) = N1 at s1 e1 nt2 ⊢
      have s2 := same_new (o := .tup [V.ref t]) nt2
      have h2 : Dx (upd N1 t2 (.tup [V.ref t])) (.ref t2) (.tuple [.tuple []]) := .tup upd_same (.cons (.tup (s2 _ _ e1) .nil) .nil)
      generalize upd N1 t2 (.tup [V.ref t]) = N2 at s2 h2 ⊢
      have s02 := (sN.trans s1).trans s2
      refine catS (hd.up s02) h2 (by rw [List.length_map]; show pss.length + 1 ≤ sizeLine; omega) fun N3 p3 s3 h3 => ?_
      have h3 : Dx N3 (.ref p3) (.tuple ((pss ++ [[]]).map encP)) := by
        rw [List.map_append]
        exact h3
      unfold tNil
      refine ur_good po.more (by rw [List.length_append]; show pss.length + 1 ≤ 1000; omega) (by rw [flat_nil]; omega) h3 fun N4 p4 s4 h4 => ?_
      rw [flat_nil] at h4
      have g4 := (((gN.trans s1).trans s2).trans s3).trans s4
      have s04 := (s02.trans s3).trans s4
      refine ⟨.ref p4, _, rfl, h4, u1, u2, u3, .ref p, rfl, .ref p, _, rfl, hp.up g4, u1, u2, u3, rfl, _, rfl, iteNS rfl ?_⟩
      refine ⟨.ref a, rfl, a, xs, rfl, .inl (.inl (s04 _ _ ea)), fun t5 nt5 => ?_⟩
      have s5 := same_new (o := .tup xs.reverse) nt5
      have h5 : Dx (upd N4 t5 (.tup xs.reverse)) (.ref t5) (.tuple (pss.reverse.map encP)) := .tup upd_same (by rw [List.map_reverse]; exact (hx.up (s04.trans s5)).rev)
      generalize upd N4 t5 (.tup xs.reverse) = N5 at s5 h5 ⊢
      have fr : pss.reverse.flatten.length ≤ 300 := by
        have := flat_len (ps := pss.reverse) fun p hp => l61 p (List.mem_reverse.mp hp)
        rw [List.length_reverse] at this
        omega
      try unfold tNil
      refine ur_good po.rev (by rw [List.length_reverse]; omega) (by omega) h5 fun N6 p6 s6 h6 => ?_
      rw [uni_same (L := pss.reverse.flatten) (rs := pss.flatten) po.c fun r => mem_flat_rev] at h6
      have g6 := (g4.trans s5).trans s6
      have s06 := (s04.trans s5).trans s6
      refine ⟨.ref p6, _, rfl, h6, u1, u2, u3, .ref p, rfl, .ref p, _, rfl, hp.up g6, u1, u2, u3, rfl, _, rfl, iteNS rfl ?_⟩
      refine ⟨.ref a, rfl, .ref a, _, rfl, hd.up s06, k1, k2, k3, _, rfl, rfl, ?_⟩
      rw [decide_eq_true rfl]
      exact q _ s06
end

end U1

set_option maxRecDepth 100000
set_option maxHeartbeats 4000000
namespace KX
open PySem PySem.Spec PyProof.Rows L2
/-! ### tuple * number, from 1 on -/
theorem tuple_mul1 (l : Addr) (items : Array Value) (n : Nat) (dd : Option Addr) (sl : Array (Option Value)) (x : Int) (u : Tok) (c0 : (decide (x < -(2 ^ 63)) || decide (x ≥ 2 ^ 63)) = false) (c1 : (items.isEmpty || x == 1) = true) :
    Meets (Builtin.«tuple.__mul__» ⟨[.ref l, .int x u], []⟩) (fun _ R s => s.heap.get? l = some { cls := .type "tuple", dict := dd, data := .seq items n, slots := sl } ∧ R (.ok (.ret (Value.ref l))) s) :=
  .of_wp fun prog w A R s h => by
    obtain ⟨hp, g, d, tk, os⟩ := s
    obtain ⟨hl, h⟩ := h
    have f1 := AutoSeq1.idx_int
    wp_walk using wpAny_loadPart' hl
    refine wpAny_ite_false (decide_eq_false (by rw [c0]; exact Bool.false_ne_true)) ?_
    wp_walk using wpAny_loadPart' hl
    first
      | exact ⟨_, rfl, h⟩
      | (refine wpAny_ite_true (decide_eq_true c1) ?_; wp_walk using wpAny_loadPart' hl; exact ⟨_, rfl, h⟩)
def rRepA (K : PySem.W.Frag) : R2 := fun x y H Q => ∃ l k xs, x = .ref l ∧ y = .int k ∧ SqT K H l xs ∧ xs ≠ [] ∧ 1 ≤ k ∧ k ≤ 1000 ∧ xs.length ≤ 1000 ∧ (k = 1 → Q (.ref l) H) ∧ (2 ≤ k → ∀ p, H p = none → Q (.ref p) (upd H p (.tup (List.replicate k.toNat xs).flatten)))
theorem op_repA {X : Cx} : OpR X (binaryOp .Mult) (rRepA X.K) := by
  intro pins s σ H x y v u Q I rx ry h
  obtain ⟨l, k, xs, rfl, rfl, hT, hne, h1, h2, hz, q0, q1⟩ := h
  by_cases hk : k = 1
  · subst hk
    cases rx
    obtain ⟨t, rfl⟩ := ry
    obtain ⟨its, r, ⟨⟨cls, dd, data, sl⟩, ho, hc, n, hd⟩, hs⟩ := I.tuple hT
    simp only at hc hd
    subst hc hd
    exact wpAny_binaryOp_repeat_ref (T := "tuple") (U := "int") (by decide) ⟨_, ho, rfl⟩ (fun s' => typeIs_int s' 1 t) noFill_tuple_mul F.fills_int_mul F.slot_int_rmul repeat_tuple F.slot_int_index.lookup
      (call_meets F.slot_int_rmul (typeIs_int s 1 t) F.entry_int_rmul (F.args_int_rmul_2 _ _) (int_rmul_tuple 1 t l its.toArray n dd sl)
        ⟨ho, rfl, ⟨_, ho, rfl⟩, call_meets F.slot_tuple_mul ⟨_, ho, rfl⟩ F.entry_tuple_mul (F.args_tuple_mul_2 _ _) (tuple_mul1 l its.toArray n dd sl 1 t (by decide) (by simp)) ⟨ho, ⟨.ref l, H, I, rfl, q0 rfl⟩⟩⟩)
  · exact op_repT pins s σ H (.ref l) (.int k) v u Q I rx ry ⟨l, k, xs, rfl, rfl, hT, hne, by omega, h2, hz, q1 (by omega)⟩
end KX

set_option maxRecDepth 100000
set_option maxHeartbeats 1000000
namespace U1
open PySem PySem.Spec PyProof.Rows L2 KX
/-! ### changed parts, and parts that don't go together -/
mutual
def noL : PyData → Bool
  | .none => true
  | .bool _ => true
  | .int _ => true
  | .str _ => true
  | .tuple ds => noLs ds
  | _ => false
def noLs : List PyData → Bool
  | [] => true
  | d :: ds => noL d && noLs ds
end
mutual
theorem dx_noL {l : Addr} {H : Hp} {zs : List V} (e : H l = some (.lst zs)) : ∀ (d : PyData) (v : V), noL d = true → Dx H v d → Dx (hid l H) v d
  | .none, _, _, h => by cases h; exact .non
  | .bool b, _, _, h => by cases h; exact .bl b
  | .int i, _, _, h => by cases h; exact .int i
  | .str x, _, _, h => by cases h; exact .str x
  | .list ds, _, n, _ => by simp [noL] at n
  | .dict ks, _, n, _ => by simp [noL] at n
  | .tuple ds, _, n, h => by
    cases h with
    | @tup a xs _ ea h =>
      have na : a ≠ l := fun z => by rw [z, e] at ea; cases ea
      exact .tup (by rw [hid_at na]; exact ea) (dxs_noL e ds xs (by simpa [noL] using n) h)
theorem dxs_noL {l : Addr} {H : Hp} {zs : List V} (e : H l = some (.lst zs)) : ∀ (ds : List PyData) (vs : List V), noLs ds = true → Dxs H vs ds → Dxs (hid l H) vs ds
  | [], _, _, h => by cases h; exact .nil
  | d :: ds, _, n, h => by
    simp only [noLs, Bool.and_eq_true] at n
    cases h with
    | cons h t => exact .cons (dx_noL e d _ n.1 h) (dxs_noL e ds _ n.2 t)
end
theorem noL_ints : ∀ ns : List Int, noLs (ns.map PyData.int) = true
  | [] => by simp [noLs]
  | n :: ns => by simp [noLs, noL, noL_ints ns]
theorem noL_rec (r : Rec) : noL (encR r) = true := by simp [noL, noLs, encR, noL_ints]
theorem noL_recs : ∀ rs : List Rec, noLs (rs.map encR) = true
  | [] => by simp [noLs]
  | r :: rs => by simp [noLs, noL_rec, noL_recs rs]
theorem recs_hid {l : Addr} {H : Hp} {v : V} {rs : List Rec} (st : StO H l) (h : Dx H v (.tuple (rs.map encR))) : Dx (hid l H) v (.tuple (rs.map encR)) := by
  obtain ⟨x, y, z, e⟩ := st
  exact dx_noL e _ _ (by simp only [noL]; exact noL_recs rs) h
theorem ext_hid {l : Addr} {H H' : Hp} (e : LamX.ExtN H H') : LamX.ExtN (hid l H) (hid l H') := fun b o hb nt => by
  obtain ⟨n, hb⟩ := hid_some hb
  rw [hid_at n]
  exact e _ _ hb nt
theorem keep_ext {l : Addr} {H H' : Hp} (k : Keep l H H') : LamX.ExtN (hid l H) (hid l H') := ext_same k.same
theorem tabs_keep {l : Addr} {T : List (Addr × Str)} {H H' : Hp} (k : Keep l H H') (st : StO H l) (t : LamX.Tabs T H) : LamX.Tabs T H' := fun p hp => by
  obtain ⟨x, y, z, e⟩ := st
  obtain ⟨ps, h1, h2, h3⟩ := t p hp
  refine ⟨ps, k _ _ (fun q => by rw [q, e] at h1; cases h1) h1, h2, fun pos cv hc => ?_⟩
  obtain ⟨c, e1, e2⟩ := h3 pos cv hc
  exact ⟨c, e1, k _ _ (fun q => by rw [q, e] at e2; unfold LamX.CodeO at e2; cases e2) e2⟩
theorem sto_ext {l : Addr} {H H' : Hp} (e : LamX.ExtN H H') (st : StO H l) : StO H' l := by
  obtain ⟨x, y, z, h⟩ := st
  exact ⟨x, y, z, e _ _ h fun ps q => by cases q⟩

abbrev sEr : Stmt := topS 43
abbrev sLaw : Stmt := topS 44
abbrev lamE : Str := (envOfC "_law_errors_right" (defScope sEr) 0 0 .none).qual ++ "<lambda>"
abbrev lamW : Str := (envOfC "law" (defScope sLaw) 0 0 .none).qual ++ "<lambda>"
abbrev TL (P0 P1 : Addr) : List (Addr × Str) := [(P0, lamE), (P1, lamW)]
theorem noL_parts : ∀ pss : List (List Rec), noLs (pss.map encP) = true
  | [] => by simp [noLs]
  | p :: pss => by
    rw [List.map_cons]
    unfold encP
    simp only [noLs, noL, noL_recs, Bool.true_and]
    exact noL_parts pss
theorem parts_hid {l : Addr} {H : Hp} {v : V} {pss : List (List Rec)} (st : StO H l) (h : Dx H v (.tuple (pss.map encP))) : Dx (hid l H) v (.tuple (pss.map encP)) := by
  obtain ⟨x, y, z, e⟩ := st
  exact dx_noL e _ _ (by simp only [noL]; exact noL_parts pss) h
theorem flat_map_nm (pss : List (List Rec)) : pss.flatten.map (fun r : Rec => r.nm) = (pss.map fun p => p.map fun r : Rec => r.nm).flatten := List.map_flatten
theorem Chg.flat {wd : Nat} {pss qss : List (List Rec)} (c : Chg wd pss qss) : qss.flatten.map (fun r : Rec => r.nm) = pss.flatten.map fun r : Rec => r.nm := by
  rw [flat_map_nm, flat_map_nm, c.nms]
theorem Chg.rsok {wd : Nat} {pss qss : List (List Rec)} (c : Chg wd pss qss) (ok : ∀ p ∈ pss, RsOk p) (w1 : 1 ≤ wd) (w4 : wd ≤ 4) : ∀ p ∈ qss, RsOk p := fun p hp => by
  obtain ⟨_, l60⟩ := c.lens fun p hp => (ok p hp).le
  refine ⟨l60 p hp, List.all_eq_true.mpr fun d hd => ?_, oneW_wd fun r hr => rok_len (c.ok p hp r hr), ?_⟩
  · obtain ⟨r, hr, rfl⟩ := List.mem_map.mp hd
    exact rec_rd (c.ok p hp r hr) w1 w4
  · have hm : p.map (fun r : Rec => r.nm) ∈ pss.map fun p => p.map fun r : Rec => r.nm := by
      rw [← c.nms]
      exact List.mem_map.mpr ⟨p, hp, rfl⟩
    obtain ⟨q, hq, e⟩ := List.mem_map.mp hm
    rw [← e]
    exact (ok q hq).asc
theorem Chg.rk {wd : Nat} {pss qss : List (List Rec)} (c : Chg wd pss qss) : ∀ r ∈ qss.flatten, ROk wd r := fun r hr => by
  obtain ⟨p, hp, hr⟩ := List.mem_flatten.mp hr
  exact c.ok p hp r hr
theorem Chg.parts {wd : Nat} {pss qss : List (List Rec)} (c : Chg wd pss qss) (po : PartsOk wd pss) (w1 : 1 ≤ wd) (w4 : wd ≤ 4) (hc : confl qss.flatten = []) : PartsOk wd qss := by
  have cs := confl_cons hc
  refine ⟨c.rsok po.ok w1 w4, c.ok, ⟨dedR qss.flatten, ?_, fun r hr => mem_ded.mpr hr⟩, cs⟩
  obtain ⟨us, l, cov⟩ := po.us
  have nd := cons_nodup (cons_sub cs fun r hr => mem_ded.mp hr) (ded_nodup qss.flatten)
  have := List.Nodup.length_le_of_subset (l₂ := us.map fun r : Rec => r.nm) nd (fun n hn => by
    obtain ⟨r, hr, rfl⟩ := List.mem_map.mp hn
    have h2 : r.nm ∈ pss.flatten.map fun r : Rec => r.nm := by
      rw [← c.flat]
      exact List.mem_map.mpr ⟨r, mem_ded.mp hr, rfl⟩
    obtain ⟨q, hq, e⟩ := List.mem_map.mp h2
    exact List.mem_map.mpr ⟨q, cov q hq, e⟩)
  rw [List.length_map, List.length_map] at this
  omega
theorem oneW_eq {rs : List Rec} (h : oneW rs = true) : ∀ a ∈ rs, ∀ b ∈ rs, a.vals.length = b.vals.length := by
  cases rs with
  | nil => intro a ha; cases ha
  | cons r rs =>
    have h : ((r :: rs).all fun e => decide (e.vals.length = r.vals.length)) = true := h
    have k := List.all_eq_true.mp h
    intro a ha b hb
    have h1 := k a ha
    have h2 := k b hb
    rw [decide_eq_true_eq] at h1 h2
    omega
theorem ur_notset {R N M : Addr} {H : Hp} {v : V} {d : PyData} {Q : VK} {E : XK} (hd : Dx H v d) (sm : SmU d) (h : setsD d = false) (e : ∀ H', Same H H' → E (.ref R) none H') : spUR R N M [v] H Q E :=
  ⟨v, d, rfl, hd, sm, fun _ => e, fun pss ed oks => by
    rw [ed, sets_true oks] at h
    cases h⟩
theorem ur_wide {R N M : Addr} {H : Hp} {v : V} {qss : List (List Rec)} {Q : VK} {E : XK} (hd : Dx H v (.tuple (qss.map encP))) (sm : SmU (.tuple (qss.map encP))) (ok : ∀ p ∈ qss, RsOk p) (few : qss.flatten.length ≤ 1000) (h : oneW qss.flatten = false) (e : ∀ H', Same H H' → E (.ref R) none H') : spUR R N M [v] H Q E :=
  ⟨v, _, rfl, hd, sm, fun z => (by rw [sets_true ok] at z; cases z), fun pss ed oks => by
    have ed := parts_inj (PyData.tuple.inj ed)
    subst ed
    exact ⟨few, fun _ => e, fun z => (by rw [h] at z; cases z)⟩⟩
theorem ur_conf {R N M : Addr} {H : Hp} {v : V} {qss : List (List Rec)} {m : Str} {Q : VK} {E : XK} (hd : Dx H v (.tuple (qss.map encP))) (sm : SmU (.tuple (qss.map encP))) (ok : ∀ p ∈ qss, RsOk p) (few : qss.flatten.length ≤ 1000) (h : oneW qss.flatten = true)
    (hm : leastN ((confl qss.flatten).map (·.nm)) m) (e : ∀ H' dd, Same H H' → H' dd = some (.xd [("name", .str m)]) → E (.ref N) (some dd) H') : spUR R N M [v] H Q E :=
  ⟨v, _, rfl, hd, sm, fun z => (by rw [sets_true ok] at z; cases z), fun pss ed oks => by
    have ed := parts_inj (PyData.tuple.inj ed)
    subst ed
    refine ⟨few, fun z => (by rw [h] at z; cases z), fun _ => ⟨fun _ m2 H' dd lm s ed => ?_, fun z => ?_⟩⟩
    · rw [leastN_one lm hm] at ed
      exact e H' dd s ed
    · have h1 := hm.1
      rw [z] at h1
      cases h1⟩
theorem ur_many {R N M : Addr} {H : Hp} {v : V} {qss : List (List Rec)} {us : List Rec} {Q : VK} {E : XK} (hd : Dx H v (.tuple (qss.map encP))) (sm : SmU (.tuple (qss.map encP))) (ok : ∀ p ∈ qss, RsOk p) (few : qss.flatten.length ≤ 1000) (h : oneW qss.flatten = true) (c : cons qss.flatten)
    (cov : ∀ r ∈ qss.flatten, r ∈ us) (l : us.length ≤ 62) (big : 60 < (uniR qss.flatten).length) (e : ∀ H' dd, Same H H' → H' dd = some (.xd [("limit", .int 60)]) → E (.ref M) (some dd) H') : spUR R N M [v] H Q E :=
  ⟨v, _, rfl, hd, sm, fun z => (by rw [sets_true ok] at z; cases z), fun pss ed oks => by
    have ed := parts_inj (PyData.tuple.inj ed)
    subst ed
    exact ⟨few, fun z => (by rw [h] at z; cases z), fun _ => ⟨fun z => absurd (cons_confl c) z, fun _ => ⟨us, cov, l, fun _ => e, fun z => absurd big (by omega)⟩⟩⟩⟩
theorem name_fine {wd : Nat} {r : Rec} (h : ROk wd r) (hw : wd ≤ 4) : r.nm.length ≤ 8 ∧ (PyData.str r.nm).shown.length ≤ 9000 := by
  have f := (rec_fine h hw).1
  obtain ⟨n, hn, o⟩ := h
  have l8 := (name_ok hn o.nm).2
  refine ⟨l8, ?_⟩
  simp only [encR, fine, fineAll, Bool.and_eq_true] at f
  have := shown_le (B := 10 ^ 40) (by decide) (.str r.nm) (by simpa only [fine] using f.1)
  simp only [wt] at this
  omega

end U1

set_option maxRecDepth 100000
set_option maxHeartbeats 1000000
namespace U1
open PySem PySem.Spec PyProof.Rows L2 KX
/-! ### _law_errors_right -/
abbrev NEr : List Str := ["stream", "parts", "wide", "changed", "name", "at", "wider", "mixed", "odd", "none"]
theorem scEr : FnScope NEr ["stream", "parts", "wide"] (defScope sEr) := ⟨rfl, rfl, rfl, by decide +kernel, rfl, by decide +kernel, by decide +kernel⟩
def spEr (P0 P1 : Addr) : Sp := fun vs H Q _ => ∃ (l : Addr) (v : V) (wd : Nat) (pss : List (List Rec)), vs = [.ref l, v, .int (wd : Int)] ∧ LamX.Tabs (TL P0 P1) H ∧ StO H l ∧ Dx (hid l H) v (.tuple (pss.map encP)) ∧ PartsOk wd pss ∧ 1 ≤ pss.length ∧ pss.length ≤ 5 ∧ 1 ≤ wd ∧ wd ≤ 4 ∧
  ∀ H', LamX.ExtN (hid l H) (hid l H') → StO H' l → LamX.Tabs (TL P0 P1) H' → Q (.bl true) H'
theorem two_ifs {c1 c2 : TT} {a b u : L2.TS} {D : Ends} {σ : L2.St} {H : Hp} (C : Hp → Prop) (tl : ∀ G, C G → u D σ G) (h : (∀ G, C G → u D σ G) → tSeq (tIfS c1 a tNext) (tSeq (tIfS c2 b tNext) u) D σ H) : tSeq (tIfS c1 a tNext) (tSeq (tIfS c2 b tNext) u) D σ H := h tl
theorem one_if {c1 : TT} {a u : L2.TS} {D : Ends} {σ : L2.St} {H : Hp} (C : Hp → Prop) (tl : ∀ G, C G → u D σ G) (h : (∀ G, C G → u D σ G) → tSeq (tIfS c1 a tNext) u D σ H) : tSeq (tIfS c1 a tNext) u D σ H := h tl
theorem rep_one {α : Type} (x : α) : ∀ n, (List.replicate n [x]).flatten = List.replicate n x
  | 0 => rfl
  | n + 1 => by rw [List.replicate_succ, List.flatten_cons, rep_one x n]; rfl
theorem repA_to {K : PySem.W.Frag} {H : Hp} {t : Addr} {k : Int} {z : V} {Q : VK} (et : H t = some (.tup [z])) (k1 : 1 ≤ k) (k2 : k ≤ 1000) (q : ∀ G t2, Same H G → G t2 = some (.tup (List.replicate k.toNat z)) → Q (.ref t2) G) : rRepA K (.ref t) (.int k) H Q := by
  refine ⟨t, k, [z], rfl, rfl, .inl (.inl et), by simp, k1, k2, by show 1 ≤ 1000; decide, fun e => ?_, fun _ p np => ?_⟩
  · subst e
    exact q H t (Same.refl H) et
  · refine q _ p (same_new np) ?_
    rw [upd_same, rep_one]
/-- the row of another width -/
def wideR (wd : Nat) : Rec := ⟨"zz", 1, List.replicate (wd % 4 + 1) 0, 1⟩
theorem wideR_row {wd : Nat} (w1 : 1 ≤ wd) (w4 : wd ≤ 4) : rowD (encR (wideR wd)) = true := by
  have h : wd = 1 ∨ wd = 2 ∨ wd = 3 ∨ wd = 4 := by omega
  rcases h with rfl | rfl | rfl | rfl <;> decide +kernel
theorem wideR_ok {wd : Nat} (w1 : 1 ≤ wd) (w4 : wd ≤ 4) : RsOk [wideR wd] := ⟨by show 1 ≤ 60; decide, by
  show (rowD (encR (wideR wd)) && true) = true
  rw [wideR_row w1 w4]
  rfl, by
  show ([wideR wd].all fun e => decide (e.vals.length = (wideR wd).vals.length)) = true
  simp, rfl⟩
theorem wideR_len {wd : Nat} (w1 : 1 ≤ wd) (w4 : wd ≤ 4) : (wideR wd).vals.length ≠ wd := by
  show (List.replicate (wd % 4 + 1) (0 : Int)).length ≠ wd
  rw [List.length_replicate]
  omega
theorem smu_any {pss : List (List Rec)} (rk : ∀ p ∈ pss, ∀ r ∈ p, smA (encR r)) (n : pss.length ≤ 1000) (l : ∀ p ∈ pss, p.length ≤ 1000) : SmU (.tuple (pss.map encP)) := fun ds e => by
  cases e
  refine ⟨by rw [List.length_map]; exact n, fun d hd => ?_⟩
  obtain ⟨p, hp, rfl⟩ := List.mem_map.mp hd
  intro es e
  cases e
  refine ⟨by rw [List.length_map]; exact l p hp, fun x hx => ?_⟩
  obtain ⟨r, hr, rfl⟩ := List.mem_map.mp hx
  exact rk p hp r hr
/-- the parts with one more among them -/
def mixP (i : Nat) (qss : List (List Rec)) (p : List Rec) : List (List Rec) := qss.take i ++ [p] ++ qss.drop i
theorem mem_mix {i : Nat} {qss : List (List Rec)} {p x : List Rec} : x ∈ mixP i qss p ↔ x ∈ qss ∨ x = p := by
  unfold mixP
  rw [List.mem_append, List.mem_append, List.mem_singleton]
  constructor
  · rintro ((h | h) | h)
    · exact .inl (List.mem_of_mem_take h)
    · exact .inr h
    · exact .inl (List.mem_of_mem_drop h)
  · rintro (h | h)
    · rw [← List.take_append_drop i qss] at h
      rcases List.mem_append.mp h with h | h
      · exact .inl (.inl h)
      · exact .inr h
    · exact .inl (.inr h)
theorem mix_len {i : Nat} {qss : List (List Rec)} {p : List Rec} : (mixP i qss p).length = qss.length + 1 ∧ (mixP i qss p).flatten.length = qss.flatten.length + p.length := by
  unfold mixP
  have e1 := congrArg List.length (List.take_append_drop i qss)
  have e2 := congrArg List.length (congrArg List.flatten (List.take_append_drop i qss))
  rw [List.length_append] at e1
  rw [List.flatten_append, List.length_append] at e2
  constructor
  · rw [List.length_append, List.length_append, List.length_singleton]
    omega
  · rw [List.flatten_append, List.flatten_append, List.length_append, List.length_append, List.flatten_singleton]
    omega
theorem noLs_app : ∀ {as bs : List PyData}, noLs as = true → noLs bs = true → noLs (as ++ bs) = true
  | [], _, _, h => h
  | a :: as, bs, h, g => by
    rw [List.cons_append]
    simp only [noLs, Bool.and_eq_true] at h ⊢
    exact ⟨h.1, noLs_app h.2 g⟩
theorem uni_nil : uniR [] = [] := by
  unfold uniR sortR dedR
  simp
theorem wideR_sm (wd : Nat) : smA (encR (wideR wd)) := fun d hd => by
  simp [wideR] at hd
  rcases hd with rfl | rfl | rfl | rfl
  · show ("zz" : Str).length ≤ sizeLine
    decide
  all_goals trivial
section
variable {P : Program} {w : World} {K : PySem.W.Frag} {mg : Str → Option Value} {base : Heap} {R S N M fN fM : Addr} {gN gM : FuncData}
theorem ok_er {k : Nat} {f c0 P0 P1 fO fA fU fD fW : Addr} {gA gU gD gW : FuncData} {oc kV doc pm ct ocO kVO docO pmO cdO ctO : Value} {od an odO anO : Option Addr} {osl oslO : Array (Option Value)} (B : Bl mg) (TR : OC K mg "InvalidRowset" R) (TN : NC K mg N fN gN) (TT : TM K mg M fM gM) (Z : XS K mg S R N M)
    (lk : K.lookup f = some ⟨oc, od, .func (PySem.W.fnOf "_law_errors_right" "_law_errors_right" (defArgs sEr) (defBody sEr) (defScope sEr) .none kV doc pm an (.ref c0) ct), osl⟩) (hcd : PySem.W.codeIn K (.ref c0) "_law_errors_right" = true) (TB : LamX.TabB base mg c0 P0) (hne : P0 ≠ P1)
    (DO : Df K mg "_law_outcome" sOut ["call"] fO (PySem.W.fnOf "_law_outcome" "_law_outcome" (defArgs sOut) (defBody sOut) (defScope sOut) .none kVO docO pmO anO cdO ctO))
    (lkO : K.lookup fO = some ⟨ocO, odO, .func (PySem.W.fnOf "_law_outcome" "_law_outcome" (defArgs sOut) (defBody sOut) (defScope sOut) .none kVO docO pmO anO cdO ctO), oslO⟩) (hcO : PySem.W.codeIn K cdO "_law_outcome" = true)
    (DA : Df K mg "_law_all_rows" sAll ["parts"] fA gA) (DU : Df K mg "union_rowsets" sUR ["rowsets"] fU gU) (DD : Df K mg "_law_draw" sDraw ["stream", "total"] fD gD) (DW : Df K mg "_law_with_conflicts" sWc ["stream", "parts"] fW gW)
    (GA : FnOk P w K mg base CX0 (k + 2) fA gA ["parts"] spAll) (GU : FnOk P w K mg base (L2.CX P w) k fU gU ["rowsets"] (spUR R N M)) (GD : FnOk P w K mg base CX0 (k + 2) fD gD ["stream", "total"] spDraw) (GW : FnOk P w K mg base CX0 (k + 2) fW gW ["stream", "parts"] spWc) :
    FnG P w K mg base CX0 (k + 3) f (PySem.W.fnOf "_law_errors_right" "_law_errors_right" (defArgs sEr) (defBody sEr) (defScope sEr) .none kV doc pm an (.ref c0) ct) ["stream", "parts", "wide"] (spEr P0 P1) := by
  have one0 : ∀ p ∈ TL P0 P1, p.1 = P0 → p.2 = lamE := fun p hp e => by
    rcases List.mem_cons.mp hp with h | h
    · cases h
      rfl
    · cases List.mem_singleton.mp h
      exact absurd e.symm hne
  have GU2 : FnOk P w K mg base (L2.CX P w) (k + 2) fU gU ["rowsets"] (spUR R N M) := GU.mono (by omega)
  refine okGc lk hcd scEr (fun vs H Q E h => ?_) (fun A outer s H vs Q E hgd hr h => ?_)
  · obtain ⟨l, v, wd, pss, rfl, _⟩ := h
    rfl
  · obtain ⟨l, v, wd, pss, rfl, ht, st, hd, po, n1, n5, w1, w4, q⟩ := h
    have nd := scEr.nd
    refine ⟨_, pss_cons (ps_asg (pe_call GW hr (by rfl) DW.g DW.F.kp DW.b .nil pass0 (pa_cons (pv 0) (pa_cons (pv 1) pa_nil))) (pg_tup (by rfl) (pgs_cons (pg_name (i := 3) nd rfl (.inr rfl)) (pgs_cons (pg_name (i := 4) nd rfl (.inl rfl)) pgs_nil))))
      (pss_cons (ps_if (PW.pt (pw_and (pt_cmpR op_notN (pv 4) pe_non (nomark _)) (pw_and1 (pt_cmpR op_ne (pe_lamR (T := TL P0 P1) (TT := TTout R N M) (k := k) (js := [3]) (N := ["changed"]) (fr := ["changed"]) (by rfl) DO.g DO.F.kp lkO hcO DO.b scOut rfl (.inl rfl) (out_gives B TR TN TT Z (fun _ => hgd)) TB rfl (List.mem_cons.mpr (.inl rfl)) one0 hr (NdefX.nscope_by (by decide +kernel)) (NdefX.ndef_free (sc := defScope sEr) (fr := ["changed"]) (by decide +kernel)) (NdefX.ndef_fr (sc := defScope sEr) (by decide +kernel)) rfl rfl (fun _ _ _ _ _ => rfl)
            (fun A2 outer2 s2 H2 E2 f2 c2 hr2 => pe_callS GU hr2 (by rfl) DU.g DU.F.kp DU.b (fun σ => passAt (takes_of rfl rfl rfl rfl) σ) (pa_cons (pv 0) pa_nil))) (pe_op op_add_str pe_str (pe_callB (call_reprD hr hgd) (by rfl) B.repr (by decide +kernel) (pa_cons (pv 4) pa_nil))) (nomark _))))) (pss_one (ps_ret pe_bl)) pss_nil)
      (pss_cons (ps_if (PW.pt (pw_and (pt_cmpR op_isN (pv 4) pe_non (nomark _)) (pw_and1 (pt_cmpR op_ne (pe_callB (call_reprD hr hgd) (by rfl) B.repr (by decide +kernel) (pa_cons (pe_call GU2 hr (by rfl) DU.g DU.F.kp DU.b .nil passL (pa_cons (pv 3) pa_nil)) pa_nil)) (pe_callB (call_reprD hr hgd) (by rfl) B.repr (by decide +kernel) (pa_cons (pe_call GA hr (by rfl) DA.g DA.F.kp DA.b .nil pass0 (pa_cons (pv 3) pa_nil)) pa_nil)) (nomark _))))) (pss_one (ps_ret pe_bl)) pss_nil)
      (pss_cons (ps_set (i := 5) nd rfl (.inr rfl) (pe_call GD hr (by rfl) DD.g DD.F.kp DD.b .nil pass0 (pa_cons (pv 0) (pa_cons (pe_op op_add (pe_callB (call_lenK (K := K) rfl) (by rfl) B.len PySem.boot_len (pa_cons (pv 1) pa_nil)) pe_int) pa_nil))))
      (pss_cons (ps_set (i := 6) nd rfl (.inl rfl) (pe_tup (pa_cons pe_str (pa_cons pe_int (pa_cons (pe_op op_repA (pe_tup (pa_cons pe_int pa_nil)) (pe_op op_add (pe_op op_mod (pv 2) pe_int) pe_int)) (pa_cons pe_int pa_nil))))))
      (pss_cons (ps_set (i := 7) nd rfl (.inr rfl) (pe_op op_catA (pe_op op_catA (pe_slice sl_tupA (pv 3) po_none (po_some (pv 5))) (pe_tup (pa_cons (pe_tup (pa_cons (pv 6) pa_nil)) pa_nil))) (pe_slice sl_tupA (pv 3) (po_some (pv 5)) po_none)))
      (pss_cons (ps_if (PW.pt (pw_and (pt_cmpR (op_ne0 hr.units0) (pe_call GA hr (by rfl) DA.g DA.F.kp DA.b .nil pass0 (pa_cons (pv 1) pa_nil)) (pe_tup pa_nil) (nomark _)) (pw_and1 (pt_cmpR op_ne (pe_lamR (T := TL P0 P1) (TT := TTout R N M) (k := k) (js := [7]) (N := ["mixed"]) (fr := ["mixed"]) (by rfl) DO.g DO.F.kp lkO hcO DO.b scOut rfl (.inl rfl) (out_gives B TR TN TT Z (fun _ => hgd)) TB rfl (List.mem_cons.mpr (.inl rfl)) one0 hr (NdefX.nscope_by (by decide +kernel)) (NdefX.ndef_free (sc := defScope sEr) (fr := ["mixed"]) (by decide +kernel)) (NdefX.ndef_fr (sc := defScope sEr) (by decide +kernel)) rfl rfl (fun _ _ _ _ _ => rfl)
            (fun A2 outer2 s2 H2 E2 f2 c2 hr2 => pe_callS GU hr2 (by rfl) DU.g DU.F.kp DU.b (fun σ => passAt (takes_of rfl rfl rfl rfl) σ) (pa_cons (pv 0) pa_nil))) pe_str (nomark _))))) (pss_one (ps_ret pe_bl)) pss_nil)
      (pss_cons (ps_set (i := 8) nd rfl (.inr rfl) (pe_ix (r := rIxL K) ix_list (pe_lst (pa_cons pe_non (pa_cons pe_str (pa_cons pe_int (pa_cons (pe_lstS pa_nil) (pa_cons pe_dnewK (pa_cons (pe_tup (pa_cons pe_non pa_nil)) (pa_cons (pe_tup (pa_cons (pe_tup (pa_cons pe_int pa_nil)) pa_nil)) (pa_cons (pe_callTy call_lst2 (by rfl) B.list (by decide +kernel) (pa_cons (pe_ix (r := rIxT K) ix_tup (pv 1) pe_int (fun _ _ => rfl)) pa_nil)) (pa_cons (pe_tup (pa_cons (pe_tup (pa_cons pe_str (pa_cons pe_int (pa_cons (pe_tup (pa_cons pe_int pa_nil)) (pa_cons pe_int pa_nil))))) pa_nil)) pa_nil)))))))))) (pe_call GD hr (by rfl) DD.g DD.F.kp DD.b .nil pass0 (pa_cons (pv 0) (pa_cons pe_int pa_nil))) (fun _ _ => rfl)))
      (pss_cons (ps_if (pt_cmpR op_ne (pe_lamR (T := TL P0 P1) (TT := TTout R N M) (k := k) (js := [3, 5, 8]) (N := ["changed", "at", "odd"]) (fr := ["changed", "at", "odd"]) (by rfl) DO.g DO.F.kp lkO hcO DO.b scOut rfl (.inl rfl) (out_gives B TR TN TT Z (fun _ => hgd)) TB rfl (List.mem_cons.mpr (.inl rfl)) one0 hr (NdefX.nscope_by (by decide +kernel)) (NdefX.ndef_free (sc := defScope sEr) (fr := ["changed", "at", "odd"]) (by decide +kernel)) (NdefX.ndef_fr (sc := defScope sEr) (by decide +kernel)) rfl rfl (fun _ _ _ _ _ => rfl)
            (fun A2 outer2 s2 H2 E2 f2 c2 hr2 => pe_callS GU hr2 (by rfl) DU.g DU.F.kp DU.b (fun σ => passAt (takes_of rfl rfl rfl rfl) σ) (pa_cons (pe_op (r := rCatA K) op_catA (pe_op (r := rCatA K) op_catA (pe_slice (r := rSlA K) sl_tupA (pv 0) po_none (po_some (pv 1))) (pe_tup (pa_cons (pv 2) pa_nil))) (pe_slice (r := rSlA K) sl_tupA (pv 0) (po_some (pv 1)) po_none)) pa_nil))) pe_str (nomark _)) (pss_one (ps_ret pe_bl)) pss_nil)
      (pss_cons (ps_set (i := 9) nd rfl (.inr rfl) (pe_ix (r := rIxL K) ix_list (pe_lst (pa_cons pe_non (pa_cons (pe_callTy call_lst2 (by rfl) B.list (by decide +kernel) (pa_cons (pv 1) pa_nil)) (pa_cons pe_dnewK (pa_cons pe_int (pa_cons pe_str (pa_cons (pe_op op_catA (pe_ix (r := rIxT K) ix_tup (pv 1) pe_int (fun _ _ => rfl)) (pe_tup (pa_cons pe_int pa_nil))) pa_nil))))))) (pe_call GD hr (by rfl) DD.g DD.F.kp DD.b .nil pass0 (pa_cons (pv 0) (pa_cons pe_int pa_nil))) (fun _ _ => rfl)))
      (pss_one (ps_ret (pe_cmpR op_eq (pe_lamR (T := TL P0 P1) (TT := TTout R N M) (k := k) (js := [9]) (N := ["none"]) (fr := ["none"]) (by rfl) DO.g DO.F.kp lkO hcO DO.b scOut rfl (.inl rfl) (out_gives B TR TN TT Z (fun _ => hgd)) TB rfl (List.mem_cons.mpr (.inl rfl)) one0 hr (NdefX.nscope_by (by decide +kernel)) (NdefX.ndef_free (sc := defScope sEr) (fr := ["none"]) (by decide +kernel)) (NdefX.ndef_fr (sc := defScope sEr) (by decide +kernel)) rfl rfl (fun _ _ _ _ _ => rfl)
            (fun A2 outer2 s2 H2 E2 f2 c2 hr2 => pe_callS GU hr2 (by rfl) DU.g DU.F.kp DU.b (fun σ => passAt (takes_of rfl rfl rfl rfl) σ) (pa_cons (pv 0) pa_nil))) pe_str (nomark _))))))))))))), ?_⟩
    obtain ⟨us, l60us, cov⟩ := po.us
    have l60 : ∀ p ∈ pss, p.length ≤ 60 := fun p hp => (po.ok p hp).le
    have flp := flat_len l60
    have few0 : pss.flatten.length ≤ 300 := by omega
    have hb : (10000 : Nat) < sizeLine := by decide
    obtain ⟨a, zs, rfl, ea, hz⟩ := dx_tup' hd
    refine ⟨.ref l, rfl, .ref a, rfl, l, .ref a, wd, pss, rfl, st, hd, n1, n5, fun p hp => Nat.le_succ_of_le (l60 p hp), po.rk, w1, w4, fun H1 p1 qss o k1 st1 c lo hp => ?_⟩
    have t1 := tabs_keep k1 st ht
    obtain ⟨lq, l60q⟩ := c.lens l60
    have flq := flat_len l60q
    have fewq : qss.flatten.length ≤ 300 := by rw [lq] at flq; omega
    have okq := c.rsok po.ok w1 w4
    have oneq : oneW qss.flatten = true := oneW_wd fun r hr => rok_len (c.rk r hr)
    have smq : SmU (.tuple (qss.map encP)) := smu_parts c.ok (by omega) fun p hp => Nat.le_trans (l60q p hp) (by decide)
    obtain ⟨p1', ys, ep1, e1, hy⟩ := dx_tup' hp
    cases ep1
    have hd1 := hd.up k1.same
    obtain ⟨x, y, eys, hx, hyo⟩ : ∃ x y, ys = [x, y] ∧ Dx (hid l H1) x (.tuple (qss.map encP)) ∧ Dx (hid l H1) y (optD o) := by
      cases hy with
      | cons h1 h2 =>
        cases h2 with
        | cons h3 h4 =>
          cases h4
          exact ⟨_, _, rfl, h1, h3⟩
    subst eys
    refine ⟨p1, _, rfl, .inl (.inl (hid_some e1).2), rfl, x, [y], rfl, y, [], rfl, rfl, ?_⟩
    dsimp only
    refine two_ifs (fun G => LamX.ExtN H1 G ∧ LamX.Tabs (TL P0 P1) G) (fun G hG => ?_) (fun rest => ?_)
    · clear t1
      obtain ⟨e0, t0⟩ := hG
      have st0 := sto_ext e0 st1
      have hdG := hd1.ext (ext_hid e0)
      have hxG := hx.ext (ext_hid e0)
      obtain ⟨a', zs0, ea', naG, eaG, hzG⟩ := dx_tupOf hdG
      cases ea'
      have lz0 := hzG.len
      rw [List.length_map] at lz0
      refine ⟨.ref l, rfl, .ref a, rfl, a, zs0, rfl, .inr (.inl (.inl eaG)), _, 1, rfl, rfl, l, _, rfl, st0, by omega, by omega, fun H2 i' k2 st2 i0 i1 => ?_⟩
      obtain ⟨i, rfl⟩ := Int.eq_ofNat_of_zero_le i0
      have t2 := tabs_keep k2 st0 t0
      have hx2 := hxG.up k2.same
      have hd2 := hdG.up k2.same
      -- wider
      refine ⟨by show 1 ≤ sizeLine; omega, fun tz ntz => ⟨.int (wd : Int), rfl, (wd : Int), 4, rfl, rfl, by show (0 : Int) < 4; decide, _, 1, rfl, rfl, ?_⟩⟩
      have sz := same_new (o := .tup [V.int 0]) ntz
      have ez : (upd H2 tz (.tup [V.int 0])) tz = some (.tup [V.int 0]) := upd_same
      generalize upd H2 tz (.tup [V.int 0]) = H3 at sz ez ⊢
      refine repA_to ez (by omega) (by omega) fun H4 tr s4 er => ?_
      have er : H4 tr = some (.tup (List.replicate (wd % 4 + 1) (V.int 0))) := by
        rw [er]
        congr 3
      refine ⟨by show 4 ≤ sizeLine; omega, fun tw ntw => ?_⟩
      have s5 := same_new (o := .tup [V.str "zz", V.int 1, V.ref tr, V.int 1]) ntw
      have hw5 : Dx (upd H4 tw (.tup [V.str "zz", V.int 1, V.ref tr, V.int 1])) (.ref tw) (encR (wideR wd)) := by
        refine .tup upd_same (.cons (.str _) (.cons (.int _) (.cons (.tup (s5 _ _ er) ?_) (.cons (.int _) .nil))))
        have := dxs_ints (H := upd H4 tw (.tup [V.str "zz", V.int 1, V.ref tr, V.int 1])) (List.replicate (wd % 4 + 1) 0)
        rw [List.map_replicate] at this
        exact this
      generalize upd H4 tw (.tup [V.str "zz", V.int 1, V.ref tr, V.int 1]) = H5 at s5 hw5 ⊢
      have s25 := (sz.trans s4).trans s5
      have hx5 := (hid_up hx2).up s25
      have hd5 := (hid_up hd2).up s25
      have st5 := st2.same s25
      -- mixed
      refine ⟨x, rfl, .int (i : Int), rfl, (i : Int), rfl, ?_⟩
      refine sl_same hx5 fun H6 p6 s6 h6 => ?_
      rw [cutD_to] at h6
      refine ⟨.ref tw, rfl, by show 1 ≤ sizeLine; omega, fun tp ntp => ⟨by show 1 ≤ sizeLine; omega, fun tq ntq => ?_⟩⟩
      have s7 := same_new (o := .tup [V.ref tw]) ntp
      have h7 : Dx (upd H6 tp (.tup [V.ref tw])) (.ref tp) (encP [wideR wd]) := .tup upd_same (.cons ((hw5.up s6).up s7) .nil)
      generalize upd H6 tp (.tup [V.ref tw]) = H7 at s7 h7 ntq ⊢
      have s8 := same_new (o := .tup [V.ref tp]) ntq
      have h8 : Dx (upd H7 tq (.tup [V.ref tp])) (.ref tq) (.tuple [encP [wideR wd]]) := .tup upd_same (.cons (h7.up s8) .nil)
      generalize upd H7 tq (.tup [V.ref tp]) = H8 at s8 h8 ⊢
      have lqs : (qss.map encP).length ≤ 5 := by rw [List.length_map]; omega
      refine catS ((h6.up s7).up s8) h8 (by rw [List.length_take]; show min i _ + 1 ≤ sizeLine; omega) fun H9 p9 s9 h9 => ?_
      have s59 := ((s6.trans s7).trans s8).trans s9
      refine ⟨x, rfl, .int (i : Int), rfl, (i : Int), rfl, ?_⟩
      refine (show ∀ {σ : L2.St} {H : Hp} {Q : Option Int → Hp → Prop}, Q none H → tNoPart σ H Q from fun h => h) (sl_same (hx5.up s59) fun HA pA sA hA => ?_)
      rw [cutD_from] at hA
      refine catS (h9.up sA) hA (by rw [List.length_append, List.length_take, List.length_drop]; show min i _ + 1 + _ ≤ sizeLine; omega) fun HB pB sB hB => ?_
      have mixE : (qss.map encP).take i ++ [encP [wideR wd]] ++ (qss.map encP).drop i = (qss.take i ++ [[wideR wd]] ++ qss.drop i).map encP := by
        rw [List.map_append, List.map_append, List.map_take, List.map_drop]
        rfl
      rw [mixE] at hB
      have s5B := (s59.trans sA).trans sB
      have stB := st5.same s5B
      have tB := tabs_same (s25.trans s5B) t2
      have hxB := hx5.up s5B
      have hdB := hd5.up s5B
      have e0B : LamX.ExtN (hid l H1) (hid l HB) := (ext_hid e0).trans ((keep_ext k2).trans (ext_hid (ext_same (s25.trans s5B))))
      clear s4 s5 s6 s7 s8 s9 sA sB h6 h7 h8 h9 hA s59 s5B s25 sz ez er hw5
      dsimp only
      refine one_if (fun G => LamX.ExtN HB G ∧ LamX.Tabs (TL P0 P1) G) (fun G3 hG => ?_) (fun rest => ?_)
      · clear t2 t0 tB hdG hxG hx2 hd2 hx5 hd5
        obtain ⟨e3, t3⟩ := hG
        have st3 := sto_ext e3 stB
        have hx3 := hxB.ext e3
        have hd3 := hdB.ext e3
        obtain ⟨a', zs3, ea', eaZ, hz3⟩ := dx_tup' hd3
        cases ea'
        have lz3 := hz3.len
        rw [List.length_map] at lz3
        have g0 : pss[0]? = some pss[0] := List.getElem?_eq_getElem (by omega)
        obtain ⟨v0, ev0, hv0⟩ := hz3.get (i := 0) (d := encP pss[0]) (by rw [List.getElem?_map, g0]; rfl)
        obtain ⟨q0, ys0, rfl, eq0, hy0⟩ := dx_tup' hv0
        have i03 : ∀ {n : Nat}, n ≤ 9 → n ≤ sizeLine := fun h => by omega
        refine ⟨i03 (by decide), fun b3 n_b3 z_b3 => ?_⟩
        have s_b3 := same_new (o := .lst []) n_b3
        have e_b3 : (upd G3 b3 (.lst [])) b3 = some (.lst []) := upd_same
        generalize upd G3 b3 (.lst []) = F3 at s_b3 e_b3 ⊢
        refine fun b4 n_b4 => ?_
        have s_b4 := same_new (o := .dK []) n_b4
        have e_b4 : (upd F3 b4 (.dK [])) b4 = some (.dK []) := upd_same
        generalize upd F3 b4 (.dK []) = F4 at s_b4 e_b4 ⊢
        refine ⟨i03 (by show 1 ≤ 9; decide), fun b5 n_b5 => ?_⟩
        have s_b5 := same_new (o := .tup [V.non]) n_b5
        have e_b5 : (upd F4 b5 (.tup [V.non])) b5 = some (.tup [V.non]) := upd_same
        generalize upd F4 b5 (.tup [V.non]) = F5 at s_b5 e_b5 ⊢
        refine ⟨i03 (by show 1 ≤ 9; decide), fun b6 n_b6 => ?_⟩
        have s_b6 := same_new (o := .tup [V.int 1]) n_b6
        have e_b6 : (upd F5 b6 (.tup [V.int 1])) b6 = some (.tup [V.int 1]) := upd_same
        generalize upd F5 b6 (.tup [V.int 1]) = F6 at s_b6 e_b6 ⊢
        refine ⟨i03 (by show 1 ≤ 9; decide), fun b7 n_b7 => ?_⟩
        have s_b7 := same_new (o := .tup [V.ref b6]) n_b7
        have e_b7 : (upd F6 b7 (.tup [V.ref b6])) b7 = some (.tup [V.ref b6]) := upd_same
        generalize upd F6 b7 (.tup [V.ref b6]) = F7 at s_b7 e_b7 ⊢
        have s37 := (((s_b3.trans s_b4).trans s_b5).trans s_b6).trans s_b7
        refine ⟨.ref a, rfl, a, zs3, 0, .ref q0, rfl, rfl, .inl (.inl (s37 _ _ eaZ)), atI_nat (j := 0) ev0, q0, ys0, rfl, .inr (.inl (.inl (s37 _ _ eq0))), fun b8 n_b8 z_b8 => ?_⟩
        have s_b8 := same_new (o := .lst ys0) n_b8
        have e_b8 : (upd F7 b8 (.lst ys0)) b8 = some (.lst ys0) := upd_same
        generalize upd F7 b8 (.lst ys0) = F8 at s_b8 e_b8 ⊢
        refine ⟨i03 (by show 1 ≤ 9; decide), fun b9 n_b9 => ?_⟩
        have s_b9 := same_new (o := .tup [V.int 0]) n_b9
        have e_b9 : (upd F8 b9 (.tup [V.int 0])) b9 = some (.tup [V.int 0]) := upd_same
        generalize upd F8 b9 (.tup [V.int 0]) = F9 at s_b9 e_b9 ⊢
        refine ⟨i03 (by show 4 ≤ 9; decide), fun b10 n_b10 => ?_⟩
        have s_b10 := same_new (o := .tup [V.str "zz", V.int 0, V.ref b9, V.int 1]) n_b10
        have e_b10 : (upd F9 b10 (.tup [V.str "zz", V.int 0, V.ref b9, V.int 1])) b10 = some (.tup [V.str "zz", V.int 0, V.ref b9, V.int 1]) := upd_same
        generalize upd F9 b10 (.tup [V.str "zz", V.int 0, V.ref b9, V.int 1]) = F10 at s_b10 e_b10 ⊢
        refine ⟨i03 (by show 1 ≤ 9; decide), fun b11 n_b11 => ?_⟩
        have s_b11 := same_new (o := .tup [V.ref b10]) n_b11
        have e_b11 : (upd F10 b11 (.tup [V.ref b10])) b11 = some (.tup [V.ref b10]) := upd_same
        generalize upd F10 b11 (.tup [V.ref b10]) = F11 at s_b11 e_b11 ⊢
        refine ⟨i03 (by show 9 ≤ 9; decide), fun bl n_bl => ?_⟩
        have s_bl := same_new (o := .lst [V.non, V.str "", V.int 0, V.ref b3, V.ref b4, V.ref b5, V.ref b7, V.ref b8, V.ref b11]) n_bl
        have e_bl : (upd F11 bl (.lst [V.non, V.str "", V.int 0, V.ref b3, V.ref b4, V.ref b5, V.ref b7, V.ref b8, V.ref b11])) bl = some (.lst [V.non, V.str "", V.int 0, V.ref b3, V.ref b4, V.ref b5, V.ref b7, V.ref b8, V.ref b11]) := upd_same
        generalize upd F11 bl (.lst [V.non, V.str "", V.int 0, V.ref b3, V.ref b4, V.ref b5, V.ref b7, V.ref b8, V.ref b11]) = F12 at s_bl e_bl ⊢
        have s8c := (((s_b8.trans s_b9).trans s_b10).trans s_b11).trans s_bl
        have s3c := s37.trans s8c
        have stc := st3.same s3c
        refine ⟨.ref l, rfl, l, 9, rfl, stc, by decide, by decide, fun F13 m kc st13 m0 m9 => ?_⟩
        have s3d : ∀ {b : Addr} {o : HO}, b ≠ l → F12 b = some o → F13 b = some o := fun nb e => kc _ _ nb e
        have ntup : ∀ {b : Addr} {vs : List V}, F12 b = some (.tup vs) → b ≠ l := fun {b vs} e z => by
          obtain ⟨x1, x2, x3, es⟩ := stc
          rw [z, es] at e
          cases e
        have up : ∀ {b : Addr} {vs : List V}, F12 b = some (.tup vs) → F13 b = some (.tup vs) := fun e => s3d (ntup e) e
        have nlst : ∀ {G : Hp} {b : Addr} {o : HO}, StO G l → G b = none → b ≠ l := fun st n => st.ne n
        obtain ⟨vm, dm, evm, hvm, rm, smm⟩ : ∃ vm dm, atI [V.non, V.str "", V.int 0, V.ref b3, V.ref b4, V.ref b5, V.ref b7, V.ref b8, V.ref b11] m = some vm ∧ Dx F13 vm dm ∧ rowsetD dm = false ∧ SmR dm := by
          have mm : m = 0 ∨ m = 1 ∨ m = 2 ∨ m = 3 ∨ m = 4 ∨ m = 5 ∨ m = 6 ∨ m = 7 ∨ m = 8 := by omega
          rcases mm with rfl | rfl | rfl | rfl | rfl | rfl | rfl | rfl | rfl
          · exact ⟨_, .none, rfl, .non, rfl, fun ds e => by cases e⟩
          · exact ⟨_, .str "", rfl, .str _, rfl, fun ds e => by cases e⟩
          · exact ⟨_, .int 0, rfl, .int _, rfl, fun ds e => by cases e⟩
          · exact ⟨_, .list [], rfl, .lst (s3d (st3.ne n_b3) (s8c _ _ (s_b7 _ _ (s_b6 _ _ (s_b5 _ _ (s_b4 _ _ e_b3)))))) z_b3 .nil, rfl, fun ds e => by cases e⟩
          · exact ⟨_, .dict [], rfl, .dic (s3d ((st3.same s_b3).ne n_b4) (s8c _ _ (s_b7 _ _ (s_b6 _ _ (s_b5 _ _ e_b4))))), rfl, fun ds e => by cases e⟩
          · exact ⟨_, .tuple [.none], rfl, .tup (up (s8c _ _ (s_b7 _ _ (s_b6 _ _ e_b5)))) (.cons .non .nil), rfl, fun ds e => by cases e; exact ⟨by decide, fun x hx => by rw [List.mem_singleton.mp hx]; trivial⟩⟩
          · exact ⟨_, .tuple [.tuple [.int 1]], rfl, .tup (up (s8c _ _ e_b7)) (.cons (.tup (up (s8c _ _ (s_b7 _ _ e_b6))) (.cons (.int _) .nil)) .nil), rfl, fun ds e => by cases e; exact ⟨by decide, fun x hx => by rw [List.mem_singleton.mp hx]; intro d hd; rw [List.mem_singleton.mp hd]; trivial⟩⟩
          · refine ⟨_, .list (pss[0].map encR), rfl, .lst (s3d ((st3.same s37).ne n_b8) (s_bl _ _ (s_b11 _ _ (s_b10 _ _ (s_b9 _ _ e_b8))))) z_b8 ?_, rfl, fun ds e => by cases e⟩
            exact recs_tups (fun b vs e => up (s3c _ _ e)) hy0
          · refine ⟨_, .tuple [.tuple [.str "zz", .int 0, .tuple [.int 0], .int 1]], rfl, .tup (up (s_bl _ _ e_b11)) (.cons (.tup (up (s_bl _ _ (s_b11 _ _ e_b10))) (.cons (.str _) (.cons (.int _) (.cons (.tup (up (s_bl _ _ (s_b11 _ _ (s_b10 _ _ e_b9)))) (.cons (.int _) .nil)) (.cons (.int _) .nil))))) .nil), by decide +kernel, ?_⟩
            intro ds e
            cases e
            refine ⟨by decide, fun x hx => ?_⟩
            rw [List.mem_singleton.mp hx]
            intro d hd
            simp at hd
            rcases hd with rfl | rfl | rfl | rfl
            · show ("zz" : Str).length ≤ sizeLine
              decide
            all_goals trivial
        refine ⟨bl, _, m, vm, rfl, rfl, .inl (.inl (s3d ((st3.same (s37.trans (((s_b8.trans s_b9).trans s_b10).trans s_b11))).ne n_bl) e_bl)), evm, ?_⟩
        have k3d : Keep l G3 F13 := (Keep.of s3c).trans kc
        have t13 := tabs_keep kc stc (tabs_same s3c t3)
        have hx13 := hid_up ((parts_hid st3 hx3).up k3d.same)
        have hd13 := (parts_hid st3 hd3).up k3d.same
        clear s_b3 s_b4 s_b5 s_b6 s_b7 s_b8 s_b9 s_b10 s_b11 s_bl e_b3 e_b4 e_b5 e_b6 e_b7 e_b8 e_b9 e_b10 e_b11 e_bl up ntup s3d
        refine ⟨t13, fun Fa ea ta Ea Qa hEa _ => ⟨x, rfl, .int (i : Int), rfl, (i : Int), rfl, ?_⟩⟩
        refine sl_same (hx13.ext ea) fun Fb pb sb h1 => ?_
        rw [cutD_to] at h1
        refine ⟨vm, rfl, i03 (by show 1 ≤ 9; decide), fun tq ntq => ?_⟩
        have sc := same_new (o := .tup [vm]) ntq
        have h2 : Dx (upd Fb tq (.tup [vm])) (.ref tq) (.tuple [dm]) := .tup upd_same (.cons (((hvm.ext ea).up sb).up sc) .nil)
        generalize upd Fb tq (.tup [vm]) = Fc at sc h2 ⊢
        have lqs : (qss.map encP).length ≤ 5 := by rw [List.length_map]; omega
        refine catS (h1.up sc) h2 (by rw [List.length_take]; show min i _ + 1 ≤ sizeLine; omega) fun Fd pd sd h3 => ?_
        refine ⟨x, rfl, .int (i : Int), rfl, (i : Int), rfl, ?_⟩
        refine (show ∀ {σ : L2.St} {H : Hp} {Q : Option Int → Hp → Prop}, Q none H → tNoPart σ H Q from fun h => h) (sl_same ((((hx13.ext ea).up sb).up sc).up sd) fun Fe pe se h4 => ?_)
        rw [cutD_from] at h4
        refine catS (h3.up se) h4 (by rw [List.length_append, List.length_take, List.length_drop]; show min i _ + 1 + _ ≤ sizeLine; omega) fun Ff pf sf h5 => ?_
        have sbf := (((sb.trans sc).trans sd).trans se).trans sf
        try unfold tNil
        refine ur_notset h5 (fun ds e => ?_) ?_ fun Fg sg => hEa _ _ _ (.inl ⟨rfl, rfl, rfl, _, rfl, iteNS rfl ?_⟩)
        · cases e
          refine ⟨by rw [List.length_append, List.length_append, List.length_take, List.length_drop]; show min i _ + 1 + _ ≤ 1000; omega, fun e he => ?_⟩
          rcases List.mem_append.mp he with h | h
          · rcases List.mem_append.mp h with h | h
            · exact (smq _ rfl).2 e (List.mem_of_mem_take h)
            · rw [List.mem_singleton.mp h]; exact smm
          · exact (smq _ rfl).2 e (List.mem_of_mem_drop h)
        · show List.all _ rowsetD = false
          exact List.all_eq_false.mpr ⟨dm, List.mem_append_left _ (List.mem_append_right _ (List.mem_singleton.mpr rfl)), by rw [rm]; decide⟩
        have eg : LamX.ExtN F13 Fg := ea.trans (ext_same (sbf.trans sg))
        have tg := tabs_same (sbf.trans sg) ta
        have stg := sto_ext eg st13
        have hdg := (hid_up hd13).ext eg
        clear h1 h2 h3 h4 h5 sbf sb sc sd se sf sg
        obtain ⟨a', zsg, ea', eag, hzg⟩ := dx_tup' hdg
        cases ea'
        have lzg := hzg.len
        rw [List.length_map] at lzg
        obtain ⟨vg0, evg, hvg⟩ := hzg.get (i := 0) (d := encP pss[0]) (by rw [List.getElem?_map, g0]; rfl)
        refine ⟨.ref a, rfl, a, zsg, rfl, .inr (.inl (.inl eag)), fun c1 n_c1 z_c1 => ?_⟩
        have s_c1 := same_new (o := .lst zsg) n_c1
        have e_c1 : (upd Fg c1 (.lst zsg)) c1 = some (.lst zsg) := upd_same
        generalize upd Fg c1 (.lst zsg) = Y1 at s_c1 e_c1 ⊢
        refine fun c2 n_c2 => ?_
        have s_c2 := same_new (o := .dK []) n_c2
        have e_c2 : (upd Y1 c2 (.dK [])) c2 = some (.dK []) := upd_same
        generalize upd Y1 c2 (.dK []) = Y2 at s_c2 e_c2 ⊢
        have s12 := s_c1.trans s_c2
        refine ⟨.ref a, rfl, a, zsg, 0, vg0, rfl, rfl, .inl (.inl (s12 _ _ eag)), atI_nat (j := 0) evg, i03 (by show 1 ≤ 9; decide), fun c3 n_c3 => ?_⟩
        have s_c3 := same_new (o := .tup [V.int 0]) n_c3
        have h_c3 : Dx (upd Y2 c3 (.tup [V.int 0])) (.ref c3) (.tuple [.int 0]) := .tup upd_same (.cons (.int _) .nil)
        generalize upd Y2 c3 (.tup [V.int 0]) = Y3 at s_c3 h_c3 ⊢
        refine catS ((hvg.up s12).up s_c3) h_c3 (by rw [List.length_map]; show _ + 1 ≤ sizeLine; have := l60 _ (List.getElem_mem (show 0 < pss.length by omega)); omega) fun Y4 c4 s_c4 h_c4 => ?_
        refine ⟨i03 (by show 6 ≤ 9; decide), fun cl n_cl => ?_⟩
        have s_cl := same_new (o := .lst [V.non, V.ref c1, V.ref c2, V.int 7, V.str "rows", V.ref c4]) n_cl
        have e_cl : (upd Y4 cl (.lst [V.non, V.ref c1, V.ref c2, V.int 7, V.str "rows", V.ref c4])) cl = some (.lst [V.non, V.ref c1, V.ref c2, V.int 7, V.str "rows", V.ref c4]) := upd_same
        have ncl : cl ≠ l := (stg.same ((s12.trans s_c3).trans s_c4)).ne n_cl
        generalize upd Y4 cl (.lst [V.non, V.ref c1, V.ref c2, V.int 7, V.str "rows", V.ref c4]) = Y5 at s_cl e_cl ⊢
        have s35 := (s_c3.trans s_c4).trans s_cl
        have s15 := s12.trans s35
        have st5 := stg.same s15
        refine ⟨.ref l, rfl, l, 6, rfl, st5, by decide, by decide, fun Y6 m' ky st6 m0' m6 => ?_⟩
        have ntup : ∀ {b : Addr} {vs : List V}, Y5 b = some (.tup vs) → b ≠ l := fun {b vs} e z => by
          obtain ⟨x1, x2, x3, es⟩ := st5
          rw [z, es] at e
          cases e
        obtain ⟨vn, dn, evn, hvn, rn, smn⟩ : ∃ vn dn, atI [V.non, V.ref c1, V.ref c2, V.int 7, V.str "rows", V.ref c4] m' = some vn ∧ Dx Y6 vn dn ∧ setsD dn = false ∧ SmU dn := by
          have mm : m' = 0 ∨ m' = 1 ∨ m' = 2 ∨ m' = 3 ∨ m' = 4 ∨ m' = 5 := by omega
          rcases mm with rfl | rfl | rfl | rfl | rfl | rfl
          · exact ⟨_, .none, rfl, .non, rfl, fun ds e => by cases e⟩
          · refine ⟨_, .list (pss.map encP), rfl, .lst (ky _ _ (stg.ne n_c1) (s35 _ _ (s_c2 _ _ e_c1))) z_c1 ?_, rfl, fun ds e => by cases e⟩
            have h5 := parts_hid st5 (.tup (s15 _ _ eag) (hzg.up s15))
            have h6 := hid_up (h5.up ky.same)
            obtain ⟨a2, zs2, ea2, eaz2, hz2⟩ := dx_tup' h6
            cases ea2
            have := ky _ _ (ntup (s15 _ _ eag)) (s15 _ _ eag)
            rw [eaz2] at this
            cases this
            exact hz2
          · exact ⟨_, .dict [], rfl, .dic (ky _ _ ((stg.same s_c1).ne n_c2) (s35 _ _ e_c2)), rfl, fun ds e => by cases e⟩
          · exact ⟨_, .int 7, rfl, .int _, rfl, fun ds e => by cases e⟩
          · exact ⟨_, .str "rows", rfl, .str _, rfl, fun ds e => by cases e⟩
          · have h4 := h_c4.up s_cl
            have h5 : Dx (hid l Y5) (.ref c4) (.tuple (pss[0].map encR ++ [.int 0])) := by
              obtain ⟨x1, x2, x3, es⟩ := st5
              refine dx_noL es _ _ ?_ h4
              simp only [noL]
              exact noLs_app (noL_recs _) (by simp [noLs, noL])
            refine ⟨_, _, rfl, hid_up (h5.up ky.same), ?_, fun ds e => ?_⟩
            · show List.all _ rowsetD = false
              exact List.all_eq_false.mpr ⟨.int 0, List.mem_append_right _ (List.mem_singleton.mpr rfl), by decide⟩
            · cases e
              refine ⟨by rw [List.length_append, List.length_map]; show _ + 1 ≤ 1000; have := l60 _ (List.getElem_mem (show 0 < pss.length by omega)); omega, fun e he => ?_⟩
              rcases List.mem_append.mp he with h | h
              · obtain ⟨r, hr, rfl⟩ := List.mem_map.mp h
                intro es e2
                cases e2
                refine ⟨by show 4 ≤ 1000; decide, fun x hx => ?_⟩
                simp at hx
                rcases hx with rfl | rfl | rfl | rfl
                · trivial
                · trivial
                · intro d hd
                  obtain ⟨n, _, rfl⟩ := List.mem_map.mp hd
                  trivial
                · trivial
              · rw [List.mem_singleton.mp h]
                intro es e2
                cases e2
        refine ⟨cl, _, m', vn, rfl, rfl, .inl (.inl (ky _ _ ncl e_cl)), evn, ?_⟩
        have k6 : Keep l Fg Y6 := (Keep.of s15).trans ky
        have t6 := tabs_keep ky st5 (tabs_same s15 tg)
        refine ⟨t6, fun Y7 e7 t7 E7 Q7 hE7 _ => ⟨vn, rfl, ?_⟩⟩
        try unfold tNil
        refine ur_notset (hvn.ext e7) smn rn fun Y8 s8 => hE7 _ _ _ (.inl ⟨rfl, rfl, rfl, ?_⟩)
        rw [decide_eq_true rfl]
        have e78 := e7.trans (ext_same s8)
        refine q _ ?_ (sto_ext e78 st6) (tabs_same s8 t7)
        exact ((((((keep_ext k1).trans e0B).trans (ext_hid e3)).trans (keep_ext k3d)).trans (ext_hid eg)).trans (keep_ext k6)).trans (ext_hid e78)
      · refine ⟨.ref a, rfl, .ref a, pss, us, rfl, hdB, by omega, po.c, cov, by omega, fun G4 p4 s4 h4 => ⟨by show 0 ≤ sizeLine; omega, fun t4 n4 => ?_⟩⟩
        obtain ⟨p4', ys4, ep4, e4, hy4⟩ := dx_tup' h4
        cases ep4
        have s5 := same_new (o := .tup []) n4
        refine ⟨p4, t4, ys4, rfl, rfl, .inl (.inl (s5 _ _ e4)), .inl (.inl upd_same), _, rfl, ?_⟩
        have sB5 := s4.trans s5
        generalize upd G4 t4 (.tup []) = G5 at s5 sB5 ⊢
        cases ee : ys4.isEmpty with
        | true => exact iteF (iteF (rest G5 ⟨ext_same sB5, tabs_same sB5 tB⟩))
        | false =>
          refine iteT ⟨tabs_same sB5 tB, fun G6 e6 t6 E6 Q6 hE6 _ => ⟨.ref pB, rfl, ?_⟩⟩
          unfold tNil
          have hne : pss.flatten ≠ [] := fun z => by
            have h := hy4.len
            rw [z] at h
            rw [uni_nil] at h
            cases ys4 with
            | nil => cases ee
            | cons y ys => cases h
          refine ur_wide ((hB.up sB5).ext e6) ?_ ?_ ?_ ?_ fun G7 s7 => hE6 _ _ _ (.inl ⟨rfl, rfl, rfl, _, rfl, iteNS rfl (rest G7 ⟨((ext_same sB5).trans e6).trans (ext_same s7), tabs_same s7 t6⟩)⟩)
          · refine smu_any (pss := mixP i qss [wideR wd]) (fun p hp r hr => ?_) (by rw [mix_len.1]; omega) (fun p hp => ?_)
            · rcases mem_mix.mp hp with h | h
              · exact rec_sm (c.ok p h r hr)
              · rw [h] at hr
                rw [List.mem_singleton.mp hr]
                exact wideR_sm wd
            · rcases mem_mix.mp hp with h | h
              · exact Nat.le_trans (l60q p h) (by decide)
              · rw [h]; show 1 ≤ 1000; decide
          · intro p hp
            rcases (mem_mix (i := i) (qss := qss) (p := [wideR wd])).mp hp with h | h
            · exact okq p h
            · rw [h]; exact wideR_ok w1 w4
          · show (mixP i qss [wideR wd]).flatten.length ≤ 1000
            rw [mix_len.2]
            show _ + 1 ≤ 1000
            omega
          · show oneW (mixP i qss [wideR wd]).flatten = false
            cases eo : oneW (mixP i qss [wideR wd]).flatten with
            | false => rfl
            | true =>
              exfalso
              have h := oneW_eq eo
              have hq : qss.flatten ≠ [] := fun z => by
                have e := c.flat
                rw [z] at e
                exact hne (by simpa using e.symm)
              obtain ⟨r1, hr1⟩ := List.exists_mem_of_ne_nil _ hq
              obtain ⟨p1, hp1, hr2⟩ := List.mem_flatten.mp hr1
              have g1 : r1 ∈ (mixP i qss [wideR wd]).flatten := List.mem_flatten.mpr ⟨p1, mem_mix.mpr (.inl hp1), hr2⟩
              have g2 : wideR wd ∈ (mixP i qss [wideR wd]).flatten := List.mem_flatten.mpr ⟨[wideR wd], mem_mix.mpr (.inr rfl), List.mem_singleton.mpr rfl⟩
              have := h r1 g1 _ g2
              rw [rok_len (c.rk r1 hr1)] at this
              exact wideR_len w1 w4 this.symm
    · cases o with
      | none =>
        cases hyo
        have cf := lo.1 rfl
        have poq := c.parts po w1 w4 cf
        obtain ⟨us2, l2, cov2⟩ := poq.us
        obtain ⟨u1, u2, u3⟩ := rows_fine (fun r hr => poq.flat r (mem_uni.mp hr)) (Nat.le_succ_of_le poq.uni) w4
        refine ⟨.non, rfl, rfl, _, rfl, ?_⟩
        rw [show decide (V.non = V.non) = true from decide_eq_true rfl]
        refine iteF (iteF ⟨.non, rfl, rfl, _, rfl, ?_⟩)
        rw [show decide (V.non = V.non) = true from decide_eq_true rfl]
        refine iteT ⟨x, rfl, ?_⟩
        unfold tNil
        refine ur_good poq (by omega) (by omega) (hid_up hx) fun G2 p2 s2 h2 => ?_
        refine ⟨.ref p2, _, rfl, h2, u1, u2, u3, x, rfl, x, qss, us2, rfl, (hid_up hx).up s2, by omega, poq.c, cov2, by omega, fun G3 p3 s3 h3 => ?_⟩
        refine ⟨.ref p3, _, rfl, h3, u1, u2, u3, rfl, _, rfl, iteNS rfl ?_⟩
        exact rest G3 ⟨ext_same (s2.trans s3), tabs_same (s2.trans s3) t1⟩
      | some m =>
        have hyo : Dx (hid l H1) y (.str m) := hyo
        cases hyo
        have lm := lo.2 m rfl
        obtain ⟨r0, hr0, er0⟩ := List.mem_map.mp lm.1
        obtain ⟨m8, m9⟩ := name_fine (c.rk r0 (List.mem_filter.mp hr0).1) w4
        rw [er0] at m8 m9
        have ns : decide (V.str m = V.non) = false := decide_eq_false fun z => by cases z
        refine ⟨.str m, rfl, rfl, _, rfl, ?_⟩
        rw [ns]
        refine iteT ⟨t1, fun G2 e2 t2 E2 Q2 hE2 _ => ⟨x, rfl, ?_⟩⟩
        unfold tNil
        refine ur_conf ((hid_up hx).ext e2) smq okq (by omega) oneq lm fun G3 dd s3 ed => hE2 _ _ _ (.inr (.inl ⟨rfl, dd, m, rfl, ed, m8, m9, ?_⟩))
        refine ⟨.str m, rfl, .str m, .str m, rfl, .str m, rfl, by simp [PyData.depth], by omega, "conflict ", (PyData.str m).shown, rfl, rfl, by have : ("conflict " : Str).length = 9 := (by decide); omega, rfl, _, rfl, iteNS rfl ?_⟩
        refine ⟨.str m, rfl, rfl, _, rfl, ?_⟩
        rw [ns]
        exact iteF (iteF (rest G3 ⟨e2.trans (ext_same s3), tabs_same s3 t2⟩))
end

end U1

set_option maxRecDepth 100000
set_option maxHeartbeats 1000000
namespace U1
open PySem PySem.Spec PyProof.Rows L2 KX
/-! ### rows in their order -/
structure RsP (wd : Nat) (rs : List Rec) : Prop where
  pw : (rs.map (fun r : Rec => r.nm)).Pairwise (fun a b => leN a b = true)
  nd : (rs.map (fun r : Rec => r.nm)).Nodup
  ok : ∀ r ∈ rs, ROk wd r
theorem made_rsp {wd : Nat} {recs : List Rec} (h : Made wd recs) (hl : recs.length ≤ 61) : RsP wd (sortR recs) :=
  ⟨by rw [names_sort h hl]; exact List.pairwise_mergeSort le_tr le_tot _, names_nodup h hl, sort_rok h hl⟩
theorem RsP.sub {wd : Nat} {rs ss : List Rec} (h : RsP wd rs) (s : ss.Sublist rs) : RsP wd ss :=
  ⟨h.pw.sublist (s.map _), h.nd.sublist (s.map _), fun r hr => h.ok r (s.subset hr)⟩
theorem RsP.asc {wd : Nat} {rs : List Rec} (h : RsP wd rs) : ascS (rs.map (fun r : Rec => r.nm)) = true := asc_of h.pw h.nd
theorem RsP.rsok {wd : Nat} {rs : List Rec} (h : RsP wd rs) (w1 : 1 ≤ wd) (w4 : wd ≤ 4) (hl : rs.length ≤ 60) : RsOk rs := by
  refine ⟨hl, ?_, oneW_wd fun r hr => rok_len (h.ok r hr), h.asc⟩
  rw [List.all_eq_true]
  intro e he
  obtain ⟨r, hr, rfl⟩ := List.mem_map.mp he
  exact rec_rd (h.ok r hr) w1 w4
theorem RsP.dist {wd : Nat} {rs : List Rec} (h : RsP wd rs) : ∀ a ∈ rs, ∀ b ∈ rs, a.nm = b.nm → a = b := fun a ha b hb e => by
  obtain ⟨i, hi, e1⟩ := List.getElem_of_mem ha
  obtain ⟨j, hj, e2⟩ := List.getElem_of_mem hb
  have nd2 := List.nodup_iff_pairwise_ne.mp h.nd
  rw [List.pairwise_iff_getElem] at nd2
  have z : i = j := by
    rcases Nat.lt_trichotomy i j with lt | eq | gt
    · have := nd2 i j (by rw [List.length_map]; omega) (by rw [List.length_map]; omega) lt
      rw [List.getElem_map, List.getElem_map, e1, e2] at this
      exact absurd e this
    · exact eq
    · have := nd2 j i (by rw [List.length_map]; omega) (by rw [List.length_map]; omega) gt
      rw [List.getElem_map, List.getElem_map, e1, e2] at this
      exact absurd e.symm this
  subst z
  rw [← e1, ← e2]
theorem split_parts {wd : Nat} {rs : List Rec} {pss : List (List Rec)} (h : RsP wd rs) (w1 : 1 ≤ wd) (w4 : wd ≤ 4) (l60 : rs.length ≤ 60) (s : SplitOk rs pss) : PartsOk wd pss := by
  have mem : ∀ r ∈ pss.flatten, r ∈ rs := fun r hr => by
    obtain ⟨p, hp, hr⟩ := List.mem_flatten.mp hr
    exact (s.sub p hp).subset hr
  exact ⟨fun p hp => (h.sub (s.sub p hp)).rsok w1 w4 (Nat.le_trans (s.sub p hp).length_le l60), fun p hp r hr => h.ok r ((s.sub p hp).subset hr), ⟨rs, l60, mem⟩, cons_sub h.dist mem⟩
theorem gn_to {i : Nat} {v : V} {σ σ' : L2.St} {H : Hp} {Q : L2.St → Hp → Prop} (e : σ.set i (some v) = σ') (h : Q σ' H) : gName i v σ H Q := by subst e; exact h
/-! ### the law's turns -/
def spLaw (K : PySem.W.Frag) (P0 P1 : Addr) : Sp := fun vs H Q _ => ∃ (a : Addr) (ns : List Int), vs = [.ref a] ∧ SqL K H a (ns.map V.int) ∧ ns.length ≤ 63 ∧ H P0 = some (.tbl #[]) ∧ H P1 = some (.tbl #[]) ∧ ∀ H', Q (.bl true) H'
abbrev NW : List Str := ["script", "at", "stream", "wide", "rows", "turn", "parts", "more", "row", "other", "late", "due"]
theorem scLaw : FnScope NW ["script"] (defScope sLaw) := ⟨rfl, rfl, rfl, by decide +kernel, rfl, by decide +kernel, by decide +kernel⟩
def forBody : Stmt → List Stmt
  | .For _ _ b _ _ => b
  | _ => []
abbrev bLaw : List Stmt := forBody ((defBody sLaw).getD 0 (.Pass ⟨0, 0, 0, 0⟩))
abbrev cxLaw (P : Program) (w : World) (K : PySem.W.Frag) (mg : Str → Option Value) (base : Heap) (f : Addr) (cdv : Value) (A : Around) (outer : List PySem.Env) (s : Shared) (H : Hp) (E : XK) : Cx :=
  (cxOf CX0 P w K mg base NW "law" (defScope sLaw) f cdv A outer s H E).nox
/-- what the defs promise -/
structure Ds (P : Program) (w : World) (K : PySem.W.Frag) (mg : Str → Option Value) (base : Heap) (k : Nat) (R N M P0 P1 : Addr) (fS fD fR fP fT fE fU : Addr) (gS gD gR gP gT gE gU : FuncData) : Prop where
  S : Df K mg "_law_stream" sStream ["script", "at"] fS gS
  D : Df K mg "_law_draw" sDraw ["stream", "total"] fD gD
  Rw : Df K mg "_law_rowset" sRs ["stream", "total", "wide"] fR gR
  Sx : Df K mg "_law_split" sSp ["stream", "rows"] fP gP
  T : Df K mg "_law_right" sRt ["parts"] fT gT
  E : Df K mg "_law_errors_right" sEr ["stream", "parts", "wide"] fE gE
  U : Df K mg "union_rowsets" sUR ["rowsets"] fU gU
  oS : FnOk P w K mg base CX0 (k + 2) fS gS ["script", "at"] (spStream K)
  oD : FnOk P w K mg base CX0 (k + 2) fD gD ["stream", "total"] spDraw
  oR : FnOk P w K mg base CX0 (k + 2) fR gR ["stream", "total", "wide"] spRs
  oP : FnOk P w K mg base CX0 (k + 2) fP gP ["stream", "rows"] spSp
  oT : FnG P w K mg base CX0 (k + 2) fT gT ["parts"] spRt
  oE : FnG P w K mg base CX0 (k + 2) fE gE ["stream", "parts", "wide"] (spEr P0 P1)
  oU : FnOk P w K mg base (L2.CX P w) k fU gU ["rowsets"] (spUR R N M)
section
variable {P : Program} {w : World} {K : PySem.W.Frag} {mg : Str → Option Value} {base : Heap} {R N M P0 P1 : Addr}
theorem body_law {k : Nat} {fS fD fR fP fT fE fU : Addr} {gS gD gR gP gT gE gU : FuncData} (B : Bl mg) (T : Ds P w K mg base k R N M P0 P1 fS fD fR fP fT fE fU gS gD gR gP gT gE gU)
    {f : Addr} {cdv : Value} {A : Around} {outer : List PySem.Env} {s : Shared} {H : Hp} {E : XK} (hgd : (cxLaw P w K mg base f cdv A outer s H E).A.guards = some []) (hr : Room (k + 2) (cxLaw P w K mg base f cdv A outer s H E).A) {a : Addr} {ns : List Int} :
    ∃ t, PSs (cxLaw P w K mg base f cdv A outer s H E) bLaw t ∧ ∀ (D : Ends) (G : Hp) (i : Nat) (o2 o3 o4 o5 o6 o7 o8 o9 o10 o11 : Option V), SqL K G a (ns.map V.int) → i ≤ 1000 → LamX.Tabs (TL P0 P1) G →
      (∀ G' o1 o2 o3 o4 o5 o6, LamX.ExtN G G' → LamX.Tabs (TL P0 P1) G' → D.nx [some (.ref a), o1, o2, o3, o4, o5, o6, o7, o8, o9, o10, o11] G') → t D [some (.ref a), some (.int (0 + (i : Int))), o2, o3, o4, o5, o6, o7, o8, o9, o10, o11] G := by
  have nd := scLaw.nd
  refine ⟨_, pss_cons (ps_set (i := 2) nd rfl (.inl rfl) (pe_call T.oS hr (by rfl) T.S.g T.S.F.kp T.S.b .nil pass0 (pa_cons (pv 0) (pa_cons (pv 1) pa_nil))))
    (pss_cons (ps_set (i := 3) nd rfl (.inl rfl) (pe_op op_add pe_int (pe_call T.oD hr (by rfl) T.D.g T.D.F.kp T.D.b .nil pass0 (pa_cons (pv 2) (pa_cons pe_int pa_nil)))))
    (pss_cons (ps_set (i := 4) nd rfl (.inl rfl) (pe_call T.oR hr (by rfl) T.Rw.g T.Rw.F.kp T.Rw.b .nil pass0 (pa_cons (pv 2) (pa_cons (pe_ix (r := rIxL K) ix_list (pe_lst (pa_cons pe_int (pa_cons pe_int (pa_cons (pe_call T.oD hr (by rfl) T.D.g T.D.F.kp T.D.b .nil pass0 (pa_cons (pv 2) (pa_cons pe_int pa_nil))) (pa_cons (pe_call T.oD hr (by rfl) T.D.g T.D.F.kp T.D.b .nil pass0 (pa_cons (pv 2) (pa_cons pe_int pa_nil))) pa_nil)))))
        (pe_call T.oD hr (by rfl) T.D.g T.D.F.kp T.D.b .nil pass0 (pa_cons (pv 2) (pa_cons pe_int pa_nil))) (fun _ _ => rfl)) (pa_cons (pv 3) pa_nil)))))
    (pss_one (ps_for PassesOwn.never rfl (pi_range1 (by rfl) B.range (pa_cons pe_int pa_nil)) (pg_name (i := 5) nd rfl (.inl rfl))
      (pss_cons (ps_set (i := 6) nd rfl (.inl rfl) (pe_call T.oP hr (by rfl) T.Sx.g T.Sx.F.kp T.Sx.b .nil pass0 (pa_cons (pv 2) (pa_cons (pv 4) pa_nil))))
      (pss_one (ps_if (PW.pt (pw_or (pt_not (pt_val (pe_callG T.oT hgd hr (by rfl) T.T.g T.T.F.kp T.T.b .nil pass0 (pa_cons (pv 6) pa_nil))))
        (pw_or1 (pt_not (pt_val (pe_callG T.oE hgd hr (by rfl) T.E.g T.E.F.kp T.E.b .nil pass0 (pa_cons (pv 2) (pa_cons (pv 6) (pa_cons (pv 3) pa_nil))))))))) (pss_one (ps_ret pe_bl)) pss_nil))))))), fun D G i o2 o3 o4 o5 o6 o7 o8 o9 o10 o11 hS hi hT q => ?_⟩
  refine ⟨.ref a, rfl, .int (0 + (i : Int)), rfl, a, ns, 0 + (i : Int), rfl, hS, by omega, by omega, fun H1 l s1 nl st1 => ?_⟩
  have t1 := tabs_same s1 hT
  refine ⟨.ref l, rfl, l, 4, rfl, st1, by decide, by decide, fun H2 d k2 st2 d0 d4 => ⟨1, d, rfl, rfl, ?_⟩⟩
  obtain ⟨wd, ewd⟩ : ∃ wd : Nat, 1 + d = (wd : Int) := ⟨(1 + d).toNat, by omega⟩
  have w1 : 1 ≤ wd := by omega
  have w4 : wd ≤ 4 := by omega
  refine gn_to (v := V.int (1 + d)) (σ' := ([some (.ref a), some (.int (0 + (i : Int))), some (.ref l), some (.int (wd : Int)), o4, o5, o6, o7, o8, o9, o10, o11] : L2.St)) (by rw [ewd]; rfl) ?_
  dsimp only
  refine ⟨.ref l, rfl, .ref l, rfl, l, 9, rfl, st2, by decide, by decide, fun H3 d9 k3 st3 x0 x9 => ⟨.ref l, rfl, l, 61, rfl, st3, by decide, by decide, fun H4 d61 k4 st4 y0 y61 => ?_⟩⟩
  refine ⟨by show 4 ≤ sizeLine; decide, fun b nb => ?_⟩
  have k5 : Keep l H4 (upd H4 b (.lst [V.int 0, V.int 1, V.int d9, V.int d61])) := Keep.of (same_new nb)
  have st5 := st4.new (o := .lst [V.int 0, V.int 1, V.int d9, V.int d61]) nb
  have e5 : (upd H4 b (.lst [V.int 0, V.int 1, V.int d9, V.int d61])) b = some (.lst ([0, 1, d9, d61].map V.int)) := upd_same
  have nbl := st4.ne nb
  generalize upd H4 b (.lst [V.int 0, V.int 1, V.int d9, V.int d61]) = H5 at k5 st5 e5 ⊢
  refine ⟨.ref l, rfl, l, 4, rfl, st5, by decide, by decide, fun H6 m k6 st6 m0 m4 => ?_⟩
  obtain ⟨t, ht, eat⟩ := menu (ns := [0, 1, d9, d61]) m0 (by show m < 4; omega)
  have tb : 0 ≤ t ∧ t ≤ 60 := by
    simp at ht
    omega
  obtain ⟨n, rfl⟩ := Int.eq_ofNat_of_zero_le tb.1
  refine ⟨b, _, m, .int (n : Int), rfl, rfl, .inl (.inl (k6 _ _ nbl e5)), eat, .int (wd : Int), rfl, l, n, wd, rfl, st6, by omega, w1, w4, fun H7 pr recs k7 st7 hlen hmade hR => ?_⟩
  have hsl : (sortR recs).length = recs.length := List.length_mergeSort _
  have hl60 : (sortR recs).length ≤ 60 := by omega
  have sp := made_rsp hmade (by omega)
  generalize sortR recs = rs at hR hl60 sp
  clear hsl hmade hlen
  have k17 : Keep l H1 H7 := ((((k2.trans k3).trans k4).trans k5).trans k6).trans k7
  have t7 := tabs_keep k17 st1 t1
  refine gn_to (σ' := ([some (.ref a), some (.int (0 + (i : Int))), some (.ref l), some (.int (wd : Int)), some (.ref pr), o5, o6, o7, o8, o9, o10, o11] : L2.St)) rfl ?_
  dsimp only
  refine ⟨3, rfl, by decide, by decide, ?_⟩
  refine for_range (lo := 0) (n := 3) (fun j σ F => LamX.ExtN (hid l H7) (hid l F) ∧ StO F l ∧ LamX.Tabs (TL P0 P1) F ∧ ∃ y5 y6 : Option V, σ = [some (.ref a), some (.int (0 + (i : Int))), some (.ref l), some (.int (wd : Int)), some (.ref pr), y5, y6, o7, o8, o9, o10, o11])
    ⟨LamX.ExtN.refl _, st7, t7, o5, o6, rfl⟩ (fun j σ F hj hF => ?_) (fun σ F hF => ?_)
  · obtain ⟨eF, sF, tF, y5, y6, rfl⟩ := hF
    have hRF := hR.ext eF
    refine ⟨.ref l, rfl, .ref pr, rfl, l, .ref pr, rs, rfl, sF, hRF, by omega, fun F2 p2 pss kF2 sF2 so hp2 => ?_⟩
    have po := split_parts sp w1 w4 hl60 so
    refine gn_to (σ' := ([some (.ref a), some (.int (0 + (i : Int))), some (.ref l), some (.int (wd : Int)), some (.ref pr), some (.int (0 + (j : Int))), some (.ref p2), o7, o8, o9, o10, o11] : L2.St)) rfl ?_
    dsimp only
    have t2 := tabs_keep kF2 sF tF
    refine ⟨.ref p2, rfl, .ref p2, wd, pss, rfl, hid_up hp2, po, so.l5, w1, w4, fun F3 s3 => ⟨_, rfl, iteF ?_⟩⟩
    have k23 : Keep l F2 F3 := Keep.of s3
    refine ⟨.ref l, rfl, .ref p2, rfl, .int (wd : Int), rfl, l, .ref p2, wd, pss, rfl, tabs_same s3 t2, sF2.same s3, hp2.up k23.same, po, so.l1, so.l5, w1, w4, fun F4 e4 st4 t4 => ⟨_, rfl, iteF ?_⟩⟩
    exact ⟨(eF.trans (keep_ext (kF2.trans k23))).trans e4, st4, t4, _, _, rfl⟩
  · obtain ⟨eF, sF, tF, y5, y6, rfl⟩ := hF
    refine q F _ _ _ _ _ _ (fun b o hb nt => ?_) tF
    have hb1 := s1 b o hb
    have nb : b ≠ l := ne_of_none hb nl
    have z := ((keep_ext k17).trans eF) b o (by rw [hid_at nb]; exact hb1) nt
    rw [hid_at nb] at z
    exact z
end

end U1

set_option maxRecDepth 100000
set_option maxHeartbeats 1000000
namespace U1
open PySem PySem.Spec PyProof.Rows L2 KX
theorem cut_to (rs : List Rec) (n : Nat) : KX.cutD (rs.map encR) none (some (n : Int)) = (rs.take n).map encR := by rw [cutD_to, List.map_take]
theorem cut_from (rs : List Rec) (n : Nat) : KX.cutD (rs.map encR) (some (n : Int)) none = (rs.drop n).map encR := by rw [cutD_from, List.map_drop]
theorem cut_both (rs : List Rec) (a b : Nat) (h : a ≤ b) (hb : b ≤ rs.length) : KX.cutD (rs.map encR) (some (a : Int)) (some (b : Int)) = ((rs.drop a).take (b - a)).map encR := by
  unfold KX.cutD
  rw [HT.sIx_nat, HT.sIx_nat, List.length_map, Nat.min_eq_left hb, Nat.min_eq_left (Nat.le_trans h hb), ← List.map_drop, ← List.map_take]
theorem flat_ones : ∀ rs : List Rec, (rs.map fun r => [r]).flatten = rs
  | [] => rfl
  | r :: rs => by rw [List.map_cons, List.flatten_cons, flat_ones rs]; rfl
theorem one_sub {rs : List Rec} {r : Rec} (h : r ∈ rs) : [r].Sublist rs := List.singleton_sublist.mpr h
/-- parts of rows that stand in their order, all of them among few -/
theorem rsp_parts {wd : Nat} {rs us : List Rec} {pss : List (List Rec)} (h : RsP wd rs) (w1 : 1 ≤ wd) (w4 : wd ≤ 4) (s : ∀ p ∈ pss, p.Sublist rs ∧ p.length ≤ 60) (l : us.length ≤ 60) (cov : ∀ r ∈ pss.flatten, r ∈ us) : PartsOk wd pss := by
  have mem : ∀ r ∈ pss.flatten, r ∈ rs := fun r hr => by
    obtain ⟨p, hp, hr⟩ := List.mem_flatten.mp hr
    exact (s p hp).1.subset hr
  exact ⟨fun p hp => (h.sub (s p hp).1).rsok w1 w4 (s p hp).2, fun p hp r hr => h.ok r ((s p hp).1.subset hr), ⟨us, l, cov⟩, cons_sub h.dist mem⟩
theorem take_le_mem {rs : List Rec} {a b : Nat} (h : a ≤ b) {r : Rec} (m : r ∈ rs.take a) : r ∈ rs.take b := by
  rw [← Nat.min_eq_left h, ← List.take_take] at m
  exact List.mem_of_mem_take m
theorem mid_mem {rs : List Rec} {a b : Nat} {r : Rec} (m : r ∈ (rs.drop a).take b) : r ∈ rs.take (a + b) := by
  rw [List.take_drop] at m
  exact List.mem_of_mem_drop m
theorem all_40 {rs : List Rec} {r : Rec} (m : r ∈ rs) : r ∈ rs.take 40 ∨ r ∈ rs.drop 21 := by
  rw [← List.take_append_drop 40 rs] at m
  rcases List.mem_append.mp m with h | h
  · exact .inl h
  · right
    rw [show (40 : Nat) = 21 + 19 from rfl, ← List.drop_drop] at h
    exact List.mem_of_mem_drop h
theorem all_60 {rs : List Rec} {r : Rec} (m : r ∈ rs.take 60) : r ∈ rs.take 40 ∨ r ∈ (rs.drop 1).take 59 := by
  rw [show (60 : Nat) = 1 + 59 from rfl, List.take_add] at m
  rcases List.mem_append.mp m with h | h
  · exact .inl (take_le_mem (by decide) h)
  · exact .inr h
theorem tabs_two {P0 P1 : Addr} {H : Hp} (h0 : H P0 = some (.tbl #[])) (h1 : H P1 = some (.tbl #[])) : LamX.Tabs (TL P0 P1) H := fun p hp => by
  rcases List.mem_cons.mp hp with h | h
  · cases h
    exact LamX.TabS.nil h0
  · cases List.mem_singleton.mp h
    exact LamX.TabS.nil h1
theorem seq_ext {K : PySem.W.Frag} {H G : Hp} {a : Addr} {xs : List V} (h : SqL K H a xs) (e : LamX.ExtN H G) : SqL K G a xs := by
  rcases h with h | h
  · exact .inl (h.imp (fun z => e _ _ z fun ps q => by cases q) fun ⟨o, z⟩ => ⟨o, e _ _ z fun ps q => by cases q⟩)
  · exact .inr h
/-- rows that stand in their order are the union of parts that hold them -/
theorem uni_back {wd : Nat} {L T : List Rec} (h : RsP wd T) (m : ∀ r, r ∈ L ↔ r ∈ T) : uniR L = T := by
  have cL : cons L := cons_sub h.dist fun r hr => (m r).mp hr
  have nT : T.Nodup := nodup_of_map (f := fun r : Rec => r.nm) h.nd
  have p : (uniR L).Perm T := (List.perm_ext_iff_of_nodup ((List.mergeSort_perm _ _).nodup_iff.mpr (ded_nodup L)) nT).mpr fun r => mem_uni.trans (m r)
  have pw : (uniR L).Pairwise fun a b => leN a.nm b.nm = true := by
    have cd : cons (dedR L) := cons_sub cL fun r hr => mem_ded.mp hr
    have h2 := List.pairwise_mergeSort le_tr le_tot ((dedR L).map fun r : Rec => r.nm)
    rw [← sort_names cd] at h2
    exact List.pairwise_map.mp h2
  refine List.Perm.eq_of_pairwise (le := fun a b => leN a.nm b.nm = true) (fun a b ha hb z1 z2 => ?_) pw (List.pairwise_map.mp h.pw) p
  exact h.dist a ((m a).mp (mem_uni.mp ha)) b hb (leN_anti z1 z2)
section
variable {P : Program} {w : World} {K : PySem.W.Frag} {mg : Str → Option Value} {base : Heap} {R S N M fN fM P0 P1 : Addr} {gN gM : FuncData}
theorem ok_law {k : Nat} {f c0 fO fS fD fR fP fT fE fU : Addr} {gS gD gR gP gT gE gU : FuncData} {oc kV doc pm ct ocO kVO docO pmO cdO ctO : Value} {od an odO anO : Option Addr} {osl oslO : Array (Option Value)} (B : Bl mg) (TR : OC K mg "InvalidRowset" R) (TN : NC K mg N fN gN) (TT : TM K mg M fM gM) (Z : XS K mg S R N M)
    (lk : K.lookup f = some ⟨oc, od, .func (PySem.W.fnOf "law" "law" (defArgs sLaw) (defBody sLaw) (defScope sLaw) .none kV doc pm an (.ref c0) ct), osl⟩) (hcd : PySem.W.codeIn K (.ref c0) "law" = true) (TB : LamX.TabB base mg c0 P1) (hne : P0 ≠ P1)
    (DO : Df K mg "_law_outcome" sOut ["call"] fO (PySem.W.fnOf "_law_outcome" "_law_outcome" (defArgs sOut) (defBody sOut) (defScope sOut) .none kVO docO pmO anO cdO ctO))
    (lkO : K.lookup fO = some ⟨ocO, odO, .func (PySem.W.fnOf "_law_outcome" "_law_outcome" (defArgs sOut) (defBody sOut) (defScope sOut) .none kVO docO pmO anO cdO ctO), oslO⟩) (hcO : PySem.W.codeIn K cdO "_law_outcome" = true)
    (T : Ds P w K mg base k R N M P0 P1 fS fD fR fP fT fE fU gS gD gR gP gT gE gU) :
    FnG P w K mg base CX0 (k + 3) f (PySem.W.fnOf "law" "law" (defArgs sLaw) (defBody sLaw) (defScope sLaw) .none kV doc pm an (.ref c0) ct) ["script"] (spLaw K P0 P1) := by
  have one1 : ∀ p ∈ TL P0 P1, p.1 = P1 → p.2 = lamW := fun p hp e => by
    rcases List.mem_cons.mp hp with h | h
    · cases h
      exact absurd e hne
    · cases List.mem_singleton.mp h
      rfl
  have U2 : FnOk P w K mg base (L2.CX P w) (k + 2) fU gU ["rowsets"] (spUR R N M) := T.oU.mono (by omega)
  refine okGc lk hcd scLaw (fun vs H Q E h => ?_) (fun A outer s H vs Q E hgd hr h => ?_)
  · obtain ⟨a, ns, rfl, _⟩ := h
    rfl
  · obtain ⟨a, ns, rfl, hS, hl, hP0, hP1, q⟩ := h
    have nd := scLaw.nd
    obtain ⟨tb, hb, hq⟩ := body_law B T (base := base) (outer := outer) (s := s) (H := H) (E := E) hgd hr (a := a) (ns := ns)
    refine ⟨_, pss_cons (ps_for PassesOwn.never rfl (pi_range1 (by rfl) B.range (pa_cons (pe_callB (call_max2 rfl) (by rfl) B.max (by decide +kernel) (pa_cons pe_int (pa_cons (pe_callB (call_min2 rfl) (by rfl) B.min (by decide +kernel)
          (pa_cons pe_int (pa_cons (pe_callB call_len_seq (by rfl) B.len PySem.boot_len (pa_cons (pv 0) pa_nil)) pa_nil))) pa_nil))) pa_nil)) (pg_name (i := 1) nd rfl (.inl rfl)) hb)
      (pss_cons (ps_set (i := 7) nd rfl (.inr rfl) (pe_call T.oR hr (by rfl) T.Rw.g T.Rw.F.kp T.Rw.b .nil pass0 (pa_cons (pe_call T.oS hr (by rfl) T.S.g T.S.F.kp T.S.b .nil pass0 (pa_cons (pv 0) (pa_cons pe_int pa_nil))) (pa_cons pe_int (pa_cons pe_int pa_nil)))))
      (pss_cons (ps_if (PW.pt (pw_or (pt_cmpR (op_neP hr.units) (pe_call U2 hr (by rfl) T.U.g T.U.F.kp T.U.b .nil passL (pa_cons (pe_tup (pa_cons (pe_slice sl_tupA (pv 7) po_none (po_some pe_int)) (pa_cons (pe_slice sl_tupA (pv 7) (po_some pe_int) (po_some pe_int)) pa_nil))) pa_nil)) (pe_slice sl_tupA (pv 7) po_none (po_some pe_int)) (nomark _)) (pw_or1 (pt_cmpR (op_ne0 hr.units0) (pe_call U2 hr (by rfl) T.U.g T.U.F.kp T.U.b .nil passL (pa_cons (pe_tup pa_nil) pa_nil)) (pe_tup pa_nil) (nomark _))))) (pss_one (ps_ret pe_bl)) pss_nil)
      (pss_cons (ps_if (pt_cmpR (op_neP hr.units) (pe_call U2 hr (by rfl) T.U.g T.U.F.kp T.U.b .nil passL (pa_cons (pe_op op_catA (pe_callTy call_tuple_of (by rfl) B.tuple (by decide +kernel) (pa_cons (pe_lc (own := [("row", 8)]) (g := gName 8) rfl nd (pi_tup (pe_slice sl_tupA (pv 7) po_none (po_some pe_int))) (blkOk_by (N := NW) (sc := defScope sLaw) (by decide +kernel)) (fun _ _ _ _ _ => pg_name (i := 8) nd rfl (Or.inl rfl)) (fun _ _ _ _ _ => pts_nil) (fun _ _ _ _ _ => (pe_tup (pa_cons (pv 8) pa_nil)))) pa_nil)) (pe_tup (pa_cons (pe_slice sl_tupA (pv 7) po_none (po_some pe_int)) pa_nil))) pa_nil)) (pe_slice sl_tupA (pv 7) po_none (po_some pe_int)) (nomark _)) (pss_one (ps_ret pe_bl)) pss_nil)
      (pss_cons (ps_if (PW.pt (pw_or (pt_cmpR (op_ne0 hr.units0) (pe_call U2 hr (by rfl) T.U.g T.U.F.kp T.U.b .nil passL (pa_cons (pe_tup (pa_cons (pe_tup pa_nil) (pa_cons (pe_tup pa_nil) pa_nil))) pa_nil)) (pe_tup pa_nil) (nomark _)) (pw_or1 (pt_cmpR op_ne (pe_lamR (T := TL P0 P1) (TT := TTout R N M) (k := k) (js := [7]) (N := ["more"]) (fr := ["more"]) (by rfl) DO.g DO.F.kp lkO hcO DO.b scOut rfl (.inl rfl) (out_gives B TR TN TT Z (fun _ => hgd)) TB rfl (List.mem_cons.mpr (.inr (List.mem_singleton.mpr rfl))) one1 hr (NdefX.nscope_by (by decide +kernel)) (NdefX.ndef_free (sc := defScope sLaw) (fr := ["more"]) (by decide +kernel)) (NdefX.ndef_fr (sc := defScope sLaw) (by decide +kernel)) rfl rfl (fun _ _ _ _ _ => rfl)
            (fun A2 outer2 s2 H2 E2 f2 c2 hr2 => pe_callS T.oU hr2 (by rfl) T.U.g T.U.F.kp T.U.b (fun σ => passAt (takes_of rfl rfl rfl rfl) σ) (pa_cons (pe_tup (pa_cons (pe_slice (r := rSlA K) sl_tupA (pv 0) po_none (po_some pe_int)) (pa_cons (pe_slice (r := rSlA K) sl_tupA (pv 0) (po_some pe_int) po_none) pa_nil))) pa_nil))) pe_str (nomark _))))) (pss_one (ps_ret pe_bl)) pss_nil)
      (pss_cons (ps_set (i := 9) nd rfl (.inl rfl) (pe_tup (pa_cons (pe_ix (r := rIxT K) ix_tup (pe_ix (r := rIxT K) ix_tup (pv 7) pe_int (fun _ _ => rfl)) pe_int (fun _ _ => rfl)) (pa_cons (pe_op op_add (pe_op op_mod (pe_ix (r := rIxT K) ix_tup (pe_ix (r := rIxT K) ix_tup (pv 7) pe_int (fun _ _ => rfl)) pe_int (fun _ _ => rfl)) pe_int) (pe_op op_powW pe_int pe_int)) (pa_cons (pe_ix (r := rIxT K) ix_tup (pe_ix (r := rIxT K) ix_tup (pv 7) pe_int (fun _ _ => rfl)) pe_int (fun _ _ => rfl)) (pa_cons (pe_op op_add (pe_op op_mod (pe_ix (r := rIxT K) ix_tup (pe_ix (r := rIxT K) ix_tup (pv 7) pe_int (fun _ _ => rfl)) pe_int (fun _ _ => rfl)) pe_int) pe_int) pa_nil))))))
      (pss_cons (ps_set (i := 10) nd rfl (.inr rfl) (pe_op op_catA (pe_op op_catA (pe_slice sl_tupA (pv 7) (po_some pe_int) (po_some pe_int)) (pe_tup (pa_cons (pv 9) pa_nil))) (pe_slice sl_tupA (pv 7) (po_some pe_int) po_none)))
      (pss_cons (ps_set (i := 11) nd rfl (.inl rfl) (pe_ifExp (pt_cmpR (op_eqP hr.units) (pv 9) (pe_ix (r := rIxT K) ix_tup (pv 7) pe_int (fun _ _ => rfl)) (nomark _)) pe_str (pe_op op_add_str pe_str (pe_callB (call_reprD hr hgd) (by rfl) B.repr (by decide +kernel) (pa_cons (pe_ix (r := rIxT K) ix_tup (pe_ix (r := rIxT K) ix_tup (pv 7) pe_int (fun _ _ => rfl)) pe_int (fun _ _ => rfl)) pa_nil)))))
      (pss_one (ps_ret (pe_cmpR op_eq (pe_lamR (T := TL P0 P1) (TT := TTout R N M) (k := k) (js := [10, 7]) (N := ["late", "more"]) (fr := ["late", "more"]) (by rfl) DO.g DO.F.kp lkO hcO DO.b scOut rfl (.inl rfl) (out_gives B TR TN TT Z (fun _ => hgd)) TB rfl (List.mem_cons.mpr (.inr (List.mem_singleton.mpr rfl))) one1 hr (NdefX.nscope_by (by decide +kernel)) (NdefX.ndef_free (sc := defScope sLaw) (fr := ["late", "more"]) (by decide +kernel)) (NdefX.ndef_fr (sc := defScope sLaw) (by decide +kernel)) rfl rfl (fun _ _ _ _ _ => rfl)
            (fun A2 outer2 s2 H2 E2 f2 c2 hr2 => pe_callS T.oU hr2 (by rfl) T.U.g T.U.F.kp T.U.b (fun σ => passAt (takes_of rfl rfl rfl rfl) σ) (pa_cons (pe_tup (pa_cons (pe_slice (r := rSlA K) sl_tupA (pv 1) po_none (po_some pe_int)) (pa_cons (pv 0) pa_nil))) pa_nil))) (pv 11) (nomark _))))))))))), ?_⟩
    refine ⟨.ref a, rfl, a, _, rfl, .inl hS, 20, _, rfl, 1, _, rfl, ?_⟩
    have hj : ∃ j : Nat, j ≤ 1000 ∧ (if (if ((ns.map V.int).length : Int) < 20 then ((ns.map V.int).length : Int) else 20) > 1 then (if ((ns.map V.int).length : Int) < 20 then ((ns.map V.int).length : Int) else 20) else 1) = (j : Int) := by
      rw [List.length_map]
      by_cases h1 : (ns.length : Int) < 20
      · rw [if_pos h1]
        by_cases h2 : (ns.length : Int) > 1
        · rw [if_pos h2]
          exact ⟨ns.length, by omega, rfl⟩
        · rw [if_neg h2]
          exact ⟨1, by decide, rfl⟩
      · rw [if_neg h1]
        exact ⟨20, by decide, rfl⟩
    obtain ⟨j, hj1, ej⟩ := hj
    refine ⟨_, rfl, ?_, ?_, ?_⟩
    · show (-(2 ^ 62) : Int) ≤ _
      rw [ej]
      omega
    · show (_ : Int) < 2 ^ 62
      rw [ej]
      omega
    · refine for_range (lo := 0) (n := Int.toNat _) (fun i σ G => LamX.ExtN H G ∧ LamX.Tabs (TL P0 P1) G ∧ ∃ o1 o2 o3 o4 o5 o6, σ = [some (.ref a), o1, o2, o3, o4, o5, o6, none, none, none, none, none]) ⟨LamX.ExtN.refl H, tabs_two hP0 hP1, none, none, none, none, none, none, rfl⟩ (fun i σ G hi hp => ?_) (fun σ G hp => ?_)
      · obtain ⟨sm, tm, o1, o2, o3, o4, o5, o6, rfl⟩ := hp
        have hi3 : i < j := by
          have h := hi
          rw [show Int.toNat _ = j from congrArg Int.toNat ej] at h
          exact h
        exact hq _ G i o2 o3 o4 o5 o6 none none none none none (seq_ext hS sm) (by omega) tm fun G' p1 p2 p3 p4 p5 p6 s' t' => ⟨sm.trans s', t', p1, p2, p3, p4, p5, p6, rfl⟩
      · obtain ⟨e0, tm, o1, o2, o3, o4, o5, o6, rfl⟩ := hp
        have hS1 := seq_ext hS e0
        refine ⟨.ref a, rfl, a, ns, 21, rfl, hS1, by decide, by decide, fun G1 l s1 nl st1 => ?_⟩
        have m1 := tabs_same s1 tm
        refine ⟨l, 61, 2, rfl, st1, by decide, by decide, by decide, fun G2 pm recs k2 st2 hlen hmade hM => ?_⟩
        have hsl : (sortR recs).length = 61 := by rw [show (sortR recs).length = recs.length from List.length_mergeSort _]; exact hlen
        have sp := made_rsp hmade (by omega)
        generalize sortR recs = rs at hM hsl sp
        clear hmade hlen
        have m2 := tabs_keep k2 st1 m1
        have hM := hid_up hM
        clear st1 st2 k2 s1 m1 tm e0
        have lr : rs.length = 61 := hsl
        have w1 : (1 : Nat) ≤ 2 := by decide
        have w4 : (2 : Nat) ≤ 4 := by decide
        have hb : (1000 : Nat) < sizeLine := by decide
        have i4 : ∀ {n : Nat}, n ≤ 4 → n ≤ sizeLine := fun h => by omega
        have l60 : (rs.take 60).length ≤ 60 := List.length_take_le _ _
        have sp60 := sp.sub (List.take_sublist 60 rs)
        -- the first two unions
        refine ⟨.ref pm, rfl, 40, rfl, sl_same hM fun Ga pa sa da => ⟨.ref pm, rfl, 1, rfl, 60, rfl, sl_same (hM.up sa) fun Gb pb sb db => ⟨i4 (by show 2 ≤ 4; decide), fun pt npt => ?_⟩⟩⟩
        have da := (show Dx Ga (.ref pa) (.tuple ((rs.take 40).map encR)) from by rw [← cut_to]; exact da)
        have db := (show Dx Gb (.ref pb) (.tuple (((rs.drop 1).take 59).map encR)) from by have := cut_both rs 1 60 (by decide) (by omega); rw [← this]; exact db)
        have sc := same_new (o := .tup [V.ref pa, V.ref pb]) npt
        have dt : Dx (upd Gb pt (.tup [V.ref pa, V.ref pb])) (.ref pt) (.tuple ([rs.take 40, (rs.drop 1).take 59].map encP)) := .tup upd_same (.cons ((da.up sb).up sc) (.cons (db.up sc) .nil))
        generalize upd Gb pt (.tup [V.ref pa, V.ref pb]) = Gc at sc dt ⊢
        have po1 : PartsOk 2 [rs.take 40, (rs.drop 1).take 59] := rsp_parts (us := rs.take 60) sp w1 w4 (fun p hp => by
          rcases List.mem_cons.mp hp with h | h
          · rw [h]; exact ⟨List.take_sublist _ _, Nat.le_trans (List.length_take_le _ _) (by decide)⟩
          · rw [List.mem_singleton.mp h]; exact ⟨(List.take_sublist _ _).trans (List.drop_sublist _ _), Nat.le_trans (List.length_take_le _ _) (by decide)⟩) l60 (fun r hr => by
          simp only [List.flatten_cons, List.flatten_nil, List.append_nil, List.mem_append] at hr
          rcases hr with h | h
          · exact take_le_mem (by decide) h
          · exact mid_mem h)
        have ub1 : uniR [rs.take 40, (rs.drop 1).take 59].flatten = rs.take 60 := uni_back sp60 fun r => by
          simp only [List.flatten_cons, List.flatten_nil, List.append_nil, List.mem_append]
          exact ⟨fun h => h.elim (take_le_mem (by decide)) mid_mem, all_60⟩
        have s0c := (sa.trans sb).trans sc
        try unfold tNil
        refine ur_good po1 (by show 2 ≤ 1000; decide) (by simp only [List.flatten_cons, List.flatten_nil, List.append_nil, List.length_append, List.length_take, List.length_drop]; omega) dt fun Gd pd sd dd => ?_
        rw [ub1] at dd
        have s0d := s0c.trans sd
        refine ⟨.ref pm, rfl, 60, rfl, sl_same (hM.up s0d) fun Ge pe se de => ?_⟩
        have de := (show Dx Ge (.ref pe) (.tuple ((rs.take 60).map encR)) from by rw [← cut_to]; exact de)
        refine ⟨_, _, dp_tup (dd.up se), dp_tup de, plain_tup _, plain_tup _, Nat.le_trans (Nat.min_le_left _ _) (deep_tup _), _, rfl, ?_⟩
        rw [eqv_tup]
        refine iteF ⟨i4 (by decide), fun p0 n0 => ?_⟩
        have sf := same_new (o := .tup []) n0
        have df : Dx (upd Ge p0 (.tup [])) (.ref p0) (.tuple (([] : List (List Rec)).map encP)) := .tup upd_same .nil
        generalize upd Ge p0 (.tup []) = Gf at sf df ⊢
        have poN : ∀ pss : List (List Rec), (∀ p ∈ pss, p = []) → PartsOk 2 pss ∧ pss.flatten = [] := fun pss h => by
          have e : pss.flatten = [] := List.flatten_eq_nil_iff.mpr h
          refine ⟨⟨fun p hp => by rw [h p hp]; exact rsok_nil, fun p hp r hr => (by rw [h p hp] at hr; cases hr), ⟨[], by decide, fun r hr => (by rw [e] at hr; cases hr)⟩, ?_⟩, e⟩
          rw [e]
          intro a ha
          cases ha
        obtain ⟨po2, fe2⟩ := poN [] (fun p hp => by cases hp)
        try unfold tNil
        refine ur_good po2 (by decide) (by decide) df fun Gg pg sg dg => ?_
        rw [fe2, uni_nil] at dg
        obtain ⟨pg', yg, epg, eg, hyg⟩ := dx_tup' dg
        cases epg
        cases hyg
        refine ⟨i4 (by decide), fun ph nh => ⟨pg, ph, [], rfl, rfl, .inl (.inl (same_new nh _ _ eg)), .inl (.inl upd_same), _, rfl, iteF ?_⟩⟩
        have sgh := same_new (o := .tup []) nh
        have s0h := (((s0d.trans se).trans sf).trans sg).trans sgh
        have hM2 := hM.up s0h
        have m3 := tabs_same s0h m2
        generalize upd Gg ph (.tup []) = J0 at hM2 m3 ⊢
        clear s0h s0d s0c sa sb sc sd se sf sg sgh da db dt dd de df dg eg hM m2
        -- sixty single rows
        refine ⟨.ref pm, rfl, 60, rfl, sl_same hM2 fun Ga pa sa da => ?_⟩
        have da := (show Dx Ga (.ref pa) (.tuple ((rs.take 60).map encR)) from by rw [← cut_to]; exact da)
        obtain ⟨pa', xa, epa, ea, hxa⟩ := dx_tup' da
        cases epa
        refine ⟨pa, rfl, ⟨_, .inl (.inl ea)⟩, fun L nL => ?_⟩
        refine lc_datT encR (fun r : Rec => encP [r]) (fun _ => true) nL ea hxa (by omega) (fun i r x F er rr sF hdx Pt Pf k1 k2 gD => ?_) (fun F ys sF eL hy => ?_)
        · obtain ⟨zs, gD⟩ := gD
          refine ⟨rfl, x, rfl, i4 (by show 1 ≤ 4; decide), fun t nt => k1 _ _ rfl (same_new nt) ?_⟩
          have tL : t ≠ L := fun z => by rw [z, gD] at nt; cases nt
          have st := same_new (o := .tup [x]) nt
          exact .tup (xs := [x]) (by rw [hid_at tL, upd_same]) (.cons (dx_noL (st _ _ gD) _ _ (noL_rec r) (hdx.up st)) .nil)
        · rw [List.filter_eq_self.mpr (fun _ _ => rfl)] at hy
          have hy : Dxs F ys (((rs.take 60).map fun r => [r]).map encP) := by
            rw [List.map_map]
            exact hy.up (hid_same L F)
          refine ⟨L, ys, rfl, .inl ⟨.inl (.inl eL), fun pT nT => ?_⟩⟩
          have sT := same_new (o := .tup ys) nT
          have dT : Dx (upd F pT (.tup ys)) (.ref pT) (.tuple (((rs.take 60).map fun r => [r]).map encP)) := .tup upd_same (hy.up sT)
          generalize upd F pT (.tup ys) = Gb at sT dT ⊢
          have s0b := (sa.trans sF).trans sT
          refine ⟨.ref pm, rfl, 9, rfl, sl_same (hM2.up s0b) fun Gc pc sc dc => ⟨i4 (by show 1 ≤ 4; decide), fun pq nq => ?_⟩⟩
          have dc := (show Dx Gc (.ref pc) (.tuple ((rs.take 9).map encR)) from by rw [← cut_to]; exact dc)
          have sq := same_new (o := .tup [V.ref pc]) nq
          have dq : Dx (upd Gc pq (.tup [V.ref pc])) (.ref pq) (.tuple ([rs.take 9].map encP)) := .tup upd_same (.cons (dc.up sq) .nil)
          generalize upd Gc pq (.tup [V.ref pc]) = Gd at sq dq ⊢
          refine catS ((dT.up sc).up sq) dq (by rw [List.length_map, List.length_map, List.length_take]; show min 60 _ + 1 ≤ sizeLine; omega) fun Ge pe se de => ?_
          rw [← List.map_append] at de
          have po3 : PartsOk 2 (((rs.take 60).map fun r => [r]) ++ [rs.take 9]) := rsp_parts (us := rs.take 60) sp w1 w4 (fun p hp => by
            rcases List.mem_append.mp hp with h | h
            · obtain ⟨r, hr, rfl⟩ := List.mem_map.mp h
              exact ⟨one_sub (List.mem_of_mem_take hr), by show 1 ≤ 60; decide⟩
            · rw [List.mem_singleton.mp h]; exact ⟨List.take_sublist _ _, Nat.le_trans (List.length_take_le _ _) (by decide)⟩) l60 (fun r hr => by
            rw [List.flatten_append, flat_ones, List.flatten_singleton] at hr
            exact (List.mem_append.mp hr).elim id (take_le_mem (by decide)))
          have ub3 : uniR (((rs.take 60).map fun r => [r]) ++ [rs.take 9]).flatten = rs.take 60 := uni_back sp60 fun r => by
            rw [List.flatten_append, flat_ones, List.flatten_singleton, List.mem_append]
            exact ⟨fun h => h.elim id (take_le_mem (by decide)), .inl⟩
          try unfold tNil
          refine ur_good po3 (by rw [List.length_append, List.length_map, List.length_take]; show min 60 _ + 1 ≤ 1000; omega) (by rw [List.flatten_append, flat_ones, List.flatten_singleton, List.length_append, List.length_take, List.length_take]; omega) de fun Gf pf sf df => ?_
          rw [ub3] at df
          have s0f := (((s0b.trans sc).trans sq).trans se).trans sf
          refine ⟨.ref pm, rfl, 60, rfl, sl_same (hM2.up s0f) fun Gg pg sg dg => ?_⟩
          have dg := (show Dx Gg (.ref pg) (.tuple ((rs.take 60).map encR)) from by rw [← cut_to]; exact dg)
          refine ⟨_, _, dp_tup (df.up sg), dp_tup dg, plain_tup _, plain_tup _, Nat.le_trans (Nat.min_le_left _ _) (deep_tup _), _, rfl, ?_⟩
          rw [eqv_tup]
          have s0g := s0f.trans sg
          have hM3 := hM2.up s0g
          have m4 := tabs_same s0g m3
          clear s0g s0f s0b sa sF sT sc sq se sf sg da dT dc dq de df dg hM2 m3 ea hxa eL hy
          -- no rows; too many
          refine iteF ⟨i4 (by decide), fun p1 n1 => ⟨i4 (by decide), fun p2 n2 => ⟨i4 (by show 2 ≤ 4; decide), fun p3 n3 => ?_⟩⟩⟩
          have s1 := same_new (o := .tup []) n1
          have e1 : (upd Gg p1 (.tup [])) p1 = some (.tup []) := upd_same
          generalize upd Gg p1 (.tup []) = J1 at s1 e1 n2 n3 ⊢
          have s2 := same_new (o := .tup []) n2
          have e2 : (upd J1 p2 (.tup [])) p2 = some (.tup []) := upd_same
          generalize upd J1 p2 (.tup []) = J2 at s2 e2 n3 ⊢
          have s3 := same_new (o := .tup [V.ref p1, V.ref p2]) n3
          have d3 : Dx (upd J2 p3 (.tup [V.ref p1, V.ref p2])) (.ref p3) (.tuple (([[], []] : List (List Rec)).map encP)) := .tup upd_same (.cons (.tup (s3 _ _ (s2 _ _ e1)) .nil) (.cons (.tup (s3 _ _ e2) .nil) .nil))
          generalize upd J2 p3 (.tup [V.ref p1, V.ref p2]) = J3 at s3 d3 ⊢
          obtain ⟨po4, fe4⟩ := poN [[], []] (fun p hp => by simp at hp; exact hp)
          try unfold tNil
          refine ur_good po4 (by decide) (by decide) d3 fun J4 p4 s4 d4 => ?_
          rw [fe4, uni_nil] at d4
          obtain ⟨p4', y4, ep4, e4, hy4⟩ := dx_tup' d4
          cases ep4
          cases hy4
          refine ⟨i4 (by decide), fun p5 n5 => ⟨p4, p5, [], rfl, rfl, .inl (.inl (same_new n5 _ _ e4)), .inl (.inl upd_same), _, rfl, iteF ?_⟩⟩
          have s5 := same_new (o := .tup []) n5
          have s05 := (((s1.trans s2).trans s3).trans s4).trans s5
          have hM4 := hM3.up s05
          have m5 := tabs_same s05 m4
          generalize upd J4 p5 (.tup []) = J5 at hM4 m5 ⊢
          clear s05 s1 s2 s3 s4 s5 e1 e2 d3 d4 e4 hM3 m4
          have sm : ∀ pss : List (List Rec), (∀ p ∈ pss, ∀ r ∈ p, ROk 2 r) → pss.length ≤ 1000 → (∀ p ∈ pss, p.length ≤ 1000) → SmU (.tuple (pss.map encP)) := fun pss h1 h2 h3 => smu_parts h1 h2 h3
          have many : ∀ {E2 : XK} {Q2 : VK} {G : Hp} {v : V} {pss : List (List Rec)}, Dx G v (.tuple (pss.map encP)) → (∀ p ∈ pss, p.Sublist rs ∧ p.length ≤ 60) → pss.length ≤ 10 → (∀ r, r ∈ pss.flatten ↔ r ∈ rs) → (∀ H' dd, Same G H' → H' dd = some (.xd [("limit", .int 60)]) → E2 (.ref M) (some dd) H') → spUR R N M [v] G Q2 E2 := fun {E2 Q2 G v pss} hd hs hn hm he => by
            have hp : ∀ p ∈ pss, ∀ r ∈ p, ROk 2 r := fun p hp r hr => sp.ok r ((hs p hp).1.subset hr)
            have fl := flat_len (N := 60) fun p hp => (hs p hp).2
            refine ur_many (us := rs) hd (smu_parts hp (by omega) fun p hp => Nat.le_trans (hs p hp).2 (by decide)) (fun p hp => (sp.sub (hs p hp).1).rsok w1 w4 (hs p hp).2) (by omega) (oneW_wd fun r hr => rok_len (sp.ok r ((hm r).mp hr))) (cons_sub sp.dist fun r hr => (hm r).mp hr) (fun r hr => (hm r).mp hr) (by omega) ?_ he
            rw [uni_back sp hm]
            omega
          refine ⟨m5, fun Ka ea ta Ea Qa hEa _ => ⟨.ref pm, rfl, 40, rfl, sl_same (hM4.ext ea) fun Kb pb sb db => ⟨.ref pm, rfl, 21, rfl, (show ∀ {σ : L2.St} {H : Hp} {Q : Option Int → Hp → Prop}, Q none H → tNoPart σ H Q from fun h => h) (sl_same ((hM4.ext ea).up sb) fun Kc pc sc dc => ⟨i4 (by show 2 ≤ 4; decide), fun pt npt => ?_⟩)⟩⟩⟩
          have db := (show Dx Kb (.ref pb) (.tuple ((rs.take 40).map encR)) from by rw [← cut_to]; exact db)
          have dc := (show Dx Kc (.ref pc) (.tuple ((rs.drop 21).map encR)) from by rw [← cut_from]; exact dc)
          have st := same_new (o := .tup [V.ref pb, V.ref pc]) npt
          have dt : Dx (upd Kc pt (.tup [V.ref pb, V.ref pc])) (.ref pt) (.tuple ([rs.take 40, rs.drop 21].map encP)) := .tup upd_same (.cons ((db.up sc).up st) (.cons (dc.up st) .nil))
          generalize upd Kc pt (.tup [V.ref pb, V.ref pc]) = Kd at st dt ⊢
          try unfold tNil
          refine many dt (fun p hp => by
            rcases List.mem_cons.mp hp with h | h
            · rw [h]; exact ⟨List.take_sublist _ _, Nat.le_trans (List.length_take_le _ _) (by decide)⟩
            · rw [List.mem_singleton.mp h]; exact ⟨List.drop_sublist _ _, by rw [List.length_drop]; omega⟩) (by show 2 ≤ 10; decide) (fun r => by
            simp only [List.flatten_cons, List.flatten_nil, List.append_nil, List.mem_append]
            exact ⟨fun h => h.elim List.mem_of_mem_take List.mem_of_mem_drop, all_40⟩) fun Ke dd se ed => hEa _ _ _ (.inr (.inr ⟨rfl, dd, rfl, ed, rfl, _, rfl, iteNS rfl ?_⟩))
          have e0 : LamX.ExtN J5 Ke := ea.trans (ext_same (((sb.trans sc).trans st).trans se))
          have hM5 := hM4.ext e0
          have m6 := tabs_same (((sb.trans sc).trans st).trans se) ta
          clear e0 ea sb sc st se db dc dt hM4 m5 ta hEa ed
          have i30 : 30 < rs.length := by omega
          obtain ⟨pm', xs, epm, ex, hxs⟩ := dx_tup' hM5
          cases epm
          obtain ⟨v30, at0, hv30⟩ := hxs.get (i := 30) (d := encR rs[30]) (by rw [List.getElem?_map, List.getElem?_eq_getElem i30]; rfl)
          have mem30 : rs[30] ∈ rs := List.getElem_mem i30
          have ok30 := sp.ok _ mem30
          have e30 : rs.drop 30 = rs[30] :: rs.drop 31 := List.drop_eq_getElem_cons i30
          have in40 : rs[30] ∈ rs.take 40 := List.mem_take_iff_getElem.mpr ⟨30, by omega, rfl⟩
          generalize rs[30] = r at hv30 mem30 ok30 e30 in40
          obtain ⟨b, z, rfl, eb, ez⟩ := row_valsAt hv30
          have at30 : atI xs (30 : Int) = some (.ref b) := atI_nat (j := 30) at0
          have q1 : SqT K Ke pm xs := .inl (.inl ex)
          have q2 : SqT K Ke b [.str r.nm, .int r.cost, .ref z, .int r.exp] := .inl (.inl eb)
          refine ⟨.ref pm, rfl, pm, xs, 30, .ref b, rfl, rfl, q1, at30, b, _, 0, .str r.nm, rfl, rfl, q2, rfl, ?_⟩
          refine ⟨.ref pm, rfl, pm, xs, 30, .ref b, rfl, rfl, q1, at30, b, _, 1, .int r.cost, rfl, rfl, q2, rfl, r.cost, 9, rfl, rfl, by show (0 : Int) < _; decide, 10, 5, rfl, rfl, ⟨by decide, by decide +kernel⟩, _, _, rfl, rfl, ?_⟩
          refine ⟨.ref pm, rfl, pm, xs, 30, .ref b, rfl, rfl, q1, at30, b, _, 2, .ref z, rfl, rfl, q2, rfl, ?_⟩
          refine ⟨.ref pm, rfl, pm, xs, 30, .ref b, rfl, rfl, q1, at30, b, _, 3, .int r.exp, rfl, rfl, q2, rfl, r.exp, 5, rfl, rfl, by show (0 : Int) < _; decide, _, 7, rfl, rfl, i4 (by show 4 ≤ 4; decide), fun to nto => ?_⟩
          obtain ⟨oR, eoR, oN, oOk⟩ : ∃ oR : Rec, oR = ⟨r.nm, r.cost % 9 + 10 ^ (5 : Int).toNat, r.vals, r.exp % 5 + 7⟩ ∧ oR.nm = r.nm ∧ ROk 2 oR := by
            obtain ⟨n, hn, o⟩ := ok30
            refine ⟨_, rfl, rfl, n, hn, o.nm, ?_, ?_, o.len, o.vs, ?_, ?_⟩
            · show 1 ≤ r.cost % 9 + 100000; omega
            · show r.cost % 9 + 100000 ≤ 1000000; omega
            · show 1 ≤ r.exp % 5 + 7; omega
            · show r.exp % 5 + 7 ≤ 1000000000; omega
          have so := same_new (o := .tup [V.str r.nm, V.int (r.cost % 9 + 10 ^ (5 : Int).toNat), V.ref z, V.int (r.exp % 5 + 7)]) nto
          have dO : Dx (upd Ke to (.tup [V.str r.nm, V.int (r.cost % 9 + 10 ^ (5 : Int).toNat), V.ref z, V.int (r.exp % 5 + 7)])) (.ref to) (encR oR) := by
            rw [eoR]
            exact .tup upd_same (.cons (.str _) (.cons (.int _) (.cons (.tup (so _ _ ez) (dxs_ints _)) (.cons (.int _) .nil))))
          generalize upd Ke to (.tup [V.str r.nm, V.int (r.cost % 9 + 10 ^ (5 : Int).toNat), V.ref z, V.int (r.exp % 5 + 7)]) = L0 at so dO ⊢
          have hM6 := hM5.up so
          -- late
          refine ⟨.ref pm, rfl, 21, rfl, 30, rfl, sl_same hM6 fun La pa sa da => ⟨.ref to, rfl, i4 (by show 1 ≤ 4; decide), fun tq ntq => ?_⟩⟩
          have da := (show Dx La (.ref pa) (.tuple (((rs.drop 21).take 9).map encR)) from by have := cut_both rs 21 30 (by decide) (by omega); rw [← this]; exact da)
          have sq := same_new (o := .tup [V.ref to]) ntq
          have dq : Dx (upd La tq (.tup [V.ref to])) (.ref tq) (.tuple ([oR].map encR)) := .tup upd_same (.cons ((dO.up sa).up sq) .nil)
          generalize upd La tq (.tup [V.ref to]) = Lb at sq dq ⊢
          refine catS (da.up sq) dq (by rw [List.length_map, List.length_map, List.length_take]; show min 9 _ + 1 ≤ sizeLine; omega) fun Lc pc sc dc => ?_
          rw [← List.map_append] at dc
          refine ⟨.ref pm, rfl, 31, rfl, (show ∀ {σ : L2.St} {H : Hp} {Q : Option Int → Hp → Prop}, Q none H → tNoPart σ H Q from fun h => h) (sl_same (((hM6.up sa).up sq).up sc) fun Ld pd sd dd => ?_)⟩
          have dd := (show Dx Ld (.ref pd) (.tuple ((rs.drop 31).map encR)) from by rw [← cut_from]; exact dd)
          refine catS (dc.up sd) dd (by rw [List.length_map, List.length_map, List.length_append, List.length_take, List.length_drop, List.length_drop]; show min 9 _ + 1 + _ ≤ sizeLine; omega) fun Le pl sl dl => ?_
          rw [← List.map_append] at dl
          have s0e := (((sa.trans sq).trans sc).trans sd).trans sl
          have hM7 := hM6.up s0e
          have dO7 := dO.up s0e
          have m7 := tabs_same (so.trans s0e) m6
          have q1' : SqT K Le pm xs := .inl (.inl (s0e _ _ (so _ _ ex)))
          have q2' : SqT K Le b [.str r.nm, .int r.cost, .ref z, .int r.exp] := .inl (.inl (s0e _ _ (so _ _ eb)))
          have hr7 : Dx Le (.ref b) (encR r) := (hv30.up so).up s0e
          have d21 : rs.drop 21 = (rs.drop 21).take 9 ++ [r] ++ rs.drop 31 := by
            have h := List.take_append_drop 9 (rs.drop 21)
            rw [List.drop_drop, e30] at h
            rw [List.append_assoc]
            exact h.symm
          generalize hlR : (rs.drop 21).take 9 ++ [oR] ++ rs.drop 31 = lR at dl
          have nmL : lR.map (fun r : Rec => r.nm) = (rs.drop 21).map fun r : Rec => r.nm := by
            rw [d21, ← hlR]
            simp [oN]
          have spD := sp.sub (List.drop_sublist 21 rs)
          have spL : RsP 2 lR := ⟨by rw [nmL]; exact spD.pw, by rw [nmL]; exact spD.nd, fun x hx => by
            rw [← hlR] at hx
            rcases List.mem_append.mp hx with h | h
            · rcases List.mem_append.mp h with h | h
              · exact sp.ok x (List.mem_of_mem_drop (List.mem_of_mem_take h))
              · rw [List.mem_singleton.mp h]; exact oOk
            · exact sp.ok x (List.mem_of_mem_drop h)⟩
          have lL : lR.length = 40 := by
            have := congrArg List.length nmL
            rw [List.length_map, List.length_map, List.length_drop] at this
            omega
          obtain ⟨m8, m9⟩ := name_fine ok30 w4
          -- due
          refine ⟨.ref to, rfl, .ref pm, rfl, pm, xs, 30, .ref b, rfl, rfl, q1', at30, encR oR, encR r, dp_dx _ _ (plain_rec oR) dO7, dp_dx _ _ (plain_rec r) hr7, plain_rec oR, plain_rec r, Nat.le_trans (Nat.min_le_left _ _) (Nat.le_trans (depth_rec oR) (by decide)), _, rfl, ?_⟩
          rw [eqv_recs]
          cases eq : decide (oR = r) with
          | true =>
            have eq := of_decide_eq_true eq
            have lE : lR = rs.drop 21 := by rw [← hlR, eq]; exact d21.symm
            refine iteT ⟨m7, fun Ka ea ta Ea Qa hEa _ => ⟨.ref pm, rfl, 40, rfl, sl_same (hM7.ext ea) fun Kb pb sb db => ⟨.ref pl, rfl, i4 (by show 2 ≤ 4; decide), fun pt npt => ?_⟩⟩⟩
            have db := (show Dx Kb (.ref pb) (.tuple ((rs.take 40).map encR)) from by rw [← cut_to]; exact db)
            have st := same_new (o := .tup [V.ref pb, V.ref pl]) npt
            have dt : Dx (upd Kb pt (.tup [V.ref pb, V.ref pl])) (.ref pt) (.tuple ([rs.take 40, lR].map encP)) := .tup upd_same (.cons (db.up st) (.cons (((dl.ext ea).up sb).up st) .nil))
            generalize upd Kb pt (.tup [V.ref pb, V.ref pl]) = Kd at st dt ⊢
            rw [lE] at dt
            try unfold tNil
            refine many dt (fun p hp => by
              rcases List.mem_cons.mp hp with h | h
              · rw [h]; exact ⟨List.take_sublist _ _, Nat.le_trans (List.length_take_le _ _) (by decide)⟩
              · rw [List.mem_singleton.mp h]; exact ⟨List.drop_sublist _ _, by rw [List.length_drop]; omega⟩) (by show 2 ≤ 10; decide) (fun r => by
              simp only [List.flatten_cons, List.flatten_nil, List.append_nil, List.mem_append]
              exact ⟨fun h => h.elim List.mem_of_mem_take List.mem_of_mem_drop, all_40⟩) fun Ke dd se ed => hEa _ _ _ (.inr (.inr ⟨rfl, dd, rfl, ed, .str "limit 60", rfl, rfl, ?_⟩))
            rw [decide_eq_true rfl]
            exact q _
          | false =>
            have ne := of_decide_eq_false eq
            refine iteF ⟨.ref pm, rfl, pm, xs, 30, .ref b, rfl, rfl, q1', at30, b, _, 0, .str r.nm, rfl, rfl, q2', rfl, .str r.nm, .str r.nm, rfl, .str _, rfl, by simp [PyData.depth], by have : (9000 : Nat) ≤ sizeLine := (by decide); omega, "conflict ", (PyData.str r.nm).shown, rfl, rfl, by have : ("conflict " : Str).length = 9 := (by decide); have : (10000 : Nat) ≤ sizeLine := (by decide); omega, ?_⟩
            refine ⟨m7, fun Ka ea ta Ea Qa hEa _ => ⟨.ref pm, rfl, 40, rfl, sl_same (hM7.ext ea) fun Kb pb sb db => ⟨.ref pl, rfl, i4 (by show 2 ≤ 4; decide), fun pt npt => ?_⟩⟩⟩
            have db := (show Dx Kb (.ref pb) (.tuple ((rs.take 40).map encR)) from by rw [← cut_to]; exact db)
            have st := same_new (o := .tup [V.ref pb, V.ref pl]) npt
            have dt : Dx (upd Kb pt (.tup [V.ref pb, V.ref pl])) (.ref pt) (.tuple ([rs.take 40, lR].map encP)) := .tup upd_same (.cons (db.up st) (.cons (((dl.ext ea).up sb).up st) .nil))
            generalize upd Kb pt (.tup [V.ref pb, V.ref pl]) = Kd at st dt ⊢
            have sp40 := sp.sub (List.take_sublist 40 rs)
            have rk : ∀ p ∈ [rs.take 40, lR], RsP 2 p ∧ p.length ≤ 40 := fun p hp => by
              rcases List.mem_cons.mp hp with h | h
              · rw [h]; exact ⟨sp40, List.length_take_le _ _⟩
              · rw [List.mem_singleton.mp h]; exact ⟨spL, by omega⟩
            have fm : ∀ x, x ∈ [rs.take 40, lR].flatten ↔ x ∈ rs.take 40 ∨ x ∈ lR := fun x => by simp
            have inL : oR ∈ lR := by rw [← hlR]; simp
            have lst : leastN ((confl [rs.take 40, lR].flatten).map (·.nm)) r.nm := by
              refine ⟨confl_iff.mpr ⟨r, (fm r).mpr (.inl in40), oR, (fm oR).mpr (.inr inL), rfl, oN, fun e => ne e.symm⟩, fun n hn => ?_⟩
              obtain ⟨x, hx, y, hy, ex, ey, nxy⟩ := confl_iff.mp hn
              have old : ∀ w, w ∈ [rs.take 40, lR].flatten → w = oR ∨ w ∈ rs := fun w hw => by
                rcases (fm w).mp hw with h | h
                · exact .inr (List.mem_of_mem_take h)
                · rw [← hlR] at h
                  rcases List.mem_append.mp h with h | h
                  · rcases List.mem_append.mp h with h | h
                    · exact .inr (List.mem_of_mem_drop (List.mem_of_mem_take h))
                    · exact .inl (List.mem_singleton.mp h)
                  · exact .inr (List.mem_of_mem_drop h)
              have en : n = r.nm := by
                rcases old x hx with h | h
                · rw [← ex, h, oN]
                · rcases old y hy with h2 | h2
                  · rw [← ey, h2, oN]
                  · exact absurd (sp.dist x h y h2 (ex.trans ey.symm)) nxy
              rw [en]
              exact le_refl _
            have fl : [rs.take 40, lR].flatten.length ≤ 80 := by
              simp only [List.flatten_cons, List.flatten_nil, List.append_nil, List.length_append, List.length_take]
              omega
            try unfold tNil
            refine ur_conf dt (smu_parts (fun p hp x hx => (rk p hp).1.ok x hx) (by show 2 ≤ 1000; decide) fun p hp => Nat.le_trans (rk p hp).2 (by decide)) (fun p hp => (rk p hp).1.rsok w1 w4 (Nat.le_trans (rk p hp).2 (by decide))) (by omega) (oneW_wd (wd := 2) fun x hx => ?_) lst fun Ke dd se ed => hEa _ _ _ (.inr (.inl ⟨rfl, dd, r.nm, rfl, ed, m8, m9, .str (confT r.nm), rfl, rfl, ?_⟩))
            · rcases (fm x).mp hx with h | h
              · exact rok_len (sp40.ok x h)
              · exact rok_len (spL.ok x h)
            · rw [decide_eq_true rfl]
              exact q _
end

end U1

set_option maxRecDepth 100000
set_option maxHeartbeats 8000000
namespace U1
open PySem PySem.Spec PyProof.Rows L2 KX
/-! ### what the top has written -/
theorem df_mk {K : PySem.W.Frag} {h : Heap} {mg : Str → Option Value} {x : String} {st : Stmt} {ps : List Str} {f : Addr} {oc : Value} {od an : Option Addr} {sl : Array (Option Value)} {kV doc pm cd ct : Value} (X : K.In h) (G : h.Ns mainGlobals mg)
    (a : PySem.W.nsIn K mainGlobals x = some (some (.ref f))) (l : K.lookup f = some ⟨oc, od, .func (PySem.W.fnOf x x (defArgs st) (defBody st) (defScope st) .none kV doc pm an cd ct), sl⟩) (c : PySem.W.codeIn K cd x = true)
    (k : PySem.W.keepIn K (.ref f) = true) (hb : ∀ (kV doc pm : Value) (an : Option Addr) (cdv ct : Value) (us : List Value), us.length = ps.length → bindArgs (PySem.W.fnOf x x (defArgs st) (defBody st) (defScope st) .none kV doc pm an cdv ct) ⟨us, []⟩ = pure (ps.zip us)) :
    Df K mg x st ps f (PySem.W.fnOf x x (defArgs st) (defBody st) (defScope st) .none kV doc pm an cd ct) :=
  ⟨fun_mk l c k, (fun_mk l c k).binds hb, PySem.W.mg_of X G a⟩
theorem all_mk {l : PySem.W.OpenLaw} {w : World} {K : PySem.W.Frag} {h : Heap} {mg : Str → Option Value} {fa : Addr} {S R N fN M fM : Addr} {ocN ocM : Value} {odN anN odM anM : Option Addr} {slN slM : Array (Option Value)} {kVN docN pmN cdN ctN kVM docM pmM cdM ctM : Value} {PL0 : Addr} {eL0 : Value} {ddL0 : Option Addr} {vsL0 : Array Value} {slL0 : Array (Option Value)} {PL1 : Addr} {eL1 : Value} {ddL1 : Option Addr} {vsL1 : Array Value} {slL1 : Array (Option Value)} (X : K.In h) (G : h.Ns mainGlobals mg) (hfa : mg "law" = some (.ref fa))
    {f0 : Addr} {oc0 : Value} {od0 an0 : Option Addr} {sl0 : Array (Option Value)} {kV0 doc0 pm0 cd0 ct0 : Value} (a0 : PySem.W.nsIn K mainGlobals "is_between" = some (some (.ref f0))) (l0 : K.lookup f0 = some ⟨oc0, od0, .func (PySem.W.fnOf "is_between" "is_between" (defArgs sBetween) (defBody sBetween) (defScope sBetween) .none kV0 doc0 pm0 an0 cd0 ct0), sl0⟩) (c0 : PySem.W.codeIn K cd0 "is_between" = true) (k0 : PySem.W.keepIn K (.ref f0) = true)
    {f1 : Addr} {oc1 : Value} {od1 an1 : Option Addr} {sl1 : Array (Option Value)} {kV1 doc1 pm1 cd1 ct1 : Value} (a1 : PySem.W.nsIn K mainGlobals "is_tuple_between" = some (some (.ref f1))) (l1 : K.lookup f1 = some ⟨oc1, od1, .func (PySem.W.fnOf "is_tuple_between" "is_tuple_between" (defArgs sTupB) (defBody sTupB) (defScope sTupB) .none kV1 doc1 pm1 an1 cd1 ct1), sl1⟩) (c1 : PySem.W.codeIn K cd1 "is_tuple_between" = true) (k1 : PySem.W.keepIn K (.ref f1) = true)
    {f2 : Addr} {oc2 : Value} {od2 an2 : Option Addr} {sl2 : Array (Option Value)} {kV2 doc2 pm2 cd2 ct2 : Value} (a2 : PySem.W.nsIn K mainGlobals "is_ascending" = some (some (.ref f2))) (l2 : K.lookup f2 = some ⟨oc2, od2, .func (PySem.W.fnOf "is_ascending" "is_ascending" (defArgs sAsc) (defBody sAsc) (defScope sAsc) .none kV2 doc2 pm2 an2 cd2 ct2), sl2⟩) (c2 : PySem.W.codeIn K cd2 "is_ascending" = true) (k2 : PySem.W.keepIn K (.ref f2) = true)
    {f3 : Addr} {oc3 : Value} {od3 an3 : Option Addr} {sl3 : Array (Option Value)} {kV3 doc3 pm3 cd3 ct3 : Value} (a3 : PySem.W.nsIn K mainGlobals "is_name" = some (some (.ref f3))) (l3 : K.lookup f3 = some ⟨oc3, od3, .func (PySem.W.fnOf "is_name" "is_name" (defArgs sName) (defBody sName) (defScope sName) .none kV3 doc3 pm3 an3 cd3 ct3), sl3⟩) (c3 : PySem.W.codeIn K cd3 "is_name" = true) (k3 : PySem.W.keepIn K (.ref f3) = true)
    {f4 : Addr} {oc4 : Value} {od4 an4 : Option Addr} {sl4 : Array (Option Value)} {kV4 doc4 pm4 cd4 ct4 : Value} (a4 : PySem.W.nsIn K mainGlobals "is_row" = some (some (.ref f4))) (l4 : K.lookup f4 = some ⟨oc4, od4, .func (PySem.W.fnOf "is_row" "is_row" (defArgs sRow) (defBody sRow) (defScope sRow) .none kV4 doc4 pm4 an4 cd4 ct4), sl4⟩) (c4 : PySem.W.codeIn K cd4 "is_row" = true) (k4 : PySem.W.keepIn K (.ref f4) = true)
    {f5 : Addr} {oc5 : Value} {od5 an5 : Option Addr} {sl5 : Array (Option Value)} {kV5 doc5 pm5 cd5 ct5 : Value} (a5 : PySem.W.nsIn K mainGlobals "are_row_values" = some (some (.ref f5))) (l5 : K.lookup f5 = some ⟨oc5, od5, .func (PySem.W.fnOf "are_row_values" "are_row_values" (defArgs sVals) (defBody sVals) (defScope sVals) .none kV5 doc5 pm5 an5 cd5 ct5), sl5⟩) (c5 : PySem.W.codeIn K cd5 "are_row_values" = true) (k5 : PySem.W.keepIn K (.ref f5) = true)
    {f6 : Addr} {oc6 : Value} {od6 an6 : Option Addr} {sl6 : Array (Option Value)} {kV6 doc6 pm6 cd6 ct6 : Value} (a6 : PySem.W.nsIn K mainGlobals "are_rows_of_one_width" = some (some (.ref f6))) (l6 : K.lookup f6 = some ⟨oc6, od6, .func (PySem.W.fnOf "are_rows_of_one_width" "are_rows_of_one_width" (defArgs sOW) (defBody sOW) (defScope sOW) .none kV6 doc6 pm6 an6 cd6 ct6), sl6⟩) (c6 : PySem.W.codeIn K cd6 "are_rows_of_one_width" = true) (k6 : PySem.W.keepIn K (.ref f6) = true)
    {f7 : Addr} {oc7 : Value} {od7 an7 : Option Addr} {sl7 : Array (Option Value)} {kV7 doc7 pm7 cd7 ct7 : Value} (a7 : PySem.W.nsIn K mainGlobals "have_one_width" = some (some (.ref f7))) (l7 : K.lookup f7 = some ⟨oc7, od7, .func (PySem.W.fnOf "have_one_width" "have_one_width" (defArgs sHW) (defBody sHW) (defScope sHW) .none kV7 doc7 pm7 an7 cd7 ct7), sl7⟩) (c7 : PySem.W.codeIn K cd7 "have_one_width" = true) (k7 : PySem.W.keepIn K (.ref f7) = true)
    {f8 : Addr} {oc8 : Value} {od8 an8 : Option Addr} {sl8 : Array (Option Value)} {kV8 doc8 pm8 cd8 ct8 : Value} (a8 : PySem.W.nsIn K mainGlobals "is_rowset" = some (some (.ref f8))) (l8 : K.lookup f8 = some ⟨oc8, od8, .func (PySem.W.fnOf "is_rowset" "is_rowset" (defArgs sIR) (defBody sIR) (defScope sIR) .none kV8 doc8 pm8 an8 cd8 ct8), sl8⟩) (c8 : PySem.W.codeIn K cd8 "is_rowset" = true) (k8 : PySem.W.keepIn K (.ref f8) = true)
    {f9 : Addr} {oc9 : Value} {od9 an9 : Option Addr} {sl9 : Array (Option Value)} {kV9 doc9 pm9 cd9 ct9 : Value} (a9 : PySem.W.nsIn K mainGlobals "names_of" = some (some (.ref f9))) (l9 : K.lookup f9 = some ⟨oc9, od9, .func (PySem.W.fnOf "names_of" "names_of" (defArgs sNO) (defBody sNO) (defScope sNO) .none kV9 doc9 pm9 an9 cd9 ct9), sl9⟩) (c9 : PySem.W.codeIn K cd9 "names_of" = true) (k9 : PySem.W.keepIn K (.ref f9) = true)
    {f10 : Addr} {oc10 : Value} {od10 an10 : Option Addr} {sl10 : Array (Option Value)} {kV10 doc10 pm10 cd10 ct10 : Value} (a10 : PySem.W.nsIn K mainGlobals "union_rowsets" = some (some (.ref f10))) (l10 : K.lookup f10 = some ⟨oc10, od10, .func (PySem.W.fnOf "union_rowsets" "union_rowsets" (defArgs sUR) (defBody sUR) (defScope sUR) .none kV10 doc10 pm10 an10 cd10 ct10), sl10⟩) (c10 : PySem.W.codeIn K cd10 "union_rowsets" = true) (k10 : PySem.W.keepIn K (.ref f10) = true)
    {f11 : Addr} {oc11 : Value} {od11 an11 : Option Addr} {sl11 : Array (Option Value)} {kV11 doc11 pm11 cd11 ct11 : Value} (a11 : PySem.W.nsIn K mainGlobals "different_rows" = some (some (.ref f11))) (l11 : K.lookup f11 = some ⟨oc11, od11, .func (PySem.W.fnOf "different_rows" "different_rows" (defArgs sDR) (defBody sDR) (defScope sDR) .none kV11 doc11 pm11 an11 cd11 ct11), sl11⟩) (c11 : PySem.W.codeIn K cd11 "different_rows" = true) (k11 : PySem.W.keepIn K (.ref f11) = true)
    {f12 : Addr} {oc12 : Value} {od12 an12 : Option Addr} {sl12 : Array (Option Value)} {kV12 doc12 pm12 cd12 ct12 : Value} (a12 : PySem.W.nsIn K mainGlobals "conflicting_names" = some (some (.ref f12))) (l12 : K.lookup f12 = some ⟨oc12, od12, .func (PySem.W.fnOf "conflicting_names" "conflicting_names" (defArgs sCN) (defBody sCN) (defScope sCN) .none kV12 doc12 pm12 an12 cd12 ct12), sl12⟩) (c12 : PySem.W.codeIn K cd12 "conflicting_names" = true) (k12 : PySem.W.keepIn K (.ref f12) = true)
    {f13 : Addr} {oc13 : Value} {od13 an13 : Option Addr} {sl13 : Array (Option Value)} {kV13 doc13 pm13 cd13 ct13 : Value} (a13 : PySem.W.nsIn K mainGlobals "check_conflicts" = some (some (.ref f13))) (l13 : K.lookup f13 = some ⟨oc13, od13, .func (PySem.W.fnOf "check_conflicts" "check_conflicts" (defArgs sCC) (defBody sCC) (defScope sCC) .none kV13 doc13 pm13 an13 cd13 ct13), sl13⟩) (c13 : PySem.W.codeIn K cd13 "check_conflicts" = true) (k13 : PySem.W.keepIn K (.ref f13) = true)
    {f14 : Addr} {oc14 : Value} {od14 an14 : Option Addr} {sl14 : Array (Option Value)} {kV14 doc14 pm14 cd14 ct14 : Value} (a14 : PySem.W.nsIn K mainGlobals "_law_stream" = some (some (.ref f14))) (l14 : K.lookup f14 = some ⟨oc14, od14, .func (PySem.W.fnOf "_law_stream" "_law_stream" (defArgs sStream) (defBody sStream) (defScope sStream) .none kV14 doc14 pm14 an14 cd14 ct14), sl14⟩) (c14 : PySem.W.codeIn K cd14 "_law_stream" = true) (k14 : PySem.W.keepIn K (.ref f14) = true)
    {f15 : Addr} {oc15 : Value} {od15 an15 : Option Addr} {sl15 : Array (Option Value)} {kV15 doc15 pm15 cd15 ct15 : Value} (a15 : PySem.W.nsIn K mainGlobals "_law_draw" = some (some (.ref f15))) (l15 : K.lookup f15 = some ⟨oc15, od15, .func (PySem.W.fnOf "_law_draw" "_law_draw" (defArgs sDraw) (defBody sDraw) (defScope sDraw) .none kV15 doc15 pm15 an15 cd15 ct15), sl15⟩) (c15 : PySem.W.codeIn K cd15 "_law_draw" = true) (k15 : PySem.W.keepIn K (.ref f15) = true)
    {f16 : Addr} {oc16 : Value} {od16 an16 : Option Addr} {sl16 : Array (Option Value)} {kV16 doc16 pm16 cd16 ct16 : Value} (a16 : PySem.W.nsIn K mainGlobals "_law_name" = some (some (.ref f16))) (l16 : K.lookup f16 = some ⟨oc16, od16, .func (PySem.W.fnOf "_law_name" "_law_name" (defArgs sNm) (defBody sNm) (defScope sNm) .none kV16 doc16 pm16 an16 cd16 ct16), sl16⟩) (c16 : PySem.W.codeIn K cd16 "_law_name" = true) (k16 : PySem.W.keepIn K (.ref f16) = true)
    {f17 : Addr} {oc17 : Value} {od17 an17 : Option Addr} {sl17 : Array (Option Value)} {kV17 doc17 pm17 cd17 ct17 : Value} (a17 : PySem.W.nsIn K mainGlobals "_law_rowset" = some (some (.ref f17))) (l17 : K.lookup f17 = some ⟨oc17, od17, .func (PySem.W.fnOf "_law_rowset" "_law_rowset" (defArgs sRs) (defBody sRs) (defScope sRs) .none kV17 doc17 pm17 an17 cd17 ct17), sl17⟩) (c17 : PySem.W.codeIn K cd17 "_law_rowset" = true) (k17 : PySem.W.keepIn K (.ref f17) = true)
    {f18 : Addr} {oc18 : Value} {od18 an18 : Option Addr} {sl18 : Array (Option Value)} {kV18 doc18 pm18 cd18 ct18 : Value} (a18 : PySem.W.nsIn K mainGlobals "_law_outcome" = some (some (.ref f18))) (l18 : K.lookup f18 = some ⟨oc18, od18, .func (PySem.W.fnOf "_law_outcome" "_law_outcome" (defArgs sOut) (defBody sOut) (defScope sOut) .none kV18 doc18 pm18 an18 cd18 ct18), sl18⟩) (c18 : PySem.W.codeIn K cd18 "_law_outcome" = true) (k18 : PySem.W.keepIn K (.ref f18) = true)
    {f19 : Addr} {oc19 : Value} {od19 an19 : Option Addr} {sl19 : Array (Option Value)} {kV19 doc19 pm19 cd19 ct19 : Value} (a19 : PySem.W.nsIn K mainGlobals "_law_split" = some (some (.ref f19))) (l19 : K.lookup f19 = some ⟨oc19, od19, .func (PySem.W.fnOf "_law_split" "_law_split" (defArgs sSp) (defBody sSp) (defScope sSp) .none kV19 doc19 pm19 an19 cd19 ct19), sl19⟩) (c19 : PySem.W.codeIn K cd19 "_law_split" = true) (k19 : PySem.W.keepIn K (.ref f19) = true)
    {f20 : Addr} {oc20 : Value} {od20 an20 : Option Addr} {sl20 : Array (Option Value)} {kV20 doc20 pm20 cd20 ct20 : Value} (a20 : PySem.W.nsIn K mainGlobals "_law_other_row" = some (some (.ref f20))) (l20 : K.lookup f20 = some ⟨oc20, od20, .func (PySem.W.fnOf "_law_other_row" "_law_other_row" (defArgs sOr) (defBody sOr) (defScope sOr) .none kV20 doc20 pm20 an20 cd20 ct20), sl20⟩) (c20 : PySem.W.codeIn K cd20 "_law_other_row" = true) (k20 : PySem.W.keepIn K (.ref f20) = true)
    {f21 : Addr} {oc21 : Value} {od21 an21 : Option Addr} {sl21 : Array (Option Value)} {kV21 doc21 pm21 cd21 ct21 : Value} (a21 : PySem.W.nsIn K mainGlobals "_law_with_conflicts" = some (some (.ref f21))) (l21 : K.lookup f21 = some ⟨oc21, od21, .func (PySem.W.fnOf "_law_with_conflicts" "_law_with_conflicts" (defArgs sWc) (defBody sWc) (defScope sWc) .none kV21 doc21 pm21 an21 cd21 ct21), sl21⟩) (c21 : PySem.W.codeIn K cd21 "_law_with_conflicts" = true) (k21 : PySem.W.keepIn K (.ref f21) = true)
    {f22 : Addr} {oc22 : Value} {od22 an22 : Option Addr} {sl22 : Array (Option Value)} {kV22 doc22 pm22 cd22 ct22 : Value} (a22 : PySem.W.nsIn K mainGlobals "_law_all_rows" = some (some (.ref f22))) (l22 : K.lookup f22 = some ⟨oc22, od22, .func (PySem.W.fnOf "_law_all_rows" "_law_all_rows" (defArgs sAll) (defBody sAll) (defScope sAll) .none kV22 doc22 pm22 an22 cd22 ct22), sl22⟩) (c22 : PySem.W.codeIn K cd22 "_law_all_rows" = true) (k22 : PySem.W.keepIn K (.ref f22) = true)
    {f23 : Addr} {oc23 : Value} {od23 an23 : Option Addr} {sl23 : Array (Option Value)} {kV23 doc23 pm23 cd23 ct23 : Value} (a23 : PySem.W.nsIn K mainGlobals "_law_right" = some (some (.ref f23))) (l23 : K.lookup f23 = some ⟨oc23, od23, .func (PySem.W.fnOf "_law_right" "_law_right" (defArgs sRt) (defBody sRt) (defScope sRt) .none kV23 doc23 pm23 an23 cd23 ct23), sl23⟩) (c23 : PySem.W.codeIn K cd23 "_law_right" = true) (k23 : PySem.W.keepIn K (.ref f23) = true)
    {f24 : Addr} {oc24 : Value} {od24 an24 : Option Addr} {sl24 : Array (Option Value)} {kV24 doc24 pm24 ct24 : Value} {cL0 : Addr} (a24 : PySem.W.nsIn K mainGlobals "_law_errors_right" = some (some (.ref f24))) (l24 : K.lookup f24 = some ⟨oc24, od24, .func (PySem.W.fnOf "_law_errors_right" "_law_errors_right" (defArgs sEr) (defBody sEr) (defScope sEr) .none kV24 doc24 pm24 an24 (.ref cL0) ct24), sl24⟩) (c24 : PySem.W.codeIn K (.ref cL0) "_law_errors_right" = true) (k24 : PySem.W.keepIn K (.ref f24) = true)
    {f25 : Addr} {oc25 : Value} {od25 an25 : Option Addr} {sl25 : Array (Option Value)} {kV25 doc25 pm25 ct25 : Value} {cL1 : Addr} (a25 : PySem.W.nsIn K mainGlobals "law" = some (some (.ref f25))) (l25 : K.lookup f25 = some ⟨oc25, od25, .func (PySem.W.fnOf "law" "law" (defArgs sLaw) (defBody sLaw) (defScope sLaw) .none kV25 doc25 pm25 an25 (.ref cL1) ct25), sl25⟩) (c25 : PySem.W.codeIn K (.ref cL1) "law" = true) (k25 : PySem.W.keepIn K (.ref f25) = true)
    (b0 : PySem.W.nsIn K mainGlobals "isinstance" = some none)
    (b1 : PySem.W.nsIn K mainGlobals "bool" = some none)
    (b2 : PySem.W.nsIn K mainGlobals "int" = some none)
    (b3 : PySem.W.nsIn K mainGlobals "str" = some none)
    (b4 : PySem.W.nsIn K mainGlobals "tuple" = some none)
    (b5 : PySem.W.nsIn K mainGlobals "list" = some none)
    (b6 : PySem.W.nsIn K mainGlobals "len" = some none)
    (b7 : PySem.W.nsIn K mainGlobals "all" = some none)
    (b8 : PySem.W.nsIn K mainGlobals "range" = some none)
    (b9 : PySem.W.nsIn K mainGlobals "max" = some none)
    (b10 : PySem.W.nsIn K mainGlobals "min" = some none)
    (b11 : PySem.W.nsIn K mainGlobals "abs" = some none)
    (b12 : PySem.W.nsIn K mainGlobals "repr" = some none)
    (b13 : PySem.W.nsIn K mainGlobals "sorted" = some none)
    (b14 : PySem.W.nsIn K mainGlobals "IndexError" = some none)
    (b15 : PySem.W.nsIn K mainGlobals "ValueError" = some none)
    (b16 : PySem.W.nsIn K mainGlobals "zip" = some none)
    (b17 : PySem.W.nsIn K mainGlobals "KeyError" = some none)
    (b18 : PySem.W.nsIn K mainGlobals "sum" = some none)
    {t0 : Tok} (v0 : PySem.W.nsIn K mainGlobals "MAX_WIDTH" = some (some (.int 4 t0)))
    {t1 : Tok} (v1 : PySem.W.nsIn K mainGlobals "MAX_COST" = some (some (.int 1000000 t1)))
    {t2 : Tok} (v2 : PySem.W.nsIn K mainGlobals "MAX_VALUE" = some (some (.int 1000000000 t2)))
    {t3 : Tok} (v3 : PySem.W.nsIn K mainGlobals "MAX_EXPIRY" = some (some (.int 1000000000 t3)))
    {t4 : Tok} (v4 : PySem.W.nsIn K mainGlobals "MAX_LETTERS" = some (some (.int 8 t4)))
    {t5 : Tok} (v5 : PySem.W.nsIn K mainGlobals "LETTERS" = some (some (.str "abcdefghijklmnopqrstuvwxyz" t5)))
    {t6 : Tok} (v6 : PySem.W.nsIn K mainGlobals "VALUES" = some (some (.int 2 t6)))
    {t7 : Tok} (v7 : PySem.W.nsIn K mainGlobals "NAME" = some (some (.int 0 t7)))
    {t8 : Tok} (v8 : PySem.W.nsIn K mainGlobals "MAX_ROWS" = some (some (.int 60 t8)))
    (aS : PySem.W.nsIn K mainGlobals "SparesError" = some (some (.ref S)))
    (s1 : PySem.W.subIn K (.ref S) (.type "BaseException") = some true)
    (s2 : PySem.W.hasDictIn K S = true)
    (s3 : PySem.W.typeIn K (.ref S) = some (.type "type"))
    (aR : PySem.W.nsIn K mainGlobals "InvalidRowset" = some (some (.ref R)))
    (q1 : PySem.W.excIn K R [.type "ValueError", .type "Exception", .type "BaseException", .type "object"] "ValueError.__new__" = true)
    (q2 : PySem.W.keepIn K (.ref R) = true)
    (q3 : PySem.W.subIn K (.ref R) (.type "BaseException") = some true)
    (q4 : PySem.W.typeIn K (.ref R) = some (.type "type"))
    (q5 : PySem.W.hasDictIn K R = true)
    (i1 : PySem.W.findIn K (.ref R) "__getattribute__" = some (some (.builtin "BaseException.__getattribute__")))
    (i2 : PySem.W.findIn K (.ref R) "__getattr__" = some none)
    (i3 : PySem.W.findIn K (.ref R) "__class__" = some (some (.builtin "object.__class__")))
    (i6 : PySem.W.mroIn K R (.type "object") = some true)
    (y4 : PySem.W.specialIn K (.builtin "object.__class__") "__get__" = some (some (.builtin "getset_descriptor.__get__")))
    (y5 : PySem.W.takesIn K (.builtin "object.__class__") = some true)
    (aN : PySem.W.nsIn K mainGlobals "NameConflict" = some (some (.ref N)))
    (u1 : PySem.W.excInitIn K N lkTl "LookupError.__new__" = true)
    (u2 : PySem.W.excOver K N lkTl = true)
    (u3 : PySem.W.findIn K (.ref N) "__setattr__" = some (some (.builtin "object.__setattr__")))
    (u4 : PySem.W.hasDictIn K N = true)
    (u5 : PySem.W.subIn K (.ref N) (.type "BaseException") = some true)
    (u6 : PySem.W.typeIn K (.ref N) = some (.type "type"))
    (u7 : PySem.W.keepIn K (.ref N) = true)
    (j1 : PySem.W.findIn K (.ref N) "__getattribute__" = some (some (.builtin "BaseException.__getattribute__")))
    (j2 : PySem.W.findIn K (.ref N) "__getattr__" = some none)
    (j3 : PySem.W.findIn K (.ref N) "__class__" = some (some (.builtin "object.__class__")))
    (j6 : PySem.W.mroIn K N (.type "object") = some true)
    (w1 : PySem.W.findIn K (.ref N) "name" = some none)
    (w2 : PySem.W.findIn K (.ref N) "__init__" = some (some (.ref fN)))
    (w3 : PySem.W.typeIn K (.ref fN) = some (.type "function"))
    (w4 : PySem.W.findCls K (.type "LookupError") (.type "type") "__init__" = some (.val (.builtin "LookupError.__init__")))
    (w5 : K.lookup fN = some ⟨ocN, odN, .func (PySem.W.fnOf "__init__" "NameConflict.__init__" (defArgs sIniN) (defBody sIniN) (defScope sIniN) .none kVN docN pmN anN cdN ctN), slN⟩)
    (w6 : PySem.W.codeIn K cdN "NameConflict.__init__" = true)
    (w7 : PySem.W.keepIn K (.ref fN) = true)
    (aM : PySem.W.nsIn K mainGlobals "TooMany" = some (some (.ref M)))
    (m1 : PySem.W.excInitIn K M ovTl "OverflowError.__new__" = true)
    (m2 : PySem.W.excOver K M ovTl = true)
    (m3 : PySem.W.findIn K (.ref M) "__setattr__" = some (some (.builtin "object.__setattr__")))
    (m4 : PySem.W.hasDictIn K M = true)
    (m5 : PySem.W.subIn K (.ref M) (.type "BaseException") = some true)
    (m6 : PySem.W.typeIn K (.ref M) = some (.type "type"))
    (m7 : PySem.W.keepIn K (.ref M) = true)
    (n1 : PySem.W.findIn K (.ref M) "__getattribute__" = some (some (.builtin "BaseException.__getattribute__")))
    (n2 : PySem.W.findIn K (.ref M) "__getattr__" = some none)
    (n3 : PySem.W.findIn K (.ref M) "__class__" = some (some (.builtin "object.__class__")))
    (n6 : PySem.W.mroIn K M (.type "object") = some true)
    (o1 : PySem.W.findIn K (.ref M) "limit" = some none)
    (o2 : PySem.W.findIn K (.ref M) "__init__" = some (some (.ref fM)))
    (o3 : PySem.W.typeIn K (.ref fM) = some (.type "function"))
    (o4 : PySem.W.findCls K (.type "OverflowError") (.type "type") "__init__" = some (.val (.builtin "OverflowError.__init__")))
    (o5 : K.lookup fM = some ⟨ocM, odM, .func (PySem.W.fnOf "__init__" "TooMany.__init__" (defArgs sIniM) (defBody sIniM) (defScope sIniM) .none kVM docM pmM anM cdM ctM), slM⟩)
    (o6 : PySem.W.codeIn K cdM "TooMany.__init__" = true)
    (o7 : PySem.W.keepIn K (.ref fM) = true)
    (e1 : PySem.W.subIn K (.ref R) (.ref S) = some true)
    (e2 : PySem.W.subIn K (.ref N) (.ref S) = some false)
    (e6 : PySem.W.subIn K (.ref N) (.ref N) = some true)
    (e3 : PySem.W.subIn K (.ref M) (.ref S) = some false)
    (e4 : PySem.W.subIn K (.ref M) (.ref N) = some false)
    (e5 : PySem.W.subIn K (.ref M) (.ref M) = some true)
    (r1 : PySem.W.kitOne K (.ref R) (.ref R) = some true)
    (r3 : PySem.W.kitOne K (.ref N) (.type "LookupError") = some true)
    (r5 : PySem.W.kitOne K (.ref N) (.type "KeyError") = some false)
    (r4 : PySem.W.kitOne K (.ref M) (.type "OverflowError") = some true)
    (bs : PySem.W.nsIn K mainGlobals "set" = some none)
    (bo : PySem.W.nsIn K mainGlobals "OverflowError" = some none)
    (bl : PySem.W.nsIn K mainGlobals "LookupError" = some none)
    (g01 : K.lookup cL0 = some ⟨eL0, ddL0, .fields vsL0, slL0⟩)
    (g02 : vsL0[11]? = some (.ref PL0))
    (g03 : PySem.W.codeHdIn K cL0 PL0 = true)
    (g04 : K.lookup PL0 = none)
    (g05 : h.get? PL0 = some { cls := .none, data := .fields #[] })
    (g11 : K.lookup cL1 = some ⟨eL1, ddL1, .fields vsL1, slL1⟩)
    (g12 : vsL1[11]? = some (.ref PL1))
    (g13 : PySem.W.codeHdIn K cL1 PL1 = true)
    (g14 : K.lookup PL1 = none)
    (g15 : h.get? PL1 = some { cls := .none, data := .fields #[] })
    (h01 : PL0 ≠ PL1)
    : ∃ (fd : FuncData) (cs : List (Addr × Addr)) (sp : Sp), (∀ p ∈ cs, h.get? p.2 = some { cls := .none, data := .fields #[] }) ∧ (∀ p ∈ cs, K.lookup p.2 = none) ∧ (∀ p ∈ cs, PySem.W.CodeHd h p.1 p.2) ∧ (∀ (s : Shared) (u : Value), BindsTo s fd ⟨[u], []⟩ [("script", u)]) ∧
        (∀ (H : Hp) (a : Addr) (ns : List Int), ns.length ≤ 63 → (∀ p ∈ cs, H p.2 = some (.tbl #[])) → SqL K H a (ns.map V.int) → sp [.ref a] H (fun v _ => v = .bl true) fun _ _ _ => False) ∧
        ∀ base : Heap, K.In base → base.Ns mainGlobals mg → (∀ p ∈ cs, LamX.TabB base mg p.1 p.2) → FnG l.prog w K mg base CX0 10 fa fd ["script"] sp := by
  have e := hfa.symm.trans (PySem.W.mg_of X G a25)
  cases e
  have E0 := df_mk (ps := ["value", "low", "high"]) X G a0 l0 c0 k0 (fun _ _ _ _ _ _ us hl => match us, hl with | [_, _, _], _ => rfl)
  have E1 := df_mk (ps := ["value", "low", "high"]) X G a1 l1 c1 k1 (fun _ _ _ _ _ _ us hl => match us, hl with | [_, _, _], _ => rfl)
  have E2 := df_mk (ps := ["names"]) X G a2 l2 c2 k2 (fun _ _ _ _ _ _ us hl => match us, hl with | [_], _ => rfl)
  have E3 := df_mk (ps := ["value"]) X G a3 l3 c3 k3 (fun _ _ _ _ _ _ us hl => match us, hl with | [_], _ => rfl)
  have E4 := df_mk (ps := ["value"]) X G a4 l4 c4 k4 (fun _ _ _ _ _ _ us hl => match us, hl with | [_], _ => rfl)
  have E5 := df_mk (ps := ["value"]) X G a5 l5 c5 k5 (fun _ _ _ _ _ _ us hl => match us, hl with | [_], _ => rfl)
  have E6 := df_mk (ps := ["value"]) X G a6 l6 c6 k6 (fun _ _ _ _ _ _ us hl => match us, hl with | [_], _ => rfl)
  have E7 := df_mk (ps := ["rows"]) X G a7 l7 c7 k7 (fun _ _ _ _ _ _ us hl => match us, hl with | [_], _ => rfl)
  have E8 := df_mk (ps := ["value"]) X G a8 l8 c8 k8 (fun _ _ _ _ _ _ us hl => match us, hl with | [_], _ => rfl)
  have E9 := df_mk (ps := ["rows"]) X G a9 l9 c9 k9 (fun _ _ _ _ _ _ us hl => match us, hl with | [_], _ => rfl)
  have E10 := df_mk (ps := ["rowsets"]) X G a10 l10 c10 k10 (fun _ _ _ _ _ _ us hl => match us, hl with | [_], _ => rfl)
  have E11 := df_mk (ps := ["rows"]) X G a11 l11 c11 k11 (fun _ _ _ _ _ _ us hl => match us, hl with | [_], _ => rfl)
  have E12 := df_mk (ps := ["rows"]) X G a12 l12 c12 k12 (fun _ _ _ _ _ _ us hl => match us, hl with | [_], _ => rfl)
  have E13 := df_mk (ps := ["rows"]) X G a13 l13 c13 k13 (fun _ _ _ _ _ _ us hl => match us, hl with | [_], _ => rfl)
  have E14 := df_mk (ps := ["script", "at"]) X G a14 l14 c14 k14 (fun _ _ _ _ _ _ us hl => match us, hl with | [_, _], _ => rfl)
  have E15 := df_mk (ps := ["stream", "total"]) X G a15 l15 c15 k15 (fun _ _ _ _ _ _ us hl => match us, hl with | [_, _], _ => rfl)
  have E16 := df_mk (ps := ["stream", "at"]) X G a16 l16 c16 k16 (fun _ _ _ _ _ _ us hl => match us, hl with | [_, _], _ => rfl)
  have E17 := df_mk (ps := ["stream", "total", "wide"]) X G a17 l17 c17 k17 (fun _ _ _ _ _ _ us hl => match us, hl with | [_, _, _], _ => rfl)
  have E18 := df_mk (ps := ["call"]) X G a18 l18 c18 k18 (fun _ _ _ _ _ _ us hl => match us, hl with | [_], _ => rfl)
  have E19 := df_mk (ps := ["stream", "rows"]) X G a19 l19 c19 k19 (fun _ _ _ _ _ _ us hl => match us, hl with | [_, _], _ => rfl)
  have E20 := df_mk (ps := ["stream", "row"]) X G a20 l20 c20 k20 (fun _ _ _ _ _ _ us hl => match us, hl with | [_, _], _ => rfl)
  have E21 := df_mk (ps := ["stream", "parts"]) X G a21 l21 c21 k21 (fun _ _ _ _ _ _ us hl => match us, hl with | [_, _], _ => rfl)
  have E22 := df_mk (ps := ["parts"]) X G a22 l22 c22 k22 (fun _ _ _ _ _ _ us hl => match us, hl with | [_], _ => rfl)
  have E23 := df_mk (ps := ["parts"]) X G a23 l23 c23 k23 (fun _ _ _ _ _ _ us hl => match us, hl with | [_], _ => rfl)
  have E24 := df_mk (ps := ["stream", "parts", "wide"]) X G a24 l24 c24 k24 (fun _ _ _ _ _ _ us hl => match us, hl with | [_, _, _], _ => rfl)
  have B : Bl mg := ⟨PySem.W.mg_none_of X G b0, PySem.W.mg_none_of X G b1, PySem.W.mg_none_of X G b2, PySem.W.mg_none_of X G b3, PySem.W.mg_none_of X G b4, PySem.W.mg_none_of X G b5, PySem.W.mg_none_of X G b6, PySem.W.mg_none_of X G b7, PySem.W.mg_none_of X G b8, PySem.W.mg_none_of X G b9, PySem.W.mg_none_of X G b10, PySem.W.mg_none_of X G b11, PySem.W.mg_none_of X G b12, PySem.W.mg_none_of X G b13, PySem.W.mg_none_of X G b14, PySem.W.mg_none_of X G b15, PySem.W.mg_none_of X G b16, PySem.W.mg_none_of X G b17, PySem.W.mg_none_of X G b18⟩
  have Ck : Cs mg := ⟨⟨_, PySem.W.mg_of X G v0⟩, ⟨_, PySem.W.mg_of X G v1⟩, ⟨_, PySem.W.mg_of X G v2⟩, ⟨_, PySem.W.mg_of X G v3⟩, ⟨_, PySem.W.mg_of X G v4⟩, ⟨_, PySem.W.mg_of X G v5⟩⟩
  have cv : ∃ t, mg "VALUES" = some (.int 2 t) := ⟨_, PySem.W.mg_of X G v6⟩
  have cn : ∃ t, mg "NAME" = some (.int 0 t) := ⟨_, PySem.W.mg_of X G v7⟩
  have cr : ∃ t, mg "MAX_ROWS" = some (.int 60 t) := ⟨_, PySem.W.mg_of X G v8⟩
  have hs : mg "set" = none := PySem.W.mg_none_of X G bs
  have ho : mg "OverflowError" = none := PySem.W.mg_none_of X G bo
  have hlk : mg "LookupError" = none := PySem.W.mg_none_of X G bl
  have FN := fun_mk (st := sIniN) w5 w6 w7
  have FM := fun_mk (st := sIniM) o5 o6 o7
  have TN1 : NC K mg N fN _ := ⟨PySem.W.mg_of X G aN, ⟨lkB, u1, u2, u3, u4, u5, u6, u7⟩, ⟨j1, j2, u5, u4, j3, y4, y5, j6⟩, w1, w2, w3, w4, FN, FN.binds (ps := ["self", "name"]) fun _ _ _ _ _ _ us hl => match us, hl with | [_, _], _ => rfl, hlk⟩
  have TM1 : TM K mg M fM _ := ⟨PySem.W.mg_of X G aM, ⟨ovB, m1, m2, m3, m4, m5, m6, m7⟩, ⟨n1, n2, m5, m4, n3, y4, y5, n6⟩, o1, o2, o3, o4, FM, FM.binds (ps := ["self", "limit"]) fun _ _ _ _ _ _ us hl => match us, hl with | [_, _], _ => rfl, ho⟩
  have OR : OC K mg "InvalidRowset" R := ⟨PySem.W.mg_of X G aR, q1, q2, q3, q4⟩
  have Z : XS K mg S R N M := ⟨PySem.W.mg_of X G aS, PySem.W.exm_ref s1 s2 s3 e1, PySem.W.exm_ref s1 s2 s3 e2, PySem.W.exm_ref u5 u4 u6 e6, PySem.W.exm_ref s1 s2 s3 e3, PySem.W.exm_ref u5 u4 u6 e4, PySem.W.exm_ref m5 m4 m6 e5, ⟨i1, i2, q3, q5, i3, y4, y5, i6⟩, r1, r3, r5, r4⟩
  refine ⟨PySem.W.fnOf "law" "law" (defArgs sLaw) (defBody sLaw) (defScope sLaw) .none kV25 doc25 pm25 an25 (.ref cL1) ct25, [(cL0, PL0), (cL1, PL1)], spLaw K PL0 PL1, fun p hp => ?_, fun p hp => ?_, fun p hp => ?_, fun s v => .of_eq rfl, fun H a ns hl hP hS => ⟨a, ns, rfl, hS, hl, hP (cL0, PL0) (List.mem_cons.mpr (.inl rfl)), hP (cL1, PL1) (List.mem_cons.mpr (.inr (List.mem_singleton.mpr rfl))), fun _ => rfl⟩, fun base _ _ hT => ?_⟩
  · rcases List.mem_cons.mp hp with hp | hp
    · cases hp
      exact g05
    cases List.mem_singleton.mp hp
    exact g15
  · rcases List.mem_cons.mp hp with hp | hp
    · cases hp
      exact g04
    cases List.mem_singleton.mp hp
    exact g14
  · rcases List.mem_cons.mp hp with hp | hp
    · cases hp
      exact PySem.W.codeHd_of_K X g03
    cases List.mem_singleton.mp hp
    exact PySem.W.codeHd_of_K X g13
  have TB0 := hT (cL0, PL0) (List.mem_cons.mpr (.inl rfl))
  have TB1 := hT (cL1, PL1) (List.mem_cons.mpr (.inr (List.mem_singleton.mpr rfl)))
  have oRow := ok_row (P := l.prog) (w := w) (base := base) B Ck E4 E0 E1 E3 E5
  have oOW := ok_ow (P := l.prog) (w := w) (base := base) (k := 3) B E6 E4 E7 (oRow.mono (by decide)) ((ok_hw B cv E7).mono (by decide))
  have oIR := ok_ir (P := l.prog) (w := w) (base := base) (k := 4) B cr E8 E1 E6 E2 E9 ((ok_tupB B E1).mono (by decide)) oOW ((ok_asc B E2).mono (by decide)) ((ok_no B cn E9).mono (by decide))
  have oHL := ok_hwL (P := l.prog) (w := w) (base := base) B cv E7
  have oCN := ok_cn (P := l.prog) (w := w) (base := base) cn E12
  have oDR := ok_dr (P := l.prog) (w := w) (base := base) B hs E11
  have oCC := ok_cc (P := l.prog) (w := w) (base := base) (k := 2) B TN1 E13 E12 (oCN.mono (by decide))
  have oUR := ok_ur (P := l.prog) (w := w) (base := base) (k := 2) B cr OR TM1 E10 E8 E7 E13 E11 oIR (oHL.mono (by decide)) oCC (oDR.mono (by decide))
  have oD := ok_draw (P := l.prog) (w := w) (base := base) B E15
  have oSp := ok_sp (P := l.prog) (w := w) (base := base) (k := 1) B E19 E15 oD
  have oOr := ok_or (P := l.prog) (w := w) (base := base) (k := 1) E20 E15 oD
  have oWc := ok_wc (P := l.prog) (w := w) (base := base) (k := 2) B E21 E15 E20 (oD.mono (by decide)) oOr
  have oAl := ok_all (P := l.prog) (w := w) (base := base) B hs E22
  have oRt := ok_rt (P := l.prog) (w := w) (base := base) (k := 8) B E23.F E22 E10 E8 (oAl.mono (by decide)) (oUR.mono (by decide)) (oIR.mono (by decide))
  have oEr := ok_er (P := l.prog) (w := w) (base := base) (k := 6) B OR TN1 TM1 Z l24 c24 TB0 h01 E18 l18 c18 E22 E10 E15 E21 (oAl.mono (by decide)) oUR (oD.mono (by decide)) (oWc.mono (by decide))
  exact ok_law (k := 7) B OR TN1 TM1 Z l25 c25 TB1 h01 E18 l18 c18 (T := ⟨E14, E15, E17, E19, E23, E24, E10, (ok_stream B E14).mono (by decide), oD.mono (by decide), (ok_rs B E17 E15 E16).mono (by decide), oSp.mono (by decide), oRt, oEr, oUR.mono (by decide)⟩)
end U1
open PySem PySem.W PyProof.Rows
set_option maxHeartbeats 0 in
theorem PySem.Challenge.cw_spareskept_k04_union_of_rowsets_holds : PySem.Challenge.rw_spareskept_k04_union_of_rowsets.Holds := by
  w_on; o_law; k_head; (case hw => w_witness2)
  k_fill
  refine KX.walkGY (l := PySem.Challenge.rw_spareskept_k04_union_of_rowsets) (n := 63) (k := 10) (x := "script") rfl (by decide) rfl ⟨rfl, by decide, by decide⟩ (fun w h Y => PySem.W.km_in_of Y) ?F
  case F =>
    intro w mg fa h KX G hmg Y
    refine' U1.all_mk KX G hmg ?a0 ?l0 ?c0 ?k0 ?a1 ?l1 ?c1 ?k1 ?a2 ?l2 ?c2 ?k2 ?a3 ?l3 ?c3 ?k3 ?a4 ?l4 ?c4 ?k4 ?a5 ?l5 ?c5 ?k5 ?a6 ?l6 ?c6 ?k6 ?a7 ?l7 ?c7 ?k7 ?a8 ?l8 ?c8 ?k8 ?a9 ?l9 ?c9 ?k9 ?a10 ?l10 ?c10 ?k10 ?a11 ?l11 ?c11 ?k11 ?a12 ?l12 ?c12 ?k12 ?a13 ?l13 ?c13 ?k13 ?a14 ?l14 ?c14 ?k14 ?a15 ?l15 ?c15 ?k15 ?a16 ?l16 ?c16 ?k16 ?a17 ?l17 ?c17 ?k17 ?a18 ?l18 ?c18 ?k18 ?a19 ?l19 ?c19 ?k19 ?a20 ?l20 ?c20 ?k20 ?a21 ?l21 ?c21 ?k21 ?a22 ?l22 ?c22 ?k22 ?a23 ?l23 ?c23 ?k23 ?a24 ?l24 ?c24 ?k24 ?a25 ?l25 ?c25 ?k25 ?b0 ?b1 ?b2 ?b3 ?b4 ?b5 ?b6 ?b7 ?b8 ?b9 ?b10 ?b11 ?b12 ?b13 ?b14 ?b15 ?b16 ?b17 ?b18 ?v0 ?v1 ?v2 ?v3 ?v4 ?v5 ?v6 ?v7 ?v8 ?aS ?s1 ?s2 ?s3 ?aR ?q1 ?q2 ?q3 ?q4 ?q5 ?i1 ?i2 ?i3 ?i6 ?y4 ?y5 ?aN ?u1 ?u2 ?u3 ?u4 ?u5 ?u6 ?u7 ?j1 ?j2 ?j3 ?j6 ?w1 ?w2 ?w3 ?w4 ?w5 ?w6 ?w7 ?aM ?m1 ?m2 ?m3 ?m4 ?m5 ?m6 ?m7 ?n1 ?n2 ?n3 ?n6 ?o1 ?o2 ?o3 ?o4 ?o5 ?o6 ?o7 ?e1 ?e2 ?e6 ?e3 ?e4 ?e5 ?r1 ?r3 ?r5 ?r4 ?bs ?bo ?bl ?g01 ?g02 ?g03 ?g04 ?g05 ?g11 ?g12 ?g13 ?g14 ?g15 ?h01
    (case a0 => k_is); (case l0 => k_is); (case c0 => k_is); (case k0 => k_is)
    (case a1 => k_is); (case l1 => k_is); (case c1 => k_is); (case k1 => k_is)
    (case a2 => k_is); (case l2 => k_is); (case c2 => k_is); (case k2 => k_is)
    (case a3 => k_is); (case l3 => k_is); (case c3 => k_is); (case k3 => k_is)
    (case a4 => k_is); (case l4 => k_is); (case c4 => k_is); (case k4 => k_is)
    (case a5 => k_is); (case l5 => k_is); (case c5 => k_is); (case k5 => k_is)
    (case a6 => k_is); (case l6 => k_is); (case c6 => k_is); (case k6 => k_is)
    (case a7 => k_is); (case l7 => k_is); (case c7 => k_is); (case k7 => k_is)
    (case a8 => k_is); (case l8 => k_is); (case c8 => k_is); (case k8 => k_is)
    (case a9 => k_is); (case l9 => k_is); (case c9 => k_is); (case k9 => k_is)
    (case a10 => k_is); (case l10 => k_is); (case c10 => k_is); (case k10 => k_is)
    (case a11 => k_is); (case l11 => k_is); (case c11 => k_is); (case k11 => k_is)
    (case a12 => k_is); (case l12 => k_is); (case c12 => k_is); (case k12 => k_is)
    (case a13 => k_is); (case l13 => k_is); (case c13 => k_is); (case k13 => k_is)
    (case a14 => k_is); (case l14 => k_is); (case c14 => k_is); (case k14 => k_is)
    (case a15 => k_is); (case l15 => k_is); (case c15 => k_is); (case k15 => k_is)
    (case a16 => k_is); (case l16 => k_is); (case c16 => k_is); (case k16 => k_is)
    (case a17 => k_is); (case l17 => k_is); (case c17 => k_is); (case k17 => k_is)
    (case a18 => k_is); (case l18 => k_is); (case c18 => k_is); (case k18 => k_is)
    (case a19 => k_is); (case l19 => k_is); (case c19 => k_is); (case k19 => k_is)
    (case a20 => k_is); (case l20 => k_is); (case c20 => k_is); (case k20 => k_is)
    (case a21 => k_is); (case l21 => k_is); (case c21 => k_is); (case k21 => k_is)
    (case a22 => k_is); (case l22 => k_is); (case c22 => k_is); (case k22 => k_is)
    (case a23 => k_is); (case l23 => k_is); (case c23 => k_is); (case k23 => k_is)
    (case a24 => k_is); (case l24 => k_is); (case c24 => k_is); (case k24 => k_is)
    (case a25 => k_is); (case l25 => k_is); (case c25 => k_is); (case k25 => k_is)
    (case b0 => k_is); (case b1 => k_is); (case b2 => k_is); (case b3 => k_is); (case b4 => k_is); (case b5 => k_is); (case b6 => k_is); (case b7 => k_is); (case b8 => k_is); (case b9 => k_is); (case b10 => k_is); (case b11 => k_is); (case b12 => k_is); (case b13 => k_is); (case b14 => k_is); (case b15 => k_is); (case b16 => k_is); (case b17 => k_is); (case b18 => k_is)
    (case v0 => k_is); (case v1 => k_is); (case v2 => k_is); (case v3 => k_is); (case v4 => k_is); (case v5 => k_is); (case v6 => k_is); (case v7 => k_is); (case v8 => k_is)
    (case aS => first | k_is | rfl | k_exc)
    (case aR => first | k_is | rfl | k_exc)
    (case aN => first | k_is | rfl | k_exc)
    (case w2 => first | k_is | rfl | k_exc)
    (case aM => first | k_is | rfl | k_exc)
    (case o2 => first | k_is | rfl | k_exc)
    (case g01 => first | k_is | rfl | k_exc)
    (case g11 => first | k_is | rfl | k_exc)
    (case g02 => first | k_is | rfl | k_exc)
    (case g12 => first | k_is | rfl | k_exc)
    (case s1 => first | k_is | rfl | k_exc)
    (case s2 => first | k_is | rfl | k_exc)
    (case s3 => first | k_is | rfl | k_exc)
    (case q1 => first | k_is | rfl | k_exc)
    (case q2 => first | k_is | rfl | k_exc)
    (case q3 => first | k_is | rfl | k_exc)
    (case q4 => first | k_is | rfl | k_exc)
    (case q5 => first | k_is | rfl | k_exc)
    (case i1 => first | k_is | rfl | k_exc)
    (case i2 => first | k_is | rfl | k_exc)
    (case i3 => first | k_is | rfl | k_exc)
    (case i6 => first | k_is | rfl | k_exc)
    (case y4 => first | k_is | rfl | k_exc)
    (case y5 => first | k_is | rfl | k_exc)
    (case u1 => first | k_is | rfl | k_exc)
    (case u2 => first | k_is | rfl | k_exc)
    (case u3 => first | k_is | rfl | k_exc)
    (case u4 => first | k_is | rfl | k_exc)
    (case u5 => first | k_is | rfl | k_exc)
    (case u6 => first | k_is | rfl | k_exc)
    (case u7 => first | k_is | rfl | k_exc)
    (case j1 => first | k_is | rfl | k_exc)
    (case j2 => first | k_is | rfl | k_exc)
    (case j3 => first | k_is | rfl | k_exc)
    (case j6 => first | k_is | rfl | k_exc)
    (case w1 => first | k_is | rfl | k_exc)
    (case w3 => first | k_is | rfl | k_exc)
    (case w4 => first | k_is | rfl | k_exc)
    (case w5 => first | k_is | rfl | k_exc)
    (case w6 => first | k_is | rfl | k_exc)
    (case w7 => first | k_is | rfl | k_exc)
    (case m1 => first | k_is | rfl | k_exc)
    (case m2 => first | k_is | rfl | k_exc)
    (case m3 => first | k_is | rfl | k_exc)
    (case m4 => first | k_is | rfl | k_exc)
    (case m5 => first | k_is | rfl | k_exc)
    (case m6 => first | k_is | rfl | k_exc)
    (case m7 => first | k_is | rfl | k_exc)
    (case n1 => first | k_is | rfl | k_exc)
    (case n2 => first | k_is | rfl | k_exc)
    (case n3 => first | k_is | rfl | k_exc)
    (case n6 => first | k_is | rfl | k_exc)
    (case o1 => first | k_is | rfl | k_exc)
    (case o3 => first | k_is | rfl | k_exc)
    (case o4 => first | k_is | rfl | k_exc)
    (case o5 => first | k_is | rfl | k_exc)
    (case o6 => first | k_is | rfl | k_exc)
    (case o7 => first | k_is | rfl | k_exc)
    (case e1 => first | k_is | rfl | k_exc)
    (case e2 => first | k_is | rfl | k_exc)
    (case e6 => first | k_is | rfl | k_exc)
    (case e3 => first | k_is | rfl | k_exc)
    (case e4 => first | k_is | rfl | k_exc)
    (case e5 => first | k_is | rfl | k_exc)
    (case r1 => first | k_is | rfl | k_exc)
    (case r3 => first | k_is | rfl | k_exc)
    (case r5 => first | k_is | rfl | k_exc)
    (case r4 => first | k_is | rfl | k_exc)
    (case bs => first | k_is | rfl | k_exc)
    (case bo => first | k_is | rfl | k_exc)
    (case bl => first | k_is | rfl | k_exc)
    (case g03 => first | k_is | rfl | k_exc)
    (case g04 => first | k_is | rfl | k_exc)
    (case g13 => first | k_is | rfl | k_exc)
    (case g14 => first | k_is | rfl | k_exc)
    (case g05 => exact PySem.W.km_tabs_of Y _ (by first | k_mem | simp))
    (case g15 => exact PySem.W.km_tabs_of Y _ (by first | k_mem | simp))
    (case h01 => first | decide | omega | simp)
