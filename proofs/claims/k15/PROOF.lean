import PyProof.Rows.All
import Wide.All
import OpenK.AllK
import Wide.FinOn
import HandS.ForMost
import HandS.Wide
import HandS.TupAny
import HandS.TupMul
import HandS.IsInst
import HandS.Style
import PyProof.ReprRoads
import KE.DataEq
import HandS.Walk
import PyProof.StrLawsRepr
import PyProof.FitsInt
import KE.SortData
import KE.KExcInit
import KE.KExcIs
import KE.KIsAll
import HandS.ExcInit
import HandS.ExcField
import HandS.TryOnly
import HandS.Strs
import HandS.SetBool
import HandS.Conv
import HandS.Dict
import HandS.SetFor
import HandS.Zip
import KE.GoesZip
import KE.GoesMore
import KE.KEqDict
import KE.DataCmp
import HandS.Lambda
import HandS.Nested
import HandS.EndTab
import HandS.EndOwn
import HandS.ForExc
import HandS.TryMany
import HandS.CallLocal
import PyProof.RulesRaise
import PyProof.FactsTree
import PyProof.ExcClass
import PyProof.ExcBaseAll.LookupError
import HandS.ExcIs
import KE.DatumOrd
import KE.SortKeyHeap
import HandS.Exc
import KE.SortCalls
import HandS.Defaults
import HandS.MakeKwOnly
import KE.SortLaws
import HandS.SetKeys
import HandS.DictComp
import HandS.More
import HandS.NoneIn
import KE.GoesEnum
import KE.KNestM
import PySem.Challenge.RW_spareskept_k15_whole_top_is_path_indepen
set_option Elab.async false
set_option linter.all false
set_option maxRecDepth 100000
set_option maxHeartbeats 2000000
namespace KX
open PySem PySem.Spec PyProof.Rows L2

/-! ### data: what a value holds, through the tracked heap -/
mutual
inductive Dx (H : Hp) : V → PyData → Prop
  | non : Dx H .non .none
  | bl (b : Bool) : Dx H (.bl b) (.bool b)
  | int (i : Int) : Dx H (.int i) (.int i)
  | str (x : Str) : Dx H (.str x) (.str x)
  | lst {a : Addr} {xs : List V} {ds : List PyData} (e : H a = some (.lst xs)) (n : a ≠ sysModules) (h : Dxs H xs ds) : Dx H (.ref a) (.list ds)
  | tup {a : Addr} {xs : List V} {ds : List PyData} (e : H a = some (.tup xs)) (h : Dxs H xs ds) : Dx H (.ref a) (.tuple ds)
  | dic {a : Addr} (e : H a = some (.dK [])) : Dx H (.ref a) (.dict [])
  | dic1 {a : Addr} {x : Str} {i : Int} (e : H a = some (.dK [(.inr x, .int i)])) : Dx H (.ref a) (.dict [(.str x, .int i)])
inductive Dxs (H : Hp) : List V → List PyData → Prop
  | nil : Dxs H [] []
  | cons {v : V} {vs : List V} {d : PyData} {ds : List PyData} (h : Dx H v d) (t : Dxs H vs ds) : Dxs H (v :: vs) (d :: ds)
end

mutual
theorem Dx.mono {H H' : Hp} (s : Same H H') : ∀ (d : PyData) (v : V), Dx H v d → Dx H' v d
  | .none, _, h => by cases h; exact .non
  | .bool b, _, h => by cases h; exact .bl b
  | .int i, _, h => by cases h; exact .int i
  | .str x, _, h => by cases h; exact .str x
  | .list ds, _, h => by
    cases h with
    | lst e n h => exact .lst (s _ _ e) n (Dxs.mono s ds _ h)
  | .tuple ds, _, h => by
    cases h with
    | tup e h => exact .tup (s _ _ e) (Dxs.mono s ds _ h)
  | .dict ks, _, h => by
    cases h with
    | dic e => exact .dic (s _ _ e)
    | dic1 e => exact .dic1 (s _ _ e)
theorem Dxs.mono {H H' : Hp} (s : Same H H') : ∀ (ds : List PyData) (vs : List V), Dxs H vs ds → Dxs H' vs ds
  | [], _, h => by cases h; exact .nil
  | d :: ds, _, h => by
    cases h with
    | cons h t => exact .cons (Dx.mono s d _ h) (Dxs.mono s ds _ t)
end
theorem Dx.up {H H' : Hp} {v : V} {d : PyData} (h : Dx H v d) (s : Same H H') : Dx H' v d := Dx.mono s d v h
theorem Dxs.up {H H' : Hp} {v : List V} {d : List PyData} (h : Dxs H v d) (s : Same H H') : Dxs H' v d := Dxs.mono s d v h
theorem Dxs.len {H : Hp} : ∀ {vs : List V} {ds : List PyData}, Dxs H vs ds → vs.length = ds.length
  | _, _, .nil => rfl
  | _, _, .cons _ t => by simp [Dxs.len t]
theorem Dxs.get {H : Hp} : ∀ {vs : List V} {ds : List PyData} {i : Nat} {d : PyData}, Dxs H vs ds → ds[i]? = some d → ∃ v, vs[i]? = some v ∧ Dx H v d
  | _, _, i, d, .nil, e => by simp at e
  | _, _, 0, d, .cons h _, e => by simp at e; subst e; exact ⟨_, rfl, h⟩
  | _, _, i + 1, d, .cons _ t, e => by
    obtain ⟨v, e1, h⟩ := Dxs.get (i := i) t (by simpa using e)
    exact ⟨v, by simpa using e1, h⟩
theorem Dxs.get' {H : Hp} : ∀ {vs : List V} {ds : List PyData} {i : Nat} {v : V}, Dxs H vs ds → vs[i]? = some v → ∃ d, ds[i]? = some d ∧ Dx H v d
  | _, _, i, d, .nil, e => by simp at e
  | _, _, 0, d, .cons h _, e => by simp at e; subst e; exact ⟨_, rfl, h⟩
  | _, _, i + 1, d, .cons _ t, e => by
    obtain ⟨v, e1, h⟩ := Dxs.get' (i := i) t (by simpa using e)
    exact ⟨v, by simpa using e1, h⟩
theorem Dxs.app {H : Hp} : ∀ {vs : List V} {ds : List PyData} {ws : List V} {es : List PyData}, Dxs H vs ds → Dxs H ws es → Dxs H (vs ++ ws) (ds ++ es)
  | _, _, _, _, .nil, h => h
  | _, _, _, _, .cons h t, k => .cons h (Dxs.app t k)
theorem Dxs.take {H : Hp} : ∀ {vs : List V} {ds : List PyData} (n : Nat), Dxs H vs ds → Dxs H (vs.take n) (ds.take n)
  | _, _, 0, _ => .nil
  | _, _, _ + 1, .nil => .nil
  | _, _, n + 1, .cons h t => .cons h (Dxs.take n t)
theorem Dxs.drop {H : Hp} : ∀ {vs : List V} {ds : List PyData} (n : Nat), Dxs H vs ds → Dxs H (vs.drop n) (ds.drop n)
  | _, _, 0, h => h
  | _, _, _ + 1, .nil => .nil
  | _, _, n + 1, .cons _ t => Dxs.drop n t
theorem Dxs.rev {H : Hp} : ∀ {vs : List V} {ds : List PyData}, Dxs H vs ds → Dxs H vs.reverse ds.reverse
  | _, _, .nil => .nil
  | _, _, .cons h t => by
    rw [List.reverse_cons, List.reverse_cons]
    exact (Dxs.rev t).app (.cons h .nil)

section
variable {X : Cx} {pins : List (Addr × Obj)} {σ : L2.St} {H : Hp} {s : Shared}
mutual
theorem Dx.reads (I : Inv X pins σ H s) : ∀ (d : PyData) (v : V) (u : Value), Dx H v d → RelV v u → ∃ as, Reads s.heap u d as ∧ sysModules ∉ as
  | .none, _, _, h, r => by
    cases h
    cases r
    exact ⟨_, Reads.none, by simp⟩
  | .bool b, _, _, h, r => by
    cases h
    cases r
    exact ⟨_, Reads.bool b, by simp⟩
  | .int i, _, _, h, r => by
    cases h
    obtain ⟨t, rfl⟩ := r
    exact ⟨_, Reads.int i t, by simp⟩
  | .str x, _, _, h, r => by
    cases h
    obtain ⟨t, rfl⟩ := r
    exact ⟨_, Reads.str x t, by simp⟩
  | .list ds, _, _, h, r => by
    cases h with
    | @lst a xs _ e ne h =>
      cases r
      have hs : SqL X.K H a xs := .inl (.inl e)
      obtain ⟨its, rv, ⟨o, n, ho, hc, _, hd⟩, _⟩ := I.list hs
      obtain ⟨as, hr, hn⟩ := Dxs.reads I ds _ its h rv
      refine ⟨_, Reads.list ho hc hd hr, fun z => ?_⟩
      rcases List.mem_cons.mp z with z | z
      · exact ne z.symm
      · exact hn z
  | .tuple ds, _, _, h, r => by
    cases h with
    | @tup a xs _ e h =>
      cases r
      have hs : SqT X.K H a xs := .inl (.inl e)
      obtain ⟨its, rv, ⟨o, ho, hc, n, hd⟩, _⟩ := I.tuple hs
      obtain ⟨as, hr, hn⟩ := Dxs.reads I ds _ its h rv
      exact ⟨_, Reads.tuple ho hc hd hr, hn⟩
  | .dict ks, _, _, h, r => by
    cases h with
    | @dic a e =>
      cases r
      obtain ⟨z, y, vs, r, o, es, ep, e1, ex, ed, hm⟩ := (show ObjOk X.prog X.w H s.heap a (.dK []) from I.hok a _ e)
      cases r
      have hes : es = #[] := by
        obtain ⟨es⟩ := es
        have hl := hm.2.1.length
        cases es with
        | nil => rfl
        | cons x l => simp at hl
      subst hes
      refine ⟨_, Reads.dict (kvs := []) e1 ex.1 ed .nil .nil, fun z => ?_⟩
      have z : sysModules = a := by simpa using z
      rw [z] at y
      simp at y
    | @dic1 a x i e =>
      cases r
      obtain ⟨z, y, vs, r, o, es, ep, e1, ex, ed, hm⟩ := (show ObjOk X.prog X.w H s.heap a (.dK [(.inr x, .int i)]) from I.hok a _ e)
      obtain ⟨es⟩ := es
      obtain ⟨_, hp, _⟩ := hm
      match vs, r, hp with
      | [(k, u)], .cons ⟨hk, tk, hu⟩ .nil, hp =>
        dsimp only at hk hu
        subst hk hu
        match es, hp, ed with
        | [en], .cons a1 a2 .nil, ed =>
          have a1' : keyIs (Sum.inr x) en.key = true := a1
          obtain ⟨q, t, hq1, hq2⟩ := (keyIs_shape a1').resolve_left (fun z => by obtain ⟨_, _, z, _⟩ := z; cases z)
          cases hq1
          refine ⟨_, Reads.dict (kvs := [(.str x, .int i)]) (as := []) (bs := []) e1 ex.1 ed ?_ ?_, fun z => ?_⟩
          · show ReadsAll s.heap [en.key] [PyData.str x] _
            rw [hq2]
            exact ReadsAll.cons (as := []) (bs := []) (.str x t) .nil
          · show ReadsAll s.heap [en.val] [PyData.int i] _
            rw [a2]
            exact ReadsAll.cons (as := []) (bs := []) (.int i tk) .nil
          · have z : sysModules = a := by simpa using z
            rw [z] at y
            simp at y
theorem Dxs.reads (I : Inv X pins σ H s) : ∀ (ds : List PyData) (vs : List V) (us : List Value), Dxs H vs ds → Vals vs us → ∃ as, ReadsAll s.heap us ds as ∧ sysModules ∉ as
  | [], _, _, h, r => by
    cases h
    cases r
    exact ⟨_, ReadsAll.nil, by simp⟩
  | d :: ds, _, _, h, r => by
    cases h with
    | cons h1 h2 =>
      cases r with
      | cons r1 r2 =>
        obtain ⟨as, q1, n1⟩ := Dx.reads I d _ _ h1 r1
        obtain ⟨bs, q2, n2⟩ := Dxs.reads I ds _ _ h2 r2
        exact ⟨_, ReadsAll.cons q1 q2, by simp [n1, n2]⟩
end
/-- a new address is none of the first ones -/
theorem new_big (I : Inv X pins σ H s) {p : Addr} (h : s.heap.objs.size ≤ p) : p ≠ sysModules := by
  intro z
  have h1 : mainGlobals < X.base.objs.size := I.ok.mod.glob.lt
  have h2 := I.ok.bsz
  have h3 := I.sz
  have h4 : sysModules < mainGlobals := by decide
  rw [z] at h
  exact absurd (Nat.lt_of_lt_of_le h4 (Nat.le_trans (Nat.le_of_lt h1) (Nat.le_trans h2 (Nat.le_trans h3 h)))) (Nat.lt_irrefl _)
end

section
variable {X : Cx}
/-- a list that is written, its address none of the first -/
def tLstS (t : TA) : TE := fun σ H Q => t σ H fun xs H1 => xs.length ≤ sizeLine ∧ ∀ p, H1 p = none → p ≠ sysModules → Q (.ref p) (upd H1 p (.lst xs))
theorem pe_lstS {es : List Expr} {t : TA} {pos : Pos} (ha : PA X es t) : PE X (.List es pos) (tLstS t) := by
  constructor
  intro pins s σ H Q I hq
  refine wpAny_List_spliced (thn (ha.run pos pins s σ H _ I hq) fun us s1 hh => ?_)
  obtain ⟨xs, H1, I1, r, z, q⟩ := hh
  have nf : H1 s1.heap.objs.size = none := I1.hok.fresh (Nat.le_refl _)
  refine ⟨by rw [← r.length]; exact z, .ref s1.heap.objs.size, upd H1 s1.heap.objs.size (.lst xs), ?_, rfl, q _ nf (new_big I1 (Nat.le_refl _))⟩
  exact I1.laid (t' := s1.toks) (fun b u e => Heap.get?_push_of_some _ e) (Nat.le_refl _) ⟨z, us, 0, r, Heap.get?_push_size _ rfl⟩
/-- list(t), t a tuple or a list of data -/
theorem call_listS : CallR X (.type "list") (fun xs H Q => ∃ p ys, xs = [.ref p] ∧ (SqL X.K H p ys ∨ SqT X.K H p ys) ∧ ∀ l, H l = none → l ≠ sysModules → Q (.ref l) (upd H l (.lst ys))) := by
  intro pins s σ H xs us Q I r h
  obtain ⟨p, ys, e, hq, q⟩ := h
  subst e
  obtain ⟨u, rfl, rx⟩ := vals1 r
  cases rx
  have nf : H s.heap.objs.size = none := I.hok.fresh (Nat.le_refl _)
  have fin : ∀ (its : List Value), Vals ys its → ys.length ≤ sizeLine → ∀ (g : Heap) (c : Nat), (∀ b o', s.heap.get? b = some o' → g.get? b = some o') →
      g.get? s.heap.objs.size = some { cls := .type "list", dict := none, data := .seq its.toArray c, slots := #[] } → EP X pins σ Q (.ref s.heap.objs.size) { s with heap := g } := by
    intro its rv hz g c kp e
    refine ⟨.ref s.heap.objs.size, _, I.laid (t' := s.toks) kp (Nat.le_refl _) (o := .lst ys) ⟨hz, its, c, rv, e⟩, rfl, q _ nf (new_big I (Nat.le_refl _))⟩
  rcases hq with hq | hq
  · obtain ⟨its, rv, pl, hz⟩ := I.list hq
    have hlen := rv.length
    obtain ⟨o, ho, hc, n, hd⟩ := pl.isList
    exact call_list_seq p (.inl rfl) ho hc hd (fun g c kp e => fin its rv hz g c kp e) (by simp only [List.size_toArray] <;> omega)
  · obtain ⟨its, rv, pl, hz⟩ := I.tuple hq
    have hlen := rv.length
    obtain ⟨o, ho, hc, n, hd⟩ := pl
    exact call_list_seq p (.inr rfl) ho hc hd (fun g c kp e => fin its rv hz g c kp e) (by simp only [List.size_toArray] <;> omega)
/-- repr(x), x data -/
def rReprD : List V → Hp → VK → Prop := fun xs H Q => ∃ x d, xs = [x] ∧ Dx H x d ∧ d.showable = true ∧ d.depth ≤ 100 ∧ d.shown.length ≤ sizeLine ∧ Q (.str d.shown) H
theorem call_reprD {k : Nat} (hr : Room k X.A) (hg : X.A.guards = some []) : CallR X (.builtin "repr") rReprD := by
  intro pins s σ H xs us Q I r h
  obtain ⟨x, d, e, hd, hs, hdp, hz, q⟩ := h
  subst e
  obtain ⟨u, rfl, rx⟩ := vals1 r
  obtain ⟨as, hrd, hn⟩ := Dx.reads I d x u hd rx
  have hu := hr.un
  have fin : ∀ h' u' tk, (∀ b o, s.heap.get? b = some o → h'.get? b = some o) → EP X pins σ Q (.str d.shown u') { s with heap := h', toks := tk } := fun h' u' tk hk =>
    ⟨.str d.shown, H, I.kept (t' := tk) hk, ⟨_, rfl⟩, q⟩
  cases hd with
  | non =>
    cases (show u = Value.none from rx)
    simp only [PyData.shown] at fin
    exact PySem.P.repr_of_none (fin _ _ _ fun _ _ e => e)
  | bl b =>
    cases (show u = Value.bool b from rx)
    simp only [PyData.shown] at fin
    exact PySem.P.repr_of_bool (fin _ _ _ fun _ _ e => e)
  | int i =>
    obtain ⟨t, z⟩ := (show ∃ t, u = Value.int i t from rx)
    cases z
    simp only [PyData.shown] at fin
    exact PySem.P.repr_of_int (by simpa [PyData.showable] using hs) (fin _ _ _ fun _ _ e => e)
  | str y =>
    obtain ⟨t, z⟩ := (show ∃ t, u = Value.str y t from rx)
    cases z
    simp only [PyData.shown] at fin hz
    exact PySem.P.repr_of_str (fin _ _ _ fun _ _ e => e) hz
  | lst e n h =>
    cases (show u = Value.ref _ from rx)
    exact repr_of_reads' hrd hs (fun _ => hn) hg (by omega) (fun _ _ e => e) fin hz
  | tup e h =>
    cases (show u = Value.ref _ from rx)
    exact repr_of_reads' hrd hs (fun _ => hn) hg (by omega) (fun _ _ e => e) fin hz
  | dic e =>
    cases (show u = Value.ref _ from rx)
    exact repr_of_reads' hrd hs (fun _ => hn) hg (by omega) (fun _ _ e => e) fin hz
  | dic1 e =>
    cases (show u = Value.ref _ from rx)
    exact repr_of_reads' hrd hs (fun _ => hn) hg (by omega) (fun _ _ e => e) fin hz
end
end KX

set_option maxRecDepth 100000
set_option maxHeartbeats 4000000
namespace KX
open PySem PySem.Spec PyProof.Rows L2 HT
section
variable {prog : Program} {w : World} {A : Around} {E : Value → Shared → Prop} {s : Shared}
theorem rev_adjust (n : Nat) : Builtin.Slice.sliceAdjust none none (-1) (n : Int) = ((n : Int) - 1, -1) := by
  unfold Builtin.Slice.sliceAdjust
  simp
theorem rev_places (n : Nat) : Builtin.Slice.slicePlaces ((n : Int) - 1) (-1) (-1) = n := by
  unfold Builtin.Slice.slicePlaces
  rw [if_neg (by decide)]
  by_cases h : (n : Int) - 1 > -1
  · rw [if_pos h]
    have : ((n : Int) - 1 - -1 - 1) / (- -1) + 1 = (n : Int) := by
      rw [show (- -1 : Int) = 1 by decide, Int.ediv_one]
      omega
    rw [this, Int.toNat_natCast]
  · rw [if_neg h]
    have : n = 0 := by omega
    subst this
    rfl
theorem rev_pick (xs : Array Value) : ((List.range xs.size).filterMap fun (k : Nat) => xs[(((xs.size : Nat) : Int) - 1 + (k : Int) * (-1)).toNat]?).toArray = xs.toList.reverse.toArray := by
  have e : (fun (k : Nat) => xs[(((xs.size : Nat) : Int) - 1 + (k : Int) * (-1)).toNat]?) = fun (k : Nat) => xs[xs.size - 1 - k]? := by
    funext k
    have : (((xs.size : Nat) : Int) - 1 + (k : Int) * (-1)).toNat = xs.size - 1 - k := by omega
    rw [this]
  rw [e]
  have e2 : (fun (k : Nat) => xs[xs.size - 1 - k]?) = (fun i => xs[i]?) ∘ fun k => xs.size - 1 - k := rfl
  rw [e2, ← List.filterMap_map, PySem.W.krv_range, List.filterMap_reverse, PySem.W.krv_all]
theorem applied_rev {sl : Addr} {vs : Value} {n : Nat} {Q : Int × Int × Nat → Shared → Prop} (hs : s.heap.IsSliceOf sl .none .none vs) (ps : IsPart vs (some (-1)))
    (h : Q ((n : Int) - 1, -1, n) s) : wpAny (model prog w) A (Builtin.Slice.sliceApplied (.ref sl) (pure (n : Int))) Q E s := by
  obtain ⟨os, hos, hcs, hds⟩ := id hs
  unfold Builtin.Slice.sliceApplied Builtin.Slice.sliceFields
  refine wpAny_bind (wpAny_bind (wpAny_field hos hds (x := .none) rfl (wpAny_bind (wpAny_field hos hds (x := .none) rfl (wpAny_bind (wpAny_field hos hds (x := vs) rfl (wpAny_pure ?_)))))))
  refine wpAny_bind (slicePart_ ps ?_)
  show wpAny _ _ (if ((-1 : Int) == 0) = true then _ else _) _ _ s
  rw [if_neg (by decide)]
  refine wpAny_bind (slicePart_none (wpAny_bind (slicePart_none (wpAny_bind (wpAny_pure ?_)))))
  show wpAny _ _ (match Builtin.Slice.sliceAdjust none none (-1) (n : Int) with | (lo, hi) => pure (lo, (-1 : Int), Builtin.Slice.slicePlaces lo hi (-1))) _ _ s
  rw [rev_adjust n]
  show wpAny _ _ (pure ((n : Int) - 1, (-1 : Int), Builtin.Slice.slicePlaces ((n : Int) - 1) (-1) (-1))) _ _ s
  rw [rev_places]
  exact wpAny_pure h
theorem getItem_tuple_rev {t sl : Addr} {items : Array Value} {vs : Value} {Q : Value → Shared → Prop} (ht : IsTup s.heap t items) (hs : s.heap.IsSliceOf sl .none .none vs) (ps : IsPart vs (some (-1)))
    (h : Q (.ref s.heap.objs.size) { s with heap := s.heap.push { cls := .type "tuple", data := .seq items.toList.reverse.toArray } })
    (hsz : items.size ≤ sizeLine) : wpAny (model prog w) A (getItem (.ref t) (.ref sl)) Q E s := by
  have htk : sizeOk (.seq items.toList.reverse.toArray) := by
    show items.toList.reverse.toArray.size ≤ sizeLine
    rw [List.size_toArray, List.length_reverse, Array.length_toList]
    exact hsz
  obtain ⟨os, hos, hcs, hds⟩ := id hs
  have hTs : s.TypeIs (.ref sl) "slice" := ⟨os, hos, hcs⟩
  unfold getItem
  try with_reducible refine wpAny_holding ?_
  first | refine wpAny_bind (wpAny_pure ?_) | skip
  refine wpAny_bind (wpAny_sequenceKey ht.typeIs (by decide) ?_)
  refine wpAny_bind (wpAny_callSpecial?_slot (name := Str.ofString "__getitem__") ht.typeIs PyProof.Rows.slot_tuple_getitem
    (wpAny_call_entry PyProof.Rows.slot_tuple_getitem ht.typeIs entry_tuple_getitem ?_ (args_tuple_getitem _ _)))
  show wpAny _ _ (Builtin.Tuple.tupleItemsOf (.ref t) >>= _) _ _ s
  refine wpAny_bind (tupleItemsOf_ ht ?_)
  refine wpAny_bind (wpAny_typeOf hTs ?_)
  rw [if_pos (by decide)]
  refine wpAny_bind (applied_rev hs ps ?_)
  have hno : ¬ ((((items.size : Nat) : Int) - 1 == 0 && (-1 : Int) == 1 && items.size == items.size) = true) := by
    intro q
    rw [Bool.and_eq_true, Bool.and_eq_true] at q
    exact absurd q.1.2 (by decide)
  show wpAny _ _ (if (((items.size : Nat) : Int) - 1 == 0 && (-1 : Int) == 1 && items.size == items.size) = true then _ else _) _ _ s
  rw [if_neg hno, rev_pick]
  first
    | exact wpAny_bind (m := Builtin.Tuple.tupleExact _) (wpAny_newObj_type (wpAny_pure ⟨_, rfl, wpAny_pure h⟩) htk)
    | exact wpAny_bind (m := Builtin.Tuple.tupleExact _) (wpAny_newObj_type (wpAny_bind (wpAny_pure (wpAny_pure ⟨_, rfl, wpAny_pure h⟩))) htk)
    | exact wpAny_bind (wpAny_bind (m := Builtin.Tuple.tupleExact _) (wpAny_newObj_type (wpAny_pure (wpAny_pure ⟨_, rfl, wpAny_pure h⟩)) htk))
    | exact wpAny_bind (wpAny_bind (m := Builtin.Tuple.tupleExact _) (wpAny_newObj_type (wpAny_pure ⟨_, rfl, wpAny_pure h⟩) htk))
end
section
variable {X : Cx}
/-- t[::-1], t a tuple: a new tuple -/
def tRevT (K : PySem.W.Frag) (te : TE) : TE := fun σ H Q => te σ H fun x H1 => ∃ a xs, x = .ref a ∧ SqT K H1 a xs ∧ ∀ p, H1 p = none → Q (.ref p) (upd H1 p (.tup xs.reverse))
theorem pe_revT {e : Expr} {te : TE} {k : Nat} {p1 p2 p3 pos : Pos} (he : PE X e te) : PE X (.Subscript e (.Slice none none (some (.UnaryOp .USub (.Constant (.int 1) k p1) p2)) p3) pos) (tRevT X.K te) := by
  constructor
  intro pins s σ H Q I h
  refine Subscript_ (thn (he.run pins s σ H _ I h) fun v s1 hh => ?_)
  obtain ⟨x, H1, I1, r1, a, xs, ex, hx, q⟩ := hh
  subst ex
  cases r1
  have hst : PO X (some (.UnaryOp .USub (.Constant (.int 1) k p1) p2)) (tPart (tUn (rU fun i => .int (-i)) (tC (.int 1)))) := po_some (pe_un un_neg pe_int)
  refine wpAny_Slice (thn (po_none.run pins s1 σ H1 (fun o H2 => o = none ∧ H2 = H1) I1 ⟨rfl, rfl⟩) fun vl s2 hh2 => ?_)
  obtain ⟨l, H2, I2, pl, el, e2⟩ := hh2
  subst el e2
  refine thn (po_none.run pins s2 σ H2 (fun o H3 => o = none ∧ H3 = H2) I2 ⟨rfl, rfl⟩) fun vu s3 hh3 => ?_
  obtain ⟨u, H3, I3, pu, eu, e3⟩ := hh3
  subst eu e3
  refine thn (hst.run pins s3 σ H3 (fun o H4 => o = some (-1) ∧ H4 = H3) I3 ⟨1, rfl, -1, rfl, rfl, rfl⟩) fun vs s4 hh4 => ?_
  obtain ⟨o, H4, I4, ps, eo, e4⟩ := hh4
  subst eo e4
  cases pl
  cases pu
  have I5 : Inv X pins σ H4 { s4 with heap := s4.heap.push { cls := .type "slice", data := .fields #[.none, .none, vs] } } := I4.kept (t' := s4.toks) fun b ob q => Heap.get?_push_of_some _ q
  obtain ⟨its, r, ht, hz⟩ := I5.tuple hx
  have hlen := r.length
  show wpAny (model X.prog X.w) X.A (subscriptTail e (.Slice none none (some (.UnaryOp .USub (.Constant (.int 1) k p1) p2)) p3) (.ref a) (.ref s4.heap.objs.size)) (EP X pins σ Q) X.xe { s4 with heap := s4.heap.push { cls := .type "slice", data := .fields #[.none, .none, vs] } }
  refine tail_any (ops := [.ref a, .ref s4.heap.objs.size]) ht.typeIs (PyProof.Rows.slot_tuple_getitem.lookup) ?_ (by with_unfolding_all rfl)
  refine getItem_tuple_rev ht (Heap.IsSliceOf.new _ .none .none vs) ps ?_ (by rw [List.size_toArray]; omega)
  refine ⟨.ref _, _, I5.laid (t' := s4.toks) (o := .tup xs.reverse) (fun b ob q => Heap.get?_push_of_some _ q) (Nat.le_refl _) ?_, rfl, q _ (I5.hok.fresh (Nat.le_refl _))⟩
  exact ⟨by rw [List.length_reverse]; exact hz, _, r.reverse, IsTup.new _ _⟩
/-- a power, great -/
theorem op_powW : OpR X (binaryOp .Pow) (rI (fun i j => 0 ≤ j ∧ (Builtin.Int.intBits i : Int) * j ≤ 2 ^ 27) fun i j => .int (i ^ j.toNat)) := opI fun _ _ _ _ _ _ _ hc q => pow_int hc.1 hc.2 q
end
end KX

set_option maxRecDepth 100000
set_option maxHeartbeats 4000000
namespace KX
open PySem PySem.Spec PyProof.Rows L2
/-! ### a def that shows data (repr): its promise where no repr runs around it -/
structure FnG (P : Program) (w : World) (K : PySem.W.Frag) (mg : Str → Option Value) (base : Heap) (CX : CXT) (k : Nat) (f : Addr) (fd : FuncData) (ps : List Str) (sp : Sp) : Prop where
  len : ∀ vs H Q E, sp vs H Q E → vs.length = ps.length
  run : ∀ (B : Around) (outs : List Env) (t : Shared) (H : Hp) (given : Args) (us : List Value) (vs : List V) (Q : VK) (E : XK), B.guards = some [] → Room k B → Env0 P w K mg base B outs t H →
    BindsTo t fd given (ps.zip us) → Vals vs us → sp vs H Q E → codeAny (model P w) B (.call (.ref f) given) (CR CX outs P w H t Q E) t
theorem FnG.mono {P : Program} {w : World} {K : PySem.W.Frag} {mg : Str → Option Value} {base : Heap} {CX : CXT} {j k : Nat} {f : Addr} {fd : FuncData} {ps : List Str} {sp : Sp} (F : FnG P w K mg base CX j f fd ps sp) (h : j ≤ k) :
    FnG P w K mg base CX k f fd ps sp := ⟨F.len, fun B outs t H given us vs Q E hg hr => F.run B outs t H given us vs Q E hg (hr.mono h)⟩
section
variable {X : Cx} {CX : CXT} {k : Nat} {f : Addr} {fd : FuncData} {ps : List Str} {sp : Sp} {dvs : List V} {ds : List Value} {E : XK} {x : Str} {p pos : Pos} {e : Expr} {es : List Expr} {t : TA}
theorem run_fnG {pins : List (Addr × Obj)} {σ : L2.St} {H : Hp} {s : Shared} {Q : VK} {us : List Value} {vs : List V} (F : FnG X.prog X.w X.K X.mg X.base CX k f fd ps sp) (hg : X.A.guards = some []) (hr : Room k X.A) (hb : Binds X.K fd ps ds)
    (hd : Vals dvs ds) (hx : Passes CX X E) (I : Inv X pins σ H s) (r : Vals vs us) (h : sp (vs ++ dvs) H Q E) : wpAny (model X.prog X.w) X.A (call (.ref f) us) (EP X pins σ Q) X.xe s := by
  have r2 : Vals (vs ++ dvs) (us ++ ds) := r.append hd
  have hl : (us ++ ds).length = ps.length := by
    rw [← r2.length]
    exact F.len _ _ _ _ h
  refine wpAny_call (codeAny_mono (F.run X.A X.stack s H ⟨us, []⟩ (us ++ ds) (vs ++ dvs) Q E hg hr I.env0 (hb s us I.kIn hl) r2 h) fun r s' hq => ?_)
  match r, hq with
  | .error e, hq => exact hx pins σ H s e s' I hq
  | .ok (.ret u), hq => exact I.after hq
theorem pe_callG (F : FnG X.prog X.w X.K X.mg X.base CX k f fd ps sp) (hgd : X.A.guards = some []) (hr : Room k X.A) (hg : Gl X x) (hm : X.mg x = some (.ref f)) (hk : PySem.W.keepIn X.K (.ref f) = true) (hb : Binds X.K fd ps ds)
    (hd : Vals dvs ds) (hx : Passes CX X E) (ha : PA X (e :: es) t) (hdb : (x == ("__debug__" : Str)) = false := by decide) (he : starEach (e :: es) X.env = (false, eval e X.env) :: starEach es X.env := by rfl)
    (hpl : (backTo pos (starEach es X.env)).any (·.1) = false := by rfl) : PE X (.Call (.Name x p) (e :: es) [] pos) (tCall sp dvs E t) := by
  constructor
  intro pins s σ H Q I h
  refine wpAny_Call_Name_kw (ld_glob I hg hm ?_ hdb)
  refine PySem.W.callWith_K (h₀ := X.base) I.ok.mod.kin hk (thn (ha.run pos pins s σ H _ I h) fun us s1 hh => ?_) he hpl
  obtain ⟨vs, H1, I1, r, q⟩ := hh
  exact ⟨I1.kIn, run_fnG F hgd hr hb hd hx I1 r q⟩
end
/-- a def of the text, where no repr runs around it -/
theorem fn_ofG {CX : CXT} {P : Program} {w : World} {K : PySem.W.Frag} {mg : Str → Option Value} {base : Heap} {k : Nat} {f : Addr} {name qual : Str} {params : Arguments} {body : List Stmt} {scope : Scope} {dV kV doc pm cdv ct oc : Value}
    {an od : Option Addr} {osl : Array (Option Value)} {N ps : List Str} {sp : Sp} (lk : K.lookup f = some ⟨oc, od, .func (PySem.W.fnOf name qual params body scope dV kV doc pm an cdv ct), osl⟩) (hcd : PySem.W.codeIn K cdv qual = true)
    (S : FnScope N ps scope) (len : ∀ vs H Q E, sp vs H Q E → vs.length = ps.length)
    (hbody : ∀ (B : Around) (outs : List Env) (s : Shared) (H : Hp) (vs : List V) (Q : VK) (E : XK), (B.deeper (envOfC qual scope s.heap.objs.size f cdv)).guards = some [] → Room k (B.deeper (envOfC qual scope s.heap.objs.size f cdv)) → sp vs H Q E →
      ∃ t, PSs (cxOf CX P w K mg base N qual scope f cdv B outs s H E) body t ∧ t { nx := fun _ H' => Q .non H', rt := Q } (start N vs) H) :
    FnG P w K mg base CX (k + 1) f (PySem.W.fnOf name qual params body scope dV kV doc pm an cdv ct) ps sp := by
  refine ⟨len, fun B outs s H given us vs Q E hg hr e0 hb r hsp => ?_⟩
  have hl := len _ _ _ _ hsp
  have KX : K.In s.heap := e0.mod.kin.keeps fun b o e => (e0.bs b o e).1
  have lim : s.heap.NoLimit := e0.mod.nolimit.keeps fun b o e => (e0.bs b o e).1
  have hkind : ∀ y ∈ ps.zip us, scope.names.lookup y.1 = some .local ∨ (scope.names.lookup y.1 = some .cell ∧ ((cellsFrom (s.heap.objs.size + 1) scope.names []).lookup y.1).isSome = true) := by
    rintro ⟨n, v⟩ hy
    rcases S.par n (List.of_mem_zip hy).1 with q | q
    · exact .inl q
    · exact .inr ⟨q, PySem.W.cellsFrom_some _ _ _ (.inl q)⟩
  refine codeAny_call_function hr.depth (KX _ _ lk) rfl S.co S.gen rfl (PySem.W.codeRec_of KX hcd) (hb _ _ _ _ ?_)
  refine wpAny_newFunctionEnv_cells S.kind hkind fun env he s1 x => ?_
  subst he
  refine ⟨lim.keeps x.toInCall.keep, codeAny_func ?_⟩
  obtain ⟨t, ht, hq⟩ := hbody B outs s H vs Q E hg (hr.deeper _) hsp
  have I : Inv (cxOf CX P w K mg base N qual scope f cdv B outs s H E) [] (start N vs) H s1 := inv_start S hr.hd e0 hl r x
  refine wpAny_mono (ht.run [] s1 (start N vs) H _ I hq) (fun fl s' hs => ?_) fun e s' hs => hs
  match fl, hs with
  | .ret u, hs =>
    obtain ⟨v, σ', H', J, rv, q⟩ := hs
    exact ⟨v, H', J.os, J.bare, J.base, J.hok, rv, q⟩
  | .next, hs =>
    obtain ⟨σ', H', J, q⟩ := hs
    exact ⟨V.non, H', J.os, J.bare, J.base, J.hok, rfl, q⟩
  | .brk, hs =>
    obtain ⟨_, _, _, q⟩ := hs
    exact False.elim q
  | .cont, hs =>
    obtain ⟨_, _, _, q⟩ := hs
    exact False.elim q
theorem okG {P : Program} {w : World} {K : PySem.W.Frag} {mg : Str → Option Value} {base : Heap} {x qual : Str} {st : Stmt} {f : Addr} {fd : FuncData} {N ps : List Str} {k : Nat} {sp : Sp} (F : Fun K x qual st f fd) (S : FnScope N ps (defScope st))
    (len : ∀ vs H Q E, sp vs H Q E → vs.length = ps.length)
    (hbody : ∀ (cdv : Value) (B : Around) (outs : List Env) (s : Shared) (H : Hp) (vs : List V) (Q : VK) (E : XK), (B.deeper (envOfC qual (defScope st) s.heap.objs.size f cdv)).guards = some [] → Room k (B.deeper (envOfC qual (defScope st) s.heap.objs.size f cdv)) →
      sp vs H Q E → ∃ t, PSs (cxOf CX0 P w K mg base N qual (defScope st) f cdv B outs s H E).nox (defBody st) t ∧ t { nx := fun _ H' => Q .non H', rt := Q } (start N vs) H) : FnG P w K mg base CX0 (k + 1) f fd ps sp := by
  obtain ⟨oc, od, kV, doc, pm, an, cdv, ct, osl, rfl, lk, hcd⟩ := F.ex
  refine fn_ofG lk hcd S len fun B outs s H vs Q E hg hr hsp => ?_
  obtain ⟨t, h, q⟩ := hbody cdv B outs s H vs Q E hg hr hsp
  exact ⟨t, h.nox, q⟩

/-! ### the law's call -/
theorem lawG {P : Program} {w : World} {K : PySem.W.Frag} {mg mb : Str → Option Value} {k : Nat} {fa a : Addr} {fd : FuncData} {x : Str} {sp : Sp} {s1 : Shared} {vs : List Value} {ns : List Int}
    (KX : K.In s1.heap) (hns : s1.heap.Ns mainGlobals mg) (hb : s1.heap.Ns builtinsNs mb) (hbb : ∀ x : Str, x ≠ "__name__" → mb x = bootBuiltins x) (hlim : s1.heap.NoLimit) (hg : s1.gens = #[])
    (ha : s1.heap.get? a = some { cls := .type "list", data := .seq vs.toArray }) (hi : IntsAre vs ns) (hl : ns.length ≤ sizeLine) (hr : Room k callerA)
    (F : ∀ base : Heap, K.In base → base.Ns mainGlobals mg → FnG P w K mg base CX0 k fa fd [x] sp) (hbind : ∀ (s : Shared) (u : Value), BindsTo s fd ⟨[u], []⟩ [(x, u)])
    (hsp : ∀ H : Hp, SqL K H a (ns.map V.int) → (∀ b o, H b = some o → ∃ ob u, o = .frz ob u) → sp [.ref a] H (fun v _ => v = .bl true) fun _ _ _ => False) :
    codeAny (model P w) callerA (.call (.ref fa) ⟨[.ref a], []⟩) (fun r s' => r = .ok (.ret (.bool true)) ∧ OldK s1.heap s'.heap ∧ s'.os = s1.os ∧ AllBare s'.gens) s1 := by
  have rv := vals_ints hi
  have lenV := hi.length
  -- the script at a, known to the object, where it is no object of the module; nothing else
  have main : ∀ H : Hp, (∀ b o, H b = some o → b = a ∧ K.lookup a = none ∧ o = .frz { cls := .type "list", data := .seq vs.toArray } (.lst (ns.map V.int))) → SqL K H a (ns.map V.int) →
      codeAny (model P w) callerA (.call (.ref fa) ⟨[.ref a], []⟩) (fun r s' => r = .ok (.ret (.bool true)) ∧ OldK s1.heap s'.heap ∧ s'.os = s1.os ∧ AllBare s'.gens) s1 := by
    intro H hO hS
    have hok : HOk P w H s1.heap := fun b o e => by
      obtain ⟨e1, _, e2⟩ := hO b o e
      subst e1 e2
      exact ⟨ha, by rw [List.length_map]; exact hl, vs, _, rv, ha⟩
    have keep : ∀ {b : Addr} {o : Obj}, s1.heap.get? b = some o → (b = a → False) → (hidT s1.heap H).get? b = some o := fun {b o} e n => hidT_get e (by
      cases q : H b with
      | none => rfl
      | some u => exact (n (hO b u q).1).elim)
    have nsK : ∀ {b : Addr} {m : Str → Option Value}, s1.heap.Ns b m → (hidT s1.heap H).Ns b m := fun {b m} hn => by
      obtain ⟨o, es, ep, e, d, r⟩ := hn
      refine ⟨o, es, ep, keep e fun z => ?_, d, r⟩
      subst z
      rw [ha] at e
      cases e
      cases d
    have hKb : K.In (hidT s1.heap H) := fun b o e => hidT_get (KX b o e) (by
      cases q : H b with
      | none => rfl
      | some u =>
        obtain ⟨e1, e2, _⟩ := hO b u q
        rw [e1, e2] at e
        cases e)
    have hM : Mod K mg (hidT s1.heap H) := ⟨hKb, nsK hns, ⟨mb, nsK hb, hbb⟩, let ⟨mc, h1, h2⟩ := hlim; ⟨mc, nsK h1, h2⟩⟩
    have e0 : Env0 P w K mg (hidT s1.heap H) callerA [] s1 H := ⟨rfl, hM, fun b o e => of_hidT e, Nat.le_of_eq (hidT_size _ _), trivial, fun b hb => absurd (show b ∈ ([] : List Addr) from hb) (by simp), hok, .of_eq hg⟩
    have fr : ∀ b o, H b = some o → ∃ ob u, o = .frz ob u := fun b o e => ⟨_, _, (hO b o e).2.2⟩
    refine codeAny_mono ((F _ hKb (nsK hns)).run callerA [] s1 H ⟨[.ref a], []⟩ [.ref a] [.ref a] _ _ rfl hr e0 (hbind s1 (.ref a)) (.cons rfl .nil) (hsp H hS fr)) fun r s' h => ?_
    match r, h with
    | .error e, h => exact h.elim
    | .ok (.ret u), h =>
      obtain ⟨v, H', os, bare, un, hok', r', q⟩ := h
      have q' : v = .bl true := q
      subst q'
      obtain rfl : u = Value.bool true := r'
      refine ⟨rfl, OldK.of_keep fun b o e => ?_, os, bare⟩
      cases q : H b with
      | none => exact un.keep b o e q (fun z => absurd (show b ∈ ([] : List Addr) from z) (by simp)) (by simp)
      | some u =>
        obtain ⟨e1, _, e2⟩ := hO b u q
        rw [e2] at q
        obtain ⟨f1, _⟩ := hok b _ q
        obtain ⟨f2, _⟩ := hok' b _ (un.frzs b _ _ q)
        rw [e] at f1
        cases f1
        exact f2
  cases hk : K.lookup a with
  | some o =>
    have e := KX a o hk
    rw [ha] at e
    cases e
    exact main (fun _ => none) (fun b u z => by cases (show (none : Option HO) = some u from z)) (.inr ⟨_, vs.toArray, _, hk, rfl, rfl, rfl, by rw [List.size_toArray, lenV]; exact hl, by simpa using rv⟩)
  | none =>
    refine main (fun b => if b = a then some (.frz { cls := .type "list", data := .seq vs.toArray } (.lst (ns.map V.int))) else none) (fun b u z => ?_) (.inl (.inr ⟨_, if_pos rfl⟩))
    by_cases hb : b = a
    · have z' := (if_pos hb).symm.trans z
      cases z'
      exact ⟨hb, hk, rfl⟩
    · have z' := (if_neg hb).symm.trans z
      cases z'
theorem walkG {l : PySem.W.OpenLaw} {n k : Nat} {q : Program} {loose : List Str} {XP : (Str → Option Value) → Heap → Prop} {YP : World → Heap → Prop} {d : DefRec} {K : Params → PySem.W.Frag} {sp : PySem.W.Frag → Sp} {x : Str}
    (hn : l.most = some n) (hn2 : n ≤ sizeLine) (hdf : d.params.defaults = []) (hr : Room k callerA) (hY : ∀ (w : World) (h : Heap), YP w h → (K w.params).In h)
    (F : ∀ (w : World) (mg : Str → Option Value) (fa : Addr) (h : Heap), (K w.params).In h → h.Ns mainGlobals mg → mg d.name = some (.ref fa) →
      ∃ fd : FuncData, (∀ (s : Shared) (u : Value), BindsTo s fd ⟨[u], []⟩ [(x, u)]) ∧ ∀ base : Heap, (K w.params).In base → base.Ns mainGlobals mg → FnG l.prog w (K w.params) mg base CX0 k fa fd [x] (sp (K w.params)))
    (hsp : ∀ (K : PySem.W.Frag) (H : Hp) (a : Addr) (ns : List Int), ns.length ≤ n → SqL K H a (ns.map V.int) → (∀ b o, H b = some o → ∃ ob u, o = .frz ob u) → sp K [.ref a] H (fun v _ => v = .bl true) fun _ _ _ => False) :
    PySem.W.WalkO q loose XP YP l.row.toRowW d [] (fun f vs => PySem.call f vs) := by
  refine Att.attach_call hn hdf fun w s₀ s1 mg mb fa o pm cd doc a vs ns G Y ho hd hcd hmg hobj hints hlen hg => ?_
  have KX := hY w _ Y
  obtain ⟨fd, hb, hF⟩ := F w mg fa _ KX G.T.g hmg
  exact lawG KX G.T.g G.T.b G.T.builtins G.T.nolimit hg hobj hints (Nat.le_trans hlen hn2) hr hF hb fun H hS hO => hsp (K w.params) H a ns hlen hS hO
end KX

set_option maxRecDepth 100000
set_option maxHeartbeats 4000000
namespace KX
open PySem PySem.Spec PyProof.Rows L2
section
variable {X : Cx}
/-- == and != of data without dicts -/
def rEqP (K : PySem.W.Frag) (f : Bool → Bool) : R2 := fun x y H Q => ∃ d e, Dp K H x d ∧ Dp K H y e ∧ d.plain = true ∧ e.plain = true ∧ min d.depth e.depth ≤ 64 ∧ Q (.bl (f (PyData.eqv d e))) H
theorem op_eqP (hu : X.A.units + 64 < cLine) : OpR X (compareOp .Eq) (rEqP X.K id) := by
  intro pins s σ H x y v u Q I rx ry h
  obtain ⟨d, e, hd, he, pd, pe, hm, q⟩ := h
  obtain ⟨as, r1⟩ := Dp.reads I d x v hd rx
  obtain ⟨bs, r2⟩ := Dp.reads I e y u he ry
  exact SeqAt.eq_plain r1 r2 pd pe (by omega) ⟨.bl _, H, I, rfl, q⟩
theorem op_neP (hu : X.A.units + 64 < cLine) : OpR X (compareOp .NotEq) (rEqP X.K not) := by
  intro pins s σ H x y v u Q I rx ry h
  obtain ⟨d, e, hd, he, pd, pe, hm, q⟩ := h
  obtain ⟨as, r1⟩ := Dp.reads I d x v hd rx
  obtain ⟨bs, r2⟩ := Dp.reads I e y u he ry
  exact SeqAt.ne_plain r1 r2 pd pe (by omega) ⟨.bl _, H, I, rfl, q⟩
end
/-- a list of ones against the empty list -/
theorem dp_ints {K : PySem.W.Frag} {H : Hp} : ∀ (ns : List Int), DpAll K H (ns.map V.int) (ns.map PyData.int)
  | [] => .nil
  | n :: ns => .cons (.int n) (dp_ints ns)
theorem dp_strs {K : PySem.W.Frag} {H : Hp} : ∀ (ns : List Str), DpAll K H (ns.map V.str) (ns.map PyData.str)
  | [] => .nil
  | n :: ns => .cons (.str n) (dp_strs ns)
theorem pl_ints : ∀ ns : List Int, PyData.plainAll (ns.map PyData.int) = true
  | [] => rfl
  | n :: ns => by simp [PyData.plainAll, PyData.plain, pl_ints ns]
theorem pl_strs : ∀ ns : List Str, PyData.plainAll (ns.map PyData.str) = true
  | [] => rfl
  | n :: ns => by simp [PyData.plainAll, PyData.plain, pl_strs ns]
theorem eqv_nil (ds : List PyData) : PyData.eqv (.list ds) (.list []) = ds.isEmpty := by
  cases ds <;> simp [PyData.eqv, PyData.eqvAll]
theorem min_nil (d : PyData) : min d.depth (PyData.list []).depth ≤ 64 := by
  have : (PyData.list []).depth ≤ 64 := by decide
  omega
end KX

set_option maxRecDepth 100000
set_option maxHeartbeats 4000000
namespace KX
open PySem PySem.Spec PyProof.Rows L2
/-! ### how great data are -/
/-- {} and {text: int} -/
def fineK (B : Nat) : List (PyData × PyData) → Bool
  | [] => true
  | [(.str x, .int i)] => (x.cps.toList.all fun c => decide (c < 128)) && decide (x.length ≤ 20) && decide (i.natAbs ≤ B)
  | _ => false
theorem fineK_is {B : Nat} {kvs : List (PyData × PyData)} (h : fineK B kvs = true) : kvs = [] ∨ ∃ x i, kvs = [(.str x, .int i)] ∧ (∀ c ∈ x.cps.toList, c < 128) ∧ x.length ≤ 20 ∧ i.natAbs ≤ B := by
  unfold fineK at h
  split at h
  · exact .inl rfl
  · rename_i x i
    simp only [Bool.and_eq_true, decide_eq_true_eq, List.all_eq_true] at h
    exact .inr ⟨x, i, rfl, h.1.1, h.1.2, h.2⟩
  · cases h
mutual
/-- ints within B, texts of plain signs, no dict but {} and {text: int} -/
def fine (B : Nat) : PyData → Bool
  | .none => true
  | .bool _ => true
  | .int i => decide (i.natAbs ≤ B)
  | .str x => x.cps.toList.all fun c => decide (c < 128)
  | .list xs => fineAll B xs
  | .tuple xs => fineAll B xs
  | .dict kvs => fineK B kvs
def fineAll (B : Nat) : List PyData → Bool
  | [] => true
  | x :: xs => fine B x && fineAll B xs
end
mutual
def wt : PyData → Nat
  | .str x => x.length + 1
  | .list xs => wtAll xs + 1
  | .tuple xs => wtAll xs + 1
  | _ => 1
def wtAll : List PyData → Nat
  | [] => 0
  | x :: xs => wt x + wtAll xs
end
theorem fineAll_app (B : Nat) : ∀ xs ys, fineAll B (xs ++ ys) = (fineAll B xs && fineAll B ys)
  | [], ys => by simp [fineAll]
  | x :: xs, ys => by simp [fineAll, fineAll_app B xs ys, Bool.and_assoc]
theorem wtAll_app : ∀ xs ys, wtAll (xs ++ ys) = wtAll xs + wtAll ys
  | [], ys => by simp [wtAll]
  | x :: xs, ys => by simp [wtAll, wtAll_app xs ys, Nat.add_assoc]
theorem fineAll_mem {B : Nat} : ∀ {xs : List PyData}, fineAll B xs = true ↔ ∀ x ∈ xs, fine B x = true
  | [] => by simp [fineAll]
  | x :: xs => by simp [fineAll, fineAll_mem (xs := xs)]
theorem wt_mem : ∀ {xs : List PyData} {x : PyData}, x ∈ xs → wt x ≤ wtAll xs
  | y :: xs, x, h => by
    rcases List.mem_cons.mp h with rfl | h
    · simp [wtAll]
    · have := wt_mem h
      simp [wtAll]
      omega
theorem wtAll_take (n : Nat) : ∀ xs, wtAll (xs.take n) + wtAll (xs.drop n) = wtAll xs := fun xs => by
  rw [← wtAll_app, List.take_append_drop]
theorem wtAll_rev : ∀ xs, wtAll xs.reverse = wtAll xs
  | [] => rfl
  | x :: xs => by
    rw [List.reverse_cons, wtAll_app, wtAll_rev xs]
    simp [wtAll]
    omega
theorem len_wt : ∀ xs : List PyData, xs.length ≤ wtAll xs
  | [] => Nat.zero_le _
  | x :: xs => by
    have := len_wt xs
    have h : 1 ≤ wt x := by cases x <;> simp [wt]
    simp [wtAll]
    omega
mutual
theorem fine_le {B C : Nat} (h : B ≤ C) : ∀ d : PyData, fine B d = true → fine C d = true
  | .none, _ => by simp [fine]
  | .bool _, _ => by simp [fine]
  | .int i, q => by simp [fine] at q ⊢; omega
  | .str x, q => by simpa [fine] using q
  | .list xs, q => by simp only [fine] at q ⊢; exact fineAll_le h xs q
  | .tuple xs, q => by simp only [fine] at q ⊢; exact fineAll_le h xs q
  | .dict kvs, q => by
    rcases fineK_is (show fineK B kvs = true from q) with rfl | ⟨x, i, rfl, h1, h2, h3⟩
    · rfl
    · show fineK C [(.str x, .int i)] = true
      simp only [fineK, Bool.and_eq_true, decide_eq_true_eq, List.all_eq_true]
      exact ⟨⟨h1, h2⟩, by omega⟩
theorem fineAll_le {B C : Nat} (h : B ≤ C) : ∀ ds : List PyData, fineAll B ds = true → fineAll C ds = true
  | [], _ => by simp [fineAll]
  | x :: xs, q => by
    simp only [fineAll, Bool.and_eq_true] at q ⊢
    exact ⟨fine_le h x q.1, fineAll_le h xs q.2⟩
end
theorem piled_cons' (t : Str) (r : List Str) : piled (t :: r) = t.length + 2 + piled r := by
  rw [piled_cons]
theorem listText_le (ts : List Str) : (listText ts).length ≤ piled ts + 2 := by
  unfold listText
  rw [strLen_append]
  cases ts with
  | nil => show 1 + 1 ≤ _; simp [piled]
  | cons t r =>
    show (textFrom 1 ((("[" : Str) ++ ("" : Str)) ++ t) r).length + 1 ≤ _
    rw [textFrom_length_pos _ _ _ (by decide), strLen_append, strLen_append, piled_cons']
    show 1 + 0 + t.length + piled r + 1 ≤ _
    omega
theorem tupleText_le (ts : List Str) : (tupleText ts).length ≤ piled ts + 3 := by
  unfold tupleText
  rw [strLen_append, strLen_append]
  have h2 : ((if ts.length == 1 then ",)" else ")" : String) : Str).length ≤ 2 := by
    split <;> decide
  have h1 : (("(" : Str)).length = 1 := rfl
  by_cases h : ts = []
  · subst h
    have : (Str.join ", " ([] : List Str)).length = 0 := rfl
    omega
  · have := join_length_add ts h
    omega
mutual
theorem shown_le {B : Nat} (hB : B < 10 ^ 400) : ∀ d : PyData, fine B d = true → d.shown.length + 10 ≤ 1000 * wt d
  | .none, _ => by simp only [PyData.shown]; show 4 + 10 ≤ 1000 * 1; decide
  | .bool b, _ => by cases b <;> simp only [PyData.shown] <;> decide
  | .int i, q => by
    have q : i.natAbs ≤ B := by simpa [fine] using q
    have h : (toString i).length ≤ 400 + 1 := PySem.int_text_length_le10 (a := i) (k := 400) (by decide) (by omega)
    simp only [PyData.shown, wt]
    have e : (Str.ofString (toString i)).length = (toString i).length := PySem.ofString_length _
    show (Str.ofString (toString i)).length + 10 ≤ _
    omega
  | .str x, q => by
    have q : ∀ c ∈ x.cps.toList, c < 128 := by
      have q : (x.cps.toList.all fun c => decide (c < 128)) = true := q
      intro c hc
      exact of_decide_eq_true (List.all_eq_true.mp q c hc)
    have h := PySem.StrLaws.reprText_len x fun c hc => Nat.lt_trans (q c hc) (by decide)
    simp only [PyData.shown, wt]
    omega
  | .list xs, q => by
    have q : fineAll B xs = true := by simpa only [fine] using q
    have h1 := listText_le (PyData.shownAll xs)
    have h2 := shownAll_le hB xs q
    simp only [PyData.shown, wt]
    omega
  | .tuple xs, q => by
    have q : fineAll B xs = true := by simpa only [fine] using q
    have h1 := tupleText_le (PyData.shownAll xs)
    have h2 := shownAll_le hB xs q
    simp only [PyData.shown, wt]
    omega
  | .dict kvs, q => by
    rcases fineK_is (show fineK B kvs = true from q) with rfl | ⟨x, i, rfl, h1, h2, h3⟩
    · simp only [PyData.shown, PyData.shownKv]
      show (2 : Nat) + 10 ≤ 1000 * 1
      decide
    · have h := PySem.StrLaws.reprText_len x fun c hc => Nat.lt_trans (h1 c hc) (by decide)
      have h5 : (toString i).length ≤ 400 + 1 := PySem.int_text_length_le10 (a := i) (k := 400) (by decide) (by omega)
      have e : (Str.ofString (toString i)).length = (toString i).length := PySem.ofString_length _
      have h6 := dictText_len_le (PyData.shownKv [(.str x, .int i)])
      simp only [PyData.shown, PyData.shownKv, wt, List.map_cons, List.map_nil, List.sum_cons, List.sum_nil, List.length_cons, List.length_nil, strLen_append] at h6 ⊢
      have e2 : ((": " : Str)).length = 2 := rfl
      have e3 : (Str.ofString (toString i)).length ≤ 401 := by omega
      change _ ≤ (reprText x).length + (": " : Str).length + (Str.ofString (toString i)).length + 0 + 2 * (0 + 1) + 3 at h6
      omega
theorem shownAll_le {B : Nat} (hB : B < 10 ^ 400) : ∀ ds : List PyData, fineAll B ds = true → piled (PyData.shownAll ds) ≤ 1000 * wtAll ds
  | [], _ => by simp [PyData.shownAll, piled]
  | x :: xs, q => by
    simp only [fineAll, Bool.and_eq_true] at q
    have h1 := shown_le hB x q.1
    have h2 := shownAll_le hB xs q.2
    simp only [PyData.shownAll, wtAll]
    rw [piled_cons']
    have h : 1 ≤ wt x := by cases x <;> simp [wt]
    omega
end
end KX
namespace KX
open PySem PySem.Spec PyProof.Rows L2
theorem log_of_fine {B : Nat} (hB : B < 10 ^ 400) {i : Int} (h : i.natAbs ≤ B) : i.natAbs.log2 < 1920 := by
  by_cases z : i.natAbs = 0
  · rw [z]; decide
  · refine (Nat.log2_lt z).mpr ?_
    have : (10 : Nat) ^ 400 < 2 ^ 1920 := by decide +kernel
    omega
mutual
theorem showable_fine {B : Nat} (hB : B < 10 ^ 400) : ∀ d : PyData, fine B d = true → d.showable = true
  | .none, _ => by simp only [PyData.showable]
  | .bool b, _ => by simp only [PyData.showable]
  | .int i, q => by
    have q : i.natAbs ≤ B := by simpa [fine] using q
    simp only [PyData.showable]
    exact decide_eq_true (log_of_fine hB q)
  | .str x, _ => by simp only [PyData.showable]
  | .list xs, q => by
    simp only [PyData.showable]
    exact showableAll_fine hB xs (by simpa only [fine] using q)
  | .tuple xs, q => by
    simp only [PyData.showable]
    exact showableAll_fine hB xs (by simpa only [fine] using q)
  | .dict kvs, q => by
    rcases fineK_is (show fineK B kvs = true from q) with rfl | ⟨x, i, rfl, h1, h2, h3⟩
    · simp only [PyData.showable, PyData.showableKv]
    · simp only [PyData.showable, PyData.showableKv, Bool.and_true, Bool.true_and]
      exact decide_eq_true (log_of_fine hB h3)
theorem showableAll_fine {B : Nat} (hB : B < 10 ^ 400) : ∀ ds : List PyData, fineAll B ds = true → PyData.showableAll ds = true
  | [], _ => by simp only [PyData.showableAll]
  | x :: xs, q => by
    simp only [fineAll, Bool.and_eq_true] at q
    simp only [PyData.showableAll, showable_fine hB x q.1, showableAll_fine hB xs q.2, Bool.and_self]
end
mutual
theorem depth_wt {B : Nat} : ∀ d : PyData, fine B d = true → d.depth ≤ wt d
  | .none, _ => by simp [PyData.depth]
  | .bool b, _ => by simp [PyData.depth]
  | .int i, _ => by simp [PyData.depth]
  | .str x, _ => by simp [PyData.depth]
  | .list xs, q => by
    have := depthAll_wt xs (B := B) (by simpa only [fine] using q)
    simp only [PyData.depth, wt]
    omega
  | .tuple xs, q => by
    have := depthAll_wt xs (B := B) (by simpa only [fine] using q)
    simp only [PyData.depth, wt]
    omega
  | .dict kvs, q => by
    rcases fineK_is (show fineK B kvs = true from q) with rfl | ⟨x, i, rfl, h1, h2, h3⟩ <;> simp [PyData.depth, PyData.depthKv, wt]
theorem depthAll_wt {B : Nat} : ∀ ds : List PyData, fineAll B ds = true → PyData.depthAll ds ≤ wtAll ds
  | [], _ => by simp [PyData.depthAll]
  | x :: xs, q => by
    simp only [fineAll, Bool.and_eq_true] at q
    have h1 := depth_wt x q.1
    have h2 := depthAll_wt xs q.2
    simp only [PyData.depthAll, wtAll]
    omega
end
/-- data that can be shown -/
structure Good (B n : Nat) (d : PyData) : Prop where
  f : fine B d = true
  w : wt d ≤ n
theorem Good.show {B n : Nat} {d : PyData} (g : Good B n d) (hB : B < 10 ^ 400) (hn : n ≤ 100) : d.showable = true ∧ d.depth ≤ 100 ∧ d.shown.length ≤ sizeLine := by
  have h1 := depth_wt d g.f
  have h2 := shown_le hB d g.f
  have h3 := g.w
  refine ⟨showable_fine hB d g.f, by omega, ?_⟩
  rw [sizeLine_eq]
  omega
theorem Good.mono {B n B' n' : Nat} {d : PyData} (g : Good B n d) (h : B ≤ B') (h' : n ≤ n') : Good B' n' d := ⟨fine_le h d g.f, Nat.le_trans g.w h'⟩
/-- new objects beside a stream -/
def hid (l : Addr) (H : Hp) : Hp := fun b => if b = l then none else H b
theorem hid_at {l b : Addr} {H : Hp} (h : b ≠ l) : hid l H b = H b := if_neg h
theorem hid_some {l b : Addr} {H : Hp} {o : HO} (h : hid l H b = some o) : b ≠ l ∧ H b = some o := by
  unfold hid at h
  split at h
  · cases h
  · exact ⟨by assumption, h⟩
/-- all but what stands at l is as it was -/
def Keep (l : Addr) (H H' : Hp) : Prop := ∀ b o, b ≠ l → H b = some o → H' b = some o
theorem Keep.same {l : Addr} {H H' : Hp} (k : Keep l H H') : Same (hid l H) (hid l H') := fun b o e => by
  obtain ⟨n, e⟩ := hid_some e
  rw [hid_at n]
  exact k b o n e
theorem Keep.refl (l : Addr) (H : Hp) : Keep l H H := fun _ _ _ e => e
theorem Keep.trans {l : Addr} {H H1 H2 : Hp} (a : Keep l H H1) (b : Keep l H1 H2) : Keep l H H2 := fun c o n e => b c o n (a c o n e)
theorem Keep.of {l : Addr} {H H' : Hp} (s : Same H H') : Keep l H H' := fun b o _ e => s b o e
theorem Keep.at {l : Addr} {H : Hp} {o : HO} : Keep l H (upd H l o) := fun b u n e => by rw [upd_ne n]; exact e
theorem Keep.new {l p : Addr} {H H' : Hp} {o : HO} (k : Keep l H H') (n : H' p = none) : Keep l H (upd H' p o) := k.trans (Keep.of fun b u e => by rw [upd_ne (ne_of_none e n)]; exact e)
theorem Keep.upd {l : Addr} {H H' : Hp} {o : HO} (k : Keep l H H') : Keep l H (upd H' l o) := k.trans Keep.at
theorem hid_same (l : Addr) (H : Hp) : Same (hid l H) H := fun b o e => (hid_some e).2
/-- a stream stands at l -/
def StO (H : Hp) (l : Addr) : Prop := ∃ a b c : Int, H l = some (.lst [.int a, .int b, .int c])
theorem StO.ne {l p : Addr} {H : Hp} (h : StO H l) (n : H p = none) : p ≠ l := by
  obtain ⟨a, b, c, e⟩ := h
  exact (ne_of_none e n).symm
theorem StO.new {l p : Addr} {H : Hp} {o : HO} (h : StO H l) (n : H p = none) : StO (upd H p o) l := by
  obtain ⟨a, b, c, e⟩ := id h
  exact ⟨a, b, c, by rw [upd_ne (h.ne n).symm]; exact e⟩
theorem StO.same {l : Addr} {H H' : Hp} (h : StO H l) (s : Same H H') : StO H' l := by
  obtain ⟨a, b, c, e⟩ := h
  exact ⟨a, b, c, s _ _ e⟩
theorem hnew {l p : Addr} {H : Hp} {o : HO} (n : H p = none) : Same (hid l H) (hid l (L2.upd H p o)) := ((Keep.refl l H).new n).same
theorem dx_tup {l p : Addr} {H : Hp} {xs : List V} {ds : List PyData} (n : H p = none) (st : StO H l) (h : Dxs (hid l H) xs ds) : Dx (hid l (L2.upd H p (.tup xs))) (.ref p) (.tuple ds) :=
  .tup (by rw [hid_at (st.ne n)]; exact upd_same) (h.up (hnew n))
theorem dx_lst {l p : Addr} {H : Hp} {xs : List V} {ds : List PyData} (n : H p = none) (z : p ≠ sysModules) (st : StO H l) (h : Dxs (hid l H) xs ds) : Dx (hid l (L2.upd H p (.lst xs))) (.ref p) (.list ds) :=
  .lst (by rw [hid_at (st.ne n)]; exact upd_same) z (h.up (hnew n))
theorem dx_dic1 {l p : Addr} {H : Hp} {x : Str} {i : Int} (n : H p = none) (st : StO H l) : Dx (hid l (L2.upd H p (.dK [(.inr x, .int i)]))) (.ref p) (.dict [(.str x, .int i)]) :=
  .dic1 (by rw [hid_at (st.ne n)]; exact upd_same)
theorem dx_dic {l p : Addr} {H : Hp} (n : H p = none) (st : StO H l) : Dx (hid l (L2.upd H p (.dK []))) (.ref p) (.dict []) :=
  .dic (by rw [hid_at (st.ne n)]; exact upd_same)
end KX

set_option maxRecDepth 100000
set_option maxHeartbeats 4000000
namespace KX
open PySem PySem.Spec PyProof.Rows L2
open PySem.W (AllAlike Sortable EachIs dataLe)
theorem each_pairs {β : Type} {R : Value → β → Prop} : ∀ {us : List Value} {bs : List β}, (us.length = bs.length) → (∀ (i : Nat) u b, us[i]? = some u → bs[i]? = some b → R u b) → EachIs R us bs
  | [], [], _, _ => .nil
  | u :: us, b :: bs, hl, h => .cons (h 0 u b rfl rfl) (each_pairs (by simpa using hl) fun i u b e f => h (i + 1) u b (by simpa using e) (by simpa using f))
  | [], _ :: _, hl, _ => by simp at hl
  | _ :: _, [], hl, _ => by simp at hl
section
variable {X : Cx}
/-- sorted(xs), xs alike data -/
def rSortE {β : Type} (K : PySem.W.Frag) (enc : β → PyData) : List V → Hp → VK → Prop := fun vs H Q => ∃ (a : Addr) (bs : List (V × β)), vs = [.ref a] ∧ SqL K H a (bs.map (·.1)) ∧ (∀ b ∈ bs, Dp K H b.1 (enc b.2)) ∧ AllAlike (bs.map fun b => enc b.2) ∧ Sortable (bs.map fun b => enc b.2) ∧
  (∀ b ∈ bs, (enc b.2).depth ≤ 50) ∧ ∀ p, H p = none → Q (.ref p) (L2.upd H p (.lst ((bs.mergeSort (dataLe false fun b => enc b.2)).map (·.1))))
theorem cr_sortE {β : Type} {enc : β → PyData} {k : Nat} (hr : Room k X.A) : CallR X (.builtin "sorted") (rSortE X.K enc) := by
  intro pins s σ H vs us Q I r h
  obtain ⟨a, bs, e, hS, hd, hal, hk, hu, q⟩ := h
  subst e
  obtain ⟨u, rfl, ru⟩ := vals1 r
  cases ru
  obtain ⟨its, rv, pl, hz⟩ := I.list hS
  have hlen := rv.length
  rw [List.length_map] at hlen hz
  have er : EachIs (fun v (b : V × β) => ∃ as, Reads s.heap v (enc b.2) as) its bs := each_pairs (by omega) fun i u b e f => by
    obtain ⟨u', e', ru⟩ := rv.get (i := i) (x := b.1) (by rw [List.getElem?_map, f]; rfl)
    rw [e] at e'
    cases e'
    exact Dp.reads I (enc b.2) b.1 u (hd b (List.mem_of_getElem? f)) ru
  have eR : EachIs (fun v (b : V × β) => RelV b.1 v) its bs := each_pairs (by omega) fun i u b e f => by
    obtain ⟨u', e', ru⟩ := rv.get (i := i) (x := b.1) (by rw [List.getElem?_map, f]; rfl)
    rw [e] at e'
    cases e'
    exact ru
  have hun := hr.un
  refine PySem.W.sorted_data (enc := fun b : V × β => enc b.2) pl.isList eR er hal hk (by omega) (fun b hb => by have := hu b hb; omega) fun out hl he => ?_
  obtain ⟨c, hc⟩ := PyProof.Rows.sortedAll_at s.heap its out.toArray
  have rel : ∀ {ws : List Value} {ps : List (V × β)}, EachIs (fun v (b : V × β) => RelV b.1 v) ws ps → Vals (ps.map (·.1)) ws := by
    intro ws ps e
    induction e with
    | nil => exact .nil
    | cons h t ih => exact .cons h ih
  have keep : ∀ b o, s.heap.get? b = some o → (PyProof.Rows.sortedAll s.heap its out.toArray).get? b = some o := fun _ _ => PyProof.Rows.sortedAll_old
  refine ⟨.ref (s.heap.objs.size + 1), _, I.laid (t' := s.toks) keep (Nat.le_succ _) (o := .lst ((bs.mergeSort (dataLe false fun b => enc b.2)).map (·.1))) ⟨?_, out, c, rel he, hc⟩, rfl, q _ (I.hok.fresh (Nat.le_succ _))⟩
  rw [List.length_map, List.length_mergeSort]
  omega
end
mutual
/-- without dicts: the layer's own data -/
theorem dp_dx {K : PySem.W.Frag} {H : Hp} : ∀ (d : PyData) (v : V), d.plain = true → Dx H v d → Dp K H v d
  | .none, _, _, h => by cases h; exact .non
  | .bool b, _, _, h => by cases h; exact .bl b
  | .int i, _, _, h => by cases h; exact .int i
  | .str x, _, _, h => by cases h; exact .str x
  | .list ds, _, p, h => by
    cases h with
    | lst e n h => exact .lst (.inl (.inl e)) (dps_dx ds _ (by simpa [PyData.plain] using p) h)
  | .tuple ds, _, p, h => by
    cases h with
    | tup e h => exact .tup (.inl (.inl e)) (dps_dx ds _ (by simpa [PyData.plain] using p) h)
  | .dict ks, _, p, _ => by simp [PyData.plain] at p
theorem dps_dx {K : PySem.W.Frag} {H : Hp} : ∀ (ds : List PyData) (vs : List V), PyData.plainAll ds = true → Dxs H vs ds → DpAll K H vs ds
  | [], _, _, h => by cases h; exact .nil
  | d :: ds, _, p, h => by
    have p' : d.plain = true ∧ PyData.plainAll ds = true := by simpa [PyData.plainAll] using p
    cases h with
    | cons h t => exact .cons (dp_dx d _ p'.1 h) (dps_dx ds _ p'.2 t)
end
end KX

set_option maxRecDepth 100000
set_option maxHeartbeats 4000000
namespace KX
open PySem PySem.Spec PyProof.Rows L2
section
variable {X : Cx}
/-- text * 0, text * 1 -/
theorem op_mul_s : OpR X (binaryOp .Mult) (fun x y H Q => ∃ (z : Str) (n : Int), x = .str z ∧ y = .int n ∧ (n = 0 ∨ n = 1) ∧ Q (.str (if n = 1 then z else "")) H) := by
  intro pins s σ H x y v u Q I rx ry h
  obtain ⟨z, n, rfl, rfl, hn, q⟩ := h
  obtain ⟨t, rfl⟩ := rx
  obtain ⟨t', rfl⟩ := ry
  have ok : MulOk z n := by
    rcases hn with rfl | rfl
    · exact ⟨by decide, fun h => absurd (by decide) h, fun h => absurd (by decide) h⟩
    · exact ⟨by decide, fun _ h => by simp at h, fun _ h => by simp at h⟩
  have e : Txt.mul z n = (if n = 1 then z else "") := by
    rcases hn with rfl | rfl
    · rfl
    · simp [Txt.mul]
  refine SB.mul ok fun t1 k => ?_
  rw [e]
  exact ⟨.str _, H, I.tok _, ⟨_, rfl⟩, q⟩
end
end KX

set_option maxRecDepth 100000
set_option maxHeartbeats 4000000
namespace KX
open PySem PySem.Spec PyProof.Rows L2
section
variable {X : Cx}
/-- t != (), t any tuple -/
def rNe0 (K : PySem.W.Frag) : R2 := fun x y H Q => ∃ a b xs, x = .ref a ∧ y = .ref b ∧ SqT K H a xs ∧ SqT K H b [] ∧ Q (.bl (!xs.isEmpty)) H
theorem op_ne0 (hu : X.A.units < cLine) : OpR X (compareOp .NotEq) (rNe0 X.K) := by
  intro pins s σ H x y v u Q I rx ry h
  obtain ⟨a, b, xs, rfl, rfl, ha, hb, q⟩ := h
  cases rx
  cases ry
  obtain ⟨its, r1, p1, _⟩ := I.tuple ha
  obtain ⟨its2, r2, p2, _⟩ := I.tuple hb
  cases r2
  have e : (!((List.range (min its.toArray.size ([] : List Value).toArray.size)).all (fun _ => true) && its.toArray.size == ([] : List Value).toArray.size)) = !xs.isEmpty := by
    have := r1.length
    cases xs with
    | nil =>
      cases its with
      | nil => rfl
      | cons _ _ => simp at this
    | cons _ _ =>
      cases its with
      | nil => simp at this
      | cons _ _ => simp
  refine SeqAt.RcNeAt.tuples (e := fun _ => true) p1 p2 hu (fun j h1 h2 => absurd h2 (by simp)) X.prog X.w X.xe (EP X pins σ Q) ?_
  rw [e]
  exact ⟨.bl _, H, I, rfl, q⟩
end
/-! ### tuples of data, whatever object holds them -/
def cutD (ds : List PyData) (lo hi : Option Int) : List PyData := (ds.drop (HT.sIx ds.length 0 lo)).take (HT.sIx ds.length ds.length hi - HT.sIx ds.length 0 lo)
theorem cutD_to (ds : List PyData) (k : Nat) : cutD ds none (some (k : Int)) = ds.take k := by
  unfold cutD
  rw [HT.sIx_none, HT.sIx_nat, List.drop_zero, Nat.sub_zero]
  by_cases h : k ≤ ds.length
  · rw [Nat.min_eq_left h]
  · rw [Nat.min_eq_right (by omega), List.take_length, List.take_of_length_le (by omega)]
theorem cutD_from (ds : List PyData) (k : Nat) : cutD ds (some (k : Int)) none = ds.drop k := by
  unfold cutD
  rw [HT.sIx_none, HT.sIx_nat]
  by_cases h : k ≤ ds.length
  · rw [Nat.min_eq_left h]
    exact List.take_of_length_le (by rw [List.length_drop]; exact Nat.le_refl _)
  · rw [Nat.min_eq_right (by omega), Nat.sub_self, List.take_zero, List.drop_of_length_le (by omega)]
theorem cutD_one (ds : List PyData) (k : Nat) : cutD ds (some (k : Int)) (some ((k : Int) + 1)) = (ds.drop k).take 1 := by
  unfold cutD
  rw [show ((k : Int) + 1) = ((k + 1 : Nat) : Int) by omega, HT.sIx_nat, HT.sIx_nat]
  by_cases h : k < ds.length
  · rw [Nat.min_eq_left (by omega), Nat.min_eq_left (by omega), Nat.add_sub_cancel_left]
  · rw [Nat.min_eq_right (by omega), Nat.min_eq_right (by omega), Nat.sub_self, List.take_zero, List.drop_of_length_le (by omega)]
    rfl
theorem dxs_cut {H : Hp} {xs : List V} {ds : List PyData} (h : Dxs H xs ds) (lo hi : Option Int) : Dxs H (cutV xs lo hi) (cutD ds lo hi) := by
  unfold cutV cutD
  rw [h.len]
  exact (h.drop _).take _
theorem dx_sqT {K : PySem.W.Frag} {H : Hp} {l a : Addr} {ds : List PyData} (h : Dx (hid l H) (.ref a) (.tuple ds)) : ∃ xs, SqT K H a xs ∧ Dxs (hid l H) xs ds := by
  cases h with
  | @tup a xs _ e h => exact ⟨xs, .inl (.inl (hid_some e).2), h⟩
theorem dx_tupOf {H : Hp} {l : Addr} {v : V} {ds : List PyData} (h : Dx (hid l H) v (.tuple ds)) : ∃ a xs, v = .ref a ∧ a ≠ l ∧ H a = some (.tup xs) ∧ Dxs (hid l H) xs ds := by
  cases h with
  | @tup a xs _ e h => exact ⟨a, xs, rfl, (hid_some e).1, (hid_some e).2, h⟩
section
variable {K : PySem.W.Frag} {H : Hp} {l a b : Addr} {ds es : List PyData} {Q : VK}
theorem sl_of {lo hi : Option Int} {v : V} (hd : Dx (hid l H) v (.tuple ds)) (st : StO H l) (q : ∀ H' p, Keep l H H' → StO H' l → Dx (hid l H') (.ref p) (.tuple (cutD ds lo hi)) → Q (.ref p) H') : rSlA K v lo hi H Q := by
  obtain ⟨a, xs, rfl, na, ea, h⟩ := dx_tupOf hd
  refine ⟨a, xs, rfl, .inl (.inl ea), fun hw => q H a (Keep.refl l H) st ?_, fun _ p np => q _ p ((Keep.refl l H).new np) (st.new np) (dx_tup np st (dxs_cut h lo hi))⟩
  have : cutD ds lo hi = ds := by
    unfold cutD
    rw [← h.len, hw.1, hw.2, List.drop_zero, Nat.sub_zero, List.take_of_length_le (by rw [h.len]; exact Nat.le_refl _)]
  rw [this]
  exact hd
theorem cat_of {v u : V} (hd : Dx (hid l H) v (.tuple ds)) (he : Dx (hid l H) u (.tuple es)) (st : StO H l) (hz : ds.length + es.length ≤ sizeLine)
    (q : ∀ H' p, Keep l H H' → StO H' l → Dx (hid l H') (.ref p) (.tuple (ds ++ es)) → Q (.ref p) H') : rCatA K v u H Q := by
  obtain ⟨a, xs, rfl, na, ea, h⟩ := dx_tupOf hd
  obtain ⟨b, ys, rfl, nb, eb, h2⟩ := dx_tupOf he
  have l1 := h.len
  have l2 := h2.len
  refine ⟨a, b, xs, ys, rfl, rfl, .inl (.inl ea), .inl (.inl eb), by omega, fun z => ?_, fun _ z => ?_, fun _ _ p np => q _ p ((Keep.refl l H).new np) (st.new np) (dx_tup np st (h.app h2))⟩
  · subst z
    have : ds = [] := List.eq_nil_of_length_eq_zero (by simpa using l1.symm)
    subst this
    exact q H b (Keep.refl l H) st he
  · subst z
    have : es = [] := List.eq_nil_of_length_eq_zero (by simpa using l2.symm)
    subst this
    rw [List.append_nil] at q
    exact q H a (Keep.refl l H) st hd
end
end KX

set_option maxRecDepth 100000
set_option maxHeartbeats 4000000
namespace KX
open PySem PySem.Spec PyProof.Rows L2
/-! ### expressions that make data -/
def tD (d : PyData) : TE := fun _ H Q => ∀ H' v, Same H H' → Dx H' v d → Q v H'
def tDs (ds : List PyData) : TA := fun _ H Q => ∀ H' vs, Same H H' → Dxs H' vs ds → Q vs H'
/-- a new list of data -/
def tL (ds : List PyData) : TE := fun _ H Q => ∀ H' p xs, Same H H' → H p = none → H' p = some (.lst xs) → Dxs H' xs ds → Q (.ref p) H'
section
variable {X : Cx} {e : Expr} {es : List Expr} {pos : Pos} {d : PyData} {ds : List PyData}
theorem PE.imp {t t' : TE} (h : PE X e t) (i : ∀ σ H Q, t' σ H Q → t σ H Q) : PE X e t' := ⟨fun pins s σ H Q I q => h.run pins s σ H Q I (i σ H Q q)⟩
theorem PA.imp {t t' : TA} (h : PA X es t) (i : ∀ σ H Q, t' σ H Q → t σ H Q) : PA X es t' := ⟨fun pos pins s σ H Q I q => h.run pos pins s σ H Q I (i σ H Q q)⟩
theorem pd_int {i : Int} {j} : PE X (.Constant (.int i) j pos) (tD (.int i)) := PE.imp pe_int fun _ H Q q => q H _ (Same.refl H) (.int i)
theorem pd_str {x : Str} {j} : PE X (.Constant (.str x) j pos) (tD (.str x)) := PE.imp pe_str fun _ H Q q => q H _ (Same.refl H) (.str x)
theorem pd_bl {b : Bool} {j} : PE X (.Constant (.bool b) j pos) (tD (.bool b)) := PE.imp pe_bl fun _ H Q q => q H _ (Same.refl H) (.bl b)
theorem pd_val {t : TE} {i : Int} (h : PE X e t) (hv : ∀ (σ : L2.St) (H : Hp) (Q : VK), Q (.int i) H → t σ H Q) : PE X e (tD (.int i)) := PE.imp h fun σ H Q q => hv σ H Q (q H _ (Same.refl H) (.int i))
theorem pd_nil : PA X [] (tDs []) := PA.imp pa_nil fun _ H Q q => q H _ (Same.refl H) .nil
theorem pd_cons (h : PE X e (tD d)) (t : PA X es (tDs ds)) (hs : starEach (e :: es) X.env = (false, eval e X.env) :: starEach es X.env := by rfl) : PA X (e :: es) (tDs (d :: ds)) :=
  PA.imp (pa_cons h t hs) fun _ H Q q H1 v s1 dv H2 vs s2 dvs => q H2 (v :: vs) (s1.trans s2) (.cons (dv.up s2) dvs)
theorem pd_tup {x1} (h : PA X es (tDs ds)) (hz : ds.length ≤ sizeLine := by decide) : PE X (.Tuple es x1 pos) (tD (.tuple ds)) :=
  PE.imp (pe_tup h) fun _ H Q q H1 vs s1 dvs => ⟨by rw [dvs.len]; exact hz, fun p np => q _ _ (s1.trans fun b x e => by rw [upd_ne (ne_of_none e np)]; exact e) (.tup upd_same (dvs.up fun b x e => by rw [upd_ne (ne_of_none e np)]; exact e))⟩
theorem pd_lstS (h : PA X es (tDs ds)) (hz : ds.length ≤ sizeLine := by decide) : PE X (.List es pos) (tD (.list ds)) :=
  PE.imp (pe_lstS h) fun _ H Q q H1 vs s1 dvs => ⟨by rw [dvs.len]; exact hz, fun p np zp => q _ _ (s1.trans fun b x e => by rw [upd_ne (ne_of_none e np)]; exact e) (.lst upd_same zp (dvs.up fun b x e => by rw [upd_ne (ne_of_none e np)]; exact e))⟩
theorem pd_lst (h : PA X es (tDs ds)) (hz : ds.length ≤ sizeLine := by decide) : PE X (.List es pos) (tL ds) :=
  PE.imp (pe_lst h) fun _ H Q q H1 vs s1 dvs => ⟨by rw [dvs.len]; exact hz, fun p np => q _ p vs (s1.trans fun b x e => by rw [upd_ne (ne_of_none e np)]; exact e) (s1.free np) upd_same (dvs.up fun b x e => by rw [upd_ne (ne_of_none e np)]; exact e)⟩
theorem dxs_rep {H : Hp} {xs : List V} {es : List PyData} (h : Dxs H xs es) : ∀ n : Nat, Dxs H (List.replicate n xs).flatten (List.replicate n es).flatten
  | 0 => .nil
  | n + 1 => by
    rw [List.replicate_succ, List.replicate_succ, List.flatten_cons, List.flatten_cons]
    exact h.app (dxs_rep h n)
/-- t * k -/
theorem pd_rep {b : Expr} {k : Int} {tb : TE} (h : PE X e (tD (.tuple ds))) (hb : PE X b tb) (hk : ∀ (σ : L2.St) (H : Hp) (Q : VK), Q (.int k) H → tb σ H Q) (k2 : 2 ≤ k) (k1 : k ≤ 1000) (hn : ds ≠ []) (hz : ds.length ≤ 1000) :
    PE X (.BinOp e .Mult b pos) (tD (.tuple (List.replicate k.toNat ds).flatten)) :=
  PE.imp (pe_op op_repT h hb) fun σ H Q q H1 v s1 dv => hk σ H1 _ (by
    cases dv with
    | @tup a xs _ ea hx =>
      have hl := hx.len
      refine ⟨a, k, xs, rfl, rfl, .inl (.inl ea), ?_, k2, k1, by omega, fun p np => q _ _ (s1.trans fun b x e => by rw [upd_ne (ne_of_none e np)]; exact e) (.tup upd_same ((dxs_rep hx k.toNat).up fun b x e => by rw [upd_ne (ne_of_none e np)]; exact e))⟩
      intro z
      subst z
      exact hn (List.eq_nil_of_length_eq_zero (by simpa using hl.symm)))
end
end KX

set_option maxRecDepth 100000
set_option maxHeartbeats 4000000
/-! an own exception class right over a built-in one, whose __init__ says B.__init__(self, x) and then stores -/
namespace KX
open PySem PySem.Spec PyProof.Rows L2
/-- what the library knows of the built-in class B -/
structure XB (B newI iniI : String) (tl : List Value) : Prop where
  fb : PySem.ExcBaseFacts B newI iniI tl
  sf : PySem.StoreFacts B tl "object.__setattr__" "object"
/-- what the written part says of the class at C -/
structure XC (K : PySem.W.Frag) (B newI iniI : String) (tl : List Value) (C : Addr) : Prop where
  b : XB B newI iniI tl
  ini : PySem.W.excInitIn K C tl newI = true
  ovr : PySem.W.excOver K C tl = true
  sa : PySem.W.findIn K (.ref C) "__setattr__" = some (some (.builtin "object.__setattr__"))
  hd : PySem.W.hasDictIn K C = true
  sub : PySem.W.subIn K (.ref C) (.type "BaseException") = some true
  ty : PySem.W.typeIn K (.ref C) = some (.type "type")
  kp : PySem.W.keepIn K (.ref C) = true
section
open PySem.W PySem.Calls PySem.HandSPX Builtin Builtin.ObjectAttr
variable {prog : Program} {w : World} {A : Around} {E : Value → Shared → Prop} {R : Result → Shared → Prop} {hp : Heap} {g : Array GenState} {d : Drawn} {t : Nat} {os : OsState}
/-- the first store into such an exception -/
theorem osa_first {K : PySem.W.Frag} {nm : Str} {tk : Tok} {v : Value} {x C : Addr} {fv : Array Value} {B newI iniI : String} {tl : List Value} (T : XC K B newI iniI tl C)
    (X : K.In hp) (hx : hp.get? x = some { cls := .ref C, data := .fields fv }) (ha : PySem.W.findIn K (.ref C) nm = some none)
    (done : ∀ h2 tk2 dx, (∀ b o, b ≠ x → hp.get? b = some o → h2.get? b = some o) → hp.objs.size ≤ dx → dx ≠ x → h2.get? x = some { cls := .ref C, dict := some dx, data := .fields fv } →
      h2.Ns1 dx (fun y => if y = nm then some v else none) → R (.ok (.ret .none)) ⟨h2, g, d, tk2, os⟩) :
    codeAny (model prog w) A (.call (.builtin "object.__setattr__") ⟨[.ref x, .str nm tk, v], []⟩) R ⟨hp, g, d, t, os⟩ := by
  have tkr : PySem.W.takerIn K C nm = some none := by unfold PySem.W.takerIn; rw [ha]; rfl
  refine PySem.W.osa_openX (s := ⟨hp, g, d, t, os⟩) (od := none) T.b.sf X ⟨hx, rfl, rfl, trivial⟩ T.ovr tkr fun b => ?_
  obtain ⟨cd, hc, hdd⟩ := PySem.W.any_some T.hd
  have hcls : PySem.W.Looks (model prog w) hp (classData C) cd := PySem.W.looks_clsIn X hc
  have far : x ≠ hp.objs.size := Nat.ne_of_lt (Heap.lt_size hx)
  obtain ⟨nm', bs, mro, ns, qn, hd', sn, sb, ab, col, del⟩ := cd
  dsimp only at hdd
  subst hdd
  dsimp only
  unfold storeInOwnDict ownDictForStores
  repeat (first | with_reducible refine store_in_new ?_ ?_ | with_reducible refine wpAny_loadPart_at hx ?_ | with_reducible refine hcls.at ?_ | wp_step)
  · exact ⟨_, #[], _, (Heap.get?_update_ne _ _ _ _ far.symm).trans (Heap.get?_push_at rfl rfl), rfl, fun e he => absurd he (by simp), fun _ => rfl⟩
  · intro h2 tk2 hn2 hs
    have hx1 : (hp.push { cls := .type "dict", data := .dict #[] }).get? x = some { cls := .ref C, data := .fields fv } := Heap.get?_push_of_some _ hx
    refine done h2 tk2 hp.objs.size (fun b o hb ho => ?_) (Nat.le_refl _) far.symm ?_ hn2
    · have z := Heap.get?_push_of_some { cls := .type "dict", data := .dict #[] } ho
      exact (hs.2 b (Nat.ne_of_lt (Heap.lt_size ho))).trans ((Heap.get?_update_ne _ _ _ _ hb).trans z)
    · have z := Heap.get?_update_self (fun o => { o with dict := some hp.objs.size }) hx1 rfl
      exact (hs.2 x far).trans z
end
section
variable {X : Cx} {pins : List (Addr × Obj)} {σ : L2.St} {H : Hp} {s : Shared} {a C dx : Addr} {f : Str} {y : V} {u : Value} {E : Value → Shared → Prop} {A : Around} {B newI iniI : String} {tl : List Value}
/-- self.f = y, the first store -/
theorem store_first {Q : Unit → Shared → Prop} (T : XC X.K B newI iniI tl C) (I : Inv X pins σ H s) (e : H a = some (exo a C none)) (hno : PySem.W.findIn X.K (.ref C) f = some none) (ry : RelV y u)
    (go : ∀ dx s2, H dx = none → dx ≠ a → Inv X pins σ (upd (upd H dx (exd dx [(f, y)])) a (exo a C (some dx))) s2 → Q () s2) :
    wpAny (model X.prog X.w) A (setAttr (.ref a) f u) Q E s := by
  obtain ⟨t1, ho⟩ := exo_at I.hok e
  obtain ⟨hp, g, d, t, os⟩ := s
  refine PySem.W.set_plain I.kIn (ox := { cls := .ref C, dict := none, data := .fields #[.ref t1, .none, .none, .none, .bool false, .none] })
    (od := none) ⟨ho, rfl, rfl, trivial⟩ T.sa (osa_first T I.kIn ho hno (fun h2 tk2 dx k dn dne hx hn => ?_))
  have hnd : H dx = none := I.hok.fresh dn
  have new : ∀ {b : Addr} {o : Obj}, hp.get? b = some o → b ≠ dx := fun {b o} q => Nat.ne_of_lt (Nat.lt_of_lt_of_le (Heap.lt_size q) dn)
  have notA : ∀ {b : Addr}, H b = none → b ≠ a := fun {b} n z => by
    rw [z, e] at n
    cases n
  have U : Un X.fs [] H (upd (upd H dx (exd dx [(f, y)])) a (exo a C (some dx))) hp h2 := {
    keep := fun b o q n _ _ => k b o (notA n) q
    slot := fun b o q n _ _ => ⟨o.slots, k b o (notA n) q⟩
    free := fun b o q n _ => by rw [upd_ne (notA n), upd_ne (new q)]; exact n
    there := fun b o q _ => by
      by_cases hb : b = a
      · exact ⟨_, by rw [hb]; exact hx⟩
      · exact ⟨o, k b o hb q⟩
    tups := fun b xs q => by rw [upd_ne (at_ne e q exo_tup), upd_ne (ne_of_none q hnd)]; exact q
    frzs := fun b o v q => by rw [upd_ne (at_ne e q exo_frz), upd_ne (ne_of_none q hnd)]; exact q
    tbls := fun b ps q => ⟨#[], by rw [upd_ne (at_ne e q exo_tbl), upd_ne (ne_of_none q hnd), q]; simp⟩ }
  refine go dx _ hnd dne (I.un (t' := tk2) U fun b o q => ?_)
  by_cases hb : b = a
  · subst hb
    rw [upd_same] at q
    cases q
    exact exo_ok hx
  · rw [upd_ne hb] at q
    by_cases hd : b = dx
    · subst hd
      rw [upd_same] at q
      cases q
      exact exd_ok hn (relO_put (fs := []) ry fun g => True.intro)
    · rw [upd_ne hd] at q
      refine (I.hok b o q).stay (fun c v hc z => k c v ?_ z) (fun c hc => ?_) (fun c xs hc => ?_)
      · rcases hc with hc | hc
        · rw [hc]
          exact hb
        · exact at_ne e hc exo_own
      · rw [upd_ne (at_ne e hc exo_own), upd_ne (ne_of_none hc hnd)]
        exact hc
      · rw [upd_ne (at_ne e hc exo_tup), upd_ne (ne_of_none hc hnd)]
        exact hc
/-- B.__init__(self, ..): nothing of it is told -/
theorem init_told {us : List Value} {Q : Value → Shared → Prop} (T : XC X.K B newI iniI tl C) (I : Inv X pins σ H s) (e : H a = some (exo a C none)) (hl : us.length ≤ sizeLine) (go : ∀ s2, Inv X pins σ H s2 → Q .none s2) :
    wpAny (model X.prog X.w) A (call (.builtin iniI) (.ref a :: us)) Q E s := by
  obtain ⟨nm, N, qn, bs, bm, hdct, sn, sub, ab, col, dd, k0, k1, k2, k3, k5, hC, hT⟩ := PySem.W.excInit_of I.kIn T.ini
  obtain ⟨t1, ho⟩ := exo_at I.hok e
  obtain ⟨hp, g, d, t, os⟩ := s
  refine wpAny_call (PySem.HandSPX.init_base T.b.fb hT hC ho hl fun h2 t2 k hx => go _ ?_)
  have J := I.write (t' := t) (x := a) (e := a) (o := exo a C none) (by rw [e]; exact True.intro) (.inl rfl) k ⟨_, hx⟩ (exo_ok hx)
  have same : upd H a (exo a C none) = H := by
    funext b
    by_cases hb : b = a
    · rw [hb, upd_same, e]
    · rw [upd_ne hb]
  rw [same] at J
  exact J
end
/-- B.__init__(self, ..) -/
def tBini (K : PySem.W.Frag) (B newI iniI : String) (tl : List Value) (ta : TA) : TE := fun σ H Q => ta σ H fun vs H1 =>
  ∃ (a C : Addr) (ws : List V), vs = .ref a :: ws ∧ ws.length ≤ 1000 ∧ XC K B newI iniI tl C ∧ H1 a = some (exo a C none) ∧ Q .non H1
/-- self.f = e, the first store -/
def tFst (K : PySem.W.Frag) (B newI iniI : String) (tl : List Value) (f : Str) (to te : TE) : TS := fun D σ H => te σ H fun y H1 => to σ H1 fun x H2 =>
  ∃ a C : Addr, x = .ref a ∧ XC K B newI iniI tl C ∧ PySem.W.findIn K (.ref C) f = some none ∧ H2 a = some (exo a C none) ∧
    ∀ dx, H2 dx = none → dx ≠ a → D.nx σ (upd (upd H2 dx (exd dx [(f, y)])) a (exo a C (some dx)))
section
variable {X : Cx} {o e : Expr} {es : List Expr} {to te : TE} {ta : TA} {f : Str} {p p' p1 p2 pos : Pos} {B newI iniI : String} {tl : List Value}
theorem ps_fst (ho : PE X o to) (he : PE X e te) (hs : swapsWith e (some (.Attribute o f p')) pos.line X.env = pure false := by rfl) : PS X (.Assign [.Attribute o f p'] e pos) (tFst X.K B newI iniI tl f to te) := by
  refine ⟨fun pins s σ H D I h => ?_⟩
  refine plainObj_wpAny_Assign_Attribute (thn (he.run pins s σ H _ I h) fun v s1 z1 => ?_) hs
  obtain ⟨y, H1, I1, r1, q1⟩ := z1
  refine thn (ho.run pins s1 σ H1 _ I1 q1) fun u s2 z2 => ?_
  obtain ⟨x, H2, I2, r2, a, C, ex, T, hno, ea, q⟩ := z2
  subst ex
  obtain rfl : u = Value.ref a := r2
  exact store_first T I2 ea hno r1 fun dx s3 n ne J => ⟨σ, _, J, q dx n ne⟩
theorem pe_bini {pl : Sem Bool} (hg : Gl X "IndexError") (hm : X.mg "IndexError" = none) (vV : PySem.W.findCls X.K (.type "IndexError") (.type "type") "__init__" = some (.val (.builtin "IndexError.__init__"))) (ha : PA X (e :: es) ta)
    (hc : eval (.Call (.Attribute (.Name "IndexError" p1) "__init__" p2) (e :: es) [] pos) X.env = (do
      let cv ← eval (.Name "IndexError" p1) X.env
      standAt p2.atName
      let (fn, ahead) ← holding [cv] (getMethod cv "__init__" pl)
      callWith pos fn ahead (backTo pos (starEach (e :: es) X.env)) (backToKw pos (keywordEach [] X.env))) := by rfl)
    (he : starEach (e :: es) X.env = (false, eval e X.env) :: starEach es X.env := by rfl) (hpl : (backTo pos (starEach es X.env)).any (·.1) = false := by rfl) :
    PE X (.Call (.Attribute (.Name "IndexError" p1) "__init__" p2) (e :: es) [] pos) (tBini X.K "IndexError" newI "IndexError.__init__" tl ta) := by
  refine ⟨fun pins s σ H Q I h => ?_⟩
  have ty : typeOf (.type "IndexError") = pure (.type "type") := by kernel_rfl
  refine PySem.W.methodCall_KW (ld_blt I hg hm PyProof.Rows.Boot.«IndexError» ?_ (by decide) (by decide)) hc
  obtain ⟨m, fr⟩ := I.fr
  refine PySem.W.method_type fr I.ok.mod.kin ty (by decide +kernel) vV (by decide +kernel) ?_
  show wpAny _ _ (callWith pos (Value.builtin "IndexError.__init__") [] (backTo pos (starEach (e :: es) X.env)) []) _ _ _
  refine PyProof.Rows.callWith_method1 (thn (ha.run pos pins _ σ H _ (I.tok _) h) fun us s1 z => ?_) he hpl
  obtain ⟨vs, H1, I1, r1, a, C, ws, ev, hl, T, ea, q⟩ := z
  subst ev
  cases r1 with
  | @cons _ u0 _ ur ra rw' =>
    obtain rfl : u0 = Value.ref a := ra
    have hlen : ur.length ≤ sizeLine := by
      rw [← Paired.length rw', sizeLine_eq]
      omega
    exact init_told T I1 ea hlen fun s2 J => ⟨.non, H1, J, rfl, q⟩
/-- C(e, ..) -/
theorem pmk_x {CX : CXT} {x : Str} {C fI : Addr} {k : Nat} {fd : FuncData} {ps : List Str} {sp : Sp} (T : XC X.K B newI iniI tl C) (iC : PySem.W.findIn X.K (.ref C) "__init__" = some (some (.ref fI)))
    (tI : PySem.W.typeIn X.K (.ref fI) = some (.type "function")) (F1 : FnOk X.prog X.w X.K X.mg X.base CX k fI fd ps sp) (hr : Room (k + 1) X.A) (hb : Binds X.K fd ps []) (hx : Passes CX X (fun _ _ _ => False)) (hg : Gl X x)
    (hm : X.mg x = some (.ref C)) (ha : PA X (e :: es) ta) (hdb : (x == ("__debug__" : Str)) = false := by decide) (he : starEach (e :: es) X.env = (false, eval e X.env) :: starEach es X.env := by rfl)
    (hpl : (backTo pos (starEach es X.env)).any (·.1) = false := by rfl) : PMk X (.Call (.Name x p) (e :: es) [] pos) (tMkO C sp [] ta) := by
  intro pins s σ H Q I h
  obtain ⟨nm, N, qn, bs, bm, hdct, sn, sub, ab, col, dd, k0, k1, k2, k3, k5, hC, hT⟩ := PySem.W.excInit_of I.kIn T.ini
  refine wpAny_Call_Name_kw (ld_glob I hg hm ?_ hdb)
  refine PySem.W.callWith_K (h₀ := X.base) I.ok.mod.kin T.kp (thn (ha.run pos pins s σ H _ I h) fun us s1 z => ?_) he hpl
  obtain ⟨vs, H1, I1, r1, hz, q1⟩ := z
  have X1 := I1.kIn
  refine ⟨X1, ?_⟩
  obtain ⟨nm, N, qn, bs, bm, hdct, sn, sub, ab, col, dd, k0, k1, k2, k3, k5, hC, hT⟩ := PySem.W.excInit_of X1 T.ini
  show wpAny _ _ (call (.ref C) us) _ _ _
  obtain ⟨hp, g, dr, tk, os⟩ := s1
  have up : hp.objs.size ≤ hp.objs.size + 1 := Nat.le_succ _
  have hq := q1 (hp.objs.size + 1) (I1.hok.fresh up)
  have kk : ∀ b o, hp.get? b = some o → ((hp.push (PySem.W.kdv_tup us)).push (PySem.HandSPX.excO C hp.objs.size)).get? b = some o :=
    fun b o e => Heap.get?_push_of_some _ (Heap.get?_push_of_some _ e)
  have hget : ((hp.push (PySem.W.kdv_tup us)).push (PySem.HandSPX.excO C hp.objs.size)).get? (hp.objs.size + 1) = some (PySem.HandSPX.excO C hp.objs.size) := by heap_get
  have I2 : Inv X pins σ (upd H1 (hp.objs.size + 1) (exo (hp.objs.size + 1) C none)) ⟨(hp.push (PySem.W.kdv_tup us)).push (PySem.HandSPX.excO C hp.objs.size), g, dr, tk, os⟩ :=
    I1.laid (t' := tk) (a := hp.objs.size + 1) (o := exo (hp.objs.size + 1) C none) (h' := (hp.push (PySem.W.kdv_tup us)).push (PySem.HandSPX.excO C hp.objs.size)) kk up (exo_ok hget)
  have r2 : Vals (V.ref (hp.objs.size + 1) :: (vs ++ [])) (Value.ref (hp.objs.size + 1) :: us) := .cons rfl (by rw [List.append_nil]; exact r1)
  have hl : (Value.ref (hp.objs.size + 1) :: us).length = ps.length := by
    rw [← r2.length]
    exact F1.len _ _ _ _ hq
  have hus : us.length ≤ sizeLine := by
    rw [← Paired.length r1, sizeLine_eq]
    omega
  have hbd := hb ⟨(hp.push (PySem.W.kdv_tup us)).push (PySem.HandSPX.excO C hp.objs.size), g, dr, tk, os⟩ (Value.ref (hp.objs.size + 1) :: us) I2.kIn (by rw [List.append_nil]; exact hl)
  rw [List.append_nil] at hbd
  have go := F1.run _ X.stack _ _ ⟨Value.ref (hp.objs.size + 1) :: us, []⟩ (Value.ref (hp.objs.size + 1) :: us) _ _ (fun _ _ _ => False) (hr.make C us []) (I2.env0.make C us []) hbd r2 hq
  refine wpAny_call (PySem.HandSPX.call_own T.b.fb hT hC (PySem.W.looks_findIn X1 iC) (fun self => PySem.W.bind_fn X1 self tI) hus (codeAny_mono go fun r s2 z => ?_))
  cases r with
  | error er => exact hx pins σ _ _ er s2 I2 z
  | ok fl =>
    cases fl with
    | ret u =>
      obtain ⟨v, H2, os2, bare2, un2, hok2, rv, ev, d, fs, ea, ed, hd1, q2⟩ := z
      subst ev
      obtain ⟨h2, g2, d2, t2, os'⟩ := s2
      exact ⟨rv, mk_end (raises_own T.sub T.ty) I1 up kk un2 hok2 os2 bare2 ea ed hd1 q2⟩
    | next => exact False.elim z
    | brk => exact False.elim z
    | cont => exact False.elim z
end
end KX

set_option maxRecDepth 100000
set_option maxHeartbeats 4000000
namespace KX
open PySem PySem.Spec PyProof.Rows L2
/-- isinstance(e, T), isinstance(e, (T, U)): e the exception that the suite holds, an instance of a class of the program with fields of its own -/
structure XI (K : PySem.W.Frag) (C : Addr) : Prop where
  ga : PySem.W.findIn K (.ref C) "__getattribute__" = some (some (.builtin "BaseException.__getattribute__"))
  gg : PySem.W.findIn K (.ref C) "__getattr__" = some none
  sub : PySem.W.subIn K (.ref C) (.type "BaseException") = some true
  hd : PySem.W.hasDictIn K C = true
  hcl : PySem.W.findIn K (.ref C) "__class__" = some (some (.builtin "object.__class__"))
  sp : PySem.W.specialIn K (.builtin "object.__class__") "__get__" = some (some (.builtin "getset_descriptor.__get__"))
  tk : PySem.W.takesIn K (.builtin "object.__class__") = some true
  mro : PySem.W.mroIn K C (.type "object") = some true
theorem XI.xf {K : PySem.W.Frag} {C : Addr} (T : XI K C) : XfC K C := ⟨T.ga, T.gg, T.sub, T.hd⟩
def rIsX (K : PySem.W.Frag) (a : Addr) (cls : Value) (d : Option Addr) : List V → Hp → VK → Prop := fun xs H Q =>
  ∃ (C dd : Addr) (fs : List (Str × V)) (c : V) (b : Bool), XI K C ∧ cls = .ref C ∧ d = some dd ∧ H dd = some (.xd fs) ∧ xs = [.ref a, c] ∧
    ((∃ cv, (∀ u, RelV c u → u = cv) ∧ PySem.W.kitOne K (.ref C) cv = some b) ∨
      ∃ (tp : Addr) (ys : List V) (its : List Value), c = .ref tp ∧ H tp = some (.tup ys) ∧ (∀ us, Vals ys us → us = its) ∧ PySem.W.kitAny K (.ref C) its = some b) ∧ Q (.bl b) H
theorem call_isX {X : Cx} {a : Addr} {oe : Obj} {cls : Value} {d : Option Addr} {pn : List (Addr × Obj)} (hz : Zc cls d oe) (hf : ∃ vs, oe.data = .fields vs) :
    CallR (X.suite a ((a, oe) :: pn)) (.builtin "isinstance") (rIsX X.K a cls d) := by
  intro pins s σ H xs us Q I r h
  obtain ⟨C, dd, fs, c, b, T, ec, ed, eH, rfl, hc, q⟩ := h
  subst ec ed
  obtain ⟨hget, _⟩ := I.pin (a, oe) (List.mem_append.mpr (.inl List.mem_cons_self))
  obtain ⟨vs, hv⟩ := hf
  have hx : ObjOk X.prog X.w H s.heap dd (.xd fs) := I.hok dd _ eH
  obtain ⟨mA, hns, _⟩ := hx
  obtain ⟨od, ho, _⟩ := lookIn_ns hns
  have J : PySem.W.InstAt s.heap a oe C (some od) := ⟨hget, hz.1, by unfold PySem.W.notCls; rw [hv] <;> rfl, by rw [hz.2]; exact ho⟩
  have hcl : (PySem.W.clsIn X.K C).isSome = true := by
    obtain ⟨cd, hc, _⟩ := PySem.W.any_some T.hd
    rw [hc]; rfl
  have Z : PySem.W.KitX X.K (.ref a) (.ref C) (fun h => PySem.W.InstAt h a oe C (some od)) := PySem.W.kitx_exc hcl T.ga T.gg T.sub T.hcl T.sp T.tk T.mro
  obtain ⟨u, rfl, ru, uc, rc⟩ : ∃ u2, us = [.ref a, u2] ∧ RelV c u2 ∧ True ∧ True := by
    cases r with
    | cons r1 r2 =>
      cases r2 with
      | cons r3 r4 =>
        cases r4
        cases r1
        exact ⟨_, rfl, r3, trivial, trivial⟩
  rcases hc with ⟨cv, hcv, e⟩ | ⟨tp, ys, its, rfl, hH, hits, e⟩
  · have eu := hcv _ ru
    subst eu
    exact PySem.W.kia_one Z I.kIn J e (fun z => nomatch z) fun tk => ⟨.bl b, H, I.kept (t' := tk) fun _ _ z => z, rfl, q⟩
  · obtain rfl : u = Value.ref tp := ru
    obtain ⟨_, us2, r2, o, h1, h2, n, h3⟩ := (show ObjOk X.prog X.w H s.heap tp (.tup ys) from I.hok tp _ hH)
    have eu := hits us2 r2
    subst eu
    obtain ⟨oc, od2, oda, osl⟩ := o
    dsimp only at h2 h3
    subst h2 h3
    exact PySem.W.kia_tup Z I.kIn J h1 e (fun z => nomatch z) fun tk => ⟨.bl b, H, I.kept (t' := tk) fun _ _ z => z, rfl, q⟩
end KX

set_option maxRecDepth 100000
set_option maxHeartbeats 4000000
namespace KX
open PySem PySem.Spec PyProof.Rows L2
section
variable {X : Cx}
/-- x in t, x not in t: t a tuple of data, x data, no dicts -/
def rInT (K : PySem.W.Frag) (f : Bool → Bool) : R2 := fun x y H Q => ∃ d ds, Dp K H x d ∧ Dp K H y (.tuple ds) ∧ d.plain = true ∧ PyData.plainAll ds = true ∧ PyData.depthAll ds ≤ 60 ∧ Q (.bl (f (ds.any fun z => PyData.eqv z d))) H
theorem op_inTD (hu : X.A.units + 64 < cLine) : OpR X (compareOp .In) (rInT X.K id) := by
  intro pins s σ H x y v u Q I rx ry h
  obtain ⟨d, ds, hd, he, pd, pe, hm, q⟩ := h
  obtain ⟨as, r1⟩ := Dp.reads I d x v hd rx
  obtain ⟨bs, r2⟩ := Dp.reads I (.tuple ds) y u he ry
  exact SeqAt.in_tuple_data r2 r1 pe pd (by omega) ⟨.bl _, H, I, rfl, q⟩
theorem op_ninTD (hu : X.A.units + 64 < cLine) : OpR X (compareOp .NotIn) (rInT X.K not) := by
  intro pins s σ H x y v u Q I rx ry h
  obtain ⟨d, ds, hd, he, pd, pe, hm, q⟩ := h
  obtain ⟨as, r1⟩ := Dp.reads I d x v hd rx
  obtain ⟨bs, r2⟩ := Dp.reads I (.tuple ds) y u he ry
  exact SeqAt.notIn_tuple_data r2 r1 pe pd (by omega) ⟨.bl _, H, I, rfl, q⟩
/-- len(s), s a set of numbers -/
theorem call_lenZ : CallR X (.builtin "len") (fun xs H Q => ∃ (a : Addr) (S : Int → Bool) (n : Nat), xs = [.ref a] ∧ H a = some (SetO X.w a S n) ∧ Q (.int n) H) := by
  intro pins s σ H xs us Q I r h
  obtain ⟨a, S, n, rfl, ha, q⟩ := h
  obtain ⟨u, rfl, ru⟩ := vals1 r
  obtain rfl : u = Value.ref a := ru
  obtain ⟨o, es, ep, t, ho, hex, hd, _, _, _, hb, hf, hn, _⟩ := setO_get I ha
  have hb' : (scanBound : Nat) < 2 ^ 63 := by decide
  exact call_len_set ho hex hd hf (by omega) ⟨.int n, H, I.tok _, ⟨_, by rw [hn]⟩, q⟩
/-- what a turn of {k for x in t} leaves -/
def addS (w : World) (D : Addr) (S : Int → Bool) (n : Nat) (k : Int) (H : Hp) : Hp := upd H D (SetO w D (fun j => S j || decide (j = k)) (if S k = true then n else n + 1))
theorem into_set {pins : List (Addr × Obj)} {σ : L2.St} {H : Hp} {s : Shared} {E : Value → Shared → Prop} {D : Addr} {S : Int → Bool} {n : Nat} {k : Int} {tk : Tok} {Q : Value → Shared → Prop} (I : Inv X pins σ H s)
    (hD : H D = some (SetO X.w D S n)) (room : n + 1 < scanBound) (go : ∀ s2, Inv X pins σ (addS X.w D S n k H) s2 → Q .none s2) : wpAny (model X.prog X.w) X.A (call (.builtin "set.add") [.ref D, .int k tk]) Q E s := by
  refine setR_add (setO_get I hD) room fun h2 sb new => go _ ?_
  have ex : ∃ u, h2.get? D = some u := by
    obtain ⟨o, _, _, _, ho, _⟩ := new
    exact ⟨o, ho⟩
  exact I.write (e := D) (t' := s.toks + 1) (by rw [hD]; trivial) (.inl rfl) (fun b u hb hu => (sb.2 b hb).trans hu) ex (setO_new new)
/-- {e for x in t}, no ifs, e a number: D the new set -/
def tSetI (w : World) (wi : TI) (g : TG) (te : TE) (vs : List Nat) : TE := fun σ H Q => wi σ H fun J H1 => ∀ D, H1 D = none → ∃ W : Nat → Nat → Hp → Prop, (∃ m, W 0 m (upd H1 D (SetO w D (fun _ => false) 0))) ∧
  ∀ i m G, W i m G → (J.stop i G ∧ Q (.ref D) G) ∨ (J.go i G ∧ ∀ x G1, J.yld i G x G1 → g x (wipe σ vs) G1 fun σ2 G2 => wipe σ2 vs = wipe σ vs ∧
    te σ2 G2 fun y G3 => ∃ (k : Int) (S : Int → Bool) (n : Nat), y = .int k ∧ G3 D = some (SetO w D S n) ∧ n + 1 < scanBound ∧ ∃ m2, m2 < m ∧ W (i + 1) m2 (addS w D S n k G3))
abbrev freshSet (w : World) : Obj := { cls := .type "set", dict := none, data := .set #[] 0 (.fresh 0 0 (!w.params.followText "set-order")) }
theorem pe_setI {elt tg iter : Expr} {scope : Scope} {own : List (PySem.Str × Nat)} {pos : Pos} {wi : TI} {g : TG} {te : TE} (hc : X.calm = true) (hN : X.N.Nodup) (hi : PI X tg iter wi) (ok : BlkOk X.N X.env.scope scope own)
    (hg : ∀ (s : Shared) (H : Hp) (C : Addr) (cl : List (PySem.Str × Addr)) (fp : List Addr), PG (X.blk s H scope (compEnvC scope cl C X.env) fp) tg g)
    (he : ∀ (s : Shared) (H : Hp) (C : Addr) (cl : List (PySem.Str × Addr)) (fp : List Addr), PE (X.blk s H scope (compEnvC scope cl C X.env) fp) elt te)
    (hs : ∀ x, foldedSetIterable iter X.env x = pure x := by intro _; rfl) :
    PE X (.SetComp elt [⟨tg, iter, [], 0⟩] scope pos) (tSetI X.w wi g te (own.map (·.2))) := by
  refine ⟨fun pins s σ H Q I h => ?_⟩
  rw [PpSet.eval_SetComp]
  have cap : ∀ y ∈ scope.names, y.2 = .free → ∃ c, X.env.cells.lookup y.1 = some c := fun y hy e => (ok.free y hy e).elim (fun k => I.ok.has _ (.inl k)) fun k => I.ok.has _ (.inr k)
  refine wpAny_comprehension_free rfl hs (closure_ok cap) ok.kind (fun y hy e => by rw [ok.uniq y hy, e]) (thn (hi.run pins s σ H _ I h) fun xv s1 hx => thn hx fun itv s2 z => ?_)
  obtain ⟨it, fp, tn, J, H2, rfl, I2, T, at0, own2, q⟩ := z
  refine PpSet.newSet_ok (newEnv_comp ?_)
  obtain ⟨D, hD⟩ : ∃ D, D = s2.heap.objs.size := ⟨_, rfl⟩
  rw [← hD]
  obtain ⟨W, ⟨m0, w0⟩, turn⟩ := q D (I2.hok.fresh (Nat.le_of_eq hD.symm))
  obtain ⟨s3, es3⟩ : ∃ s3 : Shared, s3 = { s2 with heap := s2.heap.push (freshSet X.w) } := ⟨_, rfl⟩
  obtain ⟨H3, eH3⟩ : ∃ H3, H3 = upd H2 D (SetO X.w D (fun _ => false) 0) := ⟨_, rfl⟩
  have I3 : Inv X pins σ H3 s3 := by
    rw [es3, eH3]
    refine I2.laid (t' := s2.toks) (fun b o e => Heap.get?_push_of_some _ e) (Nat.le_of_eq hD.symm) ?_
    rw [hD]
    exact setO_new (setR_fresh X.w)
  have kp3 : ∀ b o, s2.heap.get? b = some o → s3.heap.get? b = some o := fun b o e => by rw [es3]; exact Heap.get?_push_of_some _ e
  have own3 : ∀ b ∈ fp, FpOk X pins H3 b ∧ b < s3.heap.objs.size := fun b hb => by
    obtain ⟨o, eo, _⟩ := T.obj _ _ at0 b hb
    have lt := Heap.lt_size eo
    refine ⟨⟨?_, (own2 b hb).2⟩, Heap.lt_size (kp3 b o eo)⟩
    rw [eH3, upd_ne (by rw [hD]; exact Nat.ne_of_lt lt)]
    exact (own2 b hb).1
  have I4 := block_start I3 ok hN own3
  obtain ⟨C, eC⟩ : ∃ C, C = s3.heap.objs.size := ⟨_, rfl⟩
  obtain ⟨cl, ecl⟩ : ∃ cl, cl = cellsFrom (s3.heap.objs.size + 1) scope.names (cloFrom X.env.cells scope.names []) := ⟨_, rfl⟩
  have at3 : tn 0 s3.heap := T.keep _ _ _ at0 fun b _ o e => kp3 b o e
  rw [← es3, ← ecl, ← eC]
  rw [← ecl, ← eC] at I4
  obtain ⟨s4, es4⟩ : ∃ s4 : Shared, s4 = { s3 with heap := pushCells (s3.heap.push { cls := .type "dict", data := .dict #[] }) scope.names } := ⟨_, rfl⟩
  rw [← es4] at I4 ⊢
  have at4 : tn 0 s4.heap := T.keep _ _ _ at3 fun b _ o e => by rw [es4]; exact pushCells_keeps _ _ _ _ (Heap.get?_push_of_some _ e)
  obtain ⟨Y, eY⟩ : ∃ Y, Y = X.blk s3 H3 scope (compEnvC scope cl C X.env) fp := ⟨_, rfl⟩
  have pg := hg s3 H3 C cl fp
  have pe := he s3 H3 C cl fp
  rw [← eY] at pg pe I4
  have calmY : Y.calm = true := by rw [eY]; exact hc
  have still : ∀ {σ' : L2.St} {H' : Hp} {s' : Shared}, Inv Y [] σ' H' s' → (∀ b ∈ fp, H' b = none) → ∀ b ∈ fp, FpOk Y [] H' b := fun {σ' H' s'} I' hn b hb => by
    subst eY
    exact ⟨hn b hb, (I'.ok.exf b hb).1, I'.ok.exfs b hb, .inl hb, fun x c e => (I'.ok.exf b hb).2 x c e, fun p hp => absurd (show p ∈ ([] : List (Addr × Obj)) ++ [] from hp) (by simp)⟩
  have loop : codeAny (model X.prog X.w) X.A (.compLoop (.SetComp elt [⟨tg, iter, [], 0⟩] scope pos) 0 (.ref it) (.ref D) (compEnvC scope cl C X.env)) (compPost (model X.prog X.w) X.A X.xe none (EP X pins σ Q) (.ref D) C) s4 := by
    refine PpSet.compLoopS_any (fun m s' => ∃ i G, Inv Y [] (wipe σ (own.map (·.2))) G s' ∧ tn i s'.heap ∧ (∀ b ∈ fp, G b = none) ∧ W i m G) ?_ m0
      ⟨0, H3, I4, at4, fun b hb => (own3 b hb).1.1, by rw [eH3]; exact w0⟩
    rintro m s5 ⟨i, G, I5, at5, n5, w5⟩
    rcases turn i m G w5 with ⟨stop, qq⟩ | ⟨go, step⟩
    · have td := T.done Y (by rw [eY]) (by rw [eY]) (by rw [eY]) calmY i [] s5 _ G (fun _ _ => False) I5 (still I5 n5) at5 stop
      have cL : (compEnvC scope cl C X.env).locals = C := rfl
      subst eY
      refine thnF td fun r s6 z => ?_
      obtain ⟨hr, I6⟩ := z
      subst hr
      have back : ∀ b ∈ fp, (b ∈ X.ex ∨ X.s_0.heap.objs.size ≤ b) ∧ b ≠ X.env.locals ∧ (∀ x c, X.env.cells.lookup x = some c → c ≠ b) ∧ ∀ p ∈ X.pn ++ pins, p.1 ≠ b := fun b hb => by
        obtain ⟨_, a1, _, a3, a4, a5⟩ := (own3 b hb).1
        exact ⟨a3, a1, a4, a5⟩
      have I7 : Inv X pins σ G s6 := I3.call' (ch := fp) I6.os I6.base I6.hok I6.bare back
      have nC : G C = none := I6.free
      obtain ⟨mm, hn, _⟩ := I6.loc
      refine ⟨mm, hn, fun h2 sb => ?_⟩
      obtain ⟨f0, f1, f2, f3, f4, f5⟩ := I3.fpOk (Nat.le_of_eq eC.symm) nC
      exact ⟨.ref D, G, I7.turned (t' := s6.toks) (fun b o hb e => (sb.2 b hb).trans e) f0 f1 f3 f4 f5, rfl, qq⟩
    · have ti := T.item Y (by rw [eY]) (by rw [eY]) (by rw [eY]) calmY i [] s5 _ G (fun _ _ => False) I5 (still I5 n5) at5 go
      have xeY : Y.xe = fun _ _ => False := by rw [eY]
      have AY : Y.A = X.A := by rw [eY]
      have pY : Y.prog = X.prog := by rw [eY]
      have wY : Y.w = X.w := by rw [eY]
      subst eY
      refine thnF ti fun r s6 z => ?_
      obtain ⟨u, hr, h6⟩ := z
      subst hr
      refine thnF h6 fun _ s7 z => ?_
      obtain ⟨x, G7, I7, r7, y7, at7, n7⟩ := z
      have I7p := I7.pinned (still I7 n7) (T.obj _ _ at7)
      refine thnF (pg.run _ s7 _ G7 x u _ I7p r7 (step x G7 y7)) fun _ s8 z => ?_
      obtain ⟨σ8, G8, I8, hw8, q8⟩ := z
      show wpAny _ _ (forIn [] true _) _ _ s8
      refine wpAny_pure ?_
      rw [if_pos rfl]
      refine thnF (pe.run _ s8 σ8 G8 _ I8 q8) fun v s9 z => ?_
      obtain ⟨yv, G9, I9, r9, k, S, n, ey, hD9, room, m2, lt2, w2⟩ := z
      subst ey
      obtain ⟨tk, rfl⟩ := r9
      refine into_set (X := X.blk s3 H3 scope (compEnvC scope cl C X.env) fp) I9 hD9 room fun s10 I10 => ?_
      have pinned : ∀ b ∈ fp, ∀ o, s7.heap.get? b = some o → s10.heap.get? b = some o ∧ addS X.w D S n k G9 b = none := fun b hb o e =>
        have z := I10.pin (b, o) (List.mem_append_right _ (List.mem_append_right _ (mem_pinsAt hb e)))
        ⟨z.1, z.2.1⟩
      have hl : (wipe σ (own.map (·.2))).length = σ8.length := by rw [← hw8, wipe_length]
      refine ⟨m2, lt2, i + 1, _, (I10.unpinned (pins := [])).weak hl (fun j v e => ?_), T.keep _ _ _ at7 fun b hb o e => (pinned b hb o e).1, fun b hb => ?_, w2⟩
      · rw [← hw8] at e
        exact (wipe_some e).1
      · obtain ⟨o, e, _⟩ := T.obj _ _ at7 b hb
        exact (pinned b hb o e).2
  exact PpSet.codeAny_compStart_set loop (T.self X.A 0 _ _ _ at4 loop)
end
end KX
namespace KX
open PySem PySem.Spec PyProof.Rows L2
/-- {e for x in t}, t a tuple that stays -/
theorem setI_tup {w : World} {K : PySem.W.Frag} {a D : Addr} {xs : List V} {g : TG} {te : TE} {vs : List Nat} {σ : L2.St} {H1 : Hp} {Qd : Hp → Prop} (Pv : Nat → Hp → Prop) (h0 : Pv 0 (upd H1 D (SetO w D (fun _ => false) 0)))
    (hl : ∀ i G, i ≤ xs.length → Pv i G → SqT K G a xs)
    (hs : ∀ i x G, xs[i]? = some x → Pv i G → g x (wipe σ vs) G fun σ2 G2 => wipe σ2 vs = wipe σ vs ∧ te σ2 G2 fun y G3 => ∃ (k : Int) (S : Int → Bool) (n : Nat), y = .int k ∧ G3 D = some (SetO w D S n) ∧ n + 1 < scanBound ∧ Pv (i + 1) (addS w D S n k G3))
    (hd : ∀ G, Pv xs.length G → Qd G) :
    ∃ W : Nat → Nat → Hp → Prop, (∃ m, W 0 m (upd H1 D (SetO w D (fun _ => false) 0))) ∧ ∀ i m G, W i m G → ((Itt K a).stop i G ∧ Qd G) ∨ ((Itt K a).go i G ∧ ∀ x G1, (Itt K a).yld i G x G1 → g x (wipe σ vs) G1 fun σ2 G2 => wipe σ2 vs = wipe σ vs ∧
      te σ2 G2 fun y G3 => ∃ (k : Int) (S : Int → Bool) (n : Nat), y = .int k ∧ G3 D = some (SetO w D S n) ∧ n + 1 < scanBound ∧ ∃ m2, m2 < m ∧ W (i + 1) m2 (addS w D S n k G3)) := by
  refine ⟨fun i m G => m = xs.length - i ∧ i ≤ xs.length ∧ Pv i G, ⟨xs.length, by simp, Nat.zero_le _, h0⟩, fun i m G hw => ?_⟩
  obtain ⟨rfl, hi, p⟩ := hw
  have q := hl i G hi p
  by_cases lt : i < xs.length
  · refine .inr ⟨⟨xs, xs[i], q, List.getElem?_eq_getElem lt⟩, fun x G1 y => ?_⟩
    obtain ⟨rfl, y⟩ := y
    have z := hs i x G1 (y xs q) p
    have mono : ∀ {σ2 : L2.St} {G2 : Hp} {y : V} {G3 : Hp}, (∃ (k : Int) (S : Int → Bool) (n : Nat), y = .int k ∧ G3 D = some (SetO w D S n) ∧ n + 1 < scanBound ∧ Pv (i + 1) (addS w D S n k G3)) →
        ∃ (k : Int) (S : Int → Bool) (n : Nat), y = .int k ∧ G3 D = some (SetO w D S n) ∧ n + 1 < scanBound ∧ ∃ m2, m2 < xs.length - i ∧ m2 = xs.length - (i + 1) ∧ i + 1 ≤ xs.length ∧ Pv (i + 1) (addS w D S n k G3) :=
      fun {σ2 G2 y G3} h => by
        obtain ⟨k, S, n, e1, e2, e3, e4⟩ := h
        exact ⟨k, S, n, e1, e2, e3, _, by omega, rfl, by omega, e4⟩
    have key : (fun (y : V) (G3 : Hp) => ∃ (k : Int) (S : Int → Bool) (n : Nat), y = .int k ∧ G3 D = some (SetO w D S n) ∧ n + 1 < scanBound ∧ ∃ m2, m2 < xs.length - i ∧ m2 = xs.length - (i + 1) ∧ i + 1 ≤ xs.length ∧ Pv (i + 1) (addS w D S n k G3)) =
        fun (y : V) (G3 : Hp) => ∃ (k : Int) (S : Int → Bool) (n : Nat), y = .int k ∧ G3 D = some (SetO w D S n) ∧ n + 1 < scanBound ∧ Pv (i + 1) (addS w D S n k G3) := by
      funext y G3
      refine propext ⟨fun h => ?_, fun h => mono (σ2 := []) (G2 := G3) h⟩
      obtain ⟨k, S, n, e1, e2, e3, m2, _, _, _, e4⟩ := h
      exact ⟨k, S, n, e1, e2, e3, e4⟩
    rw [key]
    exact z
  · have e : i = xs.length := by omega
    subst e
    exact .inl ⟨⟨xs, q, Nat.le_refl _⟩, hd G p⟩
end KX

set_option maxRecDepth 100000
set_option maxHeartbeats 4000000
namespace KX
open PySem PySem.Spec PyProof.Rows L2
/-! ### what an expression of a law's generator makes, its stream at l: S is what is known of the data, P of the names -/
abbrev PSt := L2.St → Hp → Prop
def Kp (l : Addr) (P : PSt) : Prop := ∀ σ H H', Keep l H H' → StO H' l → P σ H → P σ H'
def GD (l : Addr) (P : PSt) (S : PyData → Prop) (t : TE) : Prop := ∀ σ H Q, StO H l → P σ H → (∀ H' v d, S d → Keep l H H' → StO H' l → Dx (hid l H') v d → Q v H') → t σ H Q
def GDs (l : Addr) (P : PSt) (S : List PyData → Prop) (t : TA) : Prop := ∀ σ H Q, StO H l → P σ H → (∀ H' vs ds, S ds → Keep l H H' → StO H' l → Dxs (hid l H') vs ds → Q vs H') → t σ H Q
def GI (l : Addr) (P : PSt) (S : Int → Prop) (t : TE) : Prop := ∀ σ H Q, StO H l → P σ H → (∀ H' i, S i → Keep l H H' → StO H' l → Q (.int i) H') → t σ H Q
/-- a new list, read by its items only -/
def GM (l : Addr) (P : PSt) (S : List PyData → Prop) (t : TE) : Prop := ∀ σ H Q, StO H l → P σ H → (∀ H' p xs ds, S ds → Keep l H H' → StO H' l → p ≠ l → H' p = some (.lst xs) → Dxs (hid l H') xs ds → Q (.ref p) H') → t σ H Q
def GO (l : Addr) (P : PSt) (o : Option Int) (t : TO) : Prop := ∀ σ H Q, StO H l → P σ H → (∀ H', Keep l H H' → StO H' l → Q o H') → t σ H Q
section
variable {l : Addr} {P : PSt} {K : PySem.W.Frag} {S S2 : PyData → Prop} {Ss Ss2 : List PyData → Prop} {N : Int → Prop} {t ta tb : TE} {ts : TA} {d : PyData} {ds : List PyData}
theorem GD.imp (h : GD l P S t) (i : ∀ d, S d → S2 d) : GD l P S2 t := fun σ H Q st p q => h σ H Q st p fun H' v d s => q H' v d (i d s)
theorem GDs.imp (h : GDs l P Ss ts) (i : ∀ d, Ss d → Ss2 d) : GDs l P Ss2 ts := fun σ H Q st p q => h σ H Q st p fun H' v d s => q H' v d (i d s)
theorem GM.imp (h : GM l P Ss t) (i : ∀ d, Ss d → Ss2 d) : GM l P Ss2 t := fun σ H Q st p q => h σ H Q st p fun H' v xs d s => q H' v xs d (i d s)
theorem gd_var {i : Nat} (h : ∀ σ H, P σ H → ∃ v d, σ[i]? = some (some v) ∧ S d ∧ Dx (hid l H) v d) : GD l P S (tVar i) := fun σ H Q st p q => by
  obtain ⟨v, d, e, s, x⟩ := h σ H p
  exact ⟨v, e, q H v d s (Keep.refl l H) st x⟩
theorem gd_c {v : V} (h : ∀ H, Dx H v d) : GD l P (· = d) (tC v) := fun σ H Q st p q => q H v d rfl (Keep.refl l H) st (h _)
theorem gi_val {n : Int} (h : ∀ (σ : L2.St) (H : Hp) (Q : VK), Q (.int n) H → t σ H Q) : GI l P (· = n) t := fun σ H Q st p q => h σ H Q (q H n rfl (Keep.refl l H) st)
theorem gi_var {i : Nat} (h : ∀ σ H, P σ H → ∃ n, σ[i]? = some (some (.int n)) ∧ N n) : GI l P N (tVar i) := fun σ H Q st p q => by
  obtain ⟨n, e, s⟩ := h σ H p
  exact ⟨.int n, e, q H n s (Keep.refl l H) st⟩
theorem gd_int (h : GI l P N t) : GD l P (fun d => ∃ i, N i ∧ d = .int i) t := fun σ H Q st p q => h σ H Q st p fun H' i s k st' => q H' _ _ ⟨i, s, rfl⟩ k st' (.int i)
theorem gds_nil : GDs l P (· = []) tNil := fun σ H Q st p q => q H _ _ rfl (Keep.refl l H) st .nil
theorem gds_cons (kp : Kp l P) (h : GD l P S t) (hs : GDs l P Ss ts) : GDs l P (fun x => ∃ d ds, x = d :: ds ∧ S d ∧ Ss ds) (tCons t ts) := fun σ H Q st p q =>
  h σ H _ st p fun H1 v d s k st1 x => hs σ H1 _ st1 (kp _ _ _ k st1 p) fun H2 vs ds ss k2 st2 xs => q H2 _ _ ⟨d, ds, rfl, s, ss⟩ (k.trans k2) st2 (.cons (x.up k2.same) xs)
theorem gd_tup (h : GDs l P Ss ts) (hz : ∀ ds, Ss ds → ds.length ≤ sizeLine) : GD l P (fun d => ∃ ds, d = .tuple ds ∧ Ss ds) (tTup ts) := fun σ H Q st p q =>
  h σ H _ st p fun H1 vs ds s k st1 x => ⟨by rw [x.len]; exact hz ds s, fun a na => q _ _ _ ⟨ds, rfl, s⟩ (k.new na) (st1.new na) (dx_tup na st1 x)⟩
theorem gd_lst (h : GDs l P Ss ts) (hz : ∀ ds, Ss ds → ds.length ≤ sizeLine) : GD l P (fun d => ∃ ds, d = .list ds ∧ Ss ds) (tLstS ts) := fun σ H Q st p q =>
  h σ H _ st p fun H1 vs ds s k st1 x => ⟨by rw [x.len]; exact hz ds s, fun a na za => q _ _ _ ⟨ds, rfl, s⟩ (k.new na) (st1.new na) (dx_lst na za st1 x)⟩
theorem gm_lst (h : GDs l P Ss ts) (hz : ∀ ds, Ss ds → ds.length ≤ sizeLine) : GM l P Ss (tLst ts) := fun σ H Q st p q =>
  h σ H _ st p fun H1 vs ds s k st1 x => ⟨by rw [x.len]; exact hz ds s, fun a na => q _ a vs ds s (k.new na) (st1.new na) (st1.ne na) upd_same (x.up (hnew na))⟩
theorem gm_var {i : Nat} (h : ∀ σ H, P σ H → ∃ p xs ds, σ[i]? = some (some (.ref p)) ∧ Ss ds ∧ p ≠ l ∧ H p = some (.lst xs) ∧ Dxs (hid l H) xs ds) : GM l P Ss (tVar i) := fun σ H Q st p q => by
  obtain ⟨a, xs, ds, e, s, na, ea, x⟩ := h σ H p
  exact ⟨.ref a, e, q H a xs ds s (Keep.refl l H) st na ea x⟩
theorem gm_cat (kp : Kp l P) (h : GM l P Ss ta) (h2 : GM l P Ss2 tb) (hz : ∀ x y, Ss x → Ss2 y → x.length + y.length ≤ sizeLine) : GM l P (fun z => ∃ x y, z = x ++ y ∧ Ss x ∧ Ss2 y) (tOp rCat ta tb) := fun σ H Q st p q =>
  h σ H _ st p fun H1 a xs ds s k st1 na ea x => h2 σ H1 _ st1 (kp _ _ _ k st1 p) fun H2 b ys es s2 k2 st2 nb eb y =>
    ⟨a, b, xs, ys, rfl, rfl, k2 _ _ na ea, eb, by rw [x.len, y.len]; exact hz _ _ s s2, fun c nc => q _ c _ _ ⟨ds, es, rfl, s, s2⟩ ((k.trans k2).new nc) (st2.new nc) (st2.ne nc) upd_same (((x.up k2.same).app y).up (hnew nc))⟩
theorem gd_ixM {n : Int} (kp : Kp l P) (h : GM l P Ss ta) (hi : GI l P (fun k => 0 ≤ k ∧ k < n) tb) (hn : ∀ ds, Ss ds → (ds.length : Int) = n) : GD l P (fun d => ∃ ds, Ss ds ∧ d ∈ ds) (tOp (rIxL K) ta tb) := fun σ H Q st p q =>
  h σ H _ st p fun H1 a xs ds s k st1 na ea x => hi σ H1 _ st1 (kp _ _ _ k st1 p) fun H2 i hb k2 st2 => by
    have hl := hn ds s
    have hx := x.len
    have lt : i.toNat < xs.length := by omega
    obtain ⟨d, ed, hd⟩ := x.get' (List.getElem?_eq_getElem lt)
    have ix : atI xs i = some xs[i.toNat] := by
      have z := atI_nat (xs := xs) (j := i.toNat) (List.getElem?_eq_getElem lt)
      rwa [show ((i.toNat : Nat) : Int) = i by omega] at z
    exact ⟨a, xs, i, _, rfl, rfl, .inl (.inl (k2 _ _ na ea)), ix, q H2 _ d ⟨ds, s, List.mem_of_getElem? ed⟩ (k.trans k2) st2 (hd.up k2.same)⟩
/-- t[k], t a tuple that is known -/
theorem gd_ixT {k : Nat} (kp : Kp l P) (h : GD l P (· = .tuple ds) ta) (hi : GI l P (· = (k : Int)) tb) (hk : ds[k]? = some d) : GD l P (· = d) (tOp (rIxT K) ta tb) := fun σ H Q st p q =>
  h σ H _ st p fun H1 v e s k1 st1 x => hi σ H1 _ st1 (kp _ _ _ k1 st1 p) fun H2 i hb k2 st2 => by
    subst s hb
    obtain ⟨a, xs, rfl, na, ea, hx⟩ := dx_tupOf x
    have lt : k < ds.length := by
      rcases Nat.lt_or_ge k ds.length with z | z
      · exact z
      · rw [List.getElem?_eq_none z] at hk; cases hk
    have lt2 : k < xs.length := by rw [hx.len]; exact lt
    obtain ⟨d2, ed, hd⟩ := hx.get' (List.getElem?_eq_getElem lt2)
    rw [hk] at ed
    cases ed
    exact ⟨a, xs, k, _, rfl, rfl, .inl (.inl (k2 _ _ na ea)), atI_nat (List.getElem?_eq_getElem lt2), q H2 _ d rfl (k1.trans k2) st2 (hd.up k2.same)⟩
theorem go_none : GO l P none tNoPart := fun σ H Q st p q => q H (Keep.refl l H) st
theorem go_some {n : Int} (h : GI l P (· = n) t) : GO l P (some n) (tPart t) := fun σ H Q st p q => h σ H _ st p fun H' i s k st' => ⟨i, rfl, by subst s; exact q H' k st'⟩
theorem gd_slice {lo hi : Option Int} {tl th : TO} (kp : Kp l P) (h : GD l P (· = .tuple ds) ta) (hl : GO l P lo tl) (hh : GO l P hi th) : GD l P (· = .tuple (cutD ds lo hi)) (L2.tSl (rSlA K) ta tl th) := fun σ H Q st p q =>
  h σ H _ st p fun H1 v e s k1 st1 x => hl σ H1 _ st1 (kp _ _ _ k1 st1 p) fun H2 k2 st2 => hh σ H2 _ st2 (kp _ _ _ (k1.trans k2) st2 p) fun H3 k3 st3 => by
    subst s
    exact sl_of ((x.up k2.same).up k3.same) st3 fun H4 a k4 st4 y => q H4 _ _ rfl (((k1.trans k2).trans k3).trans k4) st4 y
theorem gd_cat (kp : Kp l P) (h : GD l P S ta) (h2 : GD l P S2 tb) (t1 : ∀ d, S d → ∃ ds, d = .tuple ds ∧ ds.length ≤ 1000) (t2 : ∀ d, S2 d → ∃ ds, d = .tuple ds ∧ ds.length ≤ 1000) :
    GD l P (fun d => ∃ x y, S (.tuple x) ∧ S2 (.tuple y) ∧ d = .tuple (x ++ y)) (tOp (rCatA K) ta tb) := fun σ H Q st p q =>
  h σ H _ st p fun H1 v e s k1 st1 x => h2 σ H1 _ st1 (kp _ _ _ k1 st1 p) fun H2 u e2 s2 k2 st2 y => by
    obtain ⟨ds, rfl, z1⟩ := t1 e s
    obtain ⟨es, rfl, z2⟩ := t2 e2 s2
    have hb : (2000 : Nat) ≤ sizeLine := by decide
    exact cat_of (x.up k2.same) y st2 (by omega) fun H3 a k3 st3 z => q H3 _ _ ⟨ds, es, s, s2, rfl⟩ ((k1.trans k2).trans k3) st3 z
def rLst2 (K : PySem.W.Frag) : List V → Hp → VK → Prop := fun xs H Q => ∃ p ys, xs = [.ref p] ∧ (SqL K H p ys ∨ SqT K H p ys) ∧ ∀ l, H l = none → l ≠ sysModules → Q (.ref l) (upd H l (.lst ys))
theorem call_lst2 {X : Cx} : CallR X (.type "list") (rLst2 X.K) := call_listS
theorem gd_listOf (h : GD l P (· = .tuple ds) t) : GD l P (· = .list ds) (tCB (rLst2 K) (tCons t tNil)) := fun σ H Q st p q =>
  h σ H _ st p fun H1 v e s k1 st1 x => by
    subst s
    obtain ⟨a, xs, rfl, na, ea, hx⟩ := dx_tupOf x
    exact ⟨a, xs, rfl, .inr (.inl (.inl ea)), fun b nb zb => q _ _ _ rfl (k1.new nb) (st1.new nb) (dx_lst nb zb st1 hx)⟩
theorem gd_rep {k : Int} (kp : Kp l P) (h : GD l P (· = .tuple ds) ta) (hb : GI l P (· = k) tb) (k2 : 2 ≤ k) (k1 : k ≤ 1000) (hn : ds ≠ []) (hz : ds.length ≤ 1000) :
    GD l P (· = .tuple (List.replicate k.toNat ds).flatten) (tOp (rRepT K) ta tb) := fun σ H Q st p q =>
  h σ H _ st p fun H1 v e s k1' st1 x => hb σ H1 _ st1 (kp _ _ _ k1' st1 p) fun H2 i hb k2' st2 => by
    subst s hb
    obtain ⟨a, xs, rfl, na, ea, hx⟩ := dx_tupOf (x.up k2'.same)
    have hl := hx.len
    refine ⟨a, i, xs, rfl, rfl, .inl (.inl ea), fun z => ?_, k2, k1, by omega, fun b nb => q _ _ _ rfl ((k1'.trans k2').new nb) (st2.new nb) (dx_tup nb st2 (dxs_rep hx _))⟩
    subst z
    exact hn (List.eq_nil_of_length_eq_zero (by simpa using hl.symm))
theorem gd_dict : GD l P (· = .dict []) tDNewK := fun σ H Q st p q b nb => q _ _ _ rfl ((Keep.refl l H).new nb) (st.new nb) (dx_dic nb st)
end
end KX

set_option maxRecDepth 100000
set_option maxHeartbeats 4000000
namespace KX
open PySem PySem.Spec PyProof.Rows L2
/-! ### known names, and data of a bounded weight -/
def Env (l : Addr) (σ0 : L2.St) (L : List (V × PyData)) (M : List (Addr × List V × List PyData)) : PSt := fun σ H =>
  σ = σ0 ∧ (∀ p ∈ L, Dx (hid l H) p.1 p.2) ∧ ∀ m ∈ M, m.1 ≠ l ∧ H m.1 = some (.lst m.2.1) ∧ Dxs (hid l H) m.2.1 m.2.2
theorem kp_env {l : Addr} {σ0 : L2.St} {L : List (V × PyData)} {M : List (Addr × List V × List PyData)} : Kp l (Env l σ0 L M) := fun σ H H' k st h =>
  ⟨h.1, fun p hp => (h.2.1 p hp).up k.same, fun m hm => by
    obtain ⟨h1, h2, h3⟩ := h.2.2 m hm
    exact ⟨h1, k _ _ h1 h2, h3.up k.same⟩⟩
def Gp (n : Nat) (d : PyData) : Prop := fine (10 ^ 40) d = true ∧ wt d ≤ n ∧ d.plain = true
def Lp (n : Nat) (ds : List PyData) : Prop := fineAll (10 ^ 40) ds = true ∧ wtAll ds ≤ n ∧ PyData.plainAll ds = true
def TpS (n : Nat) (d : PyData) : Prop := ∃ ds, d = .tuple ds ∧ Lp n ds
def Al (S : PyData → Prop) (n : Nat) (ds : List PyData) : Prop := ds.length = n ∧ ∀ d ∈ ds, S d
theorem plainAll_app : ∀ xs ys : List PyData, PyData.plainAll (xs ++ ys) = (PyData.plainAll xs && PyData.plainAll ys)
  | [], ys => by simp [PyData.plainAll]
  | x :: xs, ys => by simp [PyData.plainAll, plainAll_app xs ys, Bool.and_assoc]
theorem Lp.nil : Lp 0 [] := ⟨rfl, Nat.le_refl _, rfl⟩
theorem Lp.cons {a b : Nat} {d : PyData} {ds : List PyData} (h : Gp a d) (t : Lp b ds) : Lp (a + b) (d :: ds) := by
  refine ⟨by simp [fineAll, h.1, t.1], ?_, by simp [PyData.plainAll, h.2.2, t.2.2]⟩
  have h1 := h.2.1
  have h2 := t.2.1
  simp [wtAll]
  omega
theorem Lp.app {a b : Nat} {x y : List PyData} (h : Lp a x) (t : Lp b y) : Lp (a + b) (x ++ y) := by
  refine ⟨by rw [fineAll_app, h.1, t.1]; rfl, ?_, by rw [plainAll_app, h.2.2, t.2.2]; rfl⟩
  have h1 := h.2.1
  have h2 := t.2.1
  rw [wtAll_app]
  omega
theorem Lp.mono {a b : Nat} {x : List PyData} (h : Lp a x) (le : a ≤ b) : Lp b x := ⟨h.1, Nat.le_trans h.2.1 le, h.2.2⟩
theorem Gp.mono {a b : Nat} {x : PyData} (h : Gp a x) (le : a ≤ b) : Gp b x := ⟨h.1, Nat.le_trans h.2.1 le, h.2.2⟩
theorem Lp.split {n k : Nat} {x : List PyData} (h : Lp n x) : Lp n (x.take k) ∧ Lp n (x.drop k) := by
  obtain ⟨h1, h2, h3⟩ := h
  rw [← List.take_append_drop k x, fineAll_app, Bool.and_eq_true] at h1
  rw [← List.take_append_drop k x, wtAll_app] at h2
  rw [← List.take_append_drop k x, plainAll_app, Bool.and_eq_true] at h3
  exact ⟨⟨h1.1, by omega, h3.1⟩, ⟨h1.2, by omega, h3.2⟩⟩
theorem Lp.cut {n : Nat} {x : List PyData} (h : Lp n x) (lo hi : Option Int) : Lp n (cutD x lo hi) := (h.split.2).split.1
theorem Lp.len {n : Nat} {x : List PyData} (h : Lp n x) : x.length ≤ n := Nat.le_trans (len_wt x) h.2.1
theorem Lp.tup {n : Nat} {x : List PyData} (h : Lp n x) : Gp (n + 1) (.tuple x) := ⟨by simpa [fine] using h.1, by have := h.2.1; simp [wt]; omega, by simpa [PyData.plain] using h.2.2⟩
theorem Lp.lst {n : Nat} {x : List PyData} (h : Lp n x) : Gp (n + 1) (.list x) := ⟨by simpa [fine] using h.1, by have := h.2.1; simp [wt]; omega, by simpa [PyData.plain] using h.2.2⟩
theorem TpS.gp {n : Nat} {d : PyData} (h : TpS n d) : Gp (n + 1) d := by
  obtain ⟨ds, rfl, h⟩ := h
  exact h.tup
theorem TpS.mono {a b : Nat} {d : PyData} (h : TpS a d) (le : a ≤ b) : TpS b d := by
  obtain ⟨ds, rfl, h⟩ := h
  exact ⟨ds, rfl, h.mono le⟩
theorem big_line : (1000 : Nat) ≤ sizeLine := by decide
section
variable {l : Addr} {P : PSt} {K : PySem.W.Frag} {S : PyData → Prop} {t ta tb : TE} {ts : TA} {ds : List PyData} {a b n : Nat} {σ0 : L2.St} {L : List (V × PyData)} {M : List (Addr × List V × List PyData)}
theorem gd_env {i : Nat} {v : V} {d : PyData} (h : σ0[i]? = some (some v)) (hm : (v, d) ∈ L) : GD l (Env l σ0 L M) (· = d) (tVar i) :=
  gd_var fun σ H p => ⟨v, d, by rw [p.1]; exact h, rfl, p.2.1 _ hm⟩
theorem gi_env {i : Nat} {k : Int} (h : σ0[i]? = some (some (.int k))) : GI l (Env l σ0 L M) (· = k) (tVar i) := gi_var fun σ H p => ⟨k, by rw [p.1]; exact h, rfl⟩
theorem gm_env {i : Nat} {p : Addr} {xs : List V} (h : σ0[i]? = some (some (.ref p))) (hm : (p, xs, ds) ∈ M) : GM l (Env l σ0 L M) (· = ds) (tVar i) :=
  gm_var fun σ H q => ⟨p, xs, ds, by rw [q.1]; exact h, rfl, (q.2.2 _ hm).1, (q.2.2 _ hm).2.1, (q.2.2 _ hm).2.2⟩
theorem gl_nil : GDs l P (Lp 0) tNil := gds_nil.imp fun _ e => by subst e; exact Lp.nil
theorem gl_cons (kp : Kp l P) (h : GD l P (Gp a) t) (hs : GDs l P (Lp b) ts) : GDs l P (Lp (a + b)) (tCons t ts) := (gds_cons kp h hs).imp fun _ z => by
  obtain ⟨d, ds, rfl, z1, z2⟩ := z
  exact Lp.cons z1 z2
theorem gl_tup (h : GDs l P (Lp n) ts) (hn : n ≤ 1000) : GD l P (TpS n) (tTup ts) := (gd_tup h fun ds z => Nat.le_trans z.len (Nat.le_trans hn big_line)).imp fun _ z => by
  obtain ⟨ds, rfl, z⟩ := z
  exact ⟨ds, rfl, z⟩
theorem gl_cat (kp : Kp l P) (h : GD l P (TpS a) ta) (h2 : GD l P (TpS b) tb) (ha : a ≤ 1000) (hb : b ≤ 1000) : GD l P (TpS (a + b)) (tOp (rCatA K) ta tb) :=
  (gd_cat kp h h2 (fun d z => by obtain ⟨ds, rfl, z⟩ := z; exact ⟨ds, rfl, Nat.le_trans z.len ha⟩) fun d z => by obtain ⟨ds, rfl, z⟩ := z; exact ⟨ds, rfl, Nat.le_trans z.len hb⟩).imp fun d z => by
    obtain ⟨x, y, ⟨x', e1, h1⟩, ⟨y', e2, h2⟩, rfl⟩ := z
    cases e1
    cases e2
    exact ⟨_, rfl, h1.app h2⟩
theorem gl_slice {lo hi : Option Int} {tl th : TO} (kp : Kp l P) (h : GD l P (· = .tuple ds) ta) (z : Lp n ds) (hl : GO l P lo tl) (hh : GO l P hi th) : GD l P (TpS n) (L2.tSl (rSlA K) ta tl th) :=
  (gd_slice kp h hl hh).imp fun d e => ⟨_, e, z.cut lo hi⟩
theorem al_nil : GDs l P (Al S 0) tNil := gds_nil.imp fun _ e => by subst e; exact ⟨rfl, fun d h => by cases h⟩
theorem al_cons (kp : Kp l P) (h : GD l P S t) (hs : GDs l P (Al S n) ts) : GDs l P (Al S (n + 1)) (tCons t ts) := (gds_cons kp h hs).imp fun _ z => by
  obtain ⟨d, ds, rfl, z1, z2, z3⟩ := z
  refine ⟨by simp [z2], fun x hx => ?_⟩
  rcases List.mem_cons.mp hx with e | hx
  · rw [e]; exact z1
  · exact z3 x hx
theorem al_lst (h : GDs l P (Al S n) ts) (hn : n ≤ 1000) : GM l P (Al S n) (tLst ts) := gm_lst h fun ds z => by rw [z.1]; exact Nat.le_trans hn big_line
theorem al_cat {m : Nat} (kp : Kp l P) (h : GM l P (Al S n) ta) (h2 : GM l P (Al S m) tb) (hn : n + m ≤ 1000) : GM l P (Al S (n + m)) (tOp rCat ta tb) :=
  (gm_cat kp h h2 fun x y z1 z2 => by rw [z1.1, z2.1]; exact Nat.le_trans hn big_line).imp fun z w => by
    obtain ⟨x, y, rfl, w1, w2⟩ := w
    refine ⟨by rw [List.length_append, w1.1, w2.1], fun d hd => ?_⟩
    rcases List.mem_append.mp hd with q | q
    · exact w1.2 d q
    · exact w2.2 d q
/-- one of a list, by a number within it -/
theorem al_ix {m : Int} (kp : Kp l P) (h : GM l P (Al S n) ta) (hi : GI l P (fun k => 0 ≤ k ∧ k < m) tb) (hn : (n : Int) = m) : GD l P S (tOp (rIxL K) ta tb) :=
  (gd_ixM kp h hi fun ds z => by rw [z.1]; exact hn).imp fun d z => by
    obtain ⟨ds, z1, z2⟩ := z
    exact z1.2 d z2
end
theorem GI.imp {l : Addr} {P : PSt} {N N2 : Int → Prop} {t : TE} (h : GI l P N t) (i : ∀ d, N d → N2 d) : GI l P N2 t := fun σ H Q st p q => h σ H Q st p fun H' v s => q H' v (i v s)
theorem gp_int {i : Int} (h : i.natAbs ≤ 10 ^ 40) {n : Nat} (hn : 1 ≤ n) : Gp n (.int i) := ⟨by simpa [fine] using h, by simpa [wt] using hn, rfl⟩
theorem gcn {l : Addr} {P : PSt} {n : Nat} {v : V} {d : PyData} (h : ∀ H, Dx H v d) (g : Gp n d) : GD l P (Gp n) (tC v) := (gd_c h).imp fun _ e => by subst e; exact g
theorem gin {l : Addr} {P : PSt} {n : Nat} {k : Int} {t : TE} (h : GI l P (· = k) t) (hk : k.natAbs ≤ 10 ^ 40) (hn : 1 ≤ n) : GD l P (Gp n) t := (gd_int h).imp fun d e => by
  obtain ⟨i, rfl, rfl⟩ := e
  exact gp_int hk hn
theorem alld_nil {l : Addr} {H : Hp} : ∀ p ∈ ([] : List (V × PyData)), Dx (hid l H) p.1 p.2 := fun p h => by cases h
theorem alld_cons {l : Addr} {H : Hp} {v : V} {d : PyData} {L : List (V × PyData)} (h : Dx (hid l H) v d) (t : ∀ p ∈ L, Dx (hid l H) p.1 p.2) : ∀ p ∈ (v, d) :: L, Dx (hid l H) p.1 p.2 := fun p hp => by
  rcases List.mem_cons.mp hp with e | hp
  · rw [e]; exact h
  · exact t p hp
theorem alld_up {l : Addr} {H H' : Hp} {L : List (V × PyData)} (k : Keep l H H') (t : ∀ p ∈ L, Dx (hid l H) p.1 p.2) : ∀ p ∈ L, Dx (hid l H') p.1 p.2 := fun p hp => (t p hp).up k.same
theorem allm_nil {l : Addr} {H : Hp} : ∀ m ∈ ([] : List (Addr × List V × List PyData)), m.1 ≠ l ∧ H m.1 = some (.lst m.2.1) ∧ Dxs (hid l H) m.2.1 m.2.2 := fun p h => by cases h
theorem allm_one {l : Addr} {H : Hp} {p : Addr} {xs : List V} {ds : List PyData} (n : p ≠ l) (e : H p = some (.lst xs)) (x : Dxs (hid l H) xs ds) :
    ∀ m ∈ [(p, xs, ds)], m.1 ≠ l ∧ H m.1 = some (.lst m.2.1) ∧ Dxs (hid l H) m.2.1 m.2.2 := fun q h => by
  obtain rfl := List.mem_singleton.mp h
  exact ⟨n, e, x⟩
/-- a name gets data; a name gets a list -/
theorem gd_seq {l : Addr} {P : PSt} {S : PyData → Prop} {t : TE} {u : TS} {i : Nat} {D : Ends} {σ : L2.St} {H : Hp} (h : GD l P S t) (st : StO H l) (p : P σ H) (k : ∀ H' v d, S d → Keep l H H' → StO H' l → Dx (hid l H') v d → u D (σ.set i (some v)) H') :
    tSeq (tAsg t (gName i)) u D σ H := h σ H _ st p fun H' v d s k1 st1 x => k H' v d s k1 st1 x
theorem gm_seq {l : Addr} {P : PSt} {S : List PyData → Prop} {t : TE} {u : TS} {i : Nat} {D : Ends} {σ : L2.St} {H : Hp} (h : GM l P S t) (st : StO H l) (p : P σ H)
    (k : ∀ H' a xs ds, S ds → Keep l H H' → StO H' l → a ≠ l → H' a = some (.lst xs) → Dxs (hid l H') xs ds → u D (σ.set i (some (.ref a))) H') :
    tSeq (tAsg t (gName i)) u D σ H := h σ H _ st p fun H' a xs ds s k1 st1 n e x => k H' a xs ds s k1 st1 n e x
end KX

set_option maxRecDepth 100000
set_option maxHeartbeats 4000000
namespace G1
open PySem PySem.Spec PyProof.Rows L2 KX
/-! ### the text -/
def topS (i : Nat) : Stmt := PySem.Challenge.pw_spareskept_k15_whole_top_is_path_indepen.main.body.getD i (.Pass ⟨0, 0, 0, 0⟩)
abbrev sBetween : Stmt := topS 8
abbrev sTupB : Stmt := topS 10
/-- a def of the text as it stands behind the top -/
structure Df (K : PySem.W.Frag) (mg : Str → Option Value) (x : String) (st : Stmt) (ps : List Str) (f : Addr) (fd : FuncData) : Prop where
  F : Fun K x x st f fd
  b : Binds K fd ps []
  g : mg x = some (.ref f)
/-- the built-in names that the text uses -/
structure Bl (mg : Str → Option Value) : Prop where
  isi : mg "isinstance" = none
  bool : mg "bool" = none
  int : mg "int" = none
  str : mg "str" = none
  tuple : mg "tuple" = none
  list : mg "list" = none
  len : mg "len" = none
  all : mg "all" = none
  range : mg "range" = none
  max : mg "max" = none
  min : mg "min" = none
  abs : mg "abs" = none
  repr : mg "repr" = none
  sorted : mg "sorted" = none
  ixe : mg "IndexError" = none
  vae : mg "ValueError" = none
  zip : mg "zip" = none
  any : mg "any" = none

/-! ### kinds of data -/
def tyN : PyData → String
  | .none => "NoneType" | .bool _ => "bool" | .int _ => "int" | .str _ => "str" | .list _ => "list" | .tuple _ => "tuple" | .dict _ => "dict"
def isaN (T : String) : PyData → Bool := fun d => (kitB (tyN d) T).getD false
theorem Dx.ty {K : PySem.W.Frag} {H : Hp} {v : V} {d : PyData} (h : Dx H v d) : TyX K H v (.type (tyN d)) := by
  cases h with
  | non => exact .base .non
  | bl b => exact .base (.bl b)
  | int i => exact .base (.int i)
  | str x => exact .base (.str x)
  | lst e n h => exact .base (.lst e)
  | tup e h => exact .base (.tup e)
  | dic e => exact .base (.dK e)
  | dic1 e => exact .base (.dK e)
def okT (T : String) : Bool := (["NoneType", "bool", "int", "str", "list", "tuple", "dict"].all fun a => (kitB a T).isSome)
section
variable {X : Cx}
/-- isinstance(x, T), x data, T a built-in class -/
def rIsD (T : String) : List V → Hp → VK → Prop := fun xs H Q => match xs with
  | [x, c] => c = .ty T ∧ ∃ d, Dx H x d ∧ Q (.bl (isaN T d)) H
  | _ => False
theorem call_isD {T : String} (hT : okT T = true) : CallR X (.builtin "isinstance") (rIsD T) := by
  intro pins s σ H xs us Q I r h
  match xs, h with
  | [x, c], h =>
  obtain ⟨e, d, hd, q⟩ := h
  subst e
  have ha := List.all_eq_true.mp hT
  have hs : (kitB (tyN d) T).isSome = true := ha (tyN d) (by cases d <;> simp [tyN])
  obtain ⟨b, hb⟩ := Option.isSome_iff_exists.mp hs
  have q2 : Q (.bl b) H := by
    have : isaN T d = b := by unfold isaN; rw [hb]; rfl
    rw [← this]; exact q
  exact call_isi pins s σ H _ us Q I r ⟨x, .ty T, .type (tyN d), .type T, b, rfl, .ty T, Dx.ty hd, kit_ty hb, q2⟩
/-- isinstance(x, T) as an expression -/
theorem pe_isD {T x : String} {e : Expr} {te : TE} {p p2 pos : Pos} (hT : okT T = true) (mi : X.mg "isinstance" = none) (hm : X.mg x = none) (hv : bootBuiltins x = some (.type T)) (he : PE X e te) (hg0 : Gl X "isinstance") (hg : Gl X x)
    (hn : (x : Str) ≠ "__name__" := by decide) (hd : ((x : Str) == ("__debug__" : Str)) = false := by decide)
    (h1 : starEach [e, .Name x p2] X.env = (false, eval e X.env) :: starEach [.Name x p2] X.env := by rfl) (h2 : starEach [.Name x p2] X.env = (false, eval (.Name x p2) X.env) :: starEach [] X.env := by rfl)
    (hpl : (backTo pos (starEach [.Name x p2] X.env)).any (·.1) = false := by rfl) :
    PE X (.Call (.Name "isinstance" p) [e, .Name x p2] [] pos) (tCB (rIsD T) (tCons te (tCons (tC (.ty T)) tNil))) := by
  refine ⟨fun pins s σ H Q I h => ?_⟩
  refine (pe_callB (call_isD hT) hg0 mi (by decide +kernel) (pa_cons he (pa_cons (pe_bltn (v := .ty T) hg hm hv rfl hn hd) pa_nil h2) h1) (by decide) (by decide) h1 hpl).run pins s σ H Q I ?_
  exact h
end
/-! ### is_between -/
def betw (lo hi : Int) : PyData → Bool
  | .int i => decide (lo ≤ i) && decide (i ≤ hi)
  | _ => false
def spBetween : Sp := fun vs H Q _ => ∃ v d lo hi, vs = [v, .int lo, .int hi] ∧ Dx H v d ∧ Q (.bl (betw lo hi d)) H
theorem scBetween : FnScope ["value", "low", "high"] ["value", "low", "high"] (defScope sBetween) := ⟨rfl, rfl, rfl, by decide +kernel, rfl, by decide +kernel, by decide +kernel⟩
section
variable {P : Program} {w : World} {K : PySem.W.Frag} {mg : Str → Option Value} {base : Heap}
theorem ok_between {f : Addr} {fd : FuncData} (B : Bl mg) (D : Df K mg "is_between" sBetween ["value", "low", "high"] f fd) : FnOk P w K mg base CX0 1 f fd ["value", "low", "high"] spBetween := by
  refine D.F.ok scBetween (fun vs H Q E h => ?_) (fun cdv A outer s H vs Q E hr h => ?_)
  · obtain ⟨v, d, lo, hi, rfl, _⟩ := h
    rfl
  · obtain ⟨v, d, lo, hi, rfl, hd, q⟩ := h
    refine ⟨_, pss_cons (ps_if (PW.pt (pw_or (pt_val (pe_isD (T := "bool") (x := "bool") (by decide +kernel) B.isi B.bool (by decide +kernel) (pv 0) (by rfl) (by rfl)))
        (pw_or1 (pt_not (pt_val (pe_isD (T := "int") (x := "int") (by decide +kernel) B.isi B.int (by decide +kernel) (pv 0) (by rfl) (by rfl))))))) (pss_one (ps_ret pe_bl)) pss_nil)
      (pss_one (ps_ret (pe_chain op_le op_le (pv 1) (pv 0) (pv 2)))), ?_⟩
    refine ⟨v, rfl, rfl, d, hd, _, rfl, ?_⟩
    cases d with
    | bool b => exact q
    | int i =>
      refine iteF ⟨v, rfl, rfl, _, hd, _, rfl, ?_⟩
      refine iteF ⟨_, rfl, v, rfl, ?_⟩
      cases hd
      refine ⟨lo, i, rfl, rfl, _, rfl, ?_⟩
      have e : betw lo hi (.int i) = (decide (lo ≤ i) && decide (i ≤ hi)) := rfl
      rw [e] at q
      by_cases h : lo ≤ i
      · rw [decide_eq_true h] at q ⊢
        exact iteT ⟨_, rfl, _, _, rfl, rfl, q⟩
      · rw [decide_eq_false h] at q ⊢
        exact iteF q
    | _ => exact iteF ⟨v, rfl, rfl, _, hd, _, rfl, q⟩
end
end G1

namespace G1
open PySem PySem.Spec PyProof.Rows L2 KX
abbrev sName : Stmt := topS 24
abbrev sRow : Stmt := topS 25
abbrev sVals : Stmt := topS 26
/-- the constants of the text -/
structure Cs (mg : Str → Option Value) : Prop where
  wid : ∃ t, mg "MAX_WIDTH" = some (.int 4 t)
  cost : ∃ t, mg "MAX_COST" = some (.int 1000000 t)
  val : ∃ t, mg "MAX_VALUE" = some (.int 1000000000 t)
  exp : ∃ t, mg "MAX_EXPIRY" = some (.int 1000000000 t)
  lets : ∃ t, mg "MAX_LETTERS" = some (.int 8 t)
  abc : ∃ t, mg "LETTERS" = some (.str "abcdefghijklmnopqrstuvwxyz" t)
/-! ### is_tuple_between -/
def tupB (lo hi : Int) : PyData → Bool
  | .tuple ds => decide (lo ≤ (ds.length : Int)) && decide ((ds.length : Int) ≤ hi)
  | _ => false
def spTupB : Sp := fun vs H Q _ => ∃ v d lo hi, vs = [v, .int lo, .int hi] ∧ Dx H v d ∧ Q (.bl (tupB lo hi d)) H
theorem scTupB : FnScope ["value", "low", "high"] ["value", "low", "high"] (defScope sTupB) := ⟨rfl, rfl, rfl, by decide +kernel, rfl, by decide +kernel, by decide +kernel⟩
theorem isa_tuple {d : PyData} : isaN "tuple" d = match d with | .tuple _ => true | _ => false := by
  cases d <;> (simp only [isaN, tyN]; decide +kernel)
theorem isa_str {d : PyData} : isaN "str" d = match d with | .str _ => true | _ => false := by
  cases d <;> (simp only [isaN, tyN]; decide +kernel)
theorem isa_int {d : PyData} : isaN "int" d = match d with | .int _ => true | .bool _ => true | _ => false := by
  cases d <;> (simp only [isaN, tyN]; decide +kernel)
theorem isa_bool {d : PyData} : isaN "bool" d = match d with | .bool _ => true | _ => false := by
  cases d <;> (simp only [isaN, tyN]; decide +kernel)
section
variable {P : Program} {w : World} {K : PySem.W.Frag} {mg : Str → Option Value} {base : Heap}
theorem ok_tupB {f : Addr} {fd : FuncData} (B : Bl mg) (D : Df K mg "is_tuple_between" sTupB ["value", "low", "high"] f fd) : FnOk P w K mg base CX0 1 f fd ["value", "low", "high"] spTupB := by
  refine D.F.ok scTupB (fun vs H Q E h => ?_) (fun cdv A outer s H vs Q E hr h => ?_)
  · obtain ⟨v, d, lo, hi, rfl, _⟩ := h
    rfl
  · obtain ⟨v, d, lo, hi, rfl, hd, q⟩ := h
    refine ⟨_, pss_one (ps_ret (pe_and (pe_isD (T := "tuple") (x := "tuple") (by decide +kernel) B.isi B.tuple (by decide +kernel) (pv 0) (by rfl) (by rfl))
      (pe_one (pe_chain op_le op_le (pv 1) (pe_callB call_len_seq (by rfl) B.len PySem.boot_len (pa_cons (pv 0) pa_nil)) (pv 2))))), ?_⟩
    refine ⟨v, rfl, rfl, d, hd, _, rfl, ?_⟩
    rw [isa_tuple]
    cases d with
    | tuple ds =>
      cases hd with
      | @tup a xs _ e h =>
        refine iteT ⟨_, rfl, _, rfl, a, xs, rfl, .inr (.inl (.inl e)), _, _, rfl, rfl, _, rfl, ?_⟩
        rw [h.len]
        have e : tupB lo hi (.tuple ds) = (decide (lo ≤ (ds.length : Int)) && decide ((ds.length : Int) ≤ hi)) := rfl
        rw [e] at q
        by_cases h : lo ≤ (ds.length : Int)
        · rw [decide_eq_true h] at q ⊢
          exact iteT ⟨_, rfl, _, _, rfl, rfl, q⟩
        · rw [decide_eq_false h] at q ⊢
          exact iteF q
    | _ => exact iteF q
end
/-! ### is_name -/
def abc : Str := "abcdefghijklmnopqrstuvwxyz"
def letD (x : Str) : Bool := x.cps.toList.all fun c => decide (c ∈ abc.cps.toList)
def nameD : PyData → Bool
  | .str x => (decide (1 ≤ (x.length : Int)) && decide ((x.length : Int) ≤ 8)) && letD x
  | _ => false
/-- texts are not too long -/
def smS : PyData → Prop
  | .str x => x.length ≤ sizeLine
  | _ => True
def spName : Sp := fun vs H Q _ => ∃ v d, vs = [v] ∧ Dx H v d ∧ smS d ∧ ∀ H', Same H H' → Q (.bl (nameD d)) H'
theorem scName : FnScope ["value", "letter"] ["value"] (defScope sName) := ⟨rfl, rfl, rfl, by decide +kernel, rfl, by decide +kernel, by decide +kernel⟩
theorem same_new {H : Hp} {p : Addr} {o : HO} (h : H p = none) : Same H (upd H p o) := fun b x e => by
  rw [upd_ne (ne_of_none e h)]
  exact e
theorem same_at {H H' : Hp} {p : Addr} {o : HO} (h : Same H H') (n : H p = none) : Same H (upd H' p o) := fun b x e => by
  rw [upd_ne (ne_of_none e n)]
  exact h _ _ e
section
variable {P : Program} {w : World} {K : PySem.W.Frag} {mg : Str → Option Value} {base : Heap}
theorem ok_name {f : Addr} {fd : FuncData} (B : Bl mg) (C : Cs mg) (D : Df K mg "is_name" sName ["value"] f fd) : FnOk P w K mg base CX0 1 f fd ["value"] spName := by
  obtain ⟨t8, m8⟩ := C.lets
  obtain ⟨ta, ma⟩ := C.abc
  refine D.F.ok scName (fun vs H Q E h => ?_) (fun cdv A outer s H vs Q E hr h => ?_)
  · obtain ⟨v, d, rfl, _⟩ := h
    rfl
  · obtain ⟨v, d, rfl, hd, hsm, q⟩ := h
    refine ⟨_, pss_cons (ps_if (PW.pt (pw_or (pt_not (pt_val (pe_isD (T := "str") (x := "str") (by decide +kernel) B.isi B.str (by decide +kernel) (pv 0) (by rfl) (by rfl))))
        (pw_or1 (pt_not (pt_chain op_le op_le pe_int (pe_callB call_len_str (by rfl) B.len PySem.boot_len (pa_cons (pv 0) pa_nil)) (pe_glob (v := .int 8) (by rfl) m8 ⟨_, rfl⟩)))))) (pss_one (ps_ret pe_bl)) pss_nil)
      (pss_one (ps_ret (pe_callB (cr_all rfl) (by rfl) B.all (by decide +kernel) (pa_cons (pe_lc (own := [("letter", 1)]) (g := gName 1) rfl scName.nd (pi_str (pv 0)) (blkOk_by (N := ["value", "letter"]) (sc := defScope sName) (by decide +kernel))
        (fun _ _ _ _ _ => pg_name (i := 1) scName.nd rfl (Or.inl rfl)) (fun _ _ _ _ _ => pts_nil) (fun _ _ _ _ _ => pe_cmpR op_in_sign (pv 1) (pe_glob (v := .str abc) (by rfl) ma ⟨_, rfl⟩) (by rfl))) pa_nil)))), ?_⟩
    refine ⟨v, rfl, rfl, d, hd, _, rfl, ?_⟩
    rw [isa_str]
    cases d with
    | str x =>
      cases hd
      refine iteF ⟨.str x, rfl, x, rfl, hsm, 1, _, rfl, rfl, _, rfl, ?_⟩
      have en : nameD (.str x) = ((decide (1 ≤ (x.length : Int)) && decide ((x.length : Int) ≤ 8)) && letD x) := rfl
      rw [en] at q
      by_cases h1 : 1 ≤ (x.length : Int)
      · rw [decide_eq_true h1] at q ⊢
        refine iteT ⟨_, _, rfl, rfl, _, rfl, ?_⟩
        by_cases h2 : (x.length : Int) ≤ 8
        · rw [decide_eq_true h2] at q ⊢
          refine iteF ⟨_, rfl, x, rfl, fun D nD => ?_⟩
          refine lc_it walk_str (fun i G => Same H G ∧ G D = some (.lst (((x.cps.toList.take i).map fun c => decide (c ∈ abc.cps.toList)).map V.bl))) ⟨same_at (Same.refl H) nD, upd_same⟩ (fun _ _ _ _ => trivial) (fun i c G G' hi hp hy => ?_) (fun G hp => ?_)
          · obtain ⟨rfl, cc, ec, rfl⟩ := hy
            refine ⟨rfl, _, rfl, cc, abc, rfl, rfl, _, hp.2, ?_, same_at hp.1 nD, ?_⟩
            · rw [List.length_map, List.length_map, List.length_take]
              have hx : x.cps.toList.length = x.length := by simp [Str.length]
              have hb : (8 : Nat) < sizeLine := by decide
              omega
            · rw [upd_same, List.take_add_one, show x.cps.toList[i]? = some cc by simpa using ec]
              simp
          · have hx : x.cps.toList.take x.cps.size = x.cps.toList := List.take_of_length_le (by simp)
            rw [hx] at hp
            refine ⟨D, _, rfl, .inl (.inl hp.2), ?_⟩
            have := q G hp.1
            rw [List.all_map]
            exact this
        · rw [decide_eq_false h2] at q ⊢
          exact iteT (q H (Same.refl H))
      · rw [decide_eq_false h1] at q ⊢
        exact iteF ⟨_, rfl, iteT (q H (Same.refl H))⟩
    | _ => exact iteT (q H (Same.refl H))
end
end G1

namespace G1
open PySem PySem.Spec PyProof.Rows L2 KX
/-! ### are_row_values -/
def valsD : PyData → Bool
  | .tuple ds => (decide (1 ≤ (ds.length : Int)) && decide ((ds.length : Int) ≤ 4)) && ds.all (betw (-1000000000) 1000000000)
  | _ => false
def spVals : Sp := fun vs H Q _ => ∃ v d, vs = [v] ∧ Dx H v d ∧ ∀ H', Same H H' → Q (.bl (valsD d)) H'
theorem scVals : FnScope ["value", "number"] ["value"] (defScope sVals) := ⟨rfl, rfl, rfl, by decide +kernel, rfl, by decide +kernel, by decide +kernel⟩
section
variable {P : Program} {w : World} {K : PySem.W.Frag} {mg : Str → Option Value} {base : Heap}
theorem ok_vals {f fB fT : Addr} {fd fdB fdT : FuncData} (B : Bl mg) (C : Cs mg) (D : Df K mg "are_row_values" sVals ["value"] f fd) (DB : Df K mg "is_between" sBetween ["value", "low", "high"] fB fdB)
    (DT : Df K mg "is_tuple_between" sTupB ["value", "low", "high"] fT fdT) : FnOk P w K mg base CX0 2 f fd ["value"] spVals := by
  obtain ⟨tw, mw⟩ := C.wid
  obtain ⟨tv, mv⟩ := C.val
  have GB : FnOk P w K mg base CX0 1 fB fdB _ spBetween := ok_between B DB
  have GT : FnOk P w K mg base CX0 1 fT fdT _ spTupB := ok_tupB B DT
  refine D.F.ok scVals (fun vs H Q E h => ?_) (fun cdv A outer s H vs Q E hr h => ?_)
  · obtain ⟨v, d, rfl, _⟩ := h
    rfl
  · obtain ⟨v, d, rfl, hd, q⟩ := h
    refine ⟨_, pss_cons (ps_if (pt_not (pt_val (pe_call GT hr (by rfl) DT.g DT.F.kp DT.b .nil pass0 (pa_cons (pv 0) (pa_cons pe_int (pa_cons (pe_glob (v := .int 4) (by rfl) mw ⟨_, rfl⟩) pa_nil)))))) (pss_one (ps_ret pe_bl)) pss_nil)
      (pss_one (ps_ret (pe_callB (cr_all rfl) (by rfl) B.all (by decide +kernel) (pa_cons (pe_lc (own := [("number", 1)]) (g := gName 1) rfl scVals.nd (pi_tup (pv 0)) (blkOk_by (N := ["value", "number"]) (sc := defScope sVals) (by decide +kernel))
        (fun _ _ _ _ _ => pg_name (i := 1) scVals.nd rfl (Or.inl rfl)) (fun _ _ _ _ _ => pts_nil)
        (fun _ _ _ _ _ => pe_call GB hr (by rfl) DB.g DB.F.kp DB.b .nil pass0 (pa_cons (pv 1) (pa_cons (pe_un un_neg (pe_glob (v := .int 1000000000) (by rfl) mv ⟨_, rfl⟩)) (pa_cons (pe_glob (v := .int 1000000000) (by rfl) mv ⟨_, rfl⟩) pa_nil))))) pa_nil)))), ?_⟩
    refine ⟨v, rfl, v, d, 1, 4, rfl, hd, _, rfl, ?_⟩
    cases d with
    | tuple ds =>
      cases hd with
      | @tup a xs _ ea h =>
        have et : tupB 1 4 (.tuple ds) = (decide (1 ≤ (ds.length : Int)) && decide ((ds.length : Int) ≤ 4)) := rfl
        have en : valsD (.tuple ds) = ((decide (1 ≤ (ds.length : Int)) && decide ((ds.length : Int) ≤ 4)) && ds.all (betw (-1000000000) 1000000000)) := rfl
        rw [en] at q
        rw [et]
        cases eb : (decide (1 ≤ (ds.length : Int)) && decide ((ds.length : Int) ≤ 4)) with
        | false =>
          rw [eb] at q
          exact iteT (q H (Same.refl H))
        | true =>
          rw [eb] at q
          have hlen : ds.length ≤ 4 := by
            rw [Bool.and_eq_true] at eb
            have := of_decide_eq_true eb.2
            omega
          refine iteF ⟨.ref a, rfl, a, rfl, ⟨_, .inl (.inl ea)⟩, fun D nD => ?_⟩
          refine lc_tup (xs := xs) (fun i G => Same H G ∧ G D = some (.lst (((ds.take i).map (betw (-1000000000) 1000000000)).map V.bl))) ⟨same_at (Same.refl H) nD, upd_same⟩
            (fun i G hi hp => .inl (.inl (hp.1 _ _ ea))) (fun i x G hx hp => ?_) (fun G hp => ?_)
          · obtain ⟨d, ed, hd⟩ := h.get' hx
            refine ⟨rfl, x, rfl, _, rfl, x, d, -1000000000, 1000000000, rfl, hd.up hp.1, _, hp.2, ?_, same_at hp.1 nD, ?_⟩
            · rw [List.length_map, List.length_map, List.length_take]
              have hb : (4 : Nat) < sizeLine := by decide
              omega
            · rw [upd_same, List.take_add_one, ed]
              simp
          · have hx : ds.take xs.length = ds := List.take_of_length_le (by rw [h.len]; exact Nat.le_refl _)
            rw [hx] at hp
            refine ⟨D, _, rfl, .inl (.inl hp.2), ?_⟩
            have := q G hp.1
            rw [List.all_map]
            exact this
    | _ => exact iteT (q H (Same.refl H))
end
/-! ### is_row -/
def rowD : PyData → Bool
  | .tuple [n, c, vs, e] => nameD n && betw 1 1000000 c && (valsD vs && betw 1 1000000000 e)
  | _ => false
/-- all texts are not too long -/
def smA : PyData → Prop
  | .tuple ds => ∀ d ∈ ds, smS d
  | _ => True
def spRow : Sp := fun vs H Q _ => ∃ v d, vs = [v] ∧ Dx H v d ∧ smA d ∧ ∀ H', Same H H' → Q (.bl (rowD d)) H'
theorem scRow : FnScope ["value", "name", "cost", "values", "expiry"] ["value"] (defScope sRow) := ⟨rfl, rfl, rfl, by decide +kernel, rfl, by decide +kernel, by decide +kernel⟩
theorem tupB_four {d : PyData} : tupB 4 4 d = true → ∃ a b c e, d = .tuple [a, b, c, e] := by
  intro h
  cases d with
  | tuple ds =>
    have e : (decide (4 ≤ (ds.length : Int)) && decide ((ds.length : Int) ≤ 4)) = true := h
    rw [Bool.and_eq_true] at e
    have h1 := of_decide_eq_true e.1
    have h2 := of_decide_eq_true e.2
    match ds, h1, h2 with
    | [a, b, c, e], _, _ => exact ⟨a, b, c, e, rfl⟩
    | [], h1, _ => simp at h1
    | [_], h1, _ => simp at h1
    | [_, _], h1, _ => simp at h1
    | [_, _, _], h1, _ => simp at h1
    | _ :: _ :: _ :: _ :: _ :: _, _, h2 => simp at h2; omega
  | _ => cases h
theorem rowD_not {d : PyData} (h : tupB 4 4 d = false) : rowD d = false := by
  unfold rowD
  split
  · simp [tupB] at h
  · rfl
section
variable {P : Program} {w : World} {K : PySem.W.Frag} {mg : Str → Option Value} {base : Heap}
theorem ok_row {f fB fT fN fV : Addr} {fd fdB fdT fdN fdV : FuncData} (B : Bl mg) (C : Cs mg) (D : Df K mg "is_row" sRow ["value"] f fd) (DB : Df K mg "is_between" sBetween ["value", "low", "high"] fB fdB)
    (DT : Df K mg "is_tuple_between" sTupB ["value", "low", "high"] fT fdT) (DN : Df K mg "is_name" sName ["value"] fN fdN) (DV : Df K mg "are_row_values" sVals ["value"] fV fdV) : FnOk P w K mg base CX0 3 f fd ["value"] spRow := by
  obtain ⟨tc, mc⟩ := C.cost
  obtain ⟨te, me⟩ := C.exp
  have GB : FnOk P w K mg base CX0 2 fB fdB _ spBetween := (ok_between B DB).mono (by decide)
  have GT : FnOk P w K mg base CX0 2 fT fdT _ spTupB := (ok_tupB B DT).mono (by decide)
  have GN : FnOk P w K mg base CX0 2 fN fdN _ spName := (ok_name B C DN).mono (by decide)
  have GV : FnOk P w K mg base CX0 2 fV fdV _ spVals := ok_vals B C DV DB DT
  refine D.F.ok scRow (fun vs H Q E h => ?_) (fun cdv A outer s H vs Q E hr h => ?_)
  · obtain ⟨v, d, rfl, _⟩ := h
    rfl
  · obtain ⟨v, d, rfl, hd, hsm, q⟩ := h
    have nd := scRow.nd
    refine ⟨_, pss_cons (ps_if (pt_not (pt_val (pe_call GT hr (by rfl) DT.g DT.F.kp DT.b .nil pass0 (pa_cons (pv 0) (pa_cons pe_int (pa_cons pe_int pa_nil)))))) (pss_one (ps_ret pe_bl)) pss_nil)
      (pss_cons (ps_asg (pv 0) (pg_tup (by rfl) (pgs_cons (pg_name (i := 1) nd rfl (.inl rfl)) (pgs_cons (pg_name (i := 2) nd rfl (.inl rfl)) (pgs_cons (pg_name (i := 3) nd rfl (.inl rfl)) (pgs_cons (pg_name (i := 4) nd rfl (.inl rfl)) pgs_nil))))))
      (pss_cons (ps_if (PW.pt (pw_or (pt_not (pt_val (pe_call GN hr (by rfl) DN.g DN.F.kp DN.b .nil pass0 (pa_cons (pv 1) pa_nil))))
        (pw_or1 (pt_not (pt_val (pe_call GB hr (by rfl) DB.g DB.F.kp DB.b .nil pass0 (pa_cons (pv 2) (pa_cons pe_int (pa_cons (pe_glob (v := .int 1000000) (by rfl) mc ⟨_, rfl⟩) pa_nil))))))))) (pss_one (ps_ret pe_bl)) pss_nil)
      (pss_one (ps_ret (pe_and (pe_call GV hr (by rfl) DV.g DV.F.kp DV.b .nil pass0 (pa_cons (pv 3) pa_nil))
        (pe_one (pe_call GB hr (by rfl) DB.g DB.F.kp DB.b .nil pass0 (pa_cons (pv 4) (pa_cons pe_int (pa_cons (pe_glob (v := .int 1000000000) (by rfl) me ⟨_, rfl⟩) pa_nil)))))))))), ?_⟩
    refine ⟨v, rfl, v, d, 4, 4, rfl, hd, _, rfl, ?_⟩
    cases eb : tupB 4 4 d with
    | false =>
      rw [rowD_not eb] at q
      exact iteT (q H (Same.refl H))
    | true =>
      obtain ⟨n, c, vs, e, rfl⟩ := tupB_four eb
      cases hd with
      | @tup a xs _ ea h =>
        match xs, h, ea with
        | [vn, vc, vv, ve], .cons hn (.cons hc (.cons hv (.cons he .nil))), ea =>
          have sn : smS n := hsm n (by simp)
          refine iteF ⟨.ref a, rfl, a, _, rfl, .inl (.inl ea), rfl, _, _, rfl, _, _, rfl, _, _, rfl, _, _, rfl, rfl, ?_⟩
          refine ⟨vn, rfl, vn, n, rfl, hn, sn, fun H1 s1 => ⟨_, rfl, ?_⟩⟩
          have er : rowD (.tuple [n, c, vs, e]) = (nameD n && betw 1 1000000 c && (valsD vs && betw 1 1000000000 e)) := rfl
          rw [er] at q
          cases en : nameD n with
          | false =>
            rw [en] at q
            exact iteT (iteT (q H1 s1))
          | true =>
            rw [en] at q
            refine iteF ⟨vc, rfl, vc, c, 1, 1000000, rfl, hc.up s1, _, rfl, ?_⟩
            cases ec : betw 1 1000000 c with
            | false =>
              rw [ec] at q
              exact iteT (q H1 s1)
            | true =>
              rw [ec] at q
              refine iteF ⟨vv, rfl, vv, vs, rfl, hv.up s1, fun H2 s2 => ⟨_, rfl, ?_⟩⟩
              cases ev : valsD vs with
              | false =>
                rw [ev] at q
                exact iteF (q H2 (s1.trans s2))
              | true =>
                rw [ev] at q
                exact iteT ⟨ve, rfl, ve, e, 1, 1000000000, rfl, (he.up s1).up s2, q H2 (s1.trans s2)⟩
end
end G1

set_option maxRecDepth 100000
set_option maxHeartbeats 4000000
namespace KX
open PySem PySem.Spec PyProof.Rows L2
theorem countP_eqU {x : V} : ∀ {xs : List V} {us : List Value}, Vals xs us → xs.all flatV = true → us.countP (eqU x) = xs.countP fun y => eqV y x
  | _, _, .nil, _ => rfl
  | y :: xs, u :: us, .cons r t, f => by
    rw [List.all_cons, Bool.and_eq_true] at f
    rw [List.countP_cons, List.countP_cons, eqU_of r f.1, countP_eqU t f.2]
section
variable {X : Cx}
/-- xs.count(y), flat items -/
def rCntF (K : PySem.W.Frag) : V → List V → Hp → VK → Prop := fun x xs H Q => ∃ (p : Addr) (ys : List V) (y : V), x = .ref p ∧ xs = [y] ∧ SqL K H p ys ∧ flatV y = true ∧ ys.all flatV = true ∧ Q (.int (ys.countP fun z => eqV z y : Nat)) H
theorem mt_countF : MtR X "list.count" (rCntF X.K) := by
  intro pins s σ H x xs v us Q I rx rxs h
  obtain ⟨p, ys, y, rfl, rfl, hs, fy, fs, q⟩ := h
  cases rx
  obtain ⟨u, rfl, ru⟩ := rxs.one
  obtain ⟨its, rv, ⟨⟨cls, dd, data, sl⟩, n, ho, hc, hdn, hd⟩, hlen⟩ := I.list hs
  dsimp only at hc hd
  subst hc hd
  have same : its.toArray.toList.countP (eqU y) = ys.countP fun z => eqV z y := countP_eqU rv fs
  refine call_meets PySem.F.slot_list_count ⟨_, ho, rfl⟩ PySem.F.entry_list_count (PySem.F.args_list_count_2 _ _) (SeqAt.list_countAt p its.toArray n dd sl u (eqU y)) ⟨ho, fun z hz => mem_eqAt ru fy rv fs z (by simpa using hz), ?_⟩
  refine ⟨.int (ys.countP fun z => eqV z y : Nat), H, I.tok _, ⟨s.toks, ?_⟩, q⟩
  rw [same]
end
/-- isinstance(e, T), isinstance(e, (T, ..)): e a caught error without fields of its own -/
def rIsN (K : PySem.W.Frag) (a : Addr) (cls : Value) (d : Option Addr) : List V → Hp → VK → Prop := fun xs H Q =>
  ∃ (C : Addr) (c : V) (b : Bool), XI K C ∧ cls = .ref C ∧ d = none ∧ xs = [.ref a, c] ∧
    ((∃ cv, (∀ u, RelV c u → u = cv) ∧ PySem.W.kitOne K (.ref C) cv = some b) ∨
      ∃ (tp : Addr) (ys : List V) (its : List Value), c = .ref tp ∧ H tp = some (.tup ys) ∧ (∀ us, Vals ys us → us = its) ∧ PySem.W.kitAny K (.ref C) its = some b) ∧ Q (.bl b) H
theorem call_isN {X : Cx} {a : Addr} {oe : Obj} {cls : Value} {d : Option Addr} {pn : List (Addr × Obj)} (hz : Zc cls d oe) (hf : ∃ vs, oe.data = .fields vs) :
    CallR (X.suite a ((a, oe) :: pn)) (.builtin "isinstance") (rIsN X.K a cls d) := by
  intro pins s σ H xs us Q I r h
  obtain ⟨C, c, b, T, ec, ed, rfl, hc, q⟩ := h
  subst ec ed
  obtain ⟨hget, _⟩ := I.pin (a, oe) (List.mem_append.mpr (.inl List.mem_cons_self))
  obtain ⟨vs, hv⟩ := hf
  have J : PySem.W.InstAt s.heap a oe C none := ⟨hget, hz.1, by unfold PySem.W.notCls; rw [hv] <;> rfl, by rw [hz.2]; trivial⟩
  have hcl : (PySem.W.clsIn X.K C).isSome = true := by
    obtain ⟨cd, hc, _⟩ := PySem.W.any_some T.hd
    rw [hc]; rfl
  have Z : PySem.W.KitX X.K (.ref a) (.ref C) (fun h => PySem.W.InstAt h a oe C none) := PySem.W.kitx_exc hcl T.ga T.gg T.sub T.hcl T.sp T.tk T.mro
  obtain ⟨u, rfl, ru⟩ : ∃ u2, us = [.ref a, u2] ∧ RelV c u2 := by
    cases r with
    | cons r1 r2 =>
      cases r2 with
      | cons r3 r4 =>
        cases r4
        cases r1
        exact ⟨_, rfl, r3⟩
  rcases hc with ⟨cv, hcv, e⟩ | ⟨tp, ys, its, rfl, hH, hits, e⟩
  · have eu := hcv _ ru
    subst eu
    exact PySem.W.kia_one Z I.kIn J e (fun z => nomatch z) fun tk => ⟨.bl b, H, I.kept (t' := tk) fun _ _ z => z, rfl, q⟩
  · obtain rfl : u = Value.ref tp := ru
    obtain ⟨_, us2, r2, o, h1, h2, n, h3⟩ := (show ObjOk X.prog X.w H s.heap tp (.tup ys) from I.hok tp _ hH)
    have eu := hits us2 r2
    subst eu
    obtain ⟨oc, od2, oda, osl⟩ := o
    dsimp only at h2 h3
    subst h2 h3
    exact PySem.W.kia_tup Z I.kIn J h1 e (fun z => nomatch z) fun tk => ⟨.bl b, H, I.kept (t' := tk) fun _ _ z => z, rfl, q⟩
end KX

set_option maxRecDepth 100000
set_option maxHeartbeats 4000000
/-! zip of a list and a tuple -/
namespace KX
open PySem PySem.Spec PyProof.Rows L2
def ItM (K : PySem.W.Frag) (a b : Addr) : It :=
  ⟨fun i H => ∃ (xs ys : List V) (x y : V), SqL K H a xs ∧ SqT K H b ys ∧ xs[i]? = some x ∧ ys[i]? = some y,
    fun i H v G => ∃ T x y, v = .ref T ∧ H T = none ∧ G = upd H T (.tup [x, y]) ∧ (∀ xs, SqL K H a xs → xs[i]? = some x) ∧ ∀ ys, SqT K H b ys → ys[i]? = some y,
    fun i H => ∃ xs ys : List V, SqL K H a xs ∧ SqT K H b ys ∧ xs.length = i ∧ ys.length = i⟩
theorem sep_of {z TI TO i1 i2 a b : Addr} (D : ZipApart z TI TO i1 i2 a b) : ZipSep2 z TI TO i1 i2 [i1, a] [i2, b] := by
  have e1 := D.TIz
  refine ⟨D.TIz, D.TOz, D.TITO, D.TIi1, by simp, ?_, ?_, D.TIi2, by simp, ?_, ?_, ?_, ?_⟩
  · simp [D.i1z.symm, D.l1z.symm]
  · simp [D.TOi1, D.l1TO.symm]
  · simp [D.i2z.symm, D.l2z.symm]
  · simp [D.TOi2, D.l2TO.symm]
  · simp [D.i12, D.l2i1.symm]
  · simp [D.i12.symm, D.l1i2.symm]
theorem turn_m {P : Program} {w : World} {K : PySem.W.Frag} {elts : List Expr} {kk : Nat} {tpos : Pos} {a b z TI TO i1 i2 : Addr} (D : ZipApart z TI TO i1 i2 a b) :
    Turn P w K (.Tuple elts kk tpos) (ItM K a b) [z, TI, TO, i1, i2] z (fun i h => IsZip h z TI TO .none ∧ IsPair h TI (.ref i1) (.ref i2) ∧ (∃ x y, IsPair h TO x y) ∧ h.IsListIter i1 a i ∧ h.IsTupleIter i2 b i) where
  mem := by simp
  obj := fun i h st c hc => by
    obtain ⟨hz, hTI, ⟨x, y, hTO⟩, ⟨o1, e1, _, d1⟩, ⟨o2, e2, _, d2⟩⟩ := st
    simp only [List.mem_cons, List.not_mem_nil, or_false] at hc
    rcases hc with rfl | rfl | rfl | rfl | rfl
    · exact ⟨_, hz, fun v q => nomatch q⟩
    · exact ⟨_, hTI, fun v q => nomatch q⟩
    · exact ⟨_, hTO, fun v q => nomatch q⟩
    · exact ⟨o1, e1, fun v q => by rw [d1] at q; cases q⟩
    · exact ⟨o2, e2, fun v q => by rw [d2] at q; cases q⟩
  keep := fun i h h' st k => by
    obtain ⟨hz, hTI, ⟨x, y, hTO⟩, t1, t2⟩ := st
    exact ⟨k z (by simp) _ hz, k TI (by simp) _ hTI, ⟨x, y, k TO (by simp) _ hTO⟩, t1.at fun o q => k i1 (by simp) o q, t2.at fun o q => k i2 (by simp) o q⟩
  item := by
    intro X hP hw hK hc i pins s σ H E I hf st hg
    subst hP hw hK
    obtain ⟨hz, hTI, ⟨x0, y0, hTO⟩, t1, t2⟩ := st
    obtain ⟨xs, ys, x, y, hqx, hqy, hx, hy⟩ := hg
    obtain ⟨its, rv, pl, _⟩ := I.list hqx
    obtain ⟨its2, rv2, pt, _⟩ := I.tuple hqy
    obtain ⟨u, hu, ru⟩ := rv.get hx
    obtain ⟨u2, hu2, ru2⟩ := rv2.get hy
    have zl : z < s.heap.objs.size := Heap.lt_size hz
    have hh : X.A.in1.handled = none := I.ok.hd hc
    have li : i < its.toArray.size := by simpa using (List.getElem?_eq_some_iff.mp hu).1
    have li2 : i < its2.toArray.size := by simpa using (List.getElem?_eq_some_iff.mp hu2).1
    refine wpAny_pyNext_zipD2_item (sep_of D) (Draws.list hh i1 a D.l1i1 its.toArray) (Draws.tuple hh i2 b D.l2i2 its2.toArray) hz hTI hTO ⟨t1, pl.isList⟩ ⟨t2, pt⟩ li li2 fun x1 x2 h' tk q1 q2 z' TO' s1' s2' hT hsz hk => ?_
    have e1 : x1 = u := Option.some.inj (q1.symm.trans (by simpa using hu))
    have e2 : x2 = u2 := Option.some.inj (q2.symm.trans (by simpa using hu2))
    subst e1 e2
    refine ⟨_, rfl, wpAny_letOwnedTupleGo_zip (s := { s with heap := h', toks := tk }) z' fun h'' z'' sb => ?_⟩
    have hT2 : h''.get? s.heap.objs.size = some { cls := .type "tuple", data := .seq #[x1, x2] } := (sb.2 _ (Nat.ne_of_gt zl)).trans hT
    have new : ObjOk X.prog X.w (upd H s.heap.objs.size (.tup [x, y])) h'' s.heap.objs.size (.tup [x, y]) := ⟨by show 2 ≤ sizeLine; decide, [x1, x2], .cons ru (.cons ru2 .nil), ⟨_, hT2, rfl, _, rfl⟩⟩
    have moved : ∀ c o, c ∉ [z, TI, TO, i1, i2] → s.heap.get? c = some o → h''.get? c = some o := fun c o hb q => by
      simp only [List.mem_cons, List.not_mem_nil, or_false, not_or] at hb
      exact (sb.2 c hb.1).trans (hk c o hb.1 hb.2.2.1 hb.2.2.2.1 hb.2.2.2.2 q)
    have I1 : Inv X pins σ (upd H s.heap.objs.size (.tup [x, y])) { s with heap := h'', toks := tk } := I.turnedNew (t' := tk) (ch := [z, TI, TO, i1, i2]) moved hf (Nat.le_refl _) new
    refine ⟨.ref s.heap.objs.size, _, I1, rfl, ⟨_, x, y, rfl, I.hok.fresh (Nat.le_refl _), rfl, fun l hl => by rw [I.list_inj hl hqx]; exact hx, fun l hl => by rw [I.tuple_inj hl hqy]; exact hy⟩,
      ⟨z'', (sb.2 _ D.TIz).trans (hk _ _ D.TIz D.TITO D.TIi1 D.TIi2 hTI), ⟨x1, x2, (sb.2 _ D.TOz).trans TO'⟩, s1'.1.at fun o q => (sb.2 _ D.i1z).trans q, s2'.1.at fun o q => (sb.2 _ D.i2z).trans q⟩, fun c hcm => ?_⟩
    have lt : c < s.heap.objs.size := by
      simp only [List.mem_cons, List.not_mem_nil, or_false] at hcm
      rcases hcm with rfl | rfl | rfl | rfl | rfl
      · exact zl
      · exact Heap.lt_size hTI
      · exact Heap.lt_size hTO
      · obtain ⟨_, q, _⟩ := t1; exact Heap.lt_size q
      · obtain ⟨_, q, _⟩ := t2; exact Heap.lt_size q
    rw [upd_ne (Nat.ne_of_lt lt)]
    exact (hf c hcm).1
  done := by
    intro X hP hw hK hc i pins s σ H E I hf st hg
    subst hP hw hK
    obtain ⟨hz, hTI, ⟨x0, y0, hTO⟩, t1, t2⟩ := st
    obtain ⟨xs, ys, hqx, hqy, e1, e2⟩ := hg
    obtain ⟨its, rv, pl, _⟩ := I.list hqx
    obtain ⟨its2, rv2, pt, _⟩ := I.tuple hqy
    have l1 := rv.length
    have l2 := rv2.length
    have hh : X.A.in1.handled = none := I.ok.hd hc
    have s1 : its.toArray.size = i := by simp; omega
    have s2 : its2.toArray.size = i := by simp; omega
    refine wpAny_pyNext_zipD2_end (sep_of D) (Draws.list hh i1 a D.l1i1 its.toArray) (Draws.tuple hh i2 b D.l2i2 its2.toArray) hz hTI hTO ⟨t1, pl.isList⟩ ⟨t2, pt⟩ (by omega) (by omega) (.inl s1.symm) fun h' tk hk => ⟨rfl, ?_⟩
    refine I.turnedL (t' := tk) (ch := [z, TI, TO, i1, i2]) (fun c o hb q => ?_) hf
    simp only [List.mem_cons, List.not_mem_nil, or_false, not_or] at hb
    exact hk c o hb.1 hb.2.2.1 hb.2.2.2.1 hb.2.2.2.2 q
  self := fun A i s Q E st h => wpAny_pyIter_zip st.1 h
/-! the call -/
abbrev zm1 (h : Heap) (a : Addr) : Heap := h.push { cls := .type "list_iterator", data := .fields #[.ref a, .int 0 0] }
abbrev zm2 (h : Heap) (a b : Addr) : Heap := (zm1 h a).push { cls := .type "tuple_iterator", data := .fields #[.ref b, .int 0 0] }
abbrev zm3 (h : Heap) (a b : Addr) : Heap := (zm2 h a b).push { cls := .type "tuple", data := .seq #[.ref h.objs.size, .ref (zm1 h a).objs.size] }
abbrev zm4 (h : Heap) (a b : Addr) : Heap := (zm3 h a b).push { cls := .type "tuple", data := .seq #[.none, .none] }
abbrev zm5 (h : Heap) (a b : Addr) : Heap := (zm4 h a b).push { cls := .type "zip", data := .fields #[.none, .bool false, .bool false, .ref (zm2 h a b).objs.size, .ref (zm3 h a b).objs.size] }
theorem meets_zm (a b : Addr) (xs ys : Array Value) :
    Meets (Builtin.«zip.__new__» ⟨[.type "zip", .ref a, .ref b], []⟩) (fun _ R s => s.heap.IsList a xs ∧ s.heap.IsTuple b ys ∧ R (.ok (.ret (.ref (zm4 s.heap a b).objs.size))) { s with heap := zm5 s.heap a b }) :=
  .of_wp fun prog w A R s h => by
    obtain ⟨hp, g, d, tk, os⟩ := s
    obtain ⟨ha, hb, h⟩ := h
    have hsub := sub_zip
    have La : Heap.IsList (Shared.heap ⟨hp, g, d, tk, os⟩) a xs := ha
    have Lb : Heap.IsTuple (Shared.heap ⟨hp.push { cls := .type "list_iterator", data := .fields #[.ref a, .int 0 0] }, g, d, tk, os⟩) b ys := Heap.IsTuple.push hb _
    wp_walk using wpAny_pyIter_list La, wpAny_pyIter_tuple Lb
    exact ⟨_, rfl, h⟩
section
variable {prog : Program} {w : World} {A : Around} {E : Value → Shared → Prop} {s : Shared}
theorem call_zm {a b : Addr} {xs ys : Array Value} {Q : Value → Shared → Prop} (ha : s.heap.IsList a xs) (hb : s.heap.IsTuple b ys)
    (go : ∀ h', IsZip h' (s.heap.objs.size + 4) (s.heap.objs.size + 2) (s.heap.objs.size + 3) .none → IsPair h' (s.heap.objs.size + 2) (.ref s.heap.objs.size) (.ref (s.heap.objs.size + 1)) → IsPair h' (s.heap.objs.size + 3) .none .none →
      h'.IsListIter s.heap.objs.size a 0 → h'.IsTupleIter (s.heap.objs.size + 1) b 0 → (∀ c o, s.heap.get? c = some o → h'.get? c = some o) → Q (.ref (s.heap.objs.size + 4)) { s with heap := h' }) :
    wpAny (model prog w) A (call (.type "zip") [.ref a, .ref b]) Q E s := by
  refine callType_new F.called_zip (by decide) (F.typeCall_zip_2 _ _) (F.newCall_zip_2 _ _) (fun obj => F.args_object_init_3 obj _ _) F.entry_zip_new (meets_zm a b xs ys) ⟨ha, hb, ?_⟩
  have n1 : (zm1 s.heap a).objs.size = s.heap.objs.size + 1 := by rw [Heap.size_push]
  have n2 : (zm2 s.heap a b).objs.size = s.heap.objs.size + 2 := by rw [Heap.size_push, n1]
  have n3 : (zm3 s.heap a b).objs.size = s.heap.objs.size + 3 := by rw [Heap.size_push, n2]
  have n4 : (zm4 s.heap a b).objs.size = s.heap.objs.size + 4 := by rw [Heap.size_push, n3]
  have k45 : ∀ {c o}, (zm4 s.heap a b).get? c = some o → (zm5 s.heap a b).get? c = some o := fun e => Heap.get?_push_of_some _ e
  have k35 : ∀ {c o}, (zm3 s.heap a b).get? c = some o → (zm5 s.heap a b).get? c = some o := fun e => k45 (Heap.get?_push_of_some _ e)
  have k25 : ∀ {c o}, (zm2 s.heap a b).get? c = some o → (zm5 s.heap a b).get? c = some o := fun e => k35 (Heap.get?_push_of_some _ e)
  have k15 : ∀ {c o}, (zm1 s.heap a).get? c = some o → (zm5 s.heap a b).get? c = some o := fun e => k25 (Heap.get?_push_of_some _ e)
  have o5 : (zm5 s.heap a b).get? (zm4 s.heap a b).objs.size = some _ := Heap.get?_push_size _ rfl
  have o4 := k45 (c := (zm3 s.heap a b).objs.size) (Heap.get?_push_size _ rfl)
  have o3 := k35 (c := (zm2 s.heap a b).objs.size) (Heap.get?_push_size _ rfl)
  have o2 := k25 (c := (zm1 s.heap a).objs.size) (Heap.get?_push_size _ rfl)
  have o1 := k15 (c := s.heap.objs.size) (Heap.get?_push_size _ rfl)
  show _ ∧ _
  rw [n2, n3, n4] at o5
  rw [n3] at o4
  rw [n1, n2] at o3
  rw [n1] at o2
  rw [n4]
  exact ⟨⟨_, o5, rfl⟩, go _ o5 o3 o4 ⟨_, o1, rfl, rfl⟩ ⟨_, o2, rfl, rfl⟩ fun c o x => k15 (Heap.get?_push_of_some _ x)⟩
end
def iZipM (K : PySem.W.Frag) (ta : TA) : TI := fun σ H R => ta σ H fun vs H1 => ∃ a b xs ys, vs = [.ref a, .ref b] ∧ SqL K H1 a xs ∧ SqT K H1 b ys ∧ R (ItM K a b) H1
theorem pi_zipM {X : Cx} {e e2 : Expr} {ta : TA} {p pos tpos : Pos} {elts : List Expr} {kk : Nat} (hg : Gl X "zip") (hm : X.mg "zip" = none) (ha : PA X [e, e2] ta)
    (hs : starEach [e, e2] X.env = (false, eval e X.env) :: starEach [e2] X.env := by rfl) (hpl : (backTo pos (starEach [e2] X.env)).any (·.1) = false := by rfl) :
    PI X (.Tuple elts kk tpos) (.Call (.Name "zip" p) [e, e2] [] pos) (iZipM X.K ta) := by
  refine ⟨fun pins s σ H R I h => ?_⟩
  refine Call_ (ld_blt I hg hm PyProof.Rows.boot_zip (PyProof.Rows.callWith_type1 (thn (ha.run pos pins s σ H _ I h) fun us s1 z => ?_) hs hpl))
  obtain ⟨vs, H1, I1, r1, a, b, xs, ys, ex, hqx, hqy, q⟩ := z
  subst ex
  obtain rfl : us = [.ref a, .ref b] := by
    cases r1 with
    | cons r rr =>
      cases rr with
      | cons r' rr =>
        cases rr
        cases r
        cases r'
        rfl
  obtain ⟨its, rv, pl, _⟩ := I1.list hqx
  obtain ⟨its2, rv2, pt, _⟩ := I1.tuple hqy
  have ltb : b < s1.heap.objs.size := by
    obtain ⟨o, ho, _⟩ := id pt
    exact Heap.lt_size ho
  refine call_zm pl.isList (show s1.heap.IsTuple b its2.toArray from pt) fun h' hz hTI hTO t1 t2 hk => wpAny_pyIter_zip hz ?_
  have I2 : Inv X pins σ H1 { s1 with heap := h' } := I1.kept (t' := s1.toks) hk
  refine ⟨s1.heap.objs.size + 4, [s1.heap.objs.size + 4, s1.heap.objs.size + 2, s1.heap.objs.size + 3, s1.heap.objs.size, s1.heap.objs.size + 1], _, _, H1, rfl, I2, turn_m (PySem.W.ktu_apart s1.heap.objs.size a b pl.lt ltb), ⟨hz, hTI, ⟨_, _, hTO⟩, t1, t2⟩, fun c hcm => ?_, q⟩
  have le : s1.heap.objs.size ≤ c := by
    simp only [List.mem_cons, List.not_mem_nil, or_false] at hcm
    rcases hcm with rfl | rfl | rfl | rfl | rfl <;> omega
  exact I1.fpOk le (I1.hok.fresh le)
/-- [e for x, y in zip(l, t)] -/
theorem lc_zipM {K : PySem.W.Frag} {a b : Addr} {xs ys : List V} {g : TG} {tt : TT} {te : TE} {vs : List Nat} {σ : L2.St} {H1 : Hp} {D : Addr} {Qd : Hp → Prop} (hl : xs.length = ys.length) (Pv : Nat → Hp → Prop) (h0 : Pv 0 (upd H1 D (.lst [])))
    (hq : ∀ i G, i ≤ xs.length → Pv i G → SqL K G a xs ∧ SqT K G b ys)
    (hs : ∀ (i : Nat) (x y : V) (T : Addr) (G : Hp), xs[i]? = some x → ys[i]? = some y → Pv i G → G T = none → g (.ref T) (wipe σ vs) (upd G T (.tup [x, y])) fun σ2 H2 => wipe σ2 vs = wipe σ vs ∧ tt σ2 H2 fun b H3 =>
      if b = true then te σ2 H3 fun y H4 => ∃ zs, H4 D = some (.lst zs) ∧ zs.length < sizeLine ∧ Pv (i + 1) (upd H4 D (.lst (zs ++ [y]))) else Pv (i + 1) H3) (hd : ∀ G, Pv xs.length G → Qd G) :
    ∃ W : Nat → Nat → Hp → Prop, (∃ m, W 0 m (upd H1 D (.lst []))) ∧ ∀ i m H, W i m H → ((ItM K a b).stop i H ∧ Qd H) ∨ ((ItM K a b).go i H ∧ ∃ Nx : Hp → Prop, (∀ H', Nx H' → ∃ m', m' < m ∧ W (i + 1) m' H') ∧ ∀ x H', (ItM K a b).yld i H x H' →
      g x (wipe σ vs) H' fun σ2 H2 => wipe σ2 vs = wipe σ vs ∧ tt σ2 H2 fun b H3 => if b = true then te σ2 H3 fun y H4 => ∃ zs, H4 D = some (.lst zs) ∧ zs.length < sizeLine ∧ Nx (upd H4 D (.lst (zs ++ [y]))) else Nx H3) := by
  refine ⟨fun i m H => m = xs.length - i ∧ i ≤ xs.length ∧ Pv i H, ⟨xs.length, by simp, Nat.zero_le _, h0⟩, fun i m H hw => ?_⟩
  obtain ⟨rfl, hi, p⟩ := hw
  obtain ⟨qx, qy⟩ := hq i H hi p
  by_cases lt : i < xs.length
  · refine .inr ⟨⟨xs, ys, xs[i], ys[i], qx, qy, List.getElem?_eq_getElem lt, List.getElem?_eq_getElem (by omega)⟩, Pv (i + 1), fun H' p' => ⟨xs.length - (i + 1), by omega, rfl, lt, p'⟩, fun v H' y => ?_⟩
    obtain ⟨T, x, y, rfl, nT, rfl, e1, e2⟩ := y
    exact hs i x y T H (e1 xs qx) (e2 ys qy) p nT
  · have e : i = xs.length := by omega
    subst e
    exact .inl ⟨⟨xs, ys, qx, qy, rfl, hl.symm⟩, hd H p⟩
end KX

set_option maxRecDepth 100000
set_option maxHeartbeats 4000000
/-! == of a text and a dict; x in t where x may be a dict -/
namespace KX
open PySem PySem.Spec PyProof.Rows L2
theorem str_eq_declines_dict (b : Str) (u : Tok) (l : Addr) (es : Array DictEntry) (ep : Nat) (dd : Option Addr) (sl : Array (Option Value)) :
    Meets (Builtin.«str.__eq__» ⟨[.str b u, .ref l], []⟩) (fun _ R s => s.heap.get? l = some { cls := .type "dict", dict := dd, data := .dict es ep, slots := sl } ∧ R (.ok (.ret .notImplemented)) s) :=
  .of_wp fun prog w A R s h => by obtain ⟨hp, g, d, tk, os⟩ := s; obtain ⟨hl, h⟩ := h; wp_walk using AutoSeq1.wpAny_loadPart' hl, wpAny_load hl; exact ⟨_, rfl, h⟩
theorem dict_eq_declines_str (b : Str) (u : Tok) (l : Addr) (es : Array DictEntry) (ep : Nat) (dd : Option Addr) (sl : Array (Option Value)) :
    Meets (Builtin.«dict.__eq__» ⟨[.ref l, .str b u], []⟩) (fun _ R s => s.heap.get? l = some { cls := .type "dict", dict := dd, data := .dict es ep, slots := sl } ∧ R (.ok (.ret .notImplemented)) s) :=
  .of_wp fun prog w A R s h => by obtain ⟨hp, g, d, tk, os⟩ := s; obtain ⟨hl, h⟩ := h; have f1 : isSubtype (.type "str") (.type "dict") = pure false := by rw [isSubtype_type]; kernel_rfl
                                  wp_walk using AutoSeq1.wpAny_loadPart' hl, wpAny_load hl; exact ⟨_, rfl, h⟩
section
open MeetsSeq MeetsSeq2 MeetsSeq3 SeqRoads2 SeqAt
variable {A : Around} {s : Shared}
theorem rc_str_dict {l : Addr} {o : Obj} {es : Array DictEntry} {ep : Nat} (b : Str) (u : Tok) (ho : s.heap.get? l = some o) (hc : o.cls = .type "dict") (hd : o.data = .dict es ep) (hu : A.units < cLine) : SeqAt.RcAt A s (.str b u) (.ref l) false := fun prog w E Q h => by
  obtain ⟨cls, dd, data, sl⟩ := o
  simp only at hc hd
  subst hc hd
  exact rc_eq_decline_or (k := false) (typeIs_str s b u) ⟨_, ho, rfl⟩ (by decide) PySem.F.sub_dict_str PySem.F.slot_str_eq PySem.F.slot_dict_eq_refl
    (fun _ hq => call_meets PySem.F.slot_str_eq (typeIs_str s b u) PySem.F.entry_str_eq (PySem.F.args_str_eq_2 _ _) (str_eq_declines_dict b u l es ep dd sl) ⟨ho, hq⟩)
    (fun _ hq => call_meets PySem.F.slot_dict_eq_refl ⟨_, ho, rfl⟩ PySem.F.entry_dict_eq (PySem.F.args_dict_eq_2 _ _) (dict_eq_declines_str b u l es ep dd sl) ⟨ho, hq⟩)
    (fun _ hq => wpAny_of_eq (rfl : isSame (.str b u) (.ref l) = pure false) hq) (.inr hu) h
theorem eq_str_dict {l : Addr} {o : Obj} {es : Array DictEntry} {ep : Nat} (b : Str) (u : Tok) (ho : s.heap.get? l = some o) (hc : o.cls = .type "dict") (hd : o.data = .dict es ep) (hu : A.units < cLine) : SeqAt.EqAt A s (.str b u) (.ref l) false := fun prog w E Q h => by
  unfold eqBool
  refine wpAny_holding ?_
  refine wpAny_ite_split (fun hab => absurd (eq_of_beq hab) nofun) (fun _ => ?_)
  exact wpAny_bind (rc_str_dict b u ho hc hd hu prog w E _ (wpAny_truthy_bool h))
end
/-- data without dicts, or a dict -/
def okP (d : PyData) : Prop := d.plain = true ∨ ∃ kvs, d = .dict kvs
section
variable {X : Cx}
/-- x in t: t a tuple of texts, x data, or a dict -/
def rInX (K : PySem.W.Frag) (f : Bool → Bool) : R2 := fun x y H Q => ∃ (d : PyData) (t : Addr) (ns : List Str), Dx H x d ∧ okP d ∧ y = .ref t ∧ SqT K H t (ns.map V.str) ∧ Q (.bl (f ((ns.map PyData.str).any fun z => PyData.eqv z d))) H
theorem dp_strsX {K : PySem.W.Frag} {H : Hp} : ∀ ns : List Str, DpAll K H (ns.map V.str) (ns.map PyData.str)
  | [] => .nil
  | n :: ns => .cons (.str n) (dp_strsX ns)
theorem strs_plain : ∀ ns : List Str, PyData.plainAll (ns.map PyData.str) = true ∧ PyData.depthAll (ns.map PyData.str) = 0
  | [] => ⟨rfl, by simp [PyData.depthAll]⟩
  | n :: ns => by
    obtain ⟨h1, h2⟩ := strs_plain ns
    exact ⟨by simp [PyData.plainAll, PyData.plain, h1], by simp [PyData.depthAll, PyData.depth, h2]⟩
theorem op_inX (hu : X.A.units + 64 < cLine) : OpR X (compareOp .In) (rInX X.K id) := by
  intro pins s σ H x y v u Q I rx ry h
  obtain ⟨d, t, ns, hd, od, rfl, ht, q⟩ := h
  rcases od with pd | ⟨kvs, rfl⟩
  · exact op_inTD hu pins s σ H x (.ref t) v u Q I rx ry ⟨d, ns.map PyData.str, dp_dx d x pd hd, .tup ht (dp_strsX ns), pd, (strs_plain ns).1, by rw [(strs_plain ns).2]; omega, q⟩
  · have hq : ((ns.map PyData.str).any fun z => PyData.eqv z (.dict kvs)) = false := List.any_eq_false.mpr fun z hz => by
      obtain ⟨n, _, rfl⟩ := List.mem_map.mp hz
      simp [PyData.eqv]
    rw [hq] at q
    obtain ⟨a, rfl⟩ : ∃ a, x = .ref a := by
      cases hd with
      | dic e => exact ⟨_, rfl⟩
      | dic1 e => exact ⟨_, rfl⟩
    cases ry
    cases rx
    obtain ⟨its, rv, ⟨o, ho, hc, n, hdat⟩, _⟩ := I.tuple ht
    have hdic : ∃ o es ep, s.heap.get? a = some o ∧ o.cls = .type "dict" ∧ o.data = .dict es ep := by
      cases hd with
      | dic e =>
        obtain ⟨_, _, _, _, o, es, ep, e1, ex, ed, _⟩ := (show ObjOk X.prog X.w H s.heap a (.dK []) from I.hok a _ e)
        exact ⟨o, es, ep, e1, ex.1, ed⟩
      | dic1 e =>
        obtain ⟨_, _, _, _, o, es, ep, e1, ex, ed, _⟩ := (show ObjOk X.prog X.w H s.heap a (.dK _) from I.hok a _ e)
        exact ⟨o, es, ep, e1, ex.1, ed⟩
    obtain ⟨o2, es, ep, h1, h2, h3⟩ := hdic
    refine SeqAt.in_tupleAt (e := fun _ => false) (hl := ⟨o, ho, hc, n, hdat⟩) (he := fun y hy => ?_) (h := ?_)
    · have hm : ∃ n t, y = Value.str n t := by
        have : ∀ (ns : List Str) (us : List Value), Vals (ns.map V.str) us → ∀ z ∈ us, ∃ n t, z = Value.str n t := fun ns => by
          induction ns with
          | nil => intro us r z hz; cases r; cases hz
          | cons n ns ih =>
            intro us r z hz
            cases r with
            | cons r1 r2 =>
              rcases List.mem_cons.mp hz with rfl | hz
              · obtain ⟨t, rfl⟩ := r1
                exact ⟨n, t, rfl⟩
              · exact ih _ r2 z hz
        exact this ns its rv y (by simpa using hy)
      obtain ⟨n, t, rfl⟩ := hm
      exact eq_str_dict n t h1 h2 h3 (by have : X.A.units + 64 < cLine := hu; show X.A.in1.units < cLine; exact Nat.lt_of_le_of_lt (by show X.A.units + 1 ≤ X.A.units + 64; omega) this)
    · have : (its.toArray.any fun _ => false) = false := by
        rw [← Array.any_toList]
        exact List.any_eq_false.mpr fun _ _ => by simp
      rw [this]
      exact ⟨.bl false, H, I, rfl, q⟩
end
end KX

set_option maxRecDepth 100000
set_option maxHeartbeats 4000000
/-! < of data that are alike -/
namespace KX
open PySem PySem.Spec PyProof.Rows L2
section
variable {X : Cx}
def rLtD (K : PySem.W.Frag) : R2 := fun x y H Q => ∃ d e, Dp K H x d ∧ Dp K H y e ∧ PySem.W.alike d e = true ∧ d ≠ .none ∧ min d.depth e.depth ≤ 60 ∧ Q (.bl (PySem.W.dataLt d e)) H
theorem op_ltD (hu : X.A.units + 64 < cLine) : OpR X (compareOp .Lt) (rLtD X.K) := by
  intro pins s σ H x y v u Q I rx ry h
  obtain ⟨d, e, hd, he, ha, hn, hm, q⟩ := h
  obtain ⟨as, r1⟩ := Dp.reads I d x v hd rx
  obtain ⟨bs, r2⟩ := Dp.reads I e y u he ry
  exact PySem.W.lt_data r1 r2 ha hn (by omega) ⟨.bl _, H, I, rfl, q⟩
end
end KX

set_option maxRecDepth 100000
set_option maxHeartbeats 4000000
/-! l != [], l any list -/
namespace KX
open PySem PySem.Spec PyProof.Rows L2
section
variable {X : Cx}
def rNeL0 (K : PySem.W.Frag) : R2 := fun x y H Q => ∃ a b xs, x = .ref a ∧ y = .ref b ∧ SqL K H a xs ∧ SqL K H b [] ∧ Q (.bl (!xs.isEmpty)) H
theorem op_neL0 (hu : X.A.units < cLine) : OpR X (compareOp .NotEq) (rNeL0 X.K) := by
  intro pins s σ H x y v u Q I rx ry h
  obtain ⟨a, b, xs, rfl, rfl, ha, hb, q⟩ := h
  cases rx
  cases ry
  obtain ⟨its, r1, p1, _⟩ := I.list ha
  obtain ⟨its2, r2, p2, _⟩ := I.list hb
  cases r2
  cases xs with
  | nil =>
    cases r1
    refine SeqAt.RcNeAt.lists (e := fun _ => true) p1.isList p2.isList rfl hu (fun j h1 h2 => absurd h2 (by simp)) X.prog X.w X.xe (EP X pins σ Q) ?_
    exact ⟨.bl _, H, I, rfl, q⟩
  | cons x xs =>
    cases r1
    exact SeqAt.RcNeAt.lists_lengths p1.isList p2.isList (by simp) hu X.prog X.w X.xe (EP X pins σ Q) ⟨.bl _, H, I, rfl, q⟩
end
end KX

set_option maxRecDepth 100000
set_option maxHeartbeats 400000
namespace KX
open PySem PySem.Spec PyProof.Rows L2 LamX NdefX
/-! ### a lambda with one parameter, captured names, handed to a def and called there -/
abbrev lamF (q : Str) (params : Arguments) (scope : Scope) (cl : List (Str × Addr)) (c : Addr) : NF := ⟨"<lambda>", q, params, [], scope, cl, c⟩
theorem cells_later {cl : List (Str × Addr)} {fr : List Str} {ws : List (Option V)} {fs : List Addr} {h h2 : Heap} {H H2 : Hp} (C : CellsAt cl fr ws h H) (un : Un fs [] H H2 h h2) : CellsAt cl fr ws h2 H2 := by
  have kp : ∀ y c, cl.lookup y = some c → ∀ v, h.IsCell c v → h2.IsCell c v := fun y c e v ⟨o, ho, hd⟩ => by
    obtain ⟨sl, q⟩ := un.any ho (C.all y c e).1 (by simp)
    exact ⟨_, q, hd⟩
  refine ⟨C.len, fun y c e => ?_, C.inj, fun i y e => ?_⟩
  · obtain ⟨n, v, z⟩ := C.all y c e
    refine ⟨?_, v, kp y c e v z⟩
    obtain ⟨o, ho, _⟩ := z
    exact un.free c o ho n (by simp)
  · obtain ⟨c, hc, hv⟩ := C.has i y e
    refine ⟨c, hc, fun v ev => ?_⟩
    obtain ⟨u, r, z⟩ := hv v ev
    exact ⟨u, r, kp y c hc _ z⟩
theorem vals_one {v : V} {us : List Value} (r : Vals [v] us) : ∃ u0, us = [u0] := by
  cases r with
  | cons r0 rr =>
    cases rr
    exact ⟨_, rfl⟩
/-- it runs -/
theorem lam_run {CX : CXT} {P : Program} {w : World} {K : PySem.W.Frag} {mg : Str → Option Value} {base : Heap} {N ps fr : List Str} {q : Str} {params : Arguments} {scope : Scope} {cl : List (Str × Addr)} {c' f : Addr} {body : Expr} {k : Nat} {A : Around} {outer : List PySem.Env} {s : Shared} {H : Hp}
    {us : List Value} {vs : List V} {ws : List (Option V)} {Q : VK} {E : XK} {pm ctv : Value} {t : TE} (S : NScope N ps fr scope) (hb : bindArgs (PySem.W.kla_fn "<lambda>" q params body scope cl pm (.ref c') ctv) ⟨us, []⟩ = pure (ps.zip us)) (hr : Room (k + 1) A)
    (e0 : Env0 P w K mg base A outer s H) (ho : s.heap.get? f = some (PySem.W.kla_obj "<lambda>" q params body scope cl pm c' ctv)) (hc : H c' = some (CodeO c' q)) (C : CellsAt cl fr ws s.heap H) (r : Vals vs us) (hl : vs.length = ps.length)
    (hbody : Room k (A.deeper (envF (lamF q params scope cl c') f s.heap.objs.size)) → PE (ncx CX P w K mg base N (lamF q params scope cl c') f A outer s H E) body t) (ht : t (startF N vs ws) H Q) : codeAny (model P w) A (.call (.ref f) ⟨us, []⟩) (CR CX outer P w H s Q E) s := by
  have lim : s.heap.NoLimit := e0.mod.nolimit.keeps fun b o e => (e0.bs b o e).1
  refine PySem.W.kla_callFunE hr.depth ho rfl S.co S.gen rfl (codeO_at e0.hok hc) ?_
  rw [hb]
  refine wpAny_pure (wpAny_newFunctionEnv S.nocell (fun ⟨n, _⟩ hy => S.par n (List.of_mem_zip hy).1) (fun h₁ hns hsb => ⟨lim.fresh _ hsb, ?_⟩) S.kind)
  show codeAny _ _ (.expr body (envF (lamF q params scope cl c') f s.heap.objs.size)) _ _
  have kp : ∀ b o, s.heap.get? b = some o → h₁.get? b = some o := fun b o e => hsb.extBut b o (Nat.ne_of_lt (Heap.lt_size e)) (Heap.get?_push_of_some _ e)
  have I : Inv (ncx CX P w K mg base N (lamF q params scope cl c') f A outer s H E) [] (startF N vs ws) H { s with heap := h₁, toks := s.toks + (ps.zip us).length } := inv_startN S hr.hd e0 hl r C hns kp
  refine PySem.W.kla_codeExpr (wpAny_mono ((hbody (hr.deeper _)).run [] _ _ H Q I ht) (fun v s' hq => ?_) fun e s' hq => hq)
  obtain ⟨w', H', J', rv, q⟩ := hq
  exact ⟨w', H', J'.os, J'.bare, J'.base, J'.hok, rv, q⟩
section
variable {X : Cx} {pins : List (Addr × Obj)} {σ : L2.St} {H : Hp} {s : Shared}
/-- a(e), in the def that got the lambda as a -/
theorem pe_act1 {CXg : CXT} {Eg : XK} {Ng : List Str} {qg : Str} {sg : Scope} {g f c' : Addr} {cdg pm ctv : Value} {q : Str} {params : Arguments} {body : Expr} {scope : Scope} {cl : List (Str × Addr)} {k i : Nat} {a p : Str} {pn : List (Addr × Obj)} {xe : Value → Shared → Prop} {W : WX} {tb : XK → TE} {te : TE} {e : Expr} {p1 p2 : Pos} {N fr : List Str} {ws : List (Option V)}
    (S : NScope N [p] fr scope) (C : CellsAt cl fr ws s.heap H) (hf : s.heap.get? f = some (PySem.W.kla_obj "<lambda>" q params body scope cl pm c' ctv)) (hfn : H f = none) (hfr : f ∉ frs X.stack)
    (hbind : ∀ u, bindArgs (PySem.W.kla_fn "<lambda>" q params body scope cl pm (.ref c') ctv) ⟨[u], []⟩ = pure [(p, u)])
    (tk : Takes ((cxOf CXg X.prog X.w X.K X.mg X.base Ng qg sg g cdg X.A X.stack s H Eg).tr pn xe) W) (hr : Room (k + 1) (X.A.deeper (envOfC qg sg s.heap.objs.size g cdg)))
    (hbody : ∀ (A : Around) (outer : List PySem.Env) (s : Shared) (H : Hp) (E : XK), Room k (A.deeper (envF (lamF q params scope cl c') f s.heap.objs.size)) → PE (ncx (L2.CX X.prog X.w) X.prog X.w X.K X.mg X.base N (lamF q params scope cl c') f A outer s H E) body (tb E))
    (ha : PE ((cxOf CXg X.prog X.w X.K X.mg X.base Ng qg sg g cdg X.A X.stack s H Eg).tr pn xe) e te) (he : ∀ env, starEach [e] env = (false, eval e env) :: starEach [] env)
    (hN : Ng[i]? = some a) (hv : Vis sg a) (hd : (a == ("__debug__" : Str)) = false := by decide) (hcd : (a == ("__classdict__" : Str)) = false := by decide) :
    PE ((cxOf CXg X.prog X.w X.K X.mg X.base Ng qg sg g cdg X.A X.stack s H Eg).tr pn xe) (.Call (.Name a p1) [e] [] p2)
      (fun σZ HZ Q => σZ[i]? = some (some (.ref f)) ∧ te σZ HZ fun v H1 => H1 c' = some (CodeO c' q) ∧ tb (fun cls d H' => W cls d σZ H') (startF N [v] ws) H1 Q) := by
  refine ⟨fun pinsZ sZ σZ HZ Q IZ h => ?_⟩
  obtain ⟨hs, ht⟩ := h
  refine wpAny_Call_Name_kw (thn ((pe_var (pos := p1) (i := i) hN hv hd hcd).run pinsZ sZ σZ HZ (fun v H1 => v = .ref f ∧ H1 = HZ) IZ ⟨.ref f, hs, rfl, rfl⟩) fun u s1 ⟨v, H1, I1, r1, q1⟩ => ?_)
  obtain ⟨ev, eH⟩ := q1
  subst ev
  rw [eH] at I1
  obtain rfl : u = Value.ref f := r1
  have of1 : s1.heap.get? f = some (PySem.W.kla_obj "<lambda>" q params body scope cl pm c' ctv) := I1.base.keep f _ hf hfn hfr (fun z => nomatch (show f ∈ ([] : List Addr) from z))
  refine PySem.W.callWith_F (first := []) ⟨_, _, _, _, of1⟩ (thn ((pa_cons ha pa_nil (he _)).run p2 pinsZ s1 σZ HZ (fun vs H' => ∃ v, vs = [v] ∧ H' c' = some (CodeO c' q) ∧ tb (fun cls d H' => W cls d σZ H') (startF N [v] ws) H' Q) I1 ?_) fun us s2 ⟨vs, H2, I2, r, q2⟩ => ?_) (he _) (by rfl)
  · show te σZ HZ fun v H1 => _
    have : (fun v H1 => H1 c' = some (CodeO c' q) ∧ tb (fun cls d H' => W cls d σZ H') (startF N [v] ws) H1 Q) = (fun v H1 => ∃ v', [v] = [v'] ∧ H1 c' = some (CodeO c' q) ∧ tb (fun cls d H' => W cls d σZ H') (startF N [v'] ws) H1 Q) := by
      funext v H1
      refine propext ⟨fun h => ⟨v, rfl, h⟩, fun ⟨v', e, h⟩ => ?_⟩
      cases e
      exact h
    rw [this] at ht
    exact ht
  obtain ⟨v, ev, hc, hb⟩ := q2
  subst ev
  have of2 : s2.heap.get? f = some (PySem.W.kla_obj "<lambda>" q params body scope cl pm c' ctv) := I2.base.keep f _ hf hfn hfr (fun z => nomatch (show f ∈ ([] : List Addr) from z))
  refine ⟨⟨_, _, _, _, of2⟩, ?_⟩
  show wpAny _ _ (call (.ref f) us) _ _ _
  have un : Un (frs X.stack) [] H H2 s.heap s2.heap := I2.base
  obtain ⟨u0, eu⟩ := vals_one r
  subst eu
  have rc : codeAny (model X.prog X.w) (X.A.deeper (envOfC qg sg s.heap.objs.size g cdg)) (.call (.ref f) ⟨[u0], []⟩) (CR (L2.CX X.prog X.w) (envOfC qg sg s.heap.objs.size g cdg :: X.stack) X.prog X.w H2 s2 Q (fun cls d H' => W cls d σZ H')) s2 :=
    lam_run (k := k) S (hbind u0) hr I2.env0 of2 hc (cells_later C un) r rfl (fun hr2 => hbody _ _ _ _ _ hr2) hb
  refine wpAny_call (codeAny_mono rc fun r s' hq => ?_)
  cases r with
  | error e => exact tk e s' (XE.of_call I2 (fun cls d H' h => h) hq)
  | ok fl =>
    cases fl with
    | ret u => exact I2.after hq
    | next => exact False.elim hq
    | brk => exact False.elim hq
    | cont => exact False.elim hq
end
/-- the def g (two parameters, the second is called): TT is what it makes of the lambda's reading -/
def GivesTo1 (X : Cx) (k : Nat) (Ng : List Str) (x : Str) (sg : Scope) (g : Addr) (cdg : Value) (bg : List Stmt) (a : Str) (q : Str) (TT : (XK → V → Hp → VK → Prop) → V → Hp → VK → Prop) : Prop :=
  ∀ (f c' : Addr) (s : Shared) (H : Hp) (v0 : V) (Q : VK) (tl : XK → V → Hp → VK → Prop), Room k (X.A.deeper (envOfC x sg s.heap.objs.size g cdg)) →
    (∀ (W : WX) (pn : List (Addr × Obj)) (xe : Value → Shared → Prop) (e : Expr) (te : TE) (p1 p2 : Pos), Takes ((cxOf C8.CX0 X.prog X.w X.K X.mg X.base Ng x sg g cdg X.A X.stack s H C8.E0).tr pn xe) W →
      PE ((cxOf C8.CX0 X.prog X.w X.K X.mg X.base Ng x sg g cdg X.A X.stack s H C8.E0).tr pn xe) e te → (∀ env, starEach [e] env = (false, eval e env) :: starEach [] env) →
      PE ((cxOf C8.CX0 X.prog X.w X.K X.mg X.base Ng x sg g cdg X.A X.stack s H C8.E0).tr pn xe) (.Call (.Name a p1) [e] [] p2) (fun σZ HZ Q => σZ[1]? = some (some (.ref f)) ∧ te σZ HZ fun v H1 => H1 c' = some (CodeO c' q) ∧ tl (fun cls d H' => W cls d σZ H') v H1 Q)) →
    H c' = some (CodeO c' q) → TT tl v0 H Q →
    ∃ t, PSs (cxOf C8.CX0 X.prog X.w X.K X.mg X.base Ng x sg g cdg X.A X.stack s H C8.E0).nox bg t ∧ t { nx := fun _ H' => Q .non H', rt := Q } (L2.start Ng [v0, .ref f]) H
def tLam1 (T : List (Addr × Str)) (TT : (XK → V → Hp → VK → Prop) → V → Hp → VK → Prop) (t0 : TE) (t : XK → L2.St → V → Hp → VK → Prop) : TE := fun σ H Q => t0 σ H fun v0 H0 => Tabs T H0 ∧ ∀ H1, ExtN H0 H1 → Tabs T H1 → TT (fun E v H' Q' => t E σ v H' Q') v0 H1 Q
section
variable {X : Cx}
/-- x(e, lambda p: body) -/
theorem pe_lamcall1 {T : List (Addr × Str)} {TT : (XK → V → Hp → VK → Prop) → V → Hp → VK → Prop} {x a a0 p : Str} {g c P : Addr} {k : Nat} {pg : Arguments} {bg : List Stmt} {sg : Scope} {dV kV doc pm cdv ct oc : Value} {an od : Option Addr} {osl : Array (Option Value)} {Ng N fr : List Str} {js : List Nat}
    {params : Arguments} {body e : Expr} {scope : Scope} {t : XK → TE} {t0 : TE} {pp lpos pos : Pos} (hg : Gl X x) (hm : X.mg x = some (.ref g)) (hk : PySem.W.keepIn X.K (.ref g) = true)
    (lk : X.K.lookup g = some ⟨oc, od, .func (PySem.W.fnOf x x pg bg sg dV kV doc pm an cdv ct), osl⟩) (hcg : PySem.W.codeIn X.K cdv x = true) (hb : L2.Binds X.K (PySem.W.fnOf x x pg bg sg dV kV doc pm an cdv ct) [a0, a] []) (Sg : FnScope Ng [a0, a] sg) (hNg : Ng[1]? = some a) (hva : Vis sg a)
    (hG : GivesTo1 X (k + 1) Ng x sg g cdv bg a (X.env.qual ++ "<lambda>") TT)
    (TB : TabB X.base X.mg c P) (hcode : X.env.code = .ref c) (hmT : (P, X.env.qual ++ "<lambda>") ∈ T) (hu : ∀ p ∈ T, p.1 = P → p.2 = X.env.qual ++ "<lambda>") (hr : Room (k + 2) X.A) (S : NScope N [p] fr scope)
    (hfree : ∀ y ∈ scope.names, y.2 = .free → X.env.scope.names.lookup y.1 = some .cell ∨ X.env.scope.names.lookup y.1 = some .free) (hfr : ∀ y ∈ fr, (y, NameKind.free) ∈ scope.names) (hjs : js.map (fun j => X.N[j]?) = fr.map some)
    (hdef : defaultsOf params X.env = ([], []))
    (hbind : ∀ (q : Str) (cl : List (Str × Addr)) (pm cv ctv u : Value), bindArgs (PySem.W.kla_fn "<lambda>" q params body scope cl pm cv ctv) ⟨[u], []⟩ = pure [(p, u)])
    (hbody : ∀ (A : Around) (outer : List PySem.Env) (s : Shared) (H : Hp) (E : XK) (f c' : Addr), Room k (A.deeper (envF (lamF (X.env.qual ++ "<lambda>") params scope (cloFrom X.env.cells scope.names []) c') f s.heap.objs.size)) →
      PE (ncx (L2.CX X.prog X.w) X.prog X.w X.K X.mg X.base N (lamF (X.env.qual ++ "<lambda>") params scope (cloFrom X.env.cells scope.names []) c') f A outer s H E) body (t E))
    (he : PE X e t0) (hse : ∀ env, starEach [e, .Lambda params body scope lpos] env = (false, eval e env) :: starEach [.Lambda params body scope lpos] env)
    (hdb : (x == ("__debug__" : Str)) = false := by decide) (hd : (a == ("__debug__" : Str)) = false := by decide) (hcd : (a == ("__classdict__" : Str)) = false := by decide) :
    PE X (.Call (.Name x pp) [e, .Lambda params body scope lpos] [] pos) (tLam1 T TT t0 fun E σ v H Q => t E (startF N [v] (js.map (slotAt σ))) H Q) := by
  refine ⟨fun pins s σ H Q I h => ?_⟩
  refine wpAny_Call_Name_kw (ld_glob I hg hm ?_ hdb)
  refine PySem.W.callWith_K (h₀ := X.base) I.ok.mod.kin hk ?_ (hse _) (by rfl)
  rw [hse]
  show wpAny _ _ (spliced ((false, eval e X.env) :: (false, eval (.Lambda params body scope lpos) X.env) :: backTo pos (starEach [] X.env))) _ _ s
  refine Calls.spliced_cons (thn (he.run pins s σ H _ I h) fun u0 s0 ⟨v0, H0, I0, r0, q0⟩ => ?_)
  obtain ⟨hT, h⟩ := q0
  have hfr2 : ∀ y ∈ scope.names, y.2 = .free → ∃ c, X.env.cells.lookup y.1 = some c := fun y hy e => (hfree y hy e).elim (fun z => I0.ok.has _ (.inl z)) fun z => I0.ok.has _ (.inr z)
  refine Calls.spliced_cons (lam_make2 I0 TB hcode hmT hu hT hdef hfr2 fun f c' pm' ctv H1 s' I1 eN T1 hf hfn hfr' hco => ?_)
  refine Calls.spliced_nil ⟨I1.kIn, ?_⟩
  have cp := cells_of I1 (Caps.made I1.ok hfree hfr hjs)
  have rc : codeAny (model X.prog X.w) X.A (.call (.ref g) ⟨[u0, .ref f], []⟩) (CR C8.CX0 X.stack X.prog X.w H1 s' Q C8.E0) s' := by
    refine run_ofS (N := Ng) (ps := [a0, a]) (us := [u0, .ref f]) (vs := [v0, .ref f]) lk hcg Sg hr I1.env0 (hb s' [u0, .ref f] I1.kIn rfl) (.cons r0 (.cons rfl .nil)) rfl fun hr' => ?_
    obtain ⟨t', ht', hq'⟩ := hG f c' s' H1 v0 Q (fun E v H' Q' => t E (startF N [v] (js.map (slotAt σ))) H' Q') hr' (fun W pn xe e te p1 p2 tk ha he => pe_act1 (i := 1) S cp hf hfn hfr' (hbind _ _ _ _ _) tk hr' (fun A outer s H E hr2 => hbody A outer s H E f c' hr2) ha he hNg hva hd hcd) hco (h H1 eN T1)
    exact ⟨t', ht'.nox, hq'⟩
  refine wpAny_call (codeAny_mono rc fun r s2 hq => ?_)
  cases r with
  | error e => exact (show False from hq).elim
  | ok fl =>
    cases fl with
    | ret u => exact I1.after hq
    | next => exact False.elim hq
    | brk => exact False.elim hq
    | cont => exact False.elim hq
end
end KX

set_option maxRecDepth 100000
set_option maxHeartbeats 1000000
namespace KX
open PySem PySem.Spec PyProof.Rows L2 LamX
/-! ### the law's call where defs make lambdas, and repr shows data -/
theorem lawGT {P : Program} {w : World} {K : PySem.W.Frag} {mg mb : Str → Option Value} {k : Nat} {fa a : Addr} {cs : List (Addr × Addr)} {fd : FuncData} {x : Str} {sp : Sp} {s1 : Shared} {vs : List Value} {ns : List Int}
    (KX : K.In s1.heap) (hns : s1.heap.Ns mainGlobals mg) (hb : s1.heap.Ns builtinsNs mb) (hbb : ∀ x : Str, x ≠ "__name__" → mb x = bootBuiltins x) (hlim : s1.heap.NoLimit) (hg : s1.gens = #[])
    (hT : ∀ p ∈ cs, s1.heap.get? p.2 = some { cls := .none, data := .fields #[] }) (nT : ∀ p ∈ cs, K.lookup p.2 = none) (C : ∀ p ∈ cs, PySem.W.CodeHd s1.heap p.1 p.2)
    (hbm : ∃ (bm : Addr) (ob : Obj), mg "__builtins__" = some (.ref bm) ∧ bm ≠ builtinsNs ∧ s1.heap.get? bm = some ob ∧ ob.cls = .type "module" ∧ ob.dict = some builtinsNs ∧ ob.data = .plain)
    (ha : s1.heap.get? a = some { cls := .type "list", data := .seq vs.toArray }) (hi : IntsAre vs ns) (hl : ns.length ≤ sizeLine) (hr : Room k callerA)
    (F : ∀ base : Heap, K.In base → base.Ns mainGlobals mg → (∀ p ∈ cs, TabB base mg p.1 p.2) → FnG P w K mg base CX0 k fa fd [x] sp) (hbind : ∀ (s : Shared) (u : Value), BindsTo s fd ⟨[u], []⟩ [(x, u)])
    (hsp : ∀ H : Hp, (∀ p ∈ cs, H p.2 = some (.tbl #[])) → SqL K H a (ns.map V.int) → sp [.ref a] H (fun v _ => v = .bl true) fun _ _ _ => False) :
    codeAny (model P w) callerA (.call (.ref fa) ⟨[.ref a], []⟩) (fun r s' => r = .ok (.ret (.bool true)) ∧ OldK s1.heap s'.heap ∧ s'.os = s1.os ∧ AllBare s'.gens) s1 := by
  have rv := vals_ints hi
  have lenV := hi.length
  have neA : ∀ p ∈ cs, p.2 ≠ a := fun p hp z => by
    have e := hT p hp
    rw [z, ha] at e
    cases e
  have main : ∀ H : Hp, (∀ b o, H b = some o → (b = a ∧ K.lookup a = none ∧ o = .frz { cls := .type "list", data := .seq vs.toArray } (.lst (ns.map V.int))) ∨ ∃ p ∈ cs, b = p.2 ∧ o = .tbl #[]) → (∀ p ∈ cs, H p.2 = some (.tbl #[])) → SqL K H a (ns.map V.int) →
      codeAny (model P w) callerA (.call (.ref fa) ⟨[.ref a], []⟩) (fun r s' => r = .ok (.ret (.bool true)) ∧ OldK s1.heap s'.heap ∧ s'.os = s1.os ∧ AllBare s'.gens) s1 := by
    intro H hO hH hS
    have hok : HOk P w H s1.heap := fun b o e => by
      rcases hO b o e with ⟨e1, _, e2⟩ | ⟨p, hp, e1, e2⟩
      · subst e1 e2
        exact ⟨ha, by rw [List.length_map]; exact hl, vs, _, rv, ha⟩
      · subst e1 e2
        exact hT p hp
    have none_of : ∀ {b : Addr} {o : Obj}, s1.heap.get? b = some o → (∀ vs n, o.data ≠ .seq vs n) → o.data ≠ .fields #[] → H b = none := fun {b o} e n1 n2 => by
      cases q : H b with
      | none => rfl
      | some u =>
        rcases hO b u q with ⟨e1, _, _⟩ | ⟨p, hp, e1, _⟩
        · rw [e1, ha] at e
          cases e
          exact (n1 _ _ rfl).elim
        · rw [e1, hT p hp] at e
          cases e
          exact (n2 rfl).elim
    have keep : ∀ {b : Addr} {o : Obj}, s1.heap.get? b = some o → (∀ vs n, o.data ≠ .seq vs n) → o.data ≠ .fields #[] → (hidT s1.heap H).get? b = some o := fun e n1 n2 => hidT_get e (none_of e n1 n2)
    have nsK : ∀ {b : Addr} {m : Str → Option Value}, s1.heap.Ns b m → (hidT s1.heap H).Ns b m := fun {b m} hn => by
      obtain ⟨o, es, ep, e, d, r⟩ := hn
      exact ⟨o, es, ep, keep e (fun vs n z => by rw [d] at z; cases z) (fun z => by rw [d] at z; cases z), d, r⟩
    have hKb : K.In (hidT s1.heap H) := fun b o e => hidT_get (KX b o e) (by
      cases q : H b with
      | none => rfl
      | some u =>
        rcases hO b u q with ⟨e1, e2, _⟩ | ⟨p, hp, e1, _⟩
        · rw [e1, e2] at e
          cases e
        · rw [e1, nT p hp] at e
          cases e)
    have hM : Mod K mg (hidT s1.heap H) := ⟨hKb, nsK hns, ⟨mb, nsK hb, hbb⟩, let ⟨mc, h1, h2⟩ := hlim; ⟨mc, nsK h1, h2⟩⟩
    have e0 : Env0 P w K mg (hidT s1.heap H) callerA [] s1 H := ⟨rfl, hM, fun b o e => of_hidT e, Nat.le_of_eq (hidT_size _ _), trivial, fun b hb => absurd (show b ∈ ([] : List Addr) from hb) (by simp), hok, .of_eq hg⟩
    have TB : ∀ p ∈ cs, TabB (hidT s1.heap H) mg p.1 p.2 := fun p hp => by
      refine ⟨?_, ?_, fun z => ?_⟩
      · obtain ⟨o, us, file, tf, flags, tg, inF, text, tt, e1, r1, r2, r3, rest⟩ := C p hp
        refine ⟨o, us, file, tf, flags, tg, inF, text, tt, keep e1 (fun vs n z => by rw [r2] at z; cases z) (fun z => ?_), r1, r2, r3, rest⟩
        rw [r2] at z
        cases z
        simp at r3
      · obtain ⟨bm, ob, b1, b2, b3, b4, b5, b6⟩ := hbm
        have n1 : ∀ vs n, ob.data ≠ .seq vs n := fun vs n z => by rw [b6] at z; cases z
        have n2 : ob.data ≠ .fields #[] := fun z => by rw [b6] at z; cases z
        refine ⟨bm, ob, b1, b2, fun q => ?_, fun q => ?_, keep b3 n1 n2, b4, b5, b6⟩
        · obtain ⟨o, es, ep, e, hd, _⟩ := hns
          rw [q, e] at b3
          cases b3
          rw [hd] at b6
          cases b6
        · rw [q, hT p hp] at b3
          cases b3
          cases b6
      · obtain ⟨o, es, ep, e, hd, _⟩ := hns
        rw [z, hT p hp] at e
        cases e
        cases hd
    refine codeAny_mono ((F _ hKb (nsK hns) TB).run callerA [] s1 H ⟨[.ref a], []⟩ [.ref a] [.ref a] _ _ rfl hr e0 (hbind s1 (.ref a)) (.cons rfl .nil) (hsp H hH hS)) fun r s' h => ?_
    match r, h with
    | .error e, h => exact h.elim
    | .ok (.ret u), h =>
      obtain ⟨v, H', os, bare, un, hok', r', q⟩ := h
      have q' : v = .bl true := q
      subst q'
      obtain rfl : u = Value.bool true := r'
      have key : ∀ b o, (∀ p ∈ cs, b ≠ p.2) → s1.heap.get? b = some o → s'.heap.get? b = some o := fun b o nb e => by
        cases q : H b with
        | none => exact un.keep b o e q (fun z => absurd (show b ∈ ([] : List Addr) from z) (by simp)) (by simp)
        | some u =>
          rcases hO b u q with ⟨e1, _, e2⟩ | ⟨p, hp, e1, _⟩
          · rw [e2] at q
            obtain ⟨f1, _⟩ := hok b _ q
            obtain ⟨f2, _⟩ := hok' b _ (un.frzs b _ _ q)
            rw [e] at f1
            cases f1
            exact f2
          · exact (nb p hp e1).elim
      have grown : ∀ p ∈ cs, ∃ more : Array Value, s'.heap.get? p.2 = some { cls := .none, data := .fields more } := fun p hp => by
        obtain ⟨more, z⟩ := un.tbls p.2 #[] (hH p hp)
        exact ⟨_, hok' p.2 _ z⟩
      refine ⟨rfl, ⟨fun b o e => ?_, fun b o e => ?_⟩, os, bare⟩
      · by_cases hb : ∃ p ∈ cs, b = p.2
        · obtain ⟨p, hp, ep⟩ := hb
          obtain ⟨more, hm⟩ := grown p hp
          rw [ep] at e ⊢
          rw [hT p hp] at e
          cases e
          exact .inr (.inl ⟨((C p hp).tab (hT p hp)).isCodeTable, rfl, #[], more, rfl, by rw [Array.empty_append]; exact hm⟩)
        · exact .inl (key b o (fun p hp z => hb ⟨p, hp, z⟩) e)
      · by_cases hb : ∃ p ∈ cs, b = p.2
        · obtain ⟨p, hp, ep⟩ := hb
          obtain ⟨more, hm⟩ := grown p hp
          rw [ep]
          exact ⟨_, hm⟩
        · exact ⟨o, key b o (fun p hp z => hb ⟨p, hp, z⟩) e⟩
  cases hk : K.lookup a with
  | some o =>
    have e := KX a o hk
    rw [ha] at e
    cases e
    refine main (fun b => if ∃ p ∈ cs, b = p.2 then some (.tbl #[]) else none) (fun b u z => ?_) (fun p hp => if_pos ⟨p, hp, rfl⟩) (.inr ⟨_, vs.toArray, _, hk, rfl, rfl, rfl, by rw [List.size_toArray, lenV]; exact hl, by simpa using rv⟩)
    by_cases hb : ∃ p ∈ cs, b = p.2
    · have z' := (if_pos hb).symm.trans z
      cases z'
      obtain ⟨p, hp, e⟩ := hb
      exact .inr ⟨p, hp, e, rfl⟩
    · have z' := (if_neg hb).symm.trans z
      cases z'
  | none =>
    refine main (fun b => if b = a then some (.frz { cls := .type "list", data := .seq vs.toArray } (.lst (ns.map V.int))) else if ∃ p ∈ cs, b = p.2 then some (.tbl #[]) else none) (fun b u z => ?_) (fun p hp => (if_neg (neA p hp)).trans (if_pos ⟨p, hp, rfl⟩)) (.inl (.inr ⟨_, if_pos rfl⟩))
    by_cases hb : b = a
    · have z' := (if_pos hb).symm.trans z
      cases z'
      exact .inl ⟨hb, hk, rfl⟩
    · have z1 := (if_neg hb).symm.trans z
      by_cases hb2 : ∃ p ∈ cs, b = p.2
      · have z' := (if_pos hb2).symm.trans z1
        cases z'
        obtain ⟨p, hp, e⟩ := hb2
        exact .inr ⟨p, hp, e, rfl⟩
      · have z' := (if_neg hb2).symm.trans z1
        cases z'
/-- the table of the def that stands at f is empty -/
def EmptyTab (K : PySem.W.Frag) (f : Addr) (h : Heap) : Prop := OwnTab K f h
theorem walkGT {l : PySem.W.OpenLaw} {n k : Nat} {q : Program} {loose : List Str} {XP : (Str → Option Value) → Heap → Prop} {YP : World → Heap → Prop} {d : DefRec} {K : Params → PySem.W.Frag} {x : Str}
    (hn : l.most = some n) (hn2 : n ≤ sizeLine) (hdf : d.params.defaults = []) (hr : Room k callerA) (hY : ∀ (w : World) (h : Heap), YP w h → (K w.params).In h)
    (F : ∀ (w : World) (mg : Str → Option Value) (fa : Addr) (h : Heap), (K w.params).In h → h.Ns mainGlobals mg → mg d.name = some (.ref fa) → (∀ y : Str, ((recsOf q).any fun e => e.name == y) = true → ∀ f : Addr, mg y = some (.ref f) → OwnTab (K w.params) f h) →
      ∃ (fd : FuncData) (cs : List (Addr × Addr)) (sp : Sp), (∀ p ∈ cs, h.get? p.2 = some { cls := .none, data := .fields #[] }) ∧ (∀ p ∈ cs, (K w.params).lookup p.2 = none) ∧ (∀ p ∈ cs, PySem.W.CodeHd h p.1 p.2) ∧ (∀ (s : Shared) (u : Value), BindsTo s fd ⟨[u], []⟩ [(x, u)]) ∧
        (∀ (H : Hp) (a : Addr) (ns : List Int), ns.length ≤ n → (∀ p ∈ cs, H p.2 = some (.tbl #[])) → SqL (K w.params) H a (ns.map V.int) → sp [.ref a] H (fun v _ => v = .bl true) fun _ _ _ => False) ∧
        ∀ base : Heap, (K w.params).In base → base.Ns mainGlobals mg → (∀ p ∈ cs, TabB base mg p.1 p.2) → FnG l.prog w (K w.params) mg base CX0 k fa fd [x] sp) :
    PySem.W.WalkO q loose XP YP l.row.toRowW d [] (fun f vs => PySem.call f vs) := by
  refine Att.attach_callB hn hdf fun w s₀ s₁ mg mb fa o pm cd doc a vs ns G Y ho hd hcd hmg hobj hints hlen hbits hg => ?_
  have KX := hY w _ Y
  have own : ∀ y : Str, ((recsOf q).any fun e => e.name == y) = true → ∀ f : Addr, mg y = some (.ref f) → OwnTab (K w.params) f s₁.heap := fun y hrec f hf c P o1 fd1 e dd vs1 sl k1 k2 k3 k4 k5 => by
    obtain ⟨dL, hm, hn1⟩ := List.any_eq_true.mp hrec
    have hn2 : dL.name = y := beq_iff_eq.mp hn1
    obtain ⟨a', o', fd', c', P', h1, h2, h3, h4, h5, h6⟩ := G.T.tab dL hm
    rw [hn2, hf] at h1
    cases h1
    have g1 := KX _ _ k1
    rw [g1] at h2
    cases h2
    rw [k2] at h3
    cases h3
    rw [k3] at h4
    cases h4
    obtain ⟨⟨oc, vc, e1, _, e3, e4⟩, hP⟩ := h6
    have g2 := KX _ _ k4
    rw [g2] at e1
    cases e1
    cases e3
    rw [k5] at e4
    cases e4
    exact hP
  obtain ⟨fd, cs, sp, hT, nT, C, hb, hsp, hF⟩ := F w mg fa _ KX G.T.g hmg own
  exact lawGT KX G.T.g G.T.b G.T.builtins G.T.nolimit hg hT nT C G.T.bmain hobj hints (Nat.le_trans hlen hn2) hr hF hb fun H hH hS => hsp H a ns hlen hH hS
end KX

set_option maxRecDepth 100000
set_option maxHeartbeats 1000000
namespace KX
open PySem PySem.Spec PyProof.Rows L2 LamX
/-! ### tables beside the stream; data where tables grow -/
theorem tabs_keep {l : Addr} {T : List (Addr × Str)} {H H' : Hp} (k : Keep l H H') (st : StO H l) (t : Tabs T H) : Tabs T H' := fun p hp => by
  obtain ⟨ps, h1, h2, h3⟩ := t p hp
  obtain ⟨x, y, z, el⟩ := st
  refine ⟨ps, k _ _ (fun e => ?_) h1, h2, fun pos cv hc => ?_⟩
  · rw [e, el] at h1
    cases h1
  · obtain ⟨c, e1, e2⟩ := h3 pos cv hc
    refine ⟨c, e1, k _ _ (fun e => ?_) e2⟩
    rw [e, el] at e2
    unfold CodeO at e2
    cases e2
/-- without the tables -/
def noT (H : Hp) : Hp := fun b => match H b with
  | some (.tbl _) => none
  | o => o
theorem noT_same {H : Hp} : Same (noT H) H := fun b o e => by
  unfold noT at e
  cases h : H b with
  | none => rw [h] at e; cases e
  | some u =>
    rw [h] at e
    cases u <;> first | exact e | cases e
theorem noT_at {H : Hp} {b : Addr} {o : HO} (h : H b = some o) (n : ∀ ps, o ≠ .tbl ps) : noT H b = some o := by
  unfold noT
  rw [h]
  cases o <;> first | rfl | exact (n _ rfl).elim
theorem noT_ext {H H' : Hp} (e : ExtN H H') : Same (noT H) (noT H') := fun b o h => by
  have n : ∀ ps, o ≠ .tbl ps := fun ps z => by
    subst z
    unfold noT at h
    cases q : H b with
    | none => rw [q] at h; cases h
    | some u =>
      rw [q] at h
      cases u <;> cases h
  exact noT_at (e b o (noT_same b o h) n) n
mutual
theorem Dx.noT {H : Hp} {v : V} {d : PyData} : Dx H v d → Dx (KX.noT H) v d
  | .non => .non
  | .bl b => .bl b
  | .int i => .int i
  | .str x => .str x
  | .tup e h => .tup (noT_at e fun _ z => by cases z) (Dxs.noT h)
  | .lst e n h => .lst (noT_at e fun _ z => by cases z) n (Dxs.noT h)
  | .dic e => .dic (noT_at e fun _ z => by cases z)
  | .dic1 e => .dic1 (noT_at e fun _ z => by cases z)
theorem Dxs.noT {H : Hp} {vs : List V} {ds : List PyData} : Dxs H vs ds → Dxs (KX.noT H) vs ds
  | .nil => .nil
  | .cons h hs => .cons (Dx.noT h) (Dxs.noT hs)
end
theorem Dx.ext {H H' : Hp} {v : V} {d : PyData} (h : Dx H v d) (e : ExtN H H') : Dx H' v d := (h.noT.up (noT_ext e)).up noT_same
theorem sto_ext {l : Addr} {H H' : Hp} (st : StO H l) (e : ExtN H H') : StO H' l := by
  obtain ⟨x, y, z, el⟩ := st
  exact ⟨x, y, z, e _ _ el fun ps q => by cases q⟩
theorem seq_ext {K : PySem.W.Frag} {H H' : Hp} {a : Addr} {xs : List V} (h : SqL K H a xs) (e : ExtN H H') : SqL K H' a xs := by
  rcases h with (h | ⟨o, h⟩) | h
  · exact .inl (.inl (e _ _ h fun ps q => by cases q))
  · exact .inl (.inr ⟨o, e _ _ h fun ps q => by cases q⟩)
  · exact .inr h
end KX

set_option maxRecDepth 100000
set_option maxHeartbeats 1000000
namespace KX
open PySem PySem.Spec PyProof.Rows L2 LamX
/-! ### a callee that doesn't get the list at p: it leaves it, and what it makes doesn't hold it -/
def frameL (sp : Sp) : Sp := fun vs H Q E => ∃ p xs, H p = some (.lst xs) ∧ sp vs (hid p H) (fun v H' => H' p = none → Q v (upd H' p (.lst xs))) E
section
variable {P : Program} {w : World} {K : PySem.W.Frag} {mg : Str → Option Value} {base : Heap} {k : Nat} {f : Addr} {fd : FuncData} {ps : List Str} {sp : Sp}
theorem hok_hid {H : Hp} {h : Heap} {p : Addr} {xs : List V} (ok : HOk P w H h) (e : H p = some (.lst xs)) : HOk P w (hid p H) h := fun b o q => by
  obtain ⟨n, q⟩ := hid_some q
  refine (ok b o q).stay (fun _ _ _ z => z) (fun c z => ?_) fun c ys z => ?_
  · rw [hid_at (fun y => by rw [y, e] at z; cases z)]
    exact z
  · rw [hid_at (fun y => by rw [y, e] at z; cases z)]
    exact z
theorem hok_back {H : Hp} {h : Heap} {p : Addr} {xs : List V} (ok : HOk P w H h) (n : H p = none) (x : ObjOk P w H h p (.lst xs)) : HOk P w (upd H p (.lst xs)) h := fun b o q => by
  by_cases hb : b = p
  · subst hb
    rw [upd_same] at q
    cases q
    exact x
  · rw [upd_ne hb] at q
    refine (ok b o q).stay (fun _ _ _ z => z) (fun c z => ?_) fun c ys z => ?_
    · rw [upd_ne (ne_of_none z n)]
      exact z
    · rw [upd_ne (ne_of_none z n)]
      exact z
theorem FnOk.frame (F : FnOk P w K mg base CX0 k f fd ps sp) : FnOk P w K mg base CX0 k f fd ps (frameL sp) := by
  refine ⟨fun vs H Q E h => ?_, fun A outer s H args us vs Q E hr e0 hb hv h => ?_⟩
  · obtain ⟨p, xs, _, h⟩ := h
    exact F.len _ _ _ _ h
  · obtain ⟨p, xs, e, h⟩ := h
    have nf : p ∉ frs outer := fun z => by
      rw [e0.frf p z] at e
      cases e
    have e1 : Env0 P w K mg base A outer s (hid p H) := ⟨e0.frames, e0.mod, fun b o z => ⟨(e0.bs b o z).1, by
      unfold hid
      split
      · rfl
      · exact (e0.bs b o z).2⟩, e0.bsz, e0.funs, fun b z => by
      unfold hid
      split
      · rfl
      · exact e0.frf b z, hok_hid e0.hok e, e0.bare⟩
    refine codeAny_mono (F.run A outer s (hid p H) args us vs _ E hr e1 hb hv h) fun r s' hq => ?_
    match r, hq with
    | .ok (.ret u), hq =>
      obtain ⟨v, H', os, bare, un, hok, r, q⟩ := hq
      have hn : hid p H p = none := if_pos rfl
      have x0 := e0.hok p _ e
      obtain ⟨ob, ho⟩ : ∃ ob, s.heap.get? p = some ob := by
        obtain ⟨_, its, n, _, z⟩ := x0
        exact ⟨_, z⟩
      have hp : H' p = none := un.free p ob ho hn (by simp)
      have kp := un.keep p ob ho hn nf (by simp)
      have x1 : ObjOk P w H' s'.heap p (.lst xs) := by
        obtain ⟨z, its, n, r, z2⟩ := x0
        rw [ho] at z2
        cases z2
        exact ⟨z, its, n, r, kp⟩
      have cs : ∀ {b : Addr} {o : HO}, H b = some o → (∀ ys, o ≠ .lst ys) → hid p H b = some o ∧ b ≠ p := fun {b o} z n => by
        have ne : b ≠ p := fun y => by
          rw [y, e] at z
          cases z
          exact n _ rfl
        exact ⟨by rw [hid_at ne]; exact z, ne⟩
      refine ⟨v, upd H' p (.lst xs), os, bare, ⟨fun b o z n => un.keep b o z (by unfold hid; split <;> first | rfl | exact n), fun b o z n => un.slot b o z (by unfold hid; split <;> first | rfl | exact n), fun b o z n nx => ?_, un.there, fun b ys z => ?_, fun b o u z => ?_, fun b us z => ?_⟩, hok_back hok hp x1, r, q hp⟩
      · have ne : b ≠ p := fun y => by
          rw [y, e] at n
          cases n
        rw [upd_ne ne]
        exact un.free b o z (by rw [hid_at ne]; exact n) nx
      · obtain ⟨c1, c2⟩ := cs z (fun _ y => by cases y)
        rw [upd_ne c2]
        exact un.tups b ys c1
      · obtain ⟨c1, c2⟩ := cs z (fun _ y => by cases y)
        rw [upd_ne c2]
        exact un.frzs b o u c1
      · obtain ⟨c1, c2⟩ := cs z (fun _ y => by cases y)
        rw [upd_ne c2]
        exact un.tbls b us c1
    | .error e, hq => exact (show False from hq).elim
end
/-- the values that a comprehension has made so far, beside the stream -/
theorem hid_comm {a b : Addr} {H : Hp} : hid a (hid b H) = hid b (hid a H) := by
  funext c
  unfold hid
  by_cases h1 : c = a <;> by_cases h2 : c = b <;> simp [h1, h2]
theorem hid_upd {p : Addr} {H : Hp} {o : HO} (n : H p = none) : hid p (upd H p o) = H := by
  funext c
  by_cases h : c = p
  · subst h
    unfold hid
    rw [if_pos rfl, n]
  · rw [hid_at h, upd_ne h]
/-- the law's call, the tables by what the top says -/
theorem walkGY {l : PySem.W.OpenLaw} {n k : Nat} {q : Program} {loose : List Str} {XP : (Str → Option Value) → Heap → Prop} {YP : World → Heap → Prop} {d : DefRec} {K : Params → PySem.W.Frag} {x : Str}
    (hn : l.most = some n) (hn2 : n ≤ sizeLine) (hdf : d.params.defaults = []) (hr : Room k callerA) (hY : ∀ (w : World) (h : Heap), YP w h → (K w.params).In h)
    (F : ∀ (w : World) (mg : Str → Option Value) (fa : Addr) (h : Heap), (K w.params).In h → h.Ns mainGlobals mg → mg d.name = some (.ref fa) → YP w h →
      ∃ (fd : FuncData) (cs : List (Addr × Addr)) (sp : Sp), (∀ p ∈ cs, h.get? p.2 = some { cls := .none, data := .fields #[] }) ∧ (∀ p ∈ cs, (K w.params).lookup p.2 = none) ∧ (∀ p ∈ cs, PySem.W.CodeHd h p.1 p.2) ∧ (∀ (s : Shared) (u : Value), BindsTo s fd ⟨[u], []⟩ [(x, u)]) ∧
        (∀ (H : Hp) (a : Addr) (ns : List Int), ns.length ≤ n → (∀ p ∈ cs, H p.2 = some (.tbl #[])) → SqL (K w.params) H a (ns.map V.int) → sp [.ref a] H (fun v _ => v = .bl true) fun _ _ _ => False) ∧
        ∀ base : Heap, (K w.params).In base → base.Ns mainGlobals mg → (∀ p ∈ cs, TabB base mg p.1 p.2) → FnG l.prog w (K w.params) mg base CX0 k fa fd [x] sp) :
    PySem.W.WalkO q loose XP YP l.row.toRowW d [] (fun f vs => PySem.call f vs) := by
  refine Att.attach_callB hn hdf fun w s₀ s₁ mg mb fa o pm cd doc a vs ns G Y ho hd hcd hmg hobj hints hlen hbits hg => ?_
  have KX := hY w _ Y
  obtain ⟨fd, cs, sp, hT, nT, C, hb, hsp, hF⟩ := F w mg fa _ KX G.T.g hmg Y
  exact lawGT KX G.T.g G.T.b G.T.builtins G.T.nolimit hg hT nT C G.T.bmain hobj hints (Nat.le_trans hlen hn2) hr hF hb fun H hH hS => hsp H a ns hlen hH hS
end KX

set_option maxRecDepth 100000
set_option maxHeartbeats 1000000
/-! any data against a text: ==, and in a tuple of texts -/
namespace KX
open PySem PySem.Spec PyProof.Rows L2
section
open MeetsSeq MeetsSeq2 MeetsSeq3 SeqRoads2 SeqAt
variable {A : Around} {s : Shared}
theorem rc_dict_str {l : Addr} {o : Obj} {es : Array DictEntry} {ep : Nat} (b : Str) (u : Tok) (ho : s.heap.get? l = some o) (hc : o.cls = .type "dict") (hd : o.data = .dict es ep) (hu : A.units < cLine) : SeqAt.RcAt A s (.ref l) (.str b u) false := fun prog w E Q h => by
  obtain ⟨cls, dd, data, sl⟩ := o
  simp only at hc hd
  subst hc hd
  exact rc_eq_decline_or (k := false) ⟨_, ho, rfl⟩ (typeIs_str s b u) (by decide) PySem.F.sub_str_dict PySem.F.slot_dict_eq PySem.F.slot_str_eq_refl
    (fun _ hq => call_meets PySem.F.slot_dict_eq ⟨_, ho, rfl⟩ PySem.F.entry_dict_eq (PySem.F.args_dict_eq_2 _ _) (dict_eq_declines_str b u l es ep dd sl) ⟨ho, hq⟩)
    (fun _ hq => call_meets PySem.F.slot_str_eq_refl (typeIs_str s b u) PySem.F.entry_str_eq (PySem.F.args_str_eq_2 _ _) (str_eq_declines_dict b u l es ep dd sl) ⟨ho, hq⟩)
    (fun _ hq => wpAny_of_eq (rfl : isSame (.ref l) (.str b u) = pure false) hq) (.inr hu) h
end
section
variable {X : Cx}
theorem dic_at {pins : List (Addr × Obj)} {σ : L2.St} {H : Hp} {s : Shared} {a : Addr} {kvs : List (Key × V)} (I : Inv X pins σ H s) (e : H a = some (.dK kvs)) : ∃ o es ep, s.heap.get? a = some o ∧ o.cls = .type "dict" ∧ o.data = .dict es ep := by
  obtain ⟨_, _, _, _, o, es, ep, e1, ex, ed, _⟩ := (show ObjOk X.prog X.w H s.heap a (.dK kvs) from I.hok a _ e)
  exact ⟨o, es, ep, e1, ex.1, ed⟩
/-- the data d is the text n -/
def isSt (n : Str) : PyData → Bool
  | .str m => decide (m = n)
  | _ => false
theorem isSt_is {n : Str} {d : PyData} (h : isSt n d = true) : d = .str n := by
  cases d with
  | str m => rw [of_decide_eq_true h]
  | _ => cases h
theorem rc_data_str {pins : List (Addr × Obj)} {σ : L2.St} {H : Hp} {s : Shared} {A : Around} {x : V} {d : PyData} {v : Value} {n : Str} {u : Tok} (I : Inv X pins σ H s) (hd : Dx H x d) (r : RelV x v) (hu : A.units < cLine) : SeqAt.RcAt A s v (.str n u) (isSt n d) := by
  cases hd with
  | non =>
    cases r
    exact SeqAt.RcAt.none_str n u
  | bl b =>
    cases r
    exact SeqAt.RcAt.bool_str b n u
  | int i =>
    obtain ⟨t, rfl⟩ := (show ∃ t, v = Value.int i t from r)
    exact SeqAt.RcAt.int_str i t n u
  | str y =>
    obtain ⟨t, rfl⟩ := (show ∃ t, v = Value.str y t from r)
    rw [show isSt n (.str y) = (y == n) by
      show decide (y = n) = (y == n)
      by_cases h : y = n
      · subst h; simp
      · rw [decide_eq_false h]; symm; simpa using h]
    exact SeqAt.RcAt.str_str y t n u
  | @tup a xs ds e h =>
    cases (show v = Value.ref a from r)
    obtain ⟨its, r1, p1, _⟩ := I.tuple (show SqT X.K H a xs from .inl (.inl e))
    exact SeqAt.RcAt.tuple_str n u p1 hu
  | @lst a xs ds e _ h =>
    cases (show v = Value.ref a from r)
    obtain ⟨_, its, k, _, z⟩ := (show ObjOk X.prog X.w H s.heap a (.lst xs) from I.hok a _ e)
    exact SeqAt.RcAt.list_str n u ⟨_, z, rfl, _, rfl⟩ hu
  | @dic a e =>
    cases (show v = Value.ref a from r)
    obtain ⟨o, es, ep, h1, h2, h3⟩ := dic_at I e
    exact rc_dict_str n u h1 h2 h3 hu
  | @dic1 a _ _ e =>
    cases (show v = Value.ref a from r)
    obtain ⟨o, es, ep, h1, h2, h3⟩ := dic_at I e
    exact rc_dict_str n u h1 h2 h3 hu
theorem eq_str_data {pins : List (Addr × Obj)} {σ : L2.St} {H : Hp} {s : Shared} {A : Around} {x : V} {d : PyData} {v : Value} {n : Str} {u : Tok} (I : Inv X pins σ H s) (hd : Dx H x d) (r : RelV x v) (hu : A.units < cLine) : SeqAt.EqAt A s (.str n u) v (isSt n d) := by
  cases hd with
  | non =>
    cases r
    exact SeqAt.EqAt.str_none n u
  | bl b =>
    cases r
    exact SeqAt.EqAt.str_bool n u b
  | int i =>
    obtain ⟨t, rfl⟩ := (show ∃ t, v = Value.int i t from r)
    exact SeqAt.EqAt.str_int n u i t
  | str y =>
    obtain ⟨t, rfl⟩ := (show ∃ t, v = Value.str y t from r)
    rw [show isSt n (.str y) = (n == y) by
      show decide (y = n) = (n == y)
      by_cases h : y = n
      · subst h; simp
      · rw [decide_eq_false h]; symm; simpa using fun z : n = y => h z.symm]
    exact SeqAt.EqAt.str_str n u y t
  | @tup a xs ds e h =>
    cases (show v = Value.ref a from r)
    obtain ⟨its, r1, p1, _⟩ := I.tuple (show SqT X.K H a xs from .inl (.inl e))
    exact SeqAt.EqAt.str_tuple n u p1 hu
  | @lst a xs ds e _ h =>
    cases (show v = Value.ref a from r)
    obtain ⟨_, its, k, _, z⟩ := (show ObjOk X.prog X.w H s.heap a (.lst xs) from I.hok a _ e)
    exact SeqAt.EqAt.str_list n u ⟨_, z, rfl, _, rfl⟩ hu
  | @dic a e =>
    cases (show v = Value.ref a from r)
    obtain ⟨o, es, ep, h1, h2, h3⟩ := dic_at I e
    exact eq_str_dict n u h1 h2 h3 hu
  | @dic1 a _ _ e =>
    cases (show v = Value.ref a from r)
    obtain ⟨o, es, ep, h1, h2, h3⟩ := dic_at I e
    exact eq_str_dict n u h1 h2 h3 hu
/-- x == 'n', x any data -/
def rEqS : R2 := fun x y H Q => ∃ d n, Dx H x d ∧ y = .str n ∧ Q (.bl (isSt n d)) H
theorem op_eqS (hu : X.A.units < cLine) : OpR X (compareOp .Eq) rEqS := by
  intro pins s σ H x y v u Q I rx ry h
  obtain ⟨d, n, hd, rfl, q⟩ := h
  obtain ⟨t, rfl⟩ := (show ∃ t, u = Value.str n t from ry)
  exact rc_data_str I hd rx hu X.prog X.w X.xe _ ⟨.bl _, H, I, rfl, q⟩
/-- x in t, x not in t: t a tuple of texts, x any data -/
def rInA (K : PySem.W.Frag) (f : Bool → Bool) : R2 := fun x y H Q => ∃ (d : PyData) (t : Addr) (ns : List Str), Dx H x d ∧ y = .ref t ∧ SqT K H t (ns.map V.str) ∧ Q (.bl (f (ns.any fun n => isSt n d))) H
theorem vals_strs : ∀ (ns : List Str) (us : List Value), Vals (ns.map V.str) us → ∀ z ∈ us, ∃ n t, z = Value.str n t := fun ns => by
  induction ns with
  | nil => intro us r z hz; cases r; cases hz
  | cons n ns ih =>
    intro us r z hz
    cases r with
    | cons r1 r2 =>
      rcases List.mem_cons.mp hz with rfl | hz
      · obtain ⟨t, rfl⟩ := r1
        exact ⟨n, t, rfl⟩
      · exact ih _ r2 z hz
def isS (d : PyData) : Value → Bool
  | .str m _ => isSt m d
  | _ => false
theorem any_isS {d : PyData} : ∀ (ns : List Str) (us : List Value), Vals (ns.map V.str) us → us.any (isS d) = ns.any fun n => isSt n d := fun ns => by
  induction ns with
  | nil => intro us r; cases r; rfl
  | cons n ns ih =>
    intro us r
    cases r with
    | cons r1 r2 =>
      obtain ⟨t, rfl⟩ := r1
      rw [List.any_cons, List.any_cons, ih _ r2]
      rfl
theorem op_inA (hu : X.A.units + 64 < cLine) : OpR X (compareOp .In) (rInA X.K id) := by
  intro pins s σ H x y v u Q I rx ry h
  obtain ⟨d, t, ns, hd, rfl, ht, q⟩ := h
  cases ry
  obtain ⟨its, rv, ⟨o, ho, hc, n, hdat⟩, _⟩ := I.tuple ht
  refine SeqAt.in_tupleAt (e := isS d) (hl := ⟨o, ho, hc, n, hdat⟩) (he := fun y hy => ?_) (h := ?_)
  · obtain ⟨m, t, rfl⟩ := vals_strs ns its rv y (by simpa using hy)
    exact eq_str_data I hd rx (by have : X.A.units + 64 < cLine := hu; show X.A.in1.units < cLine; exact Nat.lt_of_le_of_lt (by show X.A.units + 1 ≤ X.A.units + 64; omega) this)
  · have e : its.toArray.any (isS d) = ns.any fun n => isSt n d := by
      rw [← Array.any_toList]
      exact any_isS ns its rv
    rw [e]
    exact ⟨.bl _, H, I, rfl, q⟩
theorem op_ninA (hu : X.A.units + 64 < cLine) : OpR X (compareOp .NotIn) (rInA X.K not) := by
  intro pins s σ H x y v u Q I rx ry h
  obtain ⟨d, t, ns, hd, rfl, ht, q⟩ := h
  cases ry
  obtain ⟨its, rv, ⟨o, ho, hc, n, hdat⟩, _⟩ := I.tuple ht
  refine SeqAt.notIn_tupleAt (e := isS d) (hl := ⟨o, ho, hc, n, hdat⟩) (he := fun y hy => ?_) (h := ?_)
  · obtain ⟨m, t, rfl⟩ := vals_strs ns its rv y (by simpa using hy)
    exact eq_str_data I hd rx (by have : X.A.units + 64 < cLine := hu; show X.A.in1.units < cLine; exact Nat.lt_of_le_of_lt (by show X.A.units + 1 ≤ X.A.units + 64; omega) this)
  · have e : its.toArray.any (isS d) = ns.any fun n => isSt n d := by
      rw [← Array.any_toList]
      exact any_isS ns its rv
    rw [e]
    exact ⟨.bl _, H, I, rfl, q⟩
/-- t == (), t any tuple -/
def rEq0 (K : PySem.W.Frag) : R2 := fun x y H Q => ∃ a b xs, x = .ref a ∧ y = .ref b ∧ SqT K H a xs ∧ SqT K H b [] ∧ Q (.bl xs.isEmpty) H
theorem op_eq0 (hu : X.A.units < cLine) : OpR X (compareOp .Eq) (rEq0 X.K) := by
  intro pins s σ H x y v u Q I rx ry h
  obtain ⟨a, b, xs, rfl, rfl, ha, hb, q⟩ := h
  cases rx
  cases ry
  obtain ⟨its, r1, p1, _⟩ := I.tuple ha
  obtain ⟨its2, r2, p2, _⟩ := I.tuple hb
  cases r2
  have e : ((List.range (min its.toArray.size ([] : List Value).toArray.size)).all (fun _ => true) && its.toArray.size == ([] : List Value).toArray.size) = xs.isEmpty := by
    have := r1.length
    cases xs with
    | nil =>
      cases its with
      | nil => rfl
      | cons _ _ => simp at this
    | cons _ _ =>
      cases its with
      | nil => simp at this
      | cons _ _ => simp
  refine SeqAt.RcAt.tuples (e := fun _ => true) p1 p2 hu (fun j h1 h2 => absurd h2 (by simp)) X.prog X.w X.xe (EP X pins σ Q) ?_
  rw [e]
  exact ⟨.bl _, H, I, rfl, q⟩
end
end KX

set_option maxRecDepth 100000
set_option maxHeartbeats 4000000
namespace G1
open PySem PySem.Spec PyProof.Rows L2 KX
def clsB : Stmt → List Stmt
  | .ClassDef (body := b) .. => b
  | _ => []
end G1

set_option maxRecDepth 100000
set_option maxHeartbeats 4000000
namespace G1
open PySem PySem.Spec PyProof.Rows L2 KX
abbrev sDraw : Stmt := topS 66
abbrev sStream : Stmt := topS 65
def spDraw : Sp := fun vs H Q _ => ∃ (l : Addr) (t : Int), vs = [.ref l, .int t] ∧ StO H l ∧ 0 < t ∧ t < 2 ^ 64 ∧ ∀ H' n, Keep l H H' → StO H' l → 0 ≤ n → n < t → Q (.int n) H'
theorem scDraw : FnScope ["stream", "total", "found", "one", "stir", "two"] ["stream", "total"] (defScope sDraw) := ⟨rfl, rfl, rfl, by decide +kernel, rfl, by decide +kernel, by decide +kernel⟩
theorem i63 {a b c : Int} : atI [V.int a, V.int b, V.int c] 0 = some (V.int a) ∧ atI [V.int a, V.int b, V.int c] 1 = some (V.int b) ∧ atI [V.int a, V.int b, V.int c] 2 = some (V.int c) := ⟨rfl, rfl, rfl⟩
theorem mod_bd {x m : Int} (h : 0 < m) (h2 : m < 2 ^ 64) : -(2 ^ 64) < x % m ∧ x % m < 2 ^ 64 := by
  have a := Int.emod_nonneg x (show m ≠ 0 by omega)
  have b := Int.emod_lt_of_pos x h
  omega
section
variable {P : Program} {w : World} {K : PySem.W.Frag} {mg : Str → Option Value} {base : Heap}
theorem ok_draw {f : Addr} {fd : FuncData} (B : Bl mg) (D : Df K mg "_law_draw" sDraw ["stream", "total"] f fd) : FnOk P w K mg base CX0 1 f fd ["stream", "total"] spDraw := by
  refine D.F.ok scDraw (fun vs H Q E h => ?_) (fun cdv A outer s H vs Q E hr h => ?_)
  · obtain ⟨l, t, rfl, _⟩ := h
    rfl
  · obtain ⟨l, t, rfl, ⟨a, b, c, el⟩, t0, t1, q⟩ := h
    have nd := scDraw.nd
    refine ⟨_, pss_cons (ps_if (pt_cmpR op_gt (pe_ix ix_list (pv 0) pe_int (fun _ _ => rfl)) pe_int (nomark _))
        (pss_cons (ps_set (i := 2) nd rfl (.inl rfl) (pe_op op_mod (pe_ix ix_list (pv 0) pe_int (fun _ _ => rfl)) (pv 1)))
        (pss_cons (ps_asg (pe_op op_fdivW (pe_ix ix_list (pv 0) pe_int (fun _ _ => rfl)) (pv 1)) (pg_sub (pv 0) pe_int set_list))
        (pss_one (ps_ret (pv 2))))) pss_nil)
      (pss_cons (ps_asg (pe_op op_add (pe_ix ix_list (pv 0) pe_int (fun _ _ => rfl)) pe_int) (pg_sub (pv 0) pe_int set_list))
      (pss_cons (ps_set (i := 3) nd rfl (.inl rfl) (pe_op op_mod (pe_op op_add (pe_ix ix_list (pv 0) pe_int (fun _ _ => rfl)) (pe_op op_mul pe_int (pe_ix ix_list (pv 0) pe_int (fun _ _ => rfl)))) pe_int))
      (pss_cons (ps_set (i := 4) nd rfl (.inl rfl) (pe_op op_add (pe_op op_mul (pe_op op_mod (pe_op op_mul (pv 3) (pv 3)) pe_int) (pv 3)) (pe_op op_mul pe_int (pe_ix ix_list (pv 0) pe_int (fun _ _ => rfl)))))
      (pss_cons (ps_set (i := 5) nd rfl (.inl rfl) (pe_op op_mod (pe_op op_add (pv 4) (pe_op op_mod (pe_ix ix_list (pv 0) pe_int (fun _ _ => rfl)) pe_int)) pe_int))
      (pss_one (ps_ret (pe_op op_mod (pe_op op_add (pe_op op_fdiv (pe_op op_mod (pe_op op_mul (pv 5) (pv 5)) pe_int) pe_int)
        (pe_op op_mul (pe_op op_mul (pv 3) pe_int) (pe_callTy call_int1 (by rfl) B.int (by decide +kernel) (pa_cons (pe_cmpR op_gt (pv 1) (pe_op op_pow pe_int pe_int) (nomark _)) pa_nil)))) (pv 1)))))))), ?_⟩
    refine ⟨.ref l, rfl, l, _, 0, .int a, rfl, rfl, .inl (.inl el), rfl, a, 0, rfl, rfl, _, rfl, ite2 (fun h => ?_) fun h => ?_⟩
    · refine ⟨.ref l, rfl, l, _, 0, .int a, rfl, rfl, .inl (.inl el), rfl, .int t, rfl, a, t, rfl, rfl, t0, ?_⟩
      refine ⟨.ref l, rfl, l, _, 0, .int a, rfl, rfl, .inl (.inl el), rfl, .int t, rfl, a, t, rfl, rfl, wide_div (b := 64) t0 (by omega) (by decide) (by decide), ?_⟩
      refine ⟨.ref l, rfl, l, _, 0, 0, rfl, rfl, el, rfl, .int (a % t), rfl, ?_⟩
      exact q _ _ Keep.at ⟨_, _, _, upd_same⟩ (Int.emod_nonneg a (by omega)) (Int.emod_lt_of_pos a t0)
    · refine ⟨.ref l, rfl, l, _, 2, .int c, rfl, rfl, .inl (.inl el), rfl, c, 1, rfl, rfl, .ref l, rfl, l, _, 2, 2, rfl, rfl, el, rfl, ?_⟩
      have e2 : (upd H l (.lst [.int a, .int b, .int (c + 1)])) l = some (.lst [.int a, .int b, .int (c + 1)]) := upd_same
      refine ⟨.ref l, rfl, l, _, 1, .int b, rfl, rfl, .inl (.inl e2), rfl, .ref l, rfl, l, _, 2, .int (c + 1), rfl, rfl, .inl (.inl e2), rfl, 1500450271, c + 1, rfl, rfl, .inl ⟨by decide, by decide⟩,
        b, _, rfl, rfl, _, 4294967279, rfl, rfl, (show (0 : Int) < 4294967279 by decide), ?_⟩
      have o1 := mod_bd (x := b + 1500450271 * (c + 1)) (m := 4294967279) (by decide) (by decide)
      refine ⟨_, rfl, _, rfl, _, _, rfl, rfl, .inl o1, _, 4294967231, rfl, rfl, (show (0 : Int) < 4294967231 by decide), _, rfl, _, _, rfl, rfl, .inr o1,
        .ref l, rfl, l, _, 2, .int (c + 1), rfl, rfl, .inl (.inl e2), rfl, 10007, c + 1, rfl, rfl, .inl ⟨by decide, by decide⟩, _, _, rfl, rfl, ?_⟩
      refine ⟨_, rfl, .ref l, rfl, l, _, 1, .int b, rfl, rfl, .inl (.inl e2), rfl, b, 65537, rfl, rfl, (show (0 : Int) < 65537 by decide), _, _, rfl, rfl, _, 4294967197, rfl, rfl, (show (0 : Int) < 4294967197 by decide), ?_⟩
      have o2 : ∀ x : Int, -(2 ^ 64) < x % 4294967197 ∧ x % 4294967197 < 2 ^ 64 := fun x => mod_bd (x := x) (m := 4294967197) (by decide) (by decide)
      refine ⟨_, rfl, _, rfl, _, _, rfl, rfl, .inl (o2 _), _, 4294967189, rfl, rfl, (show (0 : Int) < 4294967189 by decide), _, 64, rfl, rfl, (show (0 : Int) < 64 ∧ (64 : Int) < 1073741824 by decide), ?_⟩
      refine ⟨_, rfl, _, 67108864, rfl, rfl, .inl o1, .int t, rfl, 10, 6, rfl, rfl, ⟨by decide, by decide, by decide⟩, t, _, rfl, rfl, .inr ⟨_, rfl, ?_⟩⟩
      refine ⟨_, _, rfl, rfl, .inr ?_, _, _, rfl, rfl, .int t, rfl, _, t, rfl, rfl, t0, ?_⟩
      · split <;> decide
      · exact q _ _ Keep.at ⟨_, _, _, upd_same⟩ (Int.emod_nonneg _ (by omega)) (Int.emod_lt_of_pos _ t0)
end
/-! ### _law_stream -/
def spStream (K : PySem.W.Frag) : Sp := fun vs H Q _ => ∃ (a : Addr) (ns : List Int) (k : Int), vs = [.ref a, .int k] ∧ SqL K H a (ns.map V.int) ∧ 0 ≤ k ∧ k ≤ 1000 ∧ ∀ H' p, Same H H' → H p = none → StO H' p → Q (.ref p) H'
theorem scStream : FnScope ["script", "at", "cell", "great"] ["script", "at"] (defScope sStream) := ⟨rfl, rfl, rfl, by decide +kernel, rfl, by decide +kernel, by decide +kernel⟩
section
variable {P : Program} {w : World} {K : PySem.W.Frag} {mg : Str → Option Value} {base : Heap}
theorem ok_stream {f : Addr} {fd : FuncData} (B : Bl mg) (D : Df K mg "_law_stream" sStream ["script", "at"] f fd) : FnOk P w K mg base CX0 1 f fd ["script", "at"] (spStream K) := by
  refine D.F.ok scStream (fun vs H Q E h => ?_) (fun cdv A outer s H vs Q E hr h => ?_)
  · obtain ⟨a, ns, k, rfl, _⟩ := h
    rfl
  · obtain ⟨a, ns, k, rfl, hS, k0, k1, q⟩ := h
    have nd := scStream.nd
    refine ⟨_, pss_cons (ps_set (i := 2) nd rfl (.inl rfl) (pe_op op_add (pe_op op_mul pe_int (pv 1)) pe_int))
      (pss_cons (ps_if (pt_cmpR op_lt (pv 1) (pe_callB call_len_seq (by rfl) B.len PySem.boot_len (pa_cons (pv 0) pa_nil)) (nomark _))
        (pss_one (ps_set (i := 2) nd rfl (.inl rfl) (pe_ix ix_list (pv 0) (pv 1) (fun _ _ => rfl)))) pss_nil)
      (pss_cons (ps_set (i := 3) nd rfl (.inl rfl) (pe_op op_mod (pe_callB call_abs (by rfl) B.abs (by decide +kernel) (pa_cons (pv 2) pa_nil)) (pe_op op_powW (pe_op op_pow pe_int pe_int) pe_int)))
      (pss_one (ps_ret (pe_lst (pa_cons (pe_callB (call_max2 rfl) (by rfl) B.max (by decide +kernel) (pa_cons pe_int (pa_cons (pe_op op_sub (pv 3) (pe_op op_pow pe_int pe_int)) pa_nil)))
        (pa_cons (pe_op op_mod (pe_op op_add (pe_op op_add (pe_op op_add (pe_op op_mul (pv 3) pe_int) (pe_op op_mul pe_int (pv 1))) (pe_op op_mul pe_int (pe_callTy call_int1 (by rfl) B.int (by decide +kernel) (pa_cons (pe_cmpR op_lt (pv 2) pe_int (nomark _)) pa_nil)))) pe_int) pe_int)
        (pa_cons pe_int pa_nil)))))))), ?_⟩
    refine ⟨.int k, rfl, 5, k, rfl, rfl, .inl ⟨by decide, by decide⟩, _, 3, rfl, rfl, ?_⟩
    have c1 : (0 : Int) ≤ 60 ∧ (60 : Int) ≤ 1000000 ∧ (10 : Int).natAbs < 2 ^ 64 := by decide
    have c2 : (0 : Int) ≤ 12 ∧ ((Builtin.Int.intBits ((10 : Int) ^ (60 : Int).toNat) : Nat) : Int) * 12 ≤ 2 ^ 27 := by decide +kernel
    have c3 : (0 : Int) < ((10 : Int) ^ (60 : Int).toNat) ^ (12 : Int).toNat := by decide +kernel
    have c4 : (0 : Int) ≤ 17 ∧ (17 : Int) ≤ 1000000 ∧ (10 : Int).natAbs < 2 ^ 64 := by decide
    have c5 : (0 : Int) < 4294967291 := by decide
    refine ⟨.int k, rfl, .ref a, rfl, a, _, rfl, .inl hS, k, _, rfl, rfl, _, rfl, ite2 (fun h => ?_) (fun h => ?_)⟩
    · have hk : k < (ns.map V.int).length := of_decide_eq_true h
      rw [List.length_map] at hk
      have hk2 : k.toNat < ns.length := by omega
      refine ⟨.ref a, rfl, .int k, rfl, a, _, k, .int ns[k.toNat], rfl, rfl, hS, ?_, ?_⟩
      · have e : ((k.toNat : Nat) : Int) = k := by omega
        have z : atI (ns.map V.int) ((k.toNat : Nat) : Int) = some (.int ns[k.toNat]) := atI_nat (by
          rw [List.getElem?_map, List.getElem?_eq_getElem hk2]
          rfl)
        rw [e] at z
        exact z
      · refine ⟨_, rfl, _, rfl, 10, 60, rfl, rfl, c1, _, 12, rfl, rfl, c2, _, _, rfl, rfl, c3, ?_⟩
        refine ⟨_, rfl, 10, 17, rfl, rfl, c4, _, _, rfl, rfl, _, _, rfl, ?_⟩
        refine ⟨_, rfl, _, 9576890767, rfl, rfl, .inr ⟨by decide, by decide⟩, .int k, rfl, 611953, k, rfl, rfl, .inl ⟨by decide, by decide⟩, _, _, rfl, rfl, ?_⟩
        refine ⟨_, rfl, _, 0, rfl, rfl, .inr ⟨_, rfl, 2, _, rfl, rfl, .inl ⟨by decide, by decide⟩, _, _, rfl, rfl, _, 7, rfl, rfl, _, _, rfl, rfl, c5, ?_⟩⟩
        refine ⟨by show 3 ≤ sizeLine; decide, fun p np => ?_⟩
        exact q _ p (same_new np) np ⟨_, _, _, upd_same⟩
    · refine ⟨_, rfl, _, rfl, 10, 60, rfl, rfl, c1, _, 12, rfl, rfl, c2, _, _, rfl, rfl, c3, ?_⟩
      refine ⟨_, rfl, 10, 17, rfl, rfl, c4, _, _, rfl, rfl, _, _, rfl, ?_⟩
      refine ⟨_, rfl, _, 9576890767, rfl, rfl, .inr ⟨by decide, by decide⟩, .int k, rfl, 611953, k, rfl, rfl, .inl ⟨by decide, by decide⟩, _, _, rfl, rfl, ?_⟩
      refine ⟨_, rfl, _, 0, rfl, rfl, .inr ⟨_, rfl, 2, _, rfl, rfl, .inl ⟨by decide, by decide⟩, _, _, rfl, rfl, _, 7, rfl, rfl, _, _, rfl, rfl, c5, ?_⟩⟩
      refine ⟨by show 3 ≤ sizeLine; decide, fun p np => ?_⟩
      exact q _ p (same_new np) np ⟨_, _, _, upd_same⟩
end
end G1

namespace G1
open PySem PySem.Spec PyProof.Rows L2 KX
abbrev sNm : Stmt := topS 67
/-! ### _law_name -/
def baseL (n : Nat) : List Nat := [97 + n / 2 % 26] ++ (if n % 2 = 1 then [97] else []) ++ (if n > 51 then [97 + n / 52] else [])
def Lets (l : List Nat) : Prop := ∀ c ∈ l, 97 ≤ c ∧ c ≤ 122
def NameOf (n : Nat) (x : Str) : Prop := ∃ suf : List Nat, x.cps.toList = baseL n ++ suf ∧ Lets suf ∧ (suf.length = 0 ∨ (n % 2 = 1 ∧ n < 52 ∧ (suf.length = 2 ∨ suf.length = 6)))
theorem abc_at : ∀ i : Nat, i < 26 → abc.cps.toList[i]? = some (97 + i) := by decide +kernel
theorem abc_has : ∀ c : Nat, 97 ≤ c → c ≤ 122 → c ∈ abc.cps.toList := fun c h1 h2 => by
  have h := abc_at (c - 97) (by omega)
  rw [show 97 + (c - 97) = c by omega] at h
  exact List.mem_of_getElem? h
theorem abc_len : abc.length ≤ sizeLine := by decide +kernel
theorem app_cps (x y : Str) : (x ++ y).cps.toList = x.cps.toList ++ y.cps.toList := by
  show (x.cps ++ y.cps).toList = _
  simp
theorem base_cps (a b : Nat) (p q : Prop) [Decidable p] [Decidable q] : (((⟨#[a]⟩ : Str) ++ (if p then ("a" : Str) else "")) ++ (if q then (⟨#[b]⟩ : Str) else "")).cps.toList = [a] ++ (if p then [97] else []) ++ (if q then [b] else []) := by
  rw [app_cps, app_cps]
  by_cases hp : p
  · rw [if_pos hp, if_pos hp]
    by_cases hq : q
    · rw [if_pos hq, if_pos hq]; rfl
    · rw [if_neg hq, if_neg hq]; rfl
  · rw [if_neg hp, if_neg hp]
    by_cases hq : q
    · rw [if_pos hq, if_pos hq]; rfl
    · rw [if_neg hq, if_neg hq]; rfl
theorem b2i_one {c : Prop} [Decidable c] : ((if decide c = true then (1 : Int) else 0) = 1) ↔ c := by
  by_cases h : c
  · rw [decide_eq_true h, if_pos rfl]; simp [h]
  · rw [decide_eq_false h, if_neg (by decide)]; simp [h]
theorem len_cps (x : Str) : x.length = x.cps.toList.length := by simp [Str.length]
def spNm : Sp := fun vs H Q _ => ∃ (l : Addr) (n : Nat), vs = [.ref l, .int (n : Int)] ∧ StO H l ∧ n < 61 ∧ ∀ H' x, Keep l H H' → StO H' l → NameOf n x → Q (.str x) H'
theorem scNm : FnScope ["stream", "at", "letters", "name", "turn"] ["stream", "at"] (defScope sNm) := ⟨rfl, rfl, rfl, by decide +kernel, rfl, by decide +kernel, by decide +kernel⟩
section
variable {P : Program} {w : World} {K : PySem.W.Frag} {mg : Str → Option Value} {base : Heap}
theorem ok_nm {f fD : Addr} {fd fdD : FuncData} (B : Bl mg) (D : Df K mg "_law_name" sNm ["stream", "at"] f fd) (DD : Df K mg "_law_draw" sDraw ["stream", "total"] fD fdD) : FnOk P w K mg base CX0 2 f fd ["stream", "at"] spNm := by
  have GD : FnOk P w K mg base CX0 1 fD fdD _ spDraw := ok_draw B DD
  refine D.F.ok scNm (fun vs H Q E h => ?_) (fun cdv A outer s H vs Q E hr h => ?_)
  · obtain ⟨l, n, rfl, _⟩ := h
    rfl
  · obtain ⟨l, n, rfl, hs, hn, q⟩ := h
    have nd := scNm.nd
    refine ⟨_, pss_cons (ps_set (i := 2) nd rfl (.inl rfl) pe_str)
      (pss_cons (ps_set (i := 3) nd rfl (.inl rfl) (pe_op op_add_str (pe_op op_add_str (pe_ix ix_str (pv 2) (pe_op op_mod (pe_op op_fdiv (pv 1) pe_int) pe_int) (fun _ _ => rfl))
          (pe_ix ix_list (pe_lst (pa_cons pe_str (pa_cons pe_str pa_nil))) (pe_op op_mod (pv 1) pe_int) (fun _ _ => rfl)))
          (pe_op op_mul_s (pe_ix ix_str (pv 2) (pe_op op_fdiv (pv 1) pe_int) (fun _ _ => rfl)) (pe_callTy call_int1 (by rfl) B.int (by decide +kernel) (pa_cons (pe_cmpR op_gt (pv 1) pe_int (nomark _)) pa_nil)))))
      (pss_cons (ps_for PassesOwn.never rfl (pi_range1 (by rfl) B.range (pa_cons (pe_op op_mul (pe_op op_mul (pe_ix ix_list (pe_lst (pa_cons pe_int (pa_cons pe_int (pa_cons pe_int (pa_cons pe_int pa_nil)))))
              (pe_call GD hr (by rfl) DD.g DD.F.kp DD.b .nil pass0 (pa_cons (pv 0) (pa_cons pe_int pa_nil))) (fun _ _ => rfl))
              (pe_callTy call_int1 (by rfl) B.int (by decide +kernel) (pa_cons (pe_op op_mod (pv 1) pe_int) pa_nil)))
              (pe_callTy call_int1 (by rfl) B.int (by decide +kernel) (pa_cons (pe_cmpR op_lt (pv 1) pe_int (nomark _)) pa_nil))) pa_nil))
          (pg_name (i := 4) nd rfl (.inl rfl))
          (pss_one (ps_set (i := 3) nd rfl (.inl rfl) (pe_op op_add_str (pv 3) (pe_ix ix_str (pv 2) (pe_call GD hr (by rfl) DD.g DD.F.kp DD.b .nil pass0 (pa_cons (pv 0) (pa_cons pe_int pa_nil))) (fun _ _ => rfl))))))
      (pss_one (ps_ret (pv 3))))), ?_⟩
    have c26 : (0 : Int) < 26 := by decide
    have c2 : (0 : Int) < 2 ∧ (2 : Int) < 1073741824 := by decide
    have c52 : (0 : Int) < 52 ∧ (52 : Int) < 1073741824 := by decide
    have e1 : atI abc.cps.toList (((n : Int) / 2) % 26) = some (97 + n / 2 % 26) := by
      have := atI_nat (abc_at (n / 2 % 26) (by omega))
      rw [show (((n / 2 % 26 : Nat)) : Int) = ((n : Int) / 2) % 26 by omega] at this
      exact this
    have e2 : atI abc.cps.toList ((n : Int) / 52) = some (97 + n / 52) := by
      have := atI_nat (abc_at (n / 52) (by omega))
      rw [show (((n / 52 : Nat)) : Int) = (n : Int) / 52 by omega] at this
      exact this
    refine ⟨_, rfl, .int (n : Int), rfl, n, 2, rfl, rfl, c2, _, 26, rfl, rfl, c26, abc, _, _, rfl, rfl, abc_len, e1, ?_⟩
    refine ⟨by show 2 ≤ sizeLine; decide, fun p np => ?_⟩
    have h1 := hs.new (o := .lst [.str "", .str "a"]) np
    have e3 : atI [V.str "", V.str "a"] ((n : Int) % 2) = some (.str (if n % 2 = 1 then "a" else "")) := by
      rcases Nat.mod_two_eq_zero_or_one n with z | z
      · rw [if_neg (by omega), show (n : Int) % 2 = ((0 : Nat) : Int) by omega]
        rfl
      · rw [if_pos z, show (n : Int) % 2 = ((1 : Nat) : Int) by omega]
        rfl
    refine ⟨.int (n : Int), rfl, n, 2, rfl, rfl, (show (0 : Int) < 2 by decide), p, _, _, _, rfl, rfl, .inl (.inl upd_same), e3, _, _, rfl, rfl, ?_, ?_⟩
    · have : ((if n % 2 = 1 then ("a" : Str) else "") : Str).length ≤ 1 := by split <;> decide
      have h2 : (⟨#[97 + n / 2 % 26]⟩ : Str).length = 1 := rfl
      have hb : (2 : Nat) < sizeLine := by decide
      omega
    · refine ⟨_, rfl, .int (n : Int), rfl, n, 52, rfl, rfl, c52, abc, _, _, rfl, rfl, abc_len, e2, ?_⟩
      refine ⟨.int (n : Int), rfl, n, 51, rfl, rfl, .inr ⟨_, rfl, _, _, rfl, rfl, ?_, ?_⟩⟩
      · split <;> simp
      · have eb : (((⟨#[97 + n / 2 % 26]⟩ : Str) ++ (if n % 2 = 1 then ("a" : Str) else "")) ++ (if (if decide ((51 : Int) < (n : Int)) = true then (1 : Int) else 0) = 1 then (⟨#[97 + n / 52]⟩ : Str) else "")).cps.toList = baseL n := by
          rw [base_cps]
          unfold baseL
          congr 1
          by_cases z : n > 51
          · rw [if_pos z, if_pos (b2i_one.mpr (by omega))]
          · rw [if_neg z, if_neg (fun h => z (by have := b2i_one.mp h; omega))]
        have lb : (baseL n).length ≤ 3 := by
          unfold baseL
          split <;> split <;> simp
        refine ⟨_, _, rfl, rfl, ?_, ?_⟩
        · have k1 := len_cps ((((⟨#[97 + n / 2 % 26]⟩ : Str) ++ (if n % 2 = 1 then ("a" : Str) else "")) ++ (if (if decide ((51 : Int) < (n : Int)) = true then (1 : Int) else 0) = 1 then (⟨#[97 + n / 52]⟩ : Str) else "")))
          rw [eb, strLen_append] at k1
          have hb : (3 : Nat) < sizeLine := by decide
          omega
        · generalize hX : (((⟨#[97 + n / 2 % 26]⟩ : Str) ++ (if n % 2 = 1 then ("a" : Str) else "")) ++ (if (if decide ((51 : Int) < (n : Int)) = true then (1 : Int) else 0) = 1 then (⟨#[97 + n / 52]⟩ : Str) else "")) = X0 at eb ⊢
          refine ⟨by show 4 ≤ sizeLine; decide, fun p2 np2 => ?_⟩
          have h2 := h1.new (o := .lst [.int 0, .int 0, .int 2, .int 6]) np2
          refine ⟨.ref l, rfl, l, 4, rfl, h2, by decide, by decide, fun H2 d kd sd d0 d4 => ?_⟩
          have e4 : ∃ m : Nat, atI [V.int 0, V.int 0, V.int 2, V.int 6] d = some (.int (m : Int)) ∧ (m = 0 ∨ m = 2 ∨ m = 6) := by
            have : d = 0 ∨ d = 1 ∨ d = 2 ∨ d = 3 := by omega
            rcases this with rfl | rfl | rfl | rfl
            · exact ⟨0, rfl, by simp⟩
            · exact ⟨0, rfl, by simp⟩
            · exact ⟨2, rfl, by simp⟩
            · exact ⟨6, rfl, by simp⟩
          obtain ⟨m, em, hm⟩ := e4
          have pl : H2 p2 = some _ := kd _ _ (h1.ne np2) upd_same
          refine ⟨p2, _, d, _, rfl, rfl, .inl (.inl pl), em, .int (n : Int), rfl, n, 2, rfl, rfl, (show (0 : Int) < 2 by decide), .inl ⟨_, rfl, m, _, rfl, rfl, .inl ?_, ?_⟩⟩
          · omega
          · refine ⟨.int (n : Int), rfl, n, 52, rfl, rfl, .inr ⟨_, rfl, _, _, rfl, rfl, .inr ?_, ?_⟩⟩
            · split <;> decide
            · have hj : ∃ j : Nat, ((m : Int) * ((n : Int) % 2)) * (if decide ((n : Int) < 52) = true then (1 : Int) else 0) = (j : Int) ∧ (j = 0 ∨ (n % 2 = 1 ∧ n < 52 ∧ (j = 2 ∨ j = 6))) := by
                by_cases z : (n : Int) < 52
                · rw [decide_eq_true z, if_pos rfl, Int.mul_one]
                  rcases Nat.mod_two_eq_zero_or_one n with y | y
                  · exact ⟨0, by rw [show (n : Int) % 2 = 0 by omega]; simp, .inl rfl⟩
                  · refine ⟨m, by rw [show (n : Int) % 2 = 1 by omega]; simp, ?_⟩
                    rcases hm with h | h | h
                    · exact .inl h
                    · exact .inr ⟨y, by omega, .inl h⟩
                    · exact .inr ⟨y, by omega, .inr h⟩
                · rw [decide_eq_false z, if_neg (by decide), Int.mul_zero]
                  exact ⟨0, rfl, .inl rfl⟩
              obtain ⟨j, ej, hj⟩ := hj
              refine ⟨_, rfl, ?_, ?_, ?_⟩
              · show (-(2 ^ 62) : Int) ≤ _
                rw [ej]
                omega
              · show (_ : Int) < 2 ^ 62
                rw [ej]
                omega
              · have st1 : StO H2 l := sd
                have kp1 : Keep l H H2 := (((Keep.refl l H).new np).new np2).trans kd
                refine for_range (lo := 0) (n := Int.toNat _) (fun i σ G => Keep l H G ∧ StO G l ∧ ∃ (x : Str) (suf : List Nat) (tv : Option V), σ = [some (.ref l), some (.int n), some (.str abc), some (.str x), tv] ∧ x.cps.toList = baseL n ++ suf ∧ Lets suf ∧ suf.length = i)
                  ⟨kp1, st1, X0, [], none, rfl, by rw [eb, List.append_nil], fun c hc => absurd hc (by simp), rfl⟩ (fun i σ G hi hp => ?_) (fun σ G hp => ?_)
                · obtain ⟨kp, st, x, suf, tv, rfl, ex, hl, hi2⟩ := hp
                  have hi3 : i < j := by
                    have h := hi
                    rw [show Int.toNat _ = j from congrArg Int.toNat ej] at h
                    exact h
                  refine ⟨.str x, rfl, _, rfl, .ref l, rfl, l, 26, rfl, st, by decide, by decide, fun G2 d2 kd2 sd2 d20 d26 => ?_⟩
                  have e5 : atI abc.cps.toList d2 = some (97 + d2.toNat) := by
                    have := atI_nat (abc_at d2.toNat (by omega))
                    rw [show ((d2.toNat : Nat) : Int) = d2 by omega] at this
                    exact this
                  refine ⟨abc, _, _, rfl, rfl, abc_len, e5, x, _, rfl, rfl, ?_, kp.trans kd2, sd2, _, suf ++ [97 + d2.toNat], _, rfl, ?_, ?_, ?_⟩
                  · have k1 := len_cps x
                    rw [ex, List.length_append] at k1
                    have k2 : (⟨#[97 + d2.toNat]⟩ : Str).length = 1 := rfl
                    have hb : (20 : Nat) < sizeLine := by decide
                    omega
                  · rw [app_cps, ex, List.append_assoc]
                  · intro c hc
                    rcases List.mem_append.mp hc with hc | hc
                    · exact hl c hc
                    · have : c = 97 + d2.toNat := by simpa using hc
                      omega
                  · rw [List.length_append, hi2]
                    rfl
                · obtain ⟨kp, st, x, suf, tv, rfl, ex, hl, hi2⟩ := hp
                  have hi3 : suf.length = j := hi2.trans (congrArg Int.toNat ej)
                  refine ⟨_, rfl, q G x kp st ⟨suf, ex, hl, ?_⟩⟩
                  rw [hi3]
                  exact hj
end
theorem name_ok {n : Nat} {x : Str} (hn : n < 61) (h : NameOf n x) : nameD (.str x) = true ∧ x.length ≤ 8 := by
  obtain ⟨suf, ex, hl, hs⟩ := h
  have hb : (baseL n).length = 1 + (if n % 2 = 1 then 1 else 0) + (if n > 51 then 1 else 0) := by
    unfold baseL
    split <;> split <;> simp
  have lx := len_cps x
  rw [ex, List.length_append, hb] at lx
  have h8 : 1 ≤ x.length ∧ x.length ≤ 8 := by
    split at lx <;> split at lx <;> omega
  refine ⟨?_, h8.2⟩
  have all : letD x = true := by
    unfold letD
    rw [ex, List.all_eq_true]
    intro c hc
    refine decide_eq_true (abc_has c ?_ ?_)
    all_goals
      rcases List.mem_append.mp hc with hc | hc
      · unfold baseL at hc
        split at hc <;> split at hc <;> simp at hc <;> omega
      · have := hl c hc
        omega
  show ((decide (1 ≤ (x.length : Int)) && decide ((x.length : Int) ≤ 8)) && letD x) = true
  rw [all, decide_eq_true (by omega), decide_eq_true (by omega)]
  rfl
end G1

set_option maxRecDepth 100000
set_option maxHeartbeats 4000000
namespace KX
open PySem PySem.Spec PyProof.Rows L2
/-- what is seen but for two addresses -/
def view (l q : Addr) (H : Hp) : Hp := hid q (hid l H)
theorem view_at {l q b : Addr} {H : Hp} (h : b ≠ l) (h' : b ≠ q) : view l q H b = H b := by
  unfold view
  rw [hid_at h', hid_at h]
theorem view_same {l q : Addr} {H H' : Hp} (k : ∀ b o, b ≠ l → b ≠ q → H b = some o → H' b = some o) : Same (view l q H) (view l q H') := fun b o e => by
  obtain ⟨n, e⟩ := hid_some e
  obtain ⟨n', e⟩ := hid_some e
  rw [view_at n' n]
  exact k b o n' n e
theorem view_keep {l q : Addr} {H H' : Hp} (k : Keep l H H') : Same (view l q H) (view l q H') := view_same fun b o n _ e => k b o n e
theorem view_tup {l q p : Addr} {H : Hp} {xs : List V} {ds : List PyData} (n : H p = none) (hl : p ≠ l) (hq : p ≠ q) (h : Dxs (view l q H) xs ds) : Dx (view l q (L2.upd H p (.tup xs))) (.ref p) (.tuple ds) :=
  .tup (by rw [view_at hl hq]; exact upd_same) (h.up (view_keep ((Keep.refl l H).new n)))
theorem Keep.to {l : Addr} {H H' : Hp} {b : Addr} {o : HO} (k : Keep l H H') (n : b ≠ l) (e : H b = some o) : H' b = some o := k b o n e
end KX
namespace G1
open PySem PySem.Spec PyProof.Rows L2 KX
abbrev sRs : Stmt := topS 68
/-! ### _law_rowset -/
structure Rec where
  nm : Str
  cost : Int
  vals : List Int
  exp : Int
def encR (r : Rec) : PyData := .tuple [.str r.nm, .int r.cost, .tuple (r.vals.map .int), .int r.exp]
structure RecOk (w n : Nat) (r : Rec) : Prop where
  nm : NameOf n r.nm
  c0 : 1 ≤ r.cost
  c1 : r.cost ≤ 1000000
  len : r.vals.length = w
  vs : ∀ v ∈ r.vals, -1000000000 ≤ v ∧ v ≤ 1000000000
  e0 : 1 ≤ r.exp
  e1 : r.exp ≤ 1000000000
/-- the rows as they are made, one for each number -/
def Made (w : Nat) (recs : List Rec) : Prop := ∀ (i : Nat) (r : Rec), recs[i]? = some r → RecOk w i r
def sortR (recs : List Rec) : List Rec := recs.mergeSort (PySem.W.dataLe false encR)
def spRs : Sp := fun vs H Q _ => ∃ (l : Addr) (n w : Nat), vs = [.ref l, .int (n : Int), .int (w : Int)] ∧ StO H l ∧ n ≤ 61 ∧ 1 ≤ w ∧ w ≤ 4 ∧
  ∀ H' p recs, Keep l H H' → StO H' l → recs.length = n → Made w recs → Dx (hid l H') (.ref p) (.tuple ((sortR recs).map encR)) → Q (.ref p) H'
theorem scRs : FnScope ["stream", "total", "wide", "top", "dear", "last", "rows", "at", "worths", "col"] ["stream", "total", "wide"] (defScope sRs) := ⟨rfl, rfl, rfl, by decide +kernel, rfl, by decide +kernel, by decide +kernel⟩
theorem dxs_ints {H : Hp} : ∀ (ns : List Int), Dxs H (ns.map V.int) (ns.map PyData.int)
  | [] => .nil
  | n :: ns => .cons (.int n) (dxs_ints ns)
theorem menu {ns : List Int} {d : Int} (h0 : 0 ≤ d) (h1 : d < (ns.length : Int)) : ∃ t, t ∈ ns ∧ atI (ns.map V.int) d = some (.int t) := by
  have hl : d.toNat < ns.length := by omega
  refine ⟨ns[d.toNat], List.getElem_mem hl, ?_⟩
  have := atI_nat (xs := ns.map V.int) (j := d.toNat) (v := .int ns[d.toNat]) (by rw [List.getElem?_map, List.getElem?_eq_getElem hl]; rfl)
  rw [show ((d.toNat : Nat) : Int) = d by omega] at this
  exact this
theorem alike_recs (rs : List Rec) : PySem.W.AllAlike (rs.map encR) := PySem.W.AllAlike.of fun a b => by
  simp [encR, PySem.W.alike, PySem.W.alikeAll, PySem.W.alike_ints]
theorem tup_recs (rs : List Rec) : PySem.W.Sortable (rs.map encR) := PySem.W.Sortable.tuples fun b => ⟨_, _, rfl⟩
theorem depth_rec (r : Rec) : (encR r).depth ≤ 50 := by
  simp [encR, PyData.depth, PyData.depthAll, PySem.W.depth_ints]
theorem plain_rec (r : Rec) : (encR r).plain = true := by
  simp [encR, PyData.plain, PyData.plainAll, pl_ints]
theorem dxs_pairs {H : Hp} : ∀ (bs : List (V × Rec)), (∀ b ∈ bs, Dx H b.1 (encR b.2)) → Dxs H (bs.map (·.1)) (bs.map fun b => encR b.2)
  | [], _ => .nil
  | b :: bs, h => .cons (h b (by simp)) (dxs_pairs bs fun c hc => h c (by simp [hc]))
section
variable {P : Program} {w : World} {K : PySem.W.Frag} {mg : Str → Option Value} {base : Heap}
theorem ok_rs {f fD fN : Addr} {fd fdD fdN : FuncData} (B : Bl mg) (D : Df K mg "_law_rowset" sRs ["stream", "total", "wide"] f fd) (DD : Df K mg "_law_draw" sDraw ["stream", "total"] fD fdD) (DN : Df K mg "_law_name" sNm ["stream", "at"] fN fdN) :
    FnOk P w K mg base CX0 3 f fd ["stream", "total", "wide"] spRs := by
  have GD : FnOk P w K mg base CX0 2 fD fdD _ spDraw := (ok_draw B DD).mono (by decide)
  have GN : FnOk P w K mg base CX0 2 fN fdN _ spNm := ok_nm B DN DD
  refine D.F.ok scRs (fun vs H Q E h => ?_) (fun cdv A outer s H vs Q E hr h => ?_)
  · obtain ⟨l, n, w, rfl, _⟩ := h
    rfl
  · obtain ⟨l, n, wd, rfl, hs, hn, hw1, hw4, q⟩ := h
    have nd := scRs.nd
    refine ⟨_, pss_cons (ps_set (i := 3) nd rfl (.inr rfl) (pe_ix ix_list (pe_lst (pa_cons pe_int (pa_cons pe_int (pa_cons pe_int (pa_cons (pe_op op_pow pe_int pe_int) pa_nil)))))
          (pe_call GD hr (by rfl) DD.g DD.F.kp DD.b .nil pass0 (pa_cons (pv 0) (pa_cons pe_int pa_nil))) (fun _ _ => rfl)))
      (pss_cons (ps_par (i := 4) (j := 5) rfl nd rfl rfl (by decide) rfl rfl (pa_cons (pe_ix ix_list (pe_lst (pa_cons pe_int (pa_cons pe_int (pa_cons pe_int (pa_cons (pe_op op_pow pe_int pe_int) pa_nil)))))
          (pe_call GD hr (by rfl) DD.g DD.F.kp DD.b .nil pass0 (pa_cons (pv 0) (pa_cons pe_int pa_nil))) (fun _ _ => rfl))
          (pa_cons (pe_ix ix_list (pe_lst (pa_cons pe_int (pa_cons pe_int (pa_cons (pe_op op_pow pe_int pe_int) pa_nil))))
          (pe_call GD hr (by rfl) DD.g DD.F.kp DD.b .nil pass0 (pa_cons (pv 0) (pa_cons pe_int pa_nil))) (fun _ _ => rfl)) pa_nil)) (by rfl))
      (pss_cons (ps_set (i := 6) nd rfl (.inl rfl) (pe_lst pa_nil))
      (pss_cons (ps_for PassesOwn.never rfl (pi_range1 (by rfl) B.range (pa_cons (pv 1) pa_nil)) (pg_name (i := 7) nd rfl (.inl rfl))
        (pss_cons (ps_set (i := 8) nd rfl (.inl rfl) (pe_callTy call_tuple_of (by rfl) B.tuple (by decide +kernel) (pa_cons (pe_lc (own := [("col", 9)]) (g := gName 9) rfl nd (pi_range1 (by rfl) B.range (pa_cons (pv 2) pa_nil))
            (blkOk_by (N := ["stream", "total", "wide", "top", "dear", "last", "rows", "at", "worths", "col"]) (sc := defScope sRs) (by decide +kernel)) (fun _ _ _ _ _ => pg_name (i := 9) nd rfl (Or.inl rfl)) (fun _ _ _ _ _ => pts_nil)
            (fun _ _ _ _ _ => pe_op op_sub (pe_call GD hr (by rfl) DD.g DD.F.kp DD.b .nil pass0 (pa_cons (pv 0) (pa_cons (pe_op op_add (pe_op op_mul pe_int (pv 3)) pe_int) pa_nil))) (pv 3))) pa_nil)))
        (pss_one (ps_expr (pe_bm PySem.F.plainAttrs_list PySem.F.slot_list_append PySem.F.type_list_append mt_append (pv 6) (pa_cons (pe_tup (pa_cons (pe_call GN hr (by rfl) DN.g DN.F.kp DN.b .nil pass0 (pa_cons (pv 0) (pa_cons (pv 7) pa_nil)))
            (pa_cons (pe_op op_add pe_int (pe_call GD hr (by rfl) DD.g DD.F.kp DD.b .nil pass0 (pa_cons (pv 0) (pa_cons (pv 4) pa_nil)))) (pa_cons (pv 8)
            (pa_cons (pe_op op_add pe_int (pe_call GD hr (by rfl) DD.g DD.F.kp DD.b .nil pass0 (pa_cons (pv 0) (pa_cons (pv 5) pa_nil)))) pa_nil))))) pa_nil))))))
      (pss_one (ps_ret (pe_callTy call_tuple_of (by rfl) B.tuple (by decide +kernel) (pa_cons (pe_callB (cr_sortE (enc := encR) hr) (by rfl) B.sorted (by decide +kernel) (pa_cons (pv 6) pa_nil)) pa_nil))))))), ?_⟩
    -- top = [1, 2, 4, 10 ** 9][draw]
    refine ⟨10, 9, rfl, rfl, ⟨by decide, by decide, by decide⟩, by show 4 ≤ sizeLine; decide, fun p1 n1 => ?_⟩
    refine ⟨.ref l, rfl, l, 4, rfl, hs.new n1, by decide, by decide, fun H1 d1 k1 s1 d10 d14 => ?_⟩
    have a1 : H1 p1 = some _ := k1.to (hs.ne n1) upd_same
    obtain ⟨top, mt, et⟩ := menu (ns := [1, 2, 4, 10 ^ (9 : Int).toNat]) d10 d14
    have ht : 1 ≤ top ∧ top ≤ 1000000000 := by
      have : ∀ t ∈ [1, 2, 4, (10 : Int) ^ (9 : Int).toNat], 1 ≤ t ∧ t ≤ 1000000000 := by decide
      exact this top mt
    refine ⟨p1, _, d1, _, rfl, rfl, .inl (.inl a1), et, ?_⟩
    -- dear, last
    refine ⟨10, 6, rfl, rfl, ⟨by decide, by decide, by decide⟩, by show 4 ≤ sizeLine; decide, fun p2 n2 => ?_⟩
    refine ⟨.ref l, rfl, l, 4, rfl, s1.new n2, by decide, by decide, fun H2 d2 k2 s2 d20 d24 => ?_⟩
    have a2 : H2 p2 = some _ := k2.to (s1.ne n2) upd_same
    obtain ⟨dear, md, ed⟩ := menu (ns := [1, 3, 9, 10 ^ (6 : Int).toNat]) d20 d24
    have hd : 1 ≤ dear ∧ dear ≤ 1000000 := by
      have : ∀ t ∈ [1, 3, 9, (10 : Int) ^ (6 : Int).toNat], 1 ≤ t ∧ t ≤ 1000000 := by decide
      exact this dear md
    refine ⟨p2, _, d2, _, rfl, rfl, .inl (.inl a2), ed, ?_⟩
    refine ⟨10, 9, rfl, rfl, ⟨by decide, by decide, by decide⟩, by show 3 ≤ sizeLine; decide, fun p3 n3 => ?_⟩
    refine ⟨.ref l, rfl, l, 3, rfl, s2.new n3, by decide, by decide, fun H3 d3 k3 s3 d30 d34 => ?_⟩
    have a3 : H3 p3 = some _ := k3.to (s2.ne n3) upd_same
    obtain ⟨last, ml, el⟩ := menu (ns := [1, 3, 10 ^ (9 : Int).toNat]) d30 d34
    have hl : 1 ≤ last ∧ last ≤ 1000000000 := by
      have : ∀ t ∈ [1, 3, (10 : Int) ^ (9 : Int).toNat], 1 ≤ t ∧ t ≤ 1000000000 := by decide
      exact this last ml
    refine ⟨p3, _, d3, _, rfl, rfl, .inl (.inl a3), el, _, _, rfl, ?_⟩
    -- rows = []
    refine ⟨Nat.zero_le _, fun r nr => ?_⟩
    have hrl : r ≠ l := s3.ne nr
    have kk : Keep l H (L2.upd H3 r (.lst [])) := ((((((Keep.refl l H).new n1).trans k1).new n2).trans k2).new n3).trans k3 |>.new nr
    have s4 : StO (L2.upd H3 r (.lst [])) l := s3.new nr
    have hHr : H r = none := by
      cases e : H r with
      | none => rfl
      | some o =>
        have := ((((((Keep.refl l H).new n1).trans k1).new n2).trans k2).new n3).trans k3 r o hrl e
        rw [nr] at this
        cases this
    refine ⟨.int (n : Int), rfl, n, rfl, by omega, by omega, ?_⟩
    refine for_range (lo := 0) (n := n) (fun i σ G => Keep l H G ∧ StO G l ∧ ∃ (vs : List V) (recs : List Rec) (ta tw tc : Option V), σ = [some (.ref l), some (.int n), some (.int wd), some (.int top), some (.int dear), some (.int last), some (.ref r), ta, tw, tc] ∧
        G r = some (.lst vs) ∧ Dxs (view l r G) vs (recs.map encR) ∧ recs.length = i ∧ Made wd recs)
      ⟨kk, s4, [], [], none, none, none, rfl, upd_same, .nil, rfl, fun i r h => by simp at h⟩ (fun i σ G hi hp => ?_) (fun σ G hp => ?_)
    · obtain ⟨kp, st, vs, recs, ta, tw, tc, rfl, gr, hx, hlen, hmade⟩ := hp
      refine ⟨.int (wd : Int), rfl, wd, rfl, by omega, by omega, fun D0 nD => ?_⟩
      have hDl : D0 ≠ l := st.ne nD
      refine lc_range (lo := 0) (n := wd) (fun j F => Keep l G F ∧ StO F l ∧ ∃ ns : List Int, ns.length = j ∧ (∀ v ∈ ns, -1000000000 ≤ v ∧ v ≤ 1000000000) ∧ F D0 = some (.lst (ns.map V.int)))
        ⟨(Keep.refl l G).new nD, st.new nD, [], rfl, fun v h => absurd h (by simp), upd_same⟩ (fun j F hj hF => ?_) (fun F hF => ?_)
      · obtain ⟨kF, sF, ns, hns, hv, eD⟩ := hF
        refine ⟨rfl, .ref l, rfl, .int top, rfl, 2, top, rfl, rfl, .inl ⟨by decide, by decide⟩, _, 1, rfl, rfl, l, 2 * top + 1, rfl, sF, by omega, by omega, fun F2 d kd sd d0 d1 => ?_⟩
        have eD2 : F2 D0 = some _ := kd.to hDl eD
        refine ⟨.int top, rfl, d, top, rfl, rfl, _, eD2, ?_, ?_⟩
        · rw [List.length_map]
          have hb : (4 : Nat) < sizeLine := by decide
          omega
        · refine ⟨fun b o nb eb => by rw [upd_ne (ne_of_none eb nD)]; exact kd b o nb (kF b o nb eb), ?_, ns ++ [d - top], ?_, ?_, ?_⟩
          · obtain ⟨x, y, z, e⟩ := sd
            exact ⟨x, y, z, by rw [upd_ne hDl.symm]; exact e⟩
          · rw [List.length_append, hns]
            rfl
          · intro v hv'
            rcases List.mem_append.mp hv' with hv' | hv'
            · exact hv v hv'
            · have : v = d - top := by simpa using hv'
              omega
          · rw [upd_same, List.map_append]
            rfl
      · obtain ⟨kF, sF, ns, hns, hv, eD⟩ := hF
        refine ⟨D0, _, rfl, .inl ⟨.inl (.inl eD), fun t nt => ?_⟩⟩
        have htl : t ≠ l := sF.ne nt
        have gr1 : F r = some (.lst vs) := kF.to hrl gr
        have htr : t ≠ r := (ne_of_none gr1 nt).symm
        have s5 : StO (L2.upd F t (.tup (ns.map V.int))) l := sF.new nt
        have dt : Dx (view l r (L2.upd F t (.tup (ns.map V.int)))) (.ref t) (.tuple (ns.map PyData.int)) := view_tup nt htl htr (dxs_ints ns)
        have k5 : Keep l G (L2.upd F t (.tup (ns.map V.int))) := kF.new nt
        refine ⟨.ref r, rfl, .inl ⟨rfl, _, .inl (.inl (k5.to hrl gr))⟩, .ref l, rfl, _, rfl, l, i, by simp, s5, by omega, fun G2 x k6 s6 hnm => ?_⟩
        refine ⟨.ref l, rfl, .int dear, rfl, l, dear, rfl, s6, by omega, by omega, fun G3 dc k7 s7 c0 c1 => ⟨1, dc, rfl, rfl, .ref t, rfl, ?_⟩⟩
        refine ⟨.ref l, rfl, .int last, rfl, l, last, rfl, s7, by omega, by omega, fun G4 de k8 s8 e0 e1 => ⟨1, de, rfl, rfl, by show 4 ≤ sizeLine; decide, fun u nu => ?_⟩⟩
        have hul : u ≠ l := s8.ne nu
        have kk4 : Keep l G G4 := ((k5.trans k6).trans k7).trans k8
        have gr4 : G4 r = some (.lst vs) := kk4.to hrl gr
        have hur : u ≠ r := (ne_of_none gr4 nu).symm
        have dt4 : Dx (view l r G4) (.ref t) (.tuple (ns.map PyData.int)) := dt.up (view_keep ((k6.trans k7).trans k8))
        have du : Dx (view l r (L2.upd G4 u (.tup [.str x, .int (1 + dc), .ref t, .int (1 + de)]))) (.ref u) (encR ⟨x, 1 + dc, ns, 1 + de⟩) :=
          view_tup nu hul hur (.cons (.str x) (.cons (.int _) (.cons dt4 (.cons (.int _) .nil))))
        have ku : Keep l G (L2.upd G4 u (.tup [.str x, .int (1 + dc), .ref t, .int (1 + de)])) := kk4.new nu
        have vlen : vs.length = recs.length := by
          have := hx.len
          rwa [List.length_map] at this
        refine ⟨r, vs, .ref u, rfl, rfl, by rw [upd_ne hur.symm]; exact gr4, ?_, ?_⟩
        · have hb : (61 : Nat) < sizeLine := by decide
          omega
        · have sup : Same (view l r (L2.upd G4 u (.tup [.str x, .int (1 + dc), .ref t, .int (1 + de)]))) (view l r (L2.upd (L2.upd G4 u (.tup [.str x, .int (1 + dc), .ref t, .int (1 + de)])) r (.lst (vs ++ [.ref u])))) :=
            view_same fun b o _ nb e => by rw [upd_ne nb]; exact e
          refine ⟨fun b o nb eb => by rw [upd_ne (ne_of_none eb hHr)]; exact ku b o nb (kp b o nb eb), ?_, vs ++ [.ref u], recs ++ [⟨x, 1 + dc, ns, 1 + de⟩], _, _, _, rfl, upd_same, ?_, ?_, ?_⟩
          · obtain ⟨y1, y2, y3, e⟩ := s8.new (o := .tup [.str x, .int (1 + dc), .ref t, .int (1 + de)]) nu
            exact ⟨y1, y2, y3, by rw [upd_ne hrl.symm]; exact e⟩
          · rw [List.map_append]
            exact ((hx.up (view_keep ku)).up sup).app (.cons (du.up sup) .nil)
          · rw [List.length_append, hlen]
            rfl
          · intro j r' hj
            by_cases hjl : j < recs.length
            · exact hmade j r' (by rw [List.getElem?_append_left hjl] at hj; exact hj)
            · rw [List.getElem?_append_right (by omega)] at hj
              have hj0 : j - recs.length = 0 := by
                have := (List.getElem?_eq_some_iff.mp hj).1
                simp at this
                omega
              rw [hj0] at hj
              cases hj
              have hji : j = i := by omega
              rw [hji]
              exact ⟨hnm, by show 1 ≤ 1 + dc; omega, by show 1 + dc ≤ _; omega, hns, hv, by show 1 ≤ 1 + de; omega, by show 1 + de ≤ _; omega⟩
    · obtain ⟨kp, st, vs, recs, ta, tw, tc, rfl, gr, hx, hlen, hmade⟩ := hp
      have vlen : vs.length = recs.length := by
        have := hx.len
        rwa [List.length_map] at this
      have eachH : ∀ b ∈ vs.zip recs, Dx (hid l G) b.1 (encR b.2) := fun b hb => by
        obtain ⟨i, hi, e⟩ := List.mem_iff_getElem.mp hb
        have e' : (vs.zip recs)[i]? = some b := by rw [List.getElem?_eq_getElem hi, e]
        rw [List.getElem?_zip_eq_some] at e'
        obtain ⟨d, ed, hd⟩ := hx.get' e'.1
        rw [List.getElem?_map, e'.2] at ed
        cases ed
        exact hd.up (hid_same r (hid l G))
      have each : ∀ b ∈ vs.zip recs, Dx G b.1 (encR b.2) := fun b hb => (eachH b hb).up (hid_same l G)
      refine ⟨.ref r, rfl, r, vs.zip recs, rfl, .inl (.inl ?_), ?_, ?_, ?_, ?_, fun p np => ?_⟩
      · rw [List.map_fst_zip (by omega)]
        exact gr
      · intro b hb
        exact dp_dx _ _ (plain_rec b.2) (each b hb)
      · have := alike_recs ((vs.zip recs).map (·.2))
        rwa [List.map_map] at this
      · have := tup_recs ((vs.zip recs).map (·.2))
        rwa [List.map_map] at this
      · exact fun b _ => depth_rec b.2
      · have hm : ∀ b ∈ (vs.zip recs).mergeSort (PySem.W.dataLe false fun b => encR b.2), Dx (hid l (L2.upd G p (.lst (((vs.zip recs).mergeSort (PySem.W.dataLe false fun b => encR b.2)).map (·.1))))) b.1 (encR b.2) := fun b hb =>
          ((eachH b (List.mem_mergeSort.mp hb)).up (hnew np))
        have e1 : ((vs.zip recs).mergeSort (PySem.W.dataLe false fun b => encR b.2)).map (fun b => encR b.2) = (sortR recs).map encR := by
          have e2 : ((vs.zip recs).mergeSort (PySem.W.dataLe false fun b => encR b.2)).map Prod.snd = sortR recs := by
            have h := List.map_mergeSort (f := Prod.snd) (r := PySem.W.dataLe false fun b : V × Rec => encR b.2) (s := PySem.W.dataLe false encR) (l := vs.zip recs) (fun a _ b _ => rfl)
            rw [List.map_snd_zip (by omega)] at h
            exact h
          rw [← e2, List.map_map]
          rfl
        have hx2 := dxs_pairs _ hm
        rw [e1] at hx2
        have sp := st.new (o := .lst (((vs.zip recs).mergeSort (PySem.W.dataLe false fun b => encR b.2)).map (·.1))) np
        refine ⟨p, _, rfl, .inl ⟨.inl (.inl upd_same), fun p2 np2 => ?_⟩⟩
        exact q _ p2 recs ((kp.new np).new np2) (sp.new np2) hlen hmade (dx_tup np2 sp hx2)
end
end G1

namespace G1
open PySem PySem.Spec PyProof.Rows L2 KX
theorem nm_len {r : Rec} {w : Nat} (h : RecOk w 0 r) : r.nm.length = 1 := by
  obtain ⟨suf, ex, hl, hs⟩ := h.nm
  have lx := len_cps r.nm
  rw [ex, List.length_append] at lx
  have hb : (baseL 0).length = 1 := rfl
  rcases hs with hs | ⟨z, _⟩
  · omega
  · omega
theorem fine_ints {B : Nat} : ∀ ns : List Int, (∀ v ∈ ns, -1000000000 ≤ v ∧ v ≤ 1000000000) → 1000000000 ≤ B → fineAll B (ns.map PyData.int) = true
  | [], _, _ => rfl
  | n :: ns, h, hB => by
    have := h n (by simp)
    simp only [List.map_cons, fineAll, fine, Bool.and_eq_true]
    exact ⟨decide_eq_true (by omega), fine_ints ns (fun v hv => h v (by simp [hv])) hB⟩
theorem wt_ints : ∀ ns : List Int, wtAll (ns.map PyData.int) = ns.length
  | [] => rfl
  | n :: ns => by
    simp only [List.map_cons, wtAll, wt_ints ns, List.length_cons]
    rw [show wt (.int n) = 1 by simp [wt]]
    omega
theorem rec_good {r : Rec} {w : Nat} (h : RecOk w 0 r) (hw : w ≤ 4) : Good (10 ^ 40) 10 (encR r) := by
  have l1 := nm_len h
  have hl := h.len
  have c0 := h.c0
  have c1 := h.c1
  have e0 := h.e0
  have e1 := h.e1
  obtain ⟨suf, ex, hs, hx⟩ := h.nm
  refine ⟨?_, ?_⟩
  · simp only [encR, fine, fineAll, Bool.and_eq_true]
    refine ⟨?_, decide_eq_true (by omega), fine_ints _ h.vs (by decide), decide_eq_true (by omega), trivial⟩
    refine List.all_eq_true.mpr fun c hc => decide_eq_true ?_
    rw [ex] at hc
    rcases List.mem_append.mp hc with hc | hc
    · have : c = 97 := by simpa [baseL] using hc
      omega
    · have := hs c hc
      omega
  · simp only [encR, wt, wtAll, wt_ints]
    omega
theorem betw_int {lo hi i : Int} (h0 : lo ≤ i) (h1 : i ≤ hi) : betw lo hi (.int i) = true := by
  show (decide (lo ≤ i) && decide (i ≤ hi)) = true
  rw [decide_eq_true h0, decide_eq_true h1]
  rfl
theorem rec_row {r : Rec} {w n : Nat} (hn : n < 61) (h : RecOk w n r) (h1 : 1 ≤ w) (hw : w ≤ 4) : rowD (encR r) = true := by
  show (nameD (.str r.nm) && betw 1 1000000 (.int r.cost) && (valsD (.tuple (r.vals.map .int)) && betw 1 1000000000 (.int r.exp))) = true
  rw [(name_ok hn h.nm).1, betw_int h.c0 h.c1, betw_int h.e0 h.e1]
  have hl := h.len
  have ev : valsD (.tuple (r.vals.map .int)) = true := by
    show ((decide (1 ≤ (((r.vals.map PyData.int).length : Nat) : Int)) && decide ((((r.vals.map PyData.int).length : Nat) : Int) ≤ 4)) && (r.vals.map PyData.int).all (betw (-1000000000) 1000000000)) = true
    rw [List.length_map, decide_eq_true (by omega), decide_eq_true (by omega)]
    simp only [Bool.true_and, List.all_eq_true]
    intro d hd
    obtain ⟨v, hv, rfl⟩ := List.mem_map.mp hd
    exact betw_int (h.vs v hv).1 (h.vs v hv).2
  rw [ev]
  rfl
def okEnt : PyData → Bool
  | .tuple [.tuple [.str n, c, v, e], .bool b] => (rowD (.tuple [.str n, c, v, e]) == b) && decide (n.length ≤ 100) && !(tyN c == "str") && !(tyN v == "str") && !(tyN e == "str")
  | _ => false

end G1

set_option maxRecDepth 100000
set_option maxHeartbeats 1000000
namespace KX
open PySem PySem.Spec PyProof.Rows L2 RZ
/-! ### [e for x, y in zip(s, t)], s and t tuples, t the shorter one -/
theorem lc_zipS {K : PySem.W.Frag} {a b : Addr} {xs ys : List V} {g : TG} {tt : TT} {te : TE} {vs : List Nat} {σ : L2.St} {H1 : Hp} {D : Addr} {Qd : Hp → Prop} (hl : ys.length ≤ xs.length) (Pv : Nat → Hp → Prop) (h0 : Pv 0 (upd H1 D (.lst [])))
    (hq : ∀ i G, i ≤ ys.length → Pv i G → SqT K G a xs ∧ SqT K G b ys)
    (hs : ∀ (i : Nat) (x y : V) (T : Addr) (G : Hp), xs[i]? = some x → ys[i]? = some y → Pv i G → G T = none → g (.ref T) (wipe σ vs) (upd G T (.tup [x, y])) fun σ2 H2 => wipe σ2 vs = wipe σ vs ∧ tt σ2 H2 fun b H3 =>
      if b = true then te σ2 H3 fun y H4 => ∃ zs, H4 D = some (.lst zs) ∧ zs.length < sizeLine ∧ Pv (i + 1) (upd H4 D (.lst (zs ++ [y]))) else Pv (i + 1) H3) (hd : ∀ G, Pv ys.length G → Qd G) :
    ∃ W : Nat → Nat → Hp → Prop, (∃ m, W 0 m (upd H1 D (.lst []))) ∧ ∀ i m H, W i m H → ((ItzT K a b).stop i H ∧ Qd H) ∨ ((ItzT K a b).go i H ∧ ∃ Nx : Hp → Prop, (∀ H', Nx H' → ∃ m', m' < m ∧ W (i + 1) m' H') ∧ ∀ x H', (ItzT K a b).yld i H x H' →
      g x (wipe σ vs) H' fun σ2 H2 => wipe σ2 vs = wipe σ vs ∧ tt σ2 H2 fun b H3 => if b = true then te σ2 H3 fun y H4 => ∃ zs, H4 D = some (.lst zs) ∧ zs.length < sizeLine ∧ Nx (upd H4 D (.lst (zs ++ [y]))) else Nx H3) := by
  refine ⟨fun i m G => m = ys.length - i ∧ i ≤ ys.length ∧ Pv i G, ⟨ys.length, by simp, Nat.zero_le _, h0⟩, fun i m G hw => ?_⟩
  obtain ⟨rfl, hi, p⟩ := hw
  obtain ⟨qx, qy⟩ := hq i G hi p
  by_cases lt : i < ys.length
  · refine .inr ⟨⟨xs, ys, xs[i]'(by omega), ys[i], qx, qy, List.getElem?_eq_getElem (by omega), List.getElem?_eq_getElem lt⟩, Pv (i + 1), fun G' p' => ⟨ys.length - (i + 1), by omega, rfl, lt, p'⟩, fun v G' r => ?_⟩
    obtain ⟨T, x, y, rfl, nT, rfl, e1, e2⟩ := r
    exact hs i x y T G (e1 xs qx) (e2 ys qy) p nT
  · have e : i = ys.length := by omega
    subst e
    exact .inl ⟨⟨xs, ys, qx, qy, .inr (Nat.le_refl _)⟩, hd G p⟩
/-! ### except clauses, with names and without -/
/-- a clause: its class, the slot of its name if it has one, its suite -/
structure Cls where
  c : Value
  i : Option Nat
  ts : Addr → Value → Option Addr → TS
def endsAt (D : Ends) : Option Nat → Ends
  | none => D
  | some i => { nx := fun σ' G => D.nx (σ'.set i none) G, rt := D.rt, bk := fun σ' G => D.bk (σ'.set i none) G, ct := fun σ' G => D.ct (σ'.set i none) G }
def slotIn (σ : L2.St) (a : Addr) : Option Nat → L2.St
  | none => σ
  | some i => σ.set i (some (.ref a))
def wMix (K : PySem.W.Frag) (Wo : WX) (D : Ends) : List Cls → WX
  | [] => Wo
  | q :: r => fun cls d σ G => ∃ b, PySem.W.exmOne K cls q.c = some b ∧ (b = true → ∀ a, G a = none → q.ts a cls d (endsAt D q.i) (slotIn σ a q.i) G) ∧ (b = false → wMix K Wo D r cls d σ G)
inductive MixOk (X : Cx) : List ExceptHandler → List Cls → Prop
  | nil : MixOk X [] []
  | plain {x : Str} {c : Value} {ts : Addr → Value → Option Addr → TS} {b0 : Stmt} {bs : List Stmt} {p1 p2 : Pos} {hds : List ExceptHandler} {l : List Cls} (hc : Names X x c)
      (hb : ∀ (a : Addr) (oe : Obj) (cls : Value) (d : Option Addr) (pn : List (Addr × Obj)), Zc cls d oe → (∃ vs, oe.data = .fields vs) → PSs (X.suite a ((a, oe) :: pn)) (b0 :: bs) (ts a cls d)) (r : MixOk X hds l) :
      MixOk X (.ExceptHandler (some (.Name x p1)) none (b0 :: bs) p2 :: hds) (⟨c, none, ts⟩ :: l)
  | named {x n : Str} {i : Nat} {c : Value} {ts : Addr → Value → Option Addr → TS} {b0 : Stmt} {bs : List Stmt} {p1 p2 : Pos} {hds : List ExceptHandler} {l : List Cls} (hi : X.N[i]? = some n) (hn : X.env.kindOf n = some .local) (hc : Names X x c)
      (hb : ∀ (a : Addr) (oe : Obj) (cls : Value) (d : Option Addr) (pn : List (Addr × Obj)), Zc cls d oe → (∃ vs, oe.data = .fields vs) → PSs (X.suite a ((a, oe) :: pn)) (b0 :: bs) (ts a cls d)) (r : MixOk X hds l) :
      MixOk X (.ExceptHandler (some (.Name x p1)) (some n) (b0 :: bs) p2 :: hds) (⟨c, some i, ts⟩ :: l)
section
variable {X : Cx} {body : List Stmt} {hd0 : ExceptHandler} {hds : List ExceptHandler} {l : List Cls} {pos : Pos} {tb : WX → TS} {Wo : WX}
theorem ps_try_mix (hs : X.stack = X.env :: X.outer) (hf : X.env.frame = some X.env.locals) (nd : X.N.Nodup) (tk : Takes X Wo)
    (hb : ∀ (W : WX) (pn : List (Addr × Obj)) (xe : Value → Shared → Prop), Takes (X.tr pn xe) W → PassesOwn (model X.prog X.w) X.A X.env xe → PSs (X.tr pn xe) body (tb W))
    (hh : MixOk X (hd0 :: hds) l) : PS X (.Try body (hd0 :: hds) [] [] pos) (fun D σ G => tb (wMix X.K Wo D l) D σ G) := by
  refine ⟨fun pins s σ G D I h => wpAny_Try_except ?_⟩
  have ok := I.ok
  have frm : X.A.frames = some (X.env :: X.outer) := ok.frames.trans (by rw [hs])
  refine wpAny_mono ((hb (wMix X.K Wo D l) (X.pn ++ pins) (fun e t1 => wpAny (model X.prog X.w) X.A (noteFrame e X.env) (fun _ t2 => wpAny (model X.prog X.w) X.A (setFlight e none) (fun _ t3 =>
    wpAny (model X.prog X.w) X.A (handleBy e X.env (hd0 :: hds)) (SP X pins D) X.xe t3) X.xe t2) X.xe t1) (fun u s1 caught => ?_) PassesOwn.looking).run [] s σ G D (I.toTry _) h) (fun fl s1 fin => ?_) (fun _ _ z => z)
  · obtain ⟨ea, B0, sI, pins1, σ1, G1, cls, d, rfl, IT, nb, up, sky, na, os, ag, wish⟩ := caught
    have I1 : Inv X pins σ1 G1 sI := IT.ofTry ok
    refine Sky.land Zc.steady frm hf (show Sky B0 (X.env :: X.outer) ea (Zc cls d) X.env.locals s1.heap by rw [← hs]; exact sky) fun h3 lands up3 => ?_
    have I3 : Inv X pins σ1 G1 { s1 with heap := h3 } := I1.landed nb lands.1 (up.trans up3) os ag
    obtain ⟨oe3, fv3, at3, z3, dat3⟩ := lands.there
    have off : ea ∉ frs (X.env :: X.outer) := fun hm => by
      obtain ⟨_, o1, e1, nf⟩ := lands.2.2.1.mem hm
      rw [at3] at e1
      cases e1
      exact nf _ dat3
    have offL : ea ≠ X.env.locals := fun z => off (List.mem_filterMap.mpr ⟨X.env, List.mem_cons_self, by rw [hf, z]⟩)
    have offF : ea ∉ X.fs := fun hm => by
      obtain ⟨en, hen, q⟩ := List.mem_filterMap.mp hm
      exact off (List.mem_filterMap.mpr ⟨en, List.mem_cons_of_mem _ hen, q⟩)
    have S3 := I3.suite at3 dat3 na offL offF
    have looks : PySem.W.Looks (model X.prog X.w) h3 (typeOf (.ref ea)) cls := fun A Q E t k q => wpAny_typeOf_ref (k _ _ at3) (by rw [z3.1]; exact q)
    have reads : ∀ {x : Str} {c : Value} {p1 : Pos} {Q : Value → Shared → Prop} {E : Value → Shared → Prop}, Names X x c → Q c { s1 with heap := h3 } → wpAny (model X.prog X.w) (X.A.mark (some (.ref ea))) (eval (.Name x p1) X.env) Q E { s1 with heap := h3 } := fun {x c p1 Q E} hc q => by
      obtain ⟨hg, hdb, hm | ⟨hm, hv, hnn⟩⟩ := hc
      · exact ld_glob (X := X.suite ea ((ea, oe3) :: (X.pn ++ pins))) S3 hg hm q hdb
      · exact ld_blt (X := X.suite ea ((ea, oe3) :: (X.pn ++ pins))) S3 hg hm hv q hnn hdb
    have each : ∀ {hl : List ExceptHandler} {cl : List Cls}, MixOk X hl cl → wMix X.K Wo D cl cls d σ1 G1 → wpAny (model X.prog X.w) X.A (handleBy (.ref ea) X.env hl) (SP X pins D) X.xe { s1 with heap := h3 } := by
      intro hl cl mk
      induction mk with
      | nil =>
        intro wo
        refine wpAny_handleBy_nil ?_
        obtain ⟨_, _, _, ox, fx, T, _, _, atx, _, datx, tl1, _⟩ := id lands
        unfold PySem.passOn
        refine wpAny_bind (wpAny_field atx datx tl1 ?_)
        rw [if_neg (by simp)]
        have out : wpAny (model X.prog X.w) X.A (setFlight (.ref ea) X.env.frame) (fun _ t4 => wpAny (model X.prog X.w) X.A (throw (.ref ea) : Sem Flow) (SP X pins D) X.xe t4) X.xe { s1 with heap := h3 } := by
          rw [hf]
          refine HandSPX.setFlight_upZ lands fun h4 hx4 up4 => wpAny_throw (tk _ _ ⟨ea, B0, sI, pins, σ1, G1, cls, d, rfl, I1, nb, (up.trans up3).trans up4, .inr (.inr (by rw [hs]; exact hx4)), na, os, ag, wo⟩)
        first | exact wpAny_bind (wpAny_pure (wpAny_bind out)) | exact wpAny_bind out
      | @plain x c ts b0 bs p1 p2 hds2 l2 hc hb r ih =>
        intro wq
        obtain ⟨b, e1, yes, no⟩ := wq
        refine wpAny_handleBy_cons (codeAny_handlers_test (reads hc ((PySem.W.exm_one (M := model X.prog X.w) I3.kIn looks e1).here ?_))) (by intro q; cases q)
        cases b with
        | false => exact ih (no rfl)
        | true =>
          refine codeAny_handlers_suite (HandSPX.lands_againZ lands fun h4 lands4 up4 => ?_)
          obtain ⟨oe4, fv4, at4, z4, dat4⟩ := lands4.there
          have I4 : Inv X pins σ1 G1 { s1 with heap := h4 } := I1.landed nb lands4.1 ((up.trans up3).trans up4) os ag
          refine wpAny_mono ((hb ea oe4 cls d (X.pn ++ pins) z4 ⟨_, dat4⟩).run [] _ _ G1 _ (I4.suite at4 dat4 na offL offF) (yes rfl ea na)) (fun fl t6 fin => ?_) (fun _ _ z => z.elim)
          cases fl with
          | ret u =>
            obtain ⟨v6, σ6, G6, S6, r6, q6⟩ := fin
            exact ⟨v6, σ6, G6, S6.unsuite ok, r6, q6⟩
          | _ =>
            obtain ⟨σ6, G6, S6, q6⟩ := fin
            exact ⟨σ6, G6, S6.unsuite ok, q6⟩
      | @named x n i c ts b0 bs p1 p2 hds2 l2 hi hn hc hb r ih =>
        intro wq
        obtain ⟨b, e1, yes, no⟩ := wq
        refine wpAny_handleBy_cons (codeAny_handlers_test (reads hc ((PySem.W.exm_one (M := model X.prog X.w) I3.kIn looks e1).here ?_))) (by intro q; cases q)
        cases b with
        | false => exact ih (no rfl)
        | true =>
          refine codeAny_handlers_suite_as (HandSPX.lands_againZ lands fun h4 lands4 up4 => ?_)
          obtain ⟨oe4, fv4, at4, z4, dat4⟩ := lands4.there
          have I4 : Inv X pins σ1 G1 { s1 with heap := h4 } := I1.landed nb lands4.1 ((up.trans up3).trans up4) os ag
          refine store_ok (X := X.suite ea ((ea, oe4) :: (X.pn ++ pins))) (v := .ref ea) (I4.suite at4 dat4 na offL offF) nd hi (.inl hn) rfl (fun t5 S5 => ?_) (.inr hn)
          refine wpAny_mono ((hb ea oe4 cls d (X.pn ++ pins) z4 ⟨_, dat4⟩).run [] t5 _ G1 _ S5 (yes rfl ea na)) (fun fl t6 fin => ?_) (fun _ _ z => z.elim)
          have gone : ∀ {σ6 : L2.St} {G6 : Hp} {R : Shared → Prop}, Inv (X.suite ea ((ea, oe4) :: (X.pn ++ pins))) [] σ6 G6 t6 → (∀ t7, Inv X pins (σ6.set i none) G6 t7 → R t7) →
              wpAny (model X.prog X.w) X.A (do bindName X.env n .none; unbindBehindTheSuite X.env n p2) (fun _ t7 => R t7) X.xe t6 := fun {σ6 G6 R} S6 k => gone_ok (S6.unsuite ok) nd hi hn k
          cases fl with
          | ret u =>
            obtain ⟨v6, σ6, G6, S6, r6, q6⟩ := fin
            exact gone S6 fun t7 I7 => ⟨v6, _, _, I7, r6, q6⟩
          | _ =>
            obtain ⟨σ6, G6, S6, q6⟩ := fin
            exact gone S6 fun t7 I7 => ⟨_, _, I7, q6⟩
    exact each hh wish
  · cases fl with
    | next =>
      obtain ⟨σ6, G6, I6, q6⟩ := fin
      exact wpAny_execs_nil ⟨σ6, G6, I6.ofTry ok, q6⟩
    | ret u =>
      obtain ⟨v6, σ6, G6, I6, r6, q6⟩ := fin
      exact ⟨v6, σ6, G6, I6.ofTry ok, r6, q6⟩
    | _ =>
      obtain ⟨σ6, G6, I6, q6⟩ := fin
      exact ⟨σ6, G6, I6.ofTry ok, q6⟩
end
end KX

set_option maxRecDepth 100000
set_option maxHeartbeats 4000000
namespace G1
open PySem PySem.Spec PyProof.Rows L2 KX
abbrev sAsc : Stmt := topS 13
abbrev sOW : Stmt := topS 27
abbrev sHW : Stmt := topS 28
abbrev sIR : Stmt := topS 30
abbrev sNO : Stmt := topS 31
/-! ### is_ascending -/
def ltS (a b : Str) : Bool := decide (a.cps.toList < b.cps.toList)
def ascS : List Str → Bool
  | a :: b :: r => ltS a b && ascS (b :: r)
  | _ => true
theorem asc_pairs : ∀ ns : List Str, ((ns.zip (ns.drop 1)).map fun q => ltS q.1 q.2).all id = ascS ns
  | [] => rfl
  | [_] => rfl
  | a :: b :: r => by
    have ih := asc_pairs (b :: r)
    have e : ((a :: b :: r).zip ((a :: b :: r).drop 1)) = (a, b) :: ((b :: r).zip ((b :: r).drop 1)) := rfl
    rw [e, List.map_cons, List.all_cons, ih]
    rfl
theorem vals_strsD {H : Hp} : ∀ {xs : List V} {ns : List Str}, Dxs H xs (ns.map PyData.str) → xs = ns.map V.str
  | [], [], _ => rfl
  | x :: xs, n :: ns, .cons h t => by
    cases h
    rw [vals_strsD t]
    rfl
theorem sl_same {K : PySem.W.Frag} {H : Hp} {ds : List PyData} {Q : VK} {lo hi : Option Int} {v : V} (hd : Dx H v (.tuple ds)) (q : ∀ H' p, Same H H' → Dx H' (.ref p) (.tuple (KX.cutD ds lo hi)) → Q (.ref p) H') : rSlA K v lo hi H Q := by
  cases hd with
  | @tup a xs _ ea h =>
    refine ⟨a, xs, rfl, .inl (.inl ea), fun hw => q H a (Same.refl H) ?_, fun _ p np => q _ p (same_new np) (.tup upd_same ((dxs_cut h lo hi).up (same_new np)))⟩
    have : KX.cutD ds lo hi = ds := by
      unfold KX.cutD
      rw [← h.len, hw.1, hw.2, List.drop_zero, Nat.sub_zero, List.take_of_length_le (by rw [h.len]; exact Nat.le_refl _)]
    rw [this]
    exact .tup ea h
def spAsc : Sp := fun vs H Q _ => ∃ (v : V) (ns : List Str), vs = [v] ∧ Dx H v (.tuple (ns.map .str)) ∧ ns.length ≤ 1000 ∧ ∀ H', Same H H' → Q (.bl (ascS ns)) H'
theorem scAsc : FnScope ["names", "first", "second"] ["names"] (defScope sAsc) := ⟨rfl, rfl, rfl, by decide +kernel, rfl, by decide +kernel, by decide +kernel⟩
section
variable {P : Program} {w : World} {K : PySem.W.Frag} {mg : Str → Option Value} {base : Heap}
theorem ok_asc {f : Addr} {fd : FuncData} (B : Bl mg) (D : Df K mg "is_ascending" sAsc ["names"] f fd) : FnOk P w K mg base CX0 1 f fd ["names"] spAsc := by
  refine D.F.ok scAsc (fun vs H Q E h => ?_) (fun cdv A outer s H vs Q E hr h => ?_)
  · obtain ⟨v, ns, rfl, _⟩ := h
    rfl
  · obtain ⟨v, ns, rfl, hd, hl, q⟩ := h
    have nd := scAsc.nd
    refine ⟨_, pss_one (ps_ret (pe_callB (cr_all rfl) (by rfl) B.all (by decide +kernel) (pa_cons (pe_lc (own := [("first", 1), ("second", 2)]) (g := gTup K 2 (gCons (gName 1) (gCons (gName 2) gNil))) rfl nd (RZ.pi_zipA (by rfl) B.zip (pa_cons (pv 0) (pa_cons (pe_slice sl_tupA (pv 0) (po_some pe_int) po_none) pa_nil)))
        (blkOk_by (N := ["names", "first", "second"]) (sc := defScope sAsc) (by decide +kernel)) (fun _ _ _ _ _ => pg_tup rfl (pgs_cons (pg_name (i := 1) nd rfl (Or.inl rfl)) (pgs_cons (pg_name (i := 2) nd rfl (Or.inl rfl)) pgs_nil))) (fun _ _ _ _ _ => pts_nil)
        (fun _ _ _ _ _ => pe_cmpR op_lt_str (pv 1) (pv 2) (nomark _))) pa_nil))), ?_⟩
    refine ⟨v, rfl, v, rfl, 1, rfl, ?_⟩
    refine (show ∀ {σ : L2.St} {H : Hp} {Q : Option Int → Hp → Prop}, Q none H → tNoPart σ H Q from fun h => h) (sl_same hd fun H2 p s2 dp => ?_)
    rw [show (1 : Int) = ((1 : Nat) : Int) from rfl, cutD_from, ← List.map_drop] at dp
    cases hd with
    | @tup a xs _ ea h =>
    cases dp with
    | @tup _ ys _ ep hp =>
    have exs := vals_strsD h
    have eys := vals_strsD hp
    have lx : xs.length = ns.length := by rw [exs, List.length_map]
    have ly : ys.length = ns.length - 1 := by rw [eys, List.length_map, List.length_drop]
    refine ⟨a, p, xs, ys, rfl, .inr ⟨.inl (.inl (s2 _ _ ea)), .inl (.inl ep), fun D nD => ?_⟩⟩
    refine lc_zipS (xs := xs) (ys := ys) (by omega) (fun i G => Same H2 G ∧ G D = some (.lst ((((ns.zip (ns.drop 1)).take i).map fun q => ltS q.1 q.2).map V.bl))) ⟨same_new nD, upd_same⟩ (fun i G _ hG => ⟨.inl (.inl (hG.1 _ _ (s2 _ _ ea))), .inl (.inl (hG.1 _ _ ep))⟩) (fun i x y T G hx hy hG nT => ?_) (fun G hG => ?_)
    · obtain ⟨sG, eD⟩ := hG
      rw [exs, List.getElem?_map] at hx
      rw [eys, List.getElem?_map] at hy
      obtain ⟨n1, e1, rfl⟩ := Option.map_eq_some_iff.mp hx
      obtain ⟨n2, e2, rfl⟩ := Option.map_eq_some_iff.mp hy
      have ez : (ns.zip (ns.drop 1))[i]? = some (n1, n2) := by rw [List.getElem?_zip_eq_some]; exact ⟨e1, e2⟩
      have sT : Same G (upd G T (.tup [.str n1, .str n2])) := same_new nT
      refine ⟨T, _, rfl, .inl (.inl upd_same), rfl, _, _, rfl, _, _, rfl, rfl, rfl, ?_⟩
      refine ⟨.str n1, rfl, .str n2, rfl, n1, n2, rfl, rfl, _, sT _ _ eD, ?_, same_at (sG.trans sT) nD, ?_⟩
      · rw [List.length_map, List.length_map, List.length_take, List.length_zip, List.length_drop]
        have hb : (1000 : Nat) < sizeLine := by decide
        omega
      · rw [upd_same, List.take_add_one, ez, List.map_append, List.map_append]
        rfl
    · obtain ⟨sG, eD⟩ := hG
      rw [List.take_of_length_le (by rw [List.length_zip, List.length_drop]; omega)] at eD
      refine ⟨D, _, rfl, .inl (.inl eD), ?_⟩
      rw [asc_pairs]
      exact q G (s2.trans sG)
/-! ### names_of -/
def spNO : Sp := fun vs H Q _ => ∃ (v : V) (rs : List Rec), vs = [v] ∧ Dx H v (.tuple (rs.map encR)) ∧ rs.length ≤ 1000 ∧ ∀ H' p, Same H H' → Dx H' (.ref p) (.tuple ((rs.map (·.nm)).map .str)) → Q (.ref p) H'
theorem scNO : FnScope ["rows", "row"] ["rows"] (defScope sNO) := ⟨rfl, rfl, rfl, by decide +kernel, rfl, by decide +kernel, by decide +kernel⟩
theorem row_dx {H : Hp} {v : V} {r : Rec} (h : Dx H v (encR r)) : ∃ a z vs, v = .ref a ∧ H a = some (.tup [.str r.nm, .int r.cost, .ref z, .int r.exp]) ∧ H z = some (.tup vs) ∧ vs = r.vals.map V.int := by
  unfold encR at h
  cases h with
  | @tup a xs _ ea h =>
    match xs, h, ea with
    | [v1, v2, v3, v4], .cons h1 (.cons h2 (.cons h3 (.cons h4 .nil))), ea =>
      cases h1
      cases h2
      cases h4
      cases h3 with
      | @tup z vs _ ez hz =>
        refine ⟨a, z, vs, rfl, ea, ez, ?_⟩
        have : ∀ {xs : List V} {ns : List Int}, Dxs H xs (ns.map PyData.int) → xs = ns.map V.int := fun {xs ns} => by
          induction ns generalizing xs with
          | nil => intro h; cases h; rfl
          | cons n ns ih =>
            intro h
            cases h with
            | cons h t =>
              cases h
              rw [ih t]
              rfl
        exact this hz
theorem ok_no {f : Addr} {fd : FuncData} (B : Bl mg) (cn : ∃ t, mg "NAME" = some (.int 0 t)) (D : Df K mg "names_of" sNO ["rows"] f fd) : FnOk P w K mg base CX0 1 f fd ["rows"] spNO := by
  obtain ⟨tn, mn⟩ := cn
  refine D.F.ok scNO (fun vs H Q E h => ?_) (fun cdv A outer s H vs Q E hr h => ?_)
  · obtain ⟨v, ns, rfl, _⟩ := h
    rfl
  · obtain ⟨v, rs, rfl, hd, hl, q⟩ := h
    have nd := scNO.nd
    refine ⟨_, pss_one (ps_ret (pe_callTy call_tuple_of (by rfl) B.tuple (by decide +kernel) (pa_cons (pe_lc (own := [("row", 1)]) (g := gName 1) rfl nd (pi_tup (pv 0))
        (blkOk_by (N := ["rows", "row"]) (sc := defScope sNO) (by decide +kernel)) (fun _ _ _ _ _ => pg_name (i := 1) nd rfl (Or.inl rfl)) (fun _ _ _ _ _ => pts_nil)
        (fun _ _ _ _ _ => pe_ix (r := rIxT K) ix_tup (pv 1) (pe_glob (v := .int 0) (by rfl) mn ⟨_, rfl⟩) (fun _ _ => rfl))) pa_nil))), ?_⟩
    cases hd with
    | @tup a xs _ ea h =>
    have lx := h.len
    rw [List.length_map] at lx
    refine ⟨.ref a, rfl, a, rfl, ⟨_, .inl (.inl ea)⟩, fun D nD => ?_⟩
    refine lc_tup (xs := xs) (fun i G => Same H G ∧ G D = some (.lst (((rs.take i).map (·.nm)).map V.str))) ⟨same_new nD, upd_same⟩ (fun i G _ hG => .inl (.inl (hG.1 _ _ ea))) (fun i x G hx hG => ?_) (fun G hG => ?_)
    · obtain ⟨sG, eD⟩ := hG
      obtain ⟨d, ed, hdx⟩ := h.get' hx
      rw [List.getElem?_map] at ed
      obtain ⟨r, er, rfl⟩ := Option.map_eq_some_iff.mp ed
      obtain ⟨b, z, vs, rfl, eb, _⟩ := row_dx (hdx.up sG)
      refine ⟨rfl, .ref b, rfl, b, _, 0, .str r.nm, rfl, rfl, .inl (.inl eb), rfl, _, eD, ?_, same_at sG nD, ?_⟩
      · rw [List.length_map, List.length_map, List.length_take]
        have hb : (1000 : Nat) < sizeLine := by decide
        omega
      · rw [upd_same, List.take_add_one, er, List.map_append, List.map_append]
        rfl
    · obtain ⟨sG, eD⟩ := hG
      rw [List.take_of_length_le (by omega)] at eD
      refine ⟨D, _, rfl, .inl ⟨.inl (.inl eD), fun p np => ?_⟩⟩
      have : ∀ (ns : List Str) (G : Hp), Dxs G (ns.map V.str) (ns.map PyData.str) := fun ns G => by
        induction ns with
        | nil => exact .nil
        | cons n ns ih => exact .cons (.str n) ih
      exact q _ p (sG.trans (same_new np)) (.tup upd_same (this _ _))
/-! ### have_one_width, for rows of one width -/
theorem call_lenK {X : Cx} {K : PySem.W.Frag} (h : X.K = K) : CallR X (.builtin "len") (fun xs H Q => ∃ p ys, xs = [V.ref p] ∧ (SqL K H p ys ∨ SqT K H p ys) ∧ Q (.int (ys.length : Int)) H) := by
  subst h
  exact call_len_seq
theorem scHW : FnScope ["rows", "row"] ["rows"] (defScope sHW) := ⟨rfl, rfl, rfl, by decide +kernel, rfl, by decide +kernel, by decide +kernel⟩
/-- the rows have one width -/
def oneW : List Rec → Bool
  | [] => true
  | r :: rs => (r :: rs).all fun e => decide (e.vals.length = r.vals.length)
def spHW : Sp := fun vs H Q _ => ∃ (v : V) (rs : List Rec), vs = [v] ∧ Dx H v (.tuple (rs.map encR)) ∧ rs.length ≤ 1000 ∧ ∀ H', Same H H' → Q (.bl (oneW rs)) H'
theorem ok_hw {f : Addr} {fd : FuncData} (B : Bl mg) (cv : ∃ t, mg "VALUES" = some (.int 2 t)) (D : Df K mg "have_one_width" sHW ["rows"] f fd) : FnOk P w K mg base CX0 1 f fd ["rows"] spHW := by
  obtain ⟨tv, mv⟩ := cv
  refine D.F.ok scHW (fun vs H Q E h => ?_) (fun cdv A outer s H vs Q E hr h => ?_)
  · obtain ⟨v, rs, rfl, _⟩ := h
    rfl
  · obtain ⟨v, rs, rfl, hd, hl, q⟩ := h
    have nd := scHW.nd
    refine ⟨_, pss_one (ps_ret (pe_callB (cr_all rfl) (by rfl) B.all (by decide +kernel) (pa_cons (pe_lc (own := [("row", 1)]) (g := gName 1) rfl nd (pi_tup (pv 0))
        (blkOk_by (N := ["rows", "row"]) (sc := defScope sHW) (by decide +kernel)) (fun _ _ _ _ _ => pg_name (i := 1) nd rfl (Or.inl rfl)) (fun _ _ _ _ _ => pts_nil)
        (fun _ _ _ _ _ => pe_cmpR op_eq (pe_callB (call_lenK (K := K) rfl) (by rfl) B.len PySem.boot_len (pa_cons (pe_ix (r := rIxT K) ix_tup (pv 1) (pe_glob (v := .int 2) (by rfl) mv ⟨_, rfl⟩) (fun _ _ => rfl)) pa_nil))
          (pe_callB (call_lenK (K := K) rfl) (by rfl) B.len PySem.boot_len (pa_cons (pe_ix (r := rIxT K) ix_tup (pe_ix (r := rIxT K) ix_tup (pv 0) pe_int (fun _ _ => rfl)) (pe_glob (v := .int 2) (by rfl) mv ⟨_, rfl⟩) (fun _ _ => rfl)) pa_nil)) (nomark _))) pa_nil))), ?_⟩
    cases hd with
    | @tup a xs _ ea h =>
    have lx := h.len
    rw [List.length_map] at lx
    refine ⟨.ref a, rfl, a, rfl, ⟨_, .inl (.inl ea)⟩, fun D nD => ?_⟩
    refine lc_tup (xs := xs) (fun i G => Same H G ∧ G D = some (.lst (((rs.take i).map fun r => decide (r.vals.length = (rs.headD ⟨"", 0, [], 0⟩).vals.length)).map V.bl))) ⟨same_new nD, upd_same⟩ (fun i G _ hG => .inl (.inl (hG.1 _ _ ea))) (fun i x G hx hG => ?_) (fun G hG => ?_)
    · obtain ⟨sG, eD⟩ := hG
      have hi : i < xs.length := (List.getElem?_eq_some_iff.mp hx).1
      obtain ⟨d, ed, hdx⟩ := h.get' hx
      rw [List.getElem?_map] at ed
      obtain ⟨r, er, rfl⟩ := Option.map_eq_some_iff.mp ed
      obtain ⟨b, z, vs, rfl, eb, ez, ev⟩ := row_dx (hdx.up sG)
      have h0 : 0 < rs.length := by omega
      obtain ⟨x0, e0, hd0⟩ := h.get (i := 0) (d := encR rs[0]) (by rw [List.getElem?_map, List.getElem?_eq_getElem h0]; rfl)
      obtain ⟨b0, z0, vs0, rfl, eb0, ez0, ev0⟩ := row_dx (hd0.up sG)
      have eh : rs.headD ⟨"", 0, [], 0⟩ = rs[0] := by
        cases rs with
        | nil => exact absurd h0 (by simp)
        | cons r rs => rfl
      refine ⟨rfl, .ref b, rfl, b, _, 2, .ref z, rfl, rfl, .inl (.inl eb), rfl, z, vs, rfl, .inr (.inl (.inl ez)), ?_⟩
      refine ⟨.ref a, rfl, a, xs, 0, .ref b0, rfl, rfl, .inl (.inl (sG _ _ ea)), atI_nat (j := 0) e0, b0, _, 2, .ref z0, rfl, rfl, .inl (.inl eb0), rfl, z0, vs0, rfl, .inr (.inl (.inl ez0)), rfl, _, eD, ?_, same_at sG nD, ?_⟩
      · rw [List.length_map, List.length_map, List.length_take]
        have hb : (1000 : Nat) < sizeLine := by decide
        omega
      · rw [upd_same, List.take_add_one, er, List.map_append, List.map_append, eh, ev, ev0, List.length_map, List.length_map]
        have eb : decide (V.int (r.vals.length : Int) = V.int (rs[0].vals.length : Int)) = decide (r.vals.length = rs[0].vals.length) := by
          by_cases z : r.vals.length = rs[0].vals.length
          · rw [decide_eq_true z, decide_eq_true (by rw [z])]
          · rw [decide_eq_false z, decide_eq_false (fun e => z (by have := V.int.inj e; omega))]
        rw [eb]
        rfl
    · obtain ⟨sG, eD⟩ := hG
      rw [List.take_of_length_le (by omega)] at eD
      refine ⟨D, _, rfl, .inl (.inl eD), ?_⟩
      have : (rs.map fun r => decide (r.vals.length = (rs.headD ⟨"", 0, [], 0⟩).vals.length)).all id = oneW rs := by
        rw [List.all_map]
        cases rs with
        | nil => rfl
        | cons r rs => rfl
      rw [this]
      exact q G sG
end
end G1

set_option maxRecDepth 100000
set_option maxHeartbeats 4000000
namespace G1
open PySem PySem.Spec PyProof.Rows L2 KX
/-! ### are_rows_of_one_width, is_rowset: any data -/
def intD' : PyData → Option Int
  | .int i => some i
  | _ => none
def recD : PyData → Rec
  | .tuple [.str n, .int c, .tuple vs, .int e] => ⟨n, c, vs.filterMap intD', e⟩
  | _ => ⟨"", 0, [], 0⟩
theorem ints_back : ∀ ns : List Int, (ns.map PyData.int).filterMap intD' = ns
  | [] => rfl
  | n :: ns => by
    rw [List.map_cons, List.filterMap_cons]
    show n :: (ns.map PyData.int).filterMap intD' = n :: ns
    rw [ints_back ns]
theorem recD_enc (r : Rec) : recD (encR r) = r := by
  show (⟨r.nm, r.cost, (r.vals.map PyData.int).filterMap intD', r.exp⟩ : Rec) = r
  rw [ints_back]
theorem ints_rec {lo hi : Int} : ∀ {ds : List PyData}, ds.all (betw lo hi) = true → ∃ ns : List Int, ds = ns.map .int
  | [], _ => ⟨[], rfl⟩
  | d :: ds, h => by
    rw [List.all_cons, Bool.and_eq_true] at h
    obtain ⟨ns, e⟩ := ints_rec h.2
    cases d with
    | int i => exact ⟨i :: ns, by rw [e]; rfl⟩
    | _ => exact absurd h.1 (by simp [betw])
theorem row_rec {d : PyData} (h : rowD d = true) : ∃ r, d = encR r := by
  match d, h with
  | .tuple [n, c, vs, e], h =>
    change (nameD n && betw 1 1000000 c && (valsD vs && betw 1 1000000000 e)) = true at h
    simp only [Bool.and_eq_true] at h
    obtain ⟨⟨h1, h2⟩, h3, h4⟩ := h
    cases n with
    | str n =>
      cases c with
      | int c =>
        cases e with
        | int e =>
          cases vs with
          | tuple ws =>
            simp only [valsD, Bool.and_eq_true] at h3
            obtain ⟨ns, rfl⟩ := ints_rec h3.2
            exact ⟨⟨n, c, ns, e⟩, rfl⟩
          | _ => simp [valsD] at h3
        | _ => simp [betw] at h4
      | _ => simp [betw] at h2
    | _ => simp [nameD] at h1
theorem rows_rec : ∀ {ds : List PyData}, ds.all rowD = true → ∃ rs : List Rec, ds = rs.map encR
  | [], _ => ⟨[], rfl⟩
  | d :: ds, h => by
    rw [List.all_cons, Bool.and_eq_true] at h
    obtain ⟨rs, e⟩ := rows_rec h.2
    obtain ⟨r, rfl⟩ := row_rec h.1
    exact ⟨r :: rs, by rw [e]; rfl⟩
theorem recs_back (rs : List Rec) : (rs.map encR).map recD = rs := by
  rw [List.map_map]
  have : recD ∘ encR = id := funext recD_enc
  rw [this, List.map_id]
def rowsD : PyData → Bool
  | .tuple ds => ds.all rowD && oneW (ds.map recD)
  | _ => false
def rowsetD : PyData → Bool
  | .tuple ds => decide (ds.length ≤ 60) && (rowsD (.tuple ds) && ascS ((ds.map recD).map (·.nm)))
  | _ => false
/-- its texts are not too long, it has not too many items -/
def SmR (d : PyData) : Prop := ∀ ds, d = .tuple ds → ds.length ≤ 1000 ∧ ∀ e ∈ ds, smA e
def spOW : Sp := fun vs H Q _ => ∃ (v : V) (d : PyData), vs = [v] ∧ Dx H v d ∧ SmR d ∧ ∀ H', Same H H' → Q (.bl (rowsD d)) H'
def spIR : Sp := fun vs H Q _ => ∃ (v : V) (d : PyData), vs = [v] ∧ Dx H v d ∧ SmR d ∧ ∀ H', Same H H' → Q (.bl (rowsetD d)) H'
theorem scOW : FnScope ["value", "row"] ["value"] (defScope sOW) := ⟨rfl, rfl, rfl, by decide +kernel, rfl, by decide +kernel, by decide +kernel⟩
theorem scIR : FnScope ["value"] ["value"] (defScope sIR) := ⟨rfl, rfl, rfl, by decide +kernel, rfl, by decide +kernel, by decide +kernel⟩
theorem isa_tupleT {ds : List PyData} : isaN "tuple" (.tuple ds) = true := isa_tuple
section
variable {P : Program} {w : World} {K : PySem.W.Frag} {mg : Str → Option Value} {base : Heap}
theorem ok_ow {k : Nat} {f fR fW : Addr} {fd fdR fdW : FuncData} (B : Bl mg) (D : Df K mg "are_rows_of_one_width" sOW ["value"] f fd) (DR : Df K mg "is_row" sRow ["value"] fR fdR) (DW : Df K mg "have_one_width" sHW ["rows"] fW fdW)
    (GR : FnOk P w K mg base CX0 k fR fdR ["value"] spRow) (GW : FnOk P w K mg base CX0 k fW fdW ["rows"] spHW) : FnOk P w K mg base CX0 (k + 1) f fd ["value"] spOW := by
  refine D.F.ok scOW (fun vs H Q E h => ?_) (fun cdv A outer s H vs Q E hr h => ?_)
  · obtain ⟨v, d, rfl, _⟩ := h
    rfl
  · obtain ⟨v, d, rfl, hd, hsm, q⟩ := h
    have nd := scOW.nd
    refine ⟨_, pss_cons (ps_if (PW.pt (pw_or (pt_not (pt_val (pe_isD (T := "tuple") (x := "tuple") (by decide +kernel) B.isi B.tuple (by decide +kernel) (pv 0) (by rfl) (by rfl))))
        (pw_or1 (pt_not (pt_val (pe_callB (cr_all rfl) (by rfl) B.all (by decide +kernel) (pa_cons (pe_lc (own := [("row", 1)]) (g := gName 1) rfl nd (pi_tup (pv 0)) (blkOk_by (N := ["value", "row"]) (sc := defScope sOW) (by decide +kernel))
          (fun _ _ _ _ _ => pg_name (i := 1) nd rfl (Or.inl rfl)) (fun _ _ _ _ _ => pts_nil) (fun _ _ _ _ _ => pe_call GR hr (by rfl) DR.g DR.F.kp DR.b .nil pass0 (pa_cons (pv 1) pa_nil))) pa_nil))))))) (pss_one (ps_ret pe_bl)) pss_nil)
      (pss_one (ps_ret (pe_call GW hr (by rfl) DW.g DW.F.kp DW.b .nil pass0 (pa_cons (pv 0) pa_nil)))), ?_⟩
    refine ⟨v, rfl, rfl, d, hd, _, rfl, ?_⟩
    rw [isa_tuple]
    cases d with
    | tuple ds =>
      obtain ⟨hl, sm⟩ := hsm ds rfl
      refine iteF ?_
      obtain ⟨a, xs, rfl, ea, hx⟩ : ∃ a xs, v = .ref a ∧ H a = some (.tup xs) ∧ Dxs H xs ds := by
        cases hd with
        | @tup a xs _ ea h => exact ⟨a, xs, rfl, ea, h⟩
      have lx := hx.len
      refine ⟨.ref a, rfl, a, rfl, ⟨_, .inl (.inl ea)⟩, fun L nL => ?_⟩
      refine lc_tup (xs := xs) (fun i G => Same H G ∧ G L = some (.lst (((ds.take i).map rowD).map V.bl))) ⟨same_new nL, upd_same⟩ (fun i G _ hG => .inl (.inl (hG.1 _ _ ea))) (fun i x G hx2 hG => ?_) (fun G hG => ?_)
      · obtain ⟨sG, eL⟩ := hG
        obtain ⟨e, ee, hxe⟩ := hx.get' hx2
        have hi : i < ds.length := (List.getElem?_eq_some_iff.mp ee).1
        refine ⟨rfl, x, rfl, x, e, rfl, hxe.up sG, sm e (List.mem_of_getElem? ee), fun G2 s2 => ⟨_, s2 _ _ eL, ?_, same_at (sG.trans s2) nL, ?_⟩⟩
        · rw [List.length_map, List.length_map, List.length_take]
          have hb : (1000 : Nat) < sizeLine := by decide
          omega
        · rw [upd_same, List.take_add_one, ee]
          simp
      · obtain ⟨sG, eL⟩ := hG
        rw [List.take_of_length_le (by omega)] at eL
        refine ⟨L, _, rfl, .inl (.inl eL), _, rfl, ?_⟩
        have e1 : (ds.map rowD).all id = ds.all rowD := by rw [List.all_map]; rfl
        rw [e1]
        change ∀ H', Same H H' → Q (.bl (ds.all rowD && oneW (ds.map recD))) H' at q
        cases er : ds.all rowD with
        | false =>
          rw [er] at q
          exact iteT (q G sG)
        | true =>
          rw [er] at q
          obtain ⟨rs, rfl⟩ := rows_rec er
          rw [recs_back] at q
          rw [List.length_map] at hl
          exact iteF ⟨.ref a, rfl, .ref a, rs, rfl, (Dx.tup ea hx).up sG, hl, fun G2 s2 => q G2 (sG.trans s2)⟩
    | _ => exact iteT (iteT (q H (Same.refl H)))
theorem ok_ir {k : Nat} {f fT fO fA fN : Addr} {fd fdT fdO fdA fdN : FuncData} (B : Bl mg) (cr : ∃ t, mg "MAX_ROWS" = some (.int 60 t)) (D : Df K mg "is_rowset" sIR ["value"] f fd) (DT : Df K mg "is_tuple_between" sTupB ["value", "low", "high"] fT fdT) (DO : Df K mg "are_rows_of_one_width" sOW ["value"] fO fdO)
    (DA : Df K mg "is_ascending" sAsc ["names"] fA fdA) (DN : Df K mg "names_of" sNO ["rows"] fN fdN) (GT : FnOk P w K mg base CX0 k fT fdT ["value", "low", "high"] spTupB) (GO : FnOk P w K mg base CX0 k fO fdO ["value"] spOW) (GA : FnOk P w K mg base CX0 k fA fdA ["names"] spAsc) (GN : FnOk P w K mg base CX0 k fN fdN ["rows"] spNO) :
    FnOk P w K mg base CX0 (k + 1) f fd ["value"] spIR := by
  obtain ⟨tr, mr⟩ := cr
  refine D.F.ok scIR (fun vs H Q E h => ?_) (fun cdv A outer s H vs Q E hr h => ?_)
  · obtain ⟨v, d, rfl, _⟩ := h
    rfl
  · obtain ⟨v, d, rfl, hd, hsm, q⟩ := h
    refine ⟨_, pss_cons (ps_if (PW.pt (pw_or (pt_not (pt_val (pe_call GT hr (by rfl) DT.g DT.F.kp DT.b .nil pass0 (pa_cons (pv 0) (pa_cons pe_int (pa_cons (pe_glob (v := .int 60) (by rfl) mr ⟨_, rfl⟩) pa_nil))))))
        (pw_or1 (pt_not (pt_val (pe_call GO hr (by rfl) DO.g DO.F.kp DO.b .nil pass0 (pa_cons (pv 0) pa_nil))))))) (pss_one (ps_ret pe_bl)) pss_nil)
      (pss_one (ps_ret (pe_call GA hr (by rfl) DA.g DA.F.kp DA.b .nil pass0 (pa_cons (pe_call GN hr (by rfl) DN.g DN.F.kp DN.b .nil pass0 (pa_cons (pv 0) pa_nil)) pa_nil)))), ?_⟩
    refine ⟨v, rfl, v, d, 0, 60, rfl, hd, _, rfl, ?_⟩
    cases d with
    | tuple ds =>
      have et : tupB 0 60 (.tuple ds) = (decide ((0 : Int) ≤ (ds.length : Int)) && decide ((ds.length : Int) ≤ 60)) := rfl
      change ∀ H', Same H H' → Q (.bl (decide (ds.length ≤ 60) && (rowsD (.tuple ds) && ascS ((ds.map recD).map (·.nm))))) H' at q
      rw [et, decide_eq_true (by omega)]
      by_cases h60 : ds.length ≤ 60
      · rw [decide_eq_true h60] at q
        rw [decide_eq_true (show (ds.length : Int) ≤ 60 by omega)]
        refine iteF ⟨v, rfl, v, _, rfl, hd, hsm, fun G sG => ⟨_, rfl, ?_⟩⟩
        cases er : rowsD (.tuple ds) with
        | false =>
          rw [er] at q
          exact iteT (q G sG)
        | true =>
          rw [er] at q
          have ea : ds.all rowD = true := by
            have : (ds.all rowD && oneW (ds.map recD)) = true := er
            rw [Bool.and_eq_true] at this
            exact this.1
          obtain ⟨rs, rfl⟩ := rows_rec ea
          rw [recs_back] at q
          rw [List.length_map] at h60
          refine iteF ⟨v, rfl, v, rs, rfl, hd.up sG, by omega, fun G2 p s2 hp => ?_⟩
          exact ⟨.ref p, rs.map (fun r : Rec => r.nm), rfl, hp, by rw [List.length_map]; omega, fun G3 s3 => q G3 ((sG.trans s2).trans s3)⟩
      · rw [decide_eq_false h60] at q
        rw [decide_eq_false (show ¬ (ds.length : Int) ≤ 60 by omega)]
        exact iteT (iteT (q H (Same.refl H)))
    | _ => exact iteT (iteT (q H (Same.refl H)))
end
end G1

set_option maxRecDepth 100000
set_option maxHeartbeats 1000000
/-! KeyError as a base of an own exception class: __new__ is LookupError's, __init__ its own -/
namespace KX
open PySem PySem.F PySem.Spec PyProof.Rows L2 HandSPX
def kyTl : List Value := [.type "KeyError", .type "LookupError", .type "Exception", .type "BaseException", .type "object"]
/-- what is known of the __init__ of a built-in exception class -/
structure IniB (B iniI : String) : Prop where
  slot : Slot B "__init__" iniI
  ent : entryFor table iniI = some Builtin.«BaseException.__init__»
  spl : splitId iniI = some (B, "__init__")
  knd : builtinKind iniI = some .slot
  row : Manifest.signature? iniI = some ⟨.positional, "*", B, .self, [⟨"args", .varPos, false⟩]⟩
theorem kyIni : IniB "KeyError" "KeyError.__init__" :=
  ⟨.of (owner := "KeyError") (n := "__init__") (by rw [typeLookup_type, builtinLookup_eq_fast]; kernel_rfl) (by decide +kernel) (by decide +kernel) (by decide +kernel) (by first | exact .inl (by decide +kernel) | exact .inr (by decide +kernel)) (by rw [isSubtype_type]; kernel_rfl),
   entryFor_alias (id' := "BaseException.__init__") (by rw [fastTable_eq_tree]; kernel_rfl) (by first | rfl | decide +kernel) (by decide +kernel) (by rw [fastTable_eq_tree]; kernel_rfl), by kernel_rfl, by kernel_rfl, by kernel_rfl⟩
theorem kyStore : StoreFacts "KeyError" kyTl "object.__setattr__" "object" := by
  have i := PySem.F.store_IndexError
  refine ⟨by kernel_rfl, ?_, i.entry, i.kind, i.split, by decide +kernel, i.args, fun z => by kernel_rfl⟩
  exact .of (owner := "object") (n := "__setattr__") (by rw [typeLookup_type, builtinLookup_eq_fast]; kernel_rfl) (by decide +kernel) (by decide +kernel) (by decide +kernel) (by first | exact .inl (by decide +kernel) | exact .inr (by decide +kernel)) (by rw [isSubtype_type]; kernel_rfl)
/-- of the class at C, whose tail is bm: the built-in class B makes it, D's __init__ fits it -/
structure Tl (B D : String) (bm : List Value) : Prop where
  b : bm.contains (.type B) = true
  d : bm.contains (.type D) = true
  a : bm.contains (.type "AttributeError") = false
  n : bm.contains (.type "NameError") = false
section
variable {M : Model} {prog : Program} {w : World} {A : Around} {E : Value → Shared → Prop} {R : Result → Shared → Prop} {hp : Heap} {g : Array GenState} {dr : Drawn} {tk : Nat} {os : OsState}
variable {nm q : Str} {C N : Addr} {bs bm bB : List Value} {hdct : Bool} {sn : List Str} {sub : List Value} {ab : Bool} {col : Option Bool} {dd : Option Addr} {k0 k1 k2 k3 k5 : Option Value} {B D newI oldI iniI : String} {rest : List Value}
theorem new_ok2 (L : ExcBaseFacts B newI oldI bB) (T : Tl B D bm) {Q : Unit → Shared → Prop} (at' : hp.get? C = some (excClassObj nm q C N bs bm hdct sn sub ab col dd k0 k1 k2 k3 k5 newI)) (k : Q () ⟨hp, g, dr, tk, os⟩) :
    wpAny M A (checkBuiltinCall newI ⟨.ref C :: rest, []⟩) Q E ⟨hp, g, dr, tk, os⟩ := by
  have inB : (Value.ref C :: bm).contains (.type B) = true := by rw [List.contains_cons, T.b, Bool.or_true]
  have star := L.noStar
  simp only [checkBuiltinCall, L.newKind, L.newSplit, L.newRow]
  repeat (first | refine wpAny_loadPart_at at' ?_ | (refine wpAny_isSubtype_exc at' ?_; rw [inB]) | refine wpAny_staticBase_exc at' ?_ | refine wpAny_madeBy_exc at' ?_ | simp only [bne_self_eq_false, Bool.false_eq_true, if_false] | wp_step)
  exact k
theorem ini_ok2 (J : IniB D iniI) (nst : (D != "*") = true) (T : Tl B D bm) {e : Addr} {oe : Obj} {Q : Unit → Shared → Prop} (at' : hp.get? C = some (excClassObj nm q C N bs bm hdct sn sub ab col dd k0 k1 k2 k3 k5 newI)) (ae : hp.get? e = some oe) (ce : oe.cls = .ref C) (k : Q () ⟨hp, g, dr, tk, os⟩) :
    wpAny M A (checkBuiltinCall iniI ⟨.ref e :: rest, []⟩) Q E ⟨hp, g, dr, tk, os⟩ := by
  have inD : (Value.ref C :: bm).contains (.type D) = true := by rw [List.contains_cons, T.d, Bool.or_true]
  simp only [checkBuiltinCall, J.knd, J.spl, J.row]
  repeat (first | (with_reducible refine wpAny_loadPart_at ae ?_; rw [ce]) | with_reducible refine wpAny_loadPart_at at' ?_ | (with_reducible refine wpAny_isSubtype_exc at' ?_; rw [inD]) | wp_step)
  refine wpAny_onRaise ?_
  rw [show ∀ (x y : String) (m : Nat), Bind.check ⟨.positional, "*", D, .self, [⟨"args", .varPos, false⟩]⟩ x y m (List.map (fun z => z.fst) ({ pos := Value.ref e :: rest } : Args).kw) = pure () from fun x y m => check_star_args _ _ _ _ _ _]
  exact wpAny_pure k
theorem made2 (L : ExcBaseFacts B newI oldI bB) (T : Tl B D bm) (at' : hp.get? C = some (excClassObj nm q C N bs bm hdct sn sub ab col dd k0 k1 k2 k3 k5 newI))
    (k : R (.ok (.ret (.ref (hp.objs.size + 1)))) ⟨(hp.push (W.kdv_tup rest)).push (excO C hp.objs.size), g, dr, tk, os⟩) (hl : rest.length ≤ sizeLine) : codeAny (model prog w) A (.builtin newI ⟨.ref C :: rest, []⟩) R ⟨hp, g, dr, tk, os⟩ := by
  have en := L.ends
  have inB : (Value.ref C :: bm).contains (.type B) = true := by rw [List.contains_cons, T.b, Bool.or_true]
  have noA : (Value.ref C :: bm).contains (.type "AttributeError") = false := by rw [List.contains_cons, T.a]; rfl
  have noN : (Value.ref C :: bm).contains (.type "NameError") = false := by rw [List.contains_cons, T.n]; rfl
  refine codeAny_builtinAt L.entry ?_
  unfold Builtin.«BaseException.__new__»
  refine PyProof.Rows.wpAt_bind (show PyProof.Rows.wpAt _ _ _ (stack >>= _) _ _ _ from PyProof.Rows.wpAt_bind (PyProof.Rows.wpAt_stack fun p below => wpAt_of_wpAny ?_))
  wp_walk
  refine wpAt_of_wpAny ?_
  rw [L.owner]
  repeat (first | with_reducible refine wpAny_madeHere_exc L.canon at' ?_ | with_reducible refine wpAny_loadPart_at at' ?_ | (with_reducible refine wpAny_isSubtype_exc at' ?_; first | rw [inB] | rw [noA] | rw [noN]) | wp_step)
  show R _ _
  rw [Heap.size_push]
  exact k
theorem tcall2 (L : ExcBaseFacts B newI oldI bB) (T : Tl B D bm) {fI : Addr} {Q : Fin → Shared → Prop} (at' : hp.get? C = some (excClassObj nm q C N bs bm hdct sn sub ab col dd k0 k1 k2 k3 k5 newI))
    (li : W.Looks (model prog w) hp (typeLookup (.ref C) "__init__") (some (.ref fI))) (lb : ∀ z, W.Looks (model prog w) hp (bindSpecial (.ref fI) z) (.ref fI, [z])) (hl : rest.length ≤ sizeLine)
    (k : codeAny (model prog w) A (.call (.ref fI) ⟨.ref (hp.objs.size + 1) :: rest, []⟩) (fun r s' => match r with | .ok (.ret v) => v = .none ∧ Q (.done (.ret (.ref (hp.objs.size + 1)))) s' | .ok _ => False | .error e => E e s')
      ⟨(hp.push (W.kdv_tup rest)).push (excO C hp.objs.size), g, dr, tk, os⟩) : wpAny (model prog w) A (Builtin.«type.__call__» ⟨.ref C :: rest, []⟩) Q E ⟨hp, g, dr, tk, os⟩ := by
  repeat (first | with_reducible refine wpAny_loadPart_at at' ?_ | with_reducible refine wpAny_madeBy_exc at' ?_ | wp_step)
  refine codeAny_call_builtin_code (Code.quiet_builtin _ L.quiet) (new_ok2 L T at' (made2 L T at' ?_ hl))
  show wpAny _ _ _ _ _ _
  have old : ∀ b o, hp.get? b = some o → ((hp.push (W.kdv_tup rest)).push (excO C hp.objs.size)).get? b = some o := fun b o z => Heap.get?_push_of_some _ (Heap.get?_push_of_some _ z)
  have at1 := old _ _ at'
  have new1 : ((hp.push (W.kdv_tup rest)).push (excO C hp.objs.size)).get? (hp.objs.size + 1) = some (excO C hp.objs.size) := by heap_get
  have self1 : (Value.ref C :: bm).contains (.ref C) = true := by simp
  unfold isInstance
  repeat (first | with_reducible refine wpAny_loadPart_at new1 ?_ | (with_reducible refine wpAny_isSubtype_exc at1 ?_; rw [self1]) | wp_step)
  show wpAny _ _ (typeLookup (.ref C) _) _ _ _
  refine (li.keeps old).at (wpAny_holding (wpAny_bind (((lb (.ref (hp.objs.size + 1))).keeps old).at (wpAny_bind (wpAny_call (codeAny_mono k fun r s' z => ?_))))))
  rcases r with e | (v | _ | _ | _) <;> first | exact z | exact z.elim | skip
  obtain ⟨rfl, z⟩ := z
  first | exact wpAny_pure (wpAny_pure z) | (wp_walk; exact z)
theorem own2 (L : ExcBaseFacts B newI oldI bB) (T : Tl B D bm) {fI : Addr} (at' : hp.get? C = some (excClassObj nm q C N bs bm hdct sn sub ab col dd k0 k1 k2 k3 k5 newI))
    (li : W.Looks (model prog w) hp (typeLookup (.ref C) "__init__") (some (.ref fI))) (lb : ∀ z, W.Looks (model prog w) hp (bindSpecial (.ref fI) z) (.ref fI, [z])) (hl : rest.length ≤ sizeLine)
    (k : codeAny (model prog w) (A.under (.builtin "type.__call__" ⟨.ref C :: rest, []⟩)) (.call (.ref fI) ⟨.ref (hp.objs.size + 1) :: rest, []⟩) (W.InitBack (hp.objs.size + 1) R)
      ⟨(hp.push (W.kdv_tup rest)).push (excO C hp.objs.size), g, dr, tk, os⟩) : codeAny (model prog w) A (.call (.ref C) ⟨rest, []⟩) R ⟨hp, g, dr, tk, os⟩ := by
  have c1 := tc_lookup
  have c2 := tc_bind (.ref C)
  have c3 : (⟨hp, g, dr, tk, os⟩ : Shared).TypeIs (.ref C) "type" := ⟨_, at', rfl⟩
  refine codeAny_of_tree (show wpAny _ _ (callAny (.ref C) _) _ _ _ from ?_)
  repeat (any_goals (first | assumption | with_reducible refine wpAny_loadPart_at at' ?_ | wp_step))
  refine ⟨rfl, ?_⟩
  refine codeAny_call_builtin_at (Code.quiet_builtin _ (by decide +kernel)) entry_typeCall (wpAny_check_type_call_sub at' (tcall2 L T at' li lb hl (codeAny_mono k fun r s' z => ?_)))
  rcases r with e | (v | _ | _ | _) <;> exact z
/-- D.__init__(e, ..): the args are laid anew -/
theorem inib2 (J : IniB D iniI) (nst : (D != "*") = true) (T : Tl B D bm) {e t0 : Addr} (at' : hp.get? C = some (excClassObj nm q C N bs bm hdct sn sub ab col dd k0 k1 k2 k3 k5 newI)) (ae : hp.get? e = some (excO C t0)) (hl : rest.length ≤ sizeLine)
    (k : ∀ h' t1, (∀ b o, b ≠ e → hp.get? b = some o → h'.get? b = some o) → h'.get? e = some (excO C t1) → R (.ok (.ret .none)) ⟨h', g, dr, tk, os⟩) : codeAny (model prog w) A (.call (.builtin iniI) ⟨.ref e :: rest, []⟩) R ⟨hp, g, dr, tk, os⟩ := by
  refine codeAny_call_builtin J.slot.plain J.ent (ini_ok2 J nst T at' ae rfl ?_)
  wp_walk
  refine k _ hp.objs.size (fun b o hb ho => ?_) ?_
  · rw [Heap.get?_update_other _ _ hb.symm]
    exact Heap.get?_push_of_some _ ho
  · rw [Heap.get?_update_self _ (Heap.get?_push_of_some _ ae) rfl]
    rfl
end
end KX

set_option maxRecDepth 100000
set_option maxHeartbeats 4000000
/-! an own exception class right over KeyError, whose __init__ says KeyError.__init__(self, x) and then stores -/
namespace KY
open PySem PySem.Spec PyProof.Rows L2 KX
/-- what the library knows of the built-in class B, whose __new__ may be another class's -/
structure XB2 (B newI iniI : String) (tl : List Value) : Prop where
  sf : PySem.StoreFacts B tl "object.__setattr__" "object"
  j : IniB B iniI
  ns : (B != "*") = true
  mks : ∃ (LB oldI : String) (bB : List Value), PySem.ExcBaseFacts LB newI oldI bB ∧ Tl LB B tl
theorem XB2.tl {B newI iniI : String} {tl bm : List Value} (T : XB2 B newI iniI tl) (h : ∀ X : String, bm.contains (.type X) = tl.contains (.type X)) : ∃ (LB oldI : String) (bB : List Value), PySem.ExcBaseFacts LB newI oldI bB ∧ Tl LB B bm := by
  obtain ⟨LB, oldI, bB, L, t⟩ := T.mks
  exact ⟨LB, oldI, bB, L, by rw [h]; exact t.b, by rw [h]; exact t.d, by rw [h]; exact t.a, by rw [h]; exact t.n⟩
/-- what the written part says of the class at C -/
structure XC2 (K : PySem.W.Frag) (B newI iniI : String) (tl : List Value) (C : Addr) : Prop where
  b : XB2 B newI iniI tl
  ini : PySem.W.excInitIn K C tl newI = true
  ovr : PySem.W.excOver K C tl = true
  sa : PySem.W.findIn K (.ref C) "__setattr__" = some (some (.builtin "object.__setattr__"))
  hd : PySem.W.hasDictIn K C = true
  sub : PySem.W.subIn K (.ref C) (.type "BaseException") = some true
  ty : PySem.W.typeIn K (.ref C) = some (.type "type")
  kp : PySem.W.keepIn K (.ref C) = true
section
open PySem.W PySem.Calls PySem.HandSPX Builtin Builtin.ObjectAttr
variable {prog : Program} {w : World} {A : Around} {E : Value → Shared → Prop} {R : Result → Shared → Prop} {hp : Heap} {g : Array GenState} {d : Drawn} {t : Nat} {os : OsState}
/-- the first store into such an exception -/
theorem osa_first {K : PySem.W.Frag} {nm : Str} {tk : Tok} {v : Value} {x C : Addr} {fv : Array Value} {B newI iniI : String} {tl : List Value} (T : XC2 K B newI iniI tl C)
    (X : K.In hp) (hx : hp.get? x = some { cls := .ref C, data := .fields fv }) (ha : PySem.W.findIn K (.ref C) nm = some none)
    (done : ∀ h2 tk2 dx, (∀ b o, b ≠ x → hp.get? b = some o → h2.get? b = some o) → hp.objs.size ≤ dx → dx ≠ x → h2.get? x = some { cls := .ref C, dict := some dx, data := .fields fv } →
      h2.Ns1 dx (fun y => if y = nm then some v else none) → R (.ok (.ret .none)) ⟨h2, g, d, tk2, os⟩) :
    codeAny (model prog w) A (.call (.builtin "object.__setattr__") ⟨[.ref x, .str nm tk, v], []⟩) R ⟨hp, g, d, t, os⟩ := by
  have tkr : PySem.W.takerIn K C nm = some none := by unfold PySem.W.takerIn; rw [ha]; rfl
  refine PySem.W.osa_openX (s := ⟨hp, g, d, t, os⟩) (od := none) T.b.sf X ⟨hx, rfl, rfl, trivial⟩ T.ovr tkr fun b => ?_
  obtain ⟨cd, hc, hdd⟩ := PySem.W.any_some T.hd
  have hcls : PySem.W.Looks (model prog w) hp (classData C) cd := PySem.W.looks_clsIn X hc
  have far : x ≠ hp.objs.size := Nat.ne_of_lt (Heap.lt_size hx)
  obtain ⟨nm', bs, mro, ns, qn, hd', sn, sb, ab, col, del⟩ := cd
  dsimp only at hdd
  subst hdd
  dsimp only
  unfold storeInOwnDict ownDictForStores
  repeat (first | with_reducible refine store_in_new ?_ ?_ | with_reducible refine wpAny_loadPart_at hx ?_ | with_reducible refine hcls.at ?_ | wp_step)
  · exact ⟨_, #[], _, (Heap.get?_update_ne _ _ _ _ far.symm).trans (Heap.get?_push_at rfl rfl), rfl, fun e he => absurd he (by simp), fun _ => rfl⟩
  · intro h2 tk2 hn2 hs
    have hx1 : (hp.push { cls := .type "dict", data := .dict #[] }).get? x = some { cls := .ref C, data := .fields fv } := Heap.get?_push_of_some _ hx
    refine done h2 tk2 hp.objs.size (fun b o hb ho => ?_) (Nat.le_refl _) far.symm ?_ hn2
    · have z := Heap.get?_push_of_some { cls := .type "dict", data := .dict #[] } ho
      exact (hs.2 b (Nat.ne_of_lt (Heap.lt_size ho))).trans ((Heap.get?_update_ne _ _ _ _ hb).trans z)
    · have z := Heap.get?_update_self (fun o => { o with dict := some hp.objs.size }) hx1 rfl
      exact (hs.2 x far).trans z
end
section
variable {X : Cx} {pins : List (Addr × Obj)} {σ : L2.St} {H : Hp} {s : Shared} {a C dx : Addr} {f : Str} {y : V} {u : Value} {E : Value → Shared → Prop} {A : Around} {B newI iniI : String} {tl : List Value}
/-- self.f = y, the first store -/
theorem store_first {Q : Unit → Shared → Prop} (T : XC2 X.K B newI iniI tl C) (I : Inv X pins σ H s) (e : H a = some (exo a C none)) (hno : PySem.W.findIn X.K (.ref C) f = some none) (ry : RelV y u)
    (go : ∀ dx s2, H dx = none → dx ≠ a → Inv X pins σ (upd (upd H dx (exd dx [(f, y)])) a (exo a C (some dx))) s2 → Q () s2) :
    wpAny (model X.prog X.w) A (setAttr (.ref a) f u) Q E s := by
  obtain ⟨t1, ho⟩ := exo_at I.hok e
  obtain ⟨hp, g, d, t, os⟩ := s
  refine PySem.W.set_plain I.kIn (ox := { cls := .ref C, dict := none, data := .fields #[.ref t1, .none, .none, .none, .bool false, .none] })
    (od := none) ⟨ho, rfl, rfl, trivial⟩ T.sa (osa_first T I.kIn ho hno (fun h2 tk2 dx k dn dne hx hn => ?_))
  have hnd : H dx = none := I.hok.fresh dn
  have new : ∀ {b : Addr} {o : Obj}, hp.get? b = some o → b ≠ dx := fun {b o} q => Nat.ne_of_lt (Nat.lt_of_lt_of_le (Heap.lt_size q) dn)
  have notA : ∀ {b : Addr}, H b = none → b ≠ a := fun {b} n z => by
    rw [z, e] at n
    cases n
  have U : Un X.fs [] H (upd (upd H dx (exd dx [(f, y)])) a (exo a C (some dx))) hp h2 := {
    keep := fun b o q n _ _ => k b o (notA n) q
    slot := fun b o q n _ _ => ⟨o.slots, k b o (notA n) q⟩
    free := fun b o q n _ => by rw [upd_ne (notA n), upd_ne (new q)]; exact n
    there := fun b o q _ => by
      by_cases hb : b = a
      · exact ⟨_, by rw [hb]; exact hx⟩
      · exact ⟨o, k b o hb q⟩
    tups := fun b xs q => by rw [upd_ne (at_ne e q exo_tup), upd_ne (ne_of_none q hnd)]; exact q
    frzs := fun b o v q => by rw [upd_ne (at_ne e q exo_frz), upd_ne (ne_of_none q hnd)]; exact q
    tbls := fun b ps q => ⟨#[], by rw [upd_ne (at_ne e q exo_tbl), upd_ne (ne_of_none q hnd), q]; simp⟩ }
  refine go dx _ hnd dne (I.un (t' := tk2) U fun b o q => ?_)
  by_cases hb : b = a
  · subst hb
    rw [upd_same] at q
    cases q
    exact exo_ok hx
  · rw [upd_ne hb] at q
    by_cases hd : b = dx
    · subst hd
      rw [upd_same] at q
      cases q
      exact exd_ok hn (relO_put (fs := []) ry fun g => True.intro)
    · rw [upd_ne hd] at q
      refine (I.hok b o q).stay (fun c v hc z => k c v ?_ z) (fun c hc => ?_) (fun c xs hc => ?_)
      · rcases hc with hc | hc
        · rw [hc]
          exact hb
        · exact at_ne e hc exo_own
      · rw [upd_ne (at_ne e hc exo_own), upd_ne (ne_of_none hc hnd)]
        exact hc
      · rw [upd_ne (at_ne e hc exo_tup), upd_ne (ne_of_none hc hnd)]
        exact hc
/-- B.__init__(self, ..): nothing of it is told -/
theorem init_told {us : List Value} {Q : Value → Shared → Prop} (T : XC2 X.K B newI iniI tl C) (I : Inv X pins σ H s) (e : H a = some (exo a C none)) (hl : us.length ≤ sizeLine) (go : ∀ s2, Inv X pins σ H s2 → Q .none s2) :
    wpAny (model X.prog X.w) A (call (.builtin iniI) (.ref a :: us)) Q E s := by
  obtain ⟨nm, N, qn, bs, bm, hdct, sn, sub, ab, col, dd, k0, k1, k2, k3, k5, hC, hT⟩ := PySem.W.excInit_of I.kIn T.ini
  obtain ⟨t1, ho⟩ := exo_at I.hok e
  obtain ⟨hp, g, d, t, os⟩ := s
  obtain ⟨LB, oldI, bB, L, tlb⟩ := T.b.tl hT
  refine wpAny_call (inib2 T.b.j T.b.ns tlb hC ho hl fun h2 t2 k hx => go _ ?_)
  have J := I.write (t' := t) (x := a) (e := a) (o := exo a C none) (by rw [e]; exact True.intro) (.inl rfl) k ⟨_, hx⟩ (exo_ok hx)
  have same : upd H a (exo a C none) = H := by
    funext b
    by_cases hb : b = a
    · rw [hb, upd_same, e]
    · rw [upd_ne hb]
  rw [same] at J
  exact J
end
/-- B.__init__(self, ..) -/
def tBini (K : PySem.W.Frag) (B newI iniI : String) (tl : List Value) (ta : TA) : TE := fun σ H Q => ta σ H fun vs H1 =>
  ∃ (a C : Addr) (ws : List V), vs = .ref a :: ws ∧ ws.length ≤ 1000 ∧ XC2 K B newI iniI tl C ∧ H1 a = some (exo a C none) ∧ Q .non H1
/-- self.f = e, the first store -/
def tFst (K : PySem.W.Frag) (B newI iniI : String) (tl : List Value) (f : Str) (to te : TE) : TS := fun D σ H => te σ H fun y H1 => to σ H1 fun x H2 =>
  ∃ a C : Addr, x = .ref a ∧ XC2 K B newI iniI tl C ∧ PySem.W.findIn K (.ref C) f = some none ∧ H2 a = some (exo a C none) ∧
    ∀ dx, H2 dx = none → dx ≠ a → D.nx σ (upd (upd H2 dx (exd dx [(f, y)])) a (exo a C (some dx)))
section
variable {X : Cx} {o e : Expr} {es : List Expr} {to te : TE} {ta : TA} {f : Str} {p p' p1 p2 pos : Pos} {B newI iniI : String} {tl : List Value}
theorem ps_fst (ho : PE X o to) (he : PE X e te) (hs : swapsWith e (some (.Attribute o f p')) pos.line X.env = pure false := by rfl) : PS X (.Assign [.Attribute o f p'] e pos) (tFst X.K B newI iniI tl f to te) := by
  refine ⟨fun pins s σ H D I h => ?_⟩
  refine plainObj_wpAny_Assign_Attribute (thn (he.run pins s σ H _ I h) fun v s1 z1 => ?_) hs
  obtain ⟨y, H1, I1, r1, q1⟩ := z1
  refine thn (ho.run pins s1 σ H1 _ I1 q1) fun u s2 z2 => ?_
  obtain ⟨x, H2, I2, r2, a, C, ex, T, hno, ea, q⟩ := z2
  subst ex
  obtain rfl : u = Value.ref a := r2
  exact store_first T I2 ea hno r1 fun dx s3 n ne J => ⟨σ, _, J, q dx n ne⟩
theorem pe_bini {pl : Sem Bool} (hg : Gl X "KeyError") (hm : X.mg "KeyError" = none) (vV : PySem.W.findCls X.K (.type "KeyError") (.type "type") "__init__" = some (.val (.builtin "KeyError.__init__"))) (ha : PA X (e :: es) ta)
    (hc : eval (.Call (.Attribute (.Name "KeyError" p1) "__init__" p2) (e :: es) [] pos) X.env = (do
      let cv ← eval (.Name "KeyError" p1) X.env
      standAt p2.atName
      let (fn, ahead) ← holding [cv] (getMethod cv "__init__" pl)
      callWith pos fn ahead (backTo pos (starEach (e :: es) X.env)) (backToKw pos (keywordEach [] X.env))) := by rfl)
    (he : starEach (e :: es) X.env = (false, eval e X.env) :: starEach es X.env := by rfl) (hpl : (backTo pos (starEach es X.env)).any (·.1) = false := by rfl) :
    PE X (.Call (.Attribute (.Name "KeyError" p1) "__init__" p2) (e :: es) [] pos) (tBini X.K "KeyError" newI "KeyError.__init__" tl ta) := by
  refine ⟨fun pins s σ H Q I h => ?_⟩
  have ty : typeOf (.type "KeyError") = pure (.type "type") := by kernel_rfl
  refine PySem.W.methodCall_KW (ld_blt I hg hm PyProof.Rows.Boot.«KeyError» ?_ (by decide) (by decide)) hc
  obtain ⟨m, fr⟩ := I.fr
  refine PySem.W.method_type fr I.ok.mod.kin ty (by decide +kernel) vV (by decide +kernel) ?_
  show wpAny _ _ (callWith pos (Value.builtin "KeyError.__init__") [] (backTo pos (starEach (e :: es) X.env)) []) _ _ _
  refine PyProof.Rows.callWith_method1 (thn (ha.run pos pins _ σ H _ (I.tok _) h) fun us s1 z => ?_) he hpl
  obtain ⟨vs, H1, I1, r1, a, C, ws, ev, hl, T, ea, q⟩ := z
  subst ev
  cases r1 with
  | @cons _ u0 _ ur ra rw' =>
    obtain rfl : u0 = Value.ref a := ra
    have hlen : ur.length ≤ sizeLine := by
      rw [← Paired.length rw', sizeLine_eq]
      omega
    exact init_told T I1 ea hlen fun s2 J => ⟨.non, H1, J, rfl, q⟩
/-- C(e, ..) -/
theorem pmk_x {CX : CXT} {x : Str} {C fI : Addr} {k : Nat} {fd : FuncData} {ps : List Str} {sp : Sp} (T : XC2 X.K B newI iniI tl C) (iC : PySem.W.findIn X.K (.ref C) "__init__" = some (some (.ref fI)))
    (tI : PySem.W.typeIn X.K (.ref fI) = some (.type "function")) (F1 : FnOk X.prog X.w X.K X.mg X.base CX k fI fd ps sp) (hr : Room (k + 1) X.A) (hb : Binds X.K fd ps []) (hx : Passes CX X (fun _ _ _ => False)) (hg : Gl X x)
    (hm : X.mg x = some (.ref C)) (ha : PA X (e :: es) ta) (hdb : (x == ("__debug__" : Str)) = false := by decide) (he : starEach (e :: es) X.env = (false, eval e X.env) :: starEach es X.env := by rfl)
    (hpl : (backTo pos (starEach es X.env)).any (·.1) = false := by rfl) : PMk X (.Call (.Name x p) (e :: es) [] pos) (tMkO C sp [] ta) := by
  intro pins s σ H Q I h
  obtain ⟨nm, N, qn, bs, bm, hdct, sn, sub, ab, col, dd, k0, k1, k2, k3, k5, hC, hT⟩ := PySem.W.excInit_of I.kIn T.ini
  refine wpAny_Call_Name_kw (ld_glob I hg hm ?_ hdb)
  refine PySem.W.callWith_K (h₀ := X.base) I.ok.mod.kin T.kp (thn (ha.run pos pins s σ H _ I h) fun us s1 z => ?_) he hpl
  obtain ⟨vs, H1, I1, r1, hz, q1⟩ := z
  have X1 := I1.kIn
  refine ⟨X1, ?_⟩
  obtain ⟨nm, N, qn, bs, bm, hdct, sn, sub, ab, col, dd, k0, k1, k2, k3, k5, hC, hT⟩ := PySem.W.excInit_of X1 T.ini
  show wpAny _ _ (call (.ref C) us) _ _ _
  obtain ⟨hp, g, dr, tk, os⟩ := s1
  have up : hp.objs.size ≤ hp.objs.size + 1 := Nat.le_succ _
  have hq := q1 (hp.objs.size + 1) (I1.hok.fresh up)
  have kk : ∀ b o, hp.get? b = some o → ((hp.push (PySem.W.kdv_tup us)).push (PySem.HandSPX.excO C hp.objs.size)).get? b = some o :=
    fun b o e => Heap.get?_push_of_some _ (Heap.get?_push_of_some _ e)
  have hget : ((hp.push (PySem.W.kdv_tup us)).push (PySem.HandSPX.excO C hp.objs.size)).get? (hp.objs.size + 1) = some (PySem.HandSPX.excO C hp.objs.size) := by heap_get
  have I2 : Inv X pins σ (upd H1 (hp.objs.size + 1) (exo (hp.objs.size + 1) C none)) ⟨(hp.push (PySem.W.kdv_tup us)).push (PySem.HandSPX.excO C hp.objs.size), g, dr, tk, os⟩ :=
    I1.laid (t' := tk) (a := hp.objs.size + 1) (o := exo (hp.objs.size + 1) C none) (h' := (hp.push (PySem.W.kdv_tup us)).push (PySem.HandSPX.excO C hp.objs.size)) kk up (exo_ok hget)
  have r2 : Vals (V.ref (hp.objs.size + 1) :: (vs ++ [])) (Value.ref (hp.objs.size + 1) :: us) := .cons rfl (by rw [List.append_nil]; exact r1)
  have hl : (Value.ref (hp.objs.size + 1) :: us).length = ps.length := by
    rw [← r2.length]
    exact F1.len _ _ _ _ hq
  have hus : us.length ≤ sizeLine := by
    rw [← Paired.length r1, sizeLine_eq]
    omega
  have hbd := hb ⟨(hp.push (PySem.W.kdv_tup us)).push (PySem.HandSPX.excO C hp.objs.size), g, dr, tk, os⟩ (Value.ref (hp.objs.size + 1) :: us) I2.kIn (by rw [List.append_nil]; exact hl)
  rw [List.append_nil] at hbd
  have go := F1.run _ X.stack _ _ ⟨Value.ref (hp.objs.size + 1) :: us, []⟩ (Value.ref (hp.objs.size + 1) :: us) _ _ (fun _ _ _ => False) (hr.make C us []) (I2.env0.make C us []) hbd r2 hq
  obtain ⟨LB, oldI, bB, L, tlb⟩ := T.b.tl hT
  refine wpAny_call (own2 L tlb hC (PySem.W.looks_findIn X1 iC) (fun self => PySem.W.bind_fn X1 self tI) hus (codeAny_mono go fun r s2 z => ?_))
  cases r with
  | error er => exact hx pins σ _ _ er s2 I2 z
  | ok fl =>
    cases fl with
    | ret u =>
      obtain ⟨v, H2, os2, bare2, un2, hok2, rv, ev, d, fs, ea, ed, hd1, q2⟩ := z
      subst ev
      obtain ⟨h2, g2, d2, t2, os'⟩ := s2
      exact ⟨rv, mk_end (raises_own T.sub T.ty) I1 up kk un2 hok2 os2 bare2 ea ed hd1 q2⟩
    | next => exact False.elim z
    | brk => exact False.elim z
    | cont => exact False.elim z
end
theorem kyB : XB2 "KeyError" "LookupError.__new__" "KeyError.__init__" kyTl := ⟨kyStore, kyIni, by decide +kernel, _, _, _, PySem.F.excBase_LookupError, by decide +kernel, by decide +kernel, by decide +kernel, by decide +kernel⟩
end KY

set_option maxRecDepth 100000
set_option maxHeartbeats 2000000
open PySem PySem.Spec PyProof.Rows L2 KX
/-! ### a method of a made tuple: its object is remembered -/
namespace KX
section
variable {X : Cx}
/-- tuple(list): a new tuple, whose object has no dict -/
theorem call_tupleF : CallR X (.type "tuple") (fun xs H Q => ∃ p ys, xs = [.ref p] ∧ SqL X.K H p ys ∧ ∀ l o, H l = none → o.cls = .type "tuple" → o.dict = none → Q (.ref l) (upd H l (.frz o (.tup ys)))) := by
  intro pins s σ H xs us Q I r h
  obtain ⟨p, ys, rfl, hq, q⟩ := h
  obtain ⟨u, rfl, rx⟩ := vals1 r
  cases rx
  obtain ⟨its, rv, pl, hz⟩ := I.list hq
  have hn := rv.length
  refine call_tuple_list pl.isList (fun hp2 kp => ?_) (by simp only [List.size_toArray] <;> omega)
  have J : Inv X pins σ H { s with heap := hp2 } := I.kept (t' := s.toks) kp
  have J2 : Inv X pins σ (upd H hp2.objs.size (.frz { cls := .type "tuple", data := .seq its.toArray } (.tup ys))) { s with heap := hp2.push { cls := .type "tuple", data := .seq its.toArray } } :=
    J.laid (t' := s.toks) (fun b o e => Heap.get?_push_of_some _ e) (Nat.le_refl _) (show ObjOk X.prog X.w _ _ _ (.frz _ (.tup ys)) from ⟨Heap.get?_push_size _ rfl, hz, its, rv, IsTup.new _ _⟩)
  exact ⟨.ref hp2.objs.size, _, J2, rfl, q _ _ (J.hok.fresh (Nat.le_refl _)) rfl rfl⟩
def tBMF (T : String) (r : V → List V → Hp → VK → Prop) (to : TE) (t : TA) : TE := fun σ H Q => to σ H fun x H1 => (∃ p o u, x = .ref p ∧ H1 p = some (.frz o u) ∧ o.cls = .type T ∧ o.dict = none) ∧ t σ H1 fun xs H2 => r x xs H2 Q
variable {o e : Expr} {es : List Expr} {to : TE} {t : TA} {name : Str} {apos cpos : Pos} {T id : String} {r : V → List V → Hp → VK → Prop}
theorem pe_bmF (pa : PlainAttrs T) (slot : Slot T name id) (hty : typeOf (.builtin id) = pure (.type "method_descriptor")) (hm : MtR X id r) (ho : PE X o to) (ha : PA X (e :: es) t)
    (hbase : attributeBase o name X.env (eval o X.env) = eval o X.env := by rfl)
    (hfew : ((backTo cpos (starEach (e :: es) X.env)).all (fun x => !x.1) && (backToKw cpos (keywordEach [] X.env)).all (fun x => x.1.isSome)
      && decide ((e :: es).length + ([] : List Keyword).length + (if ([] : List Keyword).isEmpty then 0 else 1) < 30)) = true := by rfl)
    (hline : (apos.endLine == cpos.line) = true := by rfl) (hs : starEach (e :: es) X.env = (false, eval e X.env) :: starEach es X.env := by rfl) (hplain : (backTo cpos (starEach es X.env)).any (·.1) = false := by rfl) :
    PE X (.Call (.Attribute o name apos) (e :: es) [] cpos) (tBMF T r to t) := by
  refine ⟨fun pins s σ H Q I h => ?_⟩
  refine wpAny_Call_method_late hbase hfew hline rfl (thn (ho.run pins s σ H _ I h) fun v s1 ⟨x, H1, I1, r1, ty, q1⟩ => ?_)
  obtain ⟨p, ob, u, rfl, ef, hc, hd⟩ := ty
  cases r1
  obtain ⟨eg, _⟩ := (show ObjOk X.prog X.w H1 s1.heap p (.frz ob u) from I1.hok p _ ef)
  refine ⟨T, id, pa, slot, hty, ⟨ob, eg, hc⟩, fun a e => ?_, ?_⟩
  · cases e
    exact ⟨ob, eg, hd⟩
  · have hA := ha.run cpos pins s1 σ H1 _ I1 q1
    rw [hs] at hA ⊢
    refine Calls.callWith_builtin (by show (false || (backTo cpos (starEach es X.env)).any (·.1)) = false; rw [hplain] <;> rfl) (Calls.evalArgs_plain ?_)
    exact thn hA fun us s2 ⟨vs, H2, I2, r2, q2⟩ => hm pins s2 σ H2 (.ref p) vs (.ref p) us Q I2 rfl r2 q2
end
end KX

set_option maxRecDepth 100000
set_option maxHeartbeats 2000000
namespace KX
open PySem PySem.Spec PyProof.Rows L2 RZ
inductive MixD (X : Cx) : List ExceptHandler → List Cls → Prop
  | nil : MixD X [] []
  | dead {hds : List ExceptHandler} : MixD X hds []
  | plain {x : Str} {c : Value} {ts : Addr → Value → Option Addr → TS} {b0 : Stmt} {bs : List Stmt} {p1 p2 : Pos} {hds : List ExceptHandler} {l : List Cls} (hc : Names X x c)
      (hb : ∀ (a : Addr) (oe : Obj) (cls : Value) (d : Option Addr) (pn : List (Addr × Obj)), Zc cls d oe → (∃ vs, oe.data = .fields vs) → PSs (X.suite a ((a, oe) :: pn)) (b0 :: bs) (ts a cls d)) (r : MixD X hds l) :
      MixD X (.ExceptHandler (some (.Name x p1)) none (b0 :: bs) p2 :: hds) (⟨c, none, ts⟩ :: l)
  | named {x n : Str} {i : Nat} {c : Value} {ts : Addr → Value → Option Addr → TS} {b0 : Stmt} {bs : List Stmt} {p1 p2 : Pos} {hds : List ExceptHandler} {l : List Cls} (hi : X.N[i]? = some n) (hn : X.env.kindOf n = some .local) (hc : Names X x c)
      (hb : ∀ (a : Addr) (oe : Obj) (cls : Value) (d : Option Addr) (pn : List (Addr × Obj)), Zc cls d oe → (∃ vs, oe.data = .fields vs) → PSs (X.suite a ((a, oe) :: pn)) (b0 :: bs) (ts a cls d)) (r : MixD X hds l) :
      MixD X (.ExceptHandler (some (.Name x p1)) (some n) (b0 :: bs) p2 :: hds) (⟨c, some i, ts⟩ :: l)
section
variable {X : Cx} {body : List Stmt} {hd0 : ExceptHandler} {hds : List ExceptHandler} {l : List Cls} {pos : Pos} {tb : WX → TS} {Wo : WX}
theorem ps_try_mixD (hs : X.stack = X.env :: X.outer) (hf : X.env.frame = some X.env.locals) (nd : X.N.Nodup) (tk : Takes X Wo) (hWo : ∀ cls d σ G, ¬ Wo cls d σ G)
    (hb : ∀ (W : WX) (pn : List (Addr × Obj)) (xe : Value → Shared → Prop), Takes (X.tr pn xe) W → PassesOwn (model X.prog X.w) X.A X.env xe → PSs (X.tr pn xe) body (tb W))
    (hh : MixD X (hd0 :: hds) l) : PS X (.Try body (hd0 :: hds) [] [] pos) (fun D σ G => tb (wMix X.K Wo D l) D σ G) := by
  refine ⟨fun pins s σ G D I h => wpAny_Try_except ?_⟩
  have ok := I.ok
  have frm : X.A.frames = some (X.env :: X.outer) := ok.frames.trans (by rw [hs])
  refine wpAny_mono ((hb (wMix X.K Wo D l) (X.pn ++ pins) (fun e t1 => wpAny (model X.prog X.w) X.A (noteFrame e X.env) (fun _ t2 => wpAny (model X.prog X.w) X.A (setFlight e none) (fun _ t3 =>
    wpAny (model X.prog X.w) X.A (handleBy e X.env (hd0 :: hds)) (SP X pins D) X.xe t3) X.xe t2) X.xe t1) (fun u s1 caught => ?_) PassesOwn.looking).run [] s σ G D (I.toTry _) h) (fun fl s1 fin => ?_) (fun _ _ z => z)
  · obtain ⟨ea, B0, sI, pins1, σ1, G1, cls, d, rfl, IT, nb, up, sky, na, os, ag, wish⟩ := caught
    have I1 : Inv X pins σ1 G1 sI := IT.ofTry ok
    refine Sky.land Zc.steady frm hf (show Sky B0 (X.env :: X.outer) ea (Zc cls d) X.env.locals s1.heap by rw [← hs]; exact sky) fun h3 lands up3 => ?_
    have I3 : Inv X pins σ1 G1 { s1 with heap := h3 } := I1.landed nb lands.1 (up.trans up3) os ag
    obtain ⟨oe3, fv3, at3, z3, dat3⟩ := lands.there
    have off : ea ∉ frs (X.env :: X.outer) := fun hm => by
      obtain ⟨_, o1, e1, nf⟩ := lands.2.2.1.mem hm
      rw [at3] at e1
      cases e1
      exact nf _ dat3
    have offL : ea ≠ X.env.locals := fun z => off (List.mem_filterMap.mpr ⟨X.env, List.mem_cons_self, by rw [hf, z]⟩)
    have offF : ea ∉ X.fs := fun hm => by
      obtain ⟨en, hen, q⟩ := List.mem_filterMap.mp hm
      exact off (List.mem_filterMap.mpr ⟨en, List.mem_cons_of_mem _ hen, q⟩)
    have S3 := I3.suite at3 dat3 na offL offF
    have looks : PySem.W.Looks (model X.prog X.w) h3 (typeOf (.ref ea)) cls := fun A Q E t k q => wpAny_typeOf_ref (k _ _ at3) (by rw [z3.1]; exact q)
    have reads : ∀ {x : Str} {c : Value} {p1 : Pos} {Q : Value → Shared → Prop} {E : Value → Shared → Prop}, Names X x c → Q c { s1 with heap := h3 } → wpAny (model X.prog X.w) (X.A.mark (some (.ref ea))) (eval (.Name x p1) X.env) Q E { s1 with heap := h3 } := fun {x c p1 Q E} hc q => by
      obtain ⟨hg, hdb, hm | ⟨hm, hv, hnn⟩⟩ := hc
      · exact ld_glob (X := X.suite ea ((ea, oe3) :: (X.pn ++ pins))) S3 hg hm q hdb
      · exact ld_blt (X := X.suite ea ((ea, oe3) :: (X.pn ++ pins))) S3 hg hm hv q hnn hdb
    have each : ∀ {hl : List ExceptHandler} {cl : List Cls}, MixD X hl cl → wMix X.K Wo D cl cls d σ1 G1 → wpAny (model X.prog X.w) X.A (handleBy (.ref ea) X.env hl) (SP X pins D) X.xe { s1 with heap := h3 } := by
      intro hl cl mk
      induction mk with
      | dead =>
        intro wo
        exact absurd wo (hWo _ _ _ _)
      | nil =>
        intro wo
        refine wpAny_handleBy_nil ?_
        obtain ⟨_, _, _, ox, fx, T, _, _, atx, _, datx, tl1, _⟩ := id lands
        unfold PySem.passOn
        refine wpAny_bind (wpAny_field atx datx tl1 ?_)
        rw [if_neg (by simp)]
        have out : wpAny (model X.prog X.w) X.A (setFlight (.ref ea) X.env.frame) (fun _ t4 => wpAny (model X.prog X.w) X.A (throw (.ref ea) : Sem Flow) (SP X pins D) X.xe t4) X.xe { s1 with heap := h3 } := by
          rw [hf]
          refine HandSPX.setFlight_upZ lands fun h4 hx4 up4 => wpAny_throw (tk _ _ ⟨ea, B0, sI, pins, σ1, G1, cls, d, rfl, I1, nb, (up.trans up3).trans up4, .inr (.inr (by rw [hs]; exact hx4)), na, os, ag, wo⟩)
        first | exact wpAny_bind (wpAny_pure (wpAny_bind out)) | exact wpAny_bind out
      | @plain x c ts b0 bs p1 p2 hds2 l2 hc hb r ih =>
        intro wq
        obtain ⟨b, e1, yes, no⟩ := wq
        refine wpAny_handleBy_cons (codeAny_handlers_test (reads hc ((PySem.W.exm_one (M := model X.prog X.w) I3.kIn looks e1).here ?_))) (by intro q; cases q)
        cases b with
        | false => exact ih (no rfl)
        | true =>
          refine codeAny_handlers_suite (HandSPX.lands_againZ lands fun h4 lands4 up4 => ?_)
          obtain ⟨oe4, fv4, at4, z4, dat4⟩ := lands4.there
          have I4 : Inv X pins σ1 G1 { s1 with heap := h4 } := I1.landed nb lands4.1 ((up.trans up3).trans up4) os ag
          refine wpAny_mono ((hb ea oe4 cls d (X.pn ++ pins) z4 ⟨_, dat4⟩).run [] _ _ G1 _ (I4.suite at4 dat4 na offL offF) (yes rfl ea na)) (fun fl t6 fin => ?_) (fun _ _ z => z.elim)
          cases fl with
          | ret u =>
            obtain ⟨v6, σ6, G6, S6, r6, q6⟩ := fin
            exact ⟨v6, σ6, G6, S6.unsuite ok, r6, q6⟩
          | _ =>
            obtain ⟨σ6, G6, S6, q6⟩ := fin
            exact ⟨σ6, G6, S6.unsuite ok, q6⟩
      | @named x n i c ts b0 bs p1 p2 hds2 l2 hi hn hc hb r ih =>
        intro wq
        obtain ⟨b, e1, yes, no⟩ := wq
        refine wpAny_handleBy_cons (codeAny_handlers_test (reads hc ((PySem.W.exm_one (M := model X.prog X.w) I3.kIn looks e1).here ?_))) (by intro q; cases q)
        cases b with
        | false => exact ih (no rfl)
        | true =>
          refine codeAny_handlers_suite_as (HandSPX.lands_againZ lands fun h4 lands4 up4 => ?_)
          obtain ⟨oe4, fv4, at4, z4, dat4⟩ := lands4.there
          have I4 : Inv X pins σ1 G1 { s1 with heap := h4 } := I1.landed nb lands4.1 ((up.trans up3).trans up4) os ag
          refine store_ok (X := X.suite ea ((ea, oe4) :: (X.pn ++ pins))) (v := .ref ea) (I4.suite at4 dat4 na offL offF) nd hi (.inl hn) rfl (fun t5 S5 => ?_) (.inr hn)
          refine wpAny_mono ((hb ea oe4 cls d (X.pn ++ pins) z4 ⟨_, dat4⟩).run [] t5 _ G1 _ S5 (yes rfl ea na)) (fun fl t6 fin => ?_) (fun _ _ z => z.elim)
          have gone : ∀ {σ6 : L2.St} {G6 : Hp} {R : Shared → Prop}, Inv (X.suite ea ((ea, oe4) :: (X.pn ++ pins))) [] σ6 G6 t6 → (∀ t7, Inv X pins (σ6.set i none) G6 t7 → R t7) →
              wpAny (model X.prog X.w) X.A (do bindName X.env n .none; unbindBehindTheSuite X.env n p2) (fun _ t7 => R t7) X.xe t6 := fun {σ6 G6 R} S6 k => gone_ok (S6.unsuite ok) nd hi hn k
          cases fl with
          | ret u =>
            obtain ⟨v6, σ6, G6, S6, r6, q6⟩ := fin
            exact gone S6 fun t7 I7 => ⟨v6, _, _, I7, r6, q6⟩
          | _ =>
            obtain ⟨σ6, G6, S6, q6⟩ := fin
            exact gone S6 fun t7 I7 => ⟨_, _, I7, q6⟩
    exact each hh wish
  · cases fl with
    | next =>
      obtain ⟨σ6, G6, I6, q6⟩ := fin
      exact wpAny_execs_nil ⟨σ6, G6, I6.ofTry ok, q6⟩
    | ret u =>
      obtain ⟨v6, σ6, G6, I6, r6, q6⟩ := fin
      exact ⟨v6, σ6, G6, I6.ofTry ok, r6, q6⟩
    | _ =>
      obtain ⟨σ6, G6, I6, q6⟩ := fin
      exact ⟨σ6, G6, I6.ofTry ok, q6⟩
end
/-! ### a lambda without parameters that captures names, handed to a def and called there -/
section
open LamX NdefX
variable {X : Cx} {pins : List (Addr × Obj)} {σ : L2.St} {H : Hp} {s : Shared}
/-- az(), in the def that got the lambda as az -/
theorem pe_act0 {CXg : CXT} {Eg : XK} {Nz : List Str} {qz : Str} {sz : Scope} {g fl cl : Addr} {cdz pmz ctz : Value} {q : Str} {pars : Arguments} {bd : Expr} {scp : Scope} {cs : List (Str × Addr)} {k : Nat} {az : Str} {pn : List (Addr × Obj)} {xe : Value → Shared → Prop} {W : WX} {tb : XK → TE} {p1 p2 : Pos} {N fr : List Str} {ws : List (Option V)}
    (S : NScope N [] fr scp) (C : CellsAt cs fr ws s.heap H) (hf : s.heap.get? fl = some (PySem.W.kla_obj "<lambda>" q pars bd scp cs pmz cl ctz)) (hfn : H fl = none) (hfr : fl ∉ frs X.stack)
    (hbind : bindArgs (PySem.W.kla_fn "<lambda>" q pars bd scp cs pmz (.ref cl) ctz) ⟨[], []⟩ = pure [])
    (tk : Takes ((cxOf CXg X.prog X.w X.K X.mg X.base Nz qz sz g cdz X.A X.stack s H Eg).tr pn xe) W) (hr : Room (k + 1) (X.A.deeper (envOfC qz sz s.heap.objs.size g cdz)))
    (hbody : ∀ (A : Around) (outer : List PySem.Env) (s : Shared) (H : Hp) (E : XK), Room k (A.deeper (envF (lamF q pars scp cs cl) fl s.heap.objs.size)) → PE (ncx (L2.CX X.prog X.w) X.prog X.w X.K X.mg X.base N (lamF q pars scp cs cl) fl A outer s H E) bd (tb E))
    (hN : Nz[0]? = some az) (hv : Vis sz az) (hd : (az == ("__debug__" : Str)) = false := by decide) (hcd : (az == ("__classdict__" : Str)) = false := by decide) :
    PE ((cxOf CXg X.prog X.w X.K X.mg X.base Nz qz sz g cdz X.A X.stack s H Eg).tr pn xe) (.Call (.Name az p1) [] [] p2)
      (fun σZ HZ Qy => σZ[0]? = some (some (.ref fl)) ∧ HZ cl = some (CodeO cl q) ∧ tb (fun cls d H' => W cls d σZ H') (startF N [] ws) HZ Qy) := by
  refine ⟨fun pinsZ sZ σZ HZ Qy IZ h => ?_⟩
  obtain ⟨hs, hc, hb⟩ := h
  refine wpAny_Call_Name_kw (thn ((pe_var (pos := p1) (i := 0) hN hv hd hcd).run pinsZ sZ σZ HZ (fun v H1 => v = .ref fl ∧ H1 = HZ) IZ ⟨.ref fl, hs, rfl, rfl⟩) fun u s1 ⟨v, H1, I1, r1, q1⟩ => ?_)
  obtain ⟨ev, eH⟩ := q1
  subst ev
  rw [eH] at I1
  obtain rfl : u = Value.ref fl := r1
  have of1 : s1.heap.get? fl = some (PySem.W.kla_obj "<lambda>" q pars bd scp cs pmz cl ctz) := I1.base.keep fl _ hf hfn hfr (fun z => nomatch (show fl ∈ ([] : List Addr) from z))
  refine PySem.W.callWith_F0 (first := []) ⟨_, _, _, _, of1⟩ ?_
  show wpAny _ _ (call (.ref fl) []) _ _ _
  have un : Un (frs X.stack) [] H HZ s.heap s1.heap := I1.base
  have rc : codeAny (model X.prog X.w) (X.A.deeper (envOfC qz sz s.heap.objs.size g cdz)) (.call (.ref fl) ⟨[], []⟩) (CR (L2.CX X.prog X.w) (envOfC qz sz s.heap.objs.size g cdz :: X.stack) X.prog X.w HZ s1 Qy (fun cls d H' => W cls d σZ H')) s1 :=
    lam_run (k := k) S hbind hr I1.env0 of1 hc (cells_later C un) .nil rfl (fun hr2 => hbody _ _ _ _ _ hr2) hb
  refine wpAny_call (codeAny_mono rc fun r s' hq => ?_)
  cases r with
  | error e => exact tk e s' (XE.of_call I1 (fun cls d H' h => h) hq)
  | ok fw =>
    cases fw with
    | ret u => exact I1.after hq
    | next => exact False.elim hq
    | brk => exact False.elim hq
    | cont => exact False.elim hq
/-- the def g (one parameter, called in it): TT is what it makes of the lambda's reading -/
def GivesR (X : Cx) (k : Nat) (Nz : List Str) (xg : Str) (sz : Scope) (g : Addr) (cdz : Value) (bz : List Stmt) (az : Str) (qz : Str) (TT : (XK → Hp → VK → Prop) → Hp → VK → Prop) : Prop :=
  ∀ (fl cl : Addr) (sz0 : Shared) (Hz : Hp) (Qz : VK) (tl : XK → Hp → VK → Prop), Room k (X.A.deeper (envOfC xg sz sz0.heap.objs.size g cdz)) →
    (∀ (W : WX) (pn : List (Addr × Obj)) (xe : Value → Shared → Prop) (p1 p2 : Pos), Takes ((cxOf C8.CX0 X.prog X.w X.K X.mg X.base Nz xg sz g cdz X.A X.stack sz0 Hz C8.E0).tr pn xe) W →
      PE ((cxOf C8.CX0 X.prog X.w X.K X.mg X.base Nz xg sz g cdz X.A X.stack sz0 Hz C8.E0).tr pn xe) (.Call (.Name az p1) [] [] p2) (fun σZ HZ Qy => σZ[0]? = some (some (.ref fl)) ∧ HZ cl = some (CodeO cl qz) ∧ tl (fun cls d H' => W cls d σZ H') HZ Qy)) →
    Hz cl = some (CodeO cl qz) → TT tl Hz Qz →
    ∃ t, PSs (cxOf C8.CX0 X.prog X.w X.K X.mg X.base Nz xg sz g cdz X.A X.stack sz0 Hz C8.E0).nox bz t ∧ t { nx := fun _ H' => Qz .non H', rt := Qz } (L2.start Nz [.ref fl]) Hz
def tLamR (T : List (Addr × Str)) (TT : (XK → Hp → VK → Prop) → Hp → VK → Prop) (t : XK → TE) (js : List Nat) (N : List Str) : TE := fun σ H Q => Tabs T H ∧ ∀ H1, ExtN H H1 → Tabs T H1 → TT (fun E H' Q' => t E (startF N [] (js.map (slotAt σ))) H' Q') H1 Q
/-- the call xg(lambda: bd) -/
theorem pe_lamR {T : List (Addr × Str)} {TT : (XK → Hp → VK → Prop) → Hp → VK → Prop} {xg az : Str} {g cc Pz : Addr} {k : Nat} {pz : Arguments} {bz : List Stmt} {sz : Scope} {dVz kVz docz pmz cdz ctz ocz : Value} {anz odz : Option Addr} {slz : Array (Option Value)} {Nz N fr : List Str} {js : List Nat}
    {pars : Arguments} {bd : Expr} {scp : Scope} {tz : XK → TE} {pp lp ps : Pos} (hg : Gl X xg) (hm : X.mg xg = some (.ref g)) (hkp : PySem.W.keepIn X.K (.ref g) = true)
    (lk : X.K.lookup g = some ⟨ocz, odz, .func (PySem.W.fnOf xg xg pz bz sz dVz kVz docz pmz anz cdz ctz), slz⟩) (hcz : PySem.W.codeIn X.K cdz xg = true) (hbz : L2.Binds X.K (PySem.W.fnOf xg xg pz bz sz dVz kVz docz pmz anz cdz ctz) [az] []) (Sz : FnScope Nz [az] sz) (hNz : Nz[0]? = some az) (hvz : Vis sz az)
    (hG : GivesR X (k + 1) Nz xg sz g cdz bz az (X.env.qual ++ "<lambda>") TT)
    (TB : TabB X.base X.mg cc Pz) (hcd : X.env.code = .ref cc) (hmT : (Pz, X.env.qual ++ "<lambda>") ∈ T) (hone : ∀ p ∈ T, p.1 = Pz → p.2 = X.env.qual ++ "<lambda>") (hr : Room (k + 2) X.A) (S : NScope N [] fr scp)
    (hfree : ∀ y ∈ scp.names, y.2 = .free → X.env.scope.names.lookup y.1 = some .cell ∨ X.env.scope.names.lookup y.1 = some .free) (hfr : ∀ y ∈ fr, (y, NameKind.free) ∈ scp.names) (hjs : js.map (fun j => X.N[j]?) = fr.map some)
    (hdef : defaultsOf pars X.env = ([], []))
    (hbind : ∀ (q : Str) (cl : List (Str × Addr)) (pm cv ctv : Value), bindArgs (PySem.W.kla_fn "<lambda>" q pars bd scp cl pm cv ctv) ⟨[], []⟩ = pure [])
    (hbd : ∀ (A : Around) (outer : List PySem.Env) (s : Shared) (H : Hp) (E : XK) (fl cl : Addr), Room k (A.deeper (envF (lamF (X.env.qual ++ "<lambda>") pars scp (cloFrom X.env.cells scp.names []) cl) fl s.heap.objs.size)) →
      PE (ncx (L2.CX X.prog X.w) X.prog X.w X.K X.mg X.base N (lamF (X.env.qual ++ "<lambda>") pars scp (cloFrom X.env.cells scp.names []) cl) fl A outer s H E) bd (tz E))
    (hdb : (xg == ("__debug__" : Str)) = false := by decide) (hda : (az == ("__debug__" : Str)) = false := by decide) (hdc : (az == ("__classdict__" : Str)) = false := by decide) :
    PE X (.Call (.Name xg pp) [.Lambda pars bd scp lp] [] ps) (tLamR T TT tz js N) := by
  refine ⟨fun pn sh σ G Qz J hyp => ?_⟩
  obtain ⟨tabs, hyp⟩ := hyp
  refine wpAny_Call_Name_kw (ld_glob J hg hm ?_ hdb)
  refine PySem.W.callWith_K (h₀ := X.base) J.ok.mod.kin hkp ?_ (by rfl) (by rfl)
  show wpAny _ _ (spliced ((false, eval (.Lambda pars bd scp lp) X.env) :: backTo ps (starEach [] X.env))) _ _ sh
  have hfr2 : ∀ y ∈ scp.names, y.2 = .free → ∃ c, X.env.cells.lookup y.1 = some c := fun y hy e => (hfree y hy e).elim (fun z => J.ok.has _ (.inl z)) fun z => J.ok.has _ (.inr z)
  refine Calls.spliced_cons (lam_make2 J TB hcd hmT hone tabs hdef hfr2 fun fl cl pm2 ct2 G1 sh1 J1 eN T1 hfl hfn hfr' hco => ?_)
  refine Calls.spliced_nil ⟨J1.kIn, ?_⟩
  have cp := cells_of J1 (Caps.made J1.ok hfree hfr hjs)
  have ran : codeAny (model X.prog X.w) X.A (.call (.ref g) ⟨[.ref fl], []⟩) (CR C8.CX0 X.stack X.prog X.w G1 sh1 Qz C8.E0) sh1 := by
    refine run_ofS (N := Nz) (ps := [az]) (us := [.ref fl]) (vs := [.ref fl]) lk hcz Sz hr J1.env0 (hbz sh1 [.ref fl] J1.kIn rfl) (.cons rfl .nil) rfl fun hr2 => ?_
    obtain ⟨t', ht', hq'⟩ := hG fl cl sh1 G1 Qz (fun E H' Q' => tz E (startF N [] (js.map (slotAt σ))) H' Q') hr2 (fun W pn2 xe p1 p2 tk => pe_act0 S cp hfl hfn hfr' (hbind _ _ _ _ _) tk hr2 (fun A outer s H E hr3 => hbd A outer s H E fl cl hr3) hNz hvz hda hdc) hco (hyp G1 eN T1)
    exact ⟨t', ht'.nox, hq'⟩
  refine wpAny_call (codeAny_mono ran fun res sh2 hq => ?_)
  cases res with
  | error e => exact (show False from hq).elim
  | ok fw =>
    cases fw with
    | ret u => exact J1.after hq
    | next => exact False.elim hq
    | brk => exact False.elim hq
    | cont => exact False.elim hq
end
end KX

set_option maxRecDepth 100000
set_option maxHeartbeats 4000000
namespace KX
open PySem PySem.Spec PyProof.Rows L2
/-! ### tuple * number, the empty tuple too -/
theorem tuple_mul0 (l : Addr) (n : Nat) (dd : Option Addr) (sl : Array (Option Value)) (x : Int) (u : Tok) (c0 : (decide (x < -(2 ^ 63)) || decide (x ≥ 2 ^ 63)) = false) :
    Meets (Builtin.«tuple.__mul__» ⟨[.ref l, .int x u], []⟩) (fun _ R s => s.heap.get? l = some { cls := .type "tuple", dict := dd, data := .seq #[] n, slots := sl } ∧ R (.ok (.ret (Value.ref l))) s) :=
  .of_wp fun prog w A R s h => by
    obtain ⟨hp, g, d, tk, os⟩ := s
    obtain ⟨hl, h⟩ := h
    have c1 : ((#[] : Array Value).isEmpty || x == 1) = true := rfl
    have f1 := AutoSeq1.idx_int
    wp_walk using wpAny_loadPart' hl
    refine wpAny_ite_false (decide_eq_false (by rw [c0]; exact Bool.false_ne_true)) ?_
    wp_walk using wpAny_loadPart' hl
    exact ⟨_, rfl, h⟩
def rRepE (K : PySem.W.Frag) : R2 := fun x y H Q => ∃ l k xs, x = .ref l ∧ y = .int k ∧ SqT K H l xs ∧ 2 ≤ k ∧ k ≤ 1000 ∧ xs.length ≤ 1000 ∧ (xs = [] → Q (.ref l) H) ∧ (xs ≠ [] → ∀ p, H p = none → Q (.ref p) (upd H p (.tup (List.replicate k.toNat xs).flatten)))
theorem op_repE {X : Cx} : OpR X (binaryOp .Mult) (rRepE X.K) := by
  intro pins s σ H x y v u Q I rx ry h
  obtain ⟨l, k, xs, rfl, rfl, hT, h1, h2, hz, q0, q1⟩ := h
  by_cases hne : xs = []
  · subst hne
    cases rx
    obtain ⟨t, rfl⟩ := ry
    obtain ⟨its, r, ⟨⟨cls, dd, data, sl⟩, ho, hc, n, hd⟩, hs⟩ := I.tuple hT
    simp only at hc hd
    subst hc hd
    cases r
    have c0 : (decide (k < -(2 ^ 63)) || decide (k ≥ 2 ^ 63)) = false := by
      rw [decide_eq_false (by omega), decide_eq_false (by omega)] <;> rfl
    exact wpAny_binaryOp_repeat_ref (T := "tuple") (U := "int") (by decide) ⟨_, ho, rfl⟩ (fun s' => typeIs_int s' k t) noFill_tuple_mul F.fills_int_mul F.slot_int_rmul repeat_tuple F.slot_int_index.lookup
      (call_meets F.slot_int_rmul (typeIs_int s k t) F.entry_int_rmul (F.args_int_rmul_2 _ _) (int_rmul_tuple k t l #[] n dd sl)
        ⟨ho, rfl, ⟨_, ho, rfl⟩, call_meets F.slot_tuple_mul ⟨_, ho, rfl⟩ F.entry_tuple_mul (F.args_tuple_mul_2 _ _) (tuple_mul0 l n dd sl k t c0) ⟨ho, ⟨.ref l, H, I, rfl, q0 rfl⟩⟩⟩)
  · exact op_repT pins s σ H (.ref l) (.int k) v u Q I rx ry ⟨l, k, xs, rfl, rfl, hT, hne, h1, h2, hz, q1 hne⟩
section
variable {l : Addr} {P : PSt} {K : PySem.W.Frag} {ta tb : TE} {ds : List PyData}
theorem gd_repE {k : Int} (kp : Kp l P) (h : GD l P (· = .tuple ds) ta) (hb : GI l P (· = k) tb) (k2 : 2 ≤ k) (k1 : k ≤ 1000) (hz : ds.length ≤ 1000) :
    GD l P (· = .tuple (List.replicate k.toNat ds).flatten) (tOp (rRepE K) ta tb) := fun σ H Q st p q =>
  h σ H _ st p fun H1 v e s k1' st1 x => hb σ H1 _ st1 (kp _ _ _ k1' st1 p) fun H2 i hb k2' st2 => by
    subst s hb
    obtain ⟨a, xs, rfl, na, ea, hx⟩ := dx_tupOf (x.up k2'.same)
    have hl := hx.len
    refine ⟨a, i, xs, rfl, rfl, .inl (.inl ea), k2, k1, by omega, fun z => ?_, fun _ b nb => q _ _ _ rfl ((k1'.trans k2').new nb) (st2.new nb) (dx_tup nb st2 (dxs_rep hx _))⟩
    subst z
    have e : ds = [] := List.eq_nil_of_length_eq_zero (by simpa using hl.symm)
    subst e
    have e2 : (List.replicate i.toNat ([] : List PyData)).flatten = [] := by simp
    rw [e2] at q
    exact q _ _ _ rfl (k1'.trans k2') st2 (x.up k2'.same)
end
end KX

set_option maxRecDepth 100000
set_option maxHeartbeats 4000000
namespace KX
open PySem PySem.Spec PyProof.Rows L2 PySem.W
/-! ### sorted(t), t a tuple of alike data -/
section
variable {prog : Program} {w : World} {A : Around} {E : Value → Shared → Prop} {s : Shared} {β : Type} {us : List Value} {ps : List β} {code : β → PyData} {Rz : Value → β → Prop}
theorem each_later {h h' : Heap} (kp : ∀ b o, h.get? b = some o → h'.get? b = some o) (er : EachIs (fun v b => ∃ as, Reads h v (code b) as) us ps) : EachIs (fun v b => ∃ as, Reads h' v (code b) as) us ps :=
  er.mono fun _ _ ⟨as, r⟩ => ⟨as, PyProof.Rows.Reads.keeps kp r⟩
theorem sorted_tupD {tp : Addr} {ob : Obj} {n : Nat} {Qz : Value → Shared → Prop} (ho : s.heap.get? tp = some ob) (hc : ob.cls = .type "tuple") (hd : ob.data = .seq us.toArray n) (e : EachIs Rz us ps) (er : EachIs (fun v b => ∃ as, Reads s.heap v (code b) as) us ps)
    (hal : AllAlike (ps.map code)) (hk : Sortable (ps.map code)) (hL : ps.length ≤ sizeLine) (hu : ∀ b, b ∈ ps → A.units + 2 + (code b).depth < cLine)
    (hq : ∀ (h' : Heap) (out : List Value), (∀ b o, s.heap.get? b = some o → h'.get? b = some o) → out.length = ps.length → EachIs Rz out (ps.mergeSort (dataLe false code)) →
      Qz (.ref h'.objs.size) { s with heap := sortedHeap (h'.push (seqObj "list" us.toArray 0)) h'.objs.size us (List.toArray out) }) :
    wpAny (model prog w) A (call (.builtin "sorted") [.ref tp]) Qz E s := by
  have hlen : us.length ≤ sizeLine := by rw [e.length]; exact hL
  refine call_function_entry_kw kind_sorted plain_sorted entry_sorted (args_sorted1 _) ?_
  unfold Builtin.«sorted»
  refine wpAny_bind (m := checkCount "sorted" 1 1 _) (wpAny_pure ?_)
  refine wpAny_bind (wpAny_collect_seq tp (.inr rfl) ho hc hd (fun h1 kp => ?_) (by rw [List.size_toArray]; exact hlen))
  rw [List.toList_toArray]
  refine wpAny_bind (wpAny_newList ?_ hlen)
  have at1 : (h1.push (seqObj "list" us.toArray 0)).get? h1.objs.size = some (seqObj "list" us.toArray 0) := Heap.get?_push_size _ rfl
  have old1 : ∀ b o, s.heap.get? b = some o → (h1.push (seqObj "list" us.toArray 0)).get? b = some o := fun b o q => Heap.get?_push_of_some _ (kp b o q)
  refine wpAny_bind (wpAny_holding (wpAny_call_entry_kw slot_list_sort ⟨_, at1, rfl⟩ entry_list_sort ?body (args_list_sort _)))
  case body =>
    show wpAny (model prog w) A.in1.in1 (Builtin.«list.sort» ⟨[.ref h1.objs.size], []⟩) _ _ { s with heap := h1.push (seqObj "list" us.toArray 0) }
    have er' : EachIs (fun v b => ∃ as, Reads (sortingHeap (h1.push (seqObj "list" us.toArray 0)) h1.objs.size us) v (code b) as) us ps :=
      each_later (fun b o q => sortingHeap_old (Nat.ne_of_lt (Heap.lt_size (kp b o q))) (old1 b o q)) er
    refine list_sort_vals (s := { s with heap := h1.push (seqObj "list" us.toArray 0) }) at1 (SortsAt.data (s := { s with heap := sortingHeap (h1.push (seqObj "list" us.toArray 0)) h1.objs.size us }) (each_map (R := fun v d => ∃ as, Reads (sortingHeap (h1.push (seqObj "list" us.toArray 0)) h1.objs.size us) v d as) code er') hal hk (bound_map hu)) hlen ?_
    exact ⟨.none, rfl, wpAny_pure ⟨_, rfl, hq h1 _ kp (by rw [sortVals_length false rfl]; exact e.length) (sortVals_data false e er' hal)⟩⟩
end
section
variable {X : Cx}
/-- sorted(t), t a tuple of alike data -/
def rSortT {β : Type} (K : PySem.W.Frag) (enc : β → PyData) : List V → Hp → VK → Prop := fun vs H Q => ∃ (a : Addr) (bs : List (V × β)), vs = [.ref a] ∧ SqT K H a (bs.map (·.1)) ∧ (∀ b ∈ bs, Dp K H b.1 (enc b.2)) ∧ AllAlike (bs.map fun b => enc b.2) ∧ Sortable (bs.map fun b => enc b.2) ∧
  (∀ b ∈ bs, (enc b.2).depth ≤ 50) ∧ ∀ p, H p = none → Q (.ref p) (L2.upd H p (.lst ((bs.mergeSort (dataLe false fun b => enc b.2)).map (·.1))))
theorem cr_sortT {β : Type} {enc : β → PyData} {k : Nat} (hr : Room k X.A) : CallR X (.builtin "sorted") (rSortT X.K enc) := by
  intro pins s σ H vs us Q I r h
  obtain ⟨a, bs, e, hS, hd, hal, hk, hu, q⟩ := h
  subst e
  obtain ⟨u, rfl, ru⟩ := vals1 r
  cases ru
  obtain ⟨its, rv, ⟨ob, ho, hc, n, hdat⟩, hz⟩ := I.tuple hS
  have hlen := rv.length
  rw [List.length_map] at hlen hz
  have er : EachIs (fun v (b : V × β) => ∃ as, Reads s.heap v (enc b.2) as) its bs := each_pairs (by omega) fun i u b e f => by
    obtain ⟨u', e', ru⟩ := rv.get (i := i) (x := b.1) (by rw [List.getElem?_map, f]; rfl)
    rw [e] at e'
    cases e'
    exact Dp.reads I (enc b.2) b.1 u (hd b (List.mem_of_getElem? f)) ru
  have eR : EachIs (fun v (b : V × β) => RelV b.1 v) its bs := each_pairs (by omega) fun i u b e f => by
    obtain ⟨u', e', ru⟩ := rv.get (i := i) (x := b.1) (by rw [List.getElem?_map, f]; rfl)
    rw [e] at e'
    cases e'
    exact ru
  have hun := hr.un
  refine sorted_tupD (code := fun b : V × β => enc b.2) ho hc hdat eR er hal hk (by omega) (fun b hb => by have := hu b hb; omega) fun h1 out kp hl he => ?_
  have rel : ∀ {ws : List Value} {ps : List (V × β)}, EachIs (fun v (b : V × β) => RelV b.1 v) ws ps → Vals (ps.map (·.1)) ws := by
    intro ws ps e
    induction e with
    | nil => exact .nil
    | cons h t ih => exact .cons h ih
  have at1 : (h1.push (seqObj "list" its.toArray 0)).get? h1.objs.size = some (seqObj "list" its.toArray 0) := Heap.get?_push_size _ rfl
  obtain ⟨ep, hep⟩ := sortedHeap_at (out := out.toArray) at1
  have J : Inv X pins σ H { s with heap := h1 } := I.kept (t' := s.toks) kp
  have old : ∀ b o, h1.get? b = some o → (sortedHeap (h1.push (seqObj "list" its.toArray 0)) h1.objs.size its out.toArray).get? b = some o := fun b o q => by
    have lt := Heap.lt_size q
    rw [sortedHeap_old (Nat.ne_of_lt lt) (by rw [size_push']; exact Nat.lt_succ_of_lt lt)]
    exact Heap.get?_push_of_some _ q
  refine ⟨.ref h1.objs.size, _, J.laid (t' := s.toks) old (Nat.le_refl _) (o := .lst ((bs.mergeSort (dataLe false fun b => enc b.2)).map (·.1))) ⟨?_, out, ep, rel he, hep⟩, rfl, q _ (J.hok.fresh (Nat.le_refl _))⟩
  rw [List.length_map, List.length_mergeSort]
  omega
end
end KX

set_option maxRecDepth 100000
set_option maxHeartbeats 4000000
namespace G1
open PySem PySem.Spec PyProof.Rows L2 KX
/-- an own class over ValueError without an __init__ -/
structure OC (K : PySem.W.Frag) (mg : Str → Option Value) (x : Str) (R : Addr) : Prop where
  g : mg x = some (.ref R)
  q : PySem.W.excIn K R [.type "ValueError", .type "Exception", .type "BaseException", .type "object"] "ValueError.__new__" = true
  kp : PySem.W.keepIn K (.ref R) = true
  sub : PySem.W.subIn K (.ref R) (.type "BaseException") = some true
  ty : PySem.W.typeIn K (.ref R) = some (.type "type")
abbrev sCR : Stmt := topS 33
abbrev sWO : Stmt := topS 29
abbrev sRW : Stmt := topS 35
structure RsOk (rs : List Rec) : Prop where
  le : rs.length ≤ 60
  row : (rs.map encR).all rowD = true
  one : oneW rs = true
  asc : ascS (rs.map (·.nm)) = true
theorem rowset_rec {d : PyData} (h : rowsetD d = true) : ∃ rs, d = .tuple (rs.map encR) ∧ RsOk rs := by
  cases d with
  | tuple ds =>
    have h : (decide (ds.length ≤ 60) && ((ds.all rowD && oneW (ds.map recD)) && ascS ((ds.map recD).map (·.nm)))) = true := h
    simp only [Bool.and_eq_true] at h
    obtain ⟨h1, ⟨h2, h3⟩, h4⟩ := h
    obtain ⟨rs, rfl⟩ := rows_rec h2
    rw [recs_back] at h3 h4
    rw [List.length_map] at h1
    exact ⟨rs, rfl, of_decide_eq_true h1, h2, h3, h4⟩
  | _ => cases h
def spCR (R : Addr) : Sp := fun vs H Q E => ∃ (v : V) (d : PyData), vs = [v] ∧ Dx H v d ∧ SmR d ∧ (rowsetD d = true → ∀ H', Same H H' → Q .non H') ∧ (rowsetD d = false → ∀ H', Same H H' → E (.ref R) none H')
theorem scCR : FnScope ["rowset"] ["rowset"] (defScope sCR) := ⟨rfl, rfl, rfl, by decide +kernel, rfl, by decide +kernel, by decide +kernel⟩
theorem scWO : FnScope ["rows"] ["rows"] (defScope sWO) := ⟨rfl, rfl, rfl, by decide +kernel, rfl, by decide +kernel, by decide +kernel⟩
theorem scRW : FnScope ["rowset"] ["rowset"] (defScope sRW) := ⟨rfl, rfl, rfl, by decide +kernel, rfl, by decide +kernel, by decide +kernel⟩
section
variable {P : Program} {w : World} {K : PySem.W.Frag} {mg : Str → Option Value} {base : Heap} {R : Addr}
theorem ok_cr {k : Nat} {f fI : Addr} {fd fdI : FuncData} (T : OC K mg "InvalidRowset" R) (D : Df K mg "check_rowset" sCR ["rowset"] f fd) (DI : Df K mg "is_rowset" sIR ["value"] fI fdI) (GI' : FnOk P w K mg base CX0 k fI fdI ["value"] spIR) :
    FnOk P w K mg base (L2.CX P w) (k + 1) f fd ["rowset"] (spCR R) := by
  refine D.F.okX scCR (fun vs H Q E h => ?_) (fun cdv A outer s H vs Q E hr h => ?_)
  · obtain ⟨v, d, rfl, _⟩ := h
    rfl
  · obtain ⟨v, d, rfl, hd, sm, q1, q2⟩ := h
    refine ⟨_, pss_one (ps_if (pt_not (pt_val (pe_call GI' hr (by rfl) DI.g DI.F.kp DI.b .nil pass0 (pa_cons (pv 0) pa_nil))))
        (pss_one (ps_raise rfl (takes_of rfl rfl rfl rfl) (pmk_own PySem.F.excBase_ValueError T.q T.g T.kp (raises_own T.sub T.ty) (by rfl)))) pss_nil), ?_⟩
    refine ⟨v, rfl, v, d, rfl, hd, sm, fun G sG => ⟨_, rfl, ?_⟩⟩
    cases e : rowsetD d with
    | true => exact iteF (q1 e G sG)
    | false => exact iteT (q2 e G sG)
def widthI : List Rec → Int
  | [] => 4
  | r :: _ => (r.vals.length : Int)
def spWO : Sp := fun vs H Q _ => ∃ (v : V) (rs : List Rec), vs = [v] ∧ Dx H v (.tuple (rs.map encR)) ∧ ∀ H', Same H H' → Q (.int (widthI rs)) H'
theorem ok_wo {f : Addr} {fd : FuncData} (B : Bl mg) (cv : ∃ t, mg "VALUES" = some (.int 2 t)) (cw : ∃ t, mg "MAX_WIDTH" = some (.int 4 t)) (D : Df K mg "width_of" sWO ["rows"] f fd) : FnOk P w K mg base CX0 1 f fd ["rows"] spWO := by
  obtain ⟨tv, mv⟩ := cv
  obtain ⟨tw, mw⟩ := cw
  refine D.F.ok scWO (fun vs H Q E h => ?_) (fun cdv A outer s H vs Q E hr h => ?_)
  · obtain ⟨v, rs, rfl, _⟩ := h
    rfl
  · obtain ⟨v, rs, rfl, hd, q⟩ := h
    refine ⟨_, pss_one (ps_ret (pe_ifExp (pt_truth (pv 0) (fun _ => rfl)) (pe_callB (call_lenK (K := K) rfl) (by rfl) B.len PySem.boot_len (pa_cons (pe_ix (r := rIxT K) ix_tup (pe_ix (r := rIxT K) ix_tup (pv 0) pe_int (fun _ _ => rfl)) (pe_glob (v := .int 2) (by rfl) mv ⟨_, rfl⟩) (fun _ _ => rfl)) pa_nil)) (pe_glob (v := .int 4) (by rfl) mw ⟨_, rfl⟩))), ?_⟩
    cases hd with
    | @tup a xs _ ea h =>
    refine ⟨.ref a, rfl, _, .inr (.inl ⟨xs, .inl (.inl ea), rfl⟩), ?_⟩
    cases rs with
    | nil =>
      cases h
      exact iteF (q H (Same.refl H))
    | cons r rs =>
      cases h with
      | @cons v vs _ _ h1 t =>
        obtain ⟨b, z, zs, rfl, eb, ez, ev⟩ := row_dx h1
        refine iteT ⟨.ref a, rfl, a, _, 0, .ref b, rfl, rfl, .inl (.inl ea), atI_nat (j := 0) rfl, b, _, 2, .ref z, rfl, rfl, .inl (.inl eb), rfl, z, zs, rfl, .inr (.inl (.inl ez)), ?_⟩
        rw [ev, List.length_map]
        exact q H (Same.refl H)
/-- a function of a checked rowset -/
def spOf (R : Addr) (val : List Rec → V → Hp → Prop) : Sp := fun vs H Q E => ∃ (v : V) (d : PyData), vs = [v] ∧ Dx H v d ∧ SmR d ∧ (rowsetD d = false → ∀ H', Same H H' → E (.ref R) none H') ∧ ∀ rs, d = .tuple (rs.map encR) → RsOk rs → ∀ H' x, Same H H' → val rs x H' → Q x H'
theorem ok_rw {k : Nat} {f fC fW : Addr} {fd fdC fdW : FuncData} (D : Df K mg "rowset_width" sRW ["rowset"] f fd) (DC : Df K mg "check_rowset" sCR ["rowset"] fC fdC) (DW : Df K mg "width_of" sWO ["rows"] fW fdW)
    (GC : FnOk P w K mg base (L2.CX P w) k fC fdC ["rowset"] (spCR R)) (GW : FnOk P w K mg base CX0 k fW fdW ["rows"] spWO) : FnOk P w K mg base (L2.CX P w) (k + 1) f fd ["rowset"] (spOf R fun rs x _ => x = .int (widthI rs)) := by
  refine D.F.okX scRW (fun vs H Q E h => ?_) (fun cdv A outer s H vs Q E hr h => ?_)
  · obtain ⟨v, d, rfl, _⟩ := h
    rfl
  · obtain ⟨v, d, rfl, hd, sm, qe, q⟩ := h
    refine ⟨_, pss_cons (ps_expr (pe_callS GC hr (by rfl) DC.g DC.F.kp DC.b (fun σ => passAt (takes_of rfl rfl rfl rfl) σ) (pa_cons (pv 0) pa_nil)))
      (pss_one (ps_ret (pe_call GW hr (by rfl) DW.g DW.F.kp DW.b .nil pass0 (pa_cons (pv 0) pa_nil)))), ?_⟩
    refine ⟨v, rfl, v, d, rfl, hd, sm, fun e G sG => ?_, qe⟩
    obtain ⟨rs, rfl, ok⟩ := rowset_rec e
    exact ⟨v, rfl, v, rs, rfl, hd.up sG, fun G2 s2 => q rs rfl ok G2 _ (sG.trans s2) rfl⟩
end
end G1

set_option maxRecDepth 100000
set_option maxHeartbeats 2000000
namespace G1
open PySem PySem.Spec PyProof.Rows L2 KX
theorem sm_name {n : Nat} {x : Str} (hn : n < 61) (h : NameOf n x) : smS (.str x) := by
  have hb : (8 : Nat) ≤ sizeLine := by decide
  exact Nat.le_trans (name_ok hn h).2 hb
def ROk (wd : Nat) (r : Rec) : Prop := ∃ n, n < 61 ∧ RecOk wd n r
theorem rec_sm {wd : Nat} {r : Rec} (h : ROk wd r) : smA (encR r) := fun d hd => by
  obtain ⟨n, hn, o⟩ := h
  simp at hd
  rcases hd with rfl | rfl | rfl | rfl
  · exact sm_name hn o.nm
  all_goals trivial
theorem rec_rd {wd : Nat} {r : Rec} (h : ROk wd r) (w1 : 1 ≤ wd) (w4 : wd ≤ 4) : rowD (encR r) = true := by
  obtain ⟨n, hn, o⟩ := h
  exact rec_row hn o w1 w4
theorem wtAll_le {W : Nat} : ∀ {es : List PyData}, (∀ e ∈ es, wt e ≤ W) → wtAll es ≤ es.length * W
  | [], _ => by simp [wtAll]
  | e :: es, h => by
    have h1 := h e (by simp)
    have h2 := wtAll_le (es := es) fun x hx => h x (by simp [hx])
    simp only [wtAll, List.length_cons, Nat.succ_mul]
    omega
theorem depthAll_le {k : Nat} : ∀ {es : List PyData}, (∀ e ∈ es, e.depth ≤ k) → PyData.depthAll es ≤ k
  | [], _ => by simp [PyData.depthAll]
  | e :: es, h => by
    have h1 := h e (by simp)
    have h2 := depthAll_le (es := es) fun x hx => h x (by simp [hx])
    simp only [PyData.depthAll]
    omega
theorem rec_fine {wd : Nat} {r : Rec} (h : ROk wd r) (hw : wd ≤ 4) : fine (10 ^ 40) (encR r) = true ∧ wt (encR r) ≤ 20 ∧ (encR r).depth ≤ 50 := by
  obtain ⟨n, hn, h⟩ := h
  have l8 := (name_ok hn h.nm).2
  have hl := h.len
  have c0 := h.c0
  have c1 := h.c1
  have e0 := h.e0
  have e1 := h.e1
  obtain ⟨suf, ex, hs, hx⟩ := h.nm
  refine ⟨?_, ?_, depth_rec r⟩
  · simp only [encR, fine, fineAll, Bool.and_eq_true]
    refine ⟨?_, decide_eq_true (by omega), fine_ints _ h.vs (by decide), decide_eq_true (by omega), trivial⟩
    refine List.all_eq_true.mpr fun c hc => decide_eq_true ?_
    rw [ex] at hc
    rcases List.mem_append.mp hc with hc | hc
    · unfold baseL at hc
      rcases List.mem_append.mp hc with hc | hc
      · rcases List.mem_append.mp hc with hc | hc
        · have := List.mem_singleton.mp hc
          omega
        · split at hc
          · have := List.mem_singleton.mp hc
            omega
          · cases hc
      · split at hc
        · have := List.mem_singleton.mp hc
          omega
        · cases hc
    · have := hs c hc
      omega
  · simp only [encR, wt, wtAll, wt_ints]
    omega
theorem big_show {d : PyData} (f : fine (10 ^ 40) d = true) (h2 : wt d ≤ 2000) (h3 : d.depth ≤ 100) : d.showable = true ∧ d.depth ≤ 100 ∧ d.shown.length ≤ sizeLine := by
  have h1 := shown_le (B := 10 ^ 40) (by decide) d f
  refine ⟨showable_fine (B := 10 ^ 40) (by decide) d f, h3, ?_⟩
  rw [sizeLine_eq]
  omega
/-! ### names up to number 60 -/
theorem base_cases (n : Nat) (hn : n < 61) : (n < 52 ∧ baseL n = (97 + n / 2) :: (if n % 2 = 1 then [97] else [])) ∨ (52 ≤ n ∧ baseL n = (97 + (n / 2 - 26)) :: ((if n % 2 = 1 then [97] else []) ++ [98])) := by
  by_cases h : n < 52
  · refine .inl ⟨h, ?_⟩
    have m26 : n / 2 % 26 = n / 2 := Nat.mod_eq_of_lt (by omega)
    have g51 : ¬ n > 51 := by omega
    simp [baseL, m26, g51]
  · refine .inr ⟨by omega, ?_⟩
    have m26 : n / 2 % 26 = n / 2 - 26 := by omega
    have g51 : n > 51 := by omega
    have d52 : n / 52 = 1 := by omega
    simp [baseL, m26, g51, d52]
theorem name_inj {n m : Nat} {x : Str} (hn : n < 61) (hm : m < 61) (h1 : NameOf n x) (h2 : NameOf m x) : n = m := by
  obtain ⟨s1, e1, _, k1⟩ := h1
  obtain ⟨s2, e2, _, k2⟩ := h2
  rw [e1] at e2
  rcases base_cases n hn with ⟨a1, b1⟩ | ⟨a1, b1⟩ <;> rcases base_cases m hm with ⟨a2, b2⟩ | ⟨a2, b2⟩ <;> rw [b1, b2] at e2 <;> simp only [List.cons_append, List.cons.injEq] at e2 <;> obtain ⟨e3, e4⟩ := e2 <;>
    rcases Nat.mod_two_eq_zero_or_one n with z | z <;> rcases Nat.mod_two_eq_zero_or_one m with y | y <;> simp [z, y] at e4 <;> have l := congrArg List.length e4 <;> (try simp at l) <;> (try omega)
/-- a text that may be a name's: a letter first, a or b second -/
def nmx : List Nat → Bool
  | [] => false
  | [c] => decide (97 ≤ c)
  | c :: d :: _ => decide (97 ≤ c) && decide (d ≤ 98)
theorem nmx_of {n : Nat} {x : Str} (hn : n < 61) (h : NameOf n x) : nmx x.cps.toList = true := by
  obtain ⟨s, e, _, k⟩ := h
  rw [e]
  rcases base_cases n hn with ⟨a1, b1⟩ | ⟨a1, b1⟩ <;> rw [b1] <;> rcases Nat.mod_two_eq_zero_or_one n with z | z <;> simp [z]
  · have : s = [] := List.eq_nil_of_length_eq_zero (by omega)
    subst this
    simp [nmx]
  · simp [nmx]
  · simp [nmx]
  · simp [nmx]
def leN (a b : Str) : Bool := decide (a.cps.toList ≤ b.cps.toList)
theorem le_rec {a b : Rec} (h : a.nm = b.nm → a = b) : PySem.W.dataLe false encR a b = leN a.nm b.nm := by
  show (!PySem.W.dataLt (encR b) (encR a)) = _
  by_cases e : a.nm = b.nm
  · have := h e
    subst this
    have z : PySem.W.dataLt (encR a) (encR a) = false := lex_irrefl _
    rw [z]
    exact (decide_eq_true (List.le_refl _)).symm
  · have ne : PyData.eqv (.str b.nm) (.str a.nm) = false := by
      simp [PyData.eqv]
      exact fun z => e z.symm
    unfold encR
    rw [PySem.W.dataLt_tuple, PySem.W.dataLt_cons (by simp [PySem.W.alike]), ne, if_neg (by decide), PySem.W.dataLt_str]
    exact PySem.W.not_lt_str _ _
theorem made_dist {wd : Nat} {recs : List Rec} (h : Made wd recs) (hl : recs.length ≤ 61) : ∀ a ∈ recs, ∀ b ∈ recs, a.nm = b.nm → a = b := fun r1 h1 r2 h2 e => by
  obtain ⟨i, hi, e1⟩ := List.getElem_of_mem h1
  obtain ⟨j, hj, e2⟩ := List.getElem_of_mem h2
  have a := (h i r1 (by rw [List.getElem?_eq_getElem hi, e1])).nm
  have b := (h j r2 (by rw [List.getElem?_eq_getElem hj, e2])).nm
  rw [e] at a
  have := name_inj (by omega) (by omega) a b
  subst this
  rw [← e1, ← e2]
theorem made_nodup {wd : Nat} {recs : List Rec} (h : Made wd recs) (hl : recs.length ≤ 61) : (recs.map (·.nm)).Nodup := by
  rw [List.nodup_iff_pairwise_ne, List.pairwise_iff_getElem]
  intro i j hi hj lt e
  rw [List.length_map] at hi hj
  rw [List.getElem_map, List.getElem_map] at e
  have a := (h i _ (List.getElem?_eq_getElem hi)).nm
  have b := (h j _ (List.getElem?_eq_getElem hj)).nm
  rw [e] at a
  have := name_inj (by omega) (by omega) a b
  omega
theorem names_sort {wd : Nat} {recs : List Rec} (h : Made wd recs) (hl : recs.length ≤ 61) : (sortR recs).map (·.nm) = (recs.map (·.nm)).mergeSort leN :=
  List.map_mergeSort fun a ha b hb => le_rec (made_dist h hl a ha b hb)
theorem le_tot (a b : Str) : (leN a b || leN b a) = true := by
  unfold leN
  rcases List.le_total a.cps.toList b.cps.toList with h | h
  · rw [decide_eq_true h]; rfl
  · rw [decide_eq_true h]; simp
theorem le_tr (a b c : Str) (h1 : leN a b = true) (h2 : leN b c = true) : leN a c = true :=
  decide_eq_true (List.le_trans (of_decide_eq_true h1) (of_decide_eq_true h2))
theorem asc_of : ∀ {ns : List Str}, ns.Pairwise (fun a b => leN a b = true) → ns.Nodup → ascS ns = true
  | [], _, _ => rfl
  | [_], _, _ => rfl
  | a :: b :: r, hp, nd => by
    have le : a.cps.toList ≤ b.cps.toList := of_decide_eq_true ((List.pairwise_cons.mp hp).1 b (by simp))
    have ne : a ≠ b := fun z => (List.nodup_cons.mp nd).1 (by rw [z]; simp)
    have lt : a.cps.toList < b.cps.toList := by
      rcases List.le_iff_lt_or_eq.mp le with h | h
      · exact h
      · exact absurd (by
          cases a with
          | mk x =>
            cases b with
            | mk y =>
              have : x = y := Array.toList_inj.mp h
              rw [this]) ne
    show (ltS a b && ascS (b :: r)) = true
    rw [asc_of (List.pairwise_cons.mp hp).2 (List.nodup_cons.mp nd).2]
    show (decide _ && true) = true
    rw [decide_eq_true lt]
    rfl
theorem asc_sort {wd : Nat} {recs : List Rec} (h : Made wd recs) (hl : recs.length ≤ 61) : ascS ((sortR recs).map (·.nm)) = true := by
  rw [names_sort h hl]
  exact asc_of (List.pairwise_mergeSort le_tr le_tot _) ((List.mergeSort_perm _ _).nodup_iff.mpr (made_nodup h hl))
theorem names_nodup {wd : Nat} {recs : List Rec} (h : Made wd recs) (hl : recs.length ≤ 61) : ((sortR recs).map (·.nm)).Nodup := by
  rw [names_sort h hl]
  exact (List.mergeSort_perm _ _).nodup_iff.mpr (made_nodup h hl)
theorem sort_rok {wd : Nat} {recs : List Rec} (h : Made wd recs) (hl : recs.length ≤ 61) : ∀ r ∈ sortR recs, ROk wd r := fun r hr => by
  have hr : r ∈ recs := List.mem_mergeSort.mp hr
  obtain ⟨i, hi, e⟩ := List.getElem_of_mem hr
  exact ⟨i, by omega, h i r (by rw [List.getElem?_eq_getElem hi, e])⟩
theorem eqv_ints : ∀ xs ys : List Int, PyData.eqvAll (xs.map .int) (ys.map .int) = decide (xs = ys)
  | [], [] => by simp [PyData.eqvAll]
  | [], y :: ys => by simp [PyData.eqvAll]
  | x :: xs, [] => by simp [PyData.eqvAll]
  | x :: xs, y :: ys => by
    rw [List.map_cons, List.map_cons, PySem.W.eqv_all_cons, eqv_ints xs ys]
    by_cases h : x = y <;> by_cases h2 : xs = ys <;> simp [PyData.eqv, h, h2]
/-! ### [row for row in rows if ..] -/
theorem filter_at (f : Rec → Bool) {rs : List Rec} {i : Nat} {r : Rec} (h : rs[i]? = some r) : (rs.take (i + 1)).filter f = (rs.take i).filter f ++ (if f r = true then [r] else []) := by
  rw [List.take_add_one, h, List.filter_append]
  by_cases z : f r = true
  · simp [z]
  · simp [z]
theorem lc_filter {K : PySem.W.Frag} {a D : Addr} {xs : List V} {rs : List Rec} {g : TG} {tt : TT} {te : TE} {vs : List Nat} {σ : L2.St} {H1 : Hp} {Qd : Hp → Prop} (f : Rec → Bool) (nD : H1 D = none) (ea : H1 a = some (.tup xs)) (hx : Dxs H1 xs (rs.map encR)) (hl : rs.length ≤ 1000)
    (hs : ∀ (r : Rec) (x : V) (G : Hp), r ∈ rs → Same H1 G → Dx G x (encR r) → ∀ (Pt : V → Hp → Prop) (Pf : Hp → Prop), (if f r = true then Pt x G else Pf G) → g x (wipe σ vs) G fun σ2 H2 => wipe σ2 vs = wipe σ vs ∧ tt σ2 H2 fun b H3 => if b = true then te σ2 H3 Pt else Pf H3)
    (hd : ∀ G ys, Same H1 G → G D = some (.lst ys) → Dxs (hid D G) ys ((rs.filter f).map encR) → Qd G) :
    ∃ W : Nat → Nat → Hp → Prop, (∃ m, W 0 m (upd H1 D (.lst []))) ∧ ∀ i m H, W i m H →
      ((Itt K a).stop i H ∧ Qd H) ∨ ((Itt K a).go i H ∧ ∃ Nx : Hp → Prop, (∀ H', Nx H' → ∃ m', m' < m ∧ W (i + 1) m' H') ∧ ∀ x H', (Itt K a).yld i H x H' → g x (wipe σ vs) H' fun σ2 H2 => wipe σ2 vs = wipe σ vs ∧ tt σ2 H2 fun b H3 =>
        if b = true then te σ2 H3 fun y H4 => ∃ acc, H4 D = some (.lst acc) ∧ acc.length < sizeLine ∧ Nx (upd H4 D (.lst (acc ++ [y]))) else Nx H3) := by
  have lx := hx.len
  rw [List.length_map] at lx
  refine lc_tup (xs := xs) (fun i G => Same H1 G ∧ ∃ ys, G D = some (.lst ys) ∧ Dxs (hid D G) ys (((rs.take i).filter f).map encR)) ⟨same_new nD, [], upd_same, .nil⟩ (fun i G _ hG => .inl (.inl (hG.1 _ _ ea))) (fun i x G hxi hG => ?_) (fun G hG => ?_)
  · obtain ⟨sG, ys, eD, hy⟩ := hG
    obtain ⟨d, ed, hdx⟩ := hx.get' hxi
    rw [List.getElem?_map] at ed
    obtain ⟨r, er, rfl⟩ := Option.map_eq_some_iff.mp ed
    have el := filter_at f er
    have ly : ys.length ≤ i := by
      rw [hy.len, List.length_map]
      exact Nat.le_trans (List.length_filter_le _ _) (by rw [List.length_take]; omega)
    have ii : i < rs.length := (List.getElem?_eq_some_iff.mp er).1
    refine hs r x G (List.mem_of_getElem? er) sG (hdx.up sG) _ _ ?_
    by_cases lt : f r = true
    · rw [if_pos lt] at el ⊢
      refine ⟨ys, eD, ?_, same_at sG nD, ys ++ [x], upd_same, ?_⟩
      · have hb : (1000 : Nat) < sizeLine := by decide
        omega
      · rw [el, List.map_append]
        refine (hy.up fun c u e => ?_).app (.cons ((hdx.up (H' := hid D (upd G D (.lst (ys ++ [x])))) fun c u e => ?_)) .nil)
        · obtain ⟨nc, e⟩ := hid_some e
          rw [hid_at nc, upd_ne nc]
          exact e
        · have nc : c ≠ D := ne_of_none e nD
          rw [hid_at nc, upd_ne nc]
          exact sG _ _ e
    · rw [if_neg lt] at el ⊢
      rw [List.append_nil] at el
      exact ⟨sG, ys, eD, by rw [el]; exact hy⟩
  · obtain ⟨sG, ys, eD, hy⟩ := hG
    rw [List.take_of_length_le (by omega)] at hy
    exact hd G ys sG eD hy
/-- a list of ints out of the rows -/
theorem lc_ints {K : PySem.W.Frag} {a D : Addr} {xs : List V} {rs : List Rec} {g : TG} {tt : TT} {te : TE} {vs : List Nat} {σ : L2.St} {H1 : Hp} {Qd : Hp → Prop} (f : Rec → Int) (nD : H1 D = none) (ea : H1 a = some (.tup xs)) (hx : Dxs H1 xs (rs.map encR)) (hl : rs.length ≤ 1000)
    (hs : ∀ (r : Rec) (x : V) (G : Hp), r ∈ rs → Same H1 G → Dx G x (encR r) → ∀ (Pt : V → Hp → Prop) (Pf : Hp → Prop), Pt (.int (f r)) G → g x (wipe σ vs) G fun σ2 H2 => wipe σ2 vs = wipe σ vs ∧ tt σ2 H2 fun b H3 => if b = true then te σ2 H3 Pt else Pf H3)
    (hd : ∀ G, Same H1 G → G D = some (.lst ((rs.map f).map V.int)) → Qd G) :
    ∃ W : Nat → Nat → Hp → Prop, (∃ m, W 0 m (upd H1 D (.lst []))) ∧ ∀ i m H, W i m H →
      ((Itt K a).stop i H ∧ Qd H) ∨ ((Itt K a).go i H ∧ ∃ Nx : Hp → Prop, (∀ H', Nx H' → ∃ m', m' < m ∧ W (i + 1) m' H') ∧ ∀ x H', (Itt K a).yld i H x H' → g x (wipe σ vs) H' fun σ2 H2 => wipe σ2 vs = wipe σ vs ∧ tt σ2 H2 fun b H3 =>
        if b = true then te σ2 H3 fun y H4 => ∃ acc, H4 D = some (.lst acc) ∧ acc.length < sizeLine ∧ Nx (upd H4 D (.lst (acc ++ [y]))) else Nx H3) := by
  have lx := hx.len
  rw [List.length_map] at lx
  refine lc_tup (xs := xs) (fun i G => Same H1 G ∧ G D = some (.lst (((rs.take i).map f).map V.int))) ⟨same_new nD, upd_same⟩ (fun i G _ hG => .inl (.inl (hG.1 _ _ ea))) (fun i x G hxi hG => ?_) (fun G hG => ?_)
  · obtain ⟨sG, eD⟩ := hG
    obtain ⟨d, ed, hdx⟩ := hx.get' hxi
    rw [List.getElem?_map] at ed
    obtain ⟨r, er, rfl⟩ := Option.map_eq_some_iff.mp ed
    have ii : i < rs.length := (List.getElem?_eq_some_iff.mp er).1
    refine hs r x G (List.mem_of_getElem? er) sG (hdx.up sG) _ _ ?_
    refine ⟨_, eD, ?_, same_at sG nD, ?_⟩
    · rw [List.length_map, List.length_map, List.length_take]
      have hb : (1000 : Nat) < sizeLine := by decide
      omega
    · rw [upd_same, List.take_add_one, er, List.map_append, List.map_append]
      rfl
  · obtain ⟨sG, eD⟩ := hG
    rw [List.take_of_length_le (by omega)] at eD
    exact hd G sG eD
theorem dx_tup' {H : Hp} {v : V} {ds : List PyData} (h : Dx H v (.tuple ds)) : ∃ a xs, v = .ref a ∧ H a = some (.tup xs) ∧ Dxs H xs ds := by
  cases h with
  | @tup a xs _ ea h => exact ⟨a, xs, rfl, ea, h⟩
theorem eqv_self (r : Rec) : PyData.eqv (encR r) (encR r) = true := by
  simp [encR, PyData.eqv, PyData.eqvAll, eqv_ints]
theorem eqv_rows : ∀ rs : List Rec, PyData.eqvAll (rs.map encR) (rs.map encR) = true
  | [] => by simp [PyData.eqvAll]
  | r :: rs => by simp [PyData.eqvAll, eqv_self, eqv_rows rs]
theorem eqv_tup (rs : List Rec) : PyData.eqv (.tuple (rs.map encR)) (.tuple (rs.map encR)) = true := by simpa [PyData.eqv] using eqv_rows rs
theorem plain_rows : ∀ rs : List Rec, PyData.plainAll (rs.map encR) = true
  | [] => by simp [PyData.plainAll]
  | r :: rs => by simp [PyData.plainAll, plain_rec, plain_rows rs]
theorem plain_tup (rs : List Rec) : (PyData.tuple (rs.map encR)).plain = true := by simpa [PyData.plain] using plain_rows rs
theorem deep_rows (rs : List Rec) : PyData.depthAll (rs.map encR) ≤ 50 := depthAll_le fun e he => by
  obtain ⟨r, _, rfl⟩ := List.mem_map.mp he
  exact depth_rec r
theorem deep_tup (rs : List Rec) : (PyData.tuple (rs.map encR)).depth ≤ 64 := by
  have := deep_rows rs
  simp only [PyData.depth]
  omega
theorem dp_tup {K : PySem.W.Frag} {H : Hp} {v : V} {rs : List Rec} (h : Dx H v (.tuple (rs.map encR))) : Dp K H v (.tuple (rs.map encR)) := dp_dx _ _ (plain_tup rs) h
theorem any_self {bs : List Rec} {r : Rec} (h : r ∈ bs) : ((bs.map encR).any fun z => PyData.eqv z (encR r)) = true :=
  List.any_eq_true.mpr ⟨encR r, List.mem_map.mpr ⟨r, h, rfl⟩, eqv_self r⟩
theorem rows_fine {wd : Nat} {rs : List Rec} (hr : ∀ r ∈ rs, ROk wd r) (hl : rs.length ≤ 61) (hw : wd ≤ 4) : (PyData.tuple (rs.map encR)).showable = true ∧ (PyData.tuple (rs.map encR)).depth ≤ 100 ∧ (PyData.tuple (rs.map encR)).shown.length ≤ sizeLine := by
  have hm : ∀ e ∈ rs.map encR, fine (10 ^ 40) e = true ∧ wt e ≤ 20 ∧ e.depth ≤ 50 := fun e he => by
    obtain ⟨r, mr, rfl⟩ := List.mem_map.mp he
    exact rec_fine (hr r mr) hw
  have fr := fineAll_mem.mpr fun e he => (hm e he).1
  have gr := wtAll_le fun e he => (hm e he).2.1
  have kr := depthAll_le fun e he => (hm e he).2.2
  rw [List.length_map] at gr
  refine big_show ?_ ?_ ?_
  · simpa only [fine] using fr
  · simp only [wt]
    omega
  · simp only [PyData.depth]
    omega
end G1

set_option maxRecDepth 100000
set_option maxHeartbeats 4000000
namespace G1
open PySem PySem.Spec PyProof.Rows L2 KX
abbrev sDir : Stmt := topS 11
abbrev sDist : Stmt := topS 12
/-- the constants of the text -/
structure Cj (K : PySem.W.Frag) (mg : Str → Option Value) : Prop where
  wid : ∃ t, mg "MAX_WIDTH" = some (.int 4 t)
  dirs : ∃ t, mg "DIRECTIONS" = some (.ref t) ∧ ∃ (o : Obj) (its : Array Value) (n : Nat), K.lookup t = some o ∧ o.cls = .type "tuple" ∧ o.data = .seq its n ∧ its.size ≤ sizeLine ∧ Vals [.str "asc", .str "desc"] its.toList
def dirsL : List PyData := [.str "asc", .str "desc"]
def inDir (d : PyData) : Bool := dirsL.any fun z => PyData.eqv z d
def dirD (w n : Int) : PyData → Bool
  | .tuple ds => decide ((ds.length : Int) = n) && (betw 0 (w - 1) (ds.getD 0 .none) && inDir (ds.getD 1 .none))
  | _ => false
theorem dp_two {K : PySem.W.Frag} {H : Hp} {t : Addr} (h : SqT K H t [.str "asc", .str "desc"]) : Dp K H (.ref t) (.tuple dirsL) := .tup h (.cons (.str _) (.cons (.str _) .nil))
theorem dirsL_ok : PyData.plainAll dirsL = true ∧ PyData.depthAll dirsL ≤ 60 := by decide
theorem tupB_len {n : Int} {ds : List PyData} : tupB n n (.tuple ds) = decide ((ds.length : Int) = n) := by
  have e : tupB n n (.tuple ds) = (decide (n ≤ (ds.length : Int)) && decide ((ds.length : Int) ≤ n)) := rfl
  rw [e]
  by_cases h : (ds.length : Int) = n
  · rw [decide_eq_true h, decide_eq_true (by omega), decide_eq_true (by omega)]; rfl
  · rw [decide_eq_false h]
    by_cases h2 : n ≤ (ds.length : Int)
    · rw [decide_eq_true h2, decide_eq_false (by omega)]; rfl
    · rw [decide_eq_false h2]; rfl
theorem plain_at {ds : List PyData} {d : PyData} {i : Nat} (h : PyData.plainAll ds = true) (e : ds[i]? = some d) : d.plain = true := by
  induction ds generalizing i with
  | nil => simp at e
  | cons c cs ih =>
    have h' : c.plain = true ∧ PyData.plainAll cs = true := by simpa [PyData.plainAll] using h
    cases i with
    | zero =>
      simp at e
      subst e
      exact h'.1
    | succ i => exact ih h'.2 (by simpa using e)
theorem plain_tupO {ds : List PyData} (h : (PyData.tuple ds).plain = true) : PyData.plainAll ds = true := by simpa [PyData.plain] using h
def spDir : Sp := fun vs H Q _ => ∃ v d w n, vs = [.int w, v, .int n] ∧ Dx H v d ∧ (∀ ds, d = .tuple ds → ∀ e ∈ ds, okP e) ∧ 2 ≤ n ∧ Q (.bl (dirD w n d)) H
theorem scDir : FnScope ["width", "value", "length"] ["width", "value", "length"] (defScope sDir) := ⟨rfl, rfl, rfl, by decide +kernel, rfl, by decide +kernel, by decide +kernel⟩
/-- an item of a tuple of data -/
theorem at_of {H : Hp} {xs : List V} {ds : List PyData} (h : Dxs H xs ds) {i : Nat} (hi : i < ds.length) : ∃ v, xs[i]? = some v ∧ Dx H v (ds.getD i .none) := by
  have hx : i < xs.length := by rw [h.len]; exact hi
  obtain ⟨d, ed, hd⟩ := h.get' (List.getElem?_eq_getElem hx)
  refine ⟨_, List.getElem?_eq_getElem hx, ?_⟩
  rw [List.getD_eq_getElem?_getD, ed]
  exact hd
section
variable {P : Program} {w : World} {K : PySem.W.Frag} {mg : Str → Option Value} {base : Heap}
theorem ok_dir {f fB fT : Addr} {fd fdB fdT : FuncData} (B : Bl mg) (C : Cj K mg) (D : Df K mg "is_directed" sDir ["width", "value", "length"] f fd) (DB : Df K mg "is_between" sBetween ["value", "low", "high"] fB fdB)
    (DT : Df K mg "is_tuple_between" sTupB ["value", "low", "high"] fT fdT) : FnOk P w K mg base CX0 2 f fd ["width", "value", "length"] spDir := by
  obtain ⟨t, mt, ot, its, n0, lt, c1, c2, c3, c4⟩ := C.dirs
  have GB : FnOk P w K mg base CX0 1 fB fdB _ spBetween := ok_between B DB
  have GT : FnOk P w K mg base CX0 1 fT fdT _ spTupB := ok_tupB B DT
  refine D.F.ok scDir (fun vs H Q E h => ?_) (fun cdv A outer s H vs Q E hr h => ?_)
  · obtain ⟨v, d, w', n, rfl, _⟩ := h
    rfl
  · obtain ⟨v, d, w', n, rfl, hd, pl, n2, q⟩ := h
    refine ⟨_, pss_cons (ps_if (pt_not (pt_val (pe_call GT hr (by rfl) DT.g DT.F.kp DT.b .nil pass0 (pa_cons (pv 1) (pa_cons (pv 2) (pa_cons (pv 2) pa_nil)))))) (pss_one (ps_ret pe_bl)) pss_nil)
      (pss_one (ps_ret (pe_and (pe_call GB hr (by rfl) DB.g DB.F.kp DB.b .nil pass0 (pa_cons (pe_ix ix_tup (pv 1) pe_int (fun _ _ => rfl)) (pa_cons pe_int (pa_cons (pe_op op_sub (pv 0) pe_int) pa_nil))))
        (pe_one (pe_cmpR (op_inX hr.units) (pe_ix ix_tup (pv 1) pe_int (fun _ _ => rfl)) (pe_glob (v := .ref t) (by rfl) mt rfl) (by rfl)))))), ?_⟩
    refine ⟨v, rfl, .int n, rfl, .int n, rfl, v, d, n, n, rfl, hd, _, rfl, ?_⟩
    cases d with
    | tuple ds =>
      cases hd with
      | @tup a xs _ ea h =>
        rw [tupB_len]
        have er : dirD w' n (.tuple ds) = (decide ((ds.length : Int) = n) && (betw 0 (w' - 1) (ds.getD 0 .none) && inDir (ds.getD 1 .none))) := rfl
        rw [er] at q
        by_cases hn : (ds.length : Int) = n
        · rw [decide_eq_true hn] at q ⊢
          obtain ⟨v0, e0, d0⟩ := at_of h (i := 0) (by omega)
          obtain ⟨v1, e1, d1⟩ := at_of h (i := 1) (by omega)
          refine iteF ⟨.ref a, rfl, a, _, 0, v0, rfl, rfl, .inl (.inl ea), atI_nat e0, .int w', rfl, w', 1, rfl, rfl, v0, _, 0, w' - 1, rfl, d0, _, rfl, ?_⟩
          cases eb : betw 0 (w' - 1) (ds.getD 0 .none) with
          | false =>
            rw [eb] at q
            exact iteF q
          | true =>
            rw [eb] at q
            have p1 : okP (ds.getD 1 .none) := by
              have : 1 < ds.length := by omega
              rw [List.getD_eq_getElem?_getD, List.getElem?_eq_getElem this]
              exact pl ds rfl _ (List.getElem_mem this)
            refine iteT ⟨.ref a, rfl, a, _, 1, v1, rfl, rfl, .inl (.inl ea), atI_nat e1, ds.getD 1 .none, t, ["asc", "desc"], d1, p1, rfl, .inr ⟨ot, its, n0, lt, c1, c2, c3, c4⟩, ?_⟩
            exact q
        · rw [decide_eq_false hn] at q ⊢
          exact iteT q
    | _ => exact iteT q
end
end G1
namespace G1
open PySem PySem.Spec PyProof.Rows L2 KX
def col0 : PyData → Int
  | .tuple (.int i :: _) => i
  | _ => 0
def hasCol : PyData → Prop := fun d => ∃ i es, d = .tuple (.int i :: es)
def spDist : Sp := fun vs H Q _ => ∃ v ds, vs = [v] ∧ Dx H v (.tuple ds) ∧ (∀ d ∈ ds, hasCol d) ∧ ds.length ≤ 100 ∧ ∀ H', Same H H' → Q (.bl (decide (ds.map col0).Nodup)) H'
theorem scDist : FnScope ["parts", "part"] ["parts"] (defScope sDist) := ⟨rfl, rfl, rfl, by decide +kernel, rfl, by decide +kernel, by decide +kernel⟩
theorem nodup_snoc {l : List Int} {k : Int} : (l ++ [k]).Nodup ↔ l.Nodup ∧ k ∉ l := by
  rw [List.nodup_append]
  constructor
  · intro h
    exact ⟨h.1, fun hk => h.2.2 k hk k (by simp) rfl⟩
  · intro h
    refine ⟨h.1, by simp, fun a ha b hb e => ?_⟩
    simp at hb
    subst hb
    exact h.2 (e ▸ ha)
section
variable {P : Program} {w : World} {K : PySem.W.Frag} {mg : Str → Option Value} {base : Heap}
theorem ok_dist {f : Addr} {fd : FuncData} (B : Bl mg) (D : Df K mg "have_distinct_columns" sDist ["parts"] f fd) : FnOk P w K mg base CX0 1 f fd ["parts"] spDist := by
  refine D.F.ok scDist (fun vs H Q E h => ?_) (fun cdv A outer s H vs Q E hr h => ?_)
  · obtain ⟨v, ds, rfl, _⟩ := h
    rfl
  · obtain ⟨v, ds, rfl, hd, hc, hz, q⟩ := h
    have nd := scDist.nd
    refine ⟨_, pss_one (ps_ret (pe_cmpR op_eq (pe_callB call_lenZ (by rfl) B.len PySem.boot_len (pa_cons (pe_setI (own := [("part", 1)]) (g := gName 1) rfl nd (pi_tup (pv 0)) (blkOk_by (N := ["parts", "part"]) (sc := defScope sDist) (by decide +kernel))
        (fun _ _ _ _ _ => pg_name (i := 1) nd rfl (Or.inl rfl)) (fun _ _ _ _ _ => pe_ix (r := rIxT K) ix_tup (pv 1) pe_int (fun _ _ => rfl))) pa_nil))
      (pe_callB call_len_seq (by rfl) B.len PySem.boot_len (pa_cons (pv 0) pa_nil)) (nomark _))), ?_⟩
    cases hd with
    | @tup a xs _ ea h =>
      refine ⟨.ref a, rfl, a, rfl, ⟨_, .inl (.inl ea)⟩, fun D nD => ?_⟩
      refine setI_tup (xs := xs) (fun i G => Same H G ∧ ∃ n, n ≤ i ∧ (n = i ↔ ((ds.take i).map col0).Nodup) ∧ G D = some (SetO w D (fun j => decide (j ∈ (ds.take i).map col0)) n))
        ⟨same_at (Same.refl H) nD, 0, Nat.le_refl _, by simp, by rw [upd_same]; simp only [List.take_zero, List.map_nil, List.not_mem_nil, decide_false]; rfl⟩
        (fun i G hi hp => .inl (.inl (hp.1 _ _ ea))) (fun i x G hx hp => ?_) (fun G hp => ?_)
      · obtain ⟨s1, n, ni, en, eD⟩ := hp
        obtain ⟨d, ed, hdx⟩ := h.get' hx
        obtain ⟨k, es, rfl⟩ := hc d (List.mem_of_getElem? ed)
        have hxl : i < xs.length := by
          rcases Nat.lt_or_ge i xs.length with z | z
          · exact z
          · rw [List.getElem?_eq_none z] at hx; cases hx
        have il : i < 100 := by
          have := h.len
          omega
        have et : (ds.take (i + 1)).map col0 = (ds.take i).map col0 ++ [k] := by
          rw [List.take_add_one, ed, List.map_append]
          rfl
        cases hdx with
        | @tup p ys _ ep hy =>
          cases hy with
          | @cons y0 yr _ _ h0 ht =>
            cases h0
            have sb : (101 : Nat) < scanBound := by decide
            refine ⟨rfl, .ref p, rfl, p, _, 0, .int k, rfl, rfl, .inl (.inl (s1 _ _ ep)), atI_nat (xs := V.int k :: yr) (j := 0) rfl, k, _, n, rfl, eD, by omega, same_at s1 nD, ?_⟩
            have e1 : (fun j => decide (j ∈ (ds.take i).map col0) || decide (j = k)) = fun j => decide (j ∈ (ds.take (i + 1)).map col0) := by
              funext j
              rw [et]
              by_cases hj : j ∈ (ds.take i).map col0
              · rw [decide_eq_true hj, decide_eq_true (List.mem_append_left _ hj)]
                rfl
              · rw [decide_eq_false hj, Bool.false_or]
                by_cases hk : j = k
                · rw [decide_eq_true hk, decide_eq_true (by rw [hk]; simp)]
                · rw [decide_eq_false hk, decide_eq_false (fun z => (List.mem_append.mp z).elim hj (fun z => hk (by simpa using z)))]
            have eA : addS w D (fun j => decide (j ∈ (ds.take i).map col0)) n k G D = some (SetO w D (fun j => decide (j ∈ (ds.take (i + 1)).map col0)) (if decide (k ∈ (ds.take i).map col0) = true then n else n + 1)) := by
              unfold addS
              rw [upd_same, e1]
            by_cases hk : k ∈ (ds.take i).map col0
            · refine ⟨n, by omega, ⟨fun z => by omega, fun z => ?_⟩, ?_⟩
              · rw [et, nodup_snoc] at z
                exact absurd hk z.2
              · exact eA.trans (by rw [if_pos (decide_eq_true hk)])
            · refine ⟨n + 1, by omega, ⟨fun z => ?_, fun z => ?_⟩, ?_⟩
              · rw [et, nodup_snoc]
                exact ⟨en.mp (by omega), hk⟩
              · rw [et, nodup_snoc] at z
                have := en.mpr z.1
                omega
              · exact eA.trans (by rw [if_neg (by rw [decide_eq_false hk]; simp)])
      · obtain ⟨s1, n, ni, en, eD⟩ := hp
        have hx : ds.take xs.length = ds := List.take_of_length_le (by rw [h.len]; exact Nat.le_refl _)
        rw [hx] at en
        refine ⟨D, _, n, rfl, eD, .ref a, rfl, a, xs, rfl, .inr (.inl (.inl (s1 _ _ ea))), rfl, ?_⟩
        have e : decide (V.int (n : Int) = V.int (xs.length : Int)) = decide (ds.map col0).Nodup := by
          by_cases hn : (ds.map col0).Nodup
          · rw [decide_eq_true hn, decide_eq_true (by have := en.mpr hn; rw [this])]
          · rw [decide_eq_false hn, decide_eq_false (fun z => hn (en.mp (by have := V.int.inj z; omega)))]
        rw [e]
        exact q G s1
end
end G1

namespace G1
open PySem PySem.Spec PyProof.Rows L2 KX
abbrev sInit : Stmt := (clsB (topS 5)).getD 0 (.Pass ⟨0, 0, 0, 0⟩)
abbrev sCk : Stmt := topS 9
abbrev sCw : Stmt := topS 34
def ixTl : List Value := [.type "IndexError", .type "LookupError", .type "Exception", .type "BaseException", .type "object"]
theorem ixB : XB "IndexError" "IndexError.__new__" "IndexError.__init__" ixTl := ⟨PySem.F.excBase_IndexError, PySem.F.store_IndexError⟩
/-- the class InvalidNumber, at C; its __init__ at fI -/
structure IN (K : PySem.W.Frag) (mg : Str → Option Value) (C fI : Addr) (gI : FuncData) : Prop where
  g : mg "InvalidNumber" = some (.ref C)
  x : XC K "IndexError" "IndexError.__new__" "IndexError.__init__" ixTl C
  i : XI K C
  no : PySem.W.findIn K (.ref C) "value" = some none
  iC : PySem.W.findIn K (.ref C) "__init__" = some (some (.ref fI))
  tI : PySem.W.typeIn K (.ref fI) = some (.type "function")
  vV : PySem.W.findCls K (.type "IndexError") (.type "type") "__init__" = some (.val (.builtin "IndexError.__init__"))
  F : Fun K "__init__" "InvalidNumber.__init__" sInit fI gI
  b : Binds K gI ["self", "value"] []
def spInit (C : Addr) : Sp := fun vs H Q _ => ∃ a v, vs = [.ref a, v] ∧ H a = some (exo a C none) ∧ ∀ dx, H dx = none → dx ≠ a → Q .non (upd (upd H dx (exd dx [("value", v)])) a (exo a C (some dx)))
theorem scInit : FnScope ["self", "value"] ["self", "value"] (defScope sInit) := ⟨rfl, rfl, rfl, by decide +kernel, rfl, by decide +kernel, by decide +kernel⟩
section
variable {P : Program} {w : World} {K : PySem.W.Frag} {mg : Str → Option Value} {base : Heap} {C fI : Addr} {gI : FuncData}
theorem ok_init (B : Bl mg) (T : IN K mg C fI gI) : FnOk P w K mg base CX0 1 fI gI ["self", "value"] (spInit C) := by
  refine T.F.ok scInit (fun vs H Q E h => ?_) (fun cdv A outer s H vs Q E hr h => ?_)
  · obtain ⟨a, v, rfl, _⟩ := h
    rfl
  · obtain ⟨a, v, rfl, ea, q⟩ := h
    refine ⟨_, pss_cons (ps_expr (pe_bini (newI := "IndexError.__new__") (tl := ixTl) (by rfl) B.ixe T.vV (pa_cons (pv 0) (pa_cons (pv 1) pa_nil))))
      (pss_one (ps_fst (B := "IndexError") (newI := "IndexError.__new__") (iniI := "IndexError.__init__") (tl := ixTl) (pv 0) (pv 1))), ?_⟩
    refine ⟨.ref a, rfl, v, rfl, a, C, [v], rfl, by simp, T.x, ea, ?_⟩
    exact ⟨v, rfl, .ref a, rfl, a, C, rfl, T.x, T.no, ea, fun dx n ne => q dx n ne⟩
/-! ### check_between -/
def spCk (C : Addr) : Sp := fun vs H Q E => ∃ v d lo hi, vs = [v, .int lo, .int hi] ∧ Dx H v d ∧
  (if betw lo hi d = true then Q .non H else ∀ H' dd, Same H H' → H' dd = some (.xd [("value", v)]) → E (.ref C) (some dd) H')
theorem scCk : FnScope ["value", "low", "high"] ["value", "low", "high"] (defScope sCk) := ⟨rfl, rfl, rfl, by decide +kernel, rfl, by decide +kernel, by decide +kernel⟩
theorem ok_ck {f fB : Addr} {fd fdB : FuncData} (B : Bl mg) (T : IN K mg C fI gI) (D : Df K mg "check_between" sCk ["value", "low", "high"] f fd) (DB : Df K mg "is_between" sBetween ["value", "low", "high"] fB fdB) :
    FnOk P w K mg base (L2.CX P w) 3 f fd ["value", "low", "high"] (spCk C) := by
  have GB : FnOk P w K mg base CX0 1 fB fdB _ spBetween := ok_between B DB
  have GI : FnOk P w K mg base CX0 1 fI gI _ (spInit C) := ok_init B T
  refine D.F.okX scCk (fun vs H Q E h => ?_) (fun cdv A outer s H vs Q E hr h => ?_)
  · obtain ⟨v, d, lo, hi, rfl, _⟩ := h
    rfl
  · obtain ⟨v, d, lo, hi, rfl, hd, q⟩ := h
    refine ⟨_, pss_one (ps_if (pt_not (pt_val (pe_call GB (hr.mono (by decide)) (by rfl) DB.g DB.F.kp DB.b .nil pass0 (pa_cons (pv 0) (pa_cons (pv 1) (pa_cons (pv 2) pa_nil))))))
      (pss_one (ps_raise rfl (takes_of rfl rfl rfl rfl) (pmk_x T.x T.iC T.tI GI hr T.b pass0 (by rfl) T.g (pa_cons (pv 0) pa_nil)))) pss_nil), ?_⟩
    refine ⟨v, rfl, .int lo, rfl, .int hi, rfl, v, d, lo, hi, rfl, hd, _, rfl, ?_⟩
    cases eb : betw lo hi d with
    | true =>
      rw [eb] at q
      exact iteF q
    | false =>
      rw [eb] at q
      refine iteT ⟨v, rfl, by simp, fun a na => ⟨a, v, rfl, upd_same, fun dx ndx ne => ⟨rfl, dx, [("value", v)], upd_same, ?_, ?_, ?_⟩⟩⟩
      · rw [upd_ne ne, upd_same]
      · rw [upd_ne ne] at ndx
        exact ndx
      · rw [upd_ne ne] at ndx
        refine q _ dx (fun b o e => ?_) upd_same
        rw [upd_ne (ne_of_none e ndx), del_ne (ne_of_none e na), upd_ne (ne_of_none e na), upd_ne (ne_of_none e ndx), upd_ne (ne_of_none e na)]
        exact e
/-! ### check_width -/
def spCw (C : Addr) : Sp := fun vs H Q E => ∃ v d, vs = [v] ∧ Dx H v d ∧
  (if betw 1 4 d = true then Q .non H else ∀ H' dd, Same H H' → H' dd = some (.xd [("value", v)]) → E (.ref C) (some dd) H')
theorem scCw : FnScope ["width"] ["width"] (defScope sCw) := ⟨rfl, rfl, rfl, by decide +kernel, rfl, by decide +kernel, by decide +kernel⟩
theorem ok_cw {f fC fB : Addr} {fd fdC fdB : FuncData} (B : Bl mg) (Cc : Cj K mg) (T : IN K mg C fI gI) (D : Df K mg "check_width" sCw ["width"] f fd) (DC : Df K mg "check_between" sCk ["value", "low", "high"] fC fdC)
    (DB : Df K mg "is_between" sBetween ["value", "low", "high"] fB fdB) : FnOk P w K mg base (L2.CX P w) 4 f fd ["width"] (spCw C) := by
  obtain ⟨tw, mw⟩ := Cc.wid
  have GC : FnOk P w K mg base (L2.CX P w) 3 fC fdC _ (spCk C) := ok_ck B T DC DB
  refine D.F.okX scCw (fun vs H Q E h => ?_) (fun cdv A outer s H vs Q E hr h => ?_)
  · obtain ⟨v, d, rfl, _⟩ := h
    rfl
  · obtain ⟨v, d, rfl, hd, q⟩ := h
    refine ⟨_, pss_one (ps_expr (pe_callS GC hr (by rfl) DC.g DC.F.kp DC.b (fun σ => passAt (takes_of rfl rfl rfl rfl) σ) (pa_cons (pv 0) (pa_cons pe_int (pa_cons (pe_glob (v := .int 4) (by rfl) mw ⟨_, rfl⟩) pa_nil))))), ?_⟩
    exact ⟨v, rfl, v, d, 1, 4, rfl, hd, q⟩
end
end G1

namespace G1
open PySem PySem.Spec PyProof.Rows L2 KX

end G1

set_option maxRecDepth 100000
set_option maxHeartbeats 4000000
namespace G1
open PySem PySem.Spec PyProof.Rows L2 KX
abbrev sIO : Stmt := topS 48
abbrev sCO : Stmt := topS 49
abbrev sKey : Stmt := topS 50
theorem betw_is {lo hi : Int} {d : PyData} (h : betw lo hi d = true) : ∃ i, d = .int i ∧ lo ≤ i ∧ i ≤ hi := by
  cases d with
  | int i =>
    have e : betw lo hi (.int i) = (decide (lo ≤ i) && decide (i ≤ hi)) := rfl
    rw [e, Bool.and_eq_true] at h
    exact ⟨i, rfl, of_decide_eq_true h.1, of_decide_eq_true h.2⟩
  | _ => cases h
theorem dxs_ints_eq {H : Hp} : ∀ {zv : List V} {ns : List Int}, Dxs H zv (ns.map PyData.int) → zv = ns.map V.int
  | [], [], _ => rfl
  | v :: zv, n :: ns, .cons h t => by
    cases h
    rw [dxs_ints_eq t]
    rfl
theorem at_int {ns : List Int} {c : Int} (h0 : 0 ≤ c) (h1 : c < (ns.length : Int)) : atI (ns.map V.int) c = some (.int (ns.getD c.toNat 0)) := by
  have lt : c.toNat < ns.length := by omega
  have z := atI_nat (xs := ns.map V.int) (j := c.toNat) (v := .int ns[c.toNat]) (by rw [List.getElem?_map, List.getElem?_eq_getElem lt]; rfl)
  rw [show ((c.toNat : Nat) : Int) = c by omega] at z
  rw [z, List.getD_eq_getElem?_getD, List.getElem?_eq_getElem lt]
  rfl
/-! ### orders -/
def ordD (w : Int) : PyData → Bool
  | .tuple ds => (decide (0 ≤ (ds.length : Int)) && decide ((ds.length : Int) ≤ 4)) && (ds.all (dirD w 2) && decide (ds.map col0).Nodup)
  | _ => false
def okO (d : PyData) : Prop := ∀ ds, d = .tuple ds → ∀ e ∈ ds, ∀ es, e = .tuple es → ∀ x ∈ es, okP x
theorem dirD_tup {w n : Int} {d : PyData} (h : dirD w n d = true) : ∃ ds, d = .tuple ds ∧ (ds.length : Int) = n := by
  cases d with
  | tuple ds =>
    have er : dirD w n (.tuple ds) = (decide ((ds.length : Int) = n) && (betw 0 (w - 1) (ds.getD 0 .none) && inDir (ds.getD 1 .none))) := rfl
    rw [er, Bool.and_eq_true] at h
    exact ⟨ds, rfl, of_decide_eq_true h.1⟩
  | _ => cases h
theorem dir_col {w : Int} {d : PyData} (h : dirD w 2 d = true) : hasCol d := by
  obtain ⟨ds, rfl, hl⟩ := dirD_tup h
  have er : dirD w 2 (.tuple ds) = (decide ((ds.length : Int) = 2) && (betw 0 (w - 1) (ds.getD 0 .none) && inDir (ds.getD 1 .none))) := rfl
  rw [er, Bool.and_eq_true, Bool.and_eq_true] at h
  match ds, hl with
  | [a, b], _ =>
  obtain ⟨i, ei, _⟩ := betw_is h.2.1
  have e0 : a = .int i := ei
  exact ⟨i, [b], by rw [e0]⟩
def spIO : Sp := fun vs H Q _ => ∃ v d w, vs = [.int w, v] ∧ 1 ≤ w ∧ w ≤ 4 ∧ Dx H v d ∧ okO d ∧ ∀ H', Same H H' → Q (.bl (ordD w d)) H'
theorem scIO : FnScope ["width", "value", "pair"] ["width", "value"] (defScope sIO) := ⟨rfl, rfl, rfl, by decide +kernel, rfl, by decide +kernel, by decide +kernel⟩
def spCO (R : Addr) : Sp := fun vs H Q E => ∃ v d w, vs = [.int w, v] ∧ 1 ≤ w ∧ w ≤ 4 ∧ Dx H v d ∧ okO d ∧ (if ordD w d = true then ∀ H', Same H H' → Q .non H' else ∀ H', Same H H' → E (.ref R) none H')
theorem scCO : FnScope ["width", "order"] ["width", "order"] (defScope sCO) := ⟨rfl, rfl, rfl, by decide +kernel, rfl, by decide +kernel, by decide +kernel⟩
section
variable {P : Program} {w : World} {K : PySem.W.Frag} {mg : Str → Option Value} {base : Heap} {C : Addr}
theorem ok_io {f fW fT fD fN : Addr} {fd fdW fdT fdD fdN : FuncData} (B : Bl mg) (Cc : Cj K mg) (D : Df K mg "is_order" sIO ["width", "value"] f fd) (DW : Df K mg "check_width" sCw ["width"] fW fdW) (DT : Df K mg "is_tuple_between" sTupB ["value", "low", "high"] fT fdT)
    (DD : Df K mg "is_directed" sDir ["width", "value", "length"] fD fdD) (DN : Df K mg "have_distinct_columns" sDist ["parts"] fN fdN)
    (GW : FnOk P w K mg base (L2.CX P w) 4 fW fdW ["width"] (spCw C)) (GT : FnOk P w K mg base CX0 4 fT fdT ["value", "low", "high"] spTupB) (GD' : FnOk P w K mg base CX0 4 fD fdD ["width", "value", "length"] spDir) (GN : FnOk P w K mg base CX0 4 fN fdN ["parts"] spDist) :
    FnOk P w K mg base CX0 5 f fd ["width", "value"] spIO := by
  obtain ⟨tw, mw⟩ := Cc.wid
  refine D.F.ok scIO (fun vs H Q E h => ?_) (fun cdv A outer s H vs Q E hr h => ?_)
  · obtain ⟨v, d, wi, rfl, _⟩ := h
    rfl
  · obtain ⟨v, d, wi, rfl, w1, w4, hd, oa, q⟩ := h
    have nd := scIO.nd
    refine ⟨_, pss_cons (ps_expr (pe_call GW hr (by rfl) DW.g DW.F.kp DW.b .nil passL (pa_cons (pv 0) pa_nil)))
      (pss_cons (ps_if (pt_not (pt_val (pe_call GT hr (by rfl) DT.g DT.F.kp DT.b .nil pass0 (pa_cons (pv 1) (pa_cons pe_int (pa_cons (pe_glob (v := .int 4) (by rfl) mw ⟨_, rfl⟩) pa_nil)))))) (pss_one (ps_ret pe_bl)) pss_nil)
      (pss_one (ps_ret (pe_and (pe_callB (cr_all rfl) (by rfl) B.all (by decide +kernel) (pa_cons (pe_lc (own := [("pair", 2)]) (g := gName 2) rfl nd (pi_tup (pv 1)) (blkOk_by (N := ["width", "value", "pair"]) (sc := defScope sIO) (by decide +kernel))
          (fun _ _ _ _ _ => pg_name (i := 2) nd rfl (Or.inl rfl)) (fun _ _ _ _ _ => pts_nil)
          (fun _ _ _ _ _ => pe_call GD' hr (by rfl) DD.g DD.F.kp DD.b .nil pass0 (pa_cons (pv 0) (pa_cons (pv 2) (pa_cons pe_int pa_nil))))) pa_nil))
        (pe_one (pe_call GN hr (by rfl) DN.g DN.F.kp DN.b .nil pass0 (pa_cons (pv 1) pa_nil))))))), ?_⟩
    refine ⟨.int wi, rfl, .int wi, .int wi, rfl, .int wi, ?_⟩
    rw [if_pos (show betw 1 4 (.int wi) = true by
      show (decide (1 ≤ wi) && decide (wi ≤ 4)) = true
      rw [decide_eq_true w1, decide_eq_true w4]
      rfl)]
    refine ⟨v, rfl, v, d, 0, 4, rfl, hd, _, rfl, ?_⟩
    cases d with
    | tuple ds =>
      cases hd with
      | @tup a xs _ ea h =>
        have et : tupB 0 4 (.tuple ds) = (decide (0 ≤ (ds.length : Int)) && decide ((ds.length : Int) ≤ 4)) := rfl
        have er : ordD wi (.tuple ds) = ((decide (0 ≤ (ds.length : Int)) && decide ((ds.length : Int) ≤ 4)) && (ds.all (dirD wi 2) && decide (ds.map col0).Nodup)) := rfl
        rw [er] at q
        rw [et]
        cases ez : (decide (0 ≤ (ds.length : Int)) && decide ((ds.length : Int) ≤ 4)) with
        | false =>
          rw [ez] at q
          exact iteT (q H (Same.refl H))
        | true =>
          rw [ez] at q
          have hlen : ds.length ≤ 4 := by
            rw [Bool.and_eq_true] at ez
            have := of_decide_eq_true ez.2
            omega
          refine iteF ⟨.ref a, rfl, a, rfl, ⟨_, .inl (.inl ea)⟩, fun D nD => ?_⟩
          refine lc_tup (xs := xs) (fun i G => Same H G ∧ G D = some (.lst (((ds.take i).map (dirD wi 2)).map V.bl))) ⟨same_at (Same.refl H) nD, upd_same⟩
            (fun i G hi hp => .inl (.inl (hp.1 _ _ ea))) (fun i x G hx hp => ?_) (fun G hp => ?_)
          · obtain ⟨d, ed, hd⟩ := h.get' hx
            refine ⟨rfl, .int wi, rfl, x, rfl, x, d, wi, 2, rfl, hd.up hp.1, fun es e => oa ds rfl d (List.mem_of_getElem? ed) es e, by decide, _, hp.2, ?_, same_at hp.1 nD, ?_⟩
            · rw [List.length_map, List.length_map, List.length_take]
              have hb : (4 : Nat) < sizeLine := by decide
              omega
            · rw [upd_same, List.take_add_one, ed]
              simp
          · have hx : ds.take xs.length = ds := List.take_of_length_le (by rw [h.len]; exact Nat.le_refl _)
            rw [hx] at hp
            refine ⟨D, _, rfl, .inl (.inl hp.2), ?_⟩
            rw [List.all_map]
            have ea2 : ds.all (id ∘ dirD wi 2) = ds.all (dirD wi 2) := rfl
            refine ⟨_, rfl, ?_⟩
            cases ew : ds.all (dirD wi 2) with
            | false =>
              rw [ew] at q
              refine ite2 (fun t => ?_) fun _ => q G hp.1
              have t2 : ds.all (dirD wi 2) = true := by
                rw [← ea2]
                exact t
              rw [ew] at t2
              cases t2
            | true =>
              rw [ew] at q
              refine ite2 (fun _ => ?_) fun t => ?_
              · refine ⟨.ref a, rfl, .ref a, ds, rfl, .tup (hp.1 _ _ ea) (h.up hp.1), fun d hd => dir_col (List.all_eq_true.mp ew d hd), by omega, fun G2 s2 => ?_⟩
                exact q G2 (hp.1.trans s2)
              · exact absurd (ea2.trans ew) t
    | _ => exact iteT (q H (Same.refl H))
theorem ok_co {f fA : Addr} {fd fdA : FuncData} {R : Addr} (T : OC K mg "InvalidOrder" R) (D : Df K mg "check_order" sCO ["width", "order"] f fd) (DA : Df K mg "is_order" sIO ["width", "value"] fA fdA)
    (GA : FnOk P w K mg base CX0 5 fA fdA ["width", "value"] spIO) : FnOk P w K mg base (L2.CX P w) 6 f fd ["width", "order"] (spCO R) := by
  refine D.F.okX scCO (fun vs H Q E h => ?_) (fun cdv A outer s H vs Q E hr h => ?_)
  · obtain ⟨v, d, w', rfl, _⟩ := h
    rfl
  · obtain ⟨v, d, w', rfl, w1, w4, hd, oa, q⟩ := h
    refine ⟨_, pss_one (ps_if (pt_not (pt_val (pe_call GA hr (by rfl) DA.g DA.F.kp DA.b .nil pass0 (pa_cons (pv 0) (pa_cons (pv 1) pa_nil)))))
        (pss_one (ps_raise rfl (takes_of rfl rfl rfl rfl) (pmk_own PySem.F.excBase_ValueError T.q T.g T.kp (raises_own T.sub T.ty) (by rfl)))) pss_nil), ?_⟩
    refine ⟨.int w', rfl, v, rfl, v, d, w', rfl, w1, w4, hd, oa, fun H1 s1 => ⟨_, rfl, ?_⟩⟩
    cases eb : ordD w' d with
    | false =>
      rw [eb, if_neg (by simp)] at q
      exact iteT (q H1 s1)
    | true =>
      rw [eb, if_pos rfl] at q
      exact iteF (q H1 s1)
end
/-! ### what an order is -/
abbrev Ord := Int × Str
def encO (t : Ord) : PyData := .tuple [.int t.1, .str t.2]
def dirW (y : Str) : Prop := y = "asc" ∨ y = "desc"
structure OrdOk (w : Int) (os : List Ord) : Prop where
  le : os.length ≤ 4
  nd : (os.map (·.1)).Nodup
  all : ∀ o ∈ os, 0 ≤ o.1 ∧ o.1 < w ∧ dirW o.2
theorem eqv_str {x : Str} {d : PyData} (h : PyData.eqv (.str x) d = true) : d = .str x := by
  cases d with
  | str y =>
    have e : PyData.eqv (.str x) (.str y) = (x == y) := by simp [PyData.eqv]
    rw [e] at h
    rw [beq_iff_eq.mp h]
  | _ => simp [PyData.eqv] at h
theorem inDir_is {d : PyData} (h : inDir d = true) : ∃ y, d = .str y ∧ dirW y := by
  unfold inDir dirsL at h
  simp only [List.any_cons, List.any_nil, Bool.or_false, Bool.or_eq_true] at h
  rcases h with h | h
  · exact ⟨_, eqv_str h, .inl rfl⟩
  · exact ⟨_, eqv_str h, .inr rfl⟩
theorem dirW_in {y : Str} (h : dirW y) : inDir (.str y) = true := by
  rcases h with rfl | rfl <;> decide +kernel
theorem dir_is {w : Int} {d : PyData} (h : dirD w 2 d = true) : ∃ t, d = encO t ∧ 0 ≤ t.1 ∧ t.1 < w ∧ dirW t.2 := by
  obtain ⟨ds, rfl, hl⟩ := dirD_tup h
  have er : dirD w 2 (.tuple ds) = (decide ((ds.length : Int) = 2) && (betw 0 (w - 1) (ds.getD 0 .none) && inDir (ds.getD 1 .none))) := rfl
  rw [er, Bool.and_eq_true, Bool.and_eq_true] at h
  match ds, hl with
  | [a, b], _ =>
  obtain ⟨i, ei, i0, i1⟩ := betw_is h.2.1
  obtain ⟨y, ey, hy⟩ := inDir_is h.2.2
  have e0 : a = .int i := ei
  have e1 : b = .str y := ey
  subst e0 e1
  exact ⟨(i, y), rfl, i0, by show i < w; omega, hy⟩
theorem dirs_are {w : Int} : ∀ {ds : List PyData}, ds.all (dirD w 2) = true → ∃ os : List Ord, ds = os.map encO ∧ ∀ o ∈ os, 0 ≤ o.1 ∧ o.1 < w ∧ dirW o.2
  | [], _ => ⟨[], rfl, fun t h => by cases h⟩
  | d :: ds, h => by
    rw [List.all_cons, Bool.and_eq_true] at h
    obtain ⟨t, rfl, ht⟩ := dir_is h.1
    obtain ⟨ts, rfl, hts⟩ := dirs_are h.2
    refine ⟨t :: ts, rfl, fun x hx => ?_⟩
    rcases List.mem_cons.mp hx with rfl | hx
    · exact ht
    · exact hts x hx
theorem ord_is {w : Int} {d : PyData} (h : ordD w d = true) : ∃ os : List Ord, d = .tuple (os.map encO) ∧ OrdOk w os := by
  cases d with
  | tuple ds =>
    have er : ordD w (.tuple ds) = ((decide (0 ≤ (ds.length : Int)) && decide ((ds.length : Int) ≤ 4)) && (ds.all (dirD w 2) && decide (ds.map col0).Nodup)) := rfl
    rw [er, Bool.and_eq_true, Bool.and_eq_true, Bool.and_eq_true] at h
    obtain ⟨⟨h1, h2⟩, h3, h4⟩ := h
    obtain ⟨os, rfl, hos⟩ := dirs_are h3
    have l2 := of_decide_eq_true h2
    rw [List.length_map] at l2
    refine ⟨os, rfl, by omega, ?_, hos⟩
    have z := of_decide_eq_true h4
    rw [List.map_map] at z
    exact z
  | _ => cases h
theorem ord_true {w : Int} {os : List Ord} (h : OrdOk w os) : ordD w (.tuple (os.map encO)) = true := by
  have er : ordD w (.tuple (os.map encO)) = ((decide (0 ≤ ((os.map encO).length : Int)) && decide (((os.map encO).length : Int) ≤ 4)) && ((os.map encO).all (dirD w 2) && decide ((os.map encO).map col0).Nodup)) := rfl
  have n4 := h.le
  have e2 : (os.map encO).map col0 = os.map (·.1) := by
    rw [List.map_map]
    rfl
  have e3 : (os.map encO).all (dirD w 2) = true := by
    rw [List.all_eq_true]
    intro d hd
    obtain ⟨t, ht, rfl⟩ := List.mem_map.mp hd
    obtain ⟨o0, o1, o2⟩ := h.all t ht
    have em : dirD w 2 (encO t) = (decide ((([PyData.int t.1, .str t.2] : List PyData).length : Int) = 2) && ((decide (0 ≤ t.1) && decide (t.1 ≤ w - 1)) && inDir (.str t.2))) := rfl
    rw [em, decide_eq_true o0, decide_eq_true (show t.1 ≤ w - 1 by omega), dirW_in o2]
    rfl
  rw [er, e2, e3, decide_eq_true h.nd, List.length_map, decide_eq_true (by omega), decide_eq_true (by omega)]
  rfl
theorem ord_okO {os : List Ord} : okO (.tuple (os.map encO)) := fun ds e d hd es e2 x hx => by
  cases e
  obtain ⟨t, ht, rfl⟩ := List.mem_map.mp hd
  cases e2
  simp at hx
  rcases hx with rfl | rfl <;> exact .inl rfl
end G1

set_option maxRecDepth 100000
set_option maxHeartbeats 4000000
namespace G1
open PySem PySem.Spec PyProof.Rows L2 KX
structure RowN (d : PyData) (nm : Str) (ns : List Int) : Prop where
  is : ∃ c e, d = .tuple [.str nm, c, .tuple (ns.map .int), e]
  l1 : 1 ≤ ns.length
  l4 : ns.length ≤ 4
def keyI (os : List Ord) (zs : List Int) : List Int := os.map fun o : Ord => if o.2 = ("asc" : Str) then zs.getD o.1.toNat 0 else - zs.getD o.1.toNat 0
def keyD (os : List Ord) (nm : Str) (zs : List Int) : PyData := .tuple [.list ((keyI os zs).map .int), .str nm]
def precI (os : List Ord) (n1 : Str) (z1 : List Int) (n2 : Str) (z2 : List Int) : Bool := PySem.W.dataLt (keyD os n1 z1) (keyD os n2 z2)
/-- as the law has it -/
def lawI : List Ord → Str → List Int → Str → List Int → Bool
  | [], n1, _, n2, _ => decide (n1.cps.toList < n2.cps.toList)
  | o :: os, n1, z1, n2, z2 => if z1.getD o.1.toNat 0 = z2.getD o.1.toNat 0 then lawI os n1 z1 n2 z2 else (decide (z1.getD o.1.toNat 0 < z2.getD o.1.toNat 0) == decide (o.2 = "asc"))
theorem precI_key (os : List Ord) (n1 : Str) (z1 : List Int) (n2 : Str) (z2 : List Int) : precI os n1 z1 n2 z2 = if keyI os z1 = keyI os z2 then decide (n1.cps.toList < n2.cps.toList) else decide (keyI os z1 < keyI os z2) := by
  unfold precI keyD
  rw [PySem.W.dataLt_pair (by simp [PySem.W.alike, PySem.W.alike_ints]) (by simp [PySem.W.alike]), PySem.W.dataLt_str, PySem.W.dataLt_list]
  have e1 : PyData.eqv (.list ((keyI os z1).map .int)) (.list ((keyI os z2).map .int)) = decide (keyI os z1 = keyI os z2) := by
    simp only [PyData.eqv]
    exact eqv_ints _ _
  have e2 := PySem.W.dataLt_ints (keyI os z1) (keyI os z2)
  unfold PySem.W.rowLt at e2
  rw [e1, e2]
  by_cases h : keyI os z1 = keyI os z2
  · rw [decide_eq_true h, if_pos rfl, if_pos h]
    by_cases h2 : PyData.eqv (.str n1) (.str n2) = true
    · rw [if_pos h2]
      have : n1 = n2 := by simpa [PyData.eqv] using h2
      rw [this]
      exact (decide_eq_false (List.lt_irrefl _)).symm
    · rw [if_neg h2]
  · rw [decide_eq_false h, if_neg (by simp), if_neg h]
theorem prec_law : ∀ (os : List Ord) (n1 : Str) (z1 : List Int) (n2 : Str) (z2 : List Int), precI os n1 z1 n2 z2 = lawI os n1 z1 n2 z2
  | [], n1, z1, n2, z2 => by
    rw [precI_key, if_pos (show keyI [] z1 = keyI [] z2 from rfl)]
    rfl
  | o :: os, n1, z1, n2, z2 => by
    have ih := prec_law os n1 z1 n2 z2
    rw [precI_key] at ih ⊢
    have k1 : keyI (o :: os) z1 = (if o.2 = "asc" then z1.getD o.1.toNat 0 else - z1.getD o.1.toNat 0) :: keyI os z1 := rfl
    have k2 : keyI (o :: os) z2 = (if o.2 = "asc" then z2.getD o.1.toNat 0 else - z2.getD o.1.toNat 0) :: keyI os z2 := rfl
    rw [k1, k2]
    show _ = if z1.getD o.1.toNat 0 = z2.getD o.1.toNat 0 then lawI os n1 z1 n2 z2 else (decide (z1.getD o.1.toNat 0 < z2.getD o.1.toNat 0) == decide (o.2 = "asc"))
    generalize z1.getD o.1.toNat 0 = a
    generalize z2.getD o.1.toNat 0 = b
    by_cases h : a = b
    · subst h
      rw [if_pos rfl, ← ih]
      by_cases h2 : keyI os z1 = keyI os z2
      · rw [if_pos (by rw [h2]), if_pos h2]
      · rw [if_neg (fun z => h2 (List.cons.inj z).2), if_neg h2]
        exact decide_eq_decide.mpr (by rw [List.cons_lt_cons_iff]; exact ⟨fun z => by rcases z with z | ⟨_, z⟩; exact absurd z (Int.lt_irrefl _); exact z, fun z => .inr ⟨rfl, z⟩⟩)
    · rw [if_neg h]
      by_cases hw : o.2 = "asc"
      · rw [if_pos hw, if_pos hw, if_neg (fun z => h (List.cons.inj z).1), decide_eq_true hw]
        by_cases hl : a < b
        · rw [decide_eq_true hl]
          exact decide_eq_true (List.cons_lt_cons_iff.mpr (.inl hl))
        · rw [decide_eq_false hl]
          exact decide_eq_false (fun z => by rcases List.cons_lt_cons_iff.mp z with z | ⟨z, _⟩; exact hl z; exact h z)
      · rw [if_neg hw, if_neg hw, if_neg (fun z => h (by have := (List.cons.inj z).1; omega)), decide_eq_false hw]
        by_cases hl : a < b
        · rw [decide_eq_true hl]
          exact decide_eq_false (fun z => by rcases List.cons_lt_cons_iff.mp z with z | ⟨z, _⟩ <;> omega)
        · rw [decide_eq_false hl]
          exact decide_eq_true (List.cons_lt_cons_iff.mpr (.inl (by omega)))
def spKey : Sp := fun vs H Q _ => ∃ rv ov r nm zs os w, vs = [rv, ov] ∧ Dx H rv r ∧ RowN r nm zs ∧ Dx H ov (.tuple (os.map encO)) ∧ OrdOk w os ∧ w ≤ (zs.length : Int) ∧
  ∀ H' p L, Same H H' → H' p = some (.tup [.ref L, .str nm]) → H' L = some (.lst ((keyI os zs).map V.int)) → Q (.ref p) H'
theorem scKey : FnScope ["row", "order", "values", "listed", "column", "direction"] ["row", "order"] (defScope sKey) := ⟨rfl, rfl, rfl, by decide +kernel, rfl, by decide +kernel, by decide +kernel⟩
theorem row_nm {H : Hp} {v : V} {d : PyData} {nm : Str} {ns : List Int} (h : Dx H v d) (r : RowN d nm ns) : ∃ a vc ve z, v = .ref a ∧ H a = some (.tup [.str nm, vc, .ref z, ve]) ∧ H z = some (.tup (ns.map V.int)) := by
  obtain ⟨c, e, rfl⟩ := r.is
  cases h with
  | @tup a xs _ ea h =>
    match xs, h, ea with
    | [vn, vc, vv, ve], .cons hn (.cons hc (.cons hv (.cons he .nil))), ea =>
    cases hn
    cases hv with
    | @tup z zv _ ez hz =>
      rw [dxs_ints_eq hz] at ez
      exact ⟨a, vc, ve, z, rfl, ea, ez⟩
section
variable {P : Program} {w : World} {K : PySem.W.Frag} {mg : Str → Option Value} {base : Heap}
theorem ok_key {f : Addr} {fd : FuncData} (B : Bl mg) (cv : ∃ t, mg "VALUES" = some (.int 2 t)) (cn : ∃ t, mg "NAME" = some (.int 0 t)) (D : Df K mg "order_key" sKey ["row", "order"] f fd) : FnOk P w K mg base CX0 1 f fd ["row", "order"] spKey := by
  obtain ⟨tv, mv⟩ := cv
  obtain ⟨tn, mn⟩ := cn
  refine D.F.ok scKey (fun vs H Q E h => ?_) (fun cdv A outer s H vs Q E hr h => ?_)
  · obtain ⟨rv, ov, r, nm, zs, os, w', rfl, _⟩ := h
    rfl
  · obtain ⟨rv, ov, r, nm, zs, os, w', rfl, hr1, rn, ho, ok, hw, q⟩ := h
    have nd := scKey.nd
    refine ⟨_, pss_cons (ps_set (i := 2) nd rfl (.inr rfl) (pe_ix ix_tup (pv 0) (pe_glob (v := .int 2) (by rfl) mv ⟨_, rfl⟩) (fun _ _ => rfl)))
      (pss_cons (ps_setLc (i := 3) (own := [("column", 4), ("direction", 5)]) (g := gTup K 2 (gCons (gName 4) (gCons (gName 5) gNil))) (by rfl) nd rfl rfl (sw_true rfl rfl rfl (by decide +kernel)) (pi_tup (pv 1)) (blkOk_by (N := ["row", "order", "values", "listed", "column", "direction"]) (sc := defScope sKey) (by decide +kernel))
          (fun _ _ _ _ _ => pg_tup rfl (pgs_cons (pg_name (i := 4) nd rfl (Or.inl rfl)) (pgs_cons (pg_name (i := 5) nd rfl (Or.inl rfl)) pgs_nil))) (fun _ _ _ _ _ => pts_nil)
          (fun _ _ _ _ _ => pe_ifExp (pt_cmpR op_eq (pv 5) pe_str (nomark _)) (pe_ix (r := rIxT K) ix_tup (pv 2) (pv 4) (fun _ _ => rfl)) (pe_un un_neg (pe_ix (r := rIxT K) ix_tup (pv 2) (pv 4) (fun _ _ => rfl)))))
      (pss_one (ps_ret (pe_tup (pa_cons (pv 3) (pa_cons (pe_ix ix_tup (pv 0) (pe_glob (v := .int 0) (by rfl) mn ⟨_, rfl⟩) (fun _ _ => rfl)) pa_nil)))))), ?_⟩
    obtain ⟨a, vc, ve, z, rfl, ea, ez⟩ := row_nm hr1 rn
    cases ho with
    | @tup t xs _ et hx =>
      have lx := hx.len
      rw [List.length_map] at lx
      have b4 := ok.le
      refine ⟨.ref a, rfl, a, _, 2, .ref z, rfl, rfl, .inl (.inl ea), rfl, ?_⟩
      refine ⟨.ref t, rfl, t, rfl, ⟨_, .inl (.inl et)⟩, fun L nL => ?_⟩
      refine lc_tup (xs := xs) (fun i G => Same H G ∧ G L = some (.lst ((keyI (os.take i) zs).map V.int))) ⟨same_new nL, upd_same⟩ (fun i G _ hG => .inl (.inl (hG.1 _ _ et))) (fun i x G hxi hG => ?_) (fun G hG => ?_)
      · obtain ⟨c, ec, hc⟩ := hx.get' hxi
        have il : i < os.length := by
          rcases Nat.lt_or_ge i xs.length with z | z
          · omega
          · rw [List.getElem?_eq_none z] at hxi; cases hxi
        rw [List.getElem?_map, List.getElem?_eq_getElem il] at ec
        obtain ⟨o, eo⟩ : ∃ o, o = os[i] := ⟨_, rfl⟩
        rw [← eo] at ec
        cases ec
        obtain ⟨o0, o1, o2⟩ := ok.all o (by rw [eo]; exact List.getElem_mem il)
        have hcG := hc.up hG.1
        cases hcG with
        | @tup p ys _ ep hy =>
          match ys, hy, ep with
          | [vo, vy], .cons hc1 (.cons hy1 .nil), ep =>
          cases hc1
          cases hy1
          have tk : (keyI (os.take (i + 1)) zs).map V.int = (keyI (os.take i) zs).map V.int ++ [.int (if o.2 = "asc" then zs.getD o.1.toNat 0 else - zs.getD o.1.toNat 0)] := by
            rw [List.take_add_one, List.getElem?_eq_getElem il, ← eo]
            unfold keyI
            simp
          have fin : ∀ (k : Int), k = (if o.2 = "asc" then zs.getD o.1.toNat 0 else - zs.getD o.1.toNat 0) → ∃ acc, G L = some (.lst acc) ∧ acc.length < sizeLine ∧ (Same H (upd G L (.lst (acc ++ [.int k]))) ∧ (upd G L (.lst (acc ++ [.int k]))) L = some (.lst ((keyI (os.take (i + 1)) zs).map V.int))) := fun k ek => by
            refine ⟨_, hG.2, ?_, same_at hG.1 nL, ?_⟩
            · rw [List.length_map]
              unfold keyI
              rw [List.length_map, List.length_take]
              have hb : (4 : Nat) < sizeLine := by decide
              omega
            · rw [upd_same, tk, ek]
          refine ⟨p, _, rfl, .inl (.inl ep), rfl, _, _, rfl, _, _, rfl, rfl, rfl, ?_⟩
          refine ⟨.str o.2, rfl, rfl, _, rfl, ?_⟩
          by_cases hw2 : o.2 = "asc"
          · rw [decide_eq_true (by rw [hw2])]
            exact iteT ⟨.ref z, rfl, .int o.1, rfl, z, _, o.1, _, rfl, rfl, .inl (.inl (hG.1 _ _ ez)), at_int o0 (by omega), fin _ (by rw [if_pos hw2])⟩
          · rw [decide_eq_false (fun z => hw2 (V.str.inj z))]
            exact iteF ⟨.ref z, rfl, .int o.1, rfl, z, _, o.1, _, rfl, rfl, .inl (.inl (hG.1 _ _ ez)), at_int o0 (by omega), _, rfl, fin _ (by rw [if_neg hw2])⟩
      · obtain ⟨sG, eL⟩ := hG
        rw [List.take_of_length_le (by omega)] at eL
        refine ⟨.ref L, rfl, .ref a, rfl, a, _, 0, .str nm, rfl, rfl, .inl (.inl (sG _ _ ea)), rfl, by show 2 ≤ sizeLine; decide, fun p np => ?_⟩
        exact q _ p L (sG.trans (same_new np)) upd_same (same_new np _ _ eL)
end
end G1

set_option maxRecDepth 100000
set_option maxHeartbeats 4000000
namespace G1
open PySem PySem.Spec PyProof.Rows L2 KX
abbrev sLO : Stmt := topS 69
theorem pick {α : Type} {f : α → V} {ns : List α} {d : Int} (h0 : 0 ≤ d) (h1 : d < (ns.length : Int)) : ∃ t, t ∈ ns ∧ atI (ns.map f) d = some (f t) := by
  have hl : d.toNat < ns.length := by omega
  refine ⟨ns[d.toNat], List.getElem_mem hl, ?_⟩
  have := atI_nat (xs := ns.map f) (j := d.toNat) (v := f ns[d.toNat]) (by rw [List.getElem?_map, List.getElem?_eq_getElem hl]; rfl)
  rw [show ((d.toNat : Nat) : Int) = d by omega] at this
  exact this
def TK (G G' : Hp) : Prop := ∀ b xs, G b = some (.tup xs) → G' b = some (.tup xs)
theorem TK.at {G : Hp} {b : Addr} {o u : HO} (e : G b = some u) (n : ∀ xs, u ≠ .tup xs) : TK G (upd G b o) := fun c xs z => by
  rw [upd_ne (fun q => by rw [q, e] at z; exact n xs (Option.some.inj z))]
  exact z
theorem TK.new {G : Hp} {b : Addr} {o : HO} (e : G b = none) : TK G (upd G b o) := fun c xs z => by
  rw [upd_ne (fun q => by rw [q, e] at z; cases z)]
  exact z
theorem TK.trans {G G1 G2 : Hp} (a : TK G G1) (b : TK G1 G2) : TK G G2 := fun c xs z => b _ _ (a _ _ z)
theorem TK.keep {l : Addr} {G G' : Hp} (k : Keep l G G') (st : StO G l) : TK G G' := fun c xs z => by
  obtain ⟨x, y, q, e⟩ := st
  refine k _ _ (fun r => ?_) z
  rw [r, e] at z
  cases z
theorem erase_map {α β : Type} (f : α → β) : ∀ (l : List α) (k : Nat), (l.map f).eraseIdx k = (l.eraseIdx k).map f
  | [], _ => rfl
  | _ :: _, 0 => rfl
  | a :: l, k + 1 => by
    show f a :: (l.map f).eraseIdx k = f a :: (l.eraseIdx k).map f
    rw [erase_map f l k]
theorem TK.hid {l : Addr} {G : Hp} (st : StO G l) : TK G (hid l G) := fun b xs z => by
  obtain ⟨x, y, q, e⟩ := st
  rw [hid_at (fun r => by rw [r, e] at z; cases z)]
  exact z
def rng (w : Int) : List Int := (List.range w.toNat).map fun i : Nat => (i : Int)
theorem rng_v {w : Int} : rgV 0 w = (rng w).map V.int := by
  unfold rgV rng
  rw [List.map_map, show (w - 0).toNat = w.toNat by omega]
  refine List.map_congr_left fun i _ => ?_
  show V.int (0 + (i : Int)) = V.int (i : Int)
  rw [Int.zero_add]
theorem rng_ok {w : Int} (h1 : 1 ≤ w) (h4 : w ≤ 4) : (rng w).Nodup ∧ ((rng w).length : Int) = w ∧ ∀ k ∈ rng w, 0 ≤ k ∧ k < w := by
  have : w = 1 ∨ w = 2 ∨ w = 3 ∨ w = 4 := by omega
  rcases this with rfl | rfl | rfl | rfl <;> decide
def OrdAt (G : Hp) (v : V) (t : Ord) : Prop := ∃ p, v = .ref p ∧ G p = some (.tup [.int t.1, .str t.2])
theorem dxs_ord {H : Hp} : ∀ {vs : List V} {ts : List Ord}, Paired (OrdAt H) vs ts → Dxs H vs (ts.map encO)
  | _, _, .nil => .nil
  | _, _, .cons r h => by
    obtain ⟨p, e, z⟩ := r
    subst e
    exact .cons (.tup z (.cons (.int _) (.cons (.str _) .nil))) (dxs_ord h)
theorem ord_up {G G' : Hp} (k : TK G G') : ∀ {vs : List V} {ts : List Ord}, Paired (OrdAt G) vs ts → Paired (OrdAt G') vs ts
  | _, _, .nil => .nil
  | _, _, .cons r h => .cons (by obtain ⟨p, e, z⟩ := r; exact ⟨p, e, k _ _ z⟩) (ord_up k h)
theorem ord_add {G : Hp} {v : V} {t : Ord} (h1 : OrdAt G v t) : ∀ {vs : List V} {ts : List Ord}, Paired (OrdAt G) vs ts → Paired (OrdAt G) (vs ++ [v]) (ts ++ [t])
  | _, _, .nil => .cons h1 .nil
  | _, _, .cons r h => .cons r (ord_add h1 h)
def spLO : Sp := fun vs H Q _ => ∃ (l : Addr) (w : Int), vs = [.ref l, .int w] ∧ StO H l ∧ 1 ≤ w ∧ w ≤ 4 ∧ ∀ H' p os, Keep l H H' → StO H' l → OrdOk w os → Dx (hid l H') (.ref p) (.tuple (os.map encO)) → Q (.ref p) H'
theorem scLO : FnScope ["stream", "wide", "left", "found", "turn"] ["stream", "wide"] (defScope sLO) := ⟨rfl, rfl, rfl, by decide +kernel, rfl, by decide +kernel, by decide +kernel⟩
section
variable {P : Program} {w : World} {K : PySem.W.Frag} {mg : Str → Option Value} {base : Heap}
theorem ok_lo {f fD : Addr} {fd fdD : FuncData} (B : Bl mg) (D : Df K mg "_law_order" sLO ["stream", "wide"] f fd) (DD : Df K mg "_law_draw" sDraw ["stream", "total"] fD fdD) : FnOk P w K mg base CX0 2 f fd ["stream", "wide"] spLO := by
  have GDr : FnOk P w K mg base CX0 1 fD fdD _ spDraw := ok_draw B DD
  refine D.F.ok scLO (fun vs H Q E h => ?_) (fun cdv A outer s H vs Q E hr h => ?_)
  · obtain ⟨l, w', rfl, _⟩ := h
    rfl
  · obtain ⟨l, w', rfl, st, w1, w4, q⟩ := h
    have nd := scLO.nd
    refine ⟨_, pss_cons (ps_set (i := 2) nd rfl (.inl rfl) (pe_listRg rfl (by rfl) B.list (prg_1 (by rfl) B.range (pv 1))))
      (pss_cons (ps_set (i := 3) nd rfl (.inl rfl) (pe_lst pa_nil))
      (pss_cons (ps_for PassesOwn.never rfl (pi_range1 (by rfl) B.range (pa_cons (pe_call GDr hr (by rfl) DD.g DD.F.kp DD.b .nil pass0 (pa_cons (pv 0) (pa_cons (pe_op op_add (pv 1) pe_int) pa_nil))) pa_nil)) (pg_name (i := 4) nd rfl (.inl rfl))
        (pss_one (ps_expr (pe_bm PySem.F.plainAttrs_list PySem.F.slot_list_append PySem.F.type_list_append mt_append (pv 3) (pa_cons (pe_tup
          (pa_cons (pe_bm PySem.F.plainAttrs_list PySem.F.slot_list_pop PySem.F.type_list_pop mt_popAt (pv 2) (pa_cons (pe_call GDr hr (by rfl) DD.g DD.F.kp DD.b .nil pass0 (pa_cons (pv 0) (pa_cons (pe_callB call_len_seq (by rfl) B.len PySem.boot_len (pa_cons (pv 2) pa_nil)) pa_nil))) pa_nil))
          (pa_cons (pe_ix ix_list (pe_lst (pa_cons pe_str (pa_cons pe_str pa_nil))) (pe_call GDr hr (by rfl) DD.g DD.F.kp DD.b .nil pass0 (pa_cons (pv 0) (pa_cons pe_int pa_nil))) (fun _ _ => rfl)) pa_nil))) pa_nil)))))
      (pss_one (ps_ret (pe_callTy call_tuple_of (by rfl) B.tuple (by decide +kernel) (pa_cons (pv 3) pa_nil)))))), ?_⟩
    obtain ⟨r1, r2, r3⟩ := rng_ok w1 w4
    refine ⟨.int w', rfl, w', rfl, .of_le (by decide) (by omega) (by decide) (by omega), fun L nL => ?_⟩
    have hL : L ≠ l := st.ne nL
    have st1 := st.new (o := .lst (rgV 0 w')) nL
    refine ⟨by decide, fun F nF => ?_⟩
    have hF : F ≠ l := st1.ne nF
    have hLF : L ≠ F := ne_of_none upd_same nF
    have st2 := st1.new (o := .lst []) nF
    refine ⟨.ref l, rfl, .int w', rfl, w', 1, rfl, rfl, l, w' + 1, rfl, st2, by omega, by omega, fun H1 n k1 s1 n0 n1 => ?_⟩
    refine ⟨n, rfl, by omega, by omega, ?_⟩
    have keepH : Keep l H H1 := fun b o nb e => k1 b o nb (by rw [upd_ne (ne_of_none (by rw [upd_ne (ne_of_none e nL)]; exact e) nF), upd_ne (ne_of_none e nL)]; exact e)
    have eL1 : H1 L = some (.lst ((rng w').map V.int)) := by
      rw [← rng_v]
      exact k1 _ _ hL (by rw [upd_ne hLF, upd_same])
    have eF1 : H1 F = some (.lst []) := k1 _ _ hF upd_same
    refine for_range (lo := 0) (n := Int.toNat _) (fun i σ G => Keep l H G ∧ StO G l ∧ ∃ (rem : List Int) (vs : List V) (ts : List Ord) (x4 : Option V), σ = [some (.ref l), some (.int w'), some (.ref L), some (.ref F), x4] ∧
        G L = some (.lst (rem.map V.int)) ∧ G F = some (.lst vs) ∧ Paired (OrdAt G) vs ts ∧ ts.length = i ∧ ((rem.length : Nat) : Int) + i = w' ∧ (rem ++ ts.map (·.1)).Nodup ∧ (∀ k ∈ rem, 0 ≤ k ∧ k < w') ∧ ∀ t ∈ ts, 0 ≤ t.1 ∧ t.1 < w' ∧ dirW t.2)
      ⟨keepH, s1, rng w', [], [], none, rfl, eL1, eF1, .nil, rfl, by omega, by simpa using r1, r3, by simp⟩ (fun i σ G hi hp => ?_) (fun σ G hp => ?_)
    · obtain ⟨kp, st, rem, vs, ts, x4, rfl, eL, eF, hv, hlen, hrem, hnd, hin, hall⟩ := hp
      have hi2 : (i : Int) < n := by omega
      have hrl : 1 ≤ rem.length := by omega
      refine ⟨.ref F, rfl, .inl ⟨rfl, _, .inl (.inl eF)⟩, .ref L, rfl, .inl ⟨rfl, _, .inl (.inl eL)⟩, .ref l, rfl, .ref L, rfl, L, _, rfl, .inl (.inl (.inl eL)), l, _, rfl, st, ?_, ?_, fun G5 d5 k5 s5 d50 d54 => ?_⟩
      · rw [List.length_map]; omega
      · rw [List.length_map]; omega
      rw [List.length_map] at d54
      have eL5 := k5 _ _ hL eL
      have eF5 := k5 _ _ hF eF
      have hd5 : d5.toNat < rem.length := by omega
      have ek : rem[d5.toNat]? = some rem[d5.toNat] := List.getElem?_eq_getElem hd5
      refine ⟨L, _, d5, d5.toNat, .int rem[d5.toNat], rfl, rfl, eL5, by omega, by omega, PySem.StrLaws.seqIndex_nonneg d50 (by rw [List.length_map]; exact d54), by rw [List.getElem?_map, ek]; rfl, ?_⟩
      have s6 : StO (upd G5 L (.lst ((rem.map V.int).eraseIdx d5.toNat))) l := by
        obtain ⟨x, y, z, e⟩ := s5
        exact ⟨x, y, z, by rw [upd_ne hL.symm]; exact e⟩
      have eF6 : (upd G5 L (.lst ((rem.map V.int).eraseIdx d5.toNat))) F = some (.lst vs) := by rw [upd_ne hLF.symm]; exact eF5
      have eL6 : (upd G5 L (.lst ((rem.map V.int).eraseIdx d5.toNat))) L = some (.lst ((rem.eraseIdx d5.toNat).map V.int)) := by rw [upd_same, erase_map]
      refine ⟨by show 2 ≤ sizeLine; decide, fun p np => ⟨.ref l, rfl, l, 2, rfl, s6.new np, by decide, by decide, fun G7 d7 k7 s7 d70 d71 => ?_⟩⟩
      have ep : G7 p = some (.lst [.str "asc", .str "desc"]) := k7 _ _ (s6.ne np) upd_same
      obtain ⟨y, my, ey⟩ := pick (f := V.str) (ns := [("asc" : Str), "desc"]) d70 d71
      have eF7 : G7 F = some (.lst vs) := k7 _ _ hF (by rw [upd_ne (ne_of_none eF6 np)]; exact eF6)
      have eL7 : G7 L = some (.lst ((rem.eraseIdx d5.toNat).map V.int)) := k7 _ _ hL (by rw [upd_ne (ne_of_none eL6 np)]; exact eL6)
      refine ⟨p, _, d7, .str y, rfl, rfl, .inl (.inl ep), ey, by show 2 ≤ sizeLine; decide, fun p6 np6 => ?_⟩
      have hp6F : F ≠ p6 := ne_of_none eF7 np6
      have hp6L : L ≠ p6 := ne_of_none eL7 np6
      have lv := Paired.length hv
      refine ⟨F, vs, .ref p6, rfl, rfl, by rw [upd_ne hp6F]; exact eF7, ?_, ?_⟩
      · have hb : (5 : Nat) < sizeLine := by decide
        omega
      have hTL : ∀ xs : List V, (HO.lst (rem.map V.int)) ≠ .tup xs := fun xs z => by cases z
      have hTF : ∀ xs : List V, (HO.lst vs) ≠ .tup xs := fun xs z => by cases z
      have tk : TK G (upd (upd G7 p6 (.tup [.int rem[d5.toNat], .str y])) F (.lst (vs ++ [.ref p6]))) :=
        ((((TK.keep k5 st).trans (TK.at eL5 hTL)).trans (TK.new np)).trans (TK.keep k7 (s6.new np))).trans ((TK.new np6).trans (TK.at (by rw [upd_ne hp6F]; exact eF7) hTF))
      refine ⟨?_, ?_, rem.eraseIdx d5.toNat, vs ++ [.ref p6], ts ++ [(rem[d5.toNat], y)], _, rfl, ?_, upd_same, ?_, ?_, ?_, ?_, ?_, ?_⟩
      · refine fun b o nb e => ?_
        have nbL : b ≠ L := ne_of_none e nL
        have nbF : b ≠ F := fun z => by
          have z2 : (upd H L (.lst (rgV 0 w'))) b = none := by rw [z]; exact nF
          rw [upd_ne nbL] at z2
          rw [z2] at e; cases e
        have z5 := k5 _ _ nb (kp _ _ nb e)
        have z6 : (upd G5 L (.lst ((rem.map V.int).eraseIdx d5.toNat))) b = some o := by rw [upd_ne nbL]; exact z5
        have z7 := k7 _ _ nb (by rw [upd_ne (ne_of_none z6 np)]; exact z6)
        rw [upd_ne nbF, upd_ne (ne_of_none z7 np6)]
        exact z7
      · obtain ⟨x, y2, z, e⟩ := s7
        exact ⟨x, y2, z, by rw [upd_ne hF.symm, upd_ne (ne_of_none e np6)]; exact e⟩
      · rw [upd_ne hLF, upd_ne hp6L]
        exact eL7
      · exact ord_add ⟨p6, rfl, by rw [upd_ne hp6F.symm, upd_same]⟩ (ord_up tk hv)
      · rw [List.length_append, hlen]; rfl
      · rw [List.length_eraseIdx_of_lt hd5]; omega
      · have pm := erase_perm rem d5.toNat _ ek
        rw [List.map_append]
        have p2 : (rem ++ ts.map (·.1)).Perm (rem.eraseIdx d5.toNat ++ (ts.map (·.1) ++ [rem[d5.toNat]])) := by
          have a1 := (pm.symm.append_right (ts.map (·.1)))
          refine a1.trans ?_
          rw [← List.append_assoc]
          exact (List.perm_append_singleton _ _).symm
        exact p2.nodup_iff.mp hnd
      · exact fun k hk => hin k (List.mem_of_mem_eraseIdx hk)
      · intro t ht
        rcases List.mem_append.mp ht with z | z
        · exact hall t z
        · simp at z
          subst z
          obtain ⟨c0, c1⟩ := hin _ (List.getElem_mem hd5)
          exact ⟨c0, c1, by simpa [dirW] using my⟩
    · obtain ⟨kp, st, rem, vs, ts, x4, rfl, eL, eF, hv, hlen, hrem, hnd, hin, hall⟩ := hp
      refine ⟨.ref F, rfl, F, vs, rfl, .inl ⟨.inl (.inl eF), fun p np => ?_⟩⟩
      exact q _ p ts (kp.new np) (st.new np) ⟨by omega, (List.nodup_append.mp hnd).2.1, hall⟩ (dx_tup np st (dxs_ord (ord_up (TK.hid st) hv)))
end
/-! ### _law_precedes -/
def spLP : Sp := fun vs H Q _ => ∃ v1 v2 vo d1 d2 n1 z1 n2 z2 os w0, vs = [vo, v1, v2] ∧ Dx H v1 d1 ∧ Dx H v2 d2 ∧ Dx H vo (.tuple (os.map encO)) ∧ RowN d1 n1 z1 ∧ RowN d2 n2 z2 ∧ z1.length = z2.length ∧ OrdOk w0 os ∧ w0 ≤ (z1.length : Int) ∧
  ∀ H', Same H H' → Q (.bl (lawI os n1 z1 n2 z2)) H'
theorem lawI_drop (z1 z2 : List Int) (n1 n2 : Str) {os : List Ord} {i : Nat} (il : i < os.length) : lawI (os.drop i) n1 z1 n2 z2 = if z1.getD (os[i]).1.toNat 0 = z2.getD (os[i]).1.toNat 0 then lawI (os.drop (i + 1)) n1 z1 n2 z2 else (decide (z1.getD (os[i]).1.toNat 0 < z2.getD (os[i]).1.toNat 0) == decide ((os[i]).2 = "asc")) := by
  rw [List.drop_eq_getElem_cons il]
  rfl
theorem dec_str (x y : Str) : decide (V.str x = V.str y) = decide (x = y) := by
  by_cases h : x = y
  · rw [decide_eq_true h, decide_eq_true (by rw [h])]
  · rw [decide_eq_false h, decide_eq_false (fun z => h (V.str.inj z))]
theorem dec_int (x y : Int) : decide (V.int x = V.int y) = decide (x = y) := by
  by_cases h : x = y
  · rw [decide_eq_true h, decide_eq_true (by rw [h])]
  · rw [decide_eq_false h, decide_eq_false (fun z => h (V.int.inj z))]
theorem dec_bl (a b : Bool) : decide (V.bl a = V.bl b) = (a == b) := by cases a <;> cases b <;> rfl
section
variable {P : Program} {w : World} {K : PySem.W.Frag} {mg : Str → Option Value} {base : Heap}
end
end G1

set_option maxRecDepth 100000
set_option maxHeartbeats 4000000
namespace KX
open PySem PySem.Spec PyProof.Rows L2 PySem.W LamX
/-! ### sorted(t, key=f): f's keys may hold new lists -/
section
variable {X : Cx}
/-- a state behind s1, while a builtin runs -/
structure On (X : Cx) (H1 : Hp) (s1 : Shared) (G : Hp) (s2 : Shared) : Prop where
  un : Un (frs X.stack) [] H1 G s1.heap s2.heap
  hok : HOk X.prog X.w G s2.heap
  bare : AllBare s2.gens
  os : s2.os = s1.os
theorem On.inv {H1 G : Hp} {s1 s2 : Shared} {pins : List (Addr × Obj)} {σ : L2.St} (n : On X H1 s1 G s2) (I : Inv X pins σ H1 s1) : Inv X pins σ G s2 := I.call' (ch := []) n.os n.un n.hok n.bare (fun b z => absurd z (by simp))
theorem On.kept {H1 G : Hp} {s1 : Shared} {h g : Heap} {gs : Array GenState} {d : Drawn} {t t' : Nat} {o : _} (n : On X H1 s1 G ⟨h, gs, d, t, o⟩) (k : ∀ b u, h.get? b = some u → g.get? b = some u) : On X H1 s1 G ⟨g, gs, d, t', o⟩ := ⟨n.un.trans (Un.kept k), n.hok.kept k, n.bare, n.os⟩
/-- one untracked new object is changed -/
theorem On.but {H1 G : Hp} {s1 : Shared} {h g : Heap} {gs : Array GenState} {d : Drawn} {t t' : Nat} {o : _} {c : Addr} (n : On X H1 s1 G ⟨h, gs, d, t, o⟩) (hc : s1.heap.get? c = none) (nc : G c = none) (k : ∀ b u, b ≠ c → h.get? b = some u → g.get? b = some u) : On X H1 s1 G ⟨g, gs, d, t', o⟩ := by
  have ne : ∀ {b u}, s1.heap.get? b = some u → b ≠ c := fun {b u} e z => by rw [z, hc] at e; cases e
  refine ⟨⟨fun b u e a1 a2 a3 => k b u (ne e) (n.un.keep b u e a1 a2 a3), fun b u e a1 a2 a3 => ?_, n.un.free, fun b u e a3 => ?_, n.un.tups, n.un.frzs, n.un.tbls⟩, fun b u e => ?_, n.bare, n.os⟩
  · obtain ⟨sl, q⟩ := n.un.slot b u e a1 a2 a3
    exact ⟨sl, k _ _ (ne e) q⟩
  · obtain ⟨u', q⟩ := n.un.there b u e a3
    exact ⟨u', k _ _ (ne e) q⟩
  · refine (n.hok b u e).stay (fun a v ha q => k a v ?_ q) (fun _ q => q) (fun _ _ q => q)
    rintro rfl
    rcases ha with rfl | ha
    · rw [nc] at e
      cases e
    · rw [nc] at ha
      cases ha
/-- and another becomes a tracked list -/
theorem On.list {H1 G : Hp} {s1 : Shared} {h g : Heap} {gs : Array GenState} {d : Drawn} {t t' : Nat} {o : _} {c a : Addr} {ys : List V} (n : On X H1 s1 G ⟨h, gs, d, t, o⟩) (hc : s1.heap.get? c = none) (nc : G c = none) (ha : s1.heap.get? a = none) (na : G a = none)
    (k : ∀ b u, b ≠ c → b ≠ a → h.get? b = some u → g.get? b = some u) (new : ObjOk X.prog X.w (L2.upd G a (.lst ys)) g a (.lst ys)) : On X H1 s1 (L2.upd G a (.lst ys)) ⟨g, gs, d, t', o⟩ := by
  have nec : ∀ {b u}, s1.heap.get? b = some u → b ≠ c := fun {b u} e z => by rw [z, hc] at e; cases e
  have nea : ∀ {b u}, s1.heap.get? b = some u → b ≠ a := fun {b u} e z => by rw [z, ha] at e; cases e
  refine ⟨⟨fun b u e a1 a2 a3 => k b u (nec e) (nea e) (n.un.keep b u e a1 a2 a3), fun b u e a1 a2 a3 => ?_, fun b u e a1 a2 => by rw [upd_ne (nea e)]; exact n.un.free b u e a1 a2, fun b u e a3 => ?_, fun b xs q => ?_, fun b ob u q => ?_, fun b ps q => ?_⟩, fun b u e => ?_, n.bare, n.os⟩
  · obtain ⟨sl, q⟩ := n.un.slot b u e a1 a2 a3
    exact ⟨sl, k _ _ (nec e) (nea e) q⟩
  · obtain ⟨u', q⟩ := n.un.there b u e a3
    exact ⟨u', k _ _ (nec e) (nea e) q⟩
  · have z := n.un.tups b xs q
    rw [upd_ne (ne_of_none z na)]
    exact z
  · have z := n.un.frzs b ob u q
    rw [upd_ne (ne_of_none z na)]
    exact z
  · obtain ⟨m, z⟩ := n.un.tbls b ps q
    exact ⟨m, by rw [upd_ne (ne_of_none z na)]; exact z⟩
  · by_cases hb : b = a
    · subst hb
      rw [upd_same] at e
      cases e
      exact new
    · rw [upd_ne hb] at e
      refine (n.hok b u e).stay (fun v w' hv q => k v w' ?_ ?_ q) (fun v q => by rw [upd_ne (ne_of_none q na)]; exact q) (fun v xs q => by rw [upd_ne (ne_of_none q na)]; exact q)
      · rintro rfl
        rcases hv with rfl | hv
        · rw [nc] at e
          cases e
        · rw [nc] at hv
          cases hv
      · rintro rfl
        rcases hv with rfl | hv
        · exact hb rfl
        · rw [na] at hv
          cases hv
end
section
variable {X : Cx} {pins : List (Addr × Obj)} {σ : L2.St} {A : Around} {E : Value → Shared → Prop} {P : PySem.Fin → Shared → Prop}
theorem each_zip {α β : Type} {R : α → β → Prop} {xs : List α} {ys : List β} (hl : xs.length = ys.length) (h : ∀ (i : Nat) (x : α) (y : β), xs[i]? = some x → ys[i]? = some y → R x y) : EachIs R xs ys := by
  induction xs generalizing ys with
  | nil =>
    cases ys with
    | nil => exact .nil
    | cons _ _ => simp at hl
  | cons x xs ih =>
    cases ys with
    | nil => simp at hl
    | cons y ys => exact .cons (h 0 x y rfl rfl) (ih (by simpa using hl) fun i a b ha hb => h (i + 1) a b (by simpa using ha) (by simpa using hb))
theorem sqT_same {K : PySem.W.Frag} {H H' : Hp} (s : ∀ b o, H b = some o → H' b = some o) {a : Addr} {xs : List V} (h : SqT K H a xs) : SqT K H' a xs := h.imp (fun z => z.imp (s _ _) fun ⟨o, e⟩ => ⟨o, s _ _ e⟩) id
theorem sqL_same {K : PySem.W.Frag} {H H' : Hp} (s : ∀ b o, H b = some o → H' b = some o) {a : Addr} {xs : List V} (h : SqL K H a xs) : SqL K H' a xs := h.imp (fun z => z.imp (s _ _) fun ⟨o, e⟩ => ⟨o, s _ _ e⟩) id
mutual
theorem dp_same {K : PySem.W.Frag} {H H' : Hp} (s : ∀ b o, H b = some o → H' b = some o) : ∀ (d : PyData) (v : V), Dp K H v d → Dp K H' v d
  | .none, _, h => by cases h; exact .non
  | .bool b, _, h => by cases h; exact .bl b
  | .int i, _, h => by cases h; exact .int i
  | .str x, _, h => by cases h; exact .str x
  | .list ds, _, h => by
    cases h with
    | lst q t => exact .lst (sqL_same s q) (dps_same s ds _ t)
  | .tuple ds, _, h => by
    cases h with
    | tup q t => exact .tup (sqT_same s q) (dps_same s ds _ t)
  | .dict ks, _, h => by cases h
theorem dps_same {K : PySem.W.Frag} {H H' : Hp} (s : ∀ b o, H b = some o → H' b = some o) : ∀ (ds : List PyData) (vs : List V), DpAll K H vs ds → DpAll K H' vs ds
  | [], _, h => by cases h; exact .nil
  | d :: ds, _, h => by
    cases h with
    | cons h t => exact .cons (dp_same s d _ h) (dps_same s ds _ t)
end
/-- the rest of the sort: the keys are made, then all is sorted -/
theorem sortW_rest {H1 G : Hp} {s1 s : Shared} {f : Value} {a kS : Addr} {e1 : Nat} {vs : List Value} {xs : List V} {kz : List PyData} (I : Inv X pins σ H1 s1) (n : On X H1 s1 G s) (sm : ∀ b o, H1 b = some o → G b = some o) (lka : s1.heap.objs.size ≤ kS) (laa : s1.heap.objs.size ≤ a) (ne : kS ≠ a)
    (nk : s.heap.get? kS = some (seqObj "list" #[] 0)) (na : s.heap.get? a = some (seqObj "list" #[] e1)) (gk : G kS = none) (ga : G a = none) (hv : Vals xs vs) (hlen : kz.length = vs.length) (hZ : vs.length ≤ sizeLine) (hal : AllAlike kz) (hsk : Sortable kz) (hu : ∀ d, d ∈ kz → A.units + d.depth < cLine)
    (turn : ∀ (i : Nat) (v : V) (u : Value) (k : PyData), xs[i]? = some v → vs[i]? = some u → kz[i]? = some k → RelV v u → ∀ (F : Hp) (t : Shared), On X H1 s1 F t → (∀ b o, H1 b = some o → F b = some o) →
      wpAny (model X.prog X.w) A (call f [u]) (fun y t' => ∃ (z : V) (F' : Hp), On X H1 s1 F' t' ∧ RelV z y ∧ (∀ b o, F b = some o → F' b = some o) ∧ Dp X.K F' z k ∧ (∀ b o, t.heap.get? b = some o → s1.heap.objs.size ≤ b → F b = none → t'.heap.get? b = some o ∧ F' b = none)) (fun _ _ => False) t)
    (h : ∀ (F : Hp) (t : Shared), On X H1 s1 (L2.upd F a (.lst (((xs.zip kz).mergeSort (dataLe false Prod.snd)).map (·.1)))) t → (∀ b o, H1 b = some o → F b = some o) → F a = none → P (.done (.ret .none)) t) :
    wpAny (model X.prog X.w) A (ksk_rest a f false vs.toArray e1 (.ref kS)) P E s := by
  have lv := hv.length
  have hka : s1.heap.get? kS = none := Heap.get?_none_of_le lka
  have haa : s1.heap.get? a = none := Heap.get?_none_of_le laa
  unfold ksk_rest
  refine wpAny_bind (wpAny_rule ?_)
  first
    | rw [List.forIn_toArray]
    | (rw [← Array.forIn_toList]; simp only [List.toList_toArray])
    | rw [← Array.forIn_toList]
  refine wpAny_bind (ksk_fold (fun i t => ∃ (F : Hp) (kA : Array Value) (e : Nat) (ys : List V), On X H1 s1 F t ∧ (∀ b o, H1 b = some o → F b = some o) ∧ F kS = none ∧ F a = none ∧ t.heap.get? kS = some (seqObj "list" kA e) ∧ t.heap.get? a = some (seqObj "list" #[] e1) ∧ Vals ys kA.toList ∧ ys.length = i ∧ ∀ (m : Nat) (y : V) (k : PyData), ys[m]? = some y → kz[m]? = some k → Dp X.K F y k) vs 0 s
    ⟨G, #[], 0, [], n, sm, gk, ga, nk, na, .nil, rfl, fun m y k e => by simp at e⟩ ?step ?done)
  case step =>
    rintro j x t hx ⟨F, kA, e, ys, nt, smt, fk, fa, tk, ta, hys, hyl, hds⟩
    simp only [Nat.zero_add] at hyl ⊢
    have hj : j < vs.length := (List.getElem?_eq_some_iff.mp hx).1
    obtain ⟨k, hkj⟩ : ∃ k, kz[j]? = some k := ⟨_, List.getElem?_eq_getElem (by omega)⟩
    obtain ⟨v, hvj⟩ : ∃ v, xs[j]? = some v := ⟨_, List.getElem?_eq_getElem (by omega)⟩
    have rv : RelV v x := by
      obtain ⟨u', e', ru⟩ := hv.get hvj
      rw [hx] at e'
      cases e'
      exact ru
    have hz : kA.size ≤ vs.length := by
      have h1 := hys.length
      have h3 : kA.toList.length = kA.size := by simp
      omega
    refine wpAny_bind (wpAny_attempt (wpAny_mono (turn j v x k hvj hx hkj rv F t nt smt) (fun y t' he => ?_) fun _ _ hF => hF.elim))
    obtain ⟨z, F', n', rz, s', dz, keep⟩ := he
    try dsimp only
    obtain ⟨tk2, fk2⟩ := keep kS _ tk lka fk
    obtain ⟨ta2, fa2⟩ := keep a _ ta laa fa
    obtain ⟨g, gs, d, tt, oo⟩ := t'
    have sb := Heap.SameBut.update g kS (Obj.mapSeq (·.push y))
    obtain ⟨c2, hc2⟩ : ∃ c2, (g.update kS (Obj.mapSeq (·.push y))).get? kS = some (seqObj "list" (kA.push y) c2) := ⟨_, get?_update_seq tk2 (·.push y)⟩
    refine wpAny_bind (listUpdate_at tk2 rfl ?_ (Nat.le_trans hz hZ) (Nat.le_trans (Nat.le_of_eq (Array.size_push ..)) (Nat.succ_le_succ (Nat.le_trans hz hZ))))
    refine wpAny_pure ⟨rfl, F', kA.push y, c2, ys ++ [z], n'.but hka fk2 (fun b u hb q => (sb.2 b hb).trans q), fun b o q => s' b o (smt b o q), fk2, fa2, hc2, (sb.2 a ne.symm).trans ta2, ?_, by rw [List.length_append, hyl]; rfl, fun m y' k' ey ek => ?_⟩
    · rw [Array.toList_push]
      exact hys.append (.cons rz .nil)
    · by_cases hm : m < ys.length
      · rw [List.getElem?_append_left hm] at ey
        exact dp_same s' _ _ (hds m y' k' ey ek)
      · have hm2 : m = j := by
          have := (List.getElem?_eq_some_iff.mp ey).1
          rw [List.length_append] at this
          have e1 : ([z] : List V).length = 1 := rfl
          omega
        subst hm2
        rw [List.getElem?_append_right (by omega), show m - ys.length = 0 by omega] at ey
        rw [hkj] at ek
        cases ek
        cases ey
        exact dz
  case done =>
    rintro t ⟨F, kA, e, ys, nt, smt, fk, fa, tk, ta, hys, hyl, hds⟩
    have It := nt.inv I
    have ly := hys.length
    have lk : kA.toList.length = kA.size := by simp
    simp only [Nat.zero_add] at hyl
    have hk' : EachIs (fun v k => ∃ as, Reads t.heap v k as) kA.toList kz := each_zip (by omega) fun i u k eu ek => by
      have il : i < ys.length := by
        have := (List.getElem?_eq_some_iff.mp eu).1
        omega
      obtain ⟨y, ey⟩ : ∃ y, ys[i]? = some y := ⟨_, List.getElem?_eq_getElem il⟩
      have dy := hds i y k ey ek
      obtain ⟨u', e', ru⟩ := hys.get ey
      rw [eu] at e'
      cases e'
      exact Dp.reads It k y u dy ru
    have hsz : kA.size = vs.length := by omega
    try dsimp only
    refine wpAny_bind (listItems_at tk rfl ?_)
    obtain ⟨R0, r1, r2⟩ := restrict t.heap fun b => decide (b ≠ kS)
    have kp : KeepsBut a R0 t.heap := fun b o hb q => by
      by_cases hbk : b = kS
      · rw [r2 b (decide_eq_false fun z => z hbk)] at q
        cases q
      · rw [r1 b (decide_eq_true hbk)] at q
        exact q
    have e1 : (xs.zip kz).map (·.1) = xs := List.map_fst_zip (by omega)
    have e2 : (xs.zip kz).map Prod.snd = kz := List.map_snd_zip (by omega)
    refine keyH_end (κ := dataKind t.heap kz) (h₁ := R0) kp (r2 kS (decide_eq_false fun z => z rfl)) tk ta ne (SortsAt.data hk' hal hsk hu) hsz hZ fun h3 tk3 c k3 n3 => ?_
    have ko : KeyedOut false ((xs.zip kz).map Prod.snd) vs (sortVals (dataKind t.heap kz) false kA.toList vs) := ⟨t.heap, kA.toList, by rw [e2]; exact hal, by rw [e2], by rw [e2]; exact hk'⟩
    have eR : EachIs (fun u (b : V × PyData) => RelV b.1 u) vs (xs.zip kz) := each_zip (by rw [List.length_zip]; omega) fun i u b eu eb => by
      rw [List.getElem?_zip_eq_some] at eb
      obtain ⟨u', e', ru⟩ := hv.get eb.1
      rw [eu] at e'
      cases e'
      exact ru
    have he := keyedOut_each Prod.snd ko eR
    have rel : ∀ {ws : List Value} {ps : List (V × PyData)}, EachIs (fun v (b : V × PyData) => RelV b.1 v) ws ps → Vals (ps.map (·.1)) ws := by
      intro ws ps e
      induction e with
      | nil => exact .nil
      | cons h t ih => exact .cons h ih
    obtain ⟨g, gs, d, tt, oo⟩ := t
    refine h F _ (nt.list hka fk haa fa (fun b u hb1 hb2 q => k3 b u hb2 (by rw [r1 b (decide_eq_true hb1)]; exact q)) ⟨?_, _, c, rel he, n3⟩) smt fa
    rw [List.length_map, List.length_mergeSort, List.length_zip]
    omega
end
end KX

set_option maxRecDepth 100000
set_option maxHeartbeats 4000000
namespace KX
open PySem PySem.Spec PyProof.Rows L2 PySem.W LamX NdefX
section
variable {X : Cx} {pins : List (Addr × Obj)} {σ : L2.St}
/-- sorted(t, key=f), t a tuple or a list -/
theorem run_sortedW {H : Hp} {s : Shared} {l : Addr} {f : Value} {xs : List V} {kz : List PyData} {Q : VK} {E : Value → Shared → Prop} (I : Inv X pins σ H s) (hs : SqL X.K H l xs ∨ SqT X.K H l xs) (hlen : kz.length = xs.length) (hal : AllAlike kz) (hsk : Sortable kz) (hu : ∀ d, d ∈ kz → X.A.units + 2 + d.depth < cLine)
    (ht : ∀ a, Builtin.«list.sort» ⟨[.ref a], [(Str.ofString "key", f)]⟩ = ksk_tree a f false)
    (turn : ∀ (g : Heap), (∀ b o, s.heap.get? b = some o → g.get? b = some o) → ∀ (i : Nat) (v : V) (u : Value) (k : PyData), xs[i]? = some v → kz[i]? = some k → RelV v u → ∀ (F : Hp) (t : Shared), On X H { s with heap := g } F t → (∀ b o, H b = some o → F b = some o) →
      wpAny (model X.prog X.w) X.A.in1.in1 (call f [u]) (fun y t' => ∃ (z : V) (F' : Hp), On X H { s with heap := g } F' t' ∧ RelV z y ∧ (∀ b o, F b = some o → F' b = some o) ∧ Dp X.K F' z k ∧ (∀ b o, t.heap.get? b = some o → g.objs.size ≤ b → F b = none → t'.heap.get? b = some o ∧ F' b = none)) (fun _ _ => False) t)
    (q : ∀ (F : Hp) (a : Addr), (∀ b o, H b = some o → F b = some o) → F a = none → Q (.ref a) (L2.upd F a (.lst (((xs.zip kz).mergeSort (dataLe false Prod.snd)).map (·.1))))) :
    wpAny (model X.prog X.w) X.A (call (.builtin "sorted") [.ref l] [(Str.ofString "key", f)]) (EP X pins σ Q) E s := by
  obtain ⟨its, rv, ob, ct, ho, hct, hc, n, hd, hz⟩ : ∃ its : List Value, Vals xs its ∧ ∃ (ob : Obj) (ct : String), s.heap.get? l = some ob ∧ (ct = "list" ∨ ct = "tuple") ∧ ob.cls = .type ct ∧ ∃ n, ob.data = .seq its.toArray n ∧ xs.length ≤ sizeLine := by
    rcases hs with hs | hs
    · obtain ⟨its, r, pl, hz⟩ := I.list hs
      obtain ⟨o, ho, hc, n, hd⟩ := pl.isList
      exact ⟨its, r, o, "list", ho, .inl rfl, hc, n, hd, hz⟩
    · obtain ⟨its, r, ⟨o, ho, hc, n, hd⟩, hz⟩ := I.tuple hs
      exact ⟨its, r, o, "tuple", ho, .inr rfl, hc, n, hd, hz⟩
  have lv := rv.length
  have hlv : its.length ≤ sizeLine := by omega
  refine call_function_entry_kw kind_sorted plain_sorted entry_sorted (ksk_s1 _ _) ?_
  unfold Builtin.«sorted»
  refine wpAny_bind (m := checkCount "sorted" 1 1 _) (wpAny_pure ?_)
  refine wpAny_bind (wpAny_collect_seq l hct ho hc hd (fun h1 kp => ?_) (by rw [List.size_toArray]; exact hlv))
  rw [List.toList_toArray]
  refine wpAny_bind (wpAny_newList ?_ hlv)
  have at1 : (h1.push (seqObj "list" its.toArray 0)).get? h1.objs.size = some (seqObj "list" its.toArray 0) := Heap.get?_push_size _ rfl
  have J : Inv X pins σ H { s with heap := h1 } := I.kept (t' := s.toks) kp
  have J0 : On X H { s with heap := h1 } H { s with heap := h1 } := ⟨Un.refl, J.hok, J.bare, rfl⟩
  refine wpAny_bind (wpAny_holding (wpAny_call_entry_kw slot_list_sort ⟨_, at1, rfl⟩ entry_list_sort ?body (ksk_l1 _ _)))
  case body =>
    show wpAny (model X.prog X.w) X.A.in1.in1 (Builtin.«list.sort» ⟨[.ref h1.objs.size], [(Str.ofString "key", f)]⟩) _ _ { s with heap := h1.push (seqObj "list" its.toArray 0) }
    rw [ht]
    have ha : h1.objs.size < (h1.push (seqObj "list" its.toArray 0)).objs.size := Heap.lt_size at1
    obtain ⟨e1, ho1⟩ : ∃ e1, ((h1.push (seqObj "list" its.toArray 0)).update h1.objs.size (Obj.mapSeq fun _ => (#[] : Array Value))).get? h1.objs.size = some (seqObj "list" #[] e1) := ⟨_, get?_update_seq at1 fun _ => #[]⟩
    have hkS : (((h1.push (seqObj "list" its.toArray 0)).update h1.objs.size (Obj.mapSeq fun _ => (#[] : Array Value))).push (seqObj "tuple" its.toArray 0)).objs.size = h1.objs.size + 1 + 1 := by rw [size_push', Heap.size_update, size_push']
    unfold ksk_tree
    refine wpAny_bind (listItems_at at1 rfl ?_)
    refine wpAny_bind (listUpdate_at at1 rfl ?_ (by rw [List.size_toArray]; exact hlv) (Nat.zero_le _))
    refine wpAny_bind (seqEpoch_at ho1 rfl ?_)
    refine wpAny_bind (wpAny_newTuple ?_ (by show its.length ≤ _; exact hlv))
    refine wpAny_bind (wpAny_newList ?_ (Nat.zero_le _))
    refine wpAny_holding ?_
    have old : ∀ b o, h1.get? b = some o → ((((h1.push (seqObj "list" its.toArray 0)).update h1.objs.size (Obj.mapSeq fun _ => (#[] : Array Value))).push (seqObj "tuple" its.toArray 0)).push (seqObj "list" #[] 0)).get? b = some o := fun b o e => by
      have sb := Heap.SameBut.update (h1.push (seqObj "list" its.toArray 0)) h1.objs.size (Obj.mapSeq fun _ => (#[] : Array Value))
      exact Heap.get?_push_of_some _ (Heap.get?_push_of_some _ ((sb.2 b (Nat.ne_of_lt (Heap.lt_size e))).trans (Heap.get?_push_of_some _ e)))
    refine sortW_rest (kz := kz) (s := { s with heap := (((h1.push (seqObj "list" its.toArray 0)).update h1.objs.size (Obj.mapSeq fun _ => (#[] : Array Value))).push (seqObj "tuple" its.toArray 0)).push (seqObj "list" #[] 0) }) (kS := (((h1.push (seqObj "list" its.toArray 0)).update h1.objs.size (Obj.mapSeq fun _ => (#[] : Array Value))).push (seqObj "tuple" its.toArray 0)).objs.size)
      J (On.kept (t' := s.toks) J0 old) (fun _ _ e => e) (by rw [hkS]; show h1.objs.size ≤ _; omega) (Nat.le_refl _) (show _ ≠ h1.objs.size from by rw [hkS]; omega) (Heap.get?_push_size _ rfl) (Heap.get?_push_of_some _ (Heap.get?_push_of_some _ ho1)) (J.hok.fresh (by rw [hkS]; show h1.objs.size ≤ _; omega)) (J.hok.fresh (Nat.le_refl _)) rv (by omega) hlv hal hsk (fun d hd => hu d hd)
      (fun i v u k e1 _ e3 r F t on sm => turn h1 kp i v u k e1 e3 r F t on sm) fun F t on sm fa => ?_
    exact ⟨.none, rfl, wpAny_pure ⟨_, rfl, .ref h1.objs.size, _, on.inv J, rfl, q F _ sm fa⟩⟩
end
end KX

set_option maxRecDepth 100000
set_option maxHeartbeats 4000000
namespace KX
open PySem PySem.Spec PyProof.Rows L2 LamX NdefX
/-- what is asked of the thing that is sorted, the lambda made -/
def KeyQ (T : List (Addr × Str)) (K : PySem.W.Frag) (tl : V → Hp → VK → Prop) (Q : VK) : VK := fun x H0 => Tabs T H0 ∧ ∀ H1, ExtN H0 H1 → Tabs T H1 → ∃ (l : Addr) (xs : List V) (kz : List PyData), x = V.ref l ∧ (SqL K H1 l xs ∨ SqT K H1 l xs) ∧ kz.length = xs.length ∧ PySem.W.AllAlike kz ∧ PySem.W.Sortable kz ∧ (∀ d ∈ kz, d.depth ≤ 50) ∧
  (∀ (i : Nat) (v : V) (k : PyData), xs[i]? = some v → kz[i]? = some k → ∀ F, Same H1 F → tl v F fun z F' => Same F F' ∧ Dp K F' z k) ∧
  ∀ (F : Hp) (a : Addr), Same H1 F → F a = none → Q (.ref a) (L2.upd F a (.lst (((xs.zip kz).mergeSort (PySem.W.dataLe false Prod.snd)).map (·.1))))
/-- sorted(e, key=lambda p: body), the table T holds the lambda's code -/
def tSortK (T : List (Addr × Str)) (K : PySem.W.Frag) (te : TE) (tl : L2.St → V → Hp → VK → Prop) : TE := fun σ H Q => te σ H (KeyQ T K (tl σ) Q)
section
variable {X : Cx}
theorem pe_sortLam {T : List (Addr × Str)} {p : Str} {c P : Addr} {k : Nat} {N fr : List Str} {js : List Nat} {params : Arguments} {body e : Expr} {scope : Scope} {tb te : TE} {pp lpos kpos pos : Pos} (hg : Gl X "sorted") (hm : X.mg "sorted" = none)
    (TB : TabB X.base X.mg c P) (hcode : X.env.code = .ref c) (hmT : (P, X.env.qual ++ "<lambda>") ∈ T) (hu : ∀ p ∈ T, p.1 = P → p.2 = X.env.qual ++ "<lambda>") (hr : Room (k + 3) X.A) (S : NScope N [p] fr scope)
    (hfree : ∀ y ∈ scope.names, y.2 = .free → X.env.scope.names.lookup y.1 = some .cell ∨ X.env.scope.names.lookup y.1 = some .free) (hfr : ∀ y ∈ fr, (y, NameKind.free) ∈ scope.names) (hjs : js.map (fun j => X.N[j]?) = fr.map some)
    (hdef : defaultsOf params X.env = ([], []))
    (hbind : ∀ (q : Str) (cl : List (Str × Addr)) (pm cv ctv u : Value), bindArgs (PySem.W.kla_fn "<lambda>" q params body scope cl pm cv ctv) ⟨[u], []⟩ = pure [(p, u)])
    (hbody : ∀ (A : Around) (outer : List PySem.Env) (s : Shared) (H : Hp) (f c' : Addr), Room k (A.deeper (envF (lamF (X.env.qual ++ "<lambda>") params scope (cloFrom X.env.cells scope.names []) c') f s.heap.objs.size)) →
      PE (ncx C8.CX0 X.prog X.w X.K X.mg X.base N (lamF (X.env.qual ++ "<lambda>") params scope (cloFrom X.env.cells scope.names []) c') f A outer s H C8.E0) body tb)
    (he : PE X e te) (hse : starEach [e] X.env = (false, eval e X.env) :: starEach [] X.env := by rfl) (h1 : backTo pos (starEach [e] X.env) = (false, eval e X.env) :: backTo pos (starEach [] X.env) := by rfl) (hpl : (backTo pos (starEach [e] X.env)).any (·.1) = false := by rfl) :
    PE X (.Call (.Name "sorted" pp) [e] [⟨some "key", .Lambda params body scope lpos, kpos⟩] pos) (tSortK T X.K te fun σ v F Q => tb (startF N [v] (js.map (slotAt σ))) F Q) := by
  refine ⟨fun pins s σ H Q I h => ?_⟩
  refine wpAny_Call_Name_kw (ld_blt I hg hm rfl ?_ (by decide) (by decide))
  refine PyProof.Rows.callWith_kw (thn ((pa_cons he pa_nil hse).run pos pins s σ H (fun vs H0 => ∃ x, vs = [x] ∧ KeyQ T X.K (fun v F Q => tb (startF N [v] (js.map (slotAt σ))) F Q) Q x H0) I ?_) fun us s0 ⟨vs, H0, I0, r0, q0⟩ => ?_) h1 hpl (by rfl) (by rfl)
  · show te σ H fun v H0 => ∃ x, [v] = [x] ∧ KeyQ T X.K (fun v F Q => tb (startF N [v] (js.map (slotAt σ))) F Q) Q x H0
    have e : (fun v H0 => ∃ x, [v] = [x] ∧ KeyQ T X.K (fun v F Q => tb (startF N [v] (js.map (slotAt σ))) F Q) Q x H0) = KeyQ T X.K (fun v F Q => tb (startF N [v] (js.map (slotAt σ))) F Q) Q := by
      funext v H0
      refine propext ⟨fun ⟨x, e, h⟩ => ?_, fun h => ⟨v, rfl, h⟩⟩
      cases e
      exact h
    rw [e]
    exact h
  obtain ⟨x, ev, hT, h⟩ := q0
  subst ev
  obtain ⟨u0, eu⟩ := vals_one r0
  subst eu
  have rx : RelV x u0 := by
    cases r0 with
    | cons a b => exact a
  have hfr2 : ∀ y ∈ scope.names, y.2 = .free → ∃ c, X.env.cells.lookup y.1 = some c := fun y hy e => (hfree y hy e).elim (fun z => I0.ok.has _ (.inl z)) fun z => I0.ok.has _ (.inr z)
  show wpAny _ _ (evalAll ((do let v ← eval (.Lambda params body scope lpos) X.env; standAt pos; pure v) :: [])) _ _ s0
  refine wpAny_evalAll_cons (wpAny_bind (lam_make2 I0 TB hcode hmT hu hT hdef hfr2 fun f c' pm' ctv H1 s' I1 eN T1 hf hfn hfr' hco => ?_))
  refine wpAny_bind (wpAny_standAt (wpAny_pure (wpAny_evalAll_nil ?_)))
  obtain ⟨l, xs, kz, el, hs, hlen, hal, hsk, hdep, turn, q⟩ := h H1 eN T1
  subst el
  cases rx
  have hun := hr.un
  refine run_sortedW I1 hs hlen hal hsk (fun d hd => by have := hdep d hd; omega) (fun a => ksk_t1 f a) (fun g kp i v u kk e1 e3 ru F t on sm => ?_) q
  have J : Inv X pins σ H1 { s' with heap := g } := I1.kept (t' := s'.toks) kp
  have nofr : ∀ b, g.objs.size ≤ b → b ∉ frs X.stack := fun b hb z => by
    rcases List.mem_cons.mp (J.stkSub _ z) with e | e
    · have h1 := J.lt
      rw [← e] at h1
      exact Nat.lt_irrefl _ (Nat.lt_of_lt_of_le h1 hb)
    · exact J.nofs hb e
  have It := on.inv J
  have cp := cells_of J (Caps.made J.ok hfree hfr hjs)
  have of1 : t.heap.get? f = some (PySem.W.kla_obj "<lambda>" (X.env.qual ++ "<lambda>") params body scope (cloFrom X.env.cells scope.names []) pm' c' ctv) := on.un.keep f _ (kp _ _ hf) hfn hfr' (fun z => nomatch z)
  have rc : codeAny (model X.prog X.w) X.A.in1.in1 (.call (.ref f) ⟨[u], []⟩) (CR C8.CX0 X.stack X.prog X.w F t (fun z F' => Same F F' ∧ Dp X.K F' z kk) C8.E0) t :=
    lam_run (k := k) (N := N) (ps := [p]) (vs := [v]) S (hbind _ _ _ _ _ u) hr.in1.in1 It.env0.in1.in1 of1 (sm _ _ hco) (cells_later cp on.un) (.cons ru .nil) rfl (fun hr2 => hbody _ _ _ _ _ _ hr2) (turn i v kk e1 e3 F sm)
  refine wpAny_call (codeAny_mono rc fun r t' hq => ?_)
  cases r with
  | error e => exact (show False from hq).elim
  | ok fl =>
    cases fl with
    | ret y =>
      obtain ⟨z, F', os, bare, un, hok, rz, sF, dz⟩ := hq
      exact ⟨z, F', ⟨on.un.trans un, hok, bare, os.trans on.os⟩, rz, sF, dz, fun b o e le fb => ⟨un.keep b o e fb (nofr b le) (fun z => nomatch z), un.free b o e fb (fun z => nomatch z)⟩⟩
    | next => exact False.elim hq
    | brk => exact False.elim hq
    | cont => exact False.elim hq
end
end KX

set_option maxRecDepth 100000
set_option maxHeartbeats 4000000
namespace G1
open PySem PySem.Spec PyProof.Rows L2 KX
/-- the rule for a def whose code is known -/
theorem okC {P : Program} {w : World} {K : PySem.W.Frag} {mg : Str → Option Value} {base : Heap} {x qual : Str} {st : Stmt} {f c0 : Addr} {oc kV doc pm ct : Value} {od an : Option Addr} {osl : Array (Option Value)} {N ps : List Str} {k : Nat} {sp : Sp}
    (lk : K.lookup f = some ⟨oc, od, .func (PySem.W.fnOf x qual (defArgs st) (defBody st) (defScope st) .none kV doc pm an (.ref c0) ct), osl⟩) (hcd : PySem.W.codeIn K (.ref c0) qual = true) (S : FnScope N ps (defScope st))
    (len : ∀ vs H Q E, sp vs H Q E → vs.length = ps.length)
    (hbody : ∀ (B : Around) (outs : List PySem.Env) (s : Shared) (H : Hp) (vs : List V) (Q : VK) (E : XK), Room k (B.deeper (envOfC qual (defScope st) s.heap.objs.size f (.ref c0))) →
      sp vs H Q E → ∃ t, PSs (cxOf CX0 P w K mg base N qual (defScope st) f (.ref c0) B outs s H E).nox (defBody st) t ∧ t { nx := fun _ H' => Q .non H', rt := Q } (L2.start N vs) H) :
    FnOk P w K mg base CX0 (k + 1) f (PySem.W.fnOf x qual (defArgs st) (defBody st) (defScope st) .none kV doc pm an (.ref c0) ct) ps sp := by
  refine fn_of lk hcd S len fun A outer s H vs Q E hr hsp => ?_
  obtain ⟨t, h, q⟩ := hbody A outer s H vs Q E hr hsp
  exact ⟨t, h.nox, q⟩
theorem tabs_same {T : List (Addr × Str)} {H H' : Hp} (s : Same H H') (t : LamX.Tabs T H) : LamX.Tabs T H' := t.ext fun b o e => s b o e
theorem ext_same {H H' : Hp} (s : Same H H') : LamX.ExtN H H' := LamX.ExtN.of fun b o e => s b o e
/-! ### sorted_rows -/
abbrev sSR : Stmt := topS 51
abbrev lamS : Str := (envOfC "sorted_rows" (defScope sSR) 0 0 .none).qual ++ "<lambda>"
abbrev TS (P0 : Addr) : List (Addr × Str) := [(P0, lamS)]
def keyR (os : List Ord) (r : Rec) : PyData := keyD os r.nm r.vals
/-- the rows in the order's sequence -/
def srt (os : List Ord) (rs : List Rec) : List Rec := rs.mergeSort (PySem.W.dataLe false (keyR os))
theorem alike_keys (os : List Ord) (rs : List Rec) : PySem.W.AllAlike (rs.map (keyR os)) := PySem.W.AllAlike.of fun a b => by
  simp [keyR, keyD, PySem.W.alike, PySem.W.alikeAll, PySem.W.alike_ints]
theorem tup_keys (os : List Ord) (rs : List Rec) : PySem.W.Sortable (rs.map (keyR os)) := PySem.W.Sortable.tuples fun b => ⟨_, _, rfl⟩
theorem depth_key (os : List Ord) (r : Rec) : (keyR os r).depth ≤ 50 := by
  simp [keyR, keyD, PyData.depth, PyData.depthAll, PySem.W.depth_ints]
def spSR (P0 : Addr) : Sp := fun vs H Q _ => ∃ (v ov : V) (rs : List Rec) (os : List Ord) (w : Int), vs = [v, ov] ∧ LamX.Tabs (TS P0) H ∧ Dx H v (.tuple (rs.map encR)) ∧ Dx H ov (.tuple (os.map encO)) ∧ OrdOk w os ∧ (∀ r ∈ rs, w ≤ (r.vals.length : Int) ∧ 1 ≤ r.vals.length ∧ r.vals.length ≤ 4) ∧
  ∀ (H' : Hp) (p : Addr) (ys : List V), LamX.ExtN H H' → LamX.Tabs (TS P0) H' → H' p = some (.lst ys) → Dxs H' ys ((srt os rs).map encR) → Q (.ref p) H'
theorem scSR : FnScope ["rowset", "order"] ["rowset", "order"] (defScope sSR) := ⟨rfl, rfl, rfl, by decide +kernel, rfl, by decide +kernel, by decide +kernel⟩
section
variable {P : Program} {w : World} {K : PySem.W.Frag} {mg : Str → Option Value} {base : Heap}
theorem ok_sr {k : Nat} {f c0 P0 fK : Addr} {fdK : FuncData} {oc kV doc pm ct : Value} {od an : Option Addr} {osl : Array (Option Value)} (B : Bl mg)
    (lk : K.lookup f = some ⟨oc, od, .func (PySem.W.fnOf "sorted_rows" "sorted_rows" (defArgs sSR) (defBody sSR) (defScope sSR) .none kV doc pm an (.ref c0) ct), osl⟩) (hcd : PySem.W.codeIn K (.ref c0) "sorted_rows" = true) (TB : LamX.TabB base mg c0 P0)
    (DK : Df K mg "order_key" sKey ["row", "order"] fK fdK) (GK : FnOk P w K mg base CX0 k fK fdK ["row", "order"] spKey) :
    FnOk P w K mg base CX0 (k + 4) f (PySem.W.fnOf "sorted_rows" "sorted_rows" (defArgs sSR) (defBody sSR) (defScope sSR) .none kV doc pm an (.ref c0) ct) ["rowset", "order"] (spSR P0) := by
  refine okC lk hcd scSR (fun vs H Q E h => ?_) (fun A outer s H vs Q E hr h => ?_)
  · obtain ⟨v, ov, rs, os, w, rfl, _⟩ := h
    rfl
  · obtain ⟨v, ov, rs, os, wi, rfl, ht, hd, ho, ok, hw, q⟩ := h
    refine ⟨_, pss_one (ps_ret (pe_sortLam (T := TS P0) (k := k) (js := [1]) (N := ["row", "order"]) (fr := ["order"]) (p := "row") (by rfl) B.sorted TB rfl (List.mem_singleton.mpr rfl) (fun p hp _ => by cases List.mem_singleton.mp hp; rfl) hr (NdefX.nscope_by (by decide +kernel)) (NdefX.ndef_free (sc := defScope sSR) (fr := ["order"]) (by decide +kernel)) (NdefX.ndef_fr (sc := defScope sSR) (by decide +kernel)) rfl rfl (fun _ _ _ _ _ _ => rfl)
        (fun A2 outer2 s2 H2 f2 c2 hr2 => pe_call GK hr2 (by rfl) DK.g DK.F.kp DK.b .nil pass0 (pa_cons (pv 0) (pa_cons (pv 1) pa_nil))) (pv 0))), ?_⟩
    obtain ⟨a, xs, rfl, ea, hx⟩ := dx_tup' hd
    have lx := hx.len
    rw [List.length_map] at lx
    refine ⟨.ref a, rfl, ht, fun H1 e1 t1 => ?_⟩
    have ea1 : H1 a = some (.tup xs) := e1 _ _ ea fun ps z => by cases z
    have hd1 := hd.ext e1
    have ho1 := ho.ext e1
    obtain ⟨a', xs', ea', ea2, hx1⟩ := dx_tup' hd1
    cases ea'
    rw [ea1] at ea2
    cases ea2
    refine ⟨a, xs, rs.map (keyR os), rfl, .inr (.inl (.inl ea1)), by rw [List.length_map, lx], alike_keys os rs, tup_keys os rs, fun d hd => by obtain ⟨r, _, rfl⟩ := List.mem_map.mp hd; exact depth_key os r, fun i v kd ev ek F sF => ?_, fun F p sF nF => ?_⟩
    · rw [List.getElem?_map] at ek
      obtain ⟨r, er, rfl⟩ := Option.map_eq_some_iff.mp ek
      obtain ⟨d, ed, hdx⟩ := hx1.get' ev
      rw [List.getElem?_map, er] at ed
      cases ed
      obtain ⟨h1, h2, h3⟩ := hw r (List.mem_of_getElem? er)
      refine ⟨v, rfl, ov, rfl, v, ov, encR r, r.nm, r.vals, os, wi, rfl, hdx.up sF, ⟨⟨_, _, rfl⟩, h2, h3⟩, ho1.up sF, ok, h1, fun F' p L s' ep eL => ⟨s', ?_⟩⟩
      exact .tup (.inl (.inl ep)) (.cons (.lst (.inl (.inl eL)) (dp_ints _)) (.cons (.str _) .nil))
    · have sN := same_new (o := .lst (((xs.zip (rs.map (keyR os))).mergeSort (PySem.W.dataLe false Prod.snd)).map (·.1))) nF
      have e2 : xs.zip (rs.map (keyR os)) = (xs.zip rs).map fun b => (b.1, keyR os b.2) := by
        rw [List.zip_map_right]
        rfl
      have e3 : (xs.zip (rs.map (keyR os))).mergeSort (PySem.W.dataLe false Prod.snd) = ((xs.zip rs).mergeSort (PySem.W.dataLe false fun b => keyR os b.2)).map fun b => (b.1, keyR os b.2) := by
        rw [e2]
        exact (List.map_mergeSort (f := fun b : V × Rec => (b.1, keyR os b.2)) (r := PySem.W.dataLe false fun b : V × Rec => keyR os b.2) (s := PySem.W.dataLe false Prod.snd) (l := xs.zip rs) (fun a _ b _ => rfl)).symm
      have e4 : ((xs.zip rs).mergeSort (PySem.W.dataLe false fun b => keyR os b.2)).map Prod.snd = srt os rs := by
        have h := List.map_mergeSort (f := Prod.snd) (r := PySem.W.dataLe false fun b : V × Rec => keyR os b.2) (s := PySem.W.dataLe false (keyR os)) (l := xs.zip rs) (fun a _ b _ => rfl)
        rw [List.map_snd_zip (by omega)] at h
        exact h
      have each : ∀ b ∈ (xs.zip rs).mergeSort (PySem.W.dataLe false fun b => keyR os b.2), Dx F b.1 (encR b.2) := fun b hb => by
        have hb := List.mem_mergeSort.mp hb
        obtain ⟨i, hi, e⟩ := List.mem_iff_getElem.mp hb
        have e' : (xs.zip rs)[i]? = some b := by rw [List.getElem?_eq_getElem hi, e]
        rw [List.getElem?_zip_eq_some] at e'
        obtain ⟨d, ed, hd⟩ := hx1.get' e'.1
        rw [List.getElem?_map, e'.2] at ed
        cases ed
        exact hd.up sF
      have hx2 := dxs_pairs _ each
      have e5 : ((xs.zip rs).mergeSort (PySem.W.dataLe false fun b => keyR os b.2)).map (fun b => encR b.2) = (srt os rs).map encR := by
        rw [← e4, List.map_map]
        rfl
      rw [e5] at hx2
      have e6 : ((xs.zip (rs.map (keyR os))).mergeSort (PySem.W.dataLe false Prod.snd)).map (·.1) = ((xs.zip rs).mergeSort (PySem.W.dataLe false fun b => keyR os b.2)).map (·.1) := by
        rw [e3, List.map_map]
        rfl
      refine q _ p _ (e1.trans (ext_same (sF.trans sN))) (tabs_same (sF.trans sN) t1) upd_same ?_
      rw [e6]
      exact hx2.up (by rw [← e6]; exact sN)
end
end G1

set_option maxRecDepth 100000
set_option maxHeartbeats 4000000
namespace G1
open PySem PySem.Spec PyProof.Rows L2 KX
/-! ### names_of a list, sorted_names_of -/
abbrev sSNO : Stmt := topS 32
abbrev sTR : Stmt := topS 56
abbrev sCc : Stmt := topS 54
abbrev sTN : Stmt := topS 55
def spNOL : Sp := fun vs H Q _ => ∃ (a : Addr) (xs : List V) (rs : List Rec), vs = [.ref a] ∧ H a = some (.lst xs) ∧ Dxs H xs (rs.map encR) ∧ rs.length ≤ 1000 ∧ ∀ H' p, Same H H' → Dx H' (.ref p) (.tuple ((rs.map (·.nm)).map .str)) → Q (.ref p) H'
theorem dxs_strs {H : Hp} : ∀ ns : List Str, Dxs H (ns.map V.str) (ns.map PyData.str)
  | [] => .nil
  | n :: ns => .cons (.str n) (dxs_strs ns)
def srtN (ns : List Str) : List Str := ns.mergeSort (PySem.W.dataLe false PyData.str)
def spSNO : Sp := fun vs H Q _ => ∃ (a : Addr) (xs : List V) (rs : List Rec), vs = [.ref a] ∧ H a = some (.lst xs) ∧ Dxs H xs (rs.map encR) ∧ rs.length ≤ 1000 ∧ ∀ H' p, Same H H' → Dx H' (.ref p) (.tuple ((srtN (rs.map (·.nm))).map .str)) → Q (.ref p) H'
theorem scSNO : FnScope ["rows"] ["rows"] (defScope sSNO) := ⟨rfl, rfl, rfl, by decide +kernel, rfl, by decide +kernel, by decide +kernel⟩
theorem alike_strs (ns : List Str) : PySem.W.AllAlike (ns.map PyData.str) := PySem.W.AllAlike.of fun a b => by simp [PySem.W.alike]
section
variable {P : Program} {w : World} {K : PySem.W.Frag} {mg : Str → Option Value} {base : Heap}
theorem ok_nol {f : Addr} {fd : FuncData} (B : Bl mg) (cn : ∃ t, mg "NAME" = some (.int 0 t)) (D : Df K mg "names_of" sNO ["rows"] f fd) : FnOk P w K mg base CX0 1 f fd ["rows"] spNOL := by
  obtain ⟨tn, mn⟩ := cn
  refine D.F.ok scNO (fun vs H Q E h => ?_) (fun cdv A outer s H vs Q E hr h => ?_)
  · obtain ⟨a, xs, rs, rfl, _⟩ := h
    rfl
  · obtain ⟨a, xs, rs, rfl, ea, h, hl, q⟩ := h
    have nd := scNO.nd
    refine ⟨_, pss_one (ps_ret (pe_callTy call_tuple_of (by rfl) B.tuple (by decide +kernel) (pa_cons (pe_lc (own := [("row", 1)]) (g := gName 1) rfl nd (pi_list (pv 0))
        (blkOk_by (N := ["rows", "row"]) (sc := defScope sNO) (by decide +kernel)) (fun _ _ _ _ _ => pg_name (i := 1) nd rfl (Or.inl rfl)) (fun _ _ _ _ _ => pts_nil)
        (fun _ _ _ _ _ => pe_ix (r := rIxT K) ix_tup (pv 1) (pe_glob (v := .int 0) (by rfl) mn ⟨_, rfl⟩) (fun _ _ => rfl))) pa_nil))), ?_⟩
    have lx := h.len
    rw [List.length_map] at lx
    refine ⟨.ref a, rfl, a, rfl, ⟨_, .inl (.inl ea)⟩, fun D nD => ?_⟩
    refine lc_list (xs := xs) (fun i G => Same H G ∧ G D = some (.lst (((rs.take i).map (·.nm)).map V.str))) ⟨same_new nD, upd_same⟩ (fun i G _ hG => .inl (.inl (hG.1 _ _ ea))) (fun i x G hx hG => ?_) (fun G hG => ?_)
    · obtain ⟨sG, eD⟩ := hG
      obtain ⟨d, ed, hdx⟩ := h.get' hx
      rw [List.getElem?_map] at ed
      obtain ⟨r, er, rfl⟩ := Option.map_eq_some_iff.mp ed
      obtain ⟨b, z, vs, rfl, eb, _⟩ := row_dx (hdx.up sG)
      refine ⟨rfl, .ref b, rfl, b, _, 0, .str r.nm, rfl, rfl, .inl (.inl eb), rfl, _, eD, ?_, same_at sG nD, ?_⟩
      · rw [List.length_map, List.length_map, List.length_take]
        have hb : (1000 : Nat) < sizeLine := by decide
        omega
      · rw [upd_same, List.take_add_one, er, List.map_append, List.map_append]
        rfl
    · obtain ⟨sG, eD⟩ := hG
      rw [List.take_of_length_le (by omega)] at eD
      refine ⟨D, _, rfl, .inl ⟨.inl (.inl eD), fun p np => ?_⟩⟩
      exact q _ p (sG.trans (same_new np)) (.tup upd_same (dxs_strs _))
theorem ok_sno {k : Nat} {f fN : Addr} {fd fdN : FuncData} (B : Bl mg) (D : Df K mg "sorted_names_of" sSNO ["rows"] f fd) (DN : Df K mg "names_of" sNO ["rows"] fN fdN) (GN : FnOk P w K mg base CX0 k fN fdN ["rows"] spNOL) : FnOk P w K mg base CX0 (k + 1) f fd ["rows"] spSNO := by
  refine D.F.ok scSNO (fun vs H Q E h => ?_) (fun cdv A outer s H vs Q E hr h => ?_)
  · obtain ⟨a, xs, rs, rfl, _⟩ := h
    rfl
  · obtain ⟨a, xs, rs, rfl, ea, h, hl, q⟩ := h
    refine ⟨_, pss_one (ps_ret (pe_callTy call_tuple_of (by rfl) B.tuple (by decide +kernel) (pa_cons (pe_callB (cr_sortT (enc := PyData.str) hr) (by rfl) B.sorted (by decide +kernel) (pa_cons (pe_call GN hr (by rfl) DN.g DN.F.kp DN.b .nil pass0 (pa_cons (pv 0) pa_nil)) pa_nil)) pa_nil))), ?_⟩
    refine ⟨.ref a, rfl, a, xs, rs, rfl, ea, h, hl, fun G p sG hp => ?_⟩
    obtain ⟨p', ks, ep, eap, hks⟩ := dx_tup' hp
    cases ep
    have ek := vals_strsD hks
    obtain ⟨ns, ens⟩ : ∃ ns, ns = rs.map (fun r : Rec => r.nm) := ⟨_, rfl⟩
    have lns : ns.length = rs.length := by rw [ens, List.length_map]
    rw [← ens] at ek q
    refine ⟨p, ns.map fun n => (V.str n, n), rfl, .inl (.inl ?_), fun b hb => ?_, ?_, ?_, fun b hb => ?_, fun pl npl => ?_⟩
    · rw [List.map_map, eap, ek]
      rfl
    · obtain ⟨n, _, rfl⟩ := List.mem_map.mp hb
      exact .str n
    · rw [List.map_map]
      exact alike_strs ns
    · rw [List.map_map]
      exact PySem.W.Sortable.others fun n => ⟨by simp, by simp⟩
    · simp [PyData.depth]
    · have e1 : ((ns.map fun n => (V.str n, n)).mergeSort (PySem.W.dataLe false fun b => PyData.str b.2)).map (·.1) = (srtN ns).map V.str := by
        have h := List.map_mergeSort (f := fun n : Str => (V.str n, n)) (r := PySem.W.dataLe false PyData.str) (s := PySem.W.dataLe false fun b : V × Str => PyData.str b.2) (l := ns) (fun a _ b _ => rfl)
        rw [← h, List.map_map]
        rfl
      refine ⟨pl, _, rfl, .inl ⟨.inl (.inl upd_same), fun p2 np2 => ?_⟩⟩
      refine q _ p2 ((sG.trans (same_new npl)).trans (same_new np2)) (.tup upd_same ?_)
      rw [e1]
      exact dxs_strs _
/-! ### top_rows, check_count, top_names -/
theorem scTR : FnScope ["rowset", "order", "count"] ["rowset", "order", "count"] (defScope sTR) := ⟨rfl, rfl, rfl, by decide +kernel, rfl, by decide +kernel, by decide +kernel⟩
theorem scCc : FnScope ["count"] ["count"] (defScope sCc) := ⟨rfl, rfl, rfl, by decide +kernel, rfl, by decide +kernel, by decide +kernel⟩
theorem scTN : FnScope ["rowset", "order", "count"] ["rowset", "order", "count"] (defScope sTN) := ⟨rfl, rfl, rfl, by decide +kernel, rfl, by decide +kernel, by decide +kernel⟩
def spTR (P0 : Addr) : Sp := fun vs H Q _ => ∃ (v ov : V) (rs : List Rec) (os : List Ord) (w : Int) (n : Nat), vs = [v, ov, .int (n : Int)] ∧ LamX.Tabs (TS P0) H ∧ Dx H v (.tuple (rs.map encR)) ∧ Dx H ov (.tuple (os.map encO)) ∧ OrdOk w os ∧ (∀ r ∈ rs, w ≤ (r.vals.length : Int) ∧ 1 ≤ r.vals.length ∧ r.vals.length ≤ 4) ∧
  ∀ (H' : Hp) (p : Addr) (ys : List V), LamX.ExtN H H' → LamX.Tabs (TS P0) H' → H' p = some (.lst ys) → Dxs H' ys (((srt os rs).take n).map encR) → Q (.ref p) H'
theorem cutV_to (xs : List V) (n : Nat) : cutV xs none (some (n : Int)) = xs.take n := by
  unfold cutV
  rw [HT.sIx_none, HT.sIx_nat, Nat.sub_zero, List.drop_zero]
  rcases Nat.le_total n xs.length with h | h
  · rw [Nat.min_eq_left h]
  · rw [Nat.min_eq_right h, List.take_of_length_le (Nat.le_refl _), List.take_of_length_le h]
theorem Dxs.takeN {H : Hp} {xs : List V} {ds : List PyData} (h : Dxs H xs ds) (n : Nat) : Dxs H (xs.take n) (ds.take n) := by
  induction n generalizing xs ds with
  | zero => exact .nil
  | succ n ih =>
    cases h with
    | nil => exact .nil
    | cons h t => exact .cons h (ih t)
theorem ok_tr {k : Nat} {f fS P0 : Addr} {fd fdS : FuncData} (D : Df K mg "top_rows" sTR ["rowset", "order", "count"] f fd) (DS : Df K mg "sorted_rows" sSR ["rowset", "order"] fS fdS) (GS : FnOk P w K mg base CX0 k fS fdS ["rowset", "order"] (spSR P0)) : FnOk P w K mg base CX0 (k + 1) f fd ["rowset", "order", "count"] (spTR P0) := by
  refine D.F.ok scTR (fun vs H Q E h => ?_) (fun cdv A outer s H vs Q E hr h => ?_)
  · obtain ⟨v, ov, rs, os, wi, n, rfl, _⟩ := h
    rfl
  · obtain ⟨v, ov, rs, os, wi, n, rfl, ht, hd, ho, ok, hw, q⟩ := h
    refine ⟨_, pss_one (ps_ret (pe_slice sl_list (pe_call GS hr (by rfl) DS.g DS.F.kp DS.b .nil pass0 (pa_cons (pv 0) (pa_cons (pv 1) pa_nil))) po_none (po_some (pv 2)))), ?_⟩
    refine ⟨v, rfl, ov, rfl, v, ov, rs, os, wi, rfl, ht, hd, ho, ok, hw, fun G p ys eG tG ep hy => ?_⟩
    refine ⟨.int (n : Int), rfl, (n : Int), rfl, p, ys, rfl, .inl (.inl ep), fun p2 n2 => ?_⟩
    rw [cutV_to]
    refine q _ p2 _ (eG.trans (ext_same (same_new n2))) (tabs_same (same_new n2) tG) upd_same ?_
    rw [List.map_take]
    exact (Dxs.takeN hy n).up (same_new n2)
def spCc (C : Addr) : Sp := fun vs H Q E => ∃ v d, vs = [v] ∧ Dx H v d ∧
  (if betw 1 9 d = true then Q .non H else ∀ H' dd, Same H H' → H' dd = some (.xd [("value", v)]) → E (.ref C) (some dd) H')
theorem ok_cc {C : Addr} {f fC : Addr} {fd fdC : FuncData} (mc : ∃ t, mg "MAX_COUNT" = some (.int 9 t)) (D : Df K mg "check_count" sCc ["count"] f fd) (DC : Df K mg "check_between" sCk ["value", "low", "high"] fC fdC) {k : Nat} (GC : FnOk P w K mg base (L2.CX P w) k fC fdC ["value", "low", "high"] (spCk C)) :
    FnOk P w K mg base (L2.CX P w) (k + 1) f fd ["count"] (spCc C) := by
  obtain ⟨tw, mw⟩ := mc
  refine D.F.okX scCc (fun vs H Q E h => ?_) (fun cdv A outer s H vs Q E hr h => ?_)
  · obtain ⟨v, d, rfl, _⟩ := h
    rfl
  · obtain ⟨v, d, rfl, hd, q⟩ := h
    refine ⟨_, pss_one (ps_expr (pe_callS GC hr (by rfl) DC.g DC.F.kp DC.b (fun σ => passAt (takes_of rfl rfl rfl rfl) σ) (pa_cons (pv 0) (pa_cons pe_int (pa_cons (pe_glob (v := .int 9) (by rfl) mw ⟨_, rfl⟩) pa_nil))))), ?_⟩
    exact ⟨v, rfl, v, d, 1, 9, rfl, hd, q⟩
/-- the names that are selected -/
def topN (os : List Ord) (n : Nat) (rs : List Rec) : List Str := srtN (((srt os rs).take n).map fun r : Rec => r.nm)
def spTN (RA OA CA P0 : Addr) : Sp := fun vs H Q E => ∃ (v ov cv : V) (d od cd : PyData), vs = [v, ov, cv] ∧ LamX.Tabs (TS P0) H ∧ Dx H v d ∧ SmR d ∧ Dx H ov od ∧ okO od ∧ Dx H cv cd ∧ (rowsetD d = false → ∀ H', Same H H' → E (.ref RA) none H') ∧
  ∀ rs, d = .tuple (rs.map encR) → RsOk rs → (ordD (widthI rs) od = false → ∀ H', Same H H' → E (.ref OA) none H') ∧
    ∀ os, od = .tuple (os.map encO) → OrdOk (widthI rs) os → (betw 1 9 cd = false → ∀ H' dd, Same H H' → H' dd = some (.xd [("value", cv)]) → E (.ref CA) (some dd) H') ∧
      ∀ n : Nat, cd = .int (n : Int) → 1 ≤ n → n ≤ 9 → ∀ (H' : Hp) (p : Addr), LamX.ExtN H H' → LamX.Tabs (TS P0) H' → Dx H' (.ref p) (.tuple ((topN os n rs).map .str)) → Q (.ref p) H'
theorem width_ok {rs : List Rec} (ok : RsOk rs) : 1 ≤ widthI rs ∧ widthI rs ≤ 4 ∧ ∀ r ∈ rs, widthI rs ≤ (r.vals.length : Int) ∧ 1 ≤ r.vals.length ∧ r.vals.length ≤ 4 := by
  have each : ∀ r ∈ rs, 1 ≤ r.vals.length ∧ r.vals.length ≤ 4 := fun r hr => by
    have h := List.all_eq_true.mp ok.row (encR r) (List.mem_map.mpr ⟨r, hr, rfl⟩)
    have h : (nameD (.str r.nm) && betw 1 1000000 (.int r.cost) && (valsD (.tuple (r.vals.map .int)) && betw 1 1000000000 (.int r.exp))) = true := h
    simp only [Bool.and_eq_true] at h
    have h3 := h.2.1
    have e : valsD (.tuple (r.vals.map .int)) = ((decide (1 ≤ (((r.vals.map PyData.int).length : Nat) : Int)) && decide ((((r.vals.map PyData.int).length : Nat) : Int) ≤ 4)) && (r.vals.map PyData.int).all (betw (-1000000000) 1000000000)) := rfl
    rw [e, List.length_map, Bool.and_eq_true, Bool.and_eq_true] at h3
    have a := of_decide_eq_true h3.1.1
    have b := of_decide_eq_true h3.1.2
    omega
  cases rs with
  | nil => exact ⟨by decide, by decide, fun r hr => by cases hr⟩
  | cons r0 rs =>
    obtain ⟨a, b⟩ := each r0 (by simp)
    have ew : widthI (r0 :: rs) = (r0.vals.length : Int) := rfl
    rw [ew]
    refine ⟨by omega, by omega, fun r hr => ?_⟩
    obtain ⟨c, d⟩ := each r hr
    have h1 : ((r0 :: rs).all fun e => decide (e.vals.length = r0.vals.length)) = true := ok.one
    have := of_decide_eq_true (List.all_eq_true.mp h1 r hr)
    omega
theorem ok_tn {k : Nat} {RA OA CA P0 f fO fW fC fS fT : Addr} {fd fdO fdW fdC fdS fdT : FuncData} {params : Arguments} {kws : List (Str × V)} (F : FunD K "top_names" "top_names" (defArgs sTN) (defBody sTN) (defScope sTN) [] kws f fd)
    (DO : Df K mg "check_order" sCO ["width", "order"] fO fdO) (DW : Df K mg "rowset_width" sRW ["rowset"] fW fdW) (DC : Df K mg "check_count" sCc ["count"] fC fdC) (DS : Df K mg "sorted_names_of" sSNO ["rows"] fS fdS) (DT : Df K mg "top_rows" sTR ["rowset", "order", "count"] fT fdT)
    (GO : FnOk P w K mg base (L2.CX P w) k fO fdO ["width", "order"] (spCO OA)) (GW : FnOk P w K mg base (L2.CX P w) k fW fdW ["rowset"] (spOf RA fun rs x _ => x = .int (widthI rs))) (GC : FnOk P w K mg base (L2.CX P w) k fC fdC ["count"] (spCc CA))
    (GS : FnOk P w K mg base CX0 k fS fdS ["rows"] spSNO) (GT : FnOk P w K mg base CX0 k fT fdT ["rowset", "order", "count"] (spTR P0)) : FnOk P w K mg base (L2.CX P w) (k + 1) f fd ["rowset", "order", "count"] (spTN RA OA CA P0) := by
  refine F.ok scTN (fun vs H Q E h => ?_) (fun cdv A outer s H vs Q E hr h => ?_)
  · obtain ⟨v, ov, cv, d, od, cd, rfl, _⟩ := h
    rfl
  · obtain ⟨v, ov, cv, d, od, cd, rfl, ht, hd, sm, ho, oko, hc, qr, q⟩ := h
    refine ⟨_, pss_cons (ps_expr (pe_callS GO hr (by rfl) DO.g DO.F.kp DO.b (fun σ => passAt (takes_of rfl rfl rfl rfl) σ) (pa_cons (pe_callS GW hr (by rfl) DW.g DW.F.kp DW.b (fun σ => passAt (takes_of rfl rfl rfl rfl) σ) (pa_cons (pv 0) pa_nil)) (pa_cons (pv 1) pa_nil))))
      (pss_cons (ps_expr (pe_callS GC hr (by rfl) DC.g DC.F.kp DC.b (fun σ => passAt (takes_of rfl rfl rfl rfl) σ) (pa_cons (pv 2) pa_nil)))
      (pss_one (ps_ret (pe_call GS hr (by rfl) DS.g DS.F.kp DS.b .nil pass0 (pa_cons (pe_call GT hr (by rfl) DT.g DT.F.kp DT.b .nil pass0 (pa_cons (pv 0) (pa_cons (pv 1) (pa_cons (pv 2) pa_nil)))) pa_nil))))), ?_⟩
    refine ⟨v, rfl, v, d, rfl, hd, sm, qr, fun rs e ok G x sG hx => ?_⟩
    subst hx
    obtain ⟨qo, q2⟩ := q rs e ok
    obtain ⟨w1, w4, hw⟩ := width_ok ok
    have lw : ∀ ns : List Str, ns.length ≤ 1000 → True := fun _ _ => trivial
    refine ⟨ov, rfl, ov, od, widthI rs, rfl, w1, w4, ho.up sG, oko, ?_⟩
    cases eo : ordD (widthI rs) od with
    | false =>
      rw [if_neg (by simp)]
      exact fun G2 s2 => qo eo G2 (sG.trans s2)
    | true =>
      rw [if_pos rfl]
      obtain ⟨os, rfl, oos⟩ := ord_is eo
      obtain ⟨qc, q3⟩ := q2 os rfl oos
      intro G2 s2
      have s02 := sG.trans s2
      refine ⟨cv, rfl, cv, cd, rfl, hc.up s02, ?_⟩
      cases ec : betw 1 9 cd with
      | false =>
        rw [if_neg (by simp)]
        exact fun G3 dd s3 edd => qc ec G3 dd (s02.trans s3) edd
      | true =>
        rw [if_pos rfl]
        obtain ⟨i, rfl, i0, i1⟩ := betw_is ec
        obtain ⟨n, rfl⟩ : ∃ n : Nat, i = (n : Int) := ⟨i.toNat, by omega⟩
        cases hc
        subst e
        refine ⟨v, rfl, ov, rfl, .int (n : Int), rfl, v, ov, rs, os, widthI rs, n, rfl, tabs_same s02 ht, hd.up s02, ho.up s02, oos, hw, fun G3 p ys e3 t3 ep hy => ?_⟩
        have hl : ((srt os rs).take n).length ≤ 1000 := by
          rw [List.length_take]
          omega
        exact ⟨p, ys, (srt os rs).take n, rfl, ep, hy, hl, fun G4 p4 s4 h4 => q3 n rfl (by omega) (by omega) G4 p4 (((ext_same s02).trans e3).trans (ext_same s4)) (tabs_same s4 t3) h4⟩
end
end G1

set_option maxRecDepth 100000
set_option maxHeartbeats 4000000
namespace G1
open PySem PySem.Spec PyProof.Rows L2 KX
/-! ### the order is one -/
theorem lex_anti {α : Type} [LT α] [DecidableEq α] [DecidableRel (α := α) (· < ·)] (irr : ∀ a : α, ¬ a < a) (tri : ∀ a b : α, a ≠ b → (b < a ↔ ¬ a < b)) : ∀ l m : List α, l ≠ m → (m < l ↔ ¬ l < m)
  | [], [], h => absurd rfl h
  | [], b :: m, _ => by simp
  | a :: l, [], _ => by simp
  | a :: l, b :: m, h => by
    rw [List.cons_lt_cons_iff, List.cons_lt_cons_iff]
    by_cases e : a = b
    · subst e
      have ih := lex_anti irr tri l m (fun z => h (by rw [z]))
      have i := irr a
      constructor
      · rintro (z | ⟨_, z⟩) (y | ⟨_, y⟩)
        · exact i z
        · exact i z
        · exact i y
        · exact ih.mp z y
      · intro z
        exact .inr ⟨rfl, ih.mpr fun y => z (.inr ⟨rfl, y⟩)⟩
    · have t := tri a b e
      constructor
      · rintro (z | ⟨z, _⟩) (y | ⟨y, _⟩)
        · exact t.mp z y
        · exact e y
        · exact e z.symm
        · exact e y
      · intro z
        exact .inl (t.mpr fun y => z (.inl y))
theorem names_anti {n1 n2 : Str} (h : n1 ≠ n2) : decide (n2.cps.toList < n1.cps.toList) = !decide (n1.cps.toList < n2.cps.toList) := by
  have z := lex_anti (α := Nat) (fun a => Nat.lt_irrefl a) (fun a b e => by omega) n1.cps.toList n2.cps.toList fun e => h (PySem.W.str_of_cps e)
  by_cases y : n1.cps.toList < n2.cps.toList
  · rw [decide_eq_true y]
    exact decide_eq_false fun x => z.mp x y
  · rw [decide_eq_false y]
    exact decide_eq_true (z.mpr y)
theorem law_xor {n1 n2 : Str} (h : n1 ≠ n2) (z1 z2 : List Int) : ∀ os : List Ord, lawI os n2 z2 n1 z1 = !lawI os n1 z1 n2 z2
  | [] => names_anti h
  | o :: os => by
    simp only [lawI]
    generalize z1.getD o.1.toNat 0 = a
    generalize z2.getD o.1.toNat 0 = b
    by_cases e : a = b
    · rw [if_pos e, if_pos e.symm]
      exact law_xor h z1 z2 os
    · rw [if_neg e, if_neg (fun z => e z.symm)]
      by_cases hl : a < b
      · rw [decide_eq_true hl, decide_eq_false (show ¬ b < a by omega)]
        cases decide (o.2 = "asc") <;> rfl
      · rw [decide_eq_false hl, decide_eq_true (show b < a by omega)]
        cases decide (o.2 = "asc") <;> rfl
theorem law_same (n : Str) (z : List Int) : ∀ os : List Ord, lawI os n z n z = false
  | [] => decide_eq_false (List.lt_irrefl _)
  | o :: os => by
    show (if z.getD o.1.toNat 0 = z.getD o.1.toNat 0 then lawI os n z n z else _) = false
    rw [if_pos rfl]
    exact law_same n z os
theorem law_trans {os : List Ord} {n1 n2 n3 : Str} {z1 z2 z3 : List Int} (h1 : lawI os n1 z1 n2 z2 = true) (h2 : lawI os n2 z2 n3 z3 = true) : lawI os n1 z1 n3 z3 = true := by
  rw [← prec_law, precI_key] at h1 h2 ⊢
  by_cases e1 : keyI os z1 = keyI os z2
  · rw [if_pos e1] at h1
    rw [e1]
    by_cases e2 : keyI os z2 = keyI os z3
    · rw [if_pos e2] at h2 ⊢
      exact decide_eq_true (List.lt_trans (of_decide_eq_true h1) (of_decide_eq_true h2))
    · rw [if_neg e2] at h2 ⊢
      exact h2
  · rw [if_neg e1] at h1
    by_cases e2 : keyI os z2 = keyI os z3
    · rw [← e2, if_neg e1]
      exact h1
    · rw [if_neg e2] at h2
      have t := List.lt_trans (of_decide_eq_true h1) (of_decide_eq_true h2)
      rw [if_neg (fun z => by rw [z] at t; exact absurd t (List.lt_irrefl _))]
      exact decide_eq_true t
theorem eqv_rec {r1 r2 : Rec} (h : PyData.eqv (encR r1) (encR r2) = true) : r1.nm = r2.nm ∧ r1.vals = r2.vals := by
  simp only [encR, PyData.eqv, PyData.eqvAll, Bool.and_eq_true, eqv_ints, beq_iff_eq, decide_eq_true_eq] at h
  exact ⟨h.1, h.2.2.1⟩
theorem min_rec (r1 r2 : Rec) : min (encR r1).depth (encR r2).depth ≤ 64 := by
  have := depth_rec r1
  omega
theorem dp_rec {K : PySem.W.Frag} {H : Hp} {v : V} {r : Rec} (h : Dx H v (encR r)) : Dp K H v (encR r) := dp_dx _ _ (plain_rec r) h
theorem oneW_iff : ∀ {rs : List Rec}, oneW rs = true ↔ ∀ a ∈ rs, ∀ b ∈ rs, a.vals.length = b.vals.length
  | [] => by simp [oneW]
  | r :: rs => by
    show ((r :: rs).all fun e => decide (e.vals.length = r.vals.length)) = true ↔ _
    rw [List.all_eq_true]
    refine ⟨fun h a ha b hb => ?_, fun h e he => decide_eq_true (h e he r (by simp))⟩
    rw [of_decide_eq_true (h a ha), of_decide_eq_true (h b hb)]
/-! ### rows in their order -/
structure RsP (wd : Nat) (rs : List Rec) : Prop where
  pw : (rs.map (fun r : Rec => r.nm)).Pairwise (fun a b => leN a b = true)
  nd : (rs.map (fun r : Rec => r.nm)).Nodup
  ok : ∀ r ∈ rs, ROk wd r
theorem made_rsp {wd : Nat} {recs : List Rec} (h : Made wd recs) (hl : recs.length ≤ 61) : RsP wd (sortR recs) :=
  ⟨by rw [names_sort h hl]; exact List.pairwise_mergeSort le_tr le_tot _, names_nodup h hl, sort_rok h hl⟩
theorem RsP.sub {wd : Nat} {rs ss : List Rec} (h : RsP wd rs) (s : ss.Sublist rs) : RsP wd ss :=
  ⟨h.pw.sublist (s.map _), h.nd.sublist (s.map _), fun r hr => h.ok r (s.subset hr)⟩
theorem RsP.asc {wd : Nat} {rs : List Rec} (h : RsP wd rs) : ascS (rs.map (fun r : Rec => r.nm)) = true := asc_of h.pw h.nd
theorem RsP.rsok {wd : Nat} {rs : List Rec} (h : RsP wd rs) (w1 : 1 ≤ wd) (w4 : wd ≤ 4) (hl : rs.length ≤ 60) : RsOk rs := by
  refine ⟨hl, ?_, ?_, h.asc⟩
  · rw [List.all_eq_true]
    intro e he
    obtain ⟨r, hr, rfl⟩ := List.mem_map.mp he
    exact rec_rd (h.ok r hr) w1 w4
  · refine oneW_iff.mpr fun a ha b hb => ?_
    obtain ⟨_, _, o1⟩ := h.ok a ha
    obtain ⟨_, _, o2⟩ := h.ok b hb
    rw [o1.len, o2.len]
theorem RsP.dist {wd : Nat} {rs : List Rec} (h : RsP wd rs) : ∀ a ∈ rs, ∀ b ∈ rs, a.nm = b.nm → a = b := fun a ha b hb e => by
  obtain ⟨i, hi, e1⟩ := List.getElem_of_mem ha
  obtain ⟨j, hj, e2⟩ := List.getElem_of_mem hb
  have nd2 := List.nodup_iff_pairwise_ne.mp h.nd
  rw [List.pairwise_iff_getElem] at nd2
  have z : i = j := by
    rcases Nat.lt_trichotomy i j with lt | eq | gt
    · have := nd2 i j (by rw [List.length_map]; omega) (by rw [List.length_map]; omega) lt
      rw [List.getElem_map, List.getElem_map, e1, e2] at this
      exact absurd e this
    · exact eq
    · have := nd2 j i (by rw [List.length_map]; omega) (by rw [List.length_map]; omega) gt
      rw [List.getElem_map, List.getElem_map, e1, e2] at this
      exact absurd e.symm this
  subst z
  rw [← e1, ← e2]
mutual
def noL : PyData → Bool
  | .none => true
  | .bool _ => true
  | .int _ => true
  | .str _ => true
  | .tuple ds => noLs ds
  | _ => false
def noLs : List PyData → Bool
  | [] => true
  | d :: ds => noL d && noLs ds
end
mutual
theorem dx_noL {l : Addr} {H : Hp} {zs : List V} (e : H l = some (.lst zs)) : ∀ (d : PyData) (v : V), noL d = true → Dx H v d → Dx (hid l H) v d
  | .none, _, _, h => by cases h; exact .non
  | .bool b, _, _, h => by cases h; exact .bl b
  | .int i, _, _, h => by cases h; exact .int i
  | .str x, _, _, h => by cases h; exact .str x
  | .list ds, _, n, _ => by simp [noL] at n
  | .dict ks, _, n, _ => by simp [noL] at n
  | .tuple ds, _, n, h => by
    cases h with
    | @tup a xs _ ea h =>
      have na : a ≠ l := fun z => by rw [z, e] at ea; cases ea
      exact .tup (by rw [hid_at na]; exact ea) (dxs_noL e ds xs (by simpa [noL] using n) h)
theorem dxs_noL {l : Addr} {H : Hp} {zs : List V} (e : H l = some (.lst zs)) : ∀ (ds : List PyData) (vs : List V), noLs ds = true → Dxs H vs ds → Dxs (hid l H) vs ds
  | [], _, _, h => by cases h; exact .nil
  | d :: ds, _, n, h => by
    simp only [noLs, Bool.and_eq_true] at n
    cases h with
    | cons h t => exact .cons (dx_noL e d _ n.1 h) (dxs_noL e ds _ n.2 t)
end
theorem noL_ints : ∀ ns : List Int, noLs (ns.map PyData.int) = true
  | [] => by simp [noLs]
  | n :: ns => by simp [noLs, noL, noL_ints ns]
theorem noL_rec (r : Rec) : noL (encR r) = true := by simp [noL, noLs, encR, noL_ints]
theorem noL_recs : ∀ rs : List Rec, noLs (rs.map encR) = true
  | [] => by simp [noLs]
  | r :: rs => by simp [noLs, noL_rec, noL_recs rs]
theorem recs_hid {l : Addr} {H : Hp} {v : V} {rs : List Rec} (st : StO H l) (h : Dx H v (.tuple (rs.map encR))) : Dx (hid l H) v (.tuple (rs.map encR)) := by
  obtain ⟨x, y, z, e⟩ := st
  exact dx_noL e _ _ (by simp only [noL]; exact noL_recs rs) h
theorem ext_hid {l : Addr} {H H' : Hp} (e : LamX.ExtN H H') : LamX.ExtN (hid l H) (hid l H') := fun b o hb nt => by
  obtain ⟨n, hb⟩ := hid_some hb
  rw [hid_at n]
  exact e _ _ hb nt
theorem keep_ext {l : Addr} {H H' : Hp} (k : Keep l H H') : LamX.ExtN (hid l H) (hid l H') := ext_same k.same
theorem tabs_keep {l : Addr} {T : List (Addr × Str)} {H H' : Hp} (k : Keep l H H') (st : StO H l) (t : LamX.Tabs T H) : LamX.Tabs T H' := fun p hp => by
  obtain ⟨x, y, z, e⟩ := st
  obtain ⟨ps, h1, h2, h3⟩ := t p hp
  refine ⟨ps, k _ _ (fun q => by rw [q, e] at h1; cases h1) h1, h2, fun pos cv hc => ?_⟩
  obtain ⟨c, e1, e2⟩ := h3 pos cv hc
  exact ⟨c, e1, k _ _ (fun q => by rw [q, e] at e2; unfold LamX.CodeO at e2; cases e2) e2⟩
theorem sto_ext {l : Addr} {H H' : Hp} (e : LamX.ExtN H H') (st : StO H l) : StO H' l := by
  obtain ⟨x, y, z, h⟩ := st
  exact ⟨x, y, z, e _ _ h fun ps q => by cases q⟩
/-! ### the rows that fewer than n rows precede -/
theorem srtN_leN (ns : List Str) : srtN ns = ns.mergeSort leN := by
  unfold srtN
  have e : PySem.W.dataLe false PyData.str = leN := PySem.W.dataLe_str (fun b : Str => b)
  rw [e]
theorem leN_anti {a b : Str} (h1 : leN a b = true) (h2 : leN b a = true) : a = b := by
  have := List.le_antisymm (of_decide_eq_true h1) (of_decide_eq_true h2)
  cases a
  cases b
  exact congrArg _ (Array.toList_inj.mp this)
theorem srtN_perm {as bs : List Str} (h : as.Perm bs) : srtN as = srtN bs := by
  rw [srtN_leN, srtN_leN]
  exact List.Perm.eq_of_pairwise (le := fun a b => leN a b = true) (fun a b _ _ h1 h2 => leN_anti h1 h2) (List.pairwise_mergeSort le_tr le_tot _) (List.pairwise_mergeSort le_tr le_tot _) ((List.mergeSort_perm _ _).trans (h.trans (List.mergeSort_perm _ _).symm))
def lawR (os : List Ord) (a b : Rec) : Bool := lawI os a.nm a.vals b.nm b.vals
theorem srt_le (os : List Ord) (a b : Rec) : PySem.W.dataLe false (keyR os) a b = !lawR os b a := by
  rw [PySem.W.dataLe_eq]
  show (!PySem.W.dataLt (keyR os b) (keyR os a)) = _
  rw [show PySem.W.dataLt (keyR os b) (keyR os a) = lawR os b a from prec_law os b.nm b.vals a.nm a.vals]
def dist (rs : List Rec) : Prop := ∀ a ∈ rs, ∀ b ∈ rs, a.nm = b.nm → a = b
theorem srt_pw {os : List Ord} {rs : List Rec} (nd : (rs.map (fun r : Rec => r.nm)).Nodup) : (srt os rs).Pairwise fun a b => lawR os a b = true := by
  have h1 : (srt os rs).Pairwise fun a b => PySem.W.dataLe false (keyR os) a b = true := PySem.W.sort_pairwise (PySem.W.sortLe_total _ _ _) _
  have h2 : ((srt os rs).map (fun r : Rec => r.nm)).Nodup := ((List.mergeSort_perm _ _).map _).symm.nodup nd
  rw [List.nodup_iff_pairwise_ne, List.pairwise_map] at h2
  refine (h1.and h2).imp fun {a b} z => ?_
  have z1 := z.1
  rw [srt_le] at z1
  have e := law_xor z.2 a.vals b.vals os
  unfold lawR at z1 ⊢
  rw [e] at z1
  simpa using z1
theorem before_len {α : Type} {lt : α → α → Bool} (ir : ∀ a, lt a a = false) (as : ∀ a b, lt a b = true → lt b a = false) {l : List α} (h : l.Pairwise fun a b => lt a b = true) {i : Nat} (hi : i < l.length) : (l.filter fun o => lt o l[i]).length = i := by
  have e : l = l.take i ++ l[i] :: l.drop (i + 1) := by
    rw [← List.drop_eq_getElem_cons hi, List.take_append_drop]
  have ei : ∀ x, x = l[i] → (l.filter fun o => lt o x).length = i := fun x ex => by
    rw [← ex] at e
    have hp := h
    rw [e, List.pairwise_append, List.pairwise_cons] at hp
    obtain ⟨_, ⟨hr, _⟩, hc⟩ := hp
    rw [e, List.filter_append, List.filter_cons, ir x]
    have f1 : (l.take i).filter (fun o => lt o x) = l.take i := List.filter_eq_self.mpr fun o ho => hc o ho x (by simp)
    have f2 : (l.drop (i + 1)).filter (fun o => lt o x) = [] := List.filter_eq_nil_iff.mpr fun o ho => by
      rw [as x o (hr o ho)]
      simp
    rw [f1, f2]
    simp
    omega
  exact ei _ rfl
theorem take_filter {α : Type} {lt : α → α → Bool} (ir : ∀ a, lt a a = false) (as : ∀ a b, lt a b = true → lt b a = false) {l : List α} (h : l.Pairwise fun a b => lt a b = true) (n : Nat) : l.filter (fun r => decide ((l.filter fun o => lt o r).length < n)) = l.take n := by
  have hb : ∀ i (hi : i < l.length), decide ((l.filter fun o => lt o l[i]).length < n) = decide (i < n) := fun i hi => by rw [before_len ir as h hi]
  obtain ⟨f, ef⟩ : ∃ f : α → Bool, f = fun r => decide ((l.filter fun o => lt o r).length < n) := ⟨_, rfl⟩
  rw [← ef]
  have hb : ∀ i (hi : i < l.length), f l[i] = decide (i < n) := fun i hi => by rw [ef]; exact hb i hi
  have key : ∀ (m : List α) (k : Nat), (∀ i (hi : i < m.length), f m[i] = decide (k + i < n)) → m.filter f = m.take (n - k) := by
    intro m
    induction m with
    | nil => intro k _; simp
    | cons x m ih =>
      intro k hk
      have h0 := hk 0 (by simp)
      simp only [List.getElem_cons_zero, Nat.add_zero] at h0
      have h1 := ih (k + 1) fun i hi => by
        have := hk (i + 1) (by simpa using hi)
        simp only [List.getElem_cons_succ] at this
        rw [this]
        exact decide_eq_decide.mpr (by omega)
      rw [List.filter_cons, h0, h1]
      by_cases lt : k < n
      · rw [if_pos (decide_eq_true lt), show n - k = (n - (k + 1)) + 1 by omega, List.take_succ_cons]
      · rw [if_neg (by simpa using lt), show n - (k + 1) = 0 by omega, show n - k = 0 by omega, List.take_zero, List.take_zero]
  have := key l 0 fun i hi => by rw [hb i hi, Nat.zero_add]
  exact this
def expN (os : List Ord) (n : Nat) (rs : List Rec) : List Str := srtN ((rs.filter fun r => decide ((rs.filter fun o => lawR os o r).length < n)).map fun r : Rec => r.nm)
theorem law_asym {os : List Ord} (a b : Rec) (h : lawR os a b = true) : lawR os b a = false := by
  cases z : lawR os b a with
  | false => rfl
  | true =>
    have := law_trans (os := os) (n1 := a.nm) (n2 := b.nm) (n3 := a.nm) h z
    rw [law_same] at this
    cases this
theorem top_exp {os : List Ord} {rs : List Rec} (n : Nat) (nd : (rs.map (fun r : Rec => r.nm)).Nodup) : topN os n rs = expN os n rs := by
  unfold topN expN
  refine srtN_perm (List.Perm.map _ ?_)
  rw [← take_filter (lt := lawR os) (fun a => law_same a.nm a.vals os) law_asym (srt_pw nd) n]
  have p : (srt os rs).Perm rs := List.mergeSort_perm _ _
  have e : (fun r => decide (((srt os rs).filter fun o => lawR os o r).length < n)) = fun r => decide ((rs.filter fun o => lawR os o r).length < n) := funext fun r => by rw [(p.filter _).length_eq]
  rw [e]
  exact p.filter _
end G1

set_option maxRecDepth 100000
set_option maxHeartbeats 4000000
namespace G1
open PySem PySem.Spec PyProof.Rows L2 KX
/-! ### [row for row in rows if ..], the condition with calls -/
theorem filter_atR {α : Type} (f : α → Bool) {rs : List α} {i : Nat} {r : α} (h : rs[i]? = some r) : (rs.take (i + 1)).filter f = (rs.take i).filter f ++ (if f r = true then [r] else []) := by
  rw [List.take_add_one, h, List.filter_append]
  by_cases z : f r = true
  · simp [z]
  · simp [z]
theorem lc_filterS {K : PySem.W.Frag} {a D : Addr} {xs : List V} {rs : List Rec} {g : TG} {tt : TT} {te : TE} {vs : List Nat} {σ : L2.St} {H1 : Hp} {Qd : Hp → Prop} (f : Rec → Bool) (nD : H1 D = none) (ea : H1 a = some (.tup xs)) (hx : Dxs H1 xs (rs.map encR)) (hl : rs.length ≤ 1000)
    (hs : ∀ (r : Rec) (x : V) (G : Hp), r ∈ rs → Same H1 G → Dx G x (encR r) → ∀ (Pt : V → Hp → Prop) (Pf : Hp → Prop), (∀ G', Same G G' → if f r = true then Pt x G' else Pf G') → g x (wipe σ vs) G fun σ2 H2 => wipe σ2 vs = wipe σ vs ∧ tt σ2 H2 fun b H3 => if b = true then te σ2 H3 Pt else Pf H3)
    (hd : ∀ G ys, Same H1 G → G D = some (.lst ys) → Dxs (hid D G) ys ((rs.filter f).map encR) → Qd G) :
    ∃ W : Nat → Nat → Hp → Prop, (∃ m, W 0 m (upd H1 D (.lst []))) ∧ ∀ i m H, W i m H →
      ((Itt K a).stop i H ∧ Qd H) ∨ ((Itt K a).go i H ∧ ∃ Nx : Hp → Prop, (∀ H', Nx H' → ∃ m', m' < m ∧ W (i + 1) m' H') ∧ ∀ x H', (Itt K a).yld i H x H' → g x (wipe σ vs) H' fun σ2 H2 => wipe σ2 vs = wipe σ vs ∧ tt σ2 H2 fun b H3 =>
        if b = true then te σ2 H3 fun y H4 => ∃ acc, H4 D = some (.lst acc) ∧ acc.length < sizeLine ∧ Nx (upd H4 D (.lst (acc ++ [y]))) else Nx H3) := by
  have lx := hx.len
  rw [List.length_map] at lx
  have hidS : ∀ {G G' : Hp}, Same G G' → Same (hid D G) (hid D G') := fun {G G'} s b o e => by
    obtain ⟨nb, e⟩ := hid_some e
    rw [hid_at nb]
    exact s _ _ e
  refine lc_tup (xs := xs) (fun i G => Same H1 G ∧ ∃ ys, G D = some (.lst ys) ∧ Dxs (hid D G) ys (((rs.take i).filter f).map encR)) ⟨same_new nD, [], upd_same, .nil⟩ (fun i G _ hG => .inl (.inl (hG.1 _ _ ea))) (fun i x G hxi hG => ?_) (fun G hG => ?_)
  · obtain ⟨sG, ys, eD, hy⟩ := hG
    obtain ⟨d, ed, hdx⟩ := hx.get' hxi
    rw [List.getElem?_map] at ed
    obtain ⟨r, er, rfl⟩ := Option.map_eq_some_iff.mp ed
    have el := filter_atR f er
    have ly : ys.length ≤ i := by
      rw [hy.len, List.length_map]
      exact Nat.le_trans (List.length_filter_le _ _) (by rw [List.length_take]; omega)
    have ii : i < rs.length := (List.getElem?_eq_some_iff.mp er).1
    refine hs r x G (List.mem_of_getElem? er) sG (hdx.up sG) _ _ fun G' sg => ?_
    have sG' := sG.trans sg
    have eD' := sg _ _ eD
    have hy' := hy.up (hidS sg)
    by_cases lt : f r = true
    · rw [if_pos lt] at el ⊢
      refine ⟨ys, eD', ?_, same_at sG' nD, ys ++ [x], upd_same, ?_⟩
      · have hb : (1000 : Nat) < sizeLine := by decide
        omega
      · rw [el, List.map_append]
        refine (hy'.up fun c u e => ?_).app (.cons ((hdx.up (H' := hid D (upd G' D (.lst (ys ++ [x])))) fun c u e => ?_)) .nil)
        · obtain ⟨nc, e⟩ := hid_some e
          rw [hid_at nc, upd_ne nc]
          exact e
        · have nc : c ≠ D := ne_of_none e nD
          rw [hid_at nc, upd_ne nc]
          exact sG' _ _ e
    · rw [if_neg lt] at el ⊢
      rw [List.append_nil] at el
      exact ⟨sG', ys, eD', by rw [el]; exact hy'⟩
  · obtain ⟨sG, ys, eD, hy⟩ := hG
    rw [List.take_of_length_le (by omega)] at hy
    exact hd G ys sG eD hy
/-- rows and an order that go together -/
structure RO (rs : List Rec) (os : List Ord) (w : Int) : Prop where
  le : rs.length ≤ 60
  ok : OrdOk w os
  hw : ∀ r ∈ rs, w ≤ (r.vals.length : Int) ∧ 1 ≤ r.vals.length ∧ r.vals.length ≤ 4
  one : ∀ a ∈ rs, ∀ b ∈ rs, a.vals.length = b.vals.length
theorem row_n (r : Rec) (h : 1 ≤ r.vals.length ∧ r.vals.length ≤ 4) : RowN (encR r) r.nm r.vals := ⟨⟨_, _, rfl⟩, h.1, h.2⟩
/-! ### what the law asks with -/
structure HG (rs : List Rec) (os : List Ord) : Prop where
  ok : RsOk rs
  nd : (rs.map (fun r : Rec => r.nm)).Nodup
  oo : OrdOk (widthI rs) os
  f : ∀ r ∈ rs, fine (10 ^ 40) (encR r) = true ∧ wt (encR r) ≤ 20
theorem HG.ro {rs : List Rec} {os : List Ord} (h : HG rs os) : RO rs os (widthI rs) := ⟨h.ok.le, h.oo, (width_ok h.ok).2.2, oneW_iff.mp h.ok.one⟩
theorem HG.nmf {rs : List Rec} {os : List Ord} (h : HG rs os) : ∀ r ∈ rs, fine (10 ^ 40) (.str r.nm) = true ∧ r.nm.length ≤ 20 := fun r hr => by
  obtain ⟨a, b⟩ := h.f r hr
  simp only [encR, fine, fineAll, wt, wtAll, Bool.and_eq_true] at a b ⊢
  exact ⟨a.1, by omega⟩
theorem HG.sm {rs : List Rec} {os : List Ord} (h : HG rs os) : SmR (.tuple (rs.map encR)) := fun ds z => by
  cases z
  refine ⟨by rw [List.length_map]; exact Nat.le_trans h.ok.le (by decide), fun e he => ?_⟩
  obtain ⟨r, hr, rfl⟩ := List.mem_map.mp he
  have l20 := (h.nmf r hr).2
  have line : (5000 : Nat) ≤ sizeLine := by decide
  intro x hx
  simp at hx
  rcases hx with rfl | rfl | rfl | rfl
  · show r.nm.length ≤ sizeLine
    omega
  all_goals trivial
theorem enc_good {w : Int} (hw : w ≤ 4) : ∀ {os : List Ord}, (∀ o ∈ os, 0 ≤ o.1 ∧ o.1 < w ∧ dirW o.2) → fineAll (10 ^ 40) (os.map encO) = true ∧ wtAll (os.map encO) ≤ 7 * os.length ∧ PyData.depthAll (os.map encO) ≤ 1
  | [], _ => ⟨rfl, by simp [wtAll], by simp [PyData.depthAll]⟩
  | o :: os, h => by
    obtain ⟨h1, h2, h3⟩ := enc_good hw (os := os) fun x hx => h x (by simp [hx])
    obtain ⟨c0, c1, y⟩ := h o (by simp)
    have e9 : 4 ≤ 10 ^ 40 := by decide
    have fy : fine (10 ^ 40) (.str o.2) = true ∧ o.2.length ≤ 4 := by
      rcases y with z | z <;> rw [z] <;> exact ⟨by decide +kernel, by decide +kernel⟩
    refine ⟨?_, ?_, ?_⟩
    · simp only [List.map_cons, fineAll, encO, fine, Bool.and_eq_true] at fy ⊢
      exact ⟨⟨decide_eq_true (by omega), fy.1, trivial⟩, h1⟩
    · simp only [List.map_cons, wtAll, encO, wt, List.length_cons]
      omega
    · simp only [List.map_cons, PyData.depthAll, encO, PyData.depth]
      omega
theorem HG.show {rs : List Rec} {os : List Ord} (h : HG rs os) : (PyData.tuple [.tuple (rs.map encR), .tuple (os.map encO)]).showable = true ∧ (PyData.tuple [.tuple (rs.map encR), .tuple (os.map encO)]).depth ≤ 100 ∧ (PyData.tuple [.tuple (rs.map encR), .tuple (os.map encO)]).shown.length ≤ sizeLine := by
  obtain ⟨f1, f2, f3⟩ := enc_good (width_ok h.ok).2.1 h.oo.all
  have l4 := h.oo.le
  have l60 := h.ok.le
  have hm : ∀ e ∈ rs.map encR, fine (10 ^ 40) e = true ∧ wt e ≤ 20 ∧ e.depth ≤ 50 := fun e he => by
    obtain ⟨r, mr, rfl⟩ := List.mem_map.mp he
    exact ⟨(h.f r mr).1, (h.f r mr).2, depth_rec r⟩
  have gr := wtAll_le fun e he => (hm e he).2.1
  have kr := depthAll_le fun e he => (hm e he).2.2
  rw [List.length_map] at gr
  refine big_show ?_ ?_ ?_
  · simp only [fine, fineAll, Bool.and_eq_true]
    exact ⟨fineAll_mem.mpr fun e he => (hm e he).1, f1, trivial⟩
  · simp only [wt, wtAll]
    omega
  · simp only [PyData.depth, PyData.depthAll]
    omega
theorem srtN_mem {ns : List Str} {x : Str} (h : x ∈ srtN ns) : x ∈ ns := List.mem_mergeSort.mp h
theorem HG.names {rs : List Rec} {os : List Ord} (h : HG rs os) (n : Nat) : (PyData.tuple ((expN os n rs).map .str)).showable = true ∧ (PyData.tuple ((expN os n rs).map .str)).depth ≤ 100 ∧ (PyData.tuple ((expN os n rs).map .str)).shown.length ≤ sizeLine := by
  have hm : ∀ e ∈ (expN os n rs).map PyData.str, fine (10 ^ 40) e = true ∧ wt e ≤ 21 ∧ e.depth ≤ 0 := fun e he => by
    obtain ⟨m, hm, rfl⟩ := List.mem_map.mp he
    obtain ⟨r, hr, rfl⟩ := List.mem_map.mp (srtN_mem hm)
    obtain ⟨c, b⟩ := h.nmf r (List.mem_filter.mp hr).1
    exact ⟨c, by simp only [wt]; omega, by simp [PyData.depth]⟩
  have gr := wtAll_le fun e he => (hm e he).2.1
  have kr := depthAll_le fun e he => (hm e he).2.2
  have l60 := h.ok.le
  have ll : (expN os n rs).length ≤ 60 := by
    unfold expN srtN
    rw [List.length_mergeSort, List.length_map]
    exact Nat.le_trans (List.length_filter_le _ _) l60
  rw [List.length_map] at gr
  refine big_show ?_ ?_ ?_
  · simp only [fine]
    exact fineAll_mem.mpr fun e he => (hm e he).1
  · simp only [wt]
    omega
  · simp only [PyData.depth]
    omega
theorem rsok_true {rs : List Rec} (h : RsOk rs) : rowsetD (.tuple (rs.map encR)) = true := by
  show (decide ((rs.map encR).length ≤ 60) && (((rs.map encR).all rowD && oneW ((rs.map encR).map recD)) && ascS (((rs.map encR).map recD).map (·.nm)))) = true
  rw [recs_back, List.length_map, decide_eq_true h.le, h.row, h.one, h.asc]
  rfl
theorem recs_inj {as bs : List Rec} (h : PyData.tuple (as.map encR) = .tuple (bs.map encR)) : as = bs := by
  injection h with h
  have := congrArg (List.map recD) h
  rwa [recs_back, recs_back] at this
theorem ords_inj : ∀ {as bs : List Ord}, as.map encO = bs.map encO → as = bs
  | [], [], _ => rfl
  | [], _ :: _, h => by cases h
  | _ :: _, [], h => by cases h
  | a :: as, b :: bs, h => by
    simp only [List.map_cons, List.cons.injEq, encO, PyData.tuple.injEq, PyData.int.injEq, PyData.str.injEq] at h
    rw [ords_inj h.2, show a = b from Prod.ext h.1.1 h.1.2.1]
/-- a call of top_names that must succeed -/
theorem tn_call {RA OA CA P0 : Addr} {H : Hp} {v ov : V} {rs : List Rec} {os : List Ord} {n : Nat} {Q : VK} {E : XK} (ht : LamX.Tabs (TS P0) H) (hd : Dx H v (.tuple (rs.map encR))) (ho : Dx H ov (.tuple (os.map encO))) (g : HG rs os) (n1 : 1 ≤ n) (n9 : n ≤ 9)
    (q : ∀ (H' : Hp) (p : Addr), LamX.ExtN H H' → LamX.Tabs (TS P0) H' → Dx H' (.ref p) (.tuple ((expN os n rs).map .str)) → Q (.ref p) H') : spTN RA OA CA P0 [v, ov, .int (n : Int)] H Q E := by
  refine ⟨v, ov, .int (n : Int), _, _, .int (n : Int), rfl, ht, hd, g.sm, ho, ord_okO, .int _, fun h => absurd h (by rw [rsok_true g.ok]; simp), fun rs' e ok => ?_⟩
  have e := recs_inj e
  subst e
  refine ⟨fun h => absurd h (by rw [ord_true g.oo]; simp), fun os' e2 oo => ?_⟩
  have e2 := ords_inj (PyData.tuple.inj e2)
  subst e2
  refine ⟨fun h => absurd h ?_, fun m em m1 m9 H' p eH tH hp => ?_⟩
  · have : betw 1 9 (.int (n : Int)) = (decide ((1 : Int) ≤ n) && decide ((n : Int) ≤ 9)) := rfl
    rw [this, decide_eq_true (by omega), decide_eq_true (by omega)]
    simp
  · have em : (n : Int) = (m : Int) := PyData.int.inj em
    have : n = m := by omega
    subst this
    exact q H' p eH tH (by rw [← top_exp n g.nd]; exact hp)
theorem hg_of {wd : Nat} {rs : List Rec} {os : List Ord} (h : RsP wd rs) (w1 : 1 ≤ wd) (w4 : wd ≤ 4) (hl : rs.length ≤ 60) (hO : OrdOk (wd : Int) os) : HG rs os := by
  refine ⟨h.rsok w1 w4 hl, h.nd, ?_, fun r hr => ⟨(rec_fine (h.ok r hr) w4).1, (rec_fine (h.ok r hr) w4).2.1⟩⟩
  cases rs with
  | nil =>
    show OrdOk 4 os
    refine ⟨hO.le, hO.nd, fun o ho => ?_⟩
    obtain ⟨a, b, c⟩ := hO.all o ho
    exact ⟨a, by omega, c⟩
  | cons r rs =>
    obtain ⟨_, _, o⟩ := h.ok r (by simp)
    show OrdOk (r.vals.length : Int) os
    rw [o.len]
    exact hO
/-! ### calls of top_names -/
theorem len2 {α : Type} {l : List α} (h : l.length = 2) : ∃ a b, l = [a, b] := by
  match l, h with
  | [a, b], _ => exact ⟨a, b, rfl⟩
/-- count left out -/
theorem tn_b0 {K : PySem.W.Frag} {f : Addr} {fd : FuncData} (F : FunD K "top_names" "top_names" (defArgs sTN) (defBody sTN) (defScope sTN) [] [("count", .int 1)] f fd) : ∃ ds, Vals [.int 1] ds ∧ Binds K fd ["rowset", "order", "count"] ds := by
  refine F.binds0 2 (by simp) rfl fun D doc pm an cdv ct us ks l1 l2 => ?_
  obtain ⟨u1, u2, rfl⟩ := len2 l1
  obtain ⟨k1, rfl⟩ := List.length_eq_one_iff.mp l2
  exact ⟨_, _, _, _, _, _, rfl, rfl, rfl⟩
/-- count = n -/
theorem tn_b1 {K : PySem.W.Frag} {f : Addr} {fd : FuncData} (F : FunD K "top_names" "top_names" (defArgs sTN) (defBody sTN) (defScope sTN) [] [("count", .int 1)] f fd) : ∃ g, KBn K fd ["rowset", "order", "count"] 2 ["count"] g (fun vs zs => vs ++ zs) := by
  obtain ⟨mv, h⟩ := F.kbinds0 (ps := ["rowset", "order", "count"]) 2 ["count"] [] (fun us _ ws => us ++ ws) (by simp) (by simp) (fun r1 _ r3 => r1.append r3) fun D doc pm an cdv ct us mv ws l1 l2 l3 => by
    obtain ⟨u1, u2, rfl⟩ := len2 l1
    obtain rfl := List.length_eq_zero_iff.mp l2
    obtain ⟨k1, rfl⟩ := List.length_eq_one_iff.mp l3
    exact rfl
  exact ⟨_, h⟩
theorem tv3 {sp : Sp} {σ : L2.St} {i j k : Nat} {v1 v2 v3 : V} {H : Hp} {Q : VK} (h1 : σ[i]? = some (some v1)) (h2 : σ[j]? = some (some v2)) (h3 : σ[k]? = some (some v3)) (h : sp [v1, v2, v3] H Q E0) : tCall sp [] E0 (tCons (tVar i) (tCons (tVar j) (tCons (tVar k) tNil))) σ H Q := ⟨v1, h1, v2, h2, v3, h3, h⟩
theorem tv2c {sp : Sp} {σ : L2.St} {i j : Nat} {v1 v2 v3 : V} {H : Hp} {Q : VK} (h1 : σ[i]? = some (some v1)) (h2 : σ[j]? = some (some v2)) (h : sp [v1, v2, v3] H Q E0) : tCall sp [] E0 (tCons (tVar i) (tCons (tVar j) (tCons (tC v3) tNil))) σ H Q := ⟨v1, h1, v2, h2, h⟩
theorem tv2d {sp : Sp} {σ : L2.St} {i j : Nat} {v1 v2 v3 : V} {H : Hp} {Q : VK} {E : XK} (h1 : σ[i]? = some (some v1)) (h2 : σ[j]? = some (some v2)) (h : sp [v1, v2, v3] H Q E) : tCall sp [v3] E (tCons (tVar i) (tCons (tVar j) tNil)) σ H Q := ⟨v1, h1, v2, h2, h⟩
end G1

set_option maxRecDepth 100000
set_option maxHeartbeats 4000000
namespace G1
open PySem PySem.Spec PyProof.Rows L2 KX
/-! ### rows of few equal values -/
def cval (c : Int) (r : Rec) : Int := r.vals.getD c.toNat 0
def cnt (c : Int) (acc : List Rec) (v : Int) : Nat := (acc.filter fun a => decide (cval c a = v)).length
theorem cnt_add (c : Int) (acc : List Rec) (r : Rec) (v : Int) : cnt c (acc ++ [r]) v = cnt c acc v + if v = cval c r then 1 else 0 := by
  unfold cnt
  rw [List.filter_append, List.length_append]
  by_cases h : cval c r = v
  · rw [if_pos h.symm]
    simp [h]
  · rw [if_neg (fun z => h z.symm)]
    simp [h]
theorem cnt_le (c : Int) (acc : List Rec) (v : Int) : cnt c acc v ≤ acc.length := List.length_filter_le _ _
def stepF (c : Int) (k : Nat) (acc : List Rec) (r : Rec) : List Rec := if cnt c acc (cval c r) < k then acc ++ [r] else acc
def stepL (c : Int) (k n : Nat) (acc : List Rec) (r : Rec) : List Rec := if acc.length < n ∧ cnt c acc (cval c r) < k then acc ++ [r] else acc
theorem foldL_full {c : Int} {k n : Nat} : ∀ {rs acc : List Rec}, n ≤ acc.length → rs.foldl (stepL c k n) acc = acc
  | [], _, _ => rfl
  | r :: rs, acc, h => by
    show rs.foldl (stepL c k n) (stepL c k n acc r) = acc
    rw [show stepL c k n acc r = acc from if_neg fun z => absurd z.1 (by omega)]
    exact foldL_full h
theorem foldF_pre {c : Int} {k : Nat} : ∀ (rs acc : List Rec), ∃ l, rs.foldl (stepF c k) acc = acc ++ l
  | [], acc => ⟨[], by simp⟩
  | r :: rs, acc => by
    obtain ⟨l, e⟩ := foldF_pre (c := c) (k := k) rs (stepF c k acc r)
    show ∃ l, rs.foldl (stepF c k) (stepF c k acc r) = acc ++ l
    rw [e]
    unfold stepF
    split
    · exact ⟨r :: l, by simp⟩
    · exact ⟨l, rfl⟩
theorem foldF_take {c : Int} {k n : Nat} : ∀ {rs acc : List Rec}, acc.length ≤ n → (rs.foldl (stepF c k) acc).take n = rs.foldl (stepL c k n) acc
  | [], acc, h => List.take_of_length_le h
  | r :: rs, acc, h => by
    by_cases e : acc.length = n
    · rw [foldL_full (by omega)]
      obtain ⟨l, e2⟩ := foldF_pre (c := c) (k := k) (r :: rs) acc
      rw [e2, List.take_append_of_le_length (by omega), List.take_of_length_le h]
    · show (rs.foldl (stepF c k) (stepF c k acc r)).take n = rs.foldl (stepL c k n) (stepL c k n acc r)
      have e3 : stepL c k n acc r = stepF c k acc r := by
        unfold stepL stepF
        by_cases z : cnt c acc (cval c r) < k
        · rw [if_pos ⟨by omega, z⟩, if_pos z]
        · rw [if_neg (fun y => z y.2), if_neg z]
      rw [e3]
      refine foldF_take ?_
      unfold stepF
      split
      · rw [List.length_append, List.length_singleton]
        omega
      · exact h
theorem foldL_big {c : Int} {k n : Nat} (h : n ≤ k) : ∀ {rs acc : List Rec}, acc.length ≤ n → rs.foldl (stepL c k n) acc = acc ++ rs.take (n - acc.length)
  | [], acc, _ => by simp
  | r :: rs, acc, hl => by
    by_cases e : acc.length = n
    · rw [foldL_full (by omega), e]
      simp
    · have z := cnt_le c acc (cval c r)
      show rs.foldl (stepL c k n) (stepL c k n acc r) = _
      rw [show stepL c k n acc r = acc ++ [r] from if_pos ⟨by omega, by omega⟩, foldL_big h (by rw [List.length_append, List.length_singleton]; omega), List.length_append, List.length_singleton, show n - acc.length = (n - (acc.length + 1)) + 1 by omega, List.take_succ_cons]
      simp
theorem foldF_len {c : Int} {k : Nat} : ∀ (rs acc : List Rec), (rs.foldl (stepF c k) acc).length ≤ acc.length + rs.length
  | [], acc => by simp
  | r :: rs, acc => by
    have h := foldF_len (c := c) (k := k) rs (stepF c k acc r)
    have h2 : (stepF c k acc r).length ≤ acc.length + 1 := by
      unfold stepF
      split
      · simp
      · omega
    show (rs.foldl (stepF c k) (stepF c k acc r)).length ≤ _
    rw [List.length_cons]
    omega
theorem foldF_mem {c : Int} {k : Nat} : ∀ {rs acc : List Rec} {x : Rec}, x ∈ rs.foldl (stepF c k) acc → x ∈ acc ∨ x ∈ rs
  | [], acc, x, h => .inl h
  | r :: rs, acc, x, h => by
    rcases foldF_mem (rs := rs) (acc := stepF c k acc r) h with h | h
    · unfold stepF at h
      split at h
      · rcases List.mem_append.mp h with h | h
        · exact .inl h
        · exact .inr (by rw [List.mem_singleton.mp h]; simp)
      · exact .inl h
    · exact .inr (by simp [h])
theorem fold_snoc {α β : Type} (f : β → α → β) (b : β) {l : List α} {i : Nat} {x : α} (h : l[i]? = some x) : (l.take (i + 1)).foldl f b = f ((l.take i).foldl f b) x := by
  rw [List.take_add_one, h, List.foldl_append]
  rfl
/-- a dict that counts -/
def CntD (kvs : List (Key × V)) (c : Int) (acc : List Rec) : Prop := ∀ v : Int, (valV kvs (.inl v)).getD (.int 0) = .int ((cnt c acc v : Nat) : Int)
theorem cntD_nil (c : Int) : CntD [] c [] := fun v => rfl
theorem cntD_put {kvs : List (Key × V)} {c : Int} {acc : List Rec} (h : CntD kvs c acc) (r : Rec) : CntD (putK kvs (.inl (cval c r)) (.int (((cnt c acc (cval c r) : Nat) : Int) + 1))) c (acc ++ [r]) := fun v => by
  rw [valV_put, cnt_add]
  by_cases e : v = cval c r
  · rw [if_pos (by rw [e]), if_pos e, e]
    show V.int _ = V.int _
    congr 1
  · rw [if_neg (fun z => e (Sum.inl.inj z)), if_neg e]
    exact h v
/-! ### capped_rows, capped_top_rows, capped_top_names -/
abbrev sKR : Stmt := topS 59
abbrev sKT : Stmt := topS 58
abbrev sKN : Stmt := topS 57
theorem scKR : FnScope ["rows", "column", "cap", "taken", "numbers", "row", "value", "number"] ["rows", "column", "cap"] (defScope sKR) := ⟨rfl, rfl, rfl, by decide +kernel, rfl, by decide +kernel, by decide +kernel⟩
theorem scKT : FnScope ["rowset", "order", "count", "column", "cap"] ["rowset", "order", "count", "column", "cap"] (defScope sKT) := ⟨rfl, rfl, rfl, by decide +kernel, rfl, by decide +kernel, by decide +kernel⟩
theorem scKN : FnScope ["rowset", "order", "count", "column", "cap", "width"] ["rowset", "order", "count", "column", "cap"] (defScope sKN) := ⟨rfl, rfl, rfl, by decide +kernel, rfl, by decide +kernel, by decide +kernel⟩
def spKR : Sp := fun vs H Q _ => ∃ (a : Addr) (xs : List V) (rs : List Rec) (c : Int) (k : Nat), vs = [.ref a, .int c, .int (k : Int)] ∧ H a = some (.lst xs) ∧ Dxs H xs (rs.map encR) ∧ rs.length ≤ 1000 ∧ 0 ≤ c ∧ (∀ r ∈ rs, c < (r.vals.length : Int) ∧ 1 ≤ r.vals.length ∧ r.vals.length ≤ 4) ∧
  ∀ H' p ys, Same H H' → H' p = some (.lst ys) → Dxs H' ys ((rs.foldl (stepF c k) []).map encR) → Q (.ref p) H'
section
variable {P : Program} {w : World} {K : PySem.W.Frag} {mg : Str → Option Value} {base : Heap}
theorem ok_kr {f : Addr} {fd : FuncData} (cv : ∃ t, mg "VALUES" = some (.int 2 t)) (D : Df K mg "capped_rows" sKR ["rows", "column", "cap"] f fd) : FnOk P w K mg base CX0 1 f fd ["rows", "column", "cap"] spKR := by
  obtain ⟨tv, mv⟩ := cv
  refine D.F.ok scKR (fun vs H Q E h => ?_) (fun cdv A outer s H vs Q E hr h => ?_)
  · obtain ⟨a, xs, rs, c, k, rfl, _⟩ := h
    rfl
  · obtain ⟨a, xs, rs, c, k, rfl, ea, hx, hl, c0, hw, q⟩ := h
    have nd := scKR.nd
    have hu : (A.deeper (envOfC (Str.ofString "capped_rows") (defScope sKR) s.heap.objs.size f cdv)).units + 1 < cLine := by
      have := hr.units
      omega
    refine ⟨_, pss_cons (ps_set (i := 3) nd rfl (.inl rfl) (pe_lst pa_nil))
      (pss_cons (ps_set (i := 4) nd rfl (.inl rfl) pe_dnewK)
      (pss_cons (ps_for PassesOwn.never rfl (pi_list (pv 0)) (pg_name (i := 5) nd rfl (.inl rfl))
        (pss_cons (ps_set (i := 6) nd rfl (.inl rfl) (pe_ix ix_tup (pe_ix ix_tup (pv 5) (pe_glob (v := .int 2) (by rfl) mv ⟨_, rfl⟩) (fun _ _ => rfl)) (pv 1) (fun _ _ => rfl)))
        (pss_cons (ps_set (i := 7) nd rfl (.inl rfl) (pe_dget2 hu (pv 4) (pv 6) pe_int ⟨by rfl, by rfl, by rfl, by rfl⟩))
        (pss_one (ps_if (pt_cmpR op_lt (pv 7) (pv 2) (nomark _))
          (pss_cons (ps_expr (pe_bm PySem.F.plainAttrs_list PySem.F.slot_list_append PySem.F.type_list_append mt_append (pv 3) (pa_cons (pv 5) pa_nil)))
          (pss_one (ps_dput hu (pv 4) (pv 6) (pe_op op_add (pv 7) pe_int) (by rfl)))) pss_nil)))))
      (pss_one (ps_ret (pv 3))))), ?_⟩
    refine ⟨by decide, fun T nT => ?_⟩
    have s1 : Same H (upd H T (.lst [])) := same_new nT
    refine fun N nN => ?_
    have nN' : H N = none := by
      cases e : H N with
      | none => rfl
      | some o => rw [s1 _ _ e] at nN; cases nN
    have hTN : T ≠ N := ne_of_none upd_same nN
    refine ⟨.ref a, rfl, a, rfl, ⟨_, .inl (.inl ((s1.trans (same_new nN)) _ _ ea))⟩, ?_⟩
    have lx := hx.len
    rw [List.length_map] at lx
    have line : (1000 : Nat) < sizeLine := by decide
    refine for_list (K := K) (xs := xs) (fun i σ G => Same H G ∧ ∃ ys kvs x5 x6 x7, σ = [some (.ref a), some (.int c), some (.int (k : Int)), some (.ref T), some (.ref N), x5, x6, x7] ∧ G T = some (.lst ys) ∧ Dxs H ys (((rs.take i).foldl (stepF c k) []).map encR) ∧ G N = some (.dK kvs) ∧ kvs.length ≤ i ∧ CntD kvs c ((rs.take i).foldl (stepF c k) []))
      ⟨s1.trans (same_new nN), [], [], none, none, none, rfl, by rw [upd_ne hTN]; exact upd_same, .nil, upd_same, Nat.le_refl _, cntD_nil c⟩ (fun i σ G _ hp => .inl (.inl (hp.1 _ _ ea))) (fun i x σ G hxi hp => ?_) (fun σ G hp => ?_)
    · obtain ⟨sG, ys, kvs, x5, x6, x7, rfl, eT, hy, eN, lk, hc⟩ := hp
      obtain ⟨d, ed, hdx⟩ := hx.get' hxi
      rw [List.getElem?_map] at ed
      obtain ⟨r, er, rfl⟩ := Option.map_eq_some_iff.mp ed
      obtain ⟨w1, w2, w3⟩ := hw r (List.mem_of_getElem? er)
      have ii : i < rs.length := (List.getElem?_eq_some_iff.mp er).1
      have el := fold_snoc (stepF c k) [] er
      have hfl := foldF_len (c := c) (k := k) (rs.take i) []
      rw [List.length_take, List.length_nil] at hfl
      generalize (rs.take i).foldl (stepF c k) [] = acc at hy hc el hfl
      have ly : ys.length = acc.length := by rw [hy.len, List.length_map]
      obtain ⟨z, vc, ve, zz, rfl, ez, ezz⟩ := row_nm (hdx.up sG) (row_n r ⟨w2, w3⟩)
      refine ⟨.ref z, rfl, z, _, 2, .ref zz, rfl, rfl, .inl (.inl ez), rfl, .int c, rfl, zz, _, c, _, rfl, rfl, .inl (.inl ezz), at_int c0 w1, ?_⟩
      refine ⟨.ref N, rfl, N, rfl, .inl ⟨_, .inl eN⟩, .int (cval c r), rfl, _, DGet.k (k := .inl (cval c r)) eN, ?_⟩
      rw [hc (cval c r)]
      refine ⟨_, rfl, .int (k : Int), rfl, _, _, rfl, rfl, _, rfl, ?_⟩
      have e1 : decide (((cnt c acc (cval c r) : Nat) : Int) < (k : Int)) = decide (cnt c acc (cval c r) < k) := decide_eq_decide.mpr (by omega)
      rw [e1]
      cases hb : decide (cnt c acc (cval c r) < k) with
      | true =>
        have hlt := of_decide_eq_true hb
        rw [show stepF c k acc r = acc ++ [r] from if_pos hlt] at el
        refine iteT ⟨.ref T, rfl, .inl ⟨rfl, _, .inl (.inl eT)⟩, .ref z, rfl, T, _, .ref z, rfl, rfl, eT, by omega, ?_⟩
        have s2 := same_at (o := .lst (ys ++ [.ref z])) sG nT
        have eN2 : (upd G T (.lst (ys ++ [.ref z]))) N = some (.dK kvs) := by rw [upd_ne hTN.symm]; exact eN
        refine ⟨_, rfl, _, _, rfl, rfl, .ref N, rfl, .int (cval c r), rfl, N, _, rfl, DPut.k (k := .inl (cval c r)) eN2 (by omega), same_at s2 nN', _, _, _, _, _, rfl, by rw [upd_ne hTN]; exact upd_same, ?_, upd_same, ?_, ?_⟩
        · rw [el, List.map_append]
          exact hy.app (.cons hdx .nil)
        · exact Nat.le_trans (length_putK _ _ _) (by omega)
        · rw [el]
          exact cntD_put hc r
      | false =>
        have hlt := of_decide_eq_false hb
        rw [show stepF c k acc r = acc from if_neg hlt] at el
        exact iteF ⟨sG, ys, kvs, _, _, _, rfl, eT, by rw [el]; exact hy, eN, by omega, by rw [el]; exact hc⟩
    · obtain ⟨sG, ys, kvs, x5, x6, x7, rfl, eT, hy, eN, lk, hc⟩ := hp
      rw [List.take_of_length_le (by omega)] at hy
      exact ⟨.ref T, rfl, q G T ys sG eT (hy.up sG)⟩
end
end G1

set_option maxRecDepth 100000
set_option maxHeartbeats 4000000
namespace G1
open PySem PySem.Spec PyProof.Rows L2 KX
/-! ### conditions as data -/
abbrev sIC : Stmt := topS 41
abbrev sWi : Stmt := topS 42
abbrev sCp : Stmt := topS 43
abbrev sCC : Stmt := topS 44
abbrev sSat : Stmt := topS 30
abbrev sHo : Stmt := topS 45
abbrev sCmp : Stmt := topS 46
def cmpW (x : Str) : Prop := x = "ge" ∨ x = "le" ∨ x = "eq"
def conW (x : Str) : Prop := x = "and" ∨ x = "or"
def IsC (w : Int) : Nat → PyData → Prop
  | 0, _ => False
  | n + 1, d => (∃ x c k, d = .tuple [.str x, .int c, .int k] ∧ cmpW x ∧ 0 ≤ c ∧ c < w ∧ -1000000000 ≤ k ∧ k ≤ 1000000000) ∨ (∃ e, d = .tuple [.str "not", e] ∧ IsC w n e) ∨
      (∃ x es, d = .tuple [.str x, .tuple es] ∧ conW x ∧ 2 ≤ es.length ∧ es.length ≤ 4 ∧ ∀ e ∈ es, IsC w n e)
def cmpI (x : Str) (a b : Int) : Bool := if x = "ge" then decide (b ≤ a) else if x = "le" then decide (a ≤ b) else decide (a = b)
def holdsD (zs : List Int) : Nat → PyData → Bool
  | 0, _ => false
  | n + 1, .tuple [.str x, .int c, .int k] => cmpI x (zs.getD c.toNat 0) k
  | n + 1, .tuple [.str x, .tuple es] => if x = "not" then !holdsD zs n (.tuple es) else if x = "and" then es.all (holdsD zs n) else es.any (holdsD zs n)
  | n + 1, _ => false
theorem isc_tup {w : Int} : ∀ {n : Nat} {d : PyData}, IsC w n d → ∃ ds, d = .tuple ds
  | 0, _, h => h.elim
  | n + 1, d, h => by
    rcases h with ⟨x, c, k, rfl, _⟩ | ⟨e, rfl, _⟩ | ⟨x, es, rfl, _⟩ <;> exact ⟨_, rfl⟩
theorem holds_cmp (zs : List Int) (n : Nat) (x : Str) (c k : Int) : holdsD zs (n + 1) (.tuple [.str x, .int c, .int k]) = cmpI x (zs.getD c.toNat 0) k := by simp [holdsD]
theorem holds_not (zs : List Int) (n : Nat) {w : Int} {e : PyData} (h : IsC w n e) : holdsD zs (n + 1) (.tuple [.str "not", e]) = !holdsD zs n e := by
  obtain ⟨ds, rfl⟩ := isc_tup h
  simp [holdsD]
theorem holds_con (zs : List Int) (n : Nat) {x : Str} (hx : x ≠ "not") (es : List PyData) : holdsD zs (n + 1) (.tuple [.str x, .tuple es]) = if x = "and" then es.all (holdsD zs n) else es.any (holdsD zs n) := by
  simp only [holdsD]
  rw [if_neg hx]
theorem isc_mono {w : Int} : ∀ {n : Nat} {d : PyData}, IsC w n d → IsC w (n + 1) d
  | 0, _, h => h.elim
  | n + 1, d, h => by
    rcases h with h | ⟨e, rfl, h⟩ | ⟨x, es, rfl, hx, h1, h2, h⟩
    · exact .inl h
    · exact .inr (.inl ⟨e, rfl, isc_mono h⟩)
    · exact .inr (.inr ⟨x, es, rfl, hx, h1, h2, fun e he => isc_mono (h e he)⟩)
theorem isc_le {w : Int} {n m : Nat} {d : PyData} (h : IsC w n d) (le : n ≤ m) : IsC w m d := by
  obtain ⟨k, rfl⟩ := Nat.le.dest le
  clear le
  induction k with
  | zero => exact h
  | succ k ih => exact isc_mono ih
/-- what is no condition, as it is met -/
def BadC (w : Int) (d : PyData) : Prop := tupB 2 3 d = false ∨ (∃ x b c, d = .tuple [.str x, b, c] ∧ (¬ cmpW x ∨ betw 0 (w - 1) b = false)) ∨ ∃ x b, d = .tuple [.str x, b] ∧ x ≠ "not" ∧ ¬ conW x
/-! ### compares -/
def spCmp : Sp := fun vs H Q _ => ∃ x a b, vs = [.str x, .int a, .int b] ∧ Q (.bl (cmpI x a b)) H
theorem scCmp : FnScope ["word", "value", "number"] ["word", "value", "number"] (defScope sCmp) := ⟨rfl, rfl, rfl, by decide +kernel, rfl, by decide +kernel, by decide +kernel⟩
section
variable {P : Program} {w : World} {K : PySem.W.Frag} {mg : Str → Option Value} {base : Heap}
theorem ok_cmp {f : Addr} {fd : FuncData} (D : Df K mg "compares" sCmp ["word", "value", "number"] f fd) : FnOk P w K mg base CX0 1 f fd ["word", "value", "number"] spCmp := by
  refine D.F.ok scCmp (fun vs H Q E h => ?_) (fun cdv A outer s H vs Q E hr h => ?_)
  · obtain ⟨x, a, b, rfl, _⟩ := h
    rfl
  · obtain ⟨x, a, b, rfl, q⟩ := h
    refine ⟨_, pss_cons (ps_if (pt_cmpR op_eq (pv 0) pe_str (nomark _)) (pss_one (ps_ret (pe_cmpR op_ge (pv 1) (pv 2) (nomark _)))) pss_nil)
      (pss_cons (ps_if (pt_cmpR op_eq (pv 0) pe_str (nomark _)) (pss_one (ps_ret (pe_cmpR op_le (pv 1) (pv 2) (nomark _)))) pss_nil)
      (pss_one (ps_ret (pe_cmpR op_eq (pv 1) (pv 2) (nomark _))))), ?_⟩
    unfold cmpI at q
    refine ⟨.str x, rfl, rfl, _, rfl, ?_⟩
    rw [dec_str]
    by_cases h1 : x = "ge"
    · rw [if_pos h1] at q
      rw [decide_eq_true h1]
      exact iteT ⟨.int a, rfl, .int b, rfl, a, b, rfl, rfl, q⟩
    · rw [if_neg h1] at q
      rw [decide_eq_false h1]
      refine iteF ⟨.str x, rfl, rfl, _, rfl, ?_⟩
      rw [dec_str]
      by_cases h2 : x = "le"
      · rw [if_pos h2] at q
        rw [decide_eq_true h2]
        exact iteT ⟨.int a, rfl, .int b, rfl, a, b, rfl, rfl, q⟩
      · rw [if_neg h2] at q
        rw [decide_eq_false h2]
        refine iteF ⟨.int a, rfl, .int b, rfl, rfl, ?_⟩
        rw [dec_int]
        exact q
end
/-! ### is_comparison -/
def cmpB (x : Str) : Bool := decide (x = "ge") || (decide (x = "le") || decide (x = "eq"))
def conB (x : Str) : Bool := decide (x = "and") || decide (x = "or")
theorem cmpB_iff {x : Str} : cmpB x = true ↔ cmpW x := by
  unfold cmpB cmpW
  simp
theorem conB_iff {x : Str} : conB x = true ↔ conW x := by
  unfold conB conW
  simp
def cmpD (w : Int) (x : Str) (b c : PyData) : Bool := cmpB x && betw 0 (w - 1) b && betw (-1000000000) 1000000000 c
theorem eqV_str (x y : Str) : eqV (.str x) (.str y) = decide (x = y) := by
  show (x == y) = decide (x = y)
  by_cases h : x = y
  · rw [decide_eq_true h, h]; simp
  · rw [decide_eq_false h]; simpa using h
theorem in_cmp (x : Str) : inV (.str x) [.str "ge", .str "le", .str "eq"] = cmpB x := by
  unfold inV cmpB
  simp only [List.any_cons, List.any_nil, Bool.or_false, eqV_str]
  rw [show decide (("ge" : Str) = x) = decide (x = "ge") from decide_eq_decide.mpr eq_comm, show decide (("le" : Str) = x) = decide (x = "le") from decide_eq_decide.mpr eq_comm, show decide (("eq" : Str) = x) = decide (x = "eq") from decide_eq_decide.mpr eq_comm]
theorem in_con (x : Str) : inV (.str x) [.str "and", .str "or"] = conB x := by
  unfold inV conB
  simp only [List.any_cons, List.any_nil, Bool.or_false, eqV_str]
  rw [show decide (("and" : Str) = x) = decide (x = "and") from decide_eq_decide.mpr eq_comm, show decide (("or" : Str) = x) = decide (x = "or") from decide_eq_decide.mpr eq_comm]
/-- the constants of the conditions -/
structure Cc (K : PySem.W.Frag) (mg : Str → Option Value) : Prop where
  nest : ∃ t, mg "MAX_CONDITION_NESTING" = some (.int 3 t)
  parts : ∃ t, mg "MAX_PARTS" = some (.int 4 t)
  cmps : ∃ t, mg "COMPARISONS" = some (.ref t) ∧ ∃ (o : Obj) (its : Array Value) (n : Nat), K.lookup t = some o ∧ o.cls = .type "tuple" ∧ o.data = .seq its n ∧ its.size ≤ sizeLine ∧ Vals [.str "ge", .str "le", .str "eq"] its.toList
  cons : ∃ t, mg "CONNECTIVES" = some (.ref t) ∧ ∃ (o : Obj) (its : Array Value) (n : Nat), K.lookup t = some o ∧ o.cls = .type "tuple" ∧ o.data = .seq its n ∧ its.size ≤ sizeLine ∧ Vals [.str "and", .str "or"] its.toList
def spCp : Sp := fun vs H Q _ => ∃ v w x b c, vs = [.int w, v] ∧ Dx H v (.tuple [.str x, b, c]) ∧ Q (.bl (cmpD w x b c)) H
theorem scCp : FnScope ["width", "triple", "word", "column", "number"] ["width", "triple"] (defScope sCp) := ⟨rfl, rfl, rfl, by decide +kernel, rfl, by decide +kernel, by decide +kernel⟩
section
variable {P : Program} {w : World} {K : PySem.W.Frag} {mg : Str → Option Value} {base : Heap}
theorem ok_cp {f fB : Addr} {fd fdB : FuncData} (B : Bl mg) (C : Cs mg) (Z : Cc K mg) (D : Df K mg "is_comparison" sCp ["width", "triple"] f fd) (DB : Df K mg "is_between" sBetween ["value", "low", "high"] fB fdB) :
    FnOk P w K mg base CX0 2 f fd ["width", "triple"] spCp := by
  obtain ⟨t, mt, ot, its, n0, lt, c1, c2, c3, c4⟩ := Z.cmps
  obtain ⟨tv, mv⟩ := C.val
  have GB : FnOk P w K mg base CX0 1 fB fdB _ spBetween := ok_between B DB
  refine D.F.ok scCp (fun vs H Q E h => ?_) (fun cdv A outer s H vs Q E hr h => ?_)
  · obtain ⟨v, w', x, b, c, rfl, _⟩ := h
    rfl
  · obtain ⟨v, w', x, b, c, rfl, hd, q⟩ := h
    have nd := scCp.nd
    refine ⟨_, pss_cons (ps_asg (pv 1) (pg_tup (by rfl) (pgs_cons (pg_name (i := 2) nd rfl (.inl rfl)) (pgs_cons (pg_name (i := 3) nd rfl (.inl rfl)) (pgs_cons (pg_name (i := 4) nd rfl (.inl rfl)) pgs_nil)))))
      (pss_cons (ps_if (PW.pt (pw_or (pt_cmpR op_notIn_seq (pv 2) (pe_glob (v := .ref t) (by rfl) mt rfl) (by rfl)) (pw_or1 (pt_not (pt_val (pe_call GB hr (by rfl) DB.g DB.F.kp DB.b .nil pass0 (pa_cons (pv 3) (pa_cons pe_int (pa_cons (pe_op op_sub (pv 0) pe_int) pa_nil)))))))))
        (pss_one (ps_ret pe_bl)) pss_nil)
      (pss_one (ps_ret (pe_call GB hr (by rfl) DB.g DB.F.kp DB.b .nil pass0 (pa_cons (pv 4) (pa_cons (pe_un un_neg (pe_glob (v := .int 1000000000) (by rfl) mv ⟨_, rfl⟩)) (pa_cons (pe_glob (v := .int 1000000000) (by rfl) mv ⟨_, rfl⟩) pa_nil))))))), ?_⟩
    cases hd with
    | @tup a xs _ ea h =>
      match xs, h, ea with
      | [vx, vb, vc], .cons hx (.cons hb (.cons hc .nil)), ea =>
      cases hx
      have er : cmpD w' x b c = (cmpB x && betw 0 (w' - 1) b && betw (-1000000000) 1000000000 c) := rfl
      rw [er] at q
      refine ⟨.ref a, rfl, a, _, rfl, .inl (.inl ea), rfl, _, _, rfl, _, _, rfl, _, _, rfl, rfl, ?_⟩
      refine ⟨.str x, rfl, t, [.str "ge", .str "le", .str "eq"], rfl, .inr (.inr ⟨ot, its, n0, lt, c1, c2, c3, c4⟩), rfl, rfl, _, rfl, ?_⟩
      rw [in_cmp]
      cases e1 : cmpB x with
      | false =>
        rw [e1] at q
        exact iteT (iteT q)
      | true =>
        rw [e1, Bool.true_and] at q
        refine iteF ⟨vb, rfl, .int w', rfl, w', 1, rfl, rfl, vb, b, 0, w' - 1, rfl, hb, _, rfl, ?_⟩
        cases e2 : betw 0 (w' - 1) b with
        | false =>
          rw [e2] at q
          exact iteT q
        | true =>
          rw [e2, Bool.true_and] at q
          exact iteF ⟨vc, rfl, _, rfl, vc, c, -1000000000, 1000000000, rfl, hc, q⟩
end
end G1

set_option maxRecDepth 100000
set_option maxHeartbeats 4000000
namespace G1
open PySem PySem.Spec PyProof.Rows L2 KX
/-! ### is_condition_within -/
def spWi (n : Nat) : Sp := fun vs H Q _ => ∃ v d w, vs = [.int w, v, .int (n : Int)] ∧ Dx H v d ∧ ((IsC w n d ∧ ∀ H', Same H H' → Q (.bl true) H') ∨ (BadC w d ∧ ∀ H', Same H H' → Q (.bl false) H'))
theorem scWi : FnScope ["width", "value", "nesting", "part"] ["width", "value", "nesting"] (defScope sWi) := ⟨rfl, rfl, rfl, by decide +kernel, rfl, by decide +kernel, by decide +kernel⟩
theorem tupB23 {ds : List PyData} : tupB 2 3 (.tuple ds) = (decide (2 ≤ (ds.length : Int)) && decide ((ds.length : Int) ≤ 3)) := rfl
theorem tupB24 {ds : List PyData} : tupB 2 4 (.tuple ds) = (decide (2 ≤ (ds.length : Int)) && decide ((ds.length : Int) ≤ 4)) := rfl
section
variable {P : Program} {w : World} {K : PySem.W.Frag} {mg : Str → Option Value} {base : Heap}
theorem ok_wi1 {k n : Nat} {sp' : Sp} {f fT fC : Addr} {fd fdT fdC : FuncData} (B : Bl mg) (C : Cs mg) (Z : Cc K mg) (D : Df K mg "is_condition_within" sWi ["width", "value", "nesting"] f fd) (DT : Df K mg "is_tuple_between" sTupB ["value", "low", "high"] fT fdT)
    (DC : Df K mg "is_comparison" sCp ["width", "triple"] fC fdC) (GT : FnOk P w K mg base CX0 k fT fdT ["value", "low", "high"] spTupB) (GC : FnOk P w K mg base CX0 k fC fdC ["width", "triple"] spCp)
    (GS : FnOk P w K mg base CX0 k f fd ["width", "value", "nesting"] sp') (hs : ∀ m, n = m + 1 → ∀ vs H Q E, spWi m vs H Q E → sp' vs H Q E) : FnOk P w K mg base CX0 (k + 1) f fd ["width", "value", "nesting"] (spWi n) := by
  obtain ⟨t, mt, ot, its, n0, lt, c1, c2, c3, c4⟩ := Z.cons
  obtain ⟨tp, mp⟩ := Z.parts
  refine D.F.ok scWi (fun vs H Q E h => ?_) (fun cdv A outer s H vs Q E hr h => ?_)
  · obtain ⟨v, d, w', rfl, _⟩ := h
    rfl
  · obtain ⟨v, d, w', rfl, hd, q⟩ := h
    have nd := scWi.nd
    refine ⟨_, pss_cons (ps_if (PW.pt (pw_or (pt_cmpR op_eq (pv 2) pe_int (nomark _)) (pw_or1 (pt_not (pt_val (pe_call GT hr (by rfl) DT.g DT.F.kp DT.b .nil pass0 (pa_cons (pv 1) (pa_cons pe_int (pa_cons pe_int pa_nil))))))))) (pss_one (ps_ret pe_bl)) pss_nil)
      (pss_cons (ps_if (pt_cmpR op_eq (pe_callB call_len_seq (by rfl) B.len PySem.boot_len (pa_cons (pv 1) pa_nil)) pe_int (nomark _)) (pss_one (ps_ret (pe_call GC hr (by rfl) DC.g DC.F.kp DC.b .nil pass0 (pa_cons (pv 0) (pa_cons (pv 1) pa_nil))))) pss_nil)
      (pss_cons (ps_if (pt_cmpR op_eq (pe_ix ix_tup (pv 1) pe_int (fun _ _ => rfl)) pe_str (nomark _)) (pss_one (ps_ret (pe_call GS hr (by rfl) D.g D.F.kp D.b .nil pass0 (pa_cons (pv 0) (pa_cons (pe_ix ix_tup (pv 1) pe_int (fun _ _ => rfl)) (pa_cons (pe_op op_sub (pv 2) pe_int) pa_nil)))))) pss_nil)
      (pss_cons (ps_if (PW.pt (pw_or (pt_cmpR op_notIn_seq (pe_ix ix_tup (pv 1) pe_int (fun _ _ => rfl)) (pe_glob (v := .ref t) (by rfl) mt rfl) (by rfl)) (pw_or1 (pt_not (pt_val (pe_call GT hr (by rfl) DT.g DT.F.kp DT.b .nil pass0 (pa_cons (pe_ix ix_tup (pv 1) pe_int (fun _ _ => rfl)) (pa_cons pe_int (pa_cons (pe_glob (v := .int 4) (by rfl) mp ⟨_, rfl⟩) pa_nil))))))))) (pss_one (ps_ret pe_bl)) pss_nil)
      (pss_one (ps_ret (pe_callB (cr_all rfl) (by rfl) B.all (by decide +kernel) (pa_cons (pe_lc (own := [("part", 3)]) (g := gName 3) rfl nd (pi_tup (pe_ix ix_tup (pv 1) pe_int (fun _ _ => rfl))) (blkOk_by (N := ["width", "value", "nesting", "part"]) (sc := defScope sWi) (by decide +kernel))
          (fun _ _ _ _ _ => pg_name (i := 3) nd rfl (Or.inl rfl)) (fun _ _ _ _ _ => pts_nil)
          (fun _ _ _ _ _ => pe_call GS hr (by rfl) D.g D.F.kp D.b .nil pass0 (pa_cons (pv 0) (pa_cons (pv 3) (pa_cons (pe_op op_sub (pv 2) pe_int) pa_nil))))) pa_nil))))))), ?_⟩
    refine ⟨.int (n : Int), rfl, rfl, _, rfl, ?_⟩
    rw [dec_int]
    cases n with
    | zero =>
      rw [decide_eq_true (by rfl)]
      rcases q with ⟨h, _⟩ | ⟨_, q⟩
      · exact h.elim
      · exact iteT (iteT (q H (Same.refl H)))
    | succ m =>
      rw [decide_eq_false (by omega)]
      refine iteF ⟨v, rfl, v, d, 2, 3, rfl, hd, _, rfl, ?_⟩
      have pre : ((m + 1 : Nat) : Int) - 1 = (m : Int) := by omega
      rcases q with ⟨h, q⟩ | ⟨h, q⟩
      · rcases h with ⟨x, c, k2, rfl, hx, c0, c1', k0, k1⟩ | ⟨e, rfl, he⟩ | ⟨x, es, rfl, hx, l2, l4, hes⟩
        · -- a comparison
          cases hd with
          | @tup a xs _ ea hh =>
            have lx := hh.len
            rw [show tupB 2 3 (.tuple [.str x, .int c, .int k2]) = true from rfl]
            refine iteF ⟨.ref a, rfl, a, xs, rfl, .inr (.inl (.inl ea)), rfl, _, rfl, ?_⟩
            rw [lx, show decide (V.int (([PyData.str x, .int c, .int k2] : List PyData).length : Int) = V.int 3) = true from rfl]
            refine iteT ⟨.int w', rfl, .ref a, rfl, .ref a, w', x, .int c, .int k2, rfl, .tup ea hh, ?_⟩
            rw [show cmpD w' x (.int c) (.int k2) = true by
              show (cmpB x && betw 0 (w' - 1) (.int c) && betw (-1000000000) 1000000000 (.int k2)) = true
              rw [cmpB_iff.mpr hx, betw_int c0 (by omega), betw_int k0 k1]
              rfl]
            exact q H (Same.refl H)
        · -- a negation
          cases hd with
          | @tup a xs _ ea hh =>
            match xs, hh, ea with
            | [vx, ve], .cons hx1 (.cons he1 .nil), ea =>
            cases hx1
            rw [show tupB 2 3 (.tuple [.str "not", e]) = true from rfl]
            refine iteF ⟨.ref a, rfl, a, [.str "not", ve], rfl, .inr (.inl (.inl ea)), rfl, _, rfl, ?_⟩
            rw [show decide (V.int (([V.str "not", ve] : List V).length : Int) = V.int 3) = false from rfl]
            refine iteF ⟨.ref a, rfl, a, _, 0, .str "not", rfl, rfl, .inl (.inl ea), rfl, rfl, _, rfl, ?_⟩
            rw [show decide (V.str "not" = V.str "not") = true from decide_eq_true rfl]
            refine iteT ⟨.int w', rfl, .ref a, rfl, a, _, 1, ve, rfl, rfl, .inl (.inl ea), rfl, .int ((m + 1 : Nat) : Int), rfl, ((m + 1 : Nat) : Int), 1, rfl, rfl, ?_⟩
            refine hs m rfl _ _ _ _ ⟨ve, e, w', ?_, he1, .inl ⟨he, fun H1 s1 => q H1 s1⟩⟩
            show [V.int w', ve, V.int (((m + 1 : Nat) : Int) - 1)] = _
            rw [pre]
        · -- a connective
          cases hd with
          | @tup a xs _ ea hh =>
            match xs, hh, ea with
            | [vx, ve], .cons hx1 (.cons he1 .nil), ea =>
            cases hx1
            cases he1 with
            | @tup p ps _ ep hp =>
            have hxn : x ≠ "not" := by rcases hx with rfl | rfl <;> decide
            rw [show tupB 2 3 (.tuple [.str x, .tuple es]) = true from rfl]
            refine iteF ⟨.ref a, rfl, a, [.str x, .ref p], rfl, .inr (.inl (.inl ea)), rfl, _, rfl, ?_⟩
            rw [show decide (V.int (([V.str x, V.ref p] : List V).length : Int) = V.int 3) = false from rfl]
            refine iteF ⟨.ref a, rfl, a, _, 0, .str x, rfl, rfl, .inl (.inl ea), rfl, rfl, _, rfl, ?_⟩
            rw [dec_str, decide_eq_false hxn]
            refine iteF ⟨.ref a, rfl, a, _, 0, .str x, rfl, rfl, .inl (.inl ea), rfl, t, [.str "and", .str "or"], rfl, .inr (.inr ⟨ot, its, n0, lt, c1, c2, c3, c4⟩), rfl, rfl, _, rfl, ?_⟩
            rw [in_con, conB_iff.mpr hx]
            refine iteF ⟨.ref a, rfl, a, _, 1, .ref p, rfl, rfl, .inl (.inl ea), rfl, .ref p, .tuple es, 2, 4, rfl, .tup ep hp, _, rfl, ?_⟩
            rw [tupB24, decide_eq_true (by omega), decide_eq_true (by omega)]
            refine iteF ⟨.ref a, rfl, a, _, 1, .ref p, rfl, rfl, .inl (.inl ea), rfl, p, rfl, ⟨_, .inl (.inl ep)⟩, fun L nL => ?_⟩
            refine lc_tup (xs := ps) (fun i G => Same H G ∧ G L = some (.lst ((List.replicate i true).map V.bl))) ⟨same_new nL, upd_same⟩ (fun i G _ hG => .inl (.inl (hG.1 _ _ ep))) (fun i x1 G hx1 hG => ?_) (fun G hG => ?_)
            · obtain ⟨d1, ed, hd1⟩ := hp.get' hx1
              have hi : i < es.length := (List.getElem?_eq_some_iff.mp ed).1
              refine ⟨rfl, .int w', rfl, x1, rfl, .int ((m + 1 : Nat) : Int), rfl, ((m + 1 : Nat) : Int), 1, rfl, rfl, ?_⟩
              refine hs m rfl _ _ _ _ ⟨x1, d1, w', ?_, hd1.up hG.1, .inl ⟨hes d1 (List.mem_of_getElem? ed), fun G1 s1 => ⟨_, s1 _ _ hG.2, ?_, same_at (hG.1.trans s1) nL, ?_⟩⟩⟩
              · show [V.int w', x1, V.int (((m + 1 : Nat) : Int) - 1)] = _
                rw [pre]
              · rw [List.length_map, List.length_replicate]
                have hb : (4 : Nat) < sizeLine := by decide
                omega
              · rw [upd_same, List.replicate_succ', List.map_append]
                rfl
            · refine ⟨L, _, rfl, .inl (.inl hG.2), ?_⟩
              have : (List.replicate ps.length true).all id = true := by simp
              rw [this]
              exact q G hG.1
      · rcases h with h | ⟨x, b, c, rfl, h⟩ | ⟨x, b, rfl, h1, h2⟩
        · rw [h]
          exact iteT (q H (Same.refl H))
        · cases hd with
          | @tup a xs _ ea hh =>
            have lx := hh.len
            rw [show tupB 2 3 (.tuple [.str x, b, c]) = true from rfl]
            refine iteF ⟨.ref a, rfl, a, xs, rfl, .inr (.inl (.inl ea)), rfl, _, rfl, ?_⟩
            rw [lx, show decide (V.int (([PyData.str x, b, c] : List PyData).length : Int) = V.int 3) = true from rfl]
            refine iteT ⟨.int w', rfl, .ref a, rfl, .ref a, w', x, b, c, rfl, .tup ea hh, ?_⟩
            rw [show cmpD w' x b c = false by
              show (cmpB x && betw 0 (w' - 1) b && betw (-1000000000) 1000000000 c) = false
              rcases h with h | h
              · rw [show cmpB x = false by
                  cases e : cmpB x with
                  | false => rfl
                  | true => exact absurd (cmpB_iff.mp e) h]
                rfl
              · rw [h, Bool.and_false]
                rfl]
            exact q H (Same.refl H)
        · cases hd with
          | @tup a xs _ ea hh =>
            match xs, hh, ea with
            | [vx, ve], .cons hx1 (.cons he1 .nil), ea =>
            cases hx1
            rw [show tupB 2 3 (.tuple [.str x, b]) = true from rfl]
            refine iteF ⟨.ref a, rfl, a, [.str x, ve], rfl, .inr (.inl (.inl ea)), rfl, _, rfl, ?_⟩
            rw [show decide (V.int (([V.str x, ve] : List V).length : Int) = V.int 3) = false from rfl]
            refine iteF ⟨.ref a, rfl, a, _, 0, .str x, rfl, rfl, .inl (.inl ea), rfl, rfl, _, rfl, ?_⟩
            rw [dec_str, decide_eq_false h1]
            refine iteF ⟨.ref a, rfl, a, _, 0, .str x, rfl, rfl, .inl (.inl ea), rfl, t, [.str "and", .str "or"], rfl, .inr (.inr ⟨ot, its, n0, lt, c1, c2, c3, c4⟩), rfl, rfl, _, rfl, ?_⟩
            rw [in_con, show conB x = false by
              cases e : conB x with
              | false => rfl
              | true => exact absurd (conB_iff.mp e) h2]
            exact iteT (iteT (q H (Same.refl H)))
theorem ok_wi {f fB fT fC : Addr} {fd fdB fdT fdC : FuncData} (B : Bl mg) (C : Cs mg) (Z : Cc K mg) (D : Df K mg "is_condition_within" sWi ["width", "value", "nesting"] f fd) (DB : Df K mg "is_between" sBetween ["value", "low", "high"] fB fdB) (DT : Df K mg "is_tuple_between" sTupB ["value", "low", "high"] fT fdT)
    (DC : Df K mg "is_comparison" sCp ["width", "triple"] fC fdC) : ∀ n, FnOk P w K mg base CX0 (3 + n) f fd ["width", "value", "nesting"] (spWi n)
  | 0 => ok_wi1 (k := 2) (sp' := fun _ _ _ _ => False) B C Z D DT DC ((ok_tupB B DT).mono (by decide)) (ok_cp B C Z DC DB) (D.F.ok scWi (fun _ _ _ _ h => h.elim) fun _ _ _ _ _ _ _ _ _ h => h.elim) (fun m e => by cases e)
  | n + 1 => ok_wi1 (k := 3 + n) (sp' := spWi n) B C Z D DT DC ((ok_tupB B DT).mono (by omega)) ((ok_cp B C Z DC DB).mono (by omega)) (ok_wi B C Z D DB DT DC n) (fun m e vs H Q E h => by cases e; exact h)
end
end G1

set_option maxRecDepth 100000
set_option maxHeartbeats 4000000
namespace G1
open PySem PySem.Spec PyProof.Rows L2 KX
def valsLen : PyData → Int
  | .tuple [_, _, .tuple vs, _] => vs.length
  | _ => 0
theorem rowD_four {d : PyData} (h : rowD d = true) : ∃ n c zs e, d = .tuple [n, c, .tuple zs, e] ∧ nameD n = true ∧ betw 1 1000000 c = true ∧ valsD (.tuple zs) = true ∧ betw 1 1000000000 e = true := by
  cases et : tupB 4 4 d with
  | false =>
    rw [rowD_not et] at h
    cases h
  | true =>
    obtain ⟨n, c, vs, e, rfl⟩ := tupB_four et
    have er : rowD (.tuple [n, c, vs, e]) = (nameD n && betw 1 1000000 c && (valsD vs && betw 1 1000000000 e)) := rfl
    rw [er, Bool.and_eq_true, Bool.and_eq_true, Bool.and_eq_true] at h
    obtain ⟨⟨h1, h2⟩, h3, h4⟩ := h
    cases vs with
    | tuple zs => exact ⟨n, c, zs, e, rfl, h1, h2, h3, h4⟩
    | _ => cases h3
theorem row_vals {H : Hp} {v : V} {n c e : PyData} {zs : List PyData} (hd : Dx H v (.tuple [n, c, .tuple zs, e])) : ∃ a vn vc ve z zv, v = .ref a ∧ H a = some (.tup [vn, vc, .ref z, ve]) ∧ H z = some (.tup zv) ∧ Dxs H zv zs := by
  cases hd with
  | @tup a xs _ ea h =>
    match xs, h, ea with
    | [vn, vc, vv, ve], .cons hn (.cons hc (.cons hv (.cons he .nil))), ea =>
    cases hv with
    | @tup z zv _ ez hz => exact ⟨a, vn, vc, ve, z, zv, rfl, ea, ez, hz⟩
theorem ints_of {lo hi : Int} : ∀ {ds : List PyData}, ds.all (betw lo hi) = true → ∃ ns : List Int, ds = ns.map PyData.int ∧ ∀ n ∈ ns, lo ≤ n ∧ n ≤ hi
  | [], _ => ⟨[], rfl, fun t h => by cases h⟩
  | d :: ds, h => by
    rw [List.all_cons, Bool.and_eq_true] at h
    obtain ⟨i, rfl, i0, i1⟩ := betw_is h.1
    obtain ⟨ns, rfl, hns⟩ := ints_of h.2
    refine ⟨i :: ns, rfl, fun x hx => ?_⟩
    rcases List.mem_cons.mp hx with rfl | hx
    · exact ⟨i0, i1⟩
    · exact hns x hx
structure RowV (d : PyData) (ns : List Int) : Prop where
  is : ∃ n c e, d = .tuple [n, c, .tuple (ns.map .int), e]
  l1 : 1 ≤ ns.length
  l4 : ns.length ≤ 4
  bd : ∀ v ∈ ns, -1000000000 ≤ v ∧ v ≤ 1000000000
theorem rowD_vals {d : PyData} (h : rowD d = true) : ∃ ns, RowV d ns ∧ valsLen d = (ns.length : Int) := by
  obtain ⟨n, c, zs, e, rfl, _, _, h3, _⟩ := rowD_four h
  have en : valsD (.tuple zs) = ((decide (1 ≤ (zs.length : Int)) && decide ((zs.length : Int) ≤ 4)) && zs.all (betw (-1000000000) 1000000000)) := rfl
  rw [en, Bool.and_eq_true, Bool.and_eq_true] at h3
  obtain ⟨ns, rfl, hns⟩ := ints_of h3.2
  have l1 := of_decide_eq_true h3.1.1
  have l2 := of_decide_eq_true h3.1.2
  rw [List.length_map] at l1 l2
  refine ⟨ns, ⟨⟨n, c, e, rfl⟩, by omega, by omega, hns⟩, ?_⟩
  show ((ns.map PyData.int).length : Int) = ns.length
  rw [List.length_map]
theorem row_at {H : Hp} {v : V} {d : PyData} {ns : List Int} (h : Dx H v d) (r : RowV d ns) : ∃ a vn vc ve z, v = .ref a ∧ H a = some (.tup [vn, vc, .ref z, ve]) ∧ H z = some (.tup (ns.map V.int)) := by
  obtain ⟨n, c, e, rfl⟩ := r.is
  obtain ⟨a, vn, vc, ve, z, zv, rfl, ea, ez, hz⟩ := row_vals h
  rw [dxs_ints_eq hz] at ez
  exact ⟨a, vn, vc, ve, z, rfl, ea, ez⟩
/-! ### is_condition -/
def spIC : Sp := fun vs H Q _ => ∃ v d w, vs = [.int w, v] ∧ 1 ≤ w ∧ w ≤ 4 ∧ Dx H v d ∧ ((IsC w 3 d ∧ ∀ H', Same H H' → Q (.bl true) H') ∨ (BadC w d ∧ ∀ H', Same H H' → Q (.bl false) H'))
theorem scIC : FnScope ["width", "value"] ["width", "value"] (defScope sIC) := ⟨rfl, rfl, rfl, by decide +kernel, rfl, by decide +kernel, by decide +kernel⟩
def spCCd (R : Addr) : Sp := fun vs H Q E => ∃ v d w, vs = [.int w, v] ∧ 1 ≤ w ∧ w ≤ 4 ∧ Dx H v d ∧ ((IsC w 3 d ∧ ∀ H', Same H H' → Q .non H') ∨ (BadC w d ∧ ∀ H', Same H H' → E (.ref R) none H'))
theorem scCCd : FnScope ["width", "condition"] ["width", "condition"] (defScope sCC) := ⟨rfl, rfl, rfl, by decide +kernel, rfl, by decide +kernel, by decide +kernel⟩
section
variable {P : Program} {w : World} {K : PySem.W.Frag} {mg : Str → Option Value} {base : Heap}
theorem ok_ic {f fW fI : Addr} {fd fdW fdI : FuncData} {C : Addr} (Z : Cc K mg) (D : Df K mg "is_condition" sIC ["width", "value"] f fd) (DW : Df K mg "check_width" sCw ["width"] fW fdW) (DI : Df K mg "is_condition_within" sWi ["width", "value", "nesting"] fI fdI)
    (GW : FnOk P w K mg base (L2.CX P w) 6 fW fdW ["width"] (spCw C)) (GI' : FnOk P w K mg base CX0 6 fI fdI ["width", "value", "nesting"] (spWi 3)) : FnOk P w K mg base CX0 7 f fd ["width", "value"] spIC := by
  obtain ⟨tn, mn⟩ := Z.nest
  refine D.F.ok scIC (fun vs H Q E h => ?_) (fun cdv A outer s H vs Q E hr h => ?_)
  · obtain ⟨v, d, w', rfl, _⟩ := h
    rfl
  · obtain ⟨v, d, w', rfl, w1, w4, hd, q⟩ := h
    refine ⟨_, pss_cons (ps_expr (pe_call GW hr (by rfl) DW.g DW.F.kp DW.b .nil passL (pa_cons (pv 0) pa_nil)))
      (pss_one (ps_ret (pe_call GI' hr (by rfl) DI.g DI.F.kp DI.b .nil pass0 (pa_cons (pv 0) (pa_cons (pv 1) (pa_cons (pe_glob (v := .int 3) (by rfl) mn ⟨_, rfl⟩) pa_nil)))))), ?_⟩
    refine ⟨.int w', rfl, .int w', .int w', rfl, .int w', ?_⟩
    rw [if_pos (betw_int w1 w4)]
    exact ⟨.int w', rfl, v, rfl, v, d, w', rfl, hd, q⟩
theorem ok_ccd {f fA : Addr} {fd fdA : FuncData} {R : Addr} (T : OC K mg "InvalidCondition" R) (D : Df K mg "check_condition" sCC ["width", "condition"] f fd) (DA : Df K mg "is_condition" sIC ["width", "value"] fA fdA)
    (GA : FnOk P w K mg base CX0 7 fA fdA ["width", "value"] spIC) : FnOk P w K mg base (L2.CX P w) 8 f fd ["width", "condition"] (spCCd R) := by
  refine D.F.okX scCCd (fun vs H Q E h => ?_) (fun cdv A outer s H vs Q E hr h => ?_)
  · obtain ⟨v, d, w', rfl, _⟩ := h
    rfl
  · obtain ⟨v, d, w', rfl, w1, w4, hd, q⟩ := h
    refine ⟨_, pss_one (ps_if (pt_not (pt_val (pe_call GA hr (by rfl) DA.g DA.F.kp DA.b .nil pass0 (pa_cons (pv 0) (pa_cons (pv 1) pa_nil)))))
        (pss_one (ps_raise rfl (takes_of rfl rfl rfl rfl) (pmk_own PySem.F.excBase_ValueError T.q T.g T.kp (raises_own T.sub T.ty) (by rfl)))) pss_nil), ?_⟩
    refine ⟨.int w', rfl, v, rfl, v, d, w', rfl, w1, w4, hd, ?_⟩
    rcases q with ⟨h, q⟩ | ⟨h, q⟩
    · exact .inl ⟨h, fun H1 s1 => ⟨_, rfl, iteF (q H1 s1)⟩⟩
    · exact .inr ⟨h, fun H1 s1 => ⟨_, rfl, iteT (q H1 s1)⟩⟩
end
/-! ### holds -/
def spHo (n : Nat) : Sp := fun vs H Q _ => ∃ zv v d zs w m, vs = [zv, v] ∧ Dx H zv (.tuple (zs.map .int)) ∧ Dx H v d ∧ IsC w m d ∧ m ≤ n ∧ w ≤ (zs.length : Int) ∧ ∀ H', Same H H' → Q (.bl (holdsD zs m d)) H'
theorem scHo : FnScope ["values", "condition", "word", "part"] ["values", "condition"] (defScope sHo) := ⟨rfl, rfl, rfl, by decide +kernel, rfl, by decide +kernel, by decide +kernel⟩
theorem holds_and (zs : List Int) (n : Nat) (es : List PyData) : holdsD zs (n + 1) (.tuple [.str "and", .tuple es]) = es.all (holdsD zs n) := by rw [holds_con zs n (by decide), if_pos rfl]
theorem holds_or (zs : List Int) (n : Nat) (es : List PyData) : holdsD zs (n + 1) (.tuple [.str "or", .tuple es]) = es.any (holdsD zs n) := by rw [holds_con zs n (by decide), if_neg (by decide)]
section
variable {P : Program} {w : World} {K : PySem.W.Frag} {mg : Str → Option Value} {base : Heap}
theorem ok_ho1 {k n : Nat} {sp' : Sp} {f fC : Addr} {fd fdC : FuncData} (B : Bl mg) (D : Df K mg "holds" sHo ["values", "condition"] f fd) (DC : Df K mg "compares" sCmp ["word", "value", "number"] fC fdC)
    (GC : FnOk P w K mg base CX0 k fC fdC ["word", "value", "number"] spCmp) (GS : FnOk P w K mg base CX0 k f fd ["values", "condition"] sp') (hs : ∀ m, n = m + 1 → ∀ vs H Q E, spHo m vs H Q E → sp' vs H Q E) : FnOk P w K mg base CX0 (k + 1) f fd ["values", "condition"] (spHo n) := by
  refine D.F.ok scHo (fun vs H Q E h => ?_) (fun cdv A outer s H vs Q E hr h => ?_)
  · obtain ⟨zv, v, d, zs, w', m, rfl, _⟩ := h
    rfl
  · obtain ⟨zv, v, d, zs, w', m, rfl, hz, hd, hc, le, hw, q⟩ := h
    have nd := scHo.nd
    refine ⟨_, pss_cons (ps_set (i := 2) nd rfl (.inl rfl) (pe_ix ix_tup (pv 1) pe_int (fun _ _ => rfl)))
      (pss_cons (ps_if (pt_cmpR op_eq (pv 2) pe_str (nomark _)) (pss_one (ps_ret (pe_not (pe_call GS hr (by rfl) D.g D.F.kp D.b .nil pass0 (pa_cons (pv 0) (pa_cons (pe_ix ix_tup (pv 1) pe_int (fun _ _ => rfl)) pa_nil)))))) pss_nil)
      (pss_cons (ps_if (pt_cmpR op_eq (pv 2) pe_str (nomark _)) (pss_one (ps_ret (pe_callB (cr_all rfl) (by rfl) B.all (by decide +kernel) (pa_cons (pe_lc (own := [("part", 3)]) (g := gName 3) rfl nd (pi_tup (pe_ix ix_tup (pv 1) pe_int (fun _ _ => rfl))) (blkOk_by (N := ["values", "condition", "word", "part"]) (sc := defScope sHo) (by decide +kernel))
          (fun _ _ _ _ _ => pg_name (i := 3) nd rfl (Or.inl rfl)) (fun _ _ _ _ _ => pts_nil)
          (fun _ _ _ _ _ => pe_call GS hr (by rfl) D.g D.F.kp D.b .nil pass0 (pa_cons (pv 0) (pa_cons (pv 3) pa_nil)))) pa_nil)))) pss_nil)
      (pss_cons (ps_if (pt_cmpR op_eq (pv 2) pe_str (nomark _)) (pss_one (ps_ret (pe_callB (cr_any rfl) (by rfl) B.any (by decide +kernel) (pa_cons (pe_lc (own := [("part", 3)]) (g := gName 3) rfl nd (pi_tup (pe_ix ix_tup (pv 1) pe_int (fun _ _ => rfl))) (blkOk_by (N := ["values", "condition", "word", "part"]) (sc := defScope sHo) (by decide +kernel))
          (fun _ _ _ _ _ => pg_name (i := 3) nd rfl (Or.inl rfl)) (fun _ _ _ _ _ => pts_nil)
          (fun _ _ _ _ _ => pe_call GS hr (by rfl) D.g D.F.kp D.b .nil pass0 (pa_cons (pv 0) (pa_cons (pv 3) pa_nil)))) pa_nil)))) pss_nil)
      (pss_one (ps_ret (pe_call GC hr (by rfl) DC.g DC.F.kp DC.b .nil pass0 (pa_cons (pv 2) (pa_cons (pe_ix ix_tup (pv 0) (pe_ix ix_tup (pv 1) pe_int (fun _ _ => rfl)) (fun _ _ => rfl)) (pa_cons (pe_ix ix_tup (pv 1) pe_int (fun _ _ => rfl)) pa_nil))))))))), ?_⟩
    cases m with
    | zero => exact hc.elim
    | succ m =>
      obtain ⟨n', rfl⟩ : ∃ n', n = n' + 1 := ⟨n - 1, by omega⟩
      have le' : m ≤ n' := by omega
      rcases hc with ⟨x, c, k2, rfl, hx, c0, c1', k0, k1⟩ | ⟨e, rfl, he⟩ | ⟨x, es, rfl, hx, l2, l4, hes⟩
      · cases hd with
        | @tup a xs _ ea hh =>
          match xs, hh, ea with
          | [vx, vc, vk], .cons hx1 (.cons hc1 (.cons hk1 .nil)), ea =>
          cases hx1
          cases hc1
          cases hk1
          cases hz with
          | @tup z zv _ ez hzv =>
            rw [dxs_ints_eq hzv] at ez
            have n1 : x ≠ "not" := by rcases hx with rfl | rfl | rfl <;> decide
            have n2 : x ≠ "and" := by rcases hx with rfl | rfl | rfl <;> decide
            have n3 : x ≠ "or" := by rcases hx with rfl | rfl | rfl <;> decide
            refine ⟨.ref a, rfl, a, _, 0, .str x, rfl, rfl, .inl (.inl ea), rfl, ?_⟩
            refine ⟨.str x, rfl, rfl, _, rfl, ?_⟩
            rw [dec_str, decide_eq_false n1]
            refine iteF ⟨.str x, rfl, rfl, _, rfl, ?_⟩
            rw [dec_str, decide_eq_false n2]
            refine iteF ⟨.str x, rfl, rfl, _, rfl, ?_⟩
            rw [dec_str, decide_eq_false n3]
            refine iteF ⟨.str x, rfl, .ref z, rfl, .ref a, rfl, a, _, 1, .int c, rfl, rfl, .inl (.inl ea), rfl, z, _, c, _, rfl, rfl, .inl (.inl ez), at_int c0 (by omega), .ref a, rfl, a, _, 2, .int k2, rfl, rfl, .inl (.inl ea), rfl, x, _, k2, rfl, ?_⟩
            have q1 := q H (Same.refl H)
            rw [holds_cmp] at q1
            exact q1
      · cases hd with
        | @tup a xs _ ea hh =>
          match xs, hh, ea with
          | [vx, ve], .cons hx1 (.cons he1 .nil), ea =>
          cases hx1
          refine ⟨.ref a, rfl, a, _, 0, .str "not", rfl, rfl, .inl (.inl ea), rfl, ?_⟩
          refine ⟨.str "not", rfl, rfl, _, rfl, ?_⟩
          rw [dec_str, decide_eq_true rfl]
          refine iteT ⟨zv, rfl, .ref a, rfl, a, _, 1, ve, rfl, rfl, .inl (.inl ea), rfl, ?_⟩
          refine hs n' rfl _ _ _ _ ⟨zv, ve, e, zs, w', m, rfl, hz, he1, he, le', hw, fun H1 s1 => ⟨_, rfl, ?_⟩⟩
          have q1 := q H1 s1
          rw [holds_not zs m he] at q1
          exact q1
      · cases hd with
        | @tup a xs _ ea hh =>
          match xs, hh, ea with
          | [vx, ve], .cons hx1 (.cons he1 .nil), ea =>
          cases hx1
          cases he1 with
          | @tup p ps _ ep hp =>
          refine ⟨.ref a, rfl, a, _, 0, .str x, rfl, rfl, .inl (.inl ea), rfl, ?_⟩
          refine ⟨.str x, rfl, rfl, _, rfl, ?_⟩
          rw [dec_str, decide_eq_false (show x ≠ "not" by rcases hx with rfl | rfl <;> decide)]
          refine iteF ⟨.str x, rfl, rfl, _, rfl, ?_⟩
          rcases hx with rfl | rfl
          · rw [dec_str, decide_eq_true rfl]
            refine iteT ⟨.ref a, rfl, a, _, 1, .ref p, rfl, rfl, .inl (.inl ea), rfl, p, rfl, ⟨_, .inl (.inl ep)⟩, fun L nL => ?_⟩
            refine lc_tup (xs := ps) (fun i G => Same H G ∧ G L = some (.lst (((es.take i).map (holdsD zs m)).map V.bl))) ⟨same_new nL, upd_same⟩ (fun i G _ hG => .inl (.inl (hG.1 _ _ ep))) (fun i x1 G hx1 hG => ?_) (fun G hG => ?_)
            · obtain ⟨d1, ed, hd1⟩ := hp.get' hx1
              have hi : i < es.length := (List.getElem?_eq_some_iff.mp ed).1
              refine ⟨rfl, zv, rfl, x1, rfl, ?_⟩
              refine hs n' rfl _ _ _ _ ⟨zv, x1, d1, zs, w', m, rfl, hz.up hG.1, hd1.up hG.1, hes d1 (List.mem_of_getElem? ed), le', hw, fun G1 s1 => ⟨_, s1 _ _ hG.2, ?_, same_at (hG.1.trans s1) nL, ?_⟩⟩
              · rw [List.length_map, List.length_map, List.length_take]
                have hb : (4 : Nat) < sizeLine := by decide
                omega
              · rw [upd_same, List.take_add_one, ed]
                simp
            · refine ⟨L, _, rfl, .inl (.inl hG.2), ?_⟩
              have q1 := q G hG.1
              rw [holds_and] at q1
              rw [List.take_of_length_le (by rw [hp.len]; exact Nat.le_refl _), List.all_map]
              exact q1
          · rw [dec_str, decide_eq_false (by decide)]
            refine iteF ⟨.str "or", rfl, rfl, _, rfl, ?_⟩
            rw [dec_str, decide_eq_true rfl]
            refine iteT ⟨.ref a, rfl, a, _, 1, .ref p, rfl, rfl, .inl (.inl ea), rfl, p, rfl, ⟨_, .inl (.inl ep)⟩, fun L nL => ?_⟩
            refine lc_tup (xs := ps) (fun i G => Same H G ∧ G L = some (.lst (((es.take i).map (holdsD zs m)).map V.bl))) ⟨same_new nL, upd_same⟩ (fun i G _ hG => .inl (.inl (hG.1 _ _ ep))) (fun i x1 G hx1 hG => ?_) (fun G hG => ?_)
            · obtain ⟨d1, ed, hd1⟩ := hp.get' hx1
              have hi : i < es.length := (List.getElem?_eq_some_iff.mp ed).1
              refine ⟨rfl, zv, rfl, x1, rfl, ?_⟩
              refine hs n' rfl _ _ _ _ ⟨zv, x1, d1, zs, w', m, rfl, hz.up hG.1, hd1.up hG.1, hes d1 (List.mem_of_getElem? ed), le', hw, fun G1 s1 => ⟨_, s1 _ _ hG.2, ?_, same_at (hG.1.trans s1) nL, ?_⟩⟩
              · rw [List.length_map, List.length_map, List.length_take]
                have hb : (4 : Nat) < sizeLine := by decide
                omega
              · rw [upd_same, List.take_add_one, ed]
                simp
            · refine ⟨L, _, rfl, .inl (.inl hG.2), ?_⟩
              have q1 := q G hG.1
              rw [holds_or] at q1
              rw [List.take_of_length_le (by rw [hp.len]; exact Nat.le_refl _), List.any_map]
              exact q1
theorem ok_ho {f fC : Addr} {fd fdC : FuncData} (B : Bl mg) (D : Df K mg "holds" sHo ["values", "condition"] f fd) (DC : Df K mg "compares" sCmp ["word", "value", "number"] fC fdC) : ∀ n, FnOk P w K mg base CX0 (2 + n) f fd ["values", "condition"] (spHo n)
  | 0 => ok_ho1 (k := 1) (sp' := fun _ _ _ _ => False) B D DC (ok_cmp DC) (D.F.ok scHo (fun _ _ _ _ h => h.elim) fun _ _ _ _ _ _ _ _ _ h => h.elim) (fun m e => by cases e)
  | n + 1 => ok_ho1 (k := 2 + n) (sp' := spHo n) B D DC ((ok_cmp DC).mono (by omega)) (ok_ho B D DC n) (fun m e vs H Q E h => by cases e; exact h)
end

end G1

set_option maxRecDepth 100000
set_option maxHeartbeats 4000000
namespace G1
open PySem PySem.Spec PyProof.Rows L2 KX
theorem gi_drawS {l : Addr} {σ0 : L2.St} {L : List (V × PyData)} {M : List (Addr × List V × List PyData)} {n : Int} {tn : TE} (i : Nat) (h0 : σ0[i]? = some (some (.ref l))) (h : GI l (KX.Env l σ0 L M) (· = n) tn) (n0 : 0 < n) (n1 : n < 2 ^ 64) :
    GI l (KX.Env l σ0 L M) (fun k => 0 ≤ k ∧ k < n) (tCall spDraw [] E0 (tCons (tVar i) (tCons tn tNil))) := fun σ H Q st p q =>
  ⟨.ref l, by rw [p.1]; exact h0, h σ H _ st p fun H1 i e k st1 => ⟨l, i, rfl, st1, by omega, by omega, fun H2 m k2 st2 m0 m1 => q H2 m ⟨m0, by omega⟩ (k.trans k2) st2⟩⟩
theorem gds_seq {l : Addr} {P : KX.PSt} {Ss : List PyData → Prop} {ts : TA} {u : L2.TS} {i : Nat} {D : Ends} {σ : L2.St} {H : Hp} (h : GDs l P Ss ts) (st : StO H l) (p : P σ H)
    (k : ∀ Hb xs ds, Ss ds → Keep l H Hb → StO Hb l → Dxs (hid l Hb) xs ds → xs.length ≤ sizeLine ∧ ∀ a, Hb a = none → u D (σ.set i (some (.ref a))) (upd Hb a (.lst xs))) : tSeq (tAsg (tLst ts) (gName i)) u D σ H := h σ H _ st p fun Hb xs ds s kb stb xb => k Hb xs ds s kb stb xb
theorem gds_par {l : Addr} {P : KX.PSt} {Ss : List PyData → Prop} {ts : TA} {u : L2.TS} {i j : Nat} {D : Ends} {σ : L2.St} {H : Hp} (h : GDs l P Ss ts) (hz : ∀ ds, Ss ds → ds.length = 2) (st : StO H l) (p : P σ H)
    (k : ∀ Hb v1 v2 d1 d2, Ss [d1, d2] → Keep l H Hb → StO Hb l → Dx (hid l Hb) v1 d1 → Dx (hid l Hb) v2 d2 → u D ((σ.set i (some v1)).set j (some v2)) Hb) : tSeq (tPar i j ts) u D σ H := h σ H _ st p fun Hb xs ds s kb stb xb => by
  have z := hz ds s
  match ds, z with
  | [d1, d2], _ =>
  match xs, xb with
  | [v1, v2], .cons h1 (.cons h2 .nil) => exact ⟨v1, v2, rfl, k Hb v1 v2 d1 d2 s kb stb h1 h2⟩
theorem last_at {α : Type} : ∀ {xs : List α}, xs ≠ [] → ∃ v ys, xs = ys ++ [v] ∧ atI xs (-1) = some v := fun {xs} h =>
  ⟨xs.getLast h, xs.dropLast, (List.dropLast_concat_getLast h).symm, by
    have := atI_last xs.dropLast (xs.getLast h)
    rwa [List.dropLast_concat_getLast h] at this⟩
theorem dxs_last {H : Hp} {v : V} : ∀ {ys : List V} {ds : List PyData}, Dxs H (ys ++ [v]) ds → ∃ es d, ds = es ++ [d] ∧ Dx H v d
  | [], [d], .cons h .nil => ⟨[], d, rfl, h⟩
  | y :: ys, d :: ds, .cons h t => by
    obtain ⟨es, e, rfl, z⟩ := dxs_last t
    exact ⟨d :: es, e, rfl, z⟩
theorem t3 {sp : Sp} {σ : L2.St} {i j k : Nat} {v1 v2 v3 : V} {H : Hp} {Q : VK} (h1 : σ[i]? = some (some v1)) (h2 : σ[j]? = some (some v2)) (h3 : σ[k]? = some (some v3)) (h : sp [v1, v2, v3] H Q E0) : tCall sp [] E0 (tCons (tVar i) (tCons (tVar j) (tCons (tVar k) tNil))) σ H Q :=
  ⟨v1, h1, v2, h2, v3, h3, h⟩
abbrev sLCo : Stmt := topS 70
/-! ### what is new since a heap -/
def fresh (H G : Hp) : Hp := fun b => if H b = none then G b else none
theorem fresh_some {H G : Hp} {b : Addr} {o : HO} (h : fresh H G b = some o) : H b = none ∧ G b = some o := by
  unfold fresh at h
  split at h
  · exact ⟨by assumption, h⟩
  · cases h
theorem fresh_at {H G : Hp} {b : Addr} (h : H b = none) : fresh H G b = G b := if_pos h
theorem fresh_hid {l : Addr} {H G : Hp} (st : StO H l) : Same (fresh H G) (hid l G) := fun b o e => by
  obtain ⟨n, e⟩ := fresh_some e
  rw [hid_at (fun z => by obtain ⟨x, y, q, z2⟩ := st; rw [z, z2] at n; cases n)]
  exact e
theorem fresh_up {H G G' : Hp} (k : ∀ b o, H b = none → G b = some o → G' b = some o) : Same (fresh H G) (fresh H G') := fun b o e => by
  obtain ⟨n, e⟩ := fresh_some e
  rw [fresh_at n]
  exact k b o n e
theorem fresh_keep {l : Addr} {H G G' : Hp} (st : StO H l) (k : Keep l G G') : Same (fresh H G) (fresh H G') := fresh_up fun b o n e => k b o (fun z => by obtain ⟨x, y, q, z2⟩ := st; rw [z, z2] at n; cases n) e
theorem fresh_same {H G G' : Hp} (k : Same G G') : Same (fresh H G) (fresh H G') := fresh_up fun b o n e => k b o e
/-- an earlier start shows more -/
theorem fresh_less {H H1 G : Hp} (k : ∀ b, H1 b = none → H b = none) : Same (fresh H1 G) (fresh H G) := fun b o e => by
  obtain ⟨n, e⟩ := fresh_some e
  rw [fresh_at (k b n)]
  exact e
theorem none_of {l : Addr} {H G : Hp} (st : StO G l) (k : Keep l H G) : ∀ b, G b = none → H b = none := fun b n => by
  cases e : H b with
  | none => rfl
  | some o =>
    by_cases hb : b = l
    · rw [hb] at n
      obtain ⟨x, y, q, z2⟩ := st
      rw [z2] at n
      cases n
    · rw [k b o hb e] at n
      cases n
theorem fresh_tup {H G : Hp} {p : Addr} {xs : List V} {ds : List PyData} (nH : H p = none) (nG : G p = none) (h : Dxs (fresh H G) xs ds) : Dx (fresh H (upd G p (.tup xs))) (.ref p) (.tuple ds) :=
  .tup (by rw [fresh_at nH]; exact upd_same) (h.up (fresh_same fun b o e => by rw [upd_ne (ne_of_none e nG)]; exact e))
def Num9 (d : PyData) : Prop := ∃ k : Int, d = .int k ∧ -1000000000 ≤ k ∧ k ≤ 1000000000
/-! ### _law_condition, its depth m + 1 -/
def spLCo (m : Nat) : Sp := fun vs H Q _ => ∃ (l : Addr) (w : Int), vs = [.ref l, .int w, .int ((m : Int) + 1)] ∧ StO H l ∧ 1 ≤ w ∧ w ≤ 4 ∧ ∀ H' v d, Keep l H H' → StO H' l → Dx (fresh H H') v d → IsC w (m + 1) d → Q v H'
theorem scLCo : FnScope ["stream", "wide", "deep", "way", "number", "total", "turn"] ["stream", "wide", "deep"] (defScope sLCo) := ⟨rfl, rfl, rfl, by decide +kernel, rfl, by decide +kernel, by decide +kernel⟩
theorem cmp_of {x : Str} (h : x ∈ [("ge" : Str), "le", "eq"]) : cmpW x := by simpa [cmpW] using h
theorem con_of {x : Str} (h : x ∈ [("and" : Str), "or"]) : conW x := by simpa [conW] using h
section
variable {P : Program} {w : World} {K : PySem.W.Frag} {mg : Str → Option Value} {base : Heap}
theorem gi_sub {l : Addr} {Pp : KX.PSt} {N : Int → Prop} {k : Int} {ta tb : TE} (kp : Kp l Pp) (h : GI l Pp N ta) (h2 : GI l Pp (· = k) tb) : GI l Pp (fun z => ∃ i, N i ∧ z = i - k) (tOp (rI0 fun i j => V.int (i - j)) ta tb) := fun σ H Q st p q =>
  h σ H _ st p fun H1 i e k1 st1 => h2 σ H1 _ st1 (kp _ _ _ k1 st1 p) fun H2 j e2 k2 st2 => ⟨i, j, rfl, rfl, q H2 _ ⟨i, e, by rw [e2]⟩ (k1.trans k2) st2⟩
theorem ok_lco1 {k m : Nat} {sp' : Sp} {f fD : Addr} {fd fdD : FuncData} (B : Bl mg) (D : Df K mg "_law_condition" sLCo ["stream", "wide", "deep"] f fd) (DD : Df K mg "_law_draw" sDraw ["stream", "total"] fD fdD) (GDr : FnOk P w K mg base CX0 k fD fdD ["stream", "total"] spDraw)
    (GS : FnOk P w K mg base CX0 k f fd ["stream", "wide", "deep"] sp') (hs : ∀ j, m = j + 1 → ∀ vs H Q E, spLCo j vs H Q E → sp' vs H Q E) : FnOk P w K mg base CX0 (k + 1) f fd ["stream", "wide", "deep"] (spLCo m) := by
  refine D.F.ok scLCo (fun vs H Q E h => ?_) (fun cdv A outer s H vs Q E hr h => ?_)
  · obtain ⟨l, w', rfl, _⟩ := h
    rfl
  · obtain ⟨l, w', rfl, st, w1, w4, q⟩ := h
    have nd := scLCo.nd
    refine ⟨_, pss_cons (ps_set (i := 3) nd rfl (.inl rfl) (pe_call GDr hr (by rfl) DD.g DD.F.kp DD.b .nil pass0 (pa_cons (pv 0) (pa_cons pe_int pa_nil))))
      (pss_cons (ps_if (PW.pt (pw_or (pt_cmpR op_lt (pv 2) pe_int (nomark _)) (pw_or1 (pt_cmpR op_lt (pv 3) pe_int (nomark _)))))
        (pss_cons (ps_set (i := 4) nd rfl (.inl rfl) (pe_ix ix_list (pe_lst (pa_cons pe_int (pa_cons pe_int (pa_cons (pe_un un_neg pe_int) (pa_cons pe_int (pa_cons (pe_op op_pow pe_int pe_int)
            (pa_cons (pe_op op_sub (pe_call GDr hr (by rfl) DD.g DD.F.kp DD.b .nil pass0 (pa_cons (pv 0) (pa_cons (pe_op op_add (pe_op op_mul pe_int (pe_op op_pow pe_int pe_int)) pe_int) pa_nil))) (pe_op op_pow pe_int pe_int)) pa_nil)))))))
            (pe_call GDr hr (by rfl) DD.g DD.F.kp DD.b .nil pass0 (pa_cons (pv 0) (pa_cons pe_int pa_nil))) (fun _ _ => rfl)))
        (pss_one (ps_ret (pe_tup (pa_cons (pe_ix ix_list (pe_lst (pa_cons pe_str (pa_cons pe_str (pa_cons pe_str pa_nil)))) (pe_op op_mod (pv 3) pe_int) (fun _ _ => rfl)) (pa_cons (pe_call GDr hr (by rfl) DD.g DD.F.kp DD.b .nil pass0 (pa_cons (pv 0) (pa_cons (pv 1) pa_nil))) (pa_cons (pv 4) pa_nil))))))) pss_nil)
      (pss_cons (ps_if (pt_cmpR op_eq (pv 3) pe_int (nomark _)) (pss_one (ps_ret (pe_tup (pa_cons pe_str (pa_cons (pe_call GS hr (by rfl) D.g D.F.kp D.b .nil pass0 (pa_cons (pv 0) (pa_cons (pv 1) (pa_cons (pe_op op_sub (pv 2) pe_int) pa_nil)))) pa_nil))))) pss_nil)
      (pss_cons (ps_set (i := 5) nd rfl (.inl rfl) (pe_op op_add pe_int (pe_call GDr hr (by rfl) DD.g DD.F.kp DD.b .nil pass0 (pa_cons (pv 0) (pa_cons pe_int pa_nil)))))
      (pss_one (ps_ret (pe_tup (pa_cons (pe_ix ix_list (pe_lst (pa_cons pe_str (pa_cons pe_str pa_nil))) (pe_op op_sub (pv 3) pe_int) (fun _ _ => rfl))
        (pa_cons (pe_callTy call_tuple_of (by rfl) B.tuple (by decide +kernel) (pa_cons (pe_lc (own := [("turn", 6)]) (g := gName 6) rfl nd (pi_range1 (by rfl) B.range (pa_cons (pv 5) pa_nil))
          (blkOk_by (N := ["stream", "wide", "deep", "way", "number", "total", "turn"]) (sc := defScope sLCo) (by decide +kernel)) (fun _ _ _ _ _ => pg_name (i := 6) nd rfl (Or.inl rfl)) (fun _ _ _ _ _ => pts_nil)
          (fun _ _ _ _ _ => pe_call GS hr (by rfl) D.g D.F.kp D.b .nil pass0 (pa_cons (pv 0) (pa_cons (pv 1) (pa_cons (pe_op op_sub (pv 2) pe_int) pa_nil))))) pa_nil)) pa_nil)))))))), ?_⟩
    -- way
    refine ⟨.ref l, rfl, l, 6, rfl, st, by decide, by decide, fun H1 wy k1 st1 y0 y6 => ?_⟩
    have nH : ∀ {G : Hp}, Keep l H1 G → StO G l → ∀ b, G b = none → H b = none := fun k s => none_of s (k1.trans k)
    refine ⟨.int ((m : Int) + 1), rfl, (m : Int) + 1, 2, rfl, rfl, _, rfl, ?_⟩
    by_cases h2 : (m : Int) + 1 < 2
    · rw [decide_eq_true h2]
      refine iteT (iteT ?_)
      dsimp only
      change tSeq (tAsg _ (gName 4)) _ _ ([some (.ref l), some (.int w'), some (.int ((m : Int) + 1)), some (.int wy), none, none, none] : L2.St) H1
      refine gd_seq (S := Num9) (P := KX.Env l _ [] []) ?_ st1 ⟨rfl, alld_nil, allm_nil⟩ fun H2 v4 d4 hn k2 st2 x4 => ?_
      · have ci : ∀ {z : Int} {t : TE} {σ0 : L2.St}, GI l (KX.Env l σ0 [] []) (· = z) t → -1000000000 ≤ z ∧ z ≤ 1000000000 → GD l (KX.Env l σ0 [] []) Num9 t := fun {z t σ0} h g => (gd_int h).imp fun d e => by
          obtain ⟨i, rfl, rfl⟩ := e
          exact ⟨_, rfl, g.1, g.2⟩
        refine al_ix (n := 6) (m := 6) kp_env (al_lst (al_cons kp_env (ci (gi_val (n := 0) fun σ H Q q => q) (by decide)) (al_cons kp_env (ci (gi_val (n := 1) fun σ H Q q => q) (by decide)) (al_cons kp_env (ci (gi_val (n := -1) fun σ H Q q => ⟨_, rfl, q⟩) (by decide))
          (al_cons kp_env (ci (gi_val (n := 2) fun σ H Q q => q) (by decide)) (al_cons kp_env (ci (gi_val (n := 10 ^ (9 : Int).toNat) fun σ H Q q => ⟨10, 9, rfl, rfl, ⟨by decide, by decide, by decide⟩, q⟩) (by decide))
          (al_cons kp_env ((gd_int (gi_sub (k := 10 ^ (9 : Int).toNat) kp_env (gi_drawS 0 rfl (gi_val (n := 2 * 10 ^ (9 : Int).toNat + 1) fun σ H Q q => ⟨10, 9, rfl, rfl, ⟨by decide, by decide, by decide⟩, 2, _, rfl, rfl, .inl ⟨by decide, by decide⟩, _, 1, rfl, rfl, q⟩) (by decide) (by decide))
            (gi_val fun σ H Q q => ⟨10, 9, rfl, rfl, ⟨by decide, by decide, by decide⟩, q⟩))).imp fun d e => ?_) al_nil)))))) (by decide)) (gi_drawS 0 rfl (gi_val (n := 6) fun σ H Q q => q) (by decide) (by decide)) rfl
        obtain ⟨z, ⟨i, hi, rfl⟩, rfl⟩ := e
        have e9 : (10 : Int) ^ (9 : Int).toNat = 1000000000 := by decide
        rw [e9] at hi
        exact ⟨_, rfl, by rw [e9]; omega, by rw [e9]; omega⟩
      obtain ⟨k4, rfl, b0, b1⟩ := hn
      cases x4
      obtain ⟨x, mx, ex⟩ := pick (f := V.str) (ns := [("ge" : Str), "le", "eq"]) (d := wy % 3) (Int.emod_nonneg _ (by decide)) (Int.emod_lt_of_pos _ (by decide))
      refine ⟨by show 3 ≤ sizeLine; decide, fun p np => ?_⟩
      refine ⟨.int wy, rfl, wy, 3, rfl, rfl, (show (0 : Int) < 3 by decide), p, _, wy % 3, .str x, rfl, rfl, .inl (.inl upd_same), ex, ?_⟩
      refine ⟨.ref l, rfl, .int w', rfl, l, w', rfl, st2.new np, by omega, by omega, fun H3 c k3 st3 c0 c1 => ⟨.int k4, rfl, by show 3 ≤ sizeLine; decide, fun p4 np4 => ?_⟩⟩
      have kk : Keep l H H3 := ((k1.trans k2).new np).trans k3
      exact q _ _ _ (kk.new np4) (st3.new np4) (fresh_tup (none_of st3 kk _ np4) np4 (.cons (.str x) (.cons (.int c) (.cons (.int k4) .nil)))) (.inl ⟨x, c, k4, rfl, cmp_of mx, c0, c1, b0, b1⟩)
    · rw [decide_eq_false h2]
      obtain ⟨j, rfl⟩ : ∃ j, m = j + 1 := ⟨m - 1, by omega⟩
      refine iteF ⟨.int wy, rfl, wy, 3, rfl, rfl, _, rfl, ?_⟩
      by_cases h3 : wy < 3
      · rw [decide_eq_true h3]
        refine iteT ?_
        dsimp only
        change tSeq (tAsg _ (gName 4)) _ _ ([some (.ref l), some (.int w'), some (.int (((j + 1 : Nat) : Int) + 1)), some (.int wy), none, none, none] : L2.St) H1
        refine gd_seq (S := Num9) (P := KX.Env l _ [] []) ?_ st1 ⟨rfl, alld_nil, allm_nil⟩ fun H2 v4 d4 hn k2 st2 x4 => ?_
        · have ci : ∀ {z : Int} {t : TE} {σ0 : L2.St}, GI l (KX.Env l σ0 [] []) (· = z) t → -1000000000 ≤ z ∧ z ≤ 1000000000 → GD l (KX.Env l σ0 [] []) Num9 t := fun {z t σ0} h g => (gd_int h).imp fun d e => by
            obtain ⟨i, rfl, rfl⟩ := e
            exact ⟨_, rfl, g.1, g.2⟩
          refine al_ix (n := 6) (m := 6) kp_env (al_lst (al_cons kp_env (ci (gi_val (n := 0) fun σ H Q q => q) (by decide)) (al_cons kp_env (ci (gi_val (n := 1) fun σ H Q q => q) (by decide)) (al_cons kp_env (ci (gi_val (n := -1) fun σ H Q q => ⟨_, rfl, q⟩) (by decide))
            (al_cons kp_env (ci (gi_val (n := 2) fun σ H Q q => q) (by decide)) (al_cons kp_env (ci (gi_val (n := 10 ^ (9 : Int).toNat) fun σ H Q q => ⟨10, 9, rfl, rfl, ⟨by decide, by decide, by decide⟩, q⟩) (by decide))
            (al_cons kp_env ((gd_int (gi_sub (k := 10 ^ (9 : Int).toNat) kp_env (gi_drawS 0 rfl (gi_val (n := 2 * 10 ^ (9 : Int).toNat + 1) fun σ H Q q => ⟨10, 9, rfl, rfl, ⟨by decide, by decide, by decide⟩, 2, _, rfl, rfl, .inl ⟨by decide, by decide⟩, _, 1, rfl, rfl, q⟩) (by decide) (by decide))
              (gi_val fun σ H Q q => ⟨10, 9, rfl, rfl, ⟨by decide, by decide, by decide⟩, q⟩))).imp fun d e => ?_) al_nil)))))) (by decide)) (gi_drawS 0 rfl (gi_val (n := 6) fun σ H Q q => q) (by decide) (by decide)) rfl
          obtain ⟨z, ⟨i, hi, rfl⟩, rfl⟩ := e
          have e9 : (10 : Int) ^ (9 : Int).toNat = 1000000000 := by decide
          rw [e9] at hi
          exact ⟨_, rfl, by rw [e9]; omega, by rw [e9]; omega⟩
        obtain ⟨k4, rfl, b0, b1⟩ := hn
        cases x4
        obtain ⟨x, mx, ex⟩ := pick (f := V.str) (ns := [("ge" : Str), "le", "eq"]) (d := wy % 3) (Int.emod_nonneg _ (by decide)) (Int.emod_lt_of_pos _ (by decide))
        refine ⟨by show 3 ≤ sizeLine; decide, fun p np => ?_⟩
        refine ⟨.int wy, rfl, wy, 3, rfl, rfl, (show (0 : Int) < 3 by decide), p, _, wy % 3, .str x, rfl, rfl, .inl (.inl upd_same), ex, ?_⟩
        refine ⟨.ref l, rfl, .int w', rfl, l, w', rfl, st2.new np, by omega, by omega, fun H3 c k3 st3 c0 c1 => ⟨.int k4, rfl, by show 3 ≤ sizeLine; decide, fun p4 np4 => ?_⟩⟩
        have kk : Keep l H H3 := ((k1.trans k2).new np).trans k3
        exact q _ _ _ (kk.new np4) (st3.new np4) (fresh_tup (none_of st3 kk _ np4) np4 (.cons (.str x) (.cons (.int c) (.cons (.int k4) .nil)))) (.inl ⟨x, c, k4, rfl, cmp_of mx, c0, c1, b0, b1⟩)
      · rw [decide_eq_false h3]
        refine iteF ⟨.int wy, rfl, rfl, _, rfl, ?_⟩
        rw [dec_int]
        have ej : (((j + 1 : Nat) : Int) + 1) - 1 = (j : Int) + 1 := by omega
        by_cases h4 : wy = 3
        · rw [decide_eq_true h4]
          refine iteT ⟨.ref l, rfl, .int w', rfl, .int (((j + 1 : Nat) : Int) + 1), rfl, _, 1, rfl, rfl, ?_⟩
          refine hs j rfl _ _ _ _ ⟨l, w', ?_, st1, w1, w4, fun H2 v d k2 st2 x2 hc => ⟨by show 2 ≤ sizeLine; decide, fun p np => ?_⟩⟩
          · show [V.ref l, V.int w', V.int ((((j + 1 : Nat) : Int) + 1) - 1)] = _
            rw [ej]
          · have kk := k1.trans k2
            exact q _ _ _ (kk.new np) (st2.new np) (fresh_tup (none_of st2 kk _ np) np (.cons (.str _) (.cons (x2.up (fresh_less (none_of st1 k1))) .nil))) (.inr (.inl ⟨d, rfl, hc⟩))
        · rw [decide_eq_false h4]
          refine iteF ⟨.ref l, rfl, l, 3, rfl, st1, by decide, by decide, fun H2 t k2 st2 t0 t3 => ⟨2, t, rfl, rfl, ?_⟩⟩
          obtain ⟨tn, etn⟩ : ∃ tn : Nat, 2 + t = (tn : Int) := ⟨(2 + t).toNat, by omega⟩
          dsimp only
          rw [etn]
          obtain ⟨x, mx, ex⟩ := pick (f := V.str) (ns := [("and" : Str), "or"]) (d := wy - 4) (by omega) (by show wy - 4 < (2 : Int); omega)
          refine ⟨by show 2 ≤ sizeLine; decide, fun p np => ?_⟩
          refine ⟨.int wy, rfl, wy, 4, rfl, rfl, p, _, wy - 4, .str x, rfl, rfl, .inl (.inl upd_same), ex, ?_⟩
          have k02 : Keep l H (upd H2 p (.lst [.str "and", .str "or"])) := (k1.trans k2).new np
          have st3 := st2.new (o := .lst [.str "and", .str "or"]) np
          refine ⟨.int (tn : Int), rfl, tn, rfl, by omega, by omega, fun L nL => ?_⟩
          have hLl : L ≠ l := st3.ne nL
          have hHL : H L = none := none_of st3 k02 _ nL
          refine lc_range (lo := 0) (n := tn) (fun i G => Keep l (upd H2 p (.lst [.str "and", .str "or"])) G ∧ StO G l ∧ ∃ vs ds, G L = some (.lst vs) ∧ Dxs (hid L (fresh H G)) vs ds ∧ ds.length = i ∧ ∀ d ∈ ds, IsC w' (j + 1) d)
            ⟨(Keep.refl l _).new nL, st3.new nL, [], [], upd_same, .nil, rfl, fun d h => by cases h⟩ (fun i G hi hG => ?_) (fun G hG => ?_)
          · obtain ⟨kG, sG, vs, ds, eL, hx, hlen, hall⟩ := hG
            refine ⟨rfl, .ref l, rfl, .int w', rfl, .int (((j + 1 : Nat) : Int) + 1), rfl, _, 1, rfl, rfl, ?_⟩
            refine hs j rfl _ _ _ _ ⟨l, w', ?_, sG, w1, w4, fun G1 v d k5 sG1 xd hc => ⟨vs, k5 _ _ hLl eL, ?_, ?_, ?_, vs ++ [v], ds ++ [d], upd_same, ?_, ?_, ?_⟩⟩
            · show [V.ref l, V.int w', V.int ((((j + 1 : Nat) : Int) + 1) - 1)] = _
              rw [ej]
            · have hl := hx.len
              have hb : (4 : Nat) < sizeLine := by decide
              omega
            · exact fun b o nb e => by
                rw [upd_ne (ne_of_none e nL)]
                exact k5 _ _ nb (kG _ _ nb e)
            · obtain ⟨x1, x2, x3, e⟩ := sG1
              exact ⟨x1, x2, x3, by rw [upd_ne hLl.symm]; exact e⟩
            · refine (hx.up fun b o e => ?_).app (.cons (xd.up fun b o e => ?_) .nil)
              · obtain ⟨nb, e⟩ := hid_some e
                obtain ⟨n, e⟩ := fresh_some e
                rw [hid_at nb, fresh_at n, upd_ne nb]
                exact k5 b o (fun z => by obtain ⟨y1, y2, y3, z2⟩ := st; rw [z, z2] at n; cases n) e
              · obtain ⟨n, e⟩ := fresh_some e
                have nb : b ≠ L := fun z => by rw [z, eL] at n; cases n
                rw [hid_at nb, fresh_at (none_of sG (k02.trans kG) _ n), upd_ne nb]
                exact e
            · rw [List.length_append, hlen]
              rfl
            · intro d' hd'
              rcases List.mem_append.mp hd' with h | h
              · exact hall d' h
              · rw [List.mem_singleton.mp h]
                exact hc
          · obtain ⟨kG, sG, vs, ds, eL, hx, hlen, hall⟩ := hG
            refine ⟨L, vs, rfl, .inl ⟨.inl (.inl eL), fun p2 np2 => ⟨by show 2 ≤ sizeLine; decide, fun p3 np3 => ?_⟩⟩⟩
            have kk := k02.trans kG
            have n2 := none_of sG kk _ np2
            have n3 := none_of (sG.new np2) (kk.new np2) _ np3
            exact q _ _ _ ((kk.new np2).new np3) ((sG.new np2).new np3) (fresh_tup n3 np3 (.cons (.str x) (.cons (fresh_tup n2 np2 (hx.up (hid_same L _))) .nil))) (.inr (.inr ⟨x, ds, rfl, con_of mx, by omega, by omega, hall⟩))
theorem ok_lco {f fD : Addr} {fd fdD : FuncData} (B : Bl mg) (D : Df K mg "_law_condition" sLCo ["stream", "wide", "deep"] f fd) (DD : Df K mg "_law_draw" sDraw ["stream", "total"] fD fdD) : ∀ m, FnOk P w K mg base CX0 (2 + m) f fd ["stream", "wide", "deep"] (spLCo m)
  | 0 => ok_lco1 (k := 1) (sp' := fun _ _ _ _ => False) B D DD (ok_draw B DD) (D.F.ok scLCo (fun _ _ _ _ h => h.elim) fun _ _ _ _ _ _ _ _ _ h => h.elim) (fun m e => by cases e)
  | m + 1 => ok_lco1 (k := 2 + m) (sp' := spLCo m) B D DD ((ok_draw B DD).mono (by omega)) (ok_lco B D DD m) (fun j e vs H Q E h => by cases e; exact h)
end
end G1

set_option maxRecDepth 100000
set_option maxHeartbeats 1000000
/-! Ex32: dicts whose keys are numbers and whose values are data -/
namespace KX
open PySem PySem.Spec PyProof.Rows L2
def KDs (H : Hp) : List (Key × V) → List (Int × PyData) → Prop := Paired fun p q => p.1 = Sum.inl q.1 ∧ Dx H p.2 q.2
def encK (q : Int × PyData) : PyData × PyData := (.int q.1, q.2)
theorem KDs.up {H H' : Hp} (s : Same H H') : ∀ {kvs : List (Key × V)} {qs : List (Int × PyData)}, KDs H kvs qs → KDs H' kvs qs
  | [], [], _ => .nil
  | _ :: _, _ :: _, .cons a b => .cons ⟨a.1, a.2.up s⟩ (KDs.up s b)
theorem KDs.keys {H : Hp} : ∀ {kvs : List (Key × V)} {qs : List (Int × PyData)}, KDs H kvs qs → kvs.map (·.1) = (qs.map (·.1)).map Sum.inl
  | [], [], _ => rfl
  | p :: kvs, q :: qs, .cons a b => by
    rw [List.map_cons, List.map_cons, List.map_cons, KDs.keys b, a.1]
theorem KDs.len {H : Hp} {kvs : List (Key × V)} {qs : List (Int × PyData)} (h : KDs H kvs qs) : kvs.length = qs.length := Paired.length h
theorem KDs.none {H : Hp} {k : Int} : ∀ {kvs : List (Key × V)} {qs : List (Int × PyData)}, KDs H kvs qs → k ∉ qs.map (·.1) → valV kvs (.inl k) = none
  | [], [], _, _ => rfl
  | p :: kvs, q :: qs, .cons a b, h => by
    rw [List.map_cons, List.mem_cons, not_or] at h
    rw [valV_neg (by rw [a.1]; intro z; exact h.1 (Sum.inl.inj z).symm)]
    exact KDs.none b h.2
theorem KDs.snoc {H : Hp} {p : Key × V} {q : Int × PyData} (h : p.1 = Sum.inl q.1 ∧ Dx H p.2 q.2) : ∀ {kvs : List (Key × V)} {qs : List (Int × PyData)}, KDs H kvs qs → KDs H (kvs ++ [p]) (qs ++ [q])
  | [], [], _ => .cons h .nil
  | _ :: _, _ :: _, .cons a b => .cons a (KDs.snoc h b)
/-- the value stored anew under the last key -/
theorem KDs.again {H : Hp} {k : Int} {v : V} {d : PyData} (hv : Dx H v d) : ∀ {kvs : List (Key × V)} {qs : List (Int × PyData)}, KDs H kvs (qs ++ [(k, d)]) → k ∉ qs.map (·.1) → KDs H (putK kvs (.inl k) v) (qs ++ [(k, d)]) := by
  intro kvs qs h hk
  have hany : (kvs.any fun kv => decide (kv.1 = Sum.inl k)) = true := by
    have e := h.keys
    rw [List.any_eq_true]
    have : (Sum.inl k : Key) ∈ kvs.map (·.1) := by
      rw [e]
      simp
    obtain ⟨p, hp, ep⟩ := List.mem_map.mp this
    exact ⟨p, hp, decide_eq_true ep⟩
  unfold putK
  rw [if_pos hany]
  clear hany
  induction kvs generalizing qs with
  | nil => cases qs <;> cases h
  | cons p kvs ih =>
    cases qs with
    | nil =>
      cases h with
      | cons a b =>
        cases kvs with
        | cons _ _ => cases b
        | nil =>
          rw [List.map_cons, List.map_nil, if_pos a.1]
          exact .cons ⟨a.1, hv⟩ .nil
    | cons q qs =>
      cases h with
      | cons a b =>
        rw [List.map_cons, List.mem_cons, not_or] at hk
        rw [List.map_cons, if_neg (by rw [a.1]; intro z; exact hk.1 (Sum.inl.inj z).symm)]
        exact .cons a (ih b hk.2)
section
variable {X : Cx} {pins : List (Addr × Obj)} {σ : L2.St} {H : Hp} {s : Shared}
theorem reads_ents (I : Inv X pins σ H s) : ∀ {es : List DictEntry} {vs : List (Key × Value)} {kvs : List (Key × V)} {qs : List (Int × PyData)}, Pairs (mixKind X.prog X.w) es vs → KV kvs vs → KDs H kvs qs →
    ∃ bs, ReadsAll s.heap (es.map (·.key)) ((qs.map encK).map (·.1)) [] ∧ ReadsAll s.heap (es.map (·.val)) ((qs.map encK).map (·.2)) bs ∧ sysModules ∉ bs
  | [], _, _, _, .nil, r, k => by
    cases r
    cases k
    exact ⟨[], .nil, .nil, by simp⟩
  | en :: es, _, _, _, .cons a1 a2 t, r, k => by
    cases r with
    | cons r0 r1 =>
    cases k with
    | cons k0 k1 =>
      obtain ⟨bs, h1, h2, h3⟩ := reads_ents I t r1 k1
      obtain ⟨kk, kd⟩ := k0
      obtain ⟨rk, rv⟩ := r0
      have a1' : (mixKind X.prog X.w).is (Sum.inl _) en.key = true := (kk.symm.trans rk) ▸ a1
      have a1' : keyIs (Sum.inl _) en.key = true := a1'
      obtain ⟨i, tk, hq1, hq2⟩ := (keyIs_shape a1').resolve_right (fun z => by obtain ⟨_, _, z, _⟩ := z; cases z)
      cases hq1
      rw [← a2] at rv
      obtain ⟨as, q1, n1⟩ := Dx.reads I _ _ _ kd rv
      refine ⟨as ++ bs, ?_, ReadsAll.cons q1 h2, by simp [n1, h3]⟩
      rw [List.map_cons, List.map_cons, List.map_cons, hq2]
      exact ReadsAll.cons (as := []) (bs := []) (.int _ tk) h1
theorem reads_dI (I : Inv X pins σ H s) {a : Addr} {kvs : List (Key × V)} {qs : List (Int × PyData)} (e : H a = some (.dK kvs)) (h : KDs H kvs qs) : ∃ as, Reads s.heap (.ref a) (.dict (qs.map encK)) as ∧ sysModules ∉ as := by
  obtain ⟨z, y, vs, r, o, es, ep, e1, ex, ed, hm⟩ := (show ObjOk X.prog X.w H s.heap a (.dK kvs) from I.hok a _ e)
  obtain ⟨bs, h1, h2, h3⟩ := reads_ents I hm.2.1 r h
  refine ⟨_, Reads.dict (kvs := qs.map encK) e1 ex.1 ed h1 h2, fun z => ?_⟩
  have z : sysModules ∈ a :: bs := by simpa using z
  rcases List.mem_cons.mp z with z | z
  · rw [z] at y
    simp at y
  · exact h3 z
/-- repr of such a dict -/
def rReprDI : List V → Hp → VK → Prop := fun xs H Q => ∃ a kvs qs, xs = [.ref a] ∧ H a = some (.dK kvs) ∧ KDs H kvs qs ∧ (PyData.dict (qs.map encK)).showable = true ∧ (PyData.dict (qs.map encK)).depth ≤ 100 ∧ (PyData.dict (qs.map encK)).shown.length ≤ sizeLine ∧ Q (.str (PyData.dict (qs.map encK)).shown) H
theorem call_reprDI {k : Nat} (hr : Room k X.A) (hg : X.A.guards = some []) : CallR X (.builtin "repr") rReprDI := by
  intro pins s σ H xs us Q I r h
  obtain ⟨a, kvs, qs, e, ea, hk, hs, hdp, hz, q⟩ := h
  subst e
  obtain ⟨u, rfl, rx⟩ := vals1 r
  cases (show u = Value.ref _ from rx)
  obtain ⟨as, hrd, hn⟩ := reads_dI I ea hk
  have hu := hr.un
  exact repr_of_reads' hrd hs (fun _ => hn) hg (by omega) (fun _ _ e => e) (fun h' u' tk hk => ⟨.str _, H, I.kept (t' := tk) hk, ⟨_, rfl⟩, q⟩) hz
end
/-- {k: v for x in a list} -/
theorem dc_lst {K : PySem.W.Frag} {b : Addr} {ys : List V} {gg : TG} {test : TT} {tkey tval : TE} {ws : List Nat} {σ : L2.St} {F : Hp} {D : Addr} {Fin : Hp → Prop} (Pv : Nat → Hp → Prop) (base : Pv 0 (upd F D (.dK []))) (stays : ∀ i G, i ≤ ys.length → Pv i G → SqL K G b ys)
    (step : ∀ i x G, ys[i]? = some x → Pv i G → gg x (wipe σ ws) G fun σ2 G2 => wipe σ2 ws = wipe σ ws ∧ test σ2 G2 fun c G3 =>
      if c = true then tkey σ2 G3 fun y G4 => tval σ2 G4 fun z G5 => ∃ kvs k, y = kV k ∧ G5 D = some (.dK kvs) ∧ kvs.length < sizeLine ∧ Pv (i + 1) (upd G5 D (.dK (putK kvs k z))) else Pv (i + 1) G3) (last : ∀ G, Pv ys.length G → Fin G) :
    ∃ W : Nat → Nat → Hp → Prop, (∃ m, W 0 m (upd F D (.dK []))) ∧ ∀ i m G, W i m G →
      ((Itl K b).stop i G ∧ Fin G) ∨ ((Itl K b).go i G ∧ ∃ Nx : Hp → Prop, (∀ G', Nx G' → ∃ m', m' < m ∧ W (i + 1) m' G') ∧ ∀ x G', (Itl K b).yld i G x G' → gg x (wipe σ ws) G' fun σ2 G2 => wipe σ2 ws = wipe σ ws ∧ test σ2 G2 fun c G3 =>
        if c = true then tkey σ2 G3 fun y G4 => tval σ2 G4 fun z G5 => ∃ kvs k, y = kV k ∧ G5 D = some (.dK kvs) ∧ kvs.length < sizeLine ∧ Nx (upd G5 D (.dK (putK kvs k z))) else Nx G3) := by
  refine ⟨fun i m G => m = ys.length - i ∧ i ≤ ys.length ∧ Pv i G, ⟨ys.length, by simp, Nat.zero_le _, base⟩, fun i m G hw => ?_⟩
  obtain ⟨rfl, hi, p⟩ := hw
  have q := stays i G hi p
  by_cases lt : i < ys.length
  · refine .inr ⟨⟨ys, ys[i], q, List.getElem?_eq_getElem lt⟩, Pv (i + 1), fun G' p' => ⟨ys.length - (i + 1), by omega, rfl, lt, p'⟩, fun x G' y => ?_⟩
    obtain ⟨rfl, y⟩ := y
    exact step i x _ (y ys q) p
  · have e : i = ys.length := by omega
    subst e
    exact .inl ⟨⟨ys, q, Nat.le_refl _⟩, last G p⟩
end KX

set_option maxRecDepth 100000
set_option maxHeartbeats 4000000
namespace G1
open PySem PySem.Spec PyProof.Rows L2 KX
def rTupOf (K : PySem.W.Frag) : List V → Hp → VK → Prop := fun xs H Q => ∃ p ys, xs = [.ref p] ∧ ((SqL K H p ys ∧ ∀ l, H l = none → Q (.ref l) (upd H l (.tup ys))) ∨ (SqT K H p ys ∧ Q (.ref p) H))
/-! ### groups -/
abbrev sGR : Stmt := topS 60
abbrev sGO : Stmt := topS 61
abbrev NG : List Str := ["rowset", "column", "groups", "row", "value"]
theorem scGO : FnScope NG ["rowset", "column"] (defScope sGO) := ⟨rfl, rfl, rfl, by decide +kernel, rfl, by decide +kernel, by decide +kernel⟩
def cvl (c : Int) (r : Rec) : Int := r.vals.getD c.toNat 0
def pick1 (c k : Int) (rs : List Rec) : List Rec := rs.filter fun r => decide (cvl c r = k)
def grp (c : Int) (rs : List Rec) (k : Int) : Int × PyData := (k, .tuple ((pick1 c k rs).map encR))
def GrD (H : Hp) (D : Addr) (rs : List Rec) (c : Int) (ks : List Int) : Prop := ∃ kvs, H D = some (.dK kvs) ∧ KDs H kvs (ks.map (grp c rs))
def KsOk (c : Int) (rs : List Rec) (ks : List Int) : Prop := ks.Pairwise (· < ·) ∧ ∀ k, k ∈ ks ↔ ∃ r ∈ rs, cvl c r = k
theorem GrD.up {H H' : Hp} {D : Addr} {rs : List Rec} {c : Int} {ks : List Int} (h : GrD H D rs c ks) (s : Same H H') : GrD H' D rs c ks := by
  obtain ⟨kvs, e, k⟩ := h
  exact ⟨kvs, s _ _ e, k.up s⟩
theorem grp_keys (c : Int) (rs : List Rec) (ks : List Int) : (ks.map (grp c rs)).map (·.1) = ks := by
  rw [List.map_map]
  exact List.map_id' _
theorem KsOk.eq {c : Int} {rs : List Rec} {as bs : List Int} (h1 : KsOk c rs as) (h2 : KsOk c rs bs) : as = bs := by
  have nd : ∀ {l : List Int}, l.Pairwise (· < ·) → l.Nodup := fun {l} h => h.imp fun {a b} z e => by omega
  have p : as.Perm bs := (List.perm_ext_iff_of_nodup (nd h1.1) (nd h2.1)).mpr fun k => (h1.2 k).trans (h2.2 k).symm
  refine List.Perm.eq_of_pairwise (le := fun a b => a < b) (fun a b _ _ z1 z2 => by omega) h1.1 h2.1 p
theorem pick1_snoc {c k : Int} {rs : List Rec} {i : Nat} {r : Rec} (h : rs[i]? = some r) : pick1 c k (rs.take (i + 1)) = pick1 c k (rs.take i) ++ (if decide (cvl c r = k) = true then [r] else []) := filter_atR _ h
theorem inj_nodup {α β : Type} {f : α → β} : ∀ {l : List α} {a b : α}, (l.map f).Nodup → a ∈ l → b ∈ l → f a = f b → a = b
  | x :: l, a, b, h, ha, hb, e => by
    rw [List.map_cons, List.nodup_cons] at h
    rcases List.mem_cons.mp ha with rfl | ha' <;> rcases List.mem_cons.mp hb with rfl | hb'
    · rfl
    · exact absurd (e ▸ List.mem_map.mpr ⟨b, hb', rfl⟩) h.1
    · exact absurd (e ▸ List.mem_map.mpr ⟨a, ha', rfl⟩) h.1
    · exact inj_nodup h.2 ha' hb' e
theorem valV_mem {κ : Type} [DecidableEq κ] {kvs : List (κ × V)} {k : κ} {v : V} (h : valV kvs k = some v) : (k, v) ∈ kvs := by
  unfold valV at h
  obtain ⟨p, hp, e⟩ := Option.map_eq_some_iff.mp h
  have h1 := List.mem_of_find?_eq_some hp
  have h2 := List.find?_some (p := fun kv : κ × V => decide (kv.1 = k)) hp
  have h2 : p.1 = k := of_decide_eq_true h2
  rw [← h2, ← e]
  exact h1
theorem valV_no {κ : Type} [DecidableEq κ] {kvs : List (κ × V)} {k : κ} (h : valV kvs k = none) : k ∉ kvs.map (·.1) := fun z => by
  have := valV_any k kvs
  rw [h] at this
  obtain ⟨p, hp, e⟩ := List.mem_map.mp z
  have z2 : (kvs.any fun kv => decide (kv.1 = k)) = true := List.any_eq_true.mpr ⟨p, hp, decide_eq_true e⟩
  rw [this] at z2
  cases z2
/-- a dict of lists while it is built: the key, where its list stands, what it holds -/
abbrev G3 := Int × Addr × List V
def kv3 (g : G3) : Key × V := (Sum.inl g.1, .ref g.2.1)
structure GSt (H N : Hp) (D : Addr) (c : Int) (rs : List Rec) (gs : List G3) : Prop where
  e : N D = some (.dK (gs.map kv3))
  kn : (gs.map (·.1)).Nodup
  an : (gs.map (·.2.1)).Nodup
  at_ : ∀ g ∈ gs, g.2.1 ≠ D ∧ H g.2.1 = none ∧ N g.2.1 = some (.lst g.2.2) ∧ Dxs H g.2.2 ((pick1 c g.1 rs).map encR)
  all : ∀ r ∈ rs, cvl c r ∈ gs.map (·.1)
  of : ∀ k ∈ gs.map (·.1), ∃ r ∈ rs, cvl c r = k
  le : gs.length ≤ rs.length
theorem kv3_keys (gs : List G3) : (gs.map kv3).map (·.1) = (gs.map (·.1)).map Sum.inl := by
  rw [List.map_map, List.map_map]
  rfl
theorem take_snoc {α : Type} {rs : List α} {i : Nat} {r : α} (h : rs[i]? = some r) : rs.take (i + 1) = rs.take i ++ [r] := by
  rw [List.take_add_one, h]
  rfl
theorem GSt.more {H N : Hp} {D : Addr} {c : Int} {rs : List Rec} {gs : List G3} {i : Nat} {r : Rec} {x : V} {g : G3} (h : GSt H N D c (rs.take i) gs) (er : rs[i]? = some r) (hx : Dx H x (encR r)) (hg : g ∈ gs) (eg : g.1 = cvl c r) {N2 : Hp} (s2 : ∀ b o, b ≠ g.2.1 → N b = some o → N2 b = some o) (e2 : N2 g.2.1 = some (.lst (g.2.2 ++ [x]))) :
    GSt H N2 D c (rs.take (i + 1)) (gs.map fun q => if q.1 = g.1 then (q.1, q.2.1, q.2.2 ++ [x]) else q) := by
  have k1 : ((gs.map fun q : G3 => if q.1 = g.1 then (q.1, q.2.1, q.2.2 ++ [x]) else q).map (·.1)) = gs.map (·.1) := by
    rw [List.map_map]
    refine List.map_congr_left fun q _ => ?_
    show (if q.1 = g.1 then (q.1, q.2.1, q.2.2 ++ [x]) else q).1 = q.1
    split <;> rfl
  have k2 : ((gs.map fun q : G3 => if q.1 = g.1 then (q.1, q.2.1, q.2.2 ++ [x]) else q).map (·.2.1)) = gs.map (·.2.1) := by
    rw [List.map_map]
    refine List.map_congr_left fun q _ => ?_
    show (if q.1 = g.1 then (q.1, q.2.1, q.2.2 ++ [x]) else q).2.1 = q.2.1
    split <;> rfl
  have k3 : ((gs.map fun q : G3 => if q.1 = g.1 then (q.1, q.2.1, q.2.2 ++ [x]) else q).map kv3) = gs.map kv3 := by
    rw [List.map_map]
    refine List.map_congr_left fun q _ => ?_
    show kv3 (if q.1 = g.1 then (q.1, q.2.1, q.2.2 ++ [x]) else q) = kv3 q
    split <;> rfl
  refine ⟨by rw [k3]; exact s2 _ _ (h.at_ g hg).1.symm h.e, by rw [k1]; exact h.kn, by rw [k2]; exact h.an, fun q hq => ?_, fun r' hr' => ?_, fun k hk => ?_, ?_⟩
  · obtain ⟨p, hp, rfl⟩ := List.mem_map.mp hq
    obtain ⟨a1, a2, a3, a4⟩ := h.at_ p hp
    have ps := pick1_snoc (c := c) (k := p.1) er
    by_cases z : p.1 = g.1
    · have : p = g := inj_nodup h.kn hp hg z
      subst this
      simp only [if_true]
      refine ⟨a1, a2, e2, ?_⟩
      rw [ps, if_pos (decide_eq_true eg.symm), List.map_append]
      exact a4.app (.cons hx .nil)
    · simp only [if_neg z]
      refine ⟨a1, a2, s2 _ _ (fun y => z (congrArg (·.1) (inj_nodup h.an hp hg y))) a3, ?_⟩
      rw [ps, if_neg (by rw [decide_eq_true_eq]; intro y; exact z (y.symm.trans eg.symm)), List.append_nil]
      exact a4
  · rw [k1]
    rw [take_snoc er] at hr'
    rcases List.mem_append.mp hr' with z | z
    · exact h.all r' z
    · rw [List.mem_singleton.mp z, ← eg]
      exact List.mem_map.mpr ⟨g, hg, rfl⟩
  · rw [k1] at hk
    obtain ⟨r', hr', e'⟩ := h.of k hk
    exact ⟨r', by rw [take_snoc er]; exact List.mem_append_left _ hr', e'⟩
  · rw [List.length_map, take_snoc er, List.length_append]
    exact Nat.le_trans h.le (Nat.le_add_right _ _)
theorem GSt.fresh {H N : Hp} {D : Addr} {c : Int} {rs : List Rec} {gs : List G3} {i : Nat} {r : Rec} {x : V} {L : Addr} (h : GSt H N D c (rs.take i) gs) (er : rs[i]? = some r) (hx : Dx H x (encR r)) (hn : cvl c r ∉ gs.map (·.1)) (nL : N L = none) (hL : H L = none) {N2 : Hp} (s2 : ∀ b o, b ≠ D → N b = some o → N2 b = some o)
    (eD : N2 D = some (.dK ((gs ++ [(cvl c r, L, [x])]).map kv3))) (e2 : N2 L = some (.lst [x])) : GSt H N2 D c (rs.take (i + 1)) (gs ++ [(cvl c r, L, [x])]) := by
  have hLD : L ≠ D := fun z => by rw [z, h.e] at nL; cases nL
  refine ⟨eD, ?_, ?_, fun q hq => ?_, fun r' hr' => ?_, fun k hk => ?_, ?_⟩
  · rw [List.map_append]
    refine List.nodup_append.mpr ⟨h.kn, by simp, fun a ha b hb z => hn ?_⟩
    rw [List.map_singleton, List.mem_singleton] at hb
    rw [← show b = cvl c r from hb, ← z]
    exact ha
  · rw [List.map_append]
    refine List.nodup_append.mpr ⟨h.an, by simp, fun a ha b hb z => ?_⟩
    rw [List.map_singleton, List.mem_singleton] at hb
    obtain ⟨g, hg, eg⟩ := List.mem_map.mp ha
    obtain ⟨_, _, a3, _⟩ := h.at_ g hg
    rw [eg, z, show b = L from hb, nL] at a3
    cases a3
  · have ps := fun k => pick1_snoc (c := c) (k := k) er
    rcases List.mem_append.mp hq with z | z
    · obtain ⟨a1, a2, a3, a4⟩ := h.at_ q z
      refine ⟨a1, a2, s2 _ _ a1 a3, ?_⟩
      rw [ps, if_neg (by rw [decide_eq_true_eq]; intro y; exact hn (y ▸ List.mem_map.mpr ⟨q, z, rfl⟩)), List.append_nil]
      exact a4
    · rw [List.mem_singleton.mp z]
      refine ⟨hLD, hL, e2, ?_⟩
      show Dxs H [x] ((pick1 c (cvl c r) (rs.take (i + 1))).map encR)
      have e0 : pick1 c (cvl c r) (rs.take i) = [] := List.filter_eq_nil_iff.mpr fun r' hr' y => hn (of_decide_eq_true y ▸ h.all r' hr')
      rw [ps, if_pos (decide_eq_true rfl), e0]
      exact .cons hx .nil
  · rw [take_snoc er] at hr'
    rw [List.map_append, List.mem_append]
    rcases List.mem_append.mp hr' with z | z
    · exact .inl (h.all r' z)
    · rw [List.mem_singleton.mp z]
      exact .inr (by simp)
  · rw [List.map_append, List.mem_append] at hk
    rcases hk with z | z
    · obtain ⟨r', hr', e'⟩ := h.of k z
      exact ⟨r', by rw [take_snoc er]; exact List.mem_append_left _ hr', e'⟩
    · refine ⟨r, by rw [take_snoc er]; simp, ?_⟩
      have : k = cvl c r := by simpa using z
      exact this.symm
  · rw [take_snoc er, List.length_append, List.length_append]
    exact Nat.add_le_add_right h.le 1
theorem row_valsAt {H : Hp} {v : V} {r : Rec} (h : Dx H v (encR r)) : ∃ a z, v = .ref a ∧ H a = some (.tup [.str r.nm, .int r.cost, .ref z, .int r.exp]) ∧ H z = some (.tup (r.vals.map V.int)) := by
  obtain ⟨a, z, vs, e1, e2, e3, rfl⟩ := row_dx h
  exact ⟨a, z, e1, e2, e3⟩
def spGO : Sp := fun vs H Q _ => ∃ (v : V) (rs : List Rec) (c : Int), vs = [v, .int c] ∧ Dx H v (.tuple (rs.map encR)) ∧ 0 ≤ c ∧ (∀ r ∈ rs, c < (r.vals.length : Int)) ∧ rs.length ≤ 60 ∧ ∀ H' D ks, Same H H' → H D = none → GrD H' D rs c ks → KsOk c rs ks → Q (.ref D) H'
section
variable {P : Program} {w : World} {K : PySem.W.Frag} {mg : Str → Option Value} {base : Heap}
theorem ok_go {f : Addr} {fd : FuncData} (B : Bl mg) (cv : ∃ t, mg "VALUES" = some (.int 2 t)) (D : Df K mg "groups_of" sGO ["rowset", "column"] f fd) : FnOk P w K mg base CX0 1 f fd ["rowset", "column"] spGO := by
  obtain ⟨tv, mv⟩ := cv
  refine D.F.ok scGO (fun vs H Q E h => ?_) (fun cdv A outer s H vs Q E hr h => ?_)
  · obtain ⟨v, rs, c, rfl, _⟩ := h
    rfl
  · obtain ⟨v, rs, c, rfl, hd, c0, hc, l60, q⟩ := h
    have nd := scGO.nd
    have hu : (A.deeper (envOfC (Str.ofString "groups_of") (defScope sGO) s.heap.objs.size f cdv)).units + 1 < cLine := by
      have := hr.units
      omega
    refine ⟨_, pss_cons (ps_set (i := 2) nd rfl (.inr rfl) pe_dnewK)
      (pss_cons (ps_for PassesOwn.never rfl (pi_tup (pv 0)) (pg_name (i := 3) nd rfl (.inl rfl))
        (pss_one (ps_expr (pe_bm PySem.F.plainAttrs_list PySem.F.slot_list_append PySem.F.type_list_append mt_append (pe_dsetd (pv 2) (pe_ix ix_tup (pe_ix ix_tup (pv 3) (pe_glob (v := .int 2) (by rfl) mv ⟨_, rfl⟩) (fun _ _ => rfl)) (pv 1) (fun _ _ => rfl)) (pe_lst pa_nil) ⟨by rfl, by rfl, by rfl, by rfl⟩) (pa_cons (pv 3) pa_nil)))))
      (pss_one (ps_ret (pe_dc (own := [("value", 4)]) (g := gName 4) rfl nd (pi_list (pe_callB (call_sortedDI rfl) (by rfl) B.sorted (by decide +kernel) (pa_cons (pv 2) pa_nil))) (blkOk_by (N := NG) (sc := defScope sGO) (by decide +kernel)) (fun _ _ _ _ _ => pg_name (i := 4) nd rfl (Or.inl rfl)) (fun _ _ _ _ _ => pts_nil) (fun _ _ _ _ _ => pv 4)
          (fun _ _ _ _ _ => pe_callTy (T := "tuple") (r := rTupOf K) call_tuple_of (by rfl) B.tuple (by decide +kernel) (pa_cons (pe_dget hu (pv 2) (pv 4) (fun _ _ => rfl)) pa_nil)))))), ?_⟩
    obtain ⟨a, xs, rfl, ea, hx⟩ := dx_tup' hd
    have lx := hx.len
    rw [List.length_map] at lx
    have big : (1000 : Nat) < sizeLine := by decide
    refine fun D0 nD0 => ?_
    have s0 : Same H (upd H D0 (.dK [])) := same_new nD0
    have eD0 : (upd H D0 (.dK [])) D0 = some (.dK []) := upd_same
    generalize upd H D0 (.dK []) = H0 at s0 eD0
    refine ⟨.ref a, rfl, a, rfl, ⟨_, .inl (.inl (s0 _ _ ea))⟩, ?_⟩
    refine for_tup (K := K) (xs := xs) (fun i σ N => Same H N ∧ ∃ (gs : List G3) (o3 : Option V), GSt H N D0 c (rs.take i) gs ∧ σ = [some (.ref a), some (.int c), some (.ref D0), o3, none])
      ⟨s0, [], none, ⟨eD0, .nil, .nil, by simp, by simp, by simp, by simp⟩, rfl⟩ (fun i σ N _ hN => .inl (.inl (hN.1 _ _ ea))) (fun i x σ N hxi hN => ?_) (fun σ N hN => ?_)
    · obtain ⟨sN, gs, o3, g, rfl⟩ := hN
      obtain ⟨dd, edd, hdx⟩ := hx.get' hxi
      rw [List.getElem?_map] at edd
      obtain ⟨r, er, rfl⟩ := Option.map_eq_some_iff.mp edd
      have rr := List.mem_of_getElem? er
      have ii : i < rs.length := (List.getElem?_eq_some_iff.mp er).1
      obtain ⟨b, z, rfl, eb, ez⟩ := row_valsAt (hdx.up sN)
      have lg := g.le
      rw [List.length_take] at lg
      refine ⟨.ref D0, rfl, D0, rfl, .inl ⟨_, .inl g.e⟩, .ref b, rfl, b, _, 2, .ref z, rfl, rfl, .inl (.inl eb), rfl, .int c, rfl, z, _, c, .int (cvl c r), rfl, rfl, .inl (.inl ez), at_int c0 (hc r rr), by show 0 ≤ sizeLine; exact Nat.zero_le _, fun L nL => ?_⟩
      have sL := same_new (o := .lst []) nL
      have hL : H L = none := by
        cases e : H L with
        | none => rfl
        | some o => rw [sN _ _ e] at nL; cases nL
      have eDL := sL _ _ g.e
      refine ⟨_, .inl (cvl c r), eDL, rfl, by rw [List.length_map]; omega, fun u hu => ?_, fun hn => ?_⟩
      · obtain ⟨p, hp, ep⟩ := List.mem_map.mp (valV_mem hu)
        have e1 : p.1 = cvl c r := Sum.inl.inj (congrArg Prod.fst ep)
        have e2 : V.ref p.2.1 = u := congrArg Prod.snd ep
        subst e2
        obtain ⟨a1, a2, a3, a4⟩ := g.at_ p hp
        have a3L := sL _ _ a3
        have la := a4.len
        rw [List.length_map] at la
        have lf : (pick1 c p.1 (rs.take i)).length ≤ i := Nat.le_trans (List.length_filter_le _ _) (by rw [List.length_take]; omega)
        refine ⟨.inl ⟨rfl, _, .inl (.inl a3L)⟩, .ref b, rfl, p.2.1, p.2.2, .ref b, rfl, rfl, a3L, by omega, same_at (sN.trans sL) a2, _, _, GSt.more g er hdx hp e1 (N2 := upd (upd N L (.lst [])) p.2.1 (.lst (p.2.2 ++ [.ref b]))) (fun y o hy e => by rw [upd_ne hy]; exact sL _ _ e) upd_same, rfl⟩
      · have hn' : cvl c r ∉ gs.map (·.1) := fun z => valV_no hn (by rw [kv3_keys]; exact List.mem_map.mpr ⟨_, z, rfl⟩)
        have hLD : L ≠ D0 := fun z => by rw [z, g.e] at nL; cases nL
        have nD0' : H D0 = none := nD0
        rw [putK_new _ hn]
        have e1 : ∀ o, (upd (upd N L (.lst [])) D0 o) L = some (.lst []) := fun o => by rw [upd_ne hLD]; exact upd_same
        refine ⟨.inl ⟨rfl, _, .inl (.inl (e1 _))⟩, .ref b, rfl, L, [], .ref b, rfl, rfl, e1 _, by show 0 < sizeLine; omega, same_at (same_at (sN.trans sL) nD0') hL, gs ++ [(cvl c r, L, [.ref b])], _, GSt.fresh g er hdx hn' nL hL (fun y o hy e => ?_) ?_ upd_same, rfl⟩
        · rw [upd_ne (fun z => by rw [z] at e; rw [e] at nL; cases nL), upd_ne hy]
          exact sL _ _ e
        · rw [upd_ne hLD.symm, upd_same, List.map_append]
          rfl
    · obtain ⟨sN, gs, o3, g, rfl⟩ := hN
      rw [List.take_of_length_le (by omega)] at g
      have lg := g.le
      refine ⟨.ref D0, rfl, D0, gs.map kv3, gs.map (·.1), rfl, .inl g.e, kv3_keys gs, by rw [List.length_map]; omega, fun ys p hperm hpw np => ?_⟩
      have ndy : ys.Nodup := hperm.nodup_iff.mpr g.kn
      have ylt : ys.Pairwise (· < ·) := by
        refine (hpw.and ndy).imp fun {x y} h => ?_
        obtain ⟨h1, h2⟩ := h
        have : x ≠ y := h2
        omega
      have ly : ys.length ≤ 60 := by
        rw [hperm.length_eq, List.length_map]
        omega
      have sp := sN.trans (same_new (o := .lst (ys.map V.int)) np)
      have ep : (upd N p (.lst (ys.map V.int))) p = some (.lst (ys.map V.int)) := upd_same
      have sNp : Same N (upd N p (.lst (ys.map V.int))) := same_new np
      generalize upd N p (.lst (ys.map V.int)) = F at sp ep sNp
      refine ⟨p, rfl, ⟨_, .inl (.inl ep)⟩, fun D2 nD2 => ?_⟩
      refine dc_lst (ys := ys.map V.int) (fun j G => Same F G ∧ ∃ kvs, G D2 = some (.dK kvs) ∧ KDs (hid D2 G) kvs ((ys.take j).map (grp c rs))) ⟨same_new nD2, [], upd_same, .nil⟩ (fun j G _ hG => .inl (.inl (hG.1 _ _ ep))) (fun j x G hxj hG => ?_) (fun G hG => ?_)
      · obtain ⟨sG, kvs, eD2, hk⟩ := hG
        rw [List.getElem?_map] at hxj
        obtain ⟨k, ek, rfl⟩ := Option.map_eq_some_iff.mp hxj
        have jj : j < ys.length := (List.getElem?_eq_some_iff.mp ek).1
        have kin : k ∈ gs.map (·.1) := hperm.mem_iff.mp (List.mem_of_getElem? ek)
        obtain ⟨g1, hg1, eg1⟩ := List.mem_map.mp kin
        obtain ⟨a1, a2, a3, a4⟩ := g.at_ g1 hg1
        have hval : valV (gs.map kv3) (.inl k) = some (.ref g1.2.1) := by
          cases hv : valV (gs.map kv3) (.inl k) with
          | none => exact absurd (by rw [kv3_keys]; exact List.mem_map.mpr ⟨k, kin, rfl⟩) (valV_no hv)
          | some u =>
            obtain ⟨p2, hp2, ep2⟩ := List.mem_map.mp (valV_mem hv)
            have e1 : p2.1 = k := Sum.inl.inj (congrArg Prod.fst ep2)
            have : p2 = g1 := inj_nodup g.kn hp2 hg1 (e1.trans eg1.symm)
            have e2 : V.ref p2.2.1 = u := congrArg Prod.snd ep2
            rw [← e2, this]
        have sNG := sNp.trans sG
        have dg : DGet G D0 (.int k) (some (.ref g1.2.1)) := by
          have := DGet.k (k := Sum.inl k) (sNG _ _ g.e)
          rw [hval] at this
          exact this
        refine ⟨rfl, .int k, rfl, .ref D0, rfl, .int k, rfl, D0, .ref g1.2.1, rfl, dg, g1.2.1, g1.2.2, rfl, .inl ⟨.inl (.inl (sNG _ _ a3)), fun T nT => ?_⟩⟩
        have la := a4.len
        rw [List.length_map] at la
        have lf : (pick1 c g1.1 rs).length ≤ rs.length := List.length_filter_le _ _
        have sT := same_new (o := .tup g1.2.2) nT
        have lk := hk.len
        rw [List.length_map, List.length_take] at lk
        have ht : ys.take (j + 1) = ys.take j ++ [k] := take_snoc ek
        have knew : k ∉ ys.take j := fun z => by
          have h2 := ndy.sublist (List.take_sublist (j + 1) ys)
          rw [ht] at h2
          exact (List.nodup_append.mp h2).2.2 k z k (by simp) rfl
        refine ⟨kvs, .inl k, rfl, sT _ _ eD2, by omega, same_at (sG.trans sT) nD2, _, upd_same, ?_⟩
        rw [putK_new _ (hk.none (by rw [grp_keys]; exact knew)), ht, List.map_append]
        have hTD : T ≠ D2 := fun z => by rw [z, eD2] at nT; cases nT
        have hD2 : H D2 = none := by
          cases e : H D2 with
          | none => rfl
          | some o => rw [sp _ _ e] at nD2; cases nD2
        have s5 : ∀ o, Same (hid D2 G) (hid D2 (upd (upd G T (.tup g1.2.2)) D2 o)) := fun o b ob e => by
          obtain ⟨nb, e⟩ := hid_some e
          rw [hid_at nb, upd_ne nb]
          exact sT _ _ e
        have s6 : ∀ o, Same H (hid D2 (upd (upd G T (.tup g1.2.2)) D2 o)) := fun o b ob e => by
          have nb := ne_of_none e hD2
          rw [hid_at nb, upd_ne nb]
          exact sT _ _ (sG _ _ (sp _ _ e))
        refine KDs.snoc ⟨rfl, ?_⟩ (hk.up (s5 _))
        show Dx _ (.ref T) (.tuple ((pick1 c k rs).map encR))
        rw [← eg1]
        exact .tup (by rw [hid_at hTD, upd_ne hTD]; exact upd_same) (a4.up (s6 _))
      · obtain ⟨sG, kvs, eD2, hk⟩ := hG
        rw [List.length_map, List.take_of_length_le (Nat.le_refl _)] at hk
        have hD2 : H D2 = none := by
          cases e : H D2 with
          | none => rfl
          | some o => rw [sp _ _ e] at nD2; cases nD2
        refine q G D2 ys (sp.trans sG) hD2 ⟨kvs, eD2, hk.up (hid_same D2 G)⟩ ⟨ylt, fun k => ?_⟩
        rw [hperm.mem_iff]
        exact ⟨g.of k, fun ⟨r, hr, e⟩ => e ▸ g.all r hr⟩
end
end G1

set_option maxRecDepth 100000
set_option maxHeartbeats 4000000
namespace G1
open PySem PySem.Spec PyProof.Rows L2 KX
theorem none_same {H G : Hp} {b : Addr} (s : Same H G) (n : G b = none) : H b = none := by
  cases e : H b with
  | none => rfl
  | some o => rw [s _ _ e] at n; cases n
/-! ### group_rows, matching_rows, filter_rows -/
abbrev sFRw : Stmt := topS 62
abbrev sMRw : Stmt := topS 63
theorem scGR : FnScope ["rowset", "column"] ["rowset", "column"] (defScope sGR) := ⟨rfl, rfl, rfl, by decide +kernel, rfl, by decide +kernel, by decide +kernel⟩
theorem scFRw : FnScope ["rowset", "condition"] ["rowset", "condition"] (defScope sFRw) := ⟨rfl, rfl, rfl, by decide +kernel, rfl, by decide +kernel, by decide +kernel⟩
theorem scMRw : FnScope ["rowset", "condition", "row"] ["rowset", "condition"] (defScope sMRw) := ⟨rfl, rfl, rfl, by decide +kernel, rfl, by decide +kernel, by decide +kernel⟩
def hold (m : Nat) (d : PyData) (r : Rec) : Bool := holdsD r.vals m d
def spGR (RA CA : Addr) : Sp := fun vs H Q E => ∃ (v cv : V) (d cd : PyData), vs = [v, cv] ∧ Dx H v d ∧ SmR d ∧ Dx H cv cd ∧ (rowsetD d = false → ∀ H', Same H H' → E (.ref RA) none H') ∧ ∀ rs, d = .tuple (rs.map encR) → RsOk rs →
  (betw 0 (widthI rs - 1) cd = false → ∀ H' dd, Same H H' → H' dd = some (.xd [("value", cv)]) → E (.ref CA) (some dd) H') ∧ (∀ c, cd = .int c → 0 ≤ c → c < widthI rs → ∀ H' D ks, Same H H' → H D = none → GrD H' D rs c ks → KsOk c rs ks → Q (.ref D) H')
def spMRw : Sp := fun vs H Q _ => ∃ (v cv : V) (rs : List Rec) (cd : PyData) (w : Int) (m : Nat), vs = [v, cv] ∧ Dx H v (.tuple (rs.map encR)) ∧ rs.length ≤ 60 ∧ Dx H cv cd ∧ IsC w m cd ∧ m ≤ 3 ∧ (∀ r ∈ rs, w ≤ (r.vals.length : Int)) ∧ ∀ H' p, Same H H' → Dx H' (.ref p) (.tuple ((rs.filter (hold m cd)).map encR)) → Q (.ref p) H'
def spFRw (RA MA : Addr) : Sp := fun vs H Q E => ∃ (v cv : V) (d cd : PyData), vs = [v, cv] ∧ Dx H v d ∧ SmR d ∧ Dx H cv cd ∧ (rowsetD d = false → ∀ H', Same H H' → E (.ref RA) none H') ∧ ∀ rs, d = .tuple (rs.map encR) → RsOk rs →
  (∃ m, m ≤ 3 ∧ IsC (widthI rs) m cd ∧ ∀ H' p, Same H H' → Dx H' (.ref p) (.tuple ((rs.filter (hold m cd)).map encR)) → Q (.ref p) H') ∨ (BadC (widthI rs) cd ∧ ∀ H', Same H H' → E (.ref MA) none H')
section
variable {P : Program} {w : World} {K : PySem.W.Frag} {mg : Str → Option Value} {base : Heap}
theorem ok_gr {k : Nat} {RA CA f fC fW fG : Addr} {fd fdC fdW fdG : FuncData} (D : Df K mg "group_rows" sGR ["rowset", "column"] f fd)
    (DC : Df K mg "check_between" sCk ["value", "low", "high"] fC fdC) (DW : Df K mg "rowset_width" sRW ["rowset"] fW fdW) (DG : Df K mg "groups_of" sGO ["rowset", "column"] fG fdG)
    (GC : FnOk P w K mg base (L2.CX P w) k fC fdC ["value", "low", "high"] (spCk CA)) (GW : FnOk P w K mg base (L2.CX P w) k fW fdW ["rowset"] (spOf RA fun rs x _ => x = .int (widthI rs)))
    (GG : FnOk P w K mg base CX0 k fG fdG ["rowset", "column"] spGO) : FnOk P w K mg base (L2.CX P w) (k + 1) f fd ["rowset", "column"] (spGR RA CA) := by
  refine D.F.okX scGR (fun vs H Q E h => ?_) (fun cdv A outer s H vs Q E hr h => ?_)
  · obtain ⟨v, cv, d, cd, rfl, _⟩ := h
    rfl
  · obtain ⟨v, cv, d, cd, rfl, hd, sm, hcv, qr, q⟩ := h
    refine ⟨_, pss_cons (ps_expr (pe_callS GC hr (by rfl) DC.g DC.F.kp DC.b (fun σ => passAt (takes_of rfl rfl rfl rfl) σ) (pa_cons (pv 1) (pa_cons pe_int (pa_cons (pe_op op_sub (pe_callS GW hr (by rfl) DW.g DW.F.kp DW.b (fun σ => passAt (takes_of rfl rfl rfl rfl) σ) (pa_cons (pv 0) pa_nil)) pe_int) pa_nil)))))
      (pss_one (ps_ret (pe_call GG hr (by rfl) DG.g DG.F.kp DG.b .nil pass0 (pa_cons (pv 0) (pa_cons (pv 1) pa_nil))))), ?_⟩
    refine ⟨cv, rfl, v, rfl, v, d, rfl, hd, sm, qr, fun rs e ok G x sG hx => ?_⟩
    subst hx
    obtain ⟨qe, q2⟩ := q rs e ok
    obtain ⟨w1, w4, hw⟩ := width_ok ok
    refine ⟨widthI rs, 1, rfl, rfl, cv, cd, 0, widthI rs - 1, rfl, hcv.up sG, ?_⟩
    subst e
    cases eo : betw 0 (widthI rs - 1) cd with
    | false =>
      rw [if_neg (by simp)]
      exact fun G2 dd s2 e2 => qe eo G2 dd (sG.trans s2) e2
    | true =>
      rw [if_pos rfl]
      obtain ⟨c, rfl, c0, c1⟩ := betw_is eo
      cases hcv
      exact ⟨v, rfl, .int c, rfl, v, rs, c, rfl, hd.up sG, c0, fun r hr => by have := (hw r hr).1; omega, ok.le, fun G2 D2 ks s2 n2 g2 k2 => q2 c rfl c0 (by omega) G2 D2 ks (sG.trans s2) (none_same sG n2) g2 k2⟩
theorem ok_mrw {k : Nat} {f fH : Addr} {fd fdH : FuncData} (B : Bl mg) (cv : ∃ t, mg "VALUES" = some (.int 2 t)) (D : Df K mg "matching_rows" sMRw ["rowset", "condition"] f fd) (DH : Df K mg "holds" sHo ["values", "condition"] fH fdH) (GH : FnOk P w K mg base CX0 k fH fdH ["values", "condition"] (spHo 3)) :
    FnOk P w K mg base CX0 (k + 1) f fd ["rowset", "condition"] spMRw := by
  obtain ⟨tv, mv⟩ := cv
  refine D.F.ok scMRw (fun vs H Q E h => ?_) (fun cdv A outer s H vs Q E hr h => ?_)
  · obtain ⟨v, cv, rs, cd, wi, m, rfl, _⟩ := h
    rfl
  · obtain ⟨v, cv, rs, cd, wi, m, rfl, hd, l60, hcv, hc, hm, hw, q⟩ := h
    have nd := scMRw.nd
    refine ⟨_, pss_one (ps_ret (pe_callTy call_tuple_of (by rfl) B.tuple (by decide +kernel) (pa_cons (pe_lc (own := [("row", 2)]) (g := gName 2) rfl nd (pi_tup (pv 0)) (blkOk_by (N := ["rowset", "condition", "row"]) (sc := defScope sMRw) (by decide +kernel)) (fun _ _ _ _ _ => pg_name (i := 2) nd rfl (Or.inl rfl))
      (fun _ _ _ _ _ => pts_one (pt_val (pe_call GH hr (by rfl) DH.g DH.F.kp DH.b .nil pass0 (pa_cons (pe_ix (r := rIxT K) ix_tup (pv 2) (pe_glob (v := .int 2) (by rfl) mv ⟨_, rfl⟩) (fun _ _ => rfl)) (pa_cons (pv 1) pa_nil))))) (fun _ _ _ _ _ => pv 2)) pa_nil))), ?_⟩
    obtain ⟨a, xs, rfl, ea, hx⟩ := dx_tup' hd
    refine ⟨.ref a, rfl, a, rfl, ⟨_, .inl (.inl ea)⟩, fun L nL => ?_⟩
    refine lc_filterS (hold m cd) nL ea hx (by omega) (fun r x G hr sG hdx Pt Pf hP => ?_) (fun G ys sG eL hy => ?_)
    · obtain ⟨b, z, rfl, eb, ez⟩ := row_valsAt hdx
      refine ⟨rfl, .ref b, rfl, b, _, 2, .ref z, rfl, rfl, .inl (.inl eb), rfl, cv, rfl, .ref z, cv, cd, r.vals, wi, m, rfl, .tup ez (dxs_ints _), hcv.up sG, hc, hm, hw r hr, fun G2 s2 => ?_⟩
      have z2 := hP G2 s2
      refine ⟨_, rfl, ?_⟩
      show if hold m cd r = true then _ else _
      by_cases hh : hold m cd r = true
      · rw [if_pos hh] at z2 ⊢
        exact ⟨_, rfl, z2⟩
      · rw [if_neg hh] at z2 ⊢
        exact z2
    · refine ⟨L, ys, rfl, .inl ⟨.inl (.inl eL), fun p np => ?_⟩⟩
      have sp := same_new (o := .tup ys) np
      exact q _ p (sG.trans sp) (.tup upd_same ((hy.up (hid_same L G)).up sp))
theorem ok_frw {k : Nat} {RA MA f fC fW fM : Addr} {fd fdC fdW fdM : FuncData} (D : Df K mg "filter_rows" sFRw ["rowset", "condition"] f fd)
    (DC : Df K mg "check_condition" sCC ["width", "condition"] fC fdC) (DW : Df K mg "rowset_width" sRW ["rowset"] fW fdW) (DM : Df K mg "matching_rows" sMRw ["rowset", "condition"] fM fdM)
    (GC : FnOk P w K mg base (L2.CX P w) k fC fdC ["width", "condition"] (spCCd MA)) (GW : FnOk P w K mg base (L2.CX P w) k fW fdW ["rowset"] (spOf RA fun rs x _ => x = .int (widthI rs)))
    (GM : FnOk P w K mg base CX0 k fM fdM ["rowset", "condition"] spMRw) : FnOk P w K mg base (L2.CX P w) (k + 1) f fd ["rowset", "condition"] (spFRw RA MA) := by
  refine D.F.okX scFRw (fun vs H Q E h => ?_) (fun cdv A outer s H vs Q E hr h => ?_)
  · obtain ⟨v, cv, d, cd, rfl, _⟩ := h
    rfl
  · obtain ⟨v, cv, d, cd, rfl, hd, sm, hcv, qr, q⟩ := h
    refine ⟨_, pss_cons (ps_expr (pe_callS GC hr (by rfl) DC.g DC.F.kp DC.b (fun σ => passAt (takes_of rfl rfl rfl rfl) σ) (pa_cons (pe_callS GW hr (by rfl) DW.g DW.F.kp DW.b (fun σ => passAt (takes_of rfl rfl rfl rfl) σ) (pa_cons (pv 0) pa_nil)) (pa_cons (pv 1) pa_nil))))
      (pss_one (ps_ret (pe_call GM hr (by rfl) DM.g DM.F.kp DM.b .nil pass0 (pa_cons (pv 0) (pa_cons (pv 1) pa_nil))))), ?_⟩
    refine ⟨v, rfl, v, d, rfl, hd, sm, qr, fun rs e ok G x sG hx => ?_⟩
    subst hx
    obtain ⟨w1, w4, hw⟩ := width_ok ok
    refine ⟨cv, rfl, cv, cd, widthI rs, rfl, w1, w4, hcv.up sG, ?_⟩
    subst e
    rcases q rs rfl ok with ⟨m, hm, hc, q2⟩ | ⟨hb, qe⟩
    · exact .inl ⟨isc_le hc hm, fun G2 s2 => ⟨v, rfl, cv, rfl, v, cv, rs, cd, widthI rs, m, rfl, hd.up (sG.trans s2), ok.le, hcv.up (sG.trans s2), hc, hm, fun r hr => (hw r hr).1, fun G3 p s3 h3 => q2 G3 p ((sG.trans s2).trans s3) h3⟩⟩
    · exact .inr ⟨hb, fun G2 s2 => qe G2 (sG.trans s2)⟩
end
end G1

set_option maxRecDepth 100000
set_option maxHeartbeats 4000000
namespace G1
open PySem PySem.Spec PyProof.Rows L2 KX
def capR (os : List Ord) (c : Int) (k n : Nat) (rs : List Rec) : List Rec := ((srt os rs).foldl (stepF c k) []).take n
/-- the names that are selected -/
def capN (os : List Ord) (c : Int) (k n : Nat) (rs : List Rec) : List Str := srtN ((capR os c k n rs).map fun r : Rec => r.nm)
theorem capR_mem {os : List Ord} {c : Int} {k n : Nat} {rs : List Rec} {x : Rec} (h : x ∈ capR os c k n rs) : x ∈ rs := by
  rcases foldF_mem (List.mem_of_mem_take h) with h | h
  · cases h
  · exact List.mem_mergeSort.mp h
theorem capR_len {os : List Ord} {c : Int} {k n : Nat} {rs : List Rec} : (capR os c k n rs).length ≤ rs.length := by
  unfold capR
  rw [List.length_take]
  have := foldF_len (c := c) (k := k) (srt os rs) []
  rw [show (srt os rs).length = rs.length from List.length_mergeSort _] at this
  simp at this
  omega
theorem cap_big {os : List Ord} {c : Int} {k n : Nat} (h : n ≤ k) (rs : List Rec) : capN os c k n rs = topN os n rs := by
  unfold capN topN capR
  rw [foldF_take (by simp), foldL_big h (by simp)]
  rfl
def spKT (P0 : Addr) : Sp := fun vs H Q _ => ∃ (v ov : V) (rs : List Rec) (os : List Ord) (w c : Int) (n k : Nat), vs = [v, ov, .int (n : Int), .int c, .int (k : Int)] ∧ LamX.Tabs (TS P0) H ∧ Dx H v (.tuple (rs.map encR)) ∧ Dx H ov (.tuple (os.map encO)) ∧ RO rs os w ∧ 0 ≤ c ∧ c < w ∧
  ∀ (H' : Hp) (p : Addr) (ys : List V), LamX.ExtN H H' → LamX.Tabs (TS P0) H' → H' p = some (.lst ys) → Dxs H' ys ((capR os c k n rs).map encR) → Q (.ref p) H'
def spKN (P0 : Addr) : Sp := fun vs H Q _ => ∃ (v ov : V) (rs : List Rec) (os : List Ord) (c : Int) (n k : Nat), vs = [v, ov, .int (n : Int), .int c, .int (k : Int)] ∧ LamX.Tabs (TS P0) H ∧ Dx H v (.tuple (rs.map encR)) ∧ Dx H ov (.tuple (os.map encO)) ∧ HG rs os ∧ 0 ≤ c ∧ c < widthI rs ∧ 1 ≤ n ∧ n ≤ 9 ∧ 1 ≤ k ∧ k ≤ 9 ∧
  ∀ (H' : Hp) (p : Addr), LamX.ExtN H H' → LamX.Tabs (TS P0) H' → Dx H' (.ref p) (.tuple ((capN os c k n rs).map .str)) → Q (.ref p) H'
section
variable {P : Program} {w : World} {K : PySem.W.Frag} {mg : Str → Option Value} {base : Heap}
theorem ok_kt {k : Nat} {f fS fK P0 : Addr} {fd fdS fdK : FuncData} (D : Df K mg "capped_top_rows" sKT ["rowset", "order", "count", "column", "cap"] f fd) (DS : Df K mg "sorted_rows" sSR ["rowset", "order"] fS fdS) (DK : Df K mg "capped_rows" sKR ["rows", "column", "cap"] fK fdK)
    (GS : FnOk P w K mg base CX0 k fS fdS ["rowset", "order"] (spSR P0)) (GK : FnOk P w K mg base CX0 k fK fdK ["rows", "column", "cap"] spKR) : FnOk P w K mg base CX0 (k + 1) f fd ["rowset", "order", "count", "column", "cap"] (spKT P0) := by
  refine D.F.ok scKT (fun vs H Q E h => ?_) (fun cdv A outer s H vs Q E hr h => ?_)
  · obtain ⟨v, ov, rs, os, wi, c, n, kk, rfl, _⟩ := h
    rfl
  · obtain ⟨v, ov, rs, os, wi, c, n, kk, rfl, ht, hd, ho, ro, c0, c1, q⟩ := h
    refine ⟨_, pss_one (ps_ret (pe_slice sl_list (pe_call GK hr (by rfl) DK.g DK.F.kp DK.b .nil pass0 (pa_cons (pe_call GS hr (by rfl) DS.g DS.F.kp DS.b .nil pass0 (pa_cons (pv 0) (pa_cons (pv 1) pa_nil))) (pa_cons (pv 3) (pa_cons (pv 4) pa_nil)))) po_none (po_some (pv 2)))), ?_⟩
    refine ⟨v, rfl, ov, rfl, v, ov, rs, os, wi, rfl, ht, hd, ho, ro.ok, ro.hw, fun G p ys eG tG ep hy => ?_⟩
    have l60 := ro.le
    have ls : (srt os rs).length = rs.length := List.length_mergeSort _
    refine ⟨.int c, rfl, .int (kk : Int), rfl, p, ys, srt os rs, c, kk, rfl, ep, hy, by omega, c0, fun r hr => ?_, fun G1 p1 ys1 s1 ep1 hy1 => ?_⟩
    · obtain ⟨a, b, d⟩ := ro.hw r (List.mem_mergeSort.mp hr)
      exact ⟨by omega, b, d⟩
    refine ⟨.int (n : Int), rfl, (n : Int), rfl, p1, ys1, rfl, .inl (.inl ep1), fun p2 n2 => ?_⟩
    rw [cutV_to]
    refine q _ p2 _ ((eG.trans (ext_same s1)).trans (ext_same (same_new n2))) (tabs_same (same_new n2) (tabs_same s1 tG)) upd_same ?_
    unfold capR
    rw [List.map_take]
    exact (Dxs.takeN hy1 n).up (same_new n2)
theorem ok_kn {k : Nat} {RA OA CA P0 f fO fW fC fB fS fT : Addr} {fd fdO fdW fdC fdB fdS fdT : FuncData} {params : Arguments} {kws : List (Str × V)} (F : FunD K "capped_top_names" "capped_top_names" (defArgs sKN) (defBody sKN) (defScope sKN) [] kws f fd)
    (DO : Df K mg "check_order" sCO ["width", "order"] fO fdO) (DW : Df K mg "rowset_width" sRW ["rowset"] fW fdW) (DC : Df K mg "check_count" sCc ["count"] fC fdC) (DB : Df K mg "check_between" sCk ["value", "low", "high"] fB fdB) (DS : Df K mg "sorted_names_of" sSNO ["rows"] fS fdS) (DT : Df K mg "capped_top_rows" sKT ["rowset", "order", "count", "column", "cap"] fT fdT)
    (GO : FnOk P w K mg base (L2.CX P w) k fO fdO ["width", "order"] (spCO OA)) (GW : FnOk P w K mg base (L2.CX P w) k fW fdW ["rowset"] (spOf RA fun rs x _ => x = .int (widthI rs))) (GC : FnOk P w K mg base (L2.CX P w) k fC fdC ["count"] (spCc CA)) (GB : FnOk P w K mg base (L2.CX P w) k fB fdB ["value", "low", "high"] (spCk CA))
    (GS : FnOk P w K mg base CX0 k fS fdS ["rows"] spSNO) (GT : FnOk P w K mg base CX0 k fT fdT ["rowset", "order", "count", "column", "cap"] (spKT P0)) : FnOk P w K mg base CX0 (k + 1) f fd ["rowset", "order", "count", "column", "cap"] (spKN P0) := by
  refine F.ok scKN (fun vs H Q E h => ?_) (fun cdv A outer s H vs Q E hr h => ?_)
  · obtain ⟨v, ov, rs, os, c, n, kk, rfl, _⟩ := h
    rfl
  · obtain ⟨v, ov, rs, os, c, n, kk, rfl, ht, hd, ho, g, c0, c1, n1, n9, k1, k9, q⟩ := h
    have nd := scKN.nd
    refine ⟨_, pss_cons (ps_set (i := 5) nd rfl (.inl rfl) (pe_call GW hr (by rfl) DW.g DW.F.kp DW.b .nil passL (pa_cons (pv 0) pa_nil)))
      (pss_cons (ps_expr (pe_call GO hr (by rfl) DO.g DO.F.kp DO.b .nil passL (pa_cons (pv 5) (pa_cons (pv 1) pa_nil))))
      (pss_cons (ps_expr (pe_call GC hr (by rfl) DC.g DC.F.kp DC.b .nil passL (pa_cons (pv 2) pa_nil)))
      (pss_cons (ps_expr (pe_call GB hr (by rfl) DB.g DB.F.kp DB.b .nil passL (pa_cons (pv 3) (pa_cons pe_int (pa_cons (pe_op op_sub (pv 5) pe_int) pa_nil)))))
      (pss_cons (ps_expr (pe_call GC hr (by rfl) DC.g DC.F.kp DC.b .nil passL (pa_cons (pv 4) pa_nil)))
      (pss_one (ps_ret (pe_call GS hr (by rfl) DS.g DS.F.kp DS.b .nil pass0 (pa_cons (pe_call GT hr (by rfl) DT.g DT.F.kp DT.b .nil pass0 (pa_cons (pv 0) (pa_cons (pv 1) (pa_cons (pv 2) (pa_cons (pv 3) (pa_cons (pv 4) pa_nil)))))) pa_nil)))))))), ?_⟩
    have bt : ∀ {lo hi i : Int}, lo ≤ i → i ≤ hi → betw lo hi (.int i) = true := fun {lo hi i} h1 h2 => by
      show (decide (lo ≤ i) && decide (i ≤ hi)) = true
      rw [decide_eq_true h1, decide_eq_true h2]
      rfl
    obtain ⟨w1, w4, hw⟩ := width_ok g.ok
    refine ⟨v, rfl, v, _, rfl, hd, g.sm, fun h => absurd h (by rw [rsok_true g.ok]; simp), fun rs' e ok G1 x s1 hx => ?_⟩
    have e := recs_inj e
    subst e
    subst hx
    refine ⟨.int (widthI rs), rfl, ov, rfl, ov, _, widthI rs, rfl, w1, w4, ho.up s1, ord_okO, ?_⟩
    rw [ord_true g.oo, if_pos rfl]
    intro G2 s2
    have s02 := s1.trans s2
    refine ⟨.int (n : Int), rfl, .int (n : Int), .int (n : Int), rfl, .int _, ?_⟩
    rw [bt (by omega) (by omega), if_pos rfl]
    refine ⟨.int c, rfl, .int (widthI rs), rfl, _, _, rfl, rfl, .int c, .int c, 0, widthI rs - 1, rfl, .int _, ?_⟩
    rw [bt c0 (by omega), if_pos rfl]
    refine ⟨.int (kk : Int), rfl, .int (kk : Int), .int (kk : Int), rfl, .int _, ?_⟩
    rw [bt (by omega) (by omega), if_pos rfl]
    refine ⟨v, rfl, ov, rfl, .int (n : Int), rfl, .int c, rfl, .int (kk : Int), rfl, v, ov, rs, os, widthI rs, c, n, kk, rfl, tabs_same s02 ht, hd.up s02, ho.up s02, g.ro, c0, c1, fun G3 p ys e3 t3 ep hy => ?_⟩
    have l60 := g.ok.le
    have lc := capR_len (os := os) (c := c) (k := kk) (n := n) (rs := rs)
    exact ⟨p, ys, capR os c kk n rs, rfl, ep, hy, by omega, fun G4 p4 s4 h4 => q G4 p4 (((ext_same s02).trans e3).trans (ext_same s4)) (tabs_same s4 t3) h4⟩
end
end G1

set_option maxRecDepth 100000
set_option maxHeartbeats 4000000
namespace G1
open PySem PySem.Spec PyProof.Rows L2 KX
/-! ### what is selected from a part -/
theorem cnt_count (c : Int) (A : List Rec) (v : Int) : cnt c A v = (A.map (cval c)).count v := by
  unfold cnt
  rw [List.count, List.countP_map, List.countP_eq_length_filter]
  rfl
theorem len_count : ∀ {xs ys : List Int}, (∀ v, xs.count v ≤ ys.count v) → xs.length ≤ ys.length
  | [], _, _ => Nat.zero_le _
  | x :: xs, ys, h => by
    have hx : 0 < ys.count x := Nat.lt_of_lt_of_le (by rw [List.count_cons_self]; omega) (h x)
    have m := List.count_pos_iff.mp hx
    have ih := len_count (xs := xs) (ys := ys.erase x) fun v => by
      have hv := h v
      by_cases e : v = x
      · subst e
        rw [List.count_erase_self]
        rw [List.count_cons_self] at hv
        omega
      · rw [List.count_erase_of_ne e]
        rw [List.count_cons_of_ne (fun z => e z.symm)] at hv
        exact hv
    rw [List.length_erase_of_mem m] at ih
    have := List.length_pos_of_mem m
    rw [List.length_cons]
    omega
theorem len_cnt {c : Int} {A B : List Rec} (h : ∀ v, cnt c A v ≤ cnt c B v) : A.length ≤ B.length := by
  have := len_count (xs := A.map (cval c)) (ys := B.map (cval c)) fun v => by rw [← cnt_count, ← cnt_count]; exact h v
  simpa using this
theorem stepL_add {c : Int} {k n : Nat} {acc : List Rec} {r : Rec} (h : acc.length < n) (h2 : cnt c acc (cval c r) < k) : stepL c k n acc r = acc ++ [r] := if_pos ⟨h, h2⟩
theorem stepL_not {c : Int} {k n : Nat} {acc : List Rec} {r : Rec} (h : ¬(acc.length < n ∧ cnt c acc (cval c r) < k)) : stepL c k n acc r = acc := if_neg h
theorem foldL_mono {c : Int} {k n : Nat} : ∀ (L acc : List Rec), ∀ x ∈ acc, x ∈ L.foldl (stepL c k n) acc
  | [], _, _, h => h
  | r :: L, acc, x, h => by
    show x ∈ L.foldl (stepL c k n) (stepL c k n acc r)
    refine foldL_mono L _ x ?_
    unfold stepL
    split
    · exact List.mem_append_left _ h
    · exact h
theorem her_fold {c : Int} {k n : Nat} {p : Rec → Bool} : ∀ {L acc accF : List Rec}, (acc.length < n → ∀ v, cnt c accF v ≤ cnt c acc v) → ∀ x ∈ L.foldl (stepL c k n) acc, p x = true → x ∈ acc ∨ x ∈ (L.filter p).foldl (stepL c k n) accF
  | [], _, _, _, _, h, _ => .inl h
  | r :: L, acc, accF, inv, x, h, hp => by
    have h : x ∈ L.foldl (stepL c k n) (stepL c k n acc r) := h
    by_cases ha : acc.length < n ∧ cnt c acc (cval c r) < k
    · rw [stepL_add ha.1 ha.2] at h
      have iv := inv ha.1
      have lF := len_cnt iv
      have cF := iv (cval c r)
      cases pr : p r with
      | true =>
        rw [List.filter_cons, if_pos pr]
        show x ∈ acc ∨ x ∈ (L.filter p).foldl (stepL c k n) (stepL c k n accF r)
        rw [stepL_add (by omega) (by omega)]
        rcases her_fold (accF := accF ++ [r]) (fun _ v => by rw [cnt_add, cnt_add]; have := iv v; omega) x h hp with z | z
        · rcases List.mem_append.mp z with z | z
          · exact .inl z
          · exact .inr (foldL_mono _ _ _ (List.mem_append_right _ z))
        · exact .inr z
      | false =>
        rw [List.filter_cons, if_neg (by rw [pr]; simp)]
        rcases her_fold (accF := accF) (fun _ v => by rw [cnt_add]; have := iv v; omega) x h hp with z | z
        · rcases List.mem_append.mp z with z | z
          · exact .inl z
          · rw [List.mem_singleton.mp z, pr] at hp
            cases hp
        · exact .inr z
    · rw [stepL_not ha] at h
      cases pr : p r with
      | true =>
        rw [List.filter_cons, if_pos pr]
        show x ∈ acc ∨ x ∈ (L.filter p).foldl (stepL c k n) (stepL c k n accF r)
        refine her_fold (fun hn v => ?_) x h hp
        have iv := inv hn v
        unfold stepL
        split
        · rename_i hF
          rw [cnt_add]
          by_cases e : v = cval c r
          · rw [if_pos e]
            subst e
            omega
          · rw [if_neg e]
            exact iv
        · exact iv
      | false =>
        rw [List.filter_cons, if_neg (by rw [pr]; simp)]
        exact her_fold inv x h hp
theorem out_fold {c : Int} {k n : Nat} {p : Rec → Bool} : ∀ {L acc : List Rec}, (∀ x ∈ L.foldl (stepL c k n) acc, p x = true) → (L.filter p).foldl (stepL c k n) acc = L.foldl (stepL c k n) acc
  | [], _, _ => rfl
  | r :: L, acc, h => by
    have h : ∀ x ∈ L.foldl (stepL c k n) (stepL c k n acc r), p x = true := h
    show _ = L.foldl (stepL c k n) (stepL c k n acc r)
    cases pr : p r with
    | true =>
      rw [List.filter_cons, if_pos pr]
      exact out_fold h
    | false =>
      have e : stepL c k n acc r = acc := stepL_not fun ha => by
        have := h r (foldL_mono _ _ _ (by rw [stepL_add ha.1 ha.2]; simp))
        rw [pr] at this
        cases this
      rw [List.filter_cons, if_neg (by rw [pr]; simp), e]
      rw [e] at h
      exact out_fold h
theorem sub_filter {ss rs : List Rec} (s : ss.Sublist rs) (nd : (rs.map (fun r : Rec => r.nm)).Nodup) : rs.filter (fun r => decide (r.nm ∈ ss.map fun r : Rec => r.nm)) = ss := by
  induction s with
  | slnil => rfl
  | @cons l1 l2 a s ih =>
    rw [List.map_cons, List.nodup_cons] at nd
    have : a.nm ∉ l1.map fun r : Rec => r.nm := fun h => nd.1 ((s.map _).subset h)
    rw [List.filter_cons, if_neg (by simpa using this)]
    exact ih nd.2
  | @cons_cons l1 l2 a s ih =>
    rw [List.map_cons, List.nodup_cons] at nd
    rw [List.filter_cons, if_pos (by simp)]
    congr 1
    refine Eq.trans (List.filter_congr fun b hb => ?_) (ih nd.2)
    have : b.nm ≠ a.nm := fun z => nd.1 (z ▸ List.mem_map.mpr ⟨b, hb, rfl⟩)
    exact decide_eq_decide.mpr (by rw [List.map_cons, List.mem_cons]; exact ⟨fun z => z.resolve_left this, .inr⟩)
def inN (ss : List Rec) (r : Rec) : Bool := decide (r.nm ∈ ss.map fun r : Rec => r.nm)
theorem srt_part {os : List Ord} {ss rs : List Rec} (s : ss.Sublist rs) (nd : (rs.map (fun r : Rec => r.nm)).Nodup) : (srt os rs).filter (inN ss) = srt os ss := by
  have nds := nd.sublist (s.map fun r : Rec => r.nm)
  have p : ((srt os rs).filter (inN ss)).Perm ss := by
    have h := sub_filter s nd
    have h2 : ((srt os rs).filter (inN ss)).Perm (rs.filter (inN ss)) := (List.mergeSort_perm _ _).filter _
    rwa [show rs.filter (inN ss) = ss from h] at h2
  refine List.Perm.eq_of_pairwise (le := fun a b => lawR os a b = true) (fun a b _ _ h1 h2 => ?_) ((srt_pw nd).sublist List.filter_sublist) (srt_pw nds) (p.trans (List.mergeSort_perm _ _).symm)
  have := law_asym a b h1
  rw [h2] at this
  cases this
/-- what is selected: at most n rows, at most k of one value -/
def gR (os : List Ord) (c : Int) (k n : Nat) (rs : List Rec) : List Rec := (srt os rs).foldl (stepL c k n) []
def gN (os : List Ord) (c : Int) (k n : Nat) (rs : List Rec) : List Str := srtN ((gR os c k n rs).map fun r : Rec => r.nm)
theorem gN_cap (os : List Ord) (c : Int) (k n : Nat) (rs : List Rec) : capN os c k n rs = gN os c k n rs := by
  unfold capN gN gR capR
  rw [foldF_take (by simp)]
theorem gN_top (os : List Ord) (c : Int) (n : Nat) (rs : List Rec) : topN os n rs = gN os c n n rs := by
  rw [← gN_cap, cap_big (Nat.le_refl n)]
theorem srtN_iff {ns : List Str} {x : Str} : x ∈ srtN ns ↔ x ∈ ns := List.mem_mergeSort
theorem gR_mem {os : List Ord} {c : Int} {k n : Nat} {rs : List Rec} {x : Rec} (h : x ∈ gR os c k n rs) : x ∈ rs := by
  refine capR_mem (os := os) (c := c) (k := k) (n := n) ?_
  unfold capR
  rw [foldF_take (by simp)]
  exact h
/-- what is selected and is in a part is selected from the part -/
theorem gN_her {os : List Ord} {c : Int} {k n : Nat} {ss rs : List Rec} (s : ss.Sublist rs) (nd : (rs.map (fun r : Rec => r.nm)).Nodup) {x : Str} (h : x ∈ gN os c k n rs) (hs : x ∈ ss.map fun r : Rec => r.nm) : x ∈ gN os c k n ss := by
  unfold gN at h ⊢
  rw [srtN_iff] at h ⊢
  obtain ⟨r, hr, rfl⟩ := List.mem_map.mp h
  refine List.mem_map.mpr ⟨r, ?_, rfl⟩
  have := her_fold (p := inN ss) (accF := []) (fun _ v => Nat.le_refl _) r hr (decide_eq_true hs)
  rw [srt_part s nd] at this
  rcases this with z | z
  · cases z
  · exact z
/-- a part that has all that is selected has the same selection -/
theorem gN_out {os : List Ord} {c : Int} {k n : Nat} {ss rs : List Rec} (s : ss.Sublist rs) (nd : (rs.map (fun r : Rec => r.nm)).Nodup) (h : ∀ x ∈ gN os c k n rs, x ∈ ss.map fun r : Rec => r.nm) : gN os c k n ss = gN os c k n rs := by
  have := out_fold (c := c) (k := k) (n := n) (p := inN ss) (L := srt os rs) (acc := []) fun x hx => decide_eq_true (h _ (srtN_iff.mpr (List.mem_map.mpr ⟨x, hx, rfl⟩)))
  rw [srt_part s nd] at this
  unfold gN gR
  rw [this]
theorem fold_same {c : Int} {k n : Nat} {v : Int} : ∀ {L acc : List Rec}, (∀ r ∈ L, cval c r = v) → (∀ r ∈ acc, cval c r = v) → L.foldl (stepL c k n) acc = L.foldl (stepL c (min n k) (min n k)) acc
  | [], _, _, _ => rfl
  | r :: L, acc, h, ha => by
    have hr := h r (List.mem_cons_self ..)
    have e : cnt c acc (cval c r) = acc.length := by
      unfold cnt
      rw [List.filter_eq_self.mpr fun a m => decide_eq_true (by rw [ha a m, hr])]
    have e2 : stepL c k n acc r = stepL c (min n k) (min n k) acc r := by
      unfold stepL
      rw [e]
      by_cases z : acc.length < n ∧ acc.length < k
      · rw [if_pos z, if_pos (by omega)]
      · rw [if_neg z, if_neg (by omega)]
    show L.foldl (stepL c k n) (stepL c k n acc r) = L.foldl (stepL c (min n k) (min n k)) (stepL c (min n k) (min n k) acc r)
    rw [← e2]
    refine fold_same (fun a m => h a (List.mem_cons_of_mem _ m)) fun a m => ?_
    unfold stepL at m
    split at m
    · rcases List.mem_append.mp m with m | m
      · exact ha a m
      · rw [List.mem_singleton.mp m]
        exact hr
    · exact ha a m
/-- rows of one value -/
theorem cap_same {os : List Ord} {c : Int} {k n : Nat} {v : Int} {rs : List Rec} (h : ∀ r ∈ rs, cval c r = v) : capN os c k n rs = topN os (min n k) rs := by
  rw [gN_cap, gN_top os c]
  unfold gN gR
  rw [fold_same (L := srt os rs) (v := v) (fun r m => h r (List.mem_mergeSort.mp m)) (fun r m => by cases m)]
end G1

set_option maxRecDepth 100000
set_option maxHeartbeats 4000000
namespace G1
open PySem PySem.Spec PyProof.Rows L2 KX
abbrev kwN : List (Str × V) := [("count", .int 1), ("column", .int 0), ("cap", .int 1)]
abbrev psN : List Str := ["rowset", "order", "count", "column", "cap"]
abbrev FKN (K : PySem.W.Frag) (f : Addr) (fd : FuncData) : Prop := FunD K "capped_top_names" "capped_top_names" (defArgs sKN) (defBody sKN) (defScope sKN) [] kwN f fd
theorem len3 {α : Type} {l : List α} (h : l.length = 3) : ∃ a b c, l = [a, b, c] := by
  match l, h with
  | [a, b, c], _ => exact ⟨a, b, c, rfl⟩
theorem len1 {α : Type} {l : List α} (h : l.length = 1) : ∃ a, l = [a] := by
  match l, h with
  | [a], _ => exact ⟨a, rfl⟩
theorem kn_0 {K : PySem.W.Frag} {f : Addr} {fd : FuncData} (F : FKN K f fd) : ∃ ds, Vals [.int 1, .int 0, .int 1] ds ∧ Binds K fd psN ds := by
  refine F.binds0 2 (by simp) rfl fun D doc pm an cdv ct us ks l1 l2 => ?_
  obtain ⟨u1, u2, rfl⟩ := len2 l1
  obtain ⟨k1, k2, k3, rfl⟩ := len3 l2
  exact ⟨_, _, _, _, _, _, rfl, rfl, _, _, _, _, _, _, rfl, rfl, _, _, _, _, _, _, rfl, rfl, rfl⟩
theorem kn_ccc {K : PySem.W.Frag} {f : Addr} {fd : FuncData} (F : FKN K f fd) : ∃ g, KBn K fd psN 2 ["count", "column", "cap"] g (fun vs zs => vs ++ zs) := by
  obtain ⟨mv, h⟩ := F.kbinds0 (ps := psN) 2 ["count", "column", "cap"] [] (fun us _ ws => us ++ ws) (by simp) (by simp) (fun r1 _ r3 => r1.append r3) fun D doc pm an cdv ct us mv ws l1 l2 l3 => by
    obtain ⟨u1, u2, rfl⟩ := len2 l1
    obtain rfl := List.length_eq_zero_iff.mp l2
    obtain ⟨k1, k2, k3, rfl⟩ := len3 l3
    exact rfl
  exact ⟨_, h⟩
theorem tnt_call {RA OA CA P0 : Addr} {H : Hp} {v ov : V} {rs : List Rec} {os : List Ord} {n : Nat} {Q : VK} {E : XK} (ht : LamX.Tabs (TS P0) H) (hd : Dx H v (.tuple (rs.map encR))) (ho : Dx H ov (.tuple (os.map encO))) (g : HG rs os) (n1 : 1 ≤ n) (n9 : n ≤ 9)
    (q : ∀ (H' : Hp) (p : Addr), LamX.ExtN H H' → LamX.Tabs (TS P0) H' → Dx H' (.ref p) (.tuple ((topN os n rs).map .str)) → Q (.ref p) H') : spTN RA OA CA P0 [v, ov, .int (n : Int)] H Q E := by
  refine ⟨v, ov, .int (n : Int), _, _, .int (n : Int), rfl, ht, hd, g.sm, ho, ord_okO, .int _, fun h => absurd h (by rw [rsok_true g.ok]; simp), fun rs' e ok => ?_⟩
  have e := recs_inj e
  subst e
  refine ⟨fun h => absurd h (by rw [ord_true g.oo]; simp), fun os' e2 oo => ?_⟩
  have e2 := ords_inj (PyData.tuple.inj e2)
  subst e2
  refine ⟨fun h => absurd h ?_, fun m em m1 m9 H' p eH tH hp => ?_⟩
  · have : betw 1 9 (.int (n : Int)) = (decide ((1 : Int) ≤ n) && decide ((n : Int) ≤ 9)) := rfl
    rw [this, decide_eq_true (by omega), decide_eq_true (by omega)]
    simp
  · have em : (n : Int) = (m : Int) := PyData.int.inj em
    have : n = m := by omega
    subst this
    exact q H' p eH tH hp
/-! ### _law_selection -/
abbrev sSel : Stmt := topS 72
abbrev NSel : List Str := ["kind", "rows", "arguments", "order", "number", "col", "limit"]
theorem scSel : FnScope NSel ["kind", "rows", "arguments"] (defScope sSel) := ⟨rfl, rfl, rfl, by decide +kernel, rfl, by decide +kernel, by decide +kernel⟩
/-- what is selected: 0 is top_names, others capped_top_names -/
def selN (kd : Int) (os : List Ord) (c : Int) (k n : Nat) (rs : List Rec) : List Str := if kd = 0 then topN os n rs else capN os c k n rs
theorem selN_gN (kd : Int) (os : List Ord) (c : Int) (k n : Nat) : ∃ j, ∀ rs, selN kd os c k n rs = gN os c j n rs := by
  by_cases h : kd = 0
  · exact ⟨n, fun rs => by rw [selN, if_pos h, gN_top os c]⟩
  · exact ⟨k, fun rs => by rw [selN, if_neg h, gN_cap]⟩
structure Ag (os : List Ord) (c : Int) (k n : Nat) (rs : List Rec) : Prop where
  g : HG rs os
  c0 : 0 ≤ c
  c1 : c < widthI rs
  n1 : 1 ≤ n
  n9 : n ≤ 9
  k1 : 1 ≤ k
  k9 : k ≤ 9
def spSel (P0 : Addr) : Sp := fun vs H Q _ => ∃ (kd : Int) (rv ov : V) (t : Addr) (rs : List Rec) (os : List Ord) (c : Int) (n k : Nat), vs = [.int kd, rv, .ref t] ∧ LamX.Tabs (TS P0) H ∧ Dx H rv (.tuple (rs.map encR)) ∧ H t = some (.tup [ov, .int (n : Int), .int c, .int (k : Int)]) ∧ Dx H ov (.tuple (os.map encO)) ∧ Ag os c k n rs ∧
  ∀ (H' : Hp) (p : Addr), LamX.ExtN H H' → LamX.Tabs (TS P0) H' → Dx H' (.ref p) (.tuple ((selN kd os c k n rs).map .str)) → Q (.ref p) H'
section
variable {P : Program} {w : World} {K : PySem.W.Frag} {mg : Str → Option Value} {base : Heap}
theorem ok_sel {k : Nat} {RA OA CA P0 f fT fK : Addr} {fd fdT fdK : FuncData} (B : Bl mg) (D : Df K mg "_law_selection" sSel ["kind", "rows", "arguments"] f fd) (FT : FunD K "top_names" "top_names" (defArgs sTN) (defBody sTN) (defScope sTN) [] [("count", .int 1)] fT fdT) (gT : mg "top_names" = some (.ref fT)) (FK : FKN K fK fdK) (gK : mg "capped_top_names" = some (.ref fK))
    (GT : FnOk P w K mg base (L2.CX P w) k fT fdT ["rowset", "order", "count"] (spTN RA OA CA P0)) (GK : FnOk P w K mg base CX0 k fK fdK psN (spKN P0)) : FnOk P w K mg base CX0 (k + 1) f fd ["kind", "rows", "arguments"] (spSel P0) := by
  obtain ⟨g1, b1⟩ := tn_b1 FT
  obtain ⟨ga, ba⟩ := kn_ccc FK
  refine D.F.ok scSel (fun vs H Q E h => ?_) (fun cdv A outer s H vs Q E hr h => ?_)
  · obtain ⟨kd, rv, ov, t, rs, os, c, n, kk, rfl, _⟩ := h
    rfl
  · obtain ⟨kd, rv, ov, t, rs, os, c, n, kk, rfl, ht, hd, et, ho, a, q⟩ := h
    have nd := scSel.nd
    refine ⟨_, pss_cons (ps_asg (pv 2) (pg_tup (by rfl) (pgs_cons (pg_name (i := 3) nd rfl (.inl rfl)) (pgs_cons (pg_name (i := 4) nd rfl (.inl rfl)) (pgs_cons (pg_name (i := 5) nd rfl (.inl rfl)) (pgs_cons (pg_name (i := 6) nd rfl (.inl rfl)) pgs_nil))))))
      (pss_cons (ps_if (pt_cmpR op_eq (pv 0) pe_int (nomark _)) (pss_one (ps_ret (pe_callN GT hr (by rfl) gT FT.kp b1 passL (pa_cons (pv 1) (pa_cons (pv 3) pa_nil)) (pk_cons (pv 4) pk_nil)))) pss_nil)
      (pss_one (ps_ret (pe_callN GK hr (by rfl) gK FK.kp ba pass0 (pa_cons (pv 1) (pa_cons (pv 3) pa_nil)) (pk_cons (pv 4) (pk_cons (pv 5) (pk_cons (pv 6) pk_nil))))))), ?_⟩
    refine ⟨.ref t, rfl, t, _, rfl, .inl (.inl et), rfl, _, _, rfl, _, _, rfl, _, _, rfl, _, _, rfl, rfl, ?_⟩
    by_cases h : kd = 0
    · refine ⟨.int kd, rfl, rfl, true, by rw [decide_eq_true (congrArg V.int h)], iteT ?_⟩
      refine ⟨rv, rfl, ov, rfl, .int (n : Int), rfl, rfl, rfl, tnt_call ht hd ho a.g a.n1 a.n9 fun H' p e t' hp => q H' p e t' ?_⟩
      rw [selN, if_pos h]
      exact hp
    · refine ⟨.int kd, rfl, rfl, false, by rw [decide_eq_false (fun z => h (by injection z))], iteF ?_⟩
      refine ⟨rv, rfl, ov, rfl, .int (n : Int), rfl, .int c, rfl, .int (kk : Int), rfl, rfl, rfl, rv, ov, rs, os, c, n, kk, rfl, ht, hd, ho, a.g, a.c0, a.c1, a.n1, a.n9, a.k1, a.k9, fun H' p e t' hp => q H' p e t' ?_⟩
      rw [selN, if_neg h]
      exact hp
end
/-! ### _law_rows_named -/
abbrev sRNm : Stmt := topS 73
theorem scRNm : FnScope ["rows", "names", "row"] ["rows", "names"] (defScope sRNm) := ⟨rfl, rfl, rfl, by decide +kernel, rfl, by decide +kernel, by decide +kernel⟩
def hasN (ms : List Str) (r : Rec) : Bool := decide (r.nm ∈ ms)
theorem in_str {n : Str} {ns : List Str} : inV (.str n) (ns.map V.str) = decide (n ∈ ns) := by
  unfold inV
  induction ns with
  | nil => simp
  | cons a ns ih =>
    rw [List.map_cons, List.any_cons, ih, show eqV (.str a) (.str n) = decide (a = n) from rfl]
    by_cases h : a = n
    · simp [h]
    · have h2 : ¬ n = a := fun z => h z.symm
      simp [h, h2]
theorem dxs_strs_eq {H : Hp} : ∀ {ms : List Str} {ys : List V}, Dxs H ys (ms.map .str) → ys = ms.map V.str
  | [], _, h => by
    cases h
    rfl
  | m :: ms, _, h => by
    cases h with
    | cons a t =>
      cases a
      rw [dxs_strs_eq t]
      rfl
theorem flats (ns : List Str) : (ns.map V.str).all flatV = true := by
  rw [List.all_map, List.all_eq_true]
  intro x _
  rfl
def spRNm : Sp := fun vs H Q _ => ∃ (v nv : V) (rs : List Rec) (ms : List Str), vs = [v, nv] ∧ Dx H v (.tuple (rs.map encR)) ∧ rs.length ≤ 60 ∧ Dx H nv (.tuple (ms.map .str)) ∧ ∀ H' p, Same H H' → Dx H' (.ref p) (.tuple ((rs.filter (hasN ms)).map encR)) → Q (.ref p) H'
section
variable {P : Program} {w : World} {K : PySem.W.Frag} {mg : Str → Option Value} {base : Heap}
theorem ok_rnm {f : Addr} {fd : FuncData} (B : Bl mg) (D : Df K mg "_law_rows_named" sRNm ["rows", "names"] f fd) : FnOk P w K mg base CX0 1 f fd ["rows", "names"] spRNm := by
  refine D.F.ok scRNm (fun vs H Q E h => ?_) (fun cdv A outer s H vs Q E hr h => ?_)
  · obtain ⟨v, nv, rs, ms, rfl, _⟩ := h
    rfl
  · obtain ⟨v, nv, rs, ms, rfl, hd, l60, hn, q⟩ := h
    have nd := scRNm.nd
    refine ⟨_, pss_one (ps_ret (pe_callTy call_tuple_of (by rfl) B.tuple (by decide +kernel) (pa_cons (pe_lc (own := [("row", 2)]) (g := gName 2) rfl nd (pi_tup (pv 0)) (blkOk_by (N := ["rows", "names", "row"]) (sc := defScope sRNm) (by decide +kernel)) (fun _ _ _ _ _ => pg_name (i := 2) nd rfl (Or.inl rfl))
      (fun _ _ _ _ _ => pts_one (pt_cmpR (r := rIn K false) op_in_seq (pe_ix (r := rIxT K) ix_tup (pv 2) pe_int (fun _ _ => rfl)) (pv 1) (by rfl))) (fun _ _ _ _ _ => pv 2)) pa_nil))), ?_⟩
    obtain ⟨a, xs, rfl, ea, hx⟩ := dx_tup' hd
    obtain ⟨b, ys, rfl, eb, hy⟩ := dx_tup' hn
    obtain rfl := dxs_strs_eq hy
    refine ⟨.ref a, rfl, a, rfl, ⟨_, .inl (.inl ea)⟩, fun L nL => ?_⟩
    refine lc_filterS (hasN ms) nL ea hx (by omega) (fun r x G hr sG hdx Pt Pf hP => ?_) (fun G zs sG eL hz => ?_)
    · obtain ⟨rb, z, vs, rfl, erb, _⟩ := row_dx hdx
      refine ⟨rfl, .ref rb, rfl, rb, _, 0, .str r.nm, rfl, rfl, .inl (.inl erb), rfl, .ref b, rfl, b, _, rfl, .inr (.inl (.inl (sG _ _ eb))), rfl, flats _, _, rfl, ?_⟩
      rw [show (if false = true then !inV (.str r.nm) (ms.map V.str) else inV (.str r.nm) (ms.map V.str)) = hasN ms r by rw [if_neg (by simp), in_str]; rfl]
      have z2 := hP G (Same.refl _)
      show if hasN ms r = true then _ else _
      by_cases hh : hasN ms r = true
      · rw [if_pos hh] at z2 ⊢
        exact ⟨_, rfl, z2⟩
      · rw [if_neg hh] at z2 ⊢
        exact z2
    · refine ⟨L, zs, rfl, .inl ⟨.inl (.inl eL), fun p np => ?_⟩⟩
      have sp := same_new (o := .tup zs) np
      exact q _ p (sG.trans sp) (.tup upd_same ((hz.up (hid_same L G)).up sp))
end
end G1

set_option maxRecDepth 100000
set_option maxHeartbeats 4000000
namespace G1
open PySem PySem.Spec PyProof.Rows L2 KX
theorem gn_to {i : Nat} {v : V} {σ σ' : L2.St} {H : Hp} {Q : L2.St → Hp → Prop} (e : σ.set i (some v) = σ') (h : Q σ' H) : gName i v σ H Q := by subst e; exact h
/-! ### _law_subset_holds -/
abbrev sSH : Stmt := topS 74
abbrev NSH : List Str := ["kind", "rows", "subset", "arguments", "result", "remaining", "names", "row", "name"]
theorem scSH : FnScope NSH ["kind", "rows", "subset", "arguments"] (defScope sSH) := ⟨rfl, rfl, rfl, by decide +kernel, rfl, by decide +kernel, by decide +kernel⟩
theorem srtN_len (ns : List Str) : (srtN ns).length = ns.length := List.length_mergeSort _
theorem plain_strs : ∀ ns : List Str, PyData.plainAll (ns.map PyData.str) = true
  | [] => rfl
  | n :: ns => by simp [PyData.plainAll, PyData.plain, plain_strs ns]
theorem nms_plain (ns : List Str) : (PyData.list (ns.map .str)).plain = true := by
  simp only [PyData.plain]
  induction ns with
  | nil => simp [PyData.plainAll]
  | cons n ns ih => simp [PyData.plainAll, PyData.plain, ih]
theorem nmt_plain (ns : List Str) : (PyData.tuple (ns.map .str)).plain = true := by
  simp only [PyData.plain]
  induction ns with
  | nil => simp [PyData.plainAll]
  | cons n ns ih => simp [PyData.plainAll, PyData.plain, ih]
theorem nmt_eqv (ns : List Str) : PyData.eqv (.tuple (ns.map .str)) (.tuple (ns.map .str)) = true := by
  simp only [PyData.eqv]
  induction ns with
  | nil => simp [PyData.eqvAll]
  | cons n ns ih => simp [PyData.eqvAll, PyData.eqv, ih]
theorem lst_nil_eqv (ns : List Str) : PyData.eqv (.list (ns.map .str)) (.list []) = decide (ns = []) := by
  cases ns with
  | nil => simp [PyData.eqv, PyData.eqvAll]
  | cons n ns => simp [PyData.eqv, PyData.eqvAll]
theorem depth_one (ns : List Str) : PyData.depthAll (ns.map PyData.str) ≤ 0 := depthAll_le fun e he => by
  obtain ⟨m, _, rfl⟩ := List.mem_map.mp he
  simp [PyData.depth]
def spSH (P0 : Addr) : Sp := fun vs H Q _ => ∃ (kd : Int) (rv sv ov : V) (t : Addr) (rs ss : List Rec) (os : List Ord) (c : Int) (n k : Nat), vs = [.int kd, rv, sv, .ref t] ∧ LamX.Tabs (TS P0) H ∧ Dx H rv (.tuple (rs.map encR)) ∧ Dx H sv (.tuple (ss.map encR)) ∧ H t = some (.tup [ov, .int (n : Int), .int c, .int (k : Int)]) ∧ Dx H ov (.tuple (os.map encO)) ∧
  Ag os c k n rs ∧ Ag os c k n ss ∧ ss.Sublist rs ∧ (rs.map (fun r : Rec => r.nm)).Nodup ∧ ∀ H', LamX.ExtN H H' → LamX.Tabs (TS P0) H' → Q (.bl true) H'
section
variable {P : Program} {w : World} {K : PySem.W.Frag} {mg : Str → Option Value} {base : Heap}
theorem ok_sh {k : Nat} {P0 f fS : Addr} {fd fdS : FuncData} (B : Bl mg) (D : Df K mg "_law_subset_holds" sSH ["kind", "rows", "subset", "arguments"] f fd) (DS : Df K mg "_law_selection" sSel ["kind", "rows", "arguments"] fS fdS) (GS : FnOk P w K mg base CX0 k fS fdS ["kind", "rows", "arguments"] (spSel P0)) :
    FnOk P w K mg base CX0 (k + 1) f fd ["kind", "rows", "subset", "arguments"] (spSH P0) := by
  refine D.F.ok scSH (fun vs H Q E h => ?_) (fun cdv A outer s H vs Q E hr h => ?_)
  · obtain ⟨kd, rv, sv, ov, t, rs, ss, os, c, n, kk, rfl, _⟩ := h
    rfl
  · obtain ⟨kd, rv, sv, ov, t, rs, ss, os, c, n, kk, rfl, ht, hd, hsv, et, ho, a, as, sub, ndn, q⟩ := h
    have nd := scSH.nd
    obtain ⟨kj, ekj⟩ := selN_gN kd os c kk n
    refine ⟨_, pss_cons (ps_set (i := 4) nd rfl (.inl rfl) (pe_call GS hr (by rfl) DS.g DS.F.kp DS.b .nil pass0 (pa_cons (pv 0) (pa_cons (pv 1) (pa_cons (pv 3) pa_nil)))))
      (pss_cons (ps_set (i := 5) nd rfl (.inr rfl) (pe_call GS hr (by rfl) DS.g DS.F.kp DS.b .nil pass0 (pa_cons (pv 0) (pa_cons (pv 2) (pa_cons (pv 3) pa_nil)))))
      (pss_cons (ps_set (i := 6) nd rfl (.inr rfl) (pe_lc (own := [("row", 7)]) (g := gName 7) rfl nd (pi_tup (pv 2)) (blkOk_by (N := NSH) (sc := defScope sSH) (by decide +kernel)) (fun _ _ _ _ _ => pg_name (i := 7) nd rfl (Or.inl rfl)) (fun _ _ _ _ _ => pts_nil)
        (fun _ _ _ _ _ => pe_ix (r := rIxT K) ix_tup (pv 7) pe_int (fun _ _ => rfl))))
      (pss_cons (ps_if (pt_cmpR (op_neP hr.units) (pe_lc (own := [("name", 8)]) (g := gName 8) rfl nd (pi_tup (pv 4)) (blkOk_by (N := NSH) (sc := defScope sSH) (by decide +kernel)) (fun _ _ _ _ _ => pg_name (i := 8) nd rfl (Or.inl rfl))
        (fun _ _ _ _ _ => pts_one (PW.pt (pw_and (pt_cmpR (r := rIn K false) op_in_seq (pv 8) (pv 6) (by rfl)) (pw_and1 (pt_cmpR (r := rIn K true) op_notIn_seq (pv 8) (pv 5) (by rfl)))))) (fun _ _ _ _ _ => pv 8)) (pe_lst pa_nil) (nomark _)) (pss_one (ps_ret pe_bl)) pss_nil)
      (pss_one (ps_ret (pe_or (pe_cmpR (op_neP hr.units) (pe_lc (own := [("name", 8)]) (g := gName 8) rfl nd (pi_tup (pv 4)) (blkOk_by (N := NSH) (sc := defScope sSH) (by decide +kernel)) (fun _ _ _ _ _ => pg_name (i := 8) nd rfl (Or.inl rfl))
        (fun _ _ _ _ _ => pts_one (pt_cmpR (r := rIn K true) op_notIn_seq (pv 8) (pv 6) (by rfl))) (fun _ _ _ _ _ => pv 8)) (pe_lst pa_nil) (nomark _)) (pe_one (pe_cmpR (op_eqP hr.units) (pv 5) (pv 4) (nomark _))))))))), ?_⟩
    have big : (1000 : Nat) < sizeLine := by decide
    have nt : ∀ {xs : List V} ps, HO.lst xs ≠ .tbl ps := fun ps z => by cases z
    have ntt : ∀ {xs : List V} ps, HO.tup xs ≠ .tbl ps := fun ps z => by cases z
    -- result, remaining
    refine ⟨.int kd, rfl, rv, rfl, .ref t, rfl, kd, rv, ov, t, rs, os, c, n, kk, rfl, ht, hd, et, ho, a, fun H1 p1 e1 t1 x1 => ?_⟩
    refine ⟨.int kd, rfl, sv, rfl, .ref t, rfl, kd, sv, ov, t, ss, os, c, n, kk, rfl, t1, hsv.ext e1, e1 _ _ et ntt, ho.ext e1, as, fun H2 p2 e2 t2 x2 => ?_⟩
    have x1 := x1.ext e2
    have e12 := e1.trans e2
    have hsv := hsv.ext e12
    rw [ekj] at x1 x2
    clear ht t1 e1 e2 et ho hd
    obtain ⟨a1, ys1, rfl', ea1, hy1⟩ := dx_tup' x1
    cases rfl'
    obtain rfl := dxs_strs_eq hy1
    obtain ⟨a2, ys2, rfl', ea2, hy2⟩ := dx_tup' x2
    cases rfl'
    obtain rfl := dxs_strs_eq hy2
    obtain ⟨b, xs, rfl, eb, hx⟩ := dx_tup' hsv
    refine gn_to (σ' := ([some (.int kd), some rv, some (.ref b), some (.ref t), some (.ref p1), some (.ref p2), none, none, none] : L2.St)) rfl ?_
    dsimp only
    -- names
    have lx := hx.len
    rw [List.length_map] at lx
    have l60 := as.g.ok.le
    refine ⟨.ref b, rfl, b, rfl, ⟨_, .inl (.inl eb)⟩, fun D1 nD1 => ?_⟩
    refine lc_tup (xs := xs) (fun k N => Same H2 N ∧ N D1 = some (.lst (((ss.take k).map (·.nm)).map V.str))) ⟨same_new nD1, upd_same⟩ (fun k N _ hN => .inl (.inl (hN.1 _ _ eb))) (fun k x N hxk hN => ?_) (fun N hN => ?_)
    · obtain ⟨sN, eD⟩ := hN
      obtain ⟨dd, edd, hdx⟩ := hx.get' hxk
      rw [List.getElem?_map] at edd
      obtain ⟨r, er, rfl⟩ := Option.map_eq_some_iff.mp edd
      have kk : k < ss.length := (List.getElem?_eq_some_iff.mp er).1
      obtain ⟨rb, z, vs, rfl, erb, _⟩ := row_dx (hdx.up sN)
      refine ⟨rfl, .ref rb, rfl, rb, _, 0, .str r.nm, rfl, rfl, .inl (.inl erb), rfl, _, eD, ?_, same_at sN nD1, ?_⟩
      · rw [List.length_map, List.length_map, List.length_take]
        omega
      · rw [upd_same, List.take_add_one, er, List.map_append, List.map_append]
        rfl
    obtain ⟨sN, eN⟩ := hN
    rw [List.take_of_length_le (by omega)] at eN
    refine gn_to (σ' := ([some (.int kd), some rv, some (.ref b), some (.ref t), some (.ref p1), some (.ref p2), some (.ref D1), none, none] : L2.St)) rfl ?_
    dsimp only
    have ea1 := sN _ _ ea1
    have ea2 := sN _ _ ea2
    have t2 := tabs_same sN t2
    have e12 := e12.trans (ext_same sN)
    clear sN nD1 x1 x2 hy1 hy2
    -- the first list
    have l9 : (gN os c kj n rs).length ≤ 1000 := by
      have : (gN os c kj n rs).length ≤ rs.length := by
        rw [← gN_cap]
        unfold capN
        rw [srtN_len, List.length_map]
        exact capR_len
      have := a.g.ok.le
      omega
    refine ⟨.ref p1, rfl, p1, rfl, ⟨_, .inl (.inl ea1)⟩, fun D2 nD2 => ?_⟩
    refine lc_tup (xs := (gN os c kj n rs).map V.str) (fun k N' => Same N N' ∧ N' D2 = some (.lst [])) ⟨same_new nD2, upd_same⟩ (fun k N' _ hN => .inl (.inl (hN.1 _ _ ea1))) (fun k x N' hxk hN => ?_) (fun N' hN => ?_)
    · obtain ⟨sN, eD⟩ := hN
      rw [List.getElem?_map] at hxk
      obtain ⟨m, em, rfl⟩ := Option.map_eq_some_iff.mp hxk
      have mm := List.mem_of_getElem? em
      refine ⟨rfl, .str m, rfl, .ref D1, rfl, D1, _, rfl, .inl (.inl (.inl (sN _ _ eN))), rfl, flats _, _, rfl, ?_⟩
      rw [show (if false = true then !inV (.str m) ((ss.map (·.nm)).map V.str) else inV (.str m) ((ss.map (·.nm)).map V.str)) = decide (m ∈ ss.map fun r : Rec => r.nm) by rw [if_neg (by simp), in_str]]
      by_cases hin : m ∈ ss.map fun r : Rec => r.nm
      · rw [decide_eq_true hin]
        refine iteT ⟨.str m, rfl, .ref p2, rfl, p2, _, rfl, .inr (.inl (.inl (sN _ _ ea2))), rfl, flats _, _, rfl, ?_⟩
        rw [show (if true = true then !inV (.str m) ((gN os c kj n ss).map V.str) else inV (.str m) ((gN os c kj n ss).map V.str)) = false by rw [if_pos rfl, in_str, decide_eq_true (gN_her sub ndn mm hin)]; rfl]
        exact iteF ⟨sN, eD⟩
      · rw [decide_eq_false hin]
        exact iteF (iteF ⟨sN, eD⟩)
    obtain ⟨sN, eD2⟩ := hN
    refine ⟨by show 0 ≤ sizeLine; omega, fun D3 nD3 => ⟨.list (([] : List Str).map .str), .list [], .lst (.inl (.inl (same_new nD3 _ _ eD2))) .nil, .lst (.inl (.inl upd_same)) .nil, rfl, rfl, by decide +kernel, ?_⟩⟩
    rw [lst_nil_eqv]
    refine ⟨_, rfl, iteF ?_⟩
    have sM := sN.trans (same_new (o := .lst []) nD3)
    have ea1 := sM _ _ ea1
    have ea2 := sM _ _ ea2
    have eN := sM _ _ eN
    have t2 := tabs_same sM t2
    have e12 := e12.trans (ext_same sM)
    generalize upd N' D3 (.lst []) = M at ea1 ea2 eN t2 e12
    clear sM sN eD2 nD3
    -- the second list
    refine ⟨.ref p1, rfl, p1, rfl, ⟨_, .inl (.inl ea1)⟩, fun D4 nD4 => ?_⟩
    refine lc_tup (xs := (gN os c kj n rs).map V.str) (fun k N' => Same M N' ∧ N' D4 = some (.lst ((((gN os c kj n rs).take k).filter fun m => !decide (m ∈ ss.map fun r : Rec => r.nm)).map V.str))) ⟨same_new nD4, upd_same⟩ (fun k N' _ hN => .inl (.inl (hN.1 _ _ ea1))) (fun k x N' hxk hN => ?_) (fun N' hN => ?_)
    · obtain ⟨sN, eD⟩ := hN
      rw [List.getElem?_map] at hxk
      obtain ⟨m, em, rfl⟩ := Option.map_eq_some_iff.mp hxk
      have etk : (gN os c kj n rs).take (k + 1) = (gN os c kj n rs).take k ++ [m] := by rw [List.take_add_one, em]; rfl
      have kl : k < (gN os c kj n rs).length := (List.getElem?_eq_some_iff.mp em).1
      refine ⟨rfl, .str m, rfl, .ref D1, rfl, D1, _, rfl, .inl (.inl (.inl (sN _ _ eN))), rfl, flats _, _, rfl, ?_⟩
      rw [show (if true = true then !inV (.str m) ((ss.map (·.nm)).map V.str) else inV (.str m) ((ss.map (·.nm)).map V.str)) = !decide (m ∈ ss.map fun r : Rec => r.nm) by rw [if_pos rfl, in_str]]
      by_cases hin : m ∈ ss.map fun r : Rec => r.nm
      · rw [decide_eq_true hin]
        refine iteF ⟨sN, ?_⟩
        rw [eD, etk, List.filter_append]
        congr 3
        rw [List.filter_cons, if_neg (by simpa using hin)]
        simp
      · rw [decide_eq_false hin]
        refine iteT ⟨.str m, rfl, _, eD, ?_, same_at sN nD4, ?_⟩
        · have := List.length_filter_le (fun m => !decide (m ∈ ss.map fun r : Rec => r.nm)) ((gN os c kj n rs).take k)
          rw [List.length_take] at this
          rw [List.length_map]
          omega
        · rw [upd_same, etk, List.filter_append, List.map_append]
          congr 3
          rw [List.filter_cons, if_pos (by simpa using hin)]
          rfl
    obtain ⟨sN, eD4⟩ := hN
    rw [List.length_map, List.take_of_length_le (Nat.le_refl _)] at eD4
    refine ⟨by show 0 ≤ sizeLine; omega, fun D5 nD5 => ?_⟩
    have s5 := same_new (o := .lst []) nD5
    have sM := sN.trans s5
    refine ⟨.list (((gN os c kj n rs).filter fun m => !decide (m ∈ ss.map fun r : Rec => r.nm)).map .str), .list [], .lst (.inl (.inl (s5 _ _ eD4))) (dps_dx _ _ (plain_strs _) (dxs_strs _)), .lst (.inl (.inl upd_same)) .nil, nms_plain _, rfl, ?_, ?_⟩
    · refine Nat.le_trans (Nat.min_le_left _ _) ?_
      simp only [PyData.depth]
      have := depth_one ((gN os c kj n rs).filter fun m => !decide (m ∈ ss.map fun r : Rec => r.nm))
      omega
    rw [lst_nil_eqv]
    by_cases hE : ((gN os c kj n rs).filter fun m => !decide (m ∈ ss.map fun r : Rec => r.nm)) = []
    · rw [decide_eq_true hE]
      refine ⟨_, rfl, iteF ?_⟩
      have same := gN_out sub ndn (c := c) (k := kj) (n := n) (os := os) fun x hx => by
        have := List.filter_eq_nil_iff.mp hE x hx
        simpa using this
      refine ⟨.ref p2, rfl, .ref p1, rfl, _, _, dp_dx _ _ (nmt_plain (gN os c kj n ss)) (.tup (sM _ _ ea2) (dxs_strs _)), dp_dx _ _ (nmt_plain (gN os c kj n rs)) (.tup (sM _ _ ea1) (dxs_strs _)), nmt_plain _, nmt_plain _, ?_, ?_⟩
      · refine Nat.le_trans (Nat.min_le_left _ _) ?_
        simp only [PyData.depth]
        have := depth_one (gN os c kj n ss)
        omega
      · rw [same, nmt_eqv]
        exact q _ (e12.trans (ext_same sM)) (tabs_same sM t2)
    · rw [decide_eq_false hE]
      exact ⟨_, rfl, iteT (q _ (e12.trans (ext_same sM)) (tabs_same sM t2))⟩
end
end G1

set_option maxRecDepth 100000
set_option maxHeartbeats 4000000
namespace G1
open PySem PySem.Spec PyProof.Rows L2 KX
/-! ### _law_subsets -/
abbrev sSub : Stmt := topS 71
abbrev NSub : List Str := ["names", "found", "name", "world"]
theorem scSub : FnScope NSub ["names"] (defScope sSub) := ⟨rfl, rfl, rfl, by decide +kernel, rfl, by decide +kernel, by decide +kernel⟩
theorem seq_ext {K : PySem.W.Frag} {H G : Hp} {a : Addr} {xs : List V} (h : SqL K H a xs) (e : LamX.ExtN H G) : SqL K G a xs := by
  rcases h with h | h
  · exact .inl (h.imp (fun z => e _ _ z fun ps q => by cases q) fun ⟨o, z⟩ => ⟨o, e _ _ z fun ps q => by cases q⟩)
  · exact .inr h
theorem seq_same {K : PySem.W.Frag} {H G : Hp} {a : Addr} {xs : List V} (s : Same H G) (h : SqL K H a xs) : SqL K G a xs := seq_ext h (ext_same s)
/-- a tuple of texts -/
def Wd (N : Hp) (i : Nat) (z : V) : Prop := ∃ b ws, z = .ref b ∧ N b = some (.tup ((ws : List Str).map V.str)) ∧ ws.length ≤ i
theorem Wd.up {N N' : Hp} {i j : Nat} {z : V} (h : Wd N i z) (s : Same N N') (l : i ≤ j) : Wd N' j z := by
  obtain ⟨b, ws, e1, e2, e3⟩ := h
  exact ⟨b, ws, e1, s _ _ e2, Nat.le_trans e3 l⟩
theorem Wd.at {N : Hp} {i : Nat} {z : V} {D : Addr} {xs ys : List V} (h : Wd N i z) (e : N D = some (.lst xs)) : Wd (upd N D (.lst ys)) i z := by
  obtain ⟨b, ws, e1, e2, e3⟩ := h
  refine ⟨b, ws, e1, ?_, e3⟩
  rw [upd_ne (fun q => by rw [q, e] at e2; cases e2)]
  exact e2
def spSub (K : PySem.W.Frag) : Sp := fun vs H Q _ => ∃ (a : Addr) (ms : List Str), vs = [.ref a] ∧ SqL K H a (ms.map V.str) ∧ ms.length ≤ 6 ∧ ∀ H' p xs, Same H H' → H' p = some (.lst xs) → xs.length = 2 ^ ms.length → (∀ z ∈ xs, Wd H' 6 z) → Q (.ref p) H'
theorem catA_wd {K : PySem.W.Frag} {N : Hp} {i : Nat} {z : V} {q : Addr} {m : Str} {Q : VK} (h : Wd N i z) (hi : i ≤ 6) (eq : N q = some (.tup [.str m])) (k : ∀ N' y, Same N N' → Wd N' (i + 1) y → Q y N') : rCatA K z (.ref q) N Q := by
  obtain ⟨b, ws, rfl, e2, e3⟩ := h
  have big : (1000 : Nat) < sizeLine := by decide
  refine ⟨b, q, _, _, rfl, rfl, .inl (.inl e2), .inl (.inl eq), by rw [List.length_map]; show ws.length + 1 ≤ sizeLine; omega, fun h => ?_, fun _ h => (by cases h), fun _ _ p np => ?_⟩
  · exact k N _ (Same.refl _) ⟨q, [m], rfl, eq, by show 1 ≤ i + 1; omega⟩
  · exact k _ _ (same_new np) ⟨p, ws ++ [m], rfl, by rw [upd_same, List.map_append]; rfl, by rw [List.length_append]; show ws.length + 1 ≤ i + 1; omega⟩
section
variable {P : Program} {w : World} {K : PySem.W.Frag} {mg : Str → Option Value} {base : Heap}
theorem ok_sub {f : Addr} {fd : FuncData} (D : Df K mg "_law_subsets" sSub ["names"] f fd) : FnOk P w K mg base CX0 1 f fd ["names"] (spSub K) := by
  refine D.F.ok scSub (fun vs H Q E h => ?_) (fun cdv A outer s H vs Q E hr h => ?_)
  · obtain ⟨a, ms, rfl, _⟩ := h
    rfl
  · obtain ⟨a, ms, rfl, ha, l6, q⟩ := h
    have nd := scSub.nd
    refine ⟨_, pss_cons (ps_set (i := 1) nd rfl (.inl rfl) (pe_lst (pa_cons (pe_tup pa_nil) pa_nil)))
      (pss_cons (ps_for PassesOwn.never rfl (pi_list (pv 0)) (pg_name (i := 2) nd rfl (.inr rfl)) (pss_one (ps_set (i := 1) nd rfl (.inl rfl) (pe_op op_cat (pv 1) (pe_lc (own := [("world", 3)]) (g := gName 3) rfl nd (pi_list (pv 1)) (blkOk_by (N := NSub) (sc := defScope sSub) (by decide +kernel)) (fun _ _ _ _ _ => pg_name (i := 3) nd rfl (Or.inl rfl)) (fun _ _ _ _ _ => pts_nil)
        (fun _ _ _ _ _ => pe_op (r := rCatA K) op_catA (pv 3) (pe_tup (pa_cons (pv 2) pa_nil))))))))
      (pss_one (ps_ret (pv 1)))), ?_⟩
    have big : (1000 : Nat) < sizeLine := by decide
    refine ⟨by show 0 ≤ sizeLine; omega, fun t0 nt0 => ⟨by show 1 ≤ sizeLine; omega, fun p0 np0 => ?_⟩⟩
    have s0 := (same_new (o := .tup []) nt0).trans (same_new (o := .lst [.ref t0]) np0)
    have et0 : (upd (upd H t0 (.tup [])) p0 (.lst [.ref t0])) t0 = some (.tup []) := same_new np0 _ _ upd_same
    have ep0 : (upd (upd H t0 (.tup [])) p0 (.lst [.ref t0])) p0 = some (.lst [.ref t0]) := upd_same
    refine gn_to (σ' := ([some (.ref a), some (.ref p0), none, none] : L2.St)) rfl ?_
    dsimp only
    generalize upd (upd H t0 (.tup [])) p0 (.lst [.ref t0]) = H1 at s0 et0 ep0
    clear nt0 np0
    refine ⟨.ref a, rfl, a, rfl, ⟨_, seq_same s0 ha⟩, ?_⟩
    refine for_list (xs := ms.map V.str) (fun i σ F => Same H F ∧ ∃ (p : Addr) (xs : List V) (o2 : Option V), σ = [some (.ref a), some (.ref p), o2, none] ∧ F p = some (.lst xs) ∧ xs.length = 2 ^ i ∧ ∀ z ∈ xs, Wd F i z)
      ⟨s0, p0, [.ref t0], none, rfl, ep0, rfl, fun z hz => by rw [List.mem_singleton.mp hz]; exact ⟨t0, [], rfl, et0, Nat.le_refl _⟩⟩ (fun i σ F _ hF => seq_same hF.1 ha) (fun i x σ F hx hF => ?_) (fun σ F hF => ?_)
    · obtain ⟨sF, p, xs, o2, rfl, ep, lx, hw⟩ := hF
      rw [List.getElem?_map] at hx
      obtain ⟨m, em, rfl⟩ := Option.map_eq_some_iff.mp hx
      have i6 : i < 6 := by
        have := (List.getElem?_eq_some_iff.mp em).1
        omega
      have x64 : xs.length ≤ 32 := by
        have : 2 ^ i ≤ 2 ^ 5 := Nat.pow_le_pow_right (by decide) (by omega)
        omega
      refine gn_to (σ' := ([some (.ref a), some (.ref p), some (.str m), none] : L2.St)) rfl ?_
      refine ⟨.ref p, rfl, .ref p, rfl, p, rfl, ⟨_, .inl (.inl ep)⟩, fun D1 nD => ?_⟩
      have nDp : p ≠ D1 := fun z => by rw [z, nD] at ep; cases ep
      refine lc_list (xs := xs) (fun k N => Same F N ∧ ∃ zs, N D1 = some (.lst zs) ∧ zs.length = k ∧ ∀ z ∈ zs, Wd N (i + 1) z) ⟨same_new nD, [], upd_same, rfl, fun z h => nomatch h⟩ (fun k N _ hN => .inl (.inl (hN.1 _ _ ep))) (fun k x N hxk hN => ?_) (fun N hN => ?_)
      · obtain ⟨sN, zs, eD, lz, hz⟩ := hN
        have kl : k < xs.length := (List.getElem?_eq_some_iff.mp hxk).1
        have wx := (hw x (List.mem_of_getElem? hxk)).up sN (Nat.le_refl i)
        refine ⟨rfl, x, rfl, .str m, rfl, by show 1 ≤ sizeLine; omega, fun q nq => ?_⟩
        have sq := same_new (o := .tup [.str m]) nq
        refine catA_wd (i := i) (wx.up sq (Nat.le_refl i)) (by omega) upd_same fun N' y sy hy => ?_
        have s2 := sq.trans sy
        have eD2 := s2 _ _ eD
        refine ⟨zs, eD2, by omega, same_at (sN.trans s2) nD, zs ++ [y], upd_same, by rw [List.length_append, lz]; rfl, fun z h => ?_⟩
        rcases List.mem_append.mp h with h | h
        · exact ((hz z h).up s2 (Nat.le_refl _)).at eD2
        · rw [List.mem_singleton.mp h]
          exact hy.at eD2
      · obtain ⟨sN, zs, eD, lz, hz⟩ := hN
        refine ⟨p, D1, xs, zs, rfl, rfl, sN _ _ ep, eD, by omega, fun u nu => ?_⟩
        have su := same_new (o := .lst (xs ++ zs)) nu
        refine gn_to (σ' := ([some (.ref a), some (.ref u), some (.str m), none] : L2.St)) rfl ?_
        refine ⟨(sF.trans sN).trans su, u, xs ++ zs, _, rfl, upd_same, by rw [List.length_append, lz, lx, Nat.pow_succ]; omega, fun z h => ?_⟩
        rcases List.mem_append.mp h with h | h
        · exact (hw z h).up (sN.trans su) (by omega)
        · exact (hz z h).up su (Nat.le_refl _)
    · obtain ⟨sF, p, xs, o2, rfl, ep, lx, hw⟩ := hF
      rw [List.length_map] at lx hw
      exact ⟨.ref p, rfl, q F p xs sF ep lx fun z h => (hw z h).up (Same.refl _) l6⟩
end
/-! ### _law_sample -/
abbrev sSmp : Stmt := topS 76
abbrev NSmp : List Str := ["stream", "rows", "total", "share", "found", "row"]
theorem scSmp : FnScope NSmp ["stream", "rows", "total", "share"] (defScope sSmp) := ⟨rfl, rfl, rfl, by decide +kernel, rfl, by decide +kernel, by decide +kernel⟩
def spSmp : Sp := fun vs H Q _ => ∃ (l : Addr) (v : V) (rs : List Rec) (tt sh : Int), vs = [.ref l, v, .int tt, .int sh] ∧ StO H l ∧ Dx (hid l H) v (.tuple (rs.map encR)) ∧ rs.length ≤ 60 ∧ 0 < tt ∧ tt ≤ 100 ∧
  ∀ H' p (ss : List Rec), Keep l H H' → StO H' l → ss.Sublist rs → Dx (hid l H') (.ref p) (.tuple (ss.map encR)) → Q (.ref p) H'
section
variable {P : Program} {w : World} {K : PySem.W.Frag} {mg : Str → Option Value} {base : Heap}
theorem ok_smp {k : Nat} {f fD : Addr} {fd gD : FuncData} (B : Bl mg) (D : Df K mg "_law_sample" sSmp ["stream", "rows", "total", "share"] f fd) (DD : Df K mg "_law_draw" sDraw ["stream", "total"] fD gD) (GD : FnOk P w K mg base CX0 k fD gD ["stream", "total"] spDraw) :
    FnOk P w K mg base CX0 (k + 1) f fd ["stream", "rows", "total", "share"] spSmp := by
  refine D.F.ok scSmp (fun vs H Q E h => ?_) (fun cdv A outer s H vs Q E hr h => ?_)
  · obtain ⟨l, v, rs, tt, sh, rfl, _⟩ := h
    rfl
  · obtain ⟨l, v, rs, tt, sh, rfl, st, hd, l60, t0, t100, q⟩ := h
    have nd := scSmp.nd
    refine ⟨_, pss_cons (ps_set (i := 4) nd rfl (.inl rfl) (pe_lst pa_nil))
      (pss_cons (ps_for PassesOwn.never rfl (pi_tup (pv 1)) (pg_name (i := 5) nd rfl (.inl rfl)) (pss_one (ps_if (pt_cmpR op_lt (pe_call GD hr (by rfl) DD.g DD.F.kp DD.b .nil pass0 (pa_cons (pv 0) (pa_cons (pv 2) pa_nil))) (pv 3) (nomark _))
        (pss_one (ps_expr (pe_bm PySem.F.plainAttrs_list PySem.F.slot_list_append PySem.F.type_list_append mt_append (pv 4) (pa_cons (pv 5) pa_nil)))) pss_nil)))
      (pss_one (ps_ret (pe_callTy call_tuple_of (by rfl) B.tuple (by decide +kernel) (pa_cons (pv 4) pa_nil))))), ?_⟩
    have big : (1000 : Nat) < sizeLine := by decide
    obtain ⟨a, xs, rfl, na, ea, hx⟩ := dx_tupOf hd
    have lx := hx.len
    rw [List.length_map] at lx
    refine ⟨by show 0 ≤ sizeLine; omega, fun L nL => ?_⟩
    have hLl : L ≠ l := st.ne nL
    have k0 : Keep l H (upd H L (.lst [])) := (Keep.refl l H).new nL
    have st0 := st.new (o := .lst []) nL
    refine gn_to (σ' := ([some (.ref l), some (.ref a), some (.int tt), some (.int sh), some (.ref L), none] : L2.St)) rfl ?_
    dsimp only
    refine ⟨.ref a, rfl, a, rfl, ⟨_, .inl (.inl (k0 _ _ na ea))⟩, ?_⟩
    refine for_tup (xs := xs) (fun i σ F => Keep l H F ∧ StO F l ∧ ∃ (ss : List Rec) (zs : List V) (o5 : Option V), σ = [some (.ref l), some (.ref a), some (.int tt), some (.int sh), some (.ref L), o5] ∧ F L = some (.lst zs) ∧ ss.Sublist (rs.take i) ∧ Dxs (hid l (hid L F)) zs (ss.map encR))
      ⟨k0, st0, [], [], none, rfl, upd_same, .slnil, .nil⟩ (fun i σ F _ hF => .inl (.inl (hF.1 _ _ na ea))) (fun i x σ F hxi hF => ?_) (fun σ F hF => ?_)
    · obtain ⟨kF, sF, ss, zs, o5, rfl, eL, sub, hz⟩ := hF
      obtain ⟨dd, edd, hdx⟩ := hx.get' hxi
      rw [List.getElem?_map] at edd
      obtain ⟨r, er, rfl⟩ := Option.map_eq_some_iff.mp edd
      have ii : i < rs.length := (List.getElem?_eq_some_iff.mp er).1
      have etk : rs.take (i + 1) = rs.take i ++ [r] := by rw [List.take_add_one, er]; rfl
      have lz := hz.len
      rw [List.length_map] at lz
      have lss := sub.length_le
      rw [List.length_take] at lss
      refine gn_to (σ' := ([some (.ref l), some (.ref a), some (.int tt), some (.int sh), some (.ref L), some x] : L2.St)) rfl ?_
      refine ⟨.ref l, rfl, .int tt, rfl, l, tt, rfl, sF, t0, by omega, fun F2 d k2 s2 d0 d1 => ⟨.int sh, rfl, _, _, rfl, rfl, _, rfl, ?_⟩⟩
      have kF2 := kF.trans k2
      have eL2 := k2 _ _ hLl eL
      have hz2 : ∀ {o : HO}, Same (hid l (hid L F)) (hid l (hid L (upd F2 L o))) := fun {o} b u e => by
        obtain ⟨n1, e⟩ := hid_some e
        obtain ⟨n2, e⟩ := hid_some e
        rw [hid_at n1, hid_at n2, upd_ne n2]
        exact k2 _ _ n1 e
      have hz1 : Same (hid l (hid L F)) (hid l (hid L F2)) := fun b u e => by
        obtain ⟨n1, e⟩ := hid_some e
        obtain ⟨n2, e⟩ := hid_some e
        rw [hid_at n1, hid_at n2]
        exact k2 _ _ n1 e
      by_cases hd3 : d < sh
      · rw [decide_eq_true hd3]
        refine iteT ⟨.ref L, rfl, .inl ⟨rfl, _, .inl (.inl eL2)⟩, x, rfl, L, zs, x, rfl, rfl, eL2, by omega, fun b o nb e => ?_, ?_, ss ++ [r], zs ++ [x], some x, rfl, upd_same, ?_, ?_⟩
        · rw [upd_ne (ne_of_none e nL)]
          exact kF2 _ _ nb e
        · obtain ⟨b1, b2, b3, e⟩ := s2
          exact ⟨b1, b2, b3, by rw [upd_ne hLl.symm]; exact e⟩
        · rw [etk]
          exact sub.append (List.Sublist.refl _)
        · rw [List.map_append]
          refine (hz.up hz2).app (.cons (hdx.up fun b u e => ?_) .nil)
          obtain ⟨n1, e⟩ := hid_some e
          rw [hid_at n1, hid_at (ne_of_none e nL), upd_ne (ne_of_none e nL)]
          exact kF2 _ _ n1 e
      · rw [decide_eq_false hd3]
        refine iteF ⟨kF2, s2, ss, zs, some x, rfl, eL2, ?_, hz.up hz1⟩
        rw [etk]
        exact sub.trans (List.sublist_append_left _ _)
    · obtain ⟨kF, sF, ss, zs, o5, rfl, eL, sub, hz⟩ := hF
      rw [List.take_of_length_le (by omega)] at sub
      refine ⟨.ref L, rfl, L, zs, rfl, .inl ⟨.inl (.inl eL), fun p np => ?_⟩⟩
      refine q _ p ss (kF.new np) (sF.new np) sub (.tup (by rw [hid_at (sF.ne np)]; exact upd_same) (hz.up fun b u e => ?_))
      obtain ⟨n1, e⟩ := hid_some e
      obtain ⟨n2, e⟩ := hid_some e
      rw [hid_at n1]
      exact same_new np _ _ e
end
end G1

set_option maxRecDepth 100000
set_option maxHeartbeats 4000000
/-! Ex31: zip of a tuple and a list (Ex5 with the roles exchanged) -/
namespace KX
open PySem PySem.Spec PyProof.Rows L2
def ItN (K : PySem.W.Frag) (a b : Addr) : It :=
  ⟨fun i H => ∃ (xs ys : List V) (x y : V), SqT K H a xs ∧ SqL K H b ys ∧ xs[i]? = some x ∧ ys[i]? = some y,
    fun i H v G => ∃ T x y, v = .ref T ∧ H T = none ∧ G = upd H T (.tup [x, y]) ∧ (∀ xs, SqT K H a xs → xs[i]? = some x) ∧ ∀ ys, SqL K H b ys → ys[i]? = some y,
    fun i H => ∃ xs ys : List V, SqT K H a xs ∧ SqL K H b ys ∧ xs.length = i ∧ ys.length = i⟩
theorem turn_n {P : Program} {w : World} {K : PySem.W.Frag} {elts : List Expr} {kk : Nat} {tpos : Pos} {a b z TI TO i1 i2 : Addr} (D : ZipApart z TI TO i1 i2 a b) :
    Turn P w K (.Tuple elts kk tpos) (ItN K a b) [z, TI, TO, i1, i2] z (fun i h => IsZip h z TI TO .none ∧ IsPair h TI (.ref i1) (.ref i2) ∧ (∃ x y, IsPair h TO x y) ∧ h.IsTupleIter i1 a i ∧ h.IsListIter i2 b i) where
  mem := by simp
  obj := fun i h st c hc => by
    obtain ⟨hz, hTI, ⟨x, y, hTO⟩, ⟨o1, e1, _, d1⟩, ⟨o2, e2, _, d2⟩⟩ := st
    simp only [List.mem_cons, List.not_mem_nil, or_false] at hc
    rcases hc with rfl | rfl | rfl | rfl | rfl
    · exact ⟨_, hz, fun v q => nomatch q⟩
    · exact ⟨_, hTI, fun v q => nomatch q⟩
    · exact ⟨_, hTO, fun v q => nomatch q⟩
    · exact ⟨o1, e1, fun v q => by rw [d1] at q; cases q⟩
    · exact ⟨o2, e2, fun v q => by rw [d2] at q; cases q⟩
  keep := fun i h h' st k => by
    obtain ⟨hz, hTI, ⟨x, y, hTO⟩, t1, t2⟩ := st
    exact ⟨k z (by simp) _ hz, k TI (by simp) _ hTI, ⟨x, y, k TO (by simp) _ hTO⟩, t1.at fun o q => k i1 (by simp) o q, t2.at fun o q => k i2 (by simp) o q⟩
  item := by
    intro X hP hw hK hc i pins s σ H E I hf st hg
    subst hP hw hK
    obtain ⟨hz, hTI, ⟨x0, y0, hTO⟩, t1, t2⟩ := st
    obtain ⟨xs, ys, x, y, hqx, hqy, hx, hy⟩ := hg
    obtain ⟨its, rv, pl, _⟩ := I.tuple hqx
    obtain ⟨its2, rv2, pt, _⟩ := I.list hqy
    obtain ⟨u, hu, ru⟩ := rv.get hx
    obtain ⟨u2, hu2, ru2⟩ := rv2.get hy
    have zl : z < s.heap.objs.size := Heap.lt_size hz
    have hh : X.A.in1.handled = none := I.ok.hd hc
    have li : i < its.toArray.size := by simpa using (List.getElem?_eq_some_iff.mp hu).1
    have li2 : i < its2.toArray.size := by simpa using (List.getElem?_eq_some_iff.mp hu2).1
    refine wpAny_pyNext_zipD2_item (sep_of D) (Draws.tuple hh i1 a D.l1i1 its.toArray) (Draws.list hh i2 b D.l2i2 its2.toArray) hz hTI hTO ⟨t1, pl⟩ ⟨t2, pt.isList⟩ li li2 fun x1 x2 h' tk q1 q2 z' TO' s1' s2' hT hsz hk => ?_
    have e1 : x1 = u := Option.some.inj (q1.symm.trans (by simpa using hu))
    have e2 : x2 = u2 := Option.some.inj (q2.symm.trans (by simpa using hu2))
    subst e1 e2
    refine ⟨_, rfl, wpAny_letOwnedTupleGo_zip (s := { s with heap := h', toks := tk }) z' fun h'' z'' sb => ?_⟩
    have hT2 : h''.get? s.heap.objs.size = some { cls := .type "tuple", data := .seq #[x1, x2] } := (sb.2 _ (Nat.ne_of_gt zl)).trans hT
    have new : ObjOk X.prog X.w (upd H s.heap.objs.size (.tup [x, y])) h'' s.heap.objs.size (.tup [x, y]) := ⟨by show 2 ≤ sizeLine; decide, [x1, x2], .cons ru (.cons ru2 .nil), ⟨_, hT2, rfl, _, rfl⟩⟩
    have moved : ∀ c o, c ∉ [z, TI, TO, i1, i2] → s.heap.get? c = some o → h''.get? c = some o := fun c o hb q => by
      simp only [List.mem_cons, List.not_mem_nil, or_false, not_or] at hb
      exact (sb.2 c hb.1).trans (hk c o hb.1 hb.2.2.1 hb.2.2.2.1 hb.2.2.2.2 q)
    have I1 : Inv X pins σ (upd H s.heap.objs.size (.tup [x, y])) { s with heap := h'', toks := tk } := I.turnedNew (t' := tk) (ch := [z, TI, TO, i1, i2]) moved hf (Nat.le_refl _) new
    refine ⟨.ref s.heap.objs.size, _, I1, rfl, ⟨_, x, y, rfl, I.hok.fresh (Nat.le_refl _), rfl, fun l hl => by rw [I.tuple_inj hl hqx]; exact hx, fun l hl => by rw [I.list_inj hl hqy]; exact hy⟩,
      ⟨z'', (sb.2 _ D.TIz).trans (hk _ _ D.TIz D.TITO D.TIi1 D.TIi2 hTI), ⟨x1, x2, (sb.2 _ D.TOz).trans TO'⟩, s1'.1.at fun o q => (sb.2 _ D.i1z).trans q, s2'.1.at fun o q => (sb.2 _ D.i2z).trans q⟩, fun c hcm => ?_⟩
    have lt : c < s.heap.objs.size := by
      simp only [List.mem_cons, List.not_mem_nil, or_false] at hcm
      rcases hcm with rfl | rfl | rfl | rfl | rfl
      · exact zl
      · exact Heap.lt_size hTI
      · exact Heap.lt_size hTO
      · obtain ⟨_, q, _⟩ := t1; exact Heap.lt_size q
      · obtain ⟨_, q, _⟩ := t2; exact Heap.lt_size q
    rw [upd_ne (Nat.ne_of_lt lt)]
    exact (hf c hcm).1
  done := by
    intro X hP hw hK hc i pins s σ H E I hf st hg
    subst hP hw hK
    obtain ⟨hz, hTI, ⟨x0, y0, hTO⟩, t1, t2⟩ := st
    obtain ⟨xs, ys, hqx, hqy, e1, e2⟩ := hg
    obtain ⟨its, rv, pl, _⟩ := I.tuple hqx
    obtain ⟨its2, rv2, pt, _⟩ := I.list hqy
    have l1 := rv.length
    have l2 := rv2.length
    have hh : X.A.in1.handled = none := I.ok.hd hc
    have s1 : its.toArray.size = i := by simp; omega
    have s2 : its2.toArray.size = i := by simp; omega
    refine wpAny_pyNext_zipD2_end (sep_of D) (Draws.tuple hh i1 a D.l1i1 its.toArray) (Draws.list hh i2 b D.l2i2 its2.toArray) hz hTI hTO ⟨t1, pl⟩ ⟨t2, pt.isList⟩ (by omega) (by omega) (.inl s1.symm) fun h' tk hk => ⟨rfl, ?_⟩
    refine I.turnedL (t' := tk) (ch := [z, TI, TO, i1, i2]) (fun c o hb q => ?_) hf
    simp only [List.mem_cons, List.not_mem_nil, or_false, not_or] at hb
    exact hk c o hb.1 hb.2.2.1 hb.2.2.2.1 hb.2.2.2.2 q
  self := fun A i s Q E st h => wpAny_pyIter_zip st.1 h
/-! the call -/
abbrev zn1 (h : Heap) (a : Addr) : Heap := h.push { cls := .type "tuple_iterator", data := .fields #[.ref a, .int 0 0] }
abbrev zn2 (h : Heap) (a b : Addr) : Heap := (zn1 h a).push { cls := .type "list_iterator", data := .fields #[.ref b, .int 0 0] }
abbrev zn3 (h : Heap) (a b : Addr) : Heap := (zn2 h a b).push { cls := .type "tuple", data := .seq #[.ref h.objs.size, .ref (zn1 h a).objs.size] }
abbrev zn4 (h : Heap) (a b : Addr) : Heap := (zn3 h a b).push { cls := .type "tuple", data := .seq #[.none, .none] }
abbrev zn5 (h : Heap) (a b : Addr) : Heap := (zn4 h a b).push { cls := .type "zip", data := .fields #[.none, .bool false, .bool false, .ref (zn2 h a b).objs.size, .ref (zn3 h a b).objs.size] }
theorem meets_zn (a b : Addr) (xs ys : Array Value) :
    Meets (Builtin.«zip.__new__» ⟨[.type "zip", .ref a, .ref b], []⟩) (fun _ R s => s.heap.IsTuple a xs ∧ s.heap.IsList b ys ∧ R (.ok (.ret (.ref (zn4 s.heap a b).objs.size))) { s with heap := zn5 s.heap a b }) :=
  .of_wp fun prog w A R s h => by
    obtain ⟨hp, g, d, tk, os⟩ := s
    obtain ⟨ha, hb, h⟩ := h
    have hsub := sub_zip
    have La : Heap.IsTuple (Shared.heap ⟨hp, g, d, tk, os⟩) a xs := ha
    have Lb : Heap.IsList (Shared.heap ⟨hp.push { cls := .type "tuple_iterator", data := .fields #[.ref a, .int 0 0] }, g, d, tk, os⟩) b ys := Heap.IsList.push hb _
    wp_walk using wpAny_pyIter_tuple La, wpAny_pyIter_list Lb
    exact ⟨_, rfl, h⟩
section
variable {prog : Program} {w : World} {A : Around} {E : Value → Shared → Prop} {s : Shared}
theorem call_zn {a b : Addr} {xs ys : Array Value} {Q : Value → Shared → Prop} (ha : s.heap.IsTuple a xs) (hb : s.heap.IsList b ys)
    (go : ∀ h', IsZip h' (s.heap.objs.size + 4) (s.heap.objs.size + 2) (s.heap.objs.size + 3) .none → IsPair h' (s.heap.objs.size + 2) (.ref s.heap.objs.size) (.ref (s.heap.objs.size + 1)) → IsPair h' (s.heap.objs.size + 3) .none .none →
      h'.IsTupleIter s.heap.objs.size a 0 → h'.IsListIter (s.heap.objs.size + 1) b 0 → (∀ c o, s.heap.get? c = some o → h'.get? c = some o) → Q (.ref (s.heap.objs.size + 4)) { s with heap := h' }) :
    wpAny (model prog w) A (call (.type "zip") [.ref a, .ref b]) Q E s := by
  refine callType_new F.called_zip (by decide) (F.typeCall_zip_2 _ _) (F.newCall_zip_2 _ _) (fun obj => F.args_object_init_3 obj _ _) F.entry_zip_new (meets_zn a b xs ys) ⟨ha, hb, ?_⟩
  have n1 : (zn1 s.heap a).objs.size = s.heap.objs.size + 1 := by rw [Heap.size_push]
  have n2 : (zn2 s.heap a b).objs.size = s.heap.objs.size + 2 := by rw [Heap.size_push, n1]
  have n3 : (zn3 s.heap a b).objs.size = s.heap.objs.size + 3 := by rw [Heap.size_push, n2]
  have n4 : (zn4 s.heap a b).objs.size = s.heap.objs.size + 4 := by rw [Heap.size_push, n3]
  have k45 : ∀ {c o}, (zn4 s.heap a b).get? c = some o → (zn5 s.heap a b).get? c = some o := fun e => Heap.get?_push_of_some _ e
  have k35 : ∀ {c o}, (zn3 s.heap a b).get? c = some o → (zn5 s.heap a b).get? c = some o := fun e => k45 (Heap.get?_push_of_some _ e)
  have k25 : ∀ {c o}, (zn2 s.heap a b).get? c = some o → (zn5 s.heap a b).get? c = some o := fun e => k35 (Heap.get?_push_of_some _ e)
  have k15 : ∀ {c o}, (zn1 s.heap a).get? c = some o → (zn5 s.heap a b).get? c = some o := fun e => k25 (Heap.get?_push_of_some _ e)
  have o5 : (zn5 s.heap a b).get? (zn4 s.heap a b).objs.size = some _ := Heap.get?_push_size _ rfl
  have o4 := k45 (c := (zn3 s.heap a b).objs.size) (Heap.get?_push_size _ rfl)
  have o3 := k35 (c := (zn2 s.heap a b).objs.size) (Heap.get?_push_size _ rfl)
  have o2 := k25 (c := (zn1 s.heap a).objs.size) (Heap.get?_push_size _ rfl)
  have o1 := k15 (c := s.heap.objs.size) (Heap.get?_push_size _ rfl)
  show _ ∧ _
  rw [n2, n3, n4] at o5
  rw [n3] at o4
  rw [n1, n2] at o3
  rw [n1] at o2
  rw [n4]
  exact ⟨⟨_, o5, rfl⟩, go _ o5 o3 o4 ⟨_, o1, rfl, rfl⟩ ⟨_, o2, rfl, rfl⟩ fun c o x => k15 (Heap.get?_push_of_some _ x)⟩
end
def iZipN (K : PySem.W.Frag) (ta : TA) : TI := fun σ H R => ta σ H fun vs H1 => ∃ a b xs ys, vs = [.ref a, .ref b] ∧ SqT K H1 a xs ∧ SqL K H1 b ys ∧ R (ItN K a b) H1
theorem pi_zipN {X : Cx} {e e2 : Expr} {ta : TA} {p pos tpos : Pos} {elts : List Expr} {kk : Nat} (hg : Gl X "zip") (hm : X.mg "zip" = none) (ha : PA X [e, e2] ta)
    (hs : starEach [e, e2] X.env = (false, eval e X.env) :: starEach [e2] X.env := by rfl) (hpl : (backTo pos (starEach [e2] X.env)).any (·.1) = false := by rfl) :
    PI X (.Tuple elts kk tpos) (.Call (.Name "zip" p) [e, e2] [] pos) (iZipN X.K ta) := by
  refine ⟨fun pins s σ H R I h => ?_⟩
  refine Call_ (ld_blt I hg hm PyProof.Rows.boot_zip (PyProof.Rows.callWith_type1 (thn (ha.run pos pins s σ H _ I h) fun us s1 z => ?_) hs hpl))
  obtain ⟨vs, H1, I1, r1, a, b, xs, ys, ex, hqx, hqy, q⟩ := z
  subst ex
  obtain rfl : us = [.ref a, .ref b] := by
    cases r1 with
    | cons r rr =>
      cases rr with
      | cons r' rr =>
        cases rr
        cases r
        cases r'
        rfl
  obtain ⟨its, rv, pl, _⟩ := I1.tuple hqx
  obtain ⟨its2, rv2, pt, _⟩ := I1.list hqy
  have lta : a < s1.heap.objs.size := by
    obtain ⟨o, ho, _⟩ := id pl
    exact Heap.lt_size ho
  refine call_zn (show s1.heap.IsTuple a its.toArray from pl) pt.isList fun h' hz hTI hTO t1 t2 hk => wpAny_pyIter_zip hz ?_
  have I2 : Inv X pins σ H1 { s1 with heap := h' } := I1.kept (t' := s1.toks) hk
  refine ⟨s1.heap.objs.size + 4, [s1.heap.objs.size + 4, s1.heap.objs.size + 2, s1.heap.objs.size + 3, s1.heap.objs.size, s1.heap.objs.size + 1], _, _, H1, rfl, I2, turn_n (PySem.W.ktu_apart s1.heap.objs.size a b lta pt.lt), ⟨hz, hTI, ⟨_, _, hTO⟩, t1, t2⟩, fun c hcm => ?_, q⟩
  have le : s1.heap.objs.size ≤ c := by
    simp only [List.mem_cons, List.not_mem_nil, or_false] at hcm
    rcases hcm with rfl | rfl | rfl | rfl | rfl <;> omega
  exact I1.fpOk le (I1.hok.fresh le)
/-- [e for x, y in zip(l, t)] -/
theorem lc_zipN {K : PySem.W.Frag} {a b : Addr} {xs ys : List V} {g : TG} {tt : TT} {te : TE} {vs : List Nat} {σ : L2.St} {H1 : Hp} {D : Addr} {Qd : Hp → Prop} (hl : xs.length = ys.length) (Pv : Nat → Hp → Prop) (h0 : Pv 0 (upd H1 D (.lst [])))
    (hq : ∀ i G, i ≤ xs.length → Pv i G → SqT K G a xs ∧ SqL K G b ys)
    (hs : ∀ (i : Nat) (x y : V) (T : Addr) (G : Hp), xs[i]? = some x → ys[i]? = some y → Pv i G → G T = none → g (.ref T) (wipe σ vs) (upd G T (.tup [x, y])) fun σ2 H2 => wipe σ2 vs = wipe σ vs ∧ tt σ2 H2 fun b H3 =>
      if b = true then te σ2 H3 fun y H4 => ∃ zs, H4 D = some (.lst zs) ∧ zs.length < sizeLine ∧ Pv (i + 1) (upd H4 D (.lst (zs ++ [y]))) else Pv (i + 1) H3) (hd : ∀ G, Pv xs.length G → Qd G) :
    ∃ W : Nat → Nat → Hp → Prop, (∃ m, W 0 m (upd H1 D (.lst []))) ∧ ∀ i m H, W i m H → ((ItN K a b).stop i H ∧ Qd H) ∨ ((ItN K a b).go i H ∧ ∃ Nx : Hp → Prop, (∀ H', Nx H' → ∃ m', m' < m ∧ W (i + 1) m' H') ∧ ∀ x H', (ItN K a b).yld i H x H' →
      g x (wipe σ vs) H' fun σ2 H2 => wipe σ2 vs = wipe σ vs ∧ tt σ2 H2 fun b H3 => if b = true then te σ2 H3 fun y H4 => ∃ zs, H4 D = some (.lst zs) ∧ zs.length < sizeLine ∧ Nx (upd H4 D (.lst (zs ++ [y]))) else Nx H3) := by
  refine ⟨fun i m H => m = xs.length - i ∧ i ≤ xs.length ∧ Pv i H, ⟨xs.length, by simp, Nat.zero_le _, h0⟩, fun i m H hw => ?_⟩
  obtain ⟨rfl, hi, p⟩ := hw
  obtain ⟨qx, qy⟩ := hq i H hi p
  by_cases lt : i < xs.length
  · refine .inr ⟨⟨xs, ys, xs[i], ys[i], qx, qy, List.getElem?_eq_getElem lt, List.getElem?_eq_getElem (by omega)⟩, Pv (i + 1), fun H' p' => ⟨xs.length - (i + 1), by omega, rfl, lt, p'⟩, fun v H' y => ?_⟩
    obtain ⟨T, x, y, rfl, nT, rfl, e1, e2⟩ := y
    exact hs i x y T H (e1 xs qx) (e2 ys qy) p nT
  · have e : i = xs.length := by omega
    subst e
    exact .inl ⟨⟨xs, ys, qx, qy, rfl, hl.symm⟩, hd H p⟩
end KX

set_option maxRecDepth 100000
set_option maxHeartbeats 4000000
/-! Ex33: zip of three lists -/
namespace KX
open PySem PySem.Spec PyProof.Rows L2
def It3 (K : PySem.W.Frag) (a b c : Addr) : It :=
  ⟨fun i H => ∃ (xs ys us : List V) (x y u : V), SqL K H a xs ∧ SqL K H b ys ∧ SqL K H c us ∧ xs[i]? = some x ∧ ys[i]? = some y ∧ us[i]? = some u,
    fun i H v G => ∃ T x y u, v = .ref T ∧ H T = none ∧ G = upd H T (.tup [x, y, u]) ∧ (∀ xs, SqL K H a xs → xs[i]? = some x) ∧ (∀ ys, SqL K H b ys → ys[i]? = some y) ∧ ∀ us, SqL K H c us → us[i]? = some u,
    fun i H => ∃ xs ys us : List V, SqL K H a xs ∧ SqL K H b ys ∧ SqL K H c us ∧ xs.length = i ∧ ys.length = i ∧ us.length = i⟩
structure Ap3 (z TI TO i1 i2 i3 a b c : Addr) : Prop where
  s : ZipSep3 z TI TO i1 i2 i3 [i1, a] [i2, b] [i3, c]
  la : a ≠ i1
  lb : b ≠ i2
  lc : c ≠ i3
theorem turn_3 {P : Program} {w : World} {K : PySem.W.Frag} {elts : List Expr} {kk : Nat} {tpos : Pos} {a b c z TI TO i1 i2 i3 : Addr} (D : Ap3 z TI TO i1 i2 i3 a b c) :
    Turn P w K (.Tuple elts kk tpos) (It3 K a b c) [z, TI, TO, i1, i2, i3] z (fun i h => IsZip h z TI TO .none ∧ IsTupOf3 h TI (.ref i1) (.ref i2) (.ref i3) ∧ (∃ x y u, IsTupOf3 h TO x y u) ∧ h.IsListIter i1 a i ∧ h.IsListIter i2 b i ∧ h.IsListIter i3 c i) where
  mem := by simp
  obj := fun i h st e hc => by
    obtain ⟨hz, hTI, ⟨x, y, u, hTO⟩, ⟨o1, e1, _, d1⟩, ⟨o2, e2, _, d2⟩, ⟨o3, e3, _, d3⟩⟩ := st
    simp only [List.mem_cons, List.not_mem_nil, or_false] at hc
    rcases hc with rfl | rfl | rfl | rfl | rfl | rfl
    · exact ⟨_, hz, fun v q => nomatch q⟩
    · exact ⟨_, hTI, fun v q => nomatch q⟩
    · exact ⟨_, hTO, fun v q => nomatch q⟩
    · exact ⟨o1, e1, fun v q => by rw [d1] at q; cases q⟩
    · exact ⟨o2, e2, fun v q => by rw [d2] at q; cases q⟩
    · exact ⟨o3, e3, fun v q => by rw [d3] at q; cases q⟩
  keep := fun i h h' st k => by
    obtain ⟨hz, hTI, ⟨x, y, u, hTO⟩, t1, t2, t3⟩ := st
    exact ⟨k z (by simp) _ hz, k TI (by simp) _ hTI, ⟨x, y, u, k TO (by simp) _ hTO⟩, t1.at fun o e => k i1 (by simp) o e, t2.at fun o q => k i2 (by simp) o q, t3.at fun o q => k i3 (by simp) o q⟩
  item := by
    intro X hP hw hK hc i pins s σ H E I hf st hg
    subst hP hw hK
    obtain ⟨hz, hTI, ⟨x0, y0, u0, hTO⟩, t1, t2, t3⟩ := st
    obtain ⟨xs, ys, us, x, y, u, hqx, hqy, hqu, hx, hy, hu⟩ := hg
    obtain ⟨it1, rv1, p1, _⟩ := I.list hqx
    obtain ⟨it2, rv2, p2, _⟩ := I.list hqy
    obtain ⟨it3, rv3, p3, _⟩ := I.list hqu
    obtain ⟨a1, ha1, ra1⟩ := rv1.get hx
    obtain ⟨a2, ha2, ra2⟩ := rv2.get hy
    obtain ⟨a3, ha3, ra3⟩ := rv3.get hu
    have zl : z < s.heap.objs.size := Heap.lt_size hz
    have hh : X.A.in1.handled = none := I.ok.hd hc
    have l1 : i < it1.toArray.size := by simpa using (List.getElem?_eq_some_iff.mp ha1).1
    have l2 : i < it2.toArray.size := by simpa using (List.getElem?_eq_some_iff.mp ha2).1
    have l3 : i < it3.toArray.size := by simpa using (List.getElem?_eq_some_iff.mp ha3).1
    refine wpAny_pyNext_zipD3_item D.s (Draws.list hh i1 a D.la it1.toArray) (Draws.list hh i2 b D.lb it2.toArray) (Draws.list hh i3 c D.lc it3.toArray) hz hTI hTO ⟨t1, p1.isList⟩ ⟨t2, p2.isList⟩ ⟨t3, p3.isList⟩ l1 l2 l3 fun x1 x2 x3 h' tk q1 q2 q3 z' TO' s1' s2' s3' hT hsz hk => ?_
    have e1 : x1 = a1 := Option.some.inj (q1.symm.trans (by simpa using ha1))
    have e2 : x2 = a2 := Option.some.inj (q2.symm.trans (by simpa using ha2))
    have e3 : x3 = a3 := Option.some.inj (q3.symm.trans (by simpa using ha3))
    subst e1 e2 e3
    refine ⟨_, rfl, wpAny_letOwnedTupleGo_zip (s := { s with heap := h', toks := tk }) z' fun h'' z'' sb => ?_⟩
    have hT2 : h''.get? s.heap.objs.size = some { cls := .type "tuple", data := .seq #[x1, x2, x3] } := (sb.2 _ (Nat.ne_of_gt zl)).trans hT
    have new : ObjOk X.prog X.w (upd H s.heap.objs.size (.tup [x, y, u])) h'' s.heap.objs.size (.tup [x, y, u]) := ⟨by show 3 ≤ sizeLine; decide, [x1, x2, x3], .cons ra1 (.cons ra2 (.cons ra3 .nil)), ⟨_, hT2, rfl, _, rfl⟩⟩
    have moved : ∀ e o, e ∉ [z, TI, TO, i1, i2, i3] → s.heap.get? e = some o → h''.get? e = some o := fun e o hb q => by
      simp only [List.mem_cons, List.not_mem_nil, or_false, not_or] at hb
      exact (sb.2 e hb.1).trans (hk e o hb.1 hb.2.2.1 hb.2.2.2.1 hb.2.2.2.2.1 hb.2.2.2.2.2 q)
    have I1 : Inv X pins σ (upd H s.heap.objs.size (.tup [x, y, u])) { s with heap := h'', toks := tk } := I.turnedNew (t' := tk) (ch := [z, TI, TO, i1, i2, i3]) moved hf (Nat.le_refl _) new
    have i1z : i1 ≠ z := D.s.zi1.symm
    have i2z : i2 ≠ z := D.s.zi2.symm
    have i3z : i3 ≠ z := D.s.zi3.symm
    refine ⟨.ref s.heap.objs.size, _, I1, rfl, ⟨_, x, y, u, rfl, I.hok.fresh (Nat.le_refl _), rfl, fun l hl => by rw [I.list_inj hl hqx]; exact hx, fun l hl => by rw [I.list_inj hl hqy]; exact hy, fun l hl => by rw [I.list_inj hl hqu]; exact hu⟩,
      ⟨z'', (sb.2 _ D.s.TIz).trans (hk _ _ D.s.TIz D.s.TITO D.s.TIi1 D.s.TIi2 D.s.TIi3 hTI), ⟨x1, x2, x3, (sb.2 _ D.s.TOz).trans TO'⟩, s1'.1.at fun o q => (sb.2 _ i1z).trans q, s2'.1.at fun o q => (sb.2 _ i2z).trans q, s3'.1.at fun o q => (sb.2 _ i3z).trans q⟩, fun e hcm => ?_⟩
    have lt : e < s.heap.objs.size := by
      simp only [List.mem_cons, List.not_mem_nil, or_false] at hcm
      rcases hcm with rfl | rfl | rfl | rfl | rfl | rfl
      · exact zl
      · exact Heap.lt_size hTI
      · exact Heap.lt_size hTO
      · obtain ⟨_, q, _⟩ := t1; exact Heap.lt_size q
      · obtain ⟨_, q, _⟩ := t2; exact Heap.lt_size q
      · obtain ⟨_, q, _⟩ := t3; exact Heap.lt_size q
    rw [upd_ne (Nat.ne_of_lt lt)]
    exact (hf e hcm).1
  done := by
    intro X hP hw hK hc i pins s σ H E I hf st hg
    subst hP hw hK
    obtain ⟨hz, hTI, ⟨x0, y0, u0, hTO⟩, t1, t2, t3⟩ := st
    obtain ⟨xs, ys, us, hqx, hqy, hqu, e1, e2, e3⟩ := hg
    obtain ⟨it1, rv1, p1, _⟩ := I.list hqx
    obtain ⟨it2, rv2, p2, _⟩ := I.list hqy
    obtain ⟨it3, rv3, p3, _⟩ := I.list hqu
    have l1 := rv1.length
    have l2 := rv2.length
    have l3 := rv3.length
    have hh : X.A.in1.handled = none := I.ok.hd hc
    have s1 : it1.toArray.size = i := by simp; omega
    have s2 : it2.toArray.size = i := by simp; omega
    have s3 : it3.toArray.size = i := by simp; omega
    refine wpAny_pyNext_zipD3_end D.s (Draws.list hh i1 a D.la it1.toArray) (Draws.list hh i2 b D.lb it2.toArray) (Draws.list hh i3 c D.lc it3.toArray) hz hTI hTO ⟨t1, p1.isList⟩ ⟨t2, p2.isList⟩ ⟨t3, p3.isList⟩ (by omega) (by omega) (by omega) (.inl s1.symm) fun h' tk hk => ⟨rfl, ?_⟩
    refine I.turnedL (t' := tk) (ch := [z, TI, TO, i1, i2, i3]) (fun e o hb q => ?_) hf
    simp only [List.mem_cons, List.not_mem_nil, or_false, not_or] at hb
    exact hk e o hb.1 hb.2.2.1 hb.2.2.2.1 hb.2.2.2.2.1 hb.2.2.2.2.2 q
  self := fun A i s Q E st h => wpAny_pyIter_zip st.1 h
def iZip3 (K : PySem.W.Frag) (ta : TA) : TI := fun σ H R => ta σ H fun vs H1 => ∃ a b c xs ys us, vs = [.ref a, .ref b, .ref c] ∧ SqL K H1 a xs ∧ SqL K H1 b ys ∧ SqL K H1 c us ∧ R (It3 K a b c) H1
theorem pi_zip3 {X : Cx} {e e2 e3 : Expr} {ta : TA} {p pos tpos : Pos} {elts : List Expr} {kk : Nat} (hg : Gl X "zip") (hm : X.mg "zip" = none) (ha : PA X [e, e2, e3] ta)
    (hs : starEach [e, e2, e3] X.env = (false, eval e X.env) :: starEach [e2, e3] X.env := by rfl) (hpl : (backTo pos (starEach [e2, e3] X.env)).any (·.1) = false := by rfl) :
    PI X (.Tuple elts kk tpos) (.Call (.Name "zip" p) [e, e2, e3] [] pos) (iZip3 X.K ta) := by
  refine ⟨fun pins s σ H R I h => ?_⟩
  refine Call_ (ld_blt I hg hm PyProof.Rows.boot_zip (PyProof.Rows.callWith_type1 (thn (ha.run pos pins s σ H _ I h) fun us s1 z => ?_) hs hpl))
  obtain ⟨vs, H1, I1, r1, a, b, c, xs, ys, us3, ex, hqx, hqy, hqu, q⟩ := z
  subst ex
  obtain rfl : us = [.ref a, .ref b, .ref c] := by
    cases r1 with
    | cons r rr =>
      cases rr with
      | cons r' rr =>
        cases rr with
        | cons r'' rr =>
          cases rr
          cases r
          cases r'
          cases r''
          rfl
  obtain ⟨it1, rv1, p1, _⟩ := I1.list hqx
  obtain ⟨it2, rv2, p2, _⟩ := I1.list hqy
  obtain ⟨it3, rv3, p3, _⟩ := I1.list hqu
  have la := p1.lt
  have lb := p2.lt
  have lc := p3.lt
  refine zip_begins3 (begins_list a it1.toArray) (begins_list b it2.toArray) (begins_list c it3.toArray) p1.isList p2.isList p3.isList fun h' hz hTI hTO g1 g2 g3 hsz hk => wpAny_pyIter_zip hz ?_
  have I2 : Inv X pins σ H1 { s1 with heap := h' } := I1.kept (t' := s1.toks) hk
  have ap : Ap3 (s1.heap.objs.size + 5) (s1.heap.objs.size + 3) (s1.heap.objs.size + 4) s1.heap.objs.size (s1.heap.objs.size + 1) (s1.heap.objs.size + 2) a b c :=
    ⟨zip_sep3 (fp1 := [a]) (fp2 := [b]) (fp3 := [c]) (fun d hd => by rw [List.mem_singleton.mp hd]; exact la) (fun d hd => by rw [List.mem_singleton.mp hd]; exact lb) (fun d hd => by rw [List.mem_singleton.mp hd]; exact lc), Nat.ne_of_lt la, Nat.ne_of_lt (Nat.lt_succ_of_lt lb), Nat.ne_of_lt (Nat.lt_succ_of_lt (Nat.lt_succ_of_lt lc))⟩
  refine ⟨s1.heap.objs.size + 5, [s1.heap.objs.size + 5, s1.heap.objs.size + 3, s1.heap.objs.size + 4, s1.heap.objs.size, s1.heap.objs.size + 1, s1.heap.objs.size + 2], _, _, H1, rfl, I2, turn_3 ap, ⟨hz, hTI, ⟨_, _, _, hTO⟩, ⟨_, g1, rfl, rfl⟩, ⟨_, g2, rfl, rfl⟩, ⟨_, g3, rfl, rfl⟩⟩, fun d hcm => ?_, q⟩
  have le : s1.heap.objs.size ≤ d := by
    simp only [List.mem_cons, List.not_mem_nil, or_false] at hcm
    rcases hcm with rfl | rfl | rfl | rfl | rfl | rfl <;> omega
  exact I1.fpOk le (I1.hok.fresh le)
/-- [e for x, y, u in zip(l, m, n)] -/
theorem lc_zip3 {K : PySem.W.Frag} {a b c : Addr} {xs ys us : List V} {g : TG} {tt : TT} {te : TE} {vs : List Nat} {σ : L2.St} {F : Hp} {D : Addr} {Fin : Hp → Prop} (l1 : xs.length = ys.length) (l2 : us.length = ys.length) (Pv : Nat → Hp → Prop) (base : Pv 0 (upd F D (.lst [])))
    (stays : ∀ i G, i ≤ ys.length → Pv i G → SqL K G a xs ∧ SqL K G b ys ∧ SqL K G c us)
    (step : ∀ (i : Nat) (x y u : V) (T : Addr) (G : Hp), xs[i]? = some x → ys[i]? = some y → us[i]? = some u → Pv i G → G T = none → g (.ref T) (wipe σ vs) (upd G T (.tup [x, y, u])) fun σ2 G2 => wipe σ2 vs = wipe σ vs ∧ tt σ2 G2 fun q G3 =>
      if q = true then te σ2 G3 fun v G4 => ∃ ws, G4 D = some (.lst ws) ∧ ws.length < sizeLine ∧ Pv (i + 1) (upd G4 D (.lst (ws ++ [v]))) else Pv (i + 1) G3) (last : ∀ G, Pv ys.length G → Fin G) :
    ∃ W : Nat → Nat → Hp → Prop, (∃ m, W 0 m (upd F D (.lst []))) ∧ ∀ i m G, W i m G → ((It3 K a b c).stop i G ∧ Fin G) ∨ ((It3 K a b c).go i G ∧ ∃ Nx : Hp → Prop, (∀ G', Nx G' → ∃ m', m' < m ∧ W (i + 1) m' G') ∧ ∀ x G', (It3 K a b c).yld i G x G' →
      g x (wipe σ vs) G' fun σ2 G2 => wipe σ2 vs = wipe σ vs ∧ tt σ2 G2 fun q G3 => if q = true then te σ2 G3 fun v G4 => ∃ ws, G4 D = some (.lst ws) ∧ ws.length < sizeLine ∧ Nx (upd G4 D (.lst (ws ++ [v]))) else Nx G3) := by
  refine ⟨fun i m G => m = ys.length - i ∧ i ≤ ys.length ∧ Pv i G, ⟨ys.length, by simp, Nat.zero_le _, base⟩, fun i m G hw => ?_⟩
  obtain ⟨rfl, hi, p⟩ := hw
  obtain ⟨q1, q2, q3⟩ := stays i G hi p
  by_cases lt : i < ys.length
  · refine .inr ⟨⟨xs, ys, us, xs[i], ys[i], us[i], q1, q2, q3, List.getElem?_eq_getElem (by omega), List.getElem?_eq_getElem lt, List.getElem?_eq_getElem (by omega)⟩, Pv (i + 1), fun G' p' => ⟨ys.length - (i + 1), by omega, rfl, lt, p'⟩, fun v G' yl => ?_⟩
    obtain ⟨T, x, y, u, rfl, nT, rfl, e1, e2, e3⟩ := yl
    exact step i x y u T G (e1 xs q1) (e2 ys q2) (e3 us q3) p nT
  · have e : i = ys.length := by omega
    subst e
    exact .inl ⟨⟨xs, ys, us, q1, q2, q3, l1, rfl, l2⟩, last G p⟩
end KX

set_option maxRecDepth 100000
set_option maxHeartbeats 4000000
/-! Ex34: what is told is locked: for k, v in f(..).items() -/
namespace KX
open PySem PySem.Spec PyProof.Rows L2
def tFrz (t : TE) : TE := fun σ H Q => t σ H fun x H1 => ∃ d u, x = .ref d ∧ H1 d = some u ∧ Mut (some u) ∧ ∀ od, Q x (upd H1 d (.frz od u))
theorem pe_frz {X : Cx} {e : PySem.Expr} {t : TE} (h : PE X e t) : PE X e (tFrz t) := ⟨fun pins s σ H Q I z => thn (h.run pins s σ H _ I z) fun u s' q => by
  obtain ⟨v, H', I', r, d, w, rfl, e1, m, k⟩ := q
  obtain ⟨od, I2⟩ := I'.lock e1 m
  exact ⟨_, _, I2, r, k od⟩⟩
end KX

set_option maxRecDepth 100000
set_option maxHeartbeats 4000000
namespace G1
open PySem PySem.Spec PyProof.Rows L2 KX
/-! ### arguments, parts -/
theorem widthI_sub {wd : Nat} {rs : List Rec} (h : RsP wd rs) (w4 : wd ≤ 4) : (wd : Int) ≤ widthI rs := by
  cases rs with
  | nil =>
    show (wd : Int) ≤ 4
    omega
  | cons r rs =>
    obtain ⟨_, _, o⟩ := h.ok r (by simp)
    show (wd : Int) ≤ (r.vals.length : Int)
    rw [o.len]
    exact Int.le_refl _
/-- what the law asks with -/
structure Ak (wd : Nat) (os : List Ord) (c : Int) (k n : Nat) : Prop where
  w1 : 1 ≤ wd
  w4 : wd ≤ 4
  oo : OrdOk (wd : Int) os
  c0 : 0 ≤ c
  c1 : c < (wd : Int)
  n1 : 1 ≤ n
  n9 : n ≤ 9
  k1 : 1 ≤ k
  k9 : k ≤ 9
theorem Ak.ag {wd : Nat} {os : List Ord} {c : Int} {k n : Nat} {rs ss : List Rec} (a : Ak wd os c k n) (h : RsP wd rs) (hl : rs.length ≤ 60) (s : ss.Sublist rs) : Ag os c k n ss :=
  ⟨hg_of (h.sub s) a.w1 a.w4 (Nat.le_trans s.length_le hl) a.oo, a.c0, by have := widthI_sub (h.sub s) a.w4; have := a.c1; omega, a.n1, a.n9, a.k1, a.k9⟩
/-- the arguments, in the heap -/
def ArgT (l : Addr) (H : Hp) (t : Addr) (os : List Ord) (c : Int) (k n : Nat) : Prop := t ≠ l ∧ ∃ ov, H t = some (.tup [ov, .int (n : Int), .int c, .int (k : Int)]) ∧ Dx (hid l H) ov (.tuple (os.map encO))
theorem ArgT.ext {l : Addr} {H H' : Hp} {t : Addr} {os : List Ord} {c : Int} {k n : Nat} (h : ArgT l H t os c k n) (e : LamX.ExtN (hid l H) (hid l H')) : ArgT l H' t os c k n := by
  obtain ⟨nt, ov, et, ho⟩ := h
  refine ⟨nt, ov, ?_, ho.ext e⟩
  have := e t _ (by rw [hid_at nt]; exact et) (fun ps z => by cases z)
  rwa [hid_at nt] at this
theorem filter_part {a b : Rec → Bool} {rs : List Rec} (h : ∀ r ∈ rs, a r = true → b r = true) : (rs.filter a).Sublist (rs.filter b) := by
  have : (rs.filter b).filter a = rs.filter a := by
    rw [List.filter_filter]
    refine List.filter_congr fun r hr => ?_
    cases ha : a r with
    | false => simp
    | true => simp [h r hr ha]
  rw [← this]
  exact List.filter_sublist
theorem nm_inj {rs : List Rec} (nd : (rs.map (fun r : Rec => r.nm)).Nodup) {x y : Rec} (hx : x ∈ rs) (hy : y ∈ rs) (e : x.nm = y.nm) : x = y := by
  induction rs with
  | nil => cases hx
  | cons r rs ih =>
    rw [List.map_cons, List.nodup_cons] at nd
    rcases List.mem_cons.mp hx with rfl | hx' <;> rcases List.mem_cons.mp hy with rfl | hy'
    · rfl
    · exact absurd (e ▸ List.mem_map.mpr ⟨y, hy', rfl⟩) nd.1
    · exact absurd (e ▸ List.mem_map.mpr ⟨x, hx', rfl⟩) nd.1
    · exact ih nd.2 hx' hy'
theorem eqv_nm {x y : Rec} (h : PyData.eqv (encR x) (encR y) = true) : x.nm = y.nm := by
  simp only [encR, PyData.eqv, PyData.eqvAll, Bool.and_eq_true] at h
  simpa using h.1
/-- row in rows -/
def inR (ms : List Rec) (r : Rec) : Bool := (ms.map encR).any fun z => PyData.eqv z (encR r)
theorem inR_mem {ms rs : List Rec} (nd : (rs.map (fun r : Rec => r.nm)).Nodup) (s : ms.Sublist rs) {r : Rec} (hr : r ∈ rs) (h : inR ms r = true) : r ∈ ms := by
  obtain ⟨d, hd, e⟩ := List.any_eq_true.mp h
  obtain ⟨z, hz, rfl⟩ := List.mem_map.mp hd
  rw [← nm_inj nd (s.subset hz) hr (eqv_nm e)]
  exact hz
theorem rec_plain (r : Rec) : (encR r).plain = true := by
  simp only [encR, PyData.plain, PyData.plainAll, Bool.and_eq_true, Bool.and_true, and_true, true_and]
  induction r.vals with
  | nil => simp [PyData.plainAll]
  | cons n ns ih => simp [PyData.plainAll, PyData.plain, ih]
theorem recs_plain (rs : List Rec) : PyData.plainAll (rs.map encR) = true := by
  induction rs with
  | nil => rfl
  | cons r rs ih => simp [PyData.plainAll, rec_plain r, ih]
theorem recs_nol (rs : List Rec) : noL (.tuple (rs.map encR)) = true := by
  simp only [noL]
  exact noL_recs rs
theorem recs_upd {G : Hp} {R : Addr} {xs ys : List V} {v : V} {rs : List Rec} (e : G R = some (.lst xs)) (h : Dx G v (.tuple (rs.map encR))) : Dx (upd G R (.lst ys)) v (.tuple (rs.map encR)) :=
  (dx_noL e _ _ (recs_nol rs) h).up fun b o q => by
    obtain ⟨nb, q⟩ := hid_some q
    rw [upd_ne nb]
    exact q
end G1

set_option maxRecDepth 100000
set_option maxHeartbeats 4000000
namespace G1
open PySem PySem.Spec PyProof.Rows L2 KX
/-! ### _law_small_holds -/
abbrev sSml : Stmt := topS 75
abbrev NSml : List Str := ["stream", "wide", "arguments", "rows", "subsets", "kind", "subset", "middle", "smaller", "row", "names"]
theorem scSml : FnScope NSml ["stream", "wide", "arguments"] (defScope sSml) := ⟨rfl, rfl, rfl, by decide +kernel, rfl, by decide +kernel, by decide +kernel⟩
def spSml (P0 : Addr) : Sp := fun vs H Q _ => ∃ (l t : Addr) (wd : Nat) (os : List Ord) (c : Int) (n k : Nat), vs = [.ref l, .int (wd : Int), .ref t] ∧ StO H l ∧ LamX.Tabs (TS P0) H ∧ ArgT l H t os c k n ∧ Ak wd os c k n ∧
  ∀ H', LamX.ExtN (hid l H) (hid l H') → StO H' l → LamX.Tabs (TS P0) H' → Q (.bl true) H'
section
variable {P : Program} {w : World} {K : PySem.W.Frag} {mg : Str → Option Value} {base : Heap}
theorem ok_sml {k : Nat} {P0 f fR fD fS fN fH : Addr} {fd gR gD gS gN gH : FuncData} (B : Bl mg) (D : Df K mg "_law_small_holds" sSml ["stream", "wide", "arguments"] f fd)
    (DR : Df K mg "_law_rowset" sRs ["stream", "total", "wide"] fR gR) (DD : Df K mg "_law_draw" sDraw ["stream", "total"] fD gD) (DS : Df K mg "_law_subsets" sSub ["names"] fS gS) (DN : Df K mg "_law_rows_named" sRNm ["rows", "names"] fN gN) (DH : Df K mg "_law_subset_holds" sSH ["kind", "rows", "subset", "arguments"] fH gH)
    (GR : FnOk P w K mg base CX0 k fR gR ["stream", "total", "wide"] spRs) (GD : FnOk P w K mg base CX0 k fD gD ["stream", "total"] spDraw) (GS : FnOk P w K mg base CX0 k fS gS ["names"] (spSub K)) (GN : FnOk P w K mg base CX0 k fN gN ["rows", "names"] spRNm) (GH : FnOk P w K mg base CX0 k fH gH ["kind", "rows", "subset", "arguments"] (spSH P0)) :
    FnOk P w K mg base CX0 (k + 1) f fd ["stream", "wide", "arguments"] (spSml P0) := by
  refine D.F.ok scSml (fun vs H Q E h => ?_) (fun cdv A outer s H vs Q E hr h => ?_)
  · obtain ⟨l, t, wd, os, c, n, kk, rfl, _⟩ := h
    rfl
  · obtain ⟨l, t, wd, os, c, n, kk, rfl, st, ht, hA, ak, q⟩ := h
    have nd := scSml.nd
    refine ⟨_, pss_cons (ps_set (i := 3) nd rfl (.inr rfl) (pe_call GR hr (by rfl) DR.g DR.F.kp DR.b .nil pass0 (pa_cons (pv 0) (pa_cons (pe_call GD hr (by rfl) DD.g DD.F.kp DD.b .nil pass0 (pa_cons (pv 0) (pa_cons pe_int pa_nil))) (pa_cons (pv 1) pa_nil)))))
      (pss_cons (ps_setLc (i := 4) (own := [("names", 10)]) (g := gName 10) (by rfl) nd rfl rfl (sw_true rfl rfl rfl (by decide +kernel)) (pi_list (pe_call GS hr (by rfl) DS.g DS.F.kp DS.b .nil pass0 (pa_cons (pe_lc (own := [("row", 9)]) (g := gName 9) rfl nd (pi_tup (pv 3)) (blkOk_by (N := NSml) (sc := defScope sSml) (by decide +kernel)) (fun _ _ _ _ _ => pg_name (i := 9) nd rfl (Or.inl rfl)) (fun _ _ _ _ _ => pts_nil) (fun _ _ _ _ _ => pe_ix (r := rIxT K) ix_tup (pv 9) pe_int (fun _ _ => rfl))) pa_nil)))
        (blkOk_by (N := NSml) (sc := defScope sSml) (by decide +kernel)) (fun _ _ _ _ _ => pg_name (i := 10) nd rfl (Or.inl rfl)) (fun _ _ _ _ _ => pts_nil) (fun _ _ _ _ _ => pe_call GN hr (by rfl) DN.g DN.F.kp DN.b .nil pass0 (pa_cons (pv 3) (pa_cons (pv 10) pa_nil))))
      (pss_cons (ps_for PassesOwn.never rfl (pi_range1 (by rfl) B.range (pa_cons pe_int pa_nil)) (pg_name (i := 5) nd rfl (.inl rfl))
        (pss_cons (ps_for PassesOwn.never rfl (pi_list (pv 4)) (pg_name (i := 6) nd rfl (.inl rfl)) (pss_one (ps_if (pt_not (pt_val (pe_call GH hr (by rfl) DH.g DH.F.kp DH.b .nil pass0 (pa_cons (pv 5) (pa_cons (pv 3) (pa_cons (pv 6) (pa_cons (pv 2) pa_nil))))))) (pss_one (ps_ret pe_bl)) pss_nil)))
        (pss_cons (ps_set (i := 7) nd rfl (.inr rfl) (pe_ix (r := rIxL K) ix_list (pv 4) (pe_call GD hr (by rfl) DD.g DD.F.kp DD.b .nil pass0 (pa_cons (pv 0) (pa_cons (pe_callB call_len_seq (by rfl) B.len PySem.boot_len (pa_cons (pv 4) pa_nil)) pa_nil))) (fun _ _ => rfl)))
        (pss_one (ps_for PassesOwn.never rfl (pi_list (pv 4)) (pg_name (i := 6) nd rfl (.inl rfl))
          (pss_cons (ps_set (i := 8) nd rfl (.inl rfl) (pe_callTy call_tuple_of (by rfl) B.tuple (by decide +kernel) (pa_cons (pe_lc (own := [("row", 9)]) (g := gName 9) rfl nd (pi_tup (pv 6)) (blkOk_by (N := NSml) (sc := defScope sSml) (by decide +kernel)) (fun _ _ _ _ _ => pg_name (i := 9) nd rfl (Or.inl rfl)) (fun _ _ _ _ _ => pts_one (pt_cmpR (r := rInT K id) (op_inTD hr.units) (pv 9) (pv 7) (by rfl))) (fun _ _ _ _ _ => pv 9)) pa_nil)))
          (pss_one (ps_if (pt_not (pt_val (pe_call GH hr (by rfl) DH.g DH.F.kp DH.b .nil pass0 (pa_cons (pv 5) (pa_cons (pv 7) (pa_cons (pv 8) (pa_cons (pv 2) pa_nil))))))) (pss_one (ps_ret pe_bl)) pss_nil))))))))
      (pss_one (ps_ret pe_bl)))), ?_⟩
    have big : (1000 : Nat) < sizeLine := by decide
    -- rows
    refine ⟨.ref l, rfl, .ref l, rfl, l, 7, rfl, st, by decide, by decide, fun H1 m k1 st1 m0 m7 => ?_⟩
    obtain ⟨nr, rfl⟩ : ∃ nr : Nat, m = (nr : Int) := ⟨m.toNat, by omega⟩
    refine ⟨.int (wd : Int), rfl, l, nr, wd, rfl, st1, by omega, ak.w1, ak.w4, fun H2 pr recs k2 st2 hlen hmade hR => ?_⟩
    have hsl : (sortR recs).length = recs.length := List.length_mergeSort _
    have hl6 : (sortR recs).length ≤ 6 := by omega
    have sp := made_rsp hmade (by omega)
    generalize sortR recs = rs at hR hl6 sp
    have k12 := k1.trans k2
    have t2 := tabs_keep k12 st ht
    have A2 := hA.ext (keep_ext k12)
    clear hsl hmade hlen k1 st1
    obtain ⟨a, xs, ea0, na, ea, hx⟩ := dx_tupOf hR
    cases ea0
    have lx := hx.len
    rw [List.length_map] at lx
    refine gn_to (σ' := ([some (.ref l), some (.int (wd : Int)), some (.ref t), some (.ref pr), none, none, none, none, none, none, none] : L2.St)) rfl ?_
    dsimp only
    -- subsets
    refine ⟨.ref pr, rfl, pr, rfl, ⟨_, .inl (.inl ea)⟩, fun D1 nD1 => ?_⟩
    refine lc_tup (xs := xs) (fun k N => Same H2 N ∧ N D1 = some (.lst (((rs.take k).map (·.nm)).map V.str))) ⟨same_new nD1, upd_same⟩ (fun k N _ hN => .inl (.inl (hN.1 _ _ ea))) (fun k x N hxk hN => ?_) (fun N hN => ?_)
    · obtain ⟨sN, eD⟩ := hN
      obtain ⟨dd, edd, hdx⟩ := hx.get' hxk
      rw [List.getElem?_map] at edd
      obtain ⟨r, er, rfl⟩ := Option.map_eq_some_iff.mp edd
      have kl : k < rs.length := (List.getElem?_eq_some_iff.mp er).1
      obtain ⟨rb, z, vs, rfl, erb, _⟩ := row_dx ((hdx.up (hid_same l H2)).up sN)
      refine ⟨rfl, .ref rb, rfl, rb, _, 0, .str r.nm, rfl, rfl, .inl (.inl erb), rfl, _, eD, ?_, same_at sN nD1, ?_⟩
      · rw [List.length_map, List.length_map, List.length_take]
        omega
      · rw [upd_same, List.take_add_one, er, List.map_append, List.map_append]
        rfl
    obtain ⟨sN, eN⟩ := hN
    rw [List.take_of_length_le (by omega)] at eN
    refine ⟨D1, rs.map (·.nm), rfl, .inl (.inl eN), by rw [List.length_map]; exact hl6, fun N1 S0 ws s1 eS0 lw hw => ⟨S0, rfl, ⟨_, .inl (.inl eS0)⟩, fun D2 nD2 => ?_⟩⟩
    rw [List.length_map] at lw
    have l64 : ws.length ≤ 64 := by
      have : 2 ^ rs.length ≤ 2 ^ 6 := Nat.pow_le_pow_right (by decide) hl6
      omega
    have l1 : 1 ≤ ws.length := by
      have : 0 < 2 ^ rs.length := Nat.pow_pos (by decide)
      omega
    have sN1 := sN.trans s1
    have xR := (hR.up (hid_same l H2)).up sN1
    refine lc_list (xs := ws) (fun k N => Same N1 N ∧ ∃ ys, N D2 = some (.lst ys) ∧ ys.length = k ∧ ∀ y ∈ ys, ∃ f : Rec → Bool, Dx N y (.tuple ((rs.filter f).map encR))) ⟨same_new nD2, [], upd_same, rfl, fun y h => nomatch h⟩ (fun k N _ hN => .inl (.inl (hN.1 _ _ eS0))) (fun k x N hxk hN => ?_) (fun N2 hN => ?_)
    · obtain ⟨sM, ys, eD, ly, hy⟩ := hN
      have kl : k < ws.length := (List.getElem?_eq_some_iff.mp hxk).1
      obtain ⟨b, ms, rfl, eb, lb⟩ := (hw x (List.mem_of_getElem? hxk)).up sM (Nat.le_refl _)
      refine ⟨rfl, .ref pr, rfl, .ref b, rfl, .ref pr, .ref b, rs, ms, rfl, xR.up sM, by omega, .tup eb (dxs_strs ms), fun N3 p s3 x3 => ?_⟩
      have eD3 := s3 _ _ eD
      refine ⟨ys, eD3, by omega, same_at (sM.trans s3) nD2, ys ++ [.ref p], upd_same, by rw [List.length_append, ly]; rfl, fun y h => ?_⟩
      rcases List.mem_append.mp h with h | h
      · obtain ⟨f, hf⟩ := hy y h
        exact ⟨f, recs_upd eD3 (hf.up s3)⟩
      · rw [List.mem_singleton.mp h]
        exact ⟨_, recs_upd eD3 x3⟩
    obtain ⟨sM, zs, eS, lz, hz⟩ := hN
    have s23 := sN1.trans sM
    have st3 := st2.same s23
    have t3 := tabs_same s23 t2
    have e3 := ext_hid (l := l) (ext_same s23)
    have A3 := A2.ext e3
    have xR := recs_hid st3 (xR.up sM)
    have hz : ∀ z ∈ zs, ∃ f : Rec → Bool, Dx (hid l N2) z (.tuple ((rs.filter f).map encR)) := fun z m => by
      obtain ⟨f, hf⟩ := hz z m
      exact ⟨f, recs_hid st3 hf⟩
    have nS : D2 ≠ l := (st2.same sN1).ne nD2
    have e03 : LamX.ExtN (hid l H) (hid l N2) := (keep_ext k12).trans e3
    refine gn_to (σ' := ([some (.ref l), some (.int (wd : Int)), some (.ref t), some (.ref pr), some (.ref D2), none, none, none, none, none, none] : L2.St)) rfl ?_
    dsimp only
    clear eN nD1 nD2 hw eS0 sN s1 sN1 sM s23 e3 A2 t2 st2 hR k2 k12 hx ea lw
    generalize N2 = H3 at *
    have agR := ak.ag sp (by omega) (List.Sublist.refl rs)
    have agS : ∀ f : Rec → Bool, Ag os c kk n (rs.filter f) := fun f => ak.ag sp (by omega) List.filter_sublist
    have nt : ∀ {xs : List V} ps, HO.lst xs ≠ .tbl ps := fun ps z => by cases z
    have atS : ∀ {F : Hp}, LamX.ExtN (hid l H3) (hid l F) → F D2 = some (.lst zs) := fun {F} e => by
      have := e D2 _ (by rw [hid_at nS]; exact eS) nt
      rwa [hid_at nS] at this
    refine ⟨2, rfl, by decide, by decide, ?_⟩
    refine for_range (lo := 0) (n := 2) (fun j σ F => LamX.ExtN (hid l H3) (hid l F) ∧ StO F l ∧ LamX.Tabs (TS P0) F ∧ ∃ o5 o6 o7 o8 : Option V, σ = [some (.ref l), some (.int (wd : Int)), some (.ref t), some (.ref pr), some (.ref D2), o5, o6, o7, o8, none, none])
      ⟨LamX.ExtN.refl _, st3, t3, none, none, none, none, rfl⟩ (fun j σ F hj hF => ?_) (fun σ F hF => ?_)
    · obtain ⟨eF, sF, tF, o5, o6, o7, o8, rfl⟩ := hF
      refine gn_to (σ' := ([some (.ref l), some (.int (wd : Int)), some (.ref t), some (.ref pr), some (.ref D2), some (.int (0 + (j : Int))), o6, o7, o8, none, none] : L2.St)) rfl ?_
      refine ⟨.ref D2, rfl, D2, rfl, ⟨_, .inl (.inl (atS eF))⟩, ?_⟩
      refine for_list (xs := zs) (fun i σ F => LamX.ExtN (hid l H3) (hid l F) ∧ StO F l ∧ LamX.Tabs (TS P0) F ∧ ∃ o6 : Option V, σ = [some (.ref l), some (.int (wd : Int)), some (.ref t), some (.ref pr), some (.ref D2), some (.int (0 + (j : Int))), o6, o7, o8, none, none])
        ⟨eF, sF, tF, o6, rfl⟩ (fun i σ F _ hF => .inl (.inl (atS hF.1))) (fun i x σ F hx hF => ?_) (fun σ F hF => ?_)
      · obtain ⟨eF, sF, tF, o6, rfl⟩ := hF
        obtain ⟨f, hf⟩ := hz x (List.mem_of_getElem? hx)
        obtain ⟨_, ov, et, ho⟩ := A3.ext eF
        refine gn_to (σ' := ([some (.ref l), some (.int (wd : Int)), some (.ref t), some (.ref pr), some (.ref D2), some (.int (0 + (j : Int))), some x, o7, o8, none, none] : L2.St)) rfl ?_
        refine ⟨.int (0 + (j : Int)), rfl, .ref pr, rfl, x, rfl, .ref t, rfl, 0 + (j : Int), .ref pr, x, ov, t, rs, rs.filter f, os, c, n, kk, rfl, tF, (xR.ext eF).up (hid_same l F), (hf.ext eF).up (hid_same l F), et, ho.up (hid_same l F), agR, agS f, List.filter_sublist, sp.nd, fun F2 e2 t2 => ⟨_, rfl, iteF ?_⟩⟩
        exact ⟨eF.trans (ext_hid e2), sto_ext e2 sF, t2, _, rfl⟩
      · obtain ⟨eF, sF, tF, o6, rfl⟩ := hF
        -- middle
        refine ⟨.ref D2, rfl, .ref l, rfl, .ref D2, rfl, D2, zs, rfl, .inl (.inl (.inl (atS eF))), l, (zs.length : Int), rfl, sF, by omega, by omega, fun F2 d k2 s2 d0 d1 => ?_⟩
        obtain ⟨di, rfl⟩ : ∃ di : Nat, d = (di : Int) := ⟨d.toNat, by omega⟩
        have dl : di < zs.length := by omega
        have e2 := eF.trans (keep_ext k2)
        refine ⟨D2, zs, (di : Int), zs[di], rfl, rfl, .inl (.inl (atS e2)), atI_nat (List.getElem?_eq_getElem dl), ?_⟩
        obtain ⟨mf, hmf⟩ := hz zs[di] (List.getElem_mem dl)
        have t2 := tabs_keep k2 sF tF
        refine gn_to (σ' := ([some (.ref l), some (.int (wd : Int)), some (.ref t), some (.ref pr), some (.ref D2), some (.int (0 + (j : Int))), o6, some zs[di], o8, none, none] : L2.St)) rfl ?_
        dsimp only
        generalize zs[di] = mid at hmf
        refine ⟨.ref D2, rfl, D2, rfl, ⟨_, .inl (.inl (atS e2))⟩, ?_⟩
        refine for_list (xs := zs) (fun i σ F => LamX.ExtN (hid l H3) (hid l F) ∧ StO F l ∧ LamX.Tabs (TS P0) F ∧ ∃ o6 o8 : Option V, σ = [some (.ref l), some (.int (wd : Int)), some (.ref t), some (.ref pr), some (.ref D2), some (.int (0 + (j : Int))), o6, some mid, o8, none, none])
          ⟨e2, s2, t2, o6, o8, rfl⟩ (fun i σ F _ hF => .inl (.inl (atS hF.1))) (fun i x σ F hx hF => ?_) (fun σ F hF => ?_)
        · obtain ⟨eF, sF, tF, o6, o8, rfl⟩ := hF
          obtain ⟨f, hf⟩ := hz x (List.mem_of_getElem? hx)
          have hf := (hf.ext eF).up (hid_same l F)
          have hm := (hmf.ext eF).up (hid_same l F)
          obtain ⟨b, ys, rfl, eb, hy⟩ := dx_tup' hf
          refine gn_to (σ' := ([some (.ref l), some (.int (wd : Int)), some (.ref t), some (.ref pr), some (.ref D2), some (.int (0 + (j : Int))), some (.ref b), some mid, o8, none, none] : L2.St)) rfl ?_
          have lf : (rs.filter f).length ≤ 6 := Nat.le_trans (List.length_filter_le _ _) hl6
          refine ⟨.ref b, rfl, b, rfl, ⟨_, .inl (.inl eb)⟩, fun L nL => ?_⟩
          refine lc_filterS (inR (rs.filter mf)) nL eb hy (by omega) (fun r x G hr sG hdx Pt Pf hP => ?_) (fun G zs2 sG eL hz2 => ?_)
          · refine ⟨rfl, x, rfl, mid, rfl, encR r, (rs.filter mf).map encR, dp_dx _ _ (rec_plain r) hdx, dp_dx _ _ (recs_plain _) (hm.up sG), rec_plain r, recs_plain _, ?_, ?_⟩
            · refine depthAll_le fun e he => ?_
              obtain ⟨r2, _, rfl⟩ := List.mem_map.mp he
              exact Nat.le_trans (depth_rec r2) (by omega)
            · refine ⟨_, rfl, ?_⟩
              show if inR (rs.filter mf) r = true then _ else _
              have z2 := hP G (Same.refl _)
              by_cases hh : inR (rs.filter mf) r = true
              · rw [if_pos hh] at z2 ⊢
                exact ⟨_, rfl, z2⟩
              · rw [if_neg hh] at z2 ⊢
                exact z2
          · refine ⟨L, zs2, rfl, .inl ⟨.inl (.inl eL), fun p np => ?_⟩⟩
            have sp2 := same_new (o := .tup zs2) np
            have sFp := sG.trans sp2
            have xS : Dx (upd G p (.tup zs2)) (.ref p) (.tuple (((rs.filter f).filter (inR (rs.filter mf))).map encR)) := .tup upd_same ((hz2.up (hid_same L G)).up sp2)
            refine gn_to (σ' := ([some (.ref l), some (.int (wd : Int)), some (.ref t), some (.ref pr), some (.ref D2), some (.int (0 + (j : Int))), some (.ref b), some mid, some (.ref p), none, none] : L2.St)) rfl ?_
            dsimp only
            generalize upd G p (.tup zs2) = F2 at sFp xS
            have e2 := eF.trans (ext_hid (ext_same sFp))
            obtain ⟨_, ov, et, ho⟩ := A3.ext e2
            have eqf : (rs.filter f).filter (inR (rs.filter mf)) = rs.filter (fun r => inR (rs.filter mf) r && f r) := by rw [List.filter_filter]
            have sub : ((rs.filter f).filter (inR (rs.filter mf))).Sublist (rs.filter mf) := by
              rw [eqf]
              refine filter_part fun r hr h => ?_
              rw [Bool.and_eq_true] at h
              exact (List.mem_filter.mp (inR_mem sp.nd List.filter_sublist hr h.1)).2
            refine ⟨.int (0 + (j : Int)), rfl, mid, rfl, .ref p, rfl, .ref t, rfl, 0 + (j : Int), mid, .ref p, ov, t, rs.filter mf, (rs.filter f).filter (inR (rs.filter mf)), os, c, n, kk, rfl, tabs_same sFp tF, hm.up sFp, xS, et, ho.up (hid_same l F2), agS mf, by rw [eqf]; exact agS _, sub, (sp.nd.sublist (List.filter_sublist.map _)), fun F3 e3 t3 => ⟨_, rfl, iteF ?_⟩⟩
            exact ⟨e2.trans (ext_hid e3), sto_ext e3 (sF.same sFp), t3, _, _, rfl⟩
        · obtain ⟨eF, sF, tF, o6, o8, rfl⟩ := hF
          exact ⟨eF, sF, tF, _, _, _, _, rfl⟩
    · obtain ⟨eF, sF, tF, o5, o6, o7, o8, rfl⟩ := hF
      exact q F (e03.trans eF) sF tF
end
end G1

set_option maxRecDepth 100000
set_option maxHeartbeats 4000000
namespace G1
open PySem PySem.Spec PyProof.Rows L2 KX
theorem paired_get {α β : Type} {R : α → β → Prop} : ∀ {xs : List α} {ys : List β}, Paired R xs ys → ∀ {i : Nat} {x : α}, xs[i]? = some x → ∃ y, ys[i]? = some y ∧ R x y
  | _, _, .nil, _, _, h => by simp at h
  | _, _, .cons a t, 0, _, h => by
    cases h
    exact ⟨_, rfl, a⟩
  | _, _, .cons a t, i + 1, _, h => by
    simp only [List.getElem?_cons_succ] at h ⊢
    exact paired_get t h
theorem isc_w {w w' : Int} (hw : w ≤ w') : ∀ {n : Nat} {d : PyData}, IsC w n d → IsC w' n d
  | 0, _, h => h.elim
  | n + 1, d, h => by
    rcases h with ⟨x, c, k, rfl, h1, h2, h3, h4⟩ | ⟨e, rfl, h⟩ | ⟨x, es, rfl, hx, h1, h2, h⟩
    · exact .inl ⟨x, c, k, rfl, h1, h2, by omega, h4⟩
    · exact .inr (.inl ⟨e, rfl, isc_w hw h⟩)
    · exact .inr (.inr ⟨x, es, rfl, hx, h1, h2, fun e he => isc_w hw (h e he)⟩)
theorem noL_strs : ∀ ns : List Str, noLs (ns.map .str) = true
  | [] => rfl
  | n :: ns => by simp [noLs, noL, noL_strs ns]
theorem nms_hid {l : Addr} {H : Hp} {v : V} {ns : List Str} (st : StO H l) (h : Dx H v (.tuple (ns.map .str))) : Dx (hid l H) v (.tuple (ns.map .str)) := by
  obtain ⟨a, b, c, e⟩ := st
  exact dx_noL e _ _ (by simp only [noL]; exact noL_strs ns) h
theorem dep_names (ns : List Str) : (PyData.tuple (ns.map .str)).depth ≤ 64 := by
  simp only [PyData.depth]
  have := depth_one ns
  omega
theorem dep_recs (rs : List Rec) : PyData.depthAll (rs.map encR) ≤ 60 := depthAll_le fun e he => by
  obtain ⟨r2, _, rfl⟩ := List.mem_map.mp he
  exact Nat.le_trans (depth_rec r2) (by omega)
theorem gN_in {os : List Ord} {c : Int} {k n : Nat} {rs : List Rec} {x : Str} (h : x ∈ gN os c k n rs) : ∃ r ∈ rs, r.nm = x := by
  unfold gN at h
  rw [srtN_iff] at h
  obtain ⟨r, hr, e⟩ := List.mem_map.mp h
  exact ⟨r, gR_mem hr, e⟩
mutual
theorem dx_noD {l : Addr} {H : Hp} {ks : List (Key × V)} (e : H l = some (.dK ks)) : ∀ (d : PyData) (v : V), noL d = true → Dx H v d → Dx (hid l H) v d
  | .none, _, _, h => by cases h; exact .non
  | .bool b, _, _, h => by cases h; exact .bl b
  | .int i, _, _, h => by cases h; exact .int i
  | .str x, _, _, h => by cases h; exact .str x
  | .list ds, _, n, _ => by simp [noL] at n
  | .dict ks, _, n, _ => by simp [noL] at n
  | .tuple ds, _, n, h => by
    cases h with
    | @tup a xs _ ea h =>
      have na : a ≠ l := fun z => by rw [z, e] at ea; cases ea
      exact .tup (by rw [hid_at na]; exact ea) (dxs_noD e ds xs (by simpa [noL] using n) h)
theorem dxs_noD {l : Addr} {H : Hp} {ks : List (Key × V)} (e : H l = some (.dK ks)) : ∀ (ds : List PyData) (vs : List V), noLs ds = true → Dxs H vs ds → Dxs (hid l H) vs ds
  | [], _, _, h => by cases h; exact .nil
  | d :: ds, _, n, h => by
    simp only [noLs, Bool.and_eq_true] at n
    cases h with
    | cons h t => exact .cons (dx_noD e d _ n.1 h) (dxs_noD e ds _ n.2 t)
end
/-! ### _law_large_holds -/
abbrev sLg : Stmt := topS 77
abbrev NLg : List Str := ["stream", "wide", "arguments", "rows", "order", "number", "col", "limit", "kind", "result", "part", "remaining", "extra", "superset", "condition", "selected_first", "filtered", "value", "group", "first_in_group", "row"]
theorem scLg : FnScope NLg ["stream", "wide", "arguments"] (defScope sLg) := ⟨rfl, rfl, rfl, by decide +kernel, rfl, by decide +kernel, by decide +kernel⟩
section
variable {P : Program} {w : World} {K : PySem.W.Frag} {mg : Str → Option Value} {base : Heap}
theorem ok_lg {k : Nat} {RA OA CA MA P0 f fR fD fSel fSm fSH fLC fT fK fF fG : Addr} {fd gR gD gSel gSm gSH gLC gdT gdK gF gG : FuncData} (B : Bl mg) (D : Df K mg "_law_large_holds" sLg ["stream", "wide", "arguments"] f fd)
    (DR : Df K mg "_law_rowset" sRs ["stream", "total", "wide"] fR gR) (DD : Df K mg "_law_draw" sDraw ["stream", "total"] fD gD) (DSel : Df K mg "_law_selection" sSel ["kind", "rows", "arguments"] fSel gSel) (DSm : Df K mg "_law_sample" sSmp ["stream", "rows", "total", "share"] fSm gSm) (DSH : Df K mg "_law_subset_holds" sSH ["kind", "rows", "subset", "arguments"] fSH gSH) (DLC : Df K mg "_law_condition" sLCo ["stream", "wide", "deep"] fLC gLC)
    (FT : FunD K "top_names" "top_names" (defArgs sTN) (defBody sTN) (defScope sTN) [] [("count", .int 1)] fT gdT) (gT : mg "top_names" = some (.ref fT)) (FK : FKN K fK gdK) (gK : mg "capped_top_names" = some (.ref fK)) (DF : Df K mg "filter_rows" sFRw ["rowset", "condition"] fF gF) (DG : Df K mg "group_rows" sGR ["rowset", "column"] fG gG)
    (GR : FnOk P w K mg base CX0 k fR gR ["stream", "total", "wide"] spRs) (GD : FnOk P w K mg base CX0 k fD gD ["stream", "total"] spDraw) (GSel : FnOk P w K mg base CX0 k fSel gSel ["kind", "rows", "arguments"] (spSel P0)) (GSm : FnOk P w K mg base CX0 k fSm gSm ["stream", "rows", "total", "share"] spSmp) (GSH : FnOk P w K mg base CX0 k fSH gSH ["kind", "rows", "subset", "arguments"] (spSH P0)) (GLC : FnOk P w K mg base CX0 k fLC gLC ["stream", "wide", "deep"] (spLCo 1))
    (GT : FnOk P w K mg base (L2.CX P w) k fT gdT ["rowset", "order", "count"] (spTN RA OA CA P0)) (GK : FnOk P w K mg base CX0 k fK gdK psN (spKN P0)) (GF : FnOk P w K mg base (L2.CX P w) k fF gF ["rowset", "condition"] (spFRw RA MA)) (GG : FnOk P w K mg base (L2.CX P w) k fG gG ["rowset", "column"] (spGR RA CA)) :
    FnOk P w K mg base CX0 (k + 1) f fd ["stream", "wide", "arguments"] (spSml P0) := by
  obtain ⟨g1, b1⟩ := tn_b1 FT
  obtain ⟨ga, ba⟩ := kn_ccc FK
  refine D.F.ok scLg (fun vs H Q E h => ?_) (fun cdv A outer s H vs Q E hr h => ?_)
  · obtain ⟨l, t, wd, os, c, n, kk, rfl, _⟩ := h
    rfl
  · obtain ⟨l, t, wd, os, c, n, kk, rfl, st, ht, hA, ak, q⟩ := h
    have nd := scLg.nd
    refine ⟨_, pss_cons (ps_set (i := 3) nd rfl (.inl rfl) (pe_call GR hr (by rfl) DR.g DR.F.kp DR.b .nil pass0 (pa_cons (pv 0) (pa_cons (pe_call GD hr (by rfl) DD.g DD.F.kp DD.b .nil pass0 (pa_cons (pv 0) (pa_cons pe_int pa_nil))) (pa_cons (pv 1) pa_nil)))))
      (pss_cons (ps_asg (pv 2) (pg_tup (by rfl) (pgs_cons (pg_name (i := 4) nd rfl (.inl rfl)) (pgs_cons (pg_name (i := 5) nd rfl (.inl rfl)) (pgs_cons (pg_name (i := 6) nd rfl (.inl rfl)) (pgs_cons (pg_name (i := 7) nd rfl (.inl rfl)) pgs_nil))))))
      (pss_cons (ps_for PassesOwn.never rfl (pi_range1 (by rfl) B.range (pa_cons pe_int pa_nil)) (pg_name (i := 8) nd rfl (.inl rfl)) (pss_cons (ps_set (i := 9) nd rfl (.inr rfl) (pe_call GSel hr (by rfl) DSel.g DSel.F.kp DSel.b .nil pass0 (pa_cons (pv 8) (pa_cons (pv 3) (pa_cons (pv 2) pa_nil)))))
      (pss_cons (ps_set (i := 10) nd rfl (.inl rfl) (pe_op op_add pe_int (pe_call GD hr (by rfl) DD.g DD.F.kp DD.b .nil pass0 (pa_cons (pv 0) (pa_cons pe_int pa_nil)))))
      (pss_cons (ps_set (i := 11) nd rfl (.inl rfl) (pe_call GSm hr (by rfl) DSm.g DSm.F.kp DSm.b .nil pass0 (pa_cons (pv 0) (pa_cons (pv 3) (pa_cons (pv 10) (pa_cons (pe_op op_sub (pv 10) pe_int) pa_nil))))))
      (pss_cons (ps_set (i := 12) nd rfl (.inr rfl) (pe_call GSm hr (by rfl) DSm.g DSm.F.kp DSm.b .nil pass0 (pa_cons (pv 0) (pa_cons (pv 3) (pa_cons pe_int (pa_cons pe_int pa_nil))))))
      (pss_cons (ps_set (i := 13) nd rfl (.inl rfl) (pe_callTy call_tuple_of (by rfl) B.tuple (by decide +kernel) (pa_cons (pe_lc (own := [("row", 20)]) (g := gName 20) rfl nd (pi_tup (pv 3)) (blkOk_by (N := NLg) (sc := defScope sLg) (by decide +kernel)) (fun _ _ _ _ _ => pg_name (i := 20) nd rfl (Or.inl rfl)) (fun _ _ _ _ _ => pts_one (PW.pt (pw_or (pt_cmpR (r := rIn K false) op_in_seq (pe_ix (r := rIxT K) ix_tup (pv 20) pe_int (fun _ _ => rfl)) (pv 9) (by rfl)) (pw_or1 (pt_cmpR (r := rInT K id) (op_inTD hr.units) (pv 20) (pv 12) (by rfl)))))) (fun _ _ _ _ _ => pv 20)) pa_nil)))
      (pss_cons (ps_if (pt_not (pt_val (pe_call GSH hr (by rfl) DSH.g DSH.F.kp DSH.b .nil pass0 (pa_cons (pv 8) (pa_cons (pv 3) (pa_cons (pv 11) (pa_cons (pv 2) pa_nil))))))) (pss_one (ps_ret pe_bl)) pss_nil)
      (pss_one (ps_if (pt_cmpR (op_neP hr.units) (pe_call GSel hr (by rfl) DSel.g DSel.F.kp DSel.b .nil pass0 (pa_cons (pv 8) (pa_cons (pv 13) (pa_cons (pv 2) pa_nil)))) (pv 9) (nomark _)) (pss_one (ps_ret pe_bl)) pss_nil)))))))))
      (pss_cons (ps_set (i := 14) nd rfl (.inl rfl) (pe_call GLC hr (by rfl) DLC.g DLC.F.kp DLC.b .nil pass0 (pa_cons (pv 0) (pa_cons (pv 1) (pa_cons pe_int pa_nil)))))
      (pss_cons (ps_set (i := 15) nd rfl (.inr rfl) (pe_callN GT hr (by rfl) gT FT.kp b1 passL (pa_cons (pv 3) (pa_cons (pv 4) pa_nil)) (pk_cons (pv 5) pk_nil)))
      (pss_cons (ps_set (i := 16) nd rfl (.inl rfl) (pe_call GF hr (by rfl) DF.g DF.F.kp DF.b .nil passL (pa_cons (pv 3) (pa_cons (pv 14) pa_nil))))
      (pss_cons (ps_set (i := 9) nd rfl (.inr rfl) (pe_callN GT hr (by rfl) gT FT.kp b1 passL (pa_cons (pv 16) (pa_cons (pv 4) pa_nil)) (pk_cons (pv 5) pk_nil)))
      (pss_cons (ps_if (pt_cmpR (op_neP hr.units) (pe_lc (own := [("row", 20)]) (g := gName 20) rfl nd (pi_tup (pv 16)) (blkOk_by (N := NLg) (sc := defScope sLg) (by decide +kernel)) (fun _ _ _ _ _ => pg_name (i := 20) nd rfl (Or.inl rfl)) (fun _ _ _ _ _ => pts_one (PW.pt (pw_and (pt_cmpR (r := rIn K false) op_in_seq (pe_ix (r := rIxT K) ix_tup (pv 20) pe_int (fun _ _ => rfl)) (pv 15) (by rfl)) (pw_and1 (pt_cmpR (r := rIn K true) op_notIn_seq (pe_ix (r := rIxT K) ix_tup (pv 20) pe_int (fun _ _ => rfl)) (pv 9) (by rfl)))))) (fun _ _ _ _ _ => pv 20)) (pe_lst pa_nil) (nomark _)) (pss_one (ps_ret pe_bl)) pss_nil)
      (pss_cons (ps_for PassesOwn.never rfl (pi_items (pe_frz (pe_call GG hr (by rfl) DG.g DG.F.kp DG.b .nil passL (pa_cons (pv 3) (pa_cons (pv 6) pa_nil)))) (by rfl) (by rfl)) (pg_tup (by rfl) (pgs_cons (pg_name (i := 17) nd rfl (.inl rfl)) (pgs_cons (pg_name (i := 18) nd rfl (.inl rfl)) pgs_nil))) (pss_cons (ps_set (i := 19) nd rfl (.inr rfl) (pe_callN GT hr (by rfl) gT FT.kp b1 passL (pa_cons (pv 18) (pa_cons (pv 4) pa_nil)) (pk_cons (pv 5) pk_nil)))
      (pss_cons (ps_if (pt_cmpR (op_neP hr.units) (pe_lc (own := [("row", 20)]) (g := gName 20) rfl nd (pi_tup (pv 18)) (blkOk_by (N := NLg) (sc := defScope sLg) (by decide +kernel)) (fun _ _ _ _ _ => pg_name (i := 20) nd rfl (Or.inl rfl)) (fun _ _ _ _ _ => pts_one (PW.pt (pw_and (pt_cmpR (r := rIn K false) op_in_seq (pe_ix (r := rIxT K) ix_tup (pv 20) pe_int (fun _ _ => rfl)) (pv 15) (by rfl)) (pw_and1 (pt_cmpR (r := rIn K true) op_notIn_seq (pe_ix (r := rIxT K) ix_tup (pv 20) pe_int (fun _ _ => rfl)) (pv 19) (by rfl)))))) (fun _ _ _ _ _ => pv 20)) (pe_lst pa_nil) (nomark _)) (pss_one (ps_ret pe_bl)) pss_nil)
      (pss_cons (ps_set (i := 9) nd rfl (.inr rfl) (pe_callN GK hr (by rfl) gK FK.kp ba pass0 (pa_cons (pv 18) (pa_cons (pv 4) pa_nil)) (pk_cons (pv 5) (pk_cons (pv 6) (pk_cons (pv 7) pk_nil)))))
      (pss_one (ps_if (pt_cmpR (op_neP hr.units) (pv 9) (pe_callN GT hr (by rfl) gT FT.kp b1 passL (pa_cons (pv 18) (pa_cons (pv 4) pa_nil)) (pk_cons (pe_callB (call_min2 rfl) (by rfl) B.min (by decide +kernel) (pa_cons (pv 5) (pa_cons (pv 7) pa_nil))) pk_nil)) (nomark _)) (pss_one (ps_ret pe_bl)) pss_nil))))))
      (pss_one (ps_ret pe_bl)))))))))), ?_⟩
    have big : (1000 : Nat) < sizeLine := by decide
    -- rows
    refine ⟨.ref l, rfl, .ref l, rfl, l, 61, rfl, st, by decide, by decide, fun H1 m k1 st1 m0 m7 => ?_⟩
    obtain ⟨nr, rfl⟩ : ∃ nr : Nat, m = (nr : Int) := ⟨m.toNat, by omega⟩
    refine ⟨.int (wd : Int), rfl, l, nr, wd, rfl, st1, by omega, ak.w1, ak.w4, fun H2 pr recs k2 st2 hlen hmade hR => ?_⟩
    have hsl : (sortR recs).length = recs.length := List.length_mergeSort _
    have hl60 : (sortR recs).length ≤ 60 := by omega
    have sp := made_rsp hmade (by omega)
    generalize sortR recs = rs at hR hl60 sp
    have k12 := k1.trans k2
    have t2 := tabs_keep k12 st ht
    have e02 := keep_ext k12
    obtain ⟨ntl, ov, et, ho⟩ := hA.ext e02
    clear hsl hmade hlen k1 st1 k2 k12
    refine gn_to (σ' := ([some (.ref l), some (.int (wd : Int)), some (.ref t), some (.ref pr), none, none, none, none, none, none, none, none, none, none, none, none, none, none, none, none, none] : L2.St)) rfl ?_
    dsimp only
    refine ⟨.ref t, rfl, t, _, rfl, .inl (.inl et), rfl, _, _, rfl, _, _, rfl, _, _, rfl, _, _, rfl, rfl, ?_⟩
    have agR := ak.ag sp hl60 (List.Sublist.refl rs)
    have agS : ∀ f : Rec → Bool, Ag os c kk n (rs.filter f) := fun f => ak.ag sp hl60 List.filter_sublist
    have ntt : ∀ {xs : List V} ps, HO.tup xs ≠ .tbl ps := fun ps z => by cases z
    have atT : ∀ {F : Hp}, LamX.ExtN (hid l H2) (hid l F) → F t = some (.tup [ov, .int (n : Int), .int c, .int (kk : Int)]) := fun {F} e => by
      have := e t _ (by rw [hid_at ntl]; exact et) ntt
      rwa [hid_at ntl] at this
    have atR : ∀ {F : Hp}, LamX.ExtN (hid l H2) (hid l F) → Dx F (.ref pr) (.tuple (rs.map encR)) := fun {F} e => (hR.ext e).up (hid_same l F)
    have atO : ∀ {F : Hp}, LamX.ExtN (hid l H2) (hid l F) → Dx F ov (.tuple (os.map encO)) := fun {F} e => (ho.ext e).up (hid_same l F)
    refine ⟨2, rfl, by decide, by decide, ?_⟩
    refine for_range (lo := 0) (n := 2) (fun j σ F => LamX.ExtN (hid l H2) (hid l F) ∧ StO F l ∧ LamX.Tabs (TS P0) F ∧ ∃ o8 o9 o10 o11 o12 o13 o14 o15 o16 o17 o18 o19 : Option V, σ = ([some (.ref l), some (.int (wd : Int)), some (.ref t), some (.ref pr), some ov, some (.int (n : Int)), some (.int c), some (.int (kk : Int)), o8, o9, o10, o11, o12, o13, o14, o15, o16, o17, o18, o19, none] : L2.St))
      ⟨LamX.ExtN.refl _, st2, t2, none, none, none, none, none, none, none, none, none, none, none, none, rfl⟩ (fun j σ F hj hF => ?_) (fun σ F hF => ?_)
    · obtain ⟨eF, sF, tF, o8, o9, o10, o11, o12, o13, o14, o15, o16, o17, o18, o19, rfl⟩ := hF
      refine gn_to (σ' := ([some (.ref l), some (.int (wd : Int)), some (.ref t), some (.ref pr), some ov, some (.int (n : Int)), some (.int c), some (.int (kk : Int)), some (.int (0 + (j : Int))), o9, o10, o11, o12, o13, o14, o15, o16, o17, o18, o19, none] : L2.St)) rfl ?_
      generalize (0 + (j : Int)) = kd
      obtain ⟨kj, ekj⟩ := selN_gN kd os c kk n
      -- result
      refine ⟨.int kd, rfl, .ref pr, rfl, .ref t, rfl, kd, .ref pr, ov, t, rs, os, c, n, kk, rfl, tF, atR eF, atT eF, atO eF, agR, fun F1 p1 e1 t1 x1 => ?_⟩
      rw [ekj] at x1
      have s1 := sto_ext e1 sF
      have e1 := eF.trans (ext_hid e1)
      have x1 := nms_hid s1 x1
      refine gn_to (σ' := ([some (.ref l), some (.int (wd : Int)), some (.ref t), some (.ref pr), some ov, some (.int (n : Int)), some (.int c), some (.int (kk : Int)), some (.int kd), some (.ref p1), o10, o11, o12, o13, o14, o15, o16, o17, o18, o19, none] : L2.St)) rfl ?_
      dsimp only
      -- part
      refine ⟨.ref l, rfl, l, 9, rfl, s1, by decide, by decide, fun F2 d k2 s2 d0 d9 => ⟨2, d, rfl, rfl, ?_⟩⟩
      refine gn_to (σ' := ([some (.ref l), some (.int (wd : Int)), some (.ref t), some (.ref pr), some ov, some (.int (n : Int)), some (.int c), some (.int (kk : Int)), some (.int kd), some (.ref p1), some (.int (2 + d)), o11, o12, o13, o14, o15, o16, o17, o18, o19, none] : L2.St)) rfl ?_
      dsimp only
      have t2 := tabs_keep k2 s1 t1
      have e2 := e1.trans (keep_ext k2)
      have x1 := x1.up k2.same
      -- remaining, extra
      refine ⟨.ref l, rfl, .ref pr, rfl, .int (2 + d), rfl, .int (2 + d), rfl, 2 + d, 1, rfl, rfl, l, .ref pr, rs, 2 + d, 2 + d - 1, rfl, s2, hR.ext e2, hl60, by omega, by omega, fun F3 p2 ss k3 s3 sub x2 => ?_⟩
      refine gn_to (σ' := ([some (.ref l), some (.int (wd : Int)), some (.ref t), some (.ref pr), some ov, some (.int (n : Int)), some (.int c), some (.int (kk : Int)), some (.int kd), some (.ref p1), some (.int (2 + d)), some (.ref p2), o12, o13, o14, o15, o16, o17, o18, o19, none] : L2.St)) rfl ?_
      dsimp only
      have t3 := tabs_keep k3 s2 t2
      have e3 := e2.trans (keep_ext k3)
      have x1 := x1.up k3.same
      refine ⟨.ref l, rfl, .ref pr, rfl, l, .ref pr, rs, 2, 1, rfl, s3, hR.ext e3, hl60, by decide, by decide, fun F4 p3 ss2 k4 s4 sub2 x3 => ?_⟩
      refine gn_to (σ' := ([some (.ref l), some (.int (wd : Int)), some (.ref t), some (.ref pr), some ov, some (.int (n : Int)), some (.int c), some (.int (kk : Int)), some (.int kd), some (.ref p1), some (.int (2 + d)), some (.ref p2), some (.ref p3), o13, o14, o15, o16, o17, o18, o19, none] : L2.St)) rfl ?_
      dsimp only
      have t4 := tabs_keep k4 s3 t3
      have e4 := e3.trans (keep_ext k4)
      have x1 := (x1.up k4.same).up (hid_same l F4)
      have x2 := (x2.up k4.same).up (hid_same l F4)
      have x3 := x3.up (hid_same l F4)
      clear e1 e2 e3 t1 t2 t3 s1 s2 s3 k2 k3 k4
      -- superset
      obtain ⟨a, xs, ea0, ea, hx⟩ := dx_tup' (atR e4)
      cases ea0
      obtain ⟨a1, ys1, ea0, ea1, hy1⟩ := dx_tup' x1
      cases ea0
      obtain rfl := dxs_strs_eq hy1
      refine ⟨.ref pr, rfl, pr, rfl, ⟨_, .inl (.inl ea)⟩, fun L nL => ?_⟩
      refine lc_filterS (fun r => decide (r.nm ∈ gN os c kj n rs) || inR ss2 r) nL ea hx (by omega) (fun r x G hr' sG hdx Pt Pf hP => ?_) (fun G zs2 sG eL hz2 => ?_)
      · obtain ⟨rb, z, vs, rfl, erb, _⟩ := row_dx hdx
        refine ⟨rfl, .ref rb, rfl, rb, _, 0, .str r.nm, rfl, rfl, .inl (.inl erb), rfl, .ref p1, rfl, p1, _, rfl, .inr (.inl (.inl (sG _ _ ea1))), rfl, flats _, _, rfl, ?_⟩
        rw [show (if false = true then !inV (.str r.nm) ((gN os c kj n rs).map V.str) else inV (.str r.nm) ((gN os c kj n rs).map V.str)) = decide (r.nm ∈ gN os c kj n rs) by rw [if_neg (by simp), in_str]]
        have z2 := hP G (Same.refl _)
        by_cases hin : r.nm ∈ gN os c kj n rs
        · rw [decide_eq_true hin] at z2 ⊢
          rw [if_pos (by simp)] at z2
          exact iteT (iteT ⟨_, rfl, z2⟩)
        · rw [decide_eq_false hin] at z2 ⊢
          refine iteF ⟨.ref rb, rfl, .ref p3, rfl, encR r, ss2.map encR, dp_dx _ _ (rec_plain r) hdx, dp_dx _ _ (recs_plain _) (x3.up sG), rec_plain r, recs_plain _, dep_recs _, _, rfl, ?_⟩
          show if inR ss2 r = true then _ else _
          rw [Bool.false_or] at z2
          by_cases hh : inR ss2 r = true
          · rw [if_pos hh] at z2 ⊢
            exact ⟨_, rfl, z2⟩
          · rw [if_neg hh] at z2 ⊢
            exact z2
      refine ⟨L, zs2, rfl, .inl ⟨.inl (.inl eL), fun p np => ?_⟩⟩
      have sp2 := same_new (o := .tup zs2) np
      have sFp := sG.trans sp2
      have xS : Dx (upd G p (.tup zs2)) (.ref p) (.tuple ((rs.filter fun r => decide (r.nm ∈ gN os c kj n rs) || inR ss2 r).map encR)) := .tup upd_same ((hz2.up (hid_same L G)).up sp2)
      refine gn_to (σ' := ([some (.ref l), some (.int (wd : Int)), some (.ref t), some (.ref pr), some ov, some (.int (n : Int)), some (.int c), some (.int (kk : Int)), some (.int kd), some (.ref p1), some (.int (2 + d)), some (.ref p2), some (.ref p3), some (.ref p), o14, o15, o16, o17, o18, o19, none] : L2.St)) rfl ?_
      dsimp only
      generalize upd G p (.tup zs2) = F5 at sFp xS
      have e5 := e4.trans (ext_hid (ext_same sFp))
      have x1 := x1.up sFp
      have x2 := x2.up sFp
      have s5 := s4.same sFp
      have t5 := tabs_same sFp t4
      clear sp2 np sG eL hz2 nL ea hx ea1 hy1 e4 s4 t4 sFp x3
      refine ⟨.int kd, rfl, .ref pr, rfl, .ref p2, rfl, .ref t, rfl, kd, .ref pr, .ref p2, ov, t, rs, ss, os, c, n, kk, rfl, t5, atR e5, x2, atT e5, atO e5, agR, ak.ag sp hl60 sub, sub, sp.nd, fun F6 e6 t6 => ⟨_, rfl, iteF ?_⟩⟩
      have e56 := e5.trans (ext_hid e6)
      refine ⟨.int kd, rfl, .ref p, rfl, .ref t, rfl, kd, .ref p, ov, t, _, os, c, n, kk, rfl, t6, xS.ext e6, atT e56, atO e56, agS _, fun F7 p5 e7 t7 x5 => ?_⟩
      rw [ekj, gN_out (List.filter_sublist (l := rs)) sp.nd (fun x hx => by
        obtain ⟨r, hr', rfl⟩ := gN_in hx
        exact List.mem_map.mpr ⟨r, List.mem_filter.mpr ⟨hr', by simp [hx]⟩, rfl⟩)] at x5
      refine ⟨.ref p1, rfl, _, _, dp_dx _ _ (nmt_plain _) x5, dp_dx _ _ (nmt_plain _) ((x1.ext e6).ext e7), nmt_plain _, nmt_plain _, Nat.le_trans (Nat.min_le_left _ _) (dep_names _), ?_⟩
      rw [nmt_eqv]
      exact ⟨_, rfl, iteF ⟨e56.trans (ext_hid e7), sto_ext e7 (sto_ext e6 s5), t7, _, _, _, _, _, _, _, _, _, _, _, _, rfl⟩⟩
    · obtain ⟨eF, sF, tF, o8, o9, o10, o11, o12, o13, o14, o15, o16, o17, o18, o19, rfl⟩ := hF
      dsimp only
      -- condition
      refine ⟨.ref l, rfl, .int (wd : Int), rfl, l, (wd : Int), rfl, sF, by have := ak.w1; omega, by have := ak.w4; omega, fun F1 cv cd k1 s1 xc ic => ?_⟩
      have xc := xc.up (fresh_hid sF)
      have t1 := tabs_keep k1 sF tF
      have e1 := eF.trans (keep_ext k1)
      refine gn_to (σ' := ([some (.ref l), some (.int (wd : Int)), some (.ref t), some (.ref pr), some ov, some (.int (n : Int)), some (.int c), some (.int (kk : Int)), o8, o9, o10, o11, o12, o13, some cv, o15, o16, o17, o18, o19, none] : L2.St)) rfl ?_
      dsimp only
      clear sF tF eF k1
      -- selected_first
      refine ⟨.ref pr, rfl, ov, rfl, .int (n : Int), rfl, rfl, rfl, tnt_call t1 (atR e1) (atO e1) agR.g ak.n1 ak.n9 fun F2 p1 e2 t2 x1 => ?_⟩
      refine gn_to (σ' := ([some (.ref l), some (.int (wd : Int)), some (.ref t), some (.ref pr), some ov, some (.int (n : Int)), some (.int c), some (.int (kk : Int)), o8, o9, o10, o11, o12, o13, some cv, some (.ref p1), o16, o17, o18, o19, none] : L2.St)) rfl ?_
      dsimp only
      have s2 := sto_ext e2 s1
      have xc := (xc.ext (ext_hid e2)).up (hid_same l F2)
      have e12 := e1.trans (ext_hid e2)
      -- filtered
      have hwi := widthI_sub sp ak.w4
      refine ⟨.ref pr, rfl, cv, rfl, .ref pr, cv, _, cd, rfl, atR e12, agR.g.sm, xc, fun hb => absurd hb (by rw [rsok_true agR.g.ok]; simp), fun rs' er ok' => ?_⟩
      have er := recs_inj er
      subst er
      refine .inl ⟨2, by decide, isc_w hwi ic, fun F3 p2 s3 x3 => ?_⟩
      refine gn_to (σ' := ([some (.ref l), some (.int (wd : Int)), some (.ref t), some (.ref pr), some ov, some (.int (n : Int)), some (.int c), some (.int (kk : Int)), o8, o9, o10, o11, o12, o13, some cv, some (.ref p1), some (.ref p2), o17, o18, o19, none] : L2.St)) rfl ?_
      dsimp only
      have t3 := tabs_same s3 t2
      have st3 := s2.same s3
      have e3 := e12.trans (ext_hid (ext_same s3))
      have x1 := x1.up s3
      -- result
      refine ⟨.ref p2, rfl, ov, rfl, .int (n : Int), rfl, rfl, rfl, tnt_call t3 x3 (atO e3) (agS _).g ak.n1 ak.n9 fun F4 p3 e4 t4 x4 => ?_⟩
      refine gn_to (σ' := ([some (.ref l), some (.int (wd : Int)), some (.ref t), some (.ref pr), some ov, some (.int (n : Int)), some (.int c), some (.int (kk : Int)), o8, some (.ref p3), o10, o11, o12, o13, some cv, some (.ref p1), some (.ref p2), o17, o18, o19, none] : L2.St)) rfl ?_
      dsimp only
      have st4 := sto_ext e4 st3
      have e34 := e3.trans (ext_hid e4)
      have x1 := x1.ext e4
      have x3 := x3.ext e4
      clear e1 e2 e12 t1 t2 t3 s1 s2 s3 st3 e3 e4 xc ic
      obtain ⟨a1, ys1, ea0, ea1, hy1⟩ := dx_tup' x1
      cases ea0
      obtain rfl := dxs_strs_eq hy1
      obtain ⟨a3, ys3, ea0, ea3, hy3⟩ := dx_tup' x4
      cases ea0
      obtain rfl := dxs_strs_eq hy3
      obtain ⟨a2, xs2, ea0, ea2, hx2⟩ := dx_tup' x3
      cases ea0
      refine ⟨.ref p2, rfl, p2, rfl, ⟨_, .inl (.inl ea2)⟩, fun D2 nD => ?_⟩
      refine lc_tup (xs := xs2) (fun k N => Same F4 N ∧ N D2 = some (.lst [])) ⟨same_new nD, upd_same⟩ (fun k N _ hN => .inl (.inl (hN.1 _ _ ea2))) (fun k x N hxk hN => ?_) (fun N hN => ?_)
      · obtain ⟨sN, eD⟩ := hN
        obtain ⟨dd, edd, hdx⟩ := hx2.get' hxk
        rw [List.getElem?_map] at edd
        obtain ⟨r, er, rfl⟩ := Option.map_eq_some_iff.mp edd
        have rm := List.mem_of_getElem? er
        obtain ⟨rb, z, vs, rfl, erb, _⟩ := row_dx (hdx.up sN)
        refine ⟨rfl, .ref rb, rfl, rb, _, 0, .str r.nm, rfl, rfl, .inl (.inl erb), rfl, .ref p1, rfl, p1, _, rfl, .inr (.inl (.inl (sN _ _ ea1))), rfl, flats _, _, rfl, ?_⟩
        rw [show (if false = true then !inV (.str r.nm) ((topN os n rs).map V.str) else inV (.str r.nm) ((topN os n rs).map V.str)) = decide (r.nm ∈ topN os n rs) by rw [if_neg (by simp), in_str]]
        by_cases hin : r.nm ∈ topN os n rs
        · rw [decide_eq_true hin]
          have hin2 : r.nm ∈ topN os n (rs.filter (hold 2 cd)) := by
            rw [gN_top os 0] at hin ⊢
            exact gN_her List.filter_sublist sp.nd hin (List.mem_map.mpr ⟨r, rm, rfl⟩)
          refine iteT ⟨.ref rb, rfl, rb, _, 0, .str r.nm, rfl, rfl, .inl (.inl erb), rfl, .ref p3, rfl, p3, _, rfl, .inr (.inl (.inl (sN _ _ ea3))), rfl, flats _, _, rfl, ?_⟩
          rw [show (if true = true then !inV (.str r.nm) ((topN os n (rs.filter (hold 2 cd))).map V.str) else inV (.str r.nm) ((topN os n (rs.filter (hold 2 cd))).map V.str)) = false by rw [if_pos rfl, in_str, decide_eq_true hin2]; rfl]
          exact iteF ⟨sN, eD⟩
        · rw [decide_eq_false hin]
          exact iteF (iteF ⟨sN, eD⟩)
      obtain ⟨sN, eD⟩ := hN
      refine ⟨by show 0 ≤ sizeLine; omega, fun D3 nD3 => ⟨.list (([] : List Str).map .str), .list [], .lst (.inl (.inl (same_new nD3 _ _ eD))) .nil, .lst (.inl (.inl upd_same)) .nil, rfl, rfl, by decide +kernel, ?_⟩⟩
      rw [lst_nil_eqv]
      refine ⟨_, rfl, iteF ?_⟩
      have sM := sN.trans (same_new (o := .lst []) nD3)
      have t4 := tabs_same sM t4
      have st4 := st4.same sM
      have e34 := e34.trans (ext_hid (ext_same sM))
      have ea1 := sM _ _ ea1
      generalize upd N D3 (.lst []) = F5 at sM t4 st4 e34 ea1
      clear sM sN eD nD3 ea2 ea3 hx2 x1 x3 x4 hy1 hy3
      -- groups
      refine ⟨.ref pr, rfl, .int c, rfl, .ref pr, .int c, _, .int c, rfl, atR e34, agR.g.sm, .int _, fun hb => absurd hb (by rw [rsok_true agR.g.ok]; simp), fun rs' er ok' => ?_⟩
      have er := recs_inj er
      subst er
      refine ⟨fun hb => absurd hb ?_, fun c' ec c0 c1 H' D ks sH nD g gk => ?_⟩
      · rw [show betw 0 (widthI rs - 1) (.int c) = (decide ((0 : Int) ≤ c) && decide (c ≤ widthI rs - 1)) from rfl, decide_eq_true ak.c0, decide_eq_true (by have := agR.c1; omega)]
        simp
      cases ec
      obtain ⟨kvs, eD, hk⟩ := g
      refine ⟨D, .dK kvs, rfl, eD, trivial, fun od => ⟨D, od, kvs, rfl, upd_same, ?_⟩⟩
      have nDl : D ≠ l := st4.ne nD
      have eHf : LamX.ExtN F5 (upd H' D (.frz od (.dK kvs))) := fun b o hb _ => by
        rw [upd_ne (ne_of_none hb nD)]
        exact sH _ _ hb
      have eDf : (upd H' D (.frz od (.dK kvs))) D = some (.frz od (.dK kvs)) := upd_same
      have tf : LamX.Tabs (TS P0) (upd H' D (.frz od (.dK kvs))) := by
        refine fun p hp => ?_
        obtain ⟨ps, h1, h2, h3⟩ := tabs_same sH t4 p hp
        refine ⟨ps, ?_, h2, fun pos cv hc => ?_⟩
        · rw [upd_ne (fun z => by rw [z, eD] at h1; cases h1)]
          exact h1
        · obtain ⟨cc, z1, z2⟩ := h3 pos cv hc
          refine ⟨cc, z1, ?_⟩
          rw [upd_ne (fun z => by rw [z, eD] at z2; simp [LamX.CodeO] at z2)]
          exact z2
      have hk : ∀ (i : Nat) (kv : Key × V), kvs[i]? = some kv → ∃ kz : Int, Dx (upd H' D (.frz od (.dK kvs))) kv.2 (.tuple ((pick1 c kz rs).map encR)) := fun i kv hi => by
        obtain ⟨q0, eq0, _, hd⟩ := paired_get hk hi
        rw [List.getElem?_map] at eq0
        obtain ⟨kz, _, rfl⟩ := Option.map_eq_some_iff.mp eq0
        refine ⟨kz, (dx_noD eD _ _ (recs_nol _) hd).up fun b o hb => ?_⟩
        obtain ⟨nb, hb⟩ := hid_some hb
        rw [upd_ne nb]
        exact hb
      have stf := sto_ext eHf st4
      have ea1 := eHf _ _ ea1 ntt
      have e34 := e34.trans (ext_hid eHf)
      generalize upd H' D (.frz od (.dK kvs)) = Hf at eDf tf hk stf ea1 e34
      clear eHf eD sH nD t4 st4
      have atD : ∀ {F : Hp}, LamX.ExtN (hid l Hf) (hid l F) → F D = some (.frz od (.dK kvs)) := fun {F} e => by
        have := e D _ (by rw [hid_at nDl]; exact eDf) (fun ps z => by cases z)
        rwa [hid_at nDl] at this
      have np1 : p1 ≠ l := fun z => by
        obtain ⟨b1, b2, b3, e⟩ := stf
        rw [z, e] at ea1
        cases ea1
      have at1 : ∀ {F : Hp}, LamX.ExtN (hid l Hf) (hid l F) → F p1 = some (.tup ((topN os n rs).map V.str)) := fun {F} e => by
        have := e p1 _ (by rw [hid_at np1]; exact ea1) ntt
        rwa [hid_at np1] at this
      refine for_it walk_items (fun i σ F => LamX.ExtN (hid l Hf) (hid l F) ∧ StO F l ∧ LamX.Tabs (TS P0) F ∧ ∃ o9 o17 o18 o19 : Option V, σ = ([some (.ref l), some (.int (wd : Int)), some (.ref t), some (.ref pr), some ov, some (.int (n : Int)), some (.int c), some (.int (kk : Int)), o8, o9, o10, o11, o12, o13, some cv, some (.ref p1), some (.ref p2), o17, o18, o19, none] : L2.St))
        ⟨LamX.ExtN.refl _, stf, tf, _, _, _, _, rfl⟩ (fun i σ F _ hF => atD hF.1) (fun i x σ F F' hi hF hY => ?_) (fun σ F hF => ?_)
      · obtain ⟨eF, sF, tF, o9, o17, o18, o19, rfl⟩ := hF
        obtain ⟨T, xk, xv, rfl, nT, rfl, ek, ev⟩ := hY
        obtain ⟨kv, ekv, rfl⟩ := Option.map_eq_some_iff.mp ev
        obtain ⟨kz, hg⟩ := hk i kv ekv
        have sT := same_new (o := .tup [xk, kv.2]) nT
        have eT := eF.trans (ext_hid (ext_same sT))
        have st1 := sF.same sT
        have t1 := tabs_same sT tF
        refine ⟨T, _, rfl, .inl (.inl upd_same), rfl, _, _, rfl, _, _, rfl, rfl, ?_⟩
        change tSeq _ _ _ ([some (.ref l), some (.int (wd : Int)), some (.ref t), some (.ref pr), some ov, some (.int (n : Int)), some (.int c), some (.int (kk : Int)), o8, o9, o10, o11, o12, o13, some cv, some (.ref p1), some (.ref p2), some xk, some kv.2, o19, none] : L2.St) _
        have hg := ((recs_hid stf hg).ext eT).up (hid_same l _)
        have e1 := e34.trans eT
        generalize upd F T (.tup [xk, kv.2]) = F1 at eT st1 t1 hg e1
        clear sT nT eF sF tF
        generalize kv.2 = gv at hg
        have agG := agS fun r => decide (cvl c r = kz)
        -- first_in_group
        refine ⟨gv, rfl, ov, rfl, .int (n : Int), rfl, rfl, rfl, tnt_call t1 hg (atO e1) agG.g ak.n1 ak.n9 fun G1 p4 e4 t4 x4 => ?_⟩
        refine gn_to (σ' := ([some (.ref l), some (.int (wd : Int)), some (.ref t), some (.ref pr), some ov, some (.int (n : Int)), some (.int c), some (.int (kk : Int)), o8, o9, o10, o11, o12, o13, some cv, some (.ref p1), some (.ref p2), some xk, some gv, some (.ref p4), none] : L2.St)) rfl ?_
        dsimp only
        have eG := eT.trans (ext_hid e4)
        have e1 := e1.trans (ext_hid e4)
        have st1 := sto_ext e4 st1
        have hg := hg.ext e4
        have ea1 := at1 eG
        obtain ⟨a4, ys4, ea0, en, hy4⟩ := dx_tup' x4
        cases ea0
        obtain rfl := dxs_strs_eq hy4
        obtain ⟨ga, gx, rfl, eg, hgx⟩ := dx_tup' hg
        refine ⟨.ref ga, rfl, ga, rfl, ⟨_, .inl (.inl eg)⟩, fun D9 nD => ?_⟩
        refine lc_tup (xs := gx) (fun k N => Same G1 N ∧ N D9 = some (.lst [])) ⟨same_new nD, upd_same⟩ (fun k N _ hN => .inl (.inl (hN.1 _ _ eg))) (fun k x N hxk hN => ?_) (fun N hN => ?_)
        · obtain ⟨sN, eD⟩ := hN
          obtain ⟨dd, edd, hdx⟩ := hgx.get' hxk
          rw [List.getElem?_map] at edd
          obtain ⟨r, er, rfl⟩ := Option.map_eq_some_iff.mp edd
          have rm := List.mem_of_getElem? er
          obtain ⟨rb, z, vs, rfl, erb, _⟩ := row_dx (hdx.up sN)
          refine ⟨rfl, .ref rb, rfl, rb, _, 0, .str r.nm, rfl, rfl, .inl (.inl erb), rfl, .ref p1, rfl, p1, _, rfl, .inr (.inl (.inl (sN _ _ ea1))), rfl, flats _, _, rfl, ?_⟩
          rw [show (if false = true then !inV (.str r.nm) ((topN os n rs).map V.str) else inV (.str r.nm) ((topN os n rs).map V.str)) = decide (r.nm ∈ topN os n rs) by rw [if_neg (by simp), in_str]]
          by_cases hin : r.nm ∈ topN os n rs
          · rw [decide_eq_true hin]
            have hin2 : r.nm ∈ topN os n (pick1 c kz rs) := by
              rw [gN_top os 0] at hin ⊢
              exact gN_her List.filter_sublist sp.nd hin (List.mem_map.mpr ⟨r, rm, rfl⟩)
            refine iteT ⟨.ref rb, rfl, rb, _, 0, .str r.nm, rfl, rfl, .inl (.inl erb), rfl, .ref p4, rfl, p4, _, rfl, .inr (.inl (.inl (sN _ _ en))), rfl, flats _, _, rfl, ?_⟩
            rw [show (if true = true then !inV (.str r.nm) ((topN os n (pick1 c kz rs)).map V.str) else inV (.str r.nm) ((topN os n (pick1 c kz rs)).map V.str)) = false by rw [if_pos rfl, in_str, decide_eq_true hin2]; rfl]
            exact iteF ⟨sN, eD⟩
          · rw [decide_eq_false hin]
            exact iteF (iteF ⟨sN, eD⟩)
        obtain ⟨sN, eD⟩ := hN
        refine ⟨by show 0 ≤ sizeLine; omega, fun D3 nD3 => ⟨.list (([] : List Str).map .str), .list [], .lst (.inl (.inl (same_new nD3 _ _ eD))) .nil, .lst (.inl (.inl upd_same)) .nil, rfl, rfl, by decide +kernel, ?_⟩⟩
        rw [lst_nil_eqv]
        refine ⟨_, rfl, iteF ?_⟩
        have sM := sN.trans (same_new (o := .lst []) nD3)
        have t4 := tabs_same sM t4
        have st1 := st1.same sM
        have eG := eG.trans (ext_hid (ext_same sM))
        have e1 := e1.trans (ext_hid (ext_same sM))
        have hg := hg.up sM
        generalize upd N D3 (.lst []) = F2 at sM t4 st1 eG e1 hg
        clear sM sN eD nD3
        -- capped
        refine ⟨.ref ga, rfl, ov, rfl, .int (n : Int), rfl, .int c, rfl, .int (kk : Int), rfl, rfl, rfl, .ref ga, ov, _, os, c, n, kk, rfl, t4, hg, atO e1, agG.g, ak.c0, agG.c1, ak.n1, ak.n9, ak.k1, ak.k9, fun F3 p5 e5 t5 x5 => ?_⟩
        refine gn_to (σ' := ([some (.ref l), some (.int (wd : Int)), some (.ref t), some (.ref pr), some ov, some (.int (n : Int)), some (.int c), some (.int (kk : Int)), o8, some (.ref p5), o10, o11, o12, o13, some cv, some (.ref p1), some (.ref p2), some xk, some (.ref ga), some (.ref p4), none] : L2.St)) rfl ?_
        dsimp only
        have e15 := e1.trans (ext_hid e5)
        rw [cap_same (rs := pick1 c kz rs) (v := kz) (fun r hr' => of_decide_eq_true (List.mem_filter.mp hr').2)] at x5
        have emin : (V.int (if (kk : Int) < (n : Int) then (kk : Int) else (n : Int))) = .int ((min n kk : Nat) : Int) := by
          congr 1
          by_cases h : (kk : Int) < (n : Int)
          · rw [if_pos h]
            omega
          · rw [if_neg h]
            omega
        refine ⟨.ref p5, rfl, .ref ga, rfl, ov, rfl, .int (n : Int), rfl, .int (kk : Int), rfl, (n : Int), (kk : Int), rfl, rfl, ?_⟩
        rw [emin]
        have n1 := ak.n1
        have n9 := ak.n9
        have k1 := ak.k1
        refine ⟨rfl, tnt_call t5 (hg.ext e5) (atO e15) agG.g (Nat.le_min.mpr ⟨n1, k1⟩) (Nat.le_trans (Nat.min_le_left _ _) n9) fun F4 p6 e6 t6 x6 => ?_⟩
        refine ⟨_, _, dp_dx _ _ (nmt_plain _) (x5.ext e6), dp_dx _ _ (nmt_plain _) x6, nmt_plain _, nmt_plain _, Nat.le_trans (Nat.min_le_left _ _) (dep_names _), ?_⟩
        rw [nmt_eqv]
        exact ⟨_, rfl, iteF ⟨(eG.trans (ext_hid e5)).trans (ext_hid e6), sto_ext e6 (sto_ext e5 st1), t6, _, _, _, _, rfl⟩⟩
      · obtain ⟨eF, sF, tF, o9, o17, o18, o19, rfl⟩ := hF
        exact q F (e02.trans (e34.trans eF)) sF tF
end
end G1

set_option maxRecDepth 100000
set_option maxHeartbeats 4000000
namespace G1
open PySem PySem.Spec PyProof.Rows L2 KX
theorem tabs_one {P0 : Addr} {H : Hp} (h0 : H P0 = some (.tbl #[])) : LamX.Tabs (TS P0) H := fun p hp => by
  cases List.mem_singleton.mp hp
  exact LamX.TabS.nil h0
/-! ### the law's loop -/
abbrev sLaw : Stmt := topS 78
abbrev NW : List Str := ["script", "at", "stream", "wide", "arguments"]
theorem scLaw : FnScope NW ["script"] (defScope sLaw) := ⟨rfl, rfl, rfl, by decide +kernel, rfl, by decide +kernel, by decide +kernel⟩
def spLaw (K : PySem.W.Frag) (P0 : Addr) : Sp := fun vs H Q _ => ∃ (a : Addr) (ns : List Int), vs = [.ref a] ∧ SqL K H a (ns.map V.int) ∧ ns.length ≤ 63 ∧ H P0 = some (.tbl #[]) ∧ ∀ H', Q (.bl true) H'
/-- what the defs promise -/
structure Ds (P : Program) (w : World) (K : PySem.W.Frag) (mg : Str → Option Value) (base : Heap) (k : Nat) (P0 : Addr) (fS fD fO fA fL : Addr) (gS gD gO gA gL : FuncData) : Prop where
  S : Df K mg "_law_stream" sStream ["script", "at"] fS gS
  D : Df K mg "_law_draw" sDraw ["stream", "total"] fD gD
  O : Df K mg "_law_order" sLO ["stream", "wide"] fO gO
  A : Df K mg "_law_small_holds" sSml ["stream", "wide", "arguments"] fA gA
  L : Df K mg "_law_large_holds" sLg ["stream", "wide", "arguments"] fL gL
  oS : FnOk P w K mg base CX0 k fS gS ["script", "at"] (spStream K)
  oD : FnOk P w K mg base CX0 k fD gD ["stream", "total"] spDraw
  oO : FnOk P w K mg base CX0 k fO gO ["stream", "wide"] spLO
  oA : FnOk P w K mg base CX0 k fA gA ["stream", "wide", "arguments"] (spSml P0)
  oL : FnOk P w K mg base CX0 k fL gL ["stream", "wide", "arguments"] (spSml P0)
section
variable {P : Program} {w : World} {K : PySem.W.Frag} {mg : Str → Option Value} {base : Heap} {P0 : Addr}
theorem ok_law {k : Nat} {f fS fD fO fA fL : Addr} {fd gS gD gO gA gL : FuncData} (B : Bl mg) (T : Ds P w K mg base k P0 fS fD fO fA fL gS gD gO gA gL) (F : Fun K "law" "law" sLaw f fd) : FnG P w K mg base CX0 (k + 1) f fd ["script"] (spLaw K P0) := by
  refine okG F scLaw (fun vs H Q E h => ?_) (fun cdv A outer s H vs Q E hgd hr h => ?_)
  · obtain ⟨a, ns, rfl, _⟩ := h
    rfl
  · obtain ⟨a, ns, rfl, hS, hl, hP0, q⟩ := h
    have nd := scLaw.nd
    refine ⟨_, pss_cons (ps_for PassesOwn.never rfl (pi_range1 (by rfl) B.range (pa_cons (pe_callB (call_max2 rfl) (by rfl) B.max (by decide +kernel) (pa_cons pe_int (pa_cons (pe_callB (call_min2 rfl) (by rfl) B.min (by decide +kernel)
          (pa_cons pe_int (pa_cons (pe_callB call_len_seq (by rfl) B.len PySem.boot_len (pa_cons (pv 0) pa_nil)) pa_nil))) pa_nil))) pa_nil)) (pg_name (i := 1) nd rfl (.inl rfl))
        (pss_cons (ps_set (i := 2) nd rfl (.inl rfl) (pe_call T.oS hr (by rfl) T.S.g T.S.F.kp T.S.b .nil pass0 (pa_cons (pv 0) (pa_cons (pv 1) pa_nil))))
        (pss_cons (ps_set (i := 3) nd rfl (.inl rfl) (pe_op op_add pe_int (pe_call T.oD hr (by rfl) T.D.g T.D.F.kp T.D.b .nil pass0 (pa_cons (pv 2) (pa_cons pe_int pa_nil)))))
        (pss_cons (ps_set (i := 4) nd rfl (.inl rfl) (pe_tup (pa_cons (pe_call T.oO hr (by rfl) T.O.g T.O.F.kp T.O.b .nil pass0 (pa_cons (pv 2) (pa_cons (pv 3) pa_nil))) (pa_cons (pe_op op_add pe_int (pe_call T.oD hr (by rfl) T.D.g T.D.F.kp T.D.b .nil pass0 (pa_cons (pv 2) (pa_cons pe_int pa_nil)))) pa_nil))))
        (pss_cons (ps_set (i := 4) nd rfl (.inl rfl) (pe_op (r := rCatA K) op_catA (pv 4) (pe_tup (pa_cons (pe_call T.oD hr (by rfl) T.D.g T.D.F.kp T.D.b .nil pass0 (pa_cons (pv 2) (pa_cons (pv 3) pa_nil))) (pa_cons (pe_op op_add pe_int (pe_call T.oD hr (by rfl) T.D.g T.D.F.kp T.D.b .nil pass0 (pa_cons (pv 2) (pa_cons pe_int pa_nil)))) pa_nil)))))
        (pss_one (ps_if (PW.pt (pw_or (pt_not (pt_val (pe_call T.oA hr (by rfl) T.A.g T.A.F.kp T.A.b .nil pass0 (pa_cons (pv 2) (pa_cons (pv 3) (pa_cons (pv 4) pa_nil)))))) (pw_or1 (pt_not (pt_val (pe_call T.oL hr (by rfl) T.L.g T.L.F.kp T.L.b .nil pass0 (pa_cons (pv 2) (pa_cons (pv 3) (pa_cons (pv 4) pa_nil))))))))) (pss_one (ps_ret pe_bl)) pss_nil)))))))
      (pss_one (ps_ret pe_bl)), ?_⟩
    refine ⟨.ref a, rfl, a, _, rfl, .inl hS, 8, _, rfl, 1, _, rfl, ?_⟩
    have hj : ∃ j : Nat, j ≤ 1000 ∧ (if (if ((ns.map V.int).length : Int) < 8 then ((ns.map V.int).length : Int) else 8) > 1 then (if ((ns.map V.int).length : Int) < 8 then ((ns.map V.int).length : Int) else 8) else 1) = (j : Int) := by
      rw [List.length_map]
      by_cases h1 : (ns.length : Int) < 8
      · rw [if_pos h1]
        by_cases h2 : (ns.length : Int) > 1
        · rw [if_pos h2]
          exact ⟨ns.length, by omega, rfl⟩
        · rw [if_neg h2]
          exact ⟨1, by decide, rfl⟩
      · rw [if_neg h1]
        exact ⟨8, by decide, rfl⟩
    obtain ⟨j, hj1, ej⟩ := hj
    refine ⟨_, rfl, ?_, ?_, ?_⟩
    · show (-(2 ^ 62) : Int) ≤ _
      rw [ej]
      omega
    · show (_ : Int) < 2 ^ 62
      rw [ej]
      omega
    · refine for_range (lo := 0) (n := Int.toNat _) (fun i σ G => LamX.ExtN H G ∧ LamX.Tabs (TS P0) G ∧ ∃ o1 o2 o3 o4, σ = [some (.ref a), o1, o2, o3, o4]) ⟨LamX.ExtN.refl H, tabs_one hP0, none, none, none, none, rfl⟩ (fun i σ G hi hp => ?_) (fun σ G hp => ?_)
      · obtain ⟨sm, tm, o1, o2, o3, o4, rfl⟩ := hp
        have hi3 : i < j := by
          have h := hi
          rw [show Int.toNat _ = j from congrArg Int.toNat ej] at h
          exact h
        have big : (1000 : Nat) < sizeLine := by decide
        refine gn_to (σ' := ([some (.ref a), some (.int (0 + (i : Int))), o2, o3, o4] : L2.St)) rfl ?_
        -- stream
        refine ⟨.ref a, rfl, .int (0 + (i : Int)), rfl, a, ns, 0 + (i : Int), rfl, seq_ext hS sm, by omega, by omega, fun H1 l s1 nl st1 => ?_⟩
        have t1 := tabs_same s1 tm
        refine gn_to (σ' := ([some (.ref a), some (.int (0 + (i : Int))), some (.ref l), o3, o4] : L2.St)) rfl ?_
        dsimp only
        -- wide
        refine ⟨.ref l, rfl, l, 4, rfl, st1, by decide, by decide, fun H2 d k2 st2 d0 d4 => ⟨1, d, rfl, rfl, ?_⟩⟩
        obtain ⟨wd, ewd⟩ : ∃ wd : Nat, 1 + d = (wd : Int) := ⟨(1 + d).toNat, by omega⟩
        have w1 : 1 ≤ wd := by omega
        have w4 : wd ≤ 4 := by omega
        refine gn_to (v := V.int (1 + d)) (σ' := ([some (.ref a), some (.int (0 + (i : Int))), some (.ref l), some (.int (wd : Int)), o4] : L2.St)) (by rw [ewd]; rfl) ?_
        dsimp only
        -- arguments
        refine ⟨.ref l, rfl, .int (wd : Int), rfl, l, (wd : Int), rfl, st2, by omega, by omega, fun H3 po os k3 st3 hO xO => ?_⟩
        refine ⟨.ref l, rfl, l, 9, rfl, st3, by decide, by decide, fun H4 d1 k4 st4 d10 d19 => ⟨1, d1, rfl, rfl, by show 2 ≤ sizeLine; omega, fun t nT => ?_⟩⟩
        have k5 : Keep l H4 (upd H4 t (.tup [.ref po, .int (1 + d1)])) := (Keep.refl l H4).new nT
        have st5 := st4.new (o := .tup [.ref po, .int (1 + d1)]) nT
        have ntl : t ≠ l := st4.ne nT
        have eT : (upd H4 t (.tup [.ref po, .int (1 + d1)])) t = some (.tup [.ref po, .int (1 + d1)]) := upd_same
        have xO := (xO.up k4.same).up k5.same
        have k25 := ((k2.trans k3).trans k4).trans k5
        refine gn_to (σ' := ([some (.ref a), some (.int (0 + (i : Int))), some (.ref l), some (.int (wd : Int)), some (.ref t)] : L2.St)) rfl ?_
        dsimp only
        generalize upd H4 t (.tup [.ref po, .int (1 + d1)]) = H5 at k5 st5 eT xO k25
        clear k2 k3 k4 k5 st2 st3 st4 nT
        refine ⟨.ref t, rfl, .ref l, rfl, .int (wd : Int), rfl, l, (wd : Int), rfl, st5, by omega, by omega, fun H6 c k6 st6 c0 c1 => ?_⟩
        refine ⟨.ref l, rfl, l, 4, rfl, st6, by decide, by decide, fun H7 d2 k7 st7 d20 d24 => ⟨1, d2, rfl, rfl, by show 2 ≤ sizeLine; omega, fun t2 nT2 => ?_⟩⟩
        have s7 := same_new (o := .tup [.int c, .int (1 + d2)]) nT2
        have eT7 := s7 _ _ (k7 _ _ ntl (k6 _ _ ntl eT))
        refine ⟨t, t2, _, _, rfl, rfl, .inl (.inl eT7), .inl (.inl upd_same), by show 2 + 2 ≤ sizeLine; omega, fun z => (by cases z), fun _ z => (by cases z), fun _ _ u nu => ?_⟩
        have s8 := s7.trans (same_new (o := .tup ([.ref po, .int (1 + d1)] ++ [.int c, .int (1 + d2)])) nu)
        have k8 := k25.trans ((k6.trans k7).trans (Keep.of s8))
        have nul : u ≠ l := (st7.same s7).ne nu
        have eU : (upd (upd H7 t2 (.tup [.int c, .int (1 + d2)])) u (.tup ([.ref po, .int (1 + d1)] ++ [.int c, .int (1 + d2)]))) u = some (.tup [.ref po, .int (1 + d1), .int c, .int (1 + d2)]) := upd_same
        have st8 := st7.same s8
        have xO := ((xO.up k6.same).up k7.same).up (Keep.of (l := l) s8).same
        refine gn_to (σ' := ([some (.ref a), some (.int (0 + (i : Int))), some (.ref l), some (.int (wd : Int)), some (.ref u)] : L2.St)) rfl ?_
        dsimp only
        generalize upd (upd H7 t2 (.tup [.int c, .int (1 + d2)])) u (.tup ([.ref po, .int (1 + d1)] ++ [.int c, .int (1 + d2)])) = H8 at k8 eU st8 xO
        have t8 := tabs_keep k8 st1 t1
        obtain ⟨n, en⟩ : ∃ n : Nat, 1 + d1 = (n : Int) := ⟨(1 + d1).toNat, by omega⟩
        obtain ⟨kk, ekk⟩ : ∃ kk : Nat, 1 + d2 = (kk : Int) := ⟨(1 + d2).toNat, by omega⟩
        rw [en, ekk] at eU
        have hA : ArgT l H8 u os c kk n := ⟨nul, .ref po, eU, xO⟩
        have hk : Ak wd os c kk n := ⟨w1, w4, hO, c0, c1, by omega, by omega, by omega, by omega⟩
        refine ⟨.ref l, rfl, .int (wd : Int), rfl, .ref u, rfl, l, u, wd, os, c, n, kk, rfl, st8, t8, hA, hk, fun H9 e9 st9 t9 => ⟨_, rfl, iteF ?_⟩⟩
        refine ⟨.ref l, rfl, .int (wd : Int), rfl, .ref u, rfl, l, u, wd, os, c, n, kk, rfl, st9, t9, hA.ext e9, hk, fun H10 e10 st10 t10 => ⟨_, rfl, iteF ?_⟩⟩
        refine ⟨sm.trans fun b o hb nt => ?_, t10, _, _, _, _, rfl⟩
        have hb1 := s1 b o hb
        have nb : b ≠ l := ne_of_none hb nl
        have z := (((keep_ext k8).trans e9).trans e10) b o (by rw [hid_at nb]; exact hb1) nt
        rw [hid_at nb] at z
        exact z
      · obtain ⟨e0, t0, o1, o2, o3, o4, rfl⟩ := hp
        exact q _
end
end G1

set_option maxRecDepth 100000
set_option maxHeartbeats 8000000
namespace G1
open PySem PySem.Spec PyProof.Rows L2 KX
/-! ### what the top has written -/
theorem df_mk {K : PySem.W.Frag} {h : Heap} {mg : Str → Option Value} {x : String} {st : Stmt} {ps : List Str} {f : Addr} {oc : Value} {od an : Option Addr} {sl : Array (Option Value)} {kV doc pm cd ct : Value} (X : K.In h) (G : h.Ns mainGlobals mg)
    (a : PySem.W.nsIn K mainGlobals x = some (some (.ref f))) (l : K.lookup f = some ⟨oc, od, .func (PySem.W.fnOf x x (defArgs st) (defBody st) (defScope st) .none kV doc pm an cd ct), sl⟩) (c : PySem.W.codeIn K cd x = true)
    (k : PySem.W.keepIn K (.ref f) = true) (hb : ∀ (kV doc pm : Value) (an : Option Addr) (cdv ct : Value) (us : List Value), us.length = ps.length → bindArgs (PySem.W.fnOf x x (defArgs st) (defBody st) (defScope st) .none kV doc pm an cdv ct) ⟨us, []⟩ = pure (ps.zip us)) :
    Df K mg x st ps f (PySem.W.fnOf x x (defArgs st) (defBody st) (defScope st) .none kV doc pm an cd ct) :=
  ⟨fun_mk l c k, (fun_mk l c k).binds hb, PySem.W.mg_of X G a⟩
theorem all_mk {l : PySem.W.OpenLaw} {w : World} {K : PySem.W.Frag} {h : Heap} {mg : Str → Option Value} {fa : Addr} {C fI : Addr} {ocI : Value} {odI anI : Option Addr} {slI : Array (Option Value)} {kVI docI pmI cdI ctI : Value} {td : Addr} {odT : Option Addr} {slT : Array (Option Value)} {k1T k2T : Tok} {nT : Nat} {tq : Addr} {odtq : Option Addr} {sltq : Array (Option Value)} {ktq0 ktq1 ktq2 : Tok} {ntq : Nat} {tu : Addr} {odtu : Option Addr} {sltu : Array (Option Value)} {ktu0 ktu1 : Tok} {ntu : Nat} {R O M : Addr} {PL0 : Addr} {eL0 : Value} {ddL0 : Option Addr} {vsL0 : Array Value} {slL0 : Array (Option Value)} (X : K.In h) (G : h.Ns mainGlobals mg) (hfa : mg "law" = some (.ref fa))
    {f0 : Addr} {oc0 : Value} {od0 an0 : Option Addr} {sl0 : Array (Option Value)} {kV0 doc0 pm0 cd0 ct0 : Value} (a0 : PySem.W.nsIn K mainGlobals "is_between" = some (some (.ref f0))) (l0 : K.lookup f0 = some ⟨oc0, od0, .func (PySem.W.fnOf "is_between" "is_between" (defArgs sBetween) (defBody sBetween) (defScope sBetween) .none kV0 doc0 pm0 an0 cd0 ct0), sl0⟩) (c0 : PySem.W.codeIn K cd0 "is_between" = true) (k0 : PySem.W.keepIn K (.ref f0) = true)
    {f1 : Addr} {oc1 : Value} {od1 an1 : Option Addr} {sl1 : Array (Option Value)} {kV1 doc1 pm1 cd1 ct1 : Value} (a1 : PySem.W.nsIn K mainGlobals "check_between" = some (some (.ref f1))) (l1 : K.lookup f1 = some ⟨oc1, od1, .func (PySem.W.fnOf "check_between" "check_between" (defArgs sCk) (defBody sCk) (defScope sCk) .none kV1 doc1 pm1 an1 cd1 ct1), sl1⟩) (c1 : PySem.W.codeIn K cd1 "check_between" = true) (k1 : PySem.W.keepIn K (.ref f1) = true)
    {f2 : Addr} {oc2 : Value} {od2 an2 : Option Addr} {sl2 : Array (Option Value)} {kV2 doc2 pm2 cd2 ct2 : Value} (a2 : PySem.W.nsIn K mainGlobals "is_tuple_between" = some (some (.ref f2))) (l2 : K.lookup f2 = some ⟨oc2, od2, .func (PySem.W.fnOf "is_tuple_between" "is_tuple_between" (defArgs sTupB) (defBody sTupB) (defScope sTupB) .none kV2 doc2 pm2 an2 cd2 ct2), sl2⟩) (c2 : PySem.W.codeIn K cd2 "is_tuple_between" = true) (k2 : PySem.W.keepIn K (.ref f2) = true)
    {f3 : Addr} {oc3 : Value} {od3 an3 : Option Addr} {sl3 : Array (Option Value)} {kV3 doc3 pm3 cd3 ct3 : Value} (a3 : PySem.W.nsIn K mainGlobals "is_directed" = some (some (.ref f3))) (l3 : K.lookup f3 = some ⟨oc3, od3, .func (PySem.W.fnOf "is_directed" "is_directed" (defArgs sDir) (defBody sDir) (defScope sDir) .none kV3 doc3 pm3 an3 cd3 ct3), sl3⟩) (c3 : PySem.W.codeIn K cd3 "is_directed" = true) (k3 : PySem.W.keepIn K (.ref f3) = true)
    {f4 : Addr} {oc4 : Value} {od4 an4 : Option Addr} {sl4 : Array (Option Value)} {kV4 doc4 pm4 cd4 ct4 : Value} (a4 : PySem.W.nsIn K mainGlobals "have_distinct_columns" = some (some (.ref f4))) (l4 : K.lookup f4 = some ⟨oc4, od4, .func (PySem.W.fnOf "have_distinct_columns" "have_distinct_columns" (defArgs sDist) (defBody sDist) (defScope sDist) .none kV4 doc4 pm4 an4 cd4 ct4), sl4⟩) (c4 : PySem.W.codeIn K cd4 "have_distinct_columns" = true) (k4 : PySem.W.keepIn K (.ref f4) = true)
    {f5 : Addr} {oc5 : Value} {od5 an5 : Option Addr} {sl5 : Array (Option Value)} {kV5 doc5 pm5 cd5 ct5 : Value} (a5 : PySem.W.nsIn K mainGlobals "is_ascending" = some (some (.ref f5))) (l5 : K.lookup f5 = some ⟨oc5, od5, .func (PySem.W.fnOf "is_ascending" "is_ascending" (defArgs sAsc) (defBody sAsc) (defScope sAsc) .none kV5 doc5 pm5 an5 cd5 ct5), sl5⟩) (c5 : PySem.W.codeIn K cd5 "is_ascending" = true) (k5 : PySem.W.keepIn K (.ref f5) = true)
    {f6 : Addr} {oc6 : Value} {od6 an6 : Option Addr} {sl6 : Array (Option Value)} {kV6 doc6 pm6 cd6 ct6 : Value} (a6 : PySem.W.nsIn K mainGlobals "is_name" = some (some (.ref f6))) (l6 : K.lookup f6 = some ⟨oc6, od6, .func (PySem.W.fnOf "is_name" "is_name" (defArgs sName) (defBody sName) (defScope sName) .none kV6 doc6 pm6 an6 cd6 ct6), sl6⟩) (c6 : PySem.W.codeIn K cd6 "is_name" = true) (k6 : PySem.W.keepIn K (.ref f6) = true)
    {f7 : Addr} {oc7 : Value} {od7 an7 : Option Addr} {sl7 : Array (Option Value)} {kV7 doc7 pm7 cd7 ct7 : Value} (a7 : PySem.W.nsIn K mainGlobals "is_row" = some (some (.ref f7))) (l7 : K.lookup f7 = some ⟨oc7, od7, .func (PySem.W.fnOf "is_row" "is_row" (defArgs sRow) (defBody sRow) (defScope sRow) .none kV7 doc7 pm7 an7 cd7 ct7), sl7⟩) (c7 : PySem.W.codeIn K cd7 "is_row" = true) (k7 : PySem.W.keepIn K (.ref f7) = true)
    {f8 : Addr} {oc8 : Value} {od8 an8 : Option Addr} {sl8 : Array (Option Value)} {kV8 doc8 pm8 cd8 ct8 : Value} (a8 : PySem.W.nsIn K mainGlobals "are_row_values" = some (some (.ref f8))) (l8 : K.lookup f8 = some ⟨oc8, od8, .func (PySem.W.fnOf "are_row_values" "are_row_values" (defArgs sVals) (defBody sVals) (defScope sVals) .none kV8 doc8 pm8 an8 cd8 ct8), sl8⟩) (c8 : PySem.W.codeIn K cd8 "are_row_values" = true) (k8 : PySem.W.keepIn K (.ref f8) = true)
    {f9 : Addr} {oc9 : Value} {od9 an9 : Option Addr} {sl9 : Array (Option Value)} {kV9 doc9 pm9 cd9 ct9 : Value} (a9 : PySem.W.nsIn K mainGlobals "are_rows_of_one_width" = some (some (.ref f9))) (l9 : K.lookup f9 = some ⟨oc9, od9, .func (PySem.W.fnOf "are_rows_of_one_width" "are_rows_of_one_width" (defArgs sOW) (defBody sOW) (defScope sOW) .none kV9 doc9 pm9 an9 cd9 ct9), sl9⟩) (c9 : PySem.W.codeIn K cd9 "are_rows_of_one_width" = true) (k9 : PySem.W.keepIn K (.ref f9) = true)
    {f10 : Addr} {oc10 : Value} {od10 an10 : Option Addr} {sl10 : Array (Option Value)} {kV10 doc10 pm10 cd10 ct10 : Value} (a10 : PySem.W.nsIn K mainGlobals "have_one_width" = some (some (.ref f10))) (l10 : K.lookup f10 = some ⟨oc10, od10, .func (PySem.W.fnOf "have_one_width" "have_one_width" (defArgs sHW) (defBody sHW) (defScope sHW) .none kV10 doc10 pm10 an10 cd10 ct10), sl10⟩) (c10 : PySem.W.codeIn K cd10 "have_one_width" = true) (k10 : PySem.W.keepIn K (.ref f10) = true)
    {f11 : Addr} {oc11 : Value} {od11 an11 : Option Addr} {sl11 : Array (Option Value)} {kV11 doc11 pm11 cd11 ct11 : Value} (a11 : PySem.W.nsIn K mainGlobals "width_of" = some (some (.ref f11))) (l11 : K.lookup f11 = some ⟨oc11, od11, .func (PySem.W.fnOf "width_of" "width_of" (defArgs sWO) (defBody sWO) (defScope sWO) .none kV11 doc11 pm11 an11 cd11 ct11), sl11⟩) (c11 : PySem.W.codeIn K cd11 "width_of" = true) (k11 : PySem.W.keepIn K (.ref f11) = true)
    {f12 : Addr} {oc12 : Value} {od12 an12 : Option Addr} {sl12 : Array (Option Value)} {kV12 doc12 pm12 cd12 ct12 : Value} (a12 : PySem.W.nsIn K mainGlobals "is_rowset" = some (some (.ref f12))) (l12 : K.lookup f12 = some ⟨oc12, od12, .func (PySem.W.fnOf "is_rowset" "is_rowset" (defArgs sIR) (defBody sIR) (defScope sIR) .none kV12 doc12 pm12 an12 cd12 ct12), sl12⟩) (c12 : PySem.W.codeIn K cd12 "is_rowset" = true) (k12 : PySem.W.keepIn K (.ref f12) = true)
    {f13 : Addr} {oc13 : Value} {od13 an13 : Option Addr} {sl13 : Array (Option Value)} {kV13 doc13 pm13 cd13 ct13 : Value} (a13 : PySem.W.nsIn K mainGlobals "names_of" = some (some (.ref f13))) (l13 : K.lookup f13 = some ⟨oc13, od13, .func (PySem.W.fnOf "names_of" "names_of" (defArgs sNO) (defBody sNO) (defScope sNO) .none kV13 doc13 pm13 an13 cd13 ct13), sl13⟩) (c13 : PySem.W.codeIn K cd13 "names_of" = true) (k13 : PySem.W.keepIn K (.ref f13) = true)
    {f14 : Addr} {oc14 : Value} {od14 an14 : Option Addr} {sl14 : Array (Option Value)} {kV14 doc14 pm14 cd14 ct14 : Value} (a14 : PySem.W.nsIn K mainGlobals "sorted_names_of" = some (some (.ref f14))) (l14 : K.lookup f14 = some ⟨oc14, od14, .func (PySem.W.fnOf "sorted_names_of" "sorted_names_of" (defArgs sSNO) (defBody sSNO) (defScope sSNO) .none kV14 doc14 pm14 an14 cd14 ct14), sl14⟩) (c14 : PySem.W.codeIn K cd14 "sorted_names_of" = true) (k14 : PySem.W.keepIn K (.ref f14) = true)
    {f15 : Addr} {oc15 : Value} {od15 an15 : Option Addr} {sl15 : Array (Option Value)} {kV15 doc15 pm15 cd15 ct15 : Value} (a15 : PySem.W.nsIn K mainGlobals "check_rowset" = some (some (.ref f15))) (l15 : K.lookup f15 = some ⟨oc15, od15, .func (PySem.W.fnOf "check_rowset" "check_rowset" (defArgs sCR) (defBody sCR) (defScope sCR) .none kV15 doc15 pm15 an15 cd15 ct15), sl15⟩) (c15 : PySem.W.codeIn K cd15 "check_rowset" = true) (k15 : PySem.W.keepIn K (.ref f15) = true)
    {f16 : Addr} {oc16 : Value} {od16 an16 : Option Addr} {sl16 : Array (Option Value)} {kV16 doc16 pm16 cd16 ct16 : Value} (a16 : PySem.W.nsIn K mainGlobals "check_width" = some (some (.ref f16))) (l16 : K.lookup f16 = some ⟨oc16, od16, .func (PySem.W.fnOf "check_width" "check_width" (defArgs sCw) (defBody sCw) (defScope sCw) .none kV16 doc16 pm16 an16 cd16 ct16), sl16⟩) (c16 : PySem.W.codeIn K cd16 "check_width" = true) (k16 : PySem.W.keepIn K (.ref f16) = true)
    {f17 : Addr} {oc17 : Value} {od17 an17 : Option Addr} {sl17 : Array (Option Value)} {kV17 doc17 pm17 cd17 ct17 : Value} (a17 : PySem.W.nsIn K mainGlobals "rowset_width" = some (some (.ref f17))) (l17 : K.lookup f17 = some ⟨oc17, od17, .func (PySem.W.fnOf "rowset_width" "rowset_width" (defArgs sRW) (defBody sRW) (defScope sRW) .none kV17 doc17 pm17 an17 cd17 ct17), sl17⟩) (c17 : PySem.W.codeIn K cd17 "rowset_width" = true) (k17 : PySem.W.keepIn K (.ref f17) = true)
    {f18 : Addr} {oc18 : Value} {od18 an18 : Option Addr} {sl18 : Array (Option Value)} {kV18 doc18 pm18 cd18 ct18 : Value} (a18 : PySem.W.nsIn K mainGlobals "is_condition" = some (some (.ref f18))) (l18 : K.lookup f18 = some ⟨oc18, od18, .func (PySem.W.fnOf "is_condition" "is_condition" (defArgs sIC) (defBody sIC) (defScope sIC) .none kV18 doc18 pm18 an18 cd18 ct18), sl18⟩) (c18 : PySem.W.codeIn K cd18 "is_condition" = true) (k18 : PySem.W.keepIn K (.ref f18) = true)
    {f19 : Addr} {oc19 : Value} {od19 an19 : Option Addr} {sl19 : Array (Option Value)} {kV19 doc19 pm19 cd19 ct19 : Value} (a19 : PySem.W.nsIn K mainGlobals "is_condition_within" = some (some (.ref f19))) (l19 : K.lookup f19 = some ⟨oc19, od19, .func (PySem.W.fnOf "is_condition_within" "is_condition_within" (defArgs sWi) (defBody sWi) (defScope sWi) .none kV19 doc19 pm19 an19 cd19 ct19), sl19⟩) (c19 : PySem.W.codeIn K cd19 "is_condition_within" = true) (k19 : PySem.W.keepIn K (.ref f19) = true)
    {f20 : Addr} {oc20 : Value} {od20 an20 : Option Addr} {sl20 : Array (Option Value)} {kV20 doc20 pm20 cd20 ct20 : Value} (a20 : PySem.W.nsIn K mainGlobals "is_comparison" = some (some (.ref f20))) (l20 : K.lookup f20 = some ⟨oc20, od20, .func (PySem.W.fnOf "is_comparison" "is_comparison" (defArgs sCp) (defBody sCp) (defScope sCp) .none kV20 doc20 pm20 an20 cd20 ct20), sl20⟩) (c20 : PySem.W.codeIn K cd20 "is_comparison" = true) (k20 : PySem.W.keepIn K (.ref f20) = true)
    {f21 : Addr} {oc21 : Value} {od21 an21 : Option Addr} {sl21 : Array (Option Value)} {kV21 doc21 pm21 cd21 ct21 : Value} (a21 : PySem.W.nsIn K mainGlobals "check_condition" = some (some (.ref f21))) (l21 : K.lookup f21 = some ⟨oc21, od21, .func (PySem.W.fnOf "check_condition" "check_condition" (defArgs sCC) (defBody sCC) (defScope sCC) .none kV21 doc21 pm21 an21 cd21 ct21), sl21⟩) (c21 : PySem.W.codeIn K cd21 "check_condition" = true) (k21 : PySem.W.keepIn K (.ref f21) = true)
    {f22 : Addr} {oc22 : Value} {od22 an22 : Option Addr} {sl22 : Array (Option Value)} {kV22 doc22 pm22 cd22 ct22 : Value} (a22 : PySem.W.nsIn K mainGlobals "holds" = some (some (.ref f22))) (l22 : K.lookup f22 = some ⟨oc22, od22, .func (PySem.W.fnOf "holds" "holds" (defArgs sHo) (defBody sHo) (defScope sHo) .none kV22 doc22 pm22 an22 cd22 ct22), sl22⟩) (c22 : PySem.W.codeIn K cd22 "holds" = true) (k22 : PySem.W.keepIn K (.ref f22) = true)
    {f23 : Addr} {oc23 : Value} {od23 an23 : Option Addr} {sl23 : Array (Option Value)} {kV23 doc23 pm23 cd23 ct23 : Value} (a23 : PySem.W.nsIn K mainGlobals "compares" = some (some (.ref f23))) (l23 : K.lookup f23 = some ⟨oc23, od23, .func (PySem.W.fnOf "compares" "compares" (defArgs sCmp) (defBody sCmp) (defScope sCmp) .none kV23 doc23 pm23 an23 cd23 ct23), sl23⟩) (c23 : PySem.W.codeIn K cd23 "compares" = true) (k23 : PySem.W.keepIn K (.ref f23) = true)
    {f24 : Addr} {oc24 : Value} {od24 an24 : Option Addr} {sl24 : Array (Option Value)} {kV24 doc24 pm24 cd24 ct24 : Value} (a24 : PySem.W.nsIn K mainGlobals "is_order" = some (some (.ref f24))) (l24 : K.lookup f24 = some ⟨oc24, od24, .func (PySem.W.fnOf "is_order" "is_order" (defArgs sIO) (defBody sIO) (defScope sIO) .none kV24 doc24 pm24 an24 cd24 ct24), sl24⟩) (c24 : PySem.W.codeIn K cd24 "is_order" = true) (k24 : PySem.W.keepIn K (.ref f24) = true)
    {f25 : Addr} {oc25 : Value} {od25 an25 : Option Addr} {sl25 : Array (Option Value)} {kV25 doc25 pm25 cd25 ct25 : Value} (a25 : PySem.W.nsIn K mainGlobals "check_order" = some (some (.ref f25))) (l25 : K.lookup f25 = some ⟨oc25, od25, .func (PySem.W.fnOf "check_order" "check_order" (defArgs sCO) (defBody sCO) (defScope sCO) .none kV25 doc25 pm25 an25 cd25 ct25), sl25⟩) (c25 : PySem.W.codeIn K cd25 "check_order" = true) (k25 : PySem.W.keepIn K (.ref f25) = true)
    {f26 : Addr} {oc26 : Value} {od26 an26 : Option Addr} {sl26 : Array (Option Value)} {kV26 doc26 pm26 cd26 ct26 : Value} (a26 : PySem.W.nsIn K mainGlobals "order_key" = some (some (.ref f26))) (l26 : K.lookup f26 = some ⟨oc26, od26, .func (PySem.W.fnOf "order_key" "order_key" (defArgs sKey) (defBody sKey) (defScope sKey) .none kV26 doc26 pm26 an26 cd26 ct26), sl26⟩) (c26 : PySem.W.codeIn K cd26 "order_key" = true) (k26 : PySem.W.keepIn K (.ref f26) = true)
    {f27 : Addr} {oc27 : Value} {od27 an27 : Option Addr} {sl27 : Array (Option Value)} {kV27 doc27 pm27 ct27 : Value} {cL0 : Addr} (a27 : PySem.W.nsIn K mainGlobals "sorted_rows" = some (some (.ref f27))) (l27 : K.lookup f27 = some ⟨oc27, od27, .func (PySem.W.fnOf "sorted_rows" "sorted_rows" (defArgs sSR) (defBody sSR) (defScope sSR) .none kV27 doc27 pm27 an27 (.ref cL0) ct27), sl27⟩) (c27 : PySem.W.codeIn K (.ref cL0) "sorted_rows" = true) (k27 : PySem.W.keepIn K (.ref f27) = true)
    {f28 : Addr} {oc28 : Value} {od28 an28 : Option Addr} {sl28 : Array (Option Value)} {kV28 doc28 pm28 cd28 ct28 : Value} (a28 : PySem.W.nsIn K mainGlobals "check_count" = some (some (.ref f28))) (l28 : K.lookup f28 = some ⟨oc28, od28, .func (PySem.W.fnOf "check_count" "check_count" (defArgs sCc) (defBody sCc) (defScope sCc) .none kV28 doc28 pm28 an28 cd28 ct28), sl28⟩) (c28 : PySem.W.codeIn K cd28 "check_count" = true) (k28 : PySem.W.keepIn K (.ref f28) = true)
    {f29 : Addr} {oc29 : Value} {od29 an29 : Option Addr} {sl29 : Array (Option Value)} {doc29 pm29 cd29 ct29 : Value} {DK29 : Addr} {tK290 : Tok} (a29 : PySem.W.nsIn K mainGlobals "top_names" = some (some (.ref f29))) (l29 : K.lookup f29 = some ⟨oc29, od29, .func (PySem.W.fnOf "top_names" "top_names" (defArgs sTN) (defBody sTN) (defScope sTN) .none (.ref DK29) doc29 pm29 an29 cd29 ct29), sl29⟩) (c29 : PySem.W.codeIn K cd29 "top_names" = true) (k29 : PySem.W.keepIn K (.ref f29) = true)
    {f30 : Addr} {oc30 : Value} {od30 an30 : Option Addr} {sl30 : Array (Option Value)} {kV30 doc30 pm30 cd30 ct30 : Value} (a30 : PySem.W.nsIn K mainGlobals "top_rows" = some (some (.ref f30))) (l30 : K.lookup f30 = some ⟨oc30, od30, .func (PySem.W.fnOf "top_rows" "top_rows" (defArgs sTR) (defBody sTR) (defScope sTR) .none kV30 doc30 pm30 an30 cd30 ct30), sl30⟩) (c30 : PySem.W.codeIn K cd30 "top_rows" = true) (k30 : PySem.W.keepIn K (.ref f30) = true)
    {f31 : Addr} {oc31 : Value} {od31 an31 : Option Addr} {sl31 : Array (Option Value)} {doc31 pm31 cd31 ct31 : Value} {DK31 : Addr} {tK310 : Tok} {tK311 : Tok} {tK312 : Tok} (a31 : PySem.W.nsIn K mainGlobals "capped_top_names" = some (some (.ref f31))) (l31 : K.lookup f31 = some ⟨oc31, od31, .func (PySem.W.fnOf "capped_top_names" "capped_top_names" (defArgs sKN) (defBody sKN) (defScope sKN) .none (.ref DK31) doc31 pm31 an31 cd31 ct31), sl31⟩) (c31 : PySem.W.codeIn K cd31 "capped_top_names" = true) (k31 : PySem.W.keepIn K (.ref f31) = true)
    {f32 : Addr} {oc32 : Value} {od32 an32 : Option Addr} {sl32 : Array (Option Value)} {kV32 doc32 pm32 cd32 ct32 : Value} (a32 : PySem.W.nsIn K mainGlobals "capped_top_rows" = some (some (.ref f32))) (l32 : K.lookup f32 = some ⟨oc32, od32, .func (PySem.W.fnOf "capped_top_rows" "capped_top_rows" (defArgs sKT) (defBody sKT) (defScope sKT) .none kV32 doc32 pm32 an32 cd32 ct32), sl32⟩) (c32 : PySem.W.codeIn K cd32 "capped_top_rows" = true) (k32 : PySem.W.keepIn K (.ref f32) = true)
    {f33 : Addr} {oc33 : Value} {od33 an33 : Option Addr} {sl33 : Array (Option Value)} {kV33 doc33 pm33 cd33 ct33 : Value} (a33 : PySem.W.nsIn K mainGlobals "capped_rows" = some (some (.ref f33))) (l33 : K.lookup f33 = some ⟨oc33, od33, .func (PySem.W.fnOf "capped_rows" "capped_rows" (defArgs sKR) (defBody sKR) (defScope sKR) .none kV33 doc33 pm33 an33 cd33 ct33), sl33⟩) (c33 : PySem.W.codeIn K cd33 "capped_rows" = true) (k33 : PySem.W.keepIn K (.ref f33) = true)
    {f34 : Addr} {oc34 : Value} {od34 an34 : Option Addr} {sl34 : Array (Option Value)} {kV34 doc34 pm34 cd34 ct34 : Value} (a34 : PySem.W.nsIn K mainGlobals "group_rows" = some (some (.ref f34))) (l34 : K.lookup f34 = some ⟨oc34, od34, .func (PySem.W.fnOf "group_rows" "group_rows" (defArgs sGR) (defBody sGR) (defScope sGR) .none kV34 doc34 pm34 an34 cd34 ct34), sl34⟩) (c34 : PySem.W.codeIn K cd34 "group_rows" = true) (k34 : PySem.W.keepIn K (.ref f34) = true)
    {f35 : Addr} {oc35 : Value} {od35 an35 : Option Addr} {sl35 : Array (Option Value)} {kV35 doc35 pm35 cd35 ct35 : Value} (a35 : PySem.W.nsIn K mainGlobals "groups_of" = some (some (.ref f35))) (l35 : K.lookup f35 = some ⟨oc35, od35, .func (PySem.W.fnOf "groups_of" "groups_of" (defArgs sGO) (defBody sGO) (defScope sGO) .none kV35 doc35 pm35 an35 cd35 ct35), sl35⟩) (c35 : PySem.W.codeIn K cd35 "groups_of" = true) (k35 : PySem.W.keepIn K (.ref f35) = true)
    {f36 : Addr} {oc36 : Value} {od36 an36 : Option Addr} {sl36 : Array (Option Value)} {kV36 doc36 pm36 cd36 ct36 : Value} (a36 : PySem.W.nsIn K mainGlobals "filter_rows" = some (some (.ref f36))) (l36 : K.lookup f36 = some ⟨oc36, od36, .func (PySem.W.fnOf "filter_rows" "filter_rows" (defArgs sFRw) (defBody sFRw) (defScope sFRw) .none kV36 doc36 pm36 an36 cd36 ct36), sl36⟩) (c36 : PySem.W.codeIn K cd36 "filter_rows" = true) (k36 : PySem.W.keepIn K (.ref f36) = true)
    {f37 : Addr} {oc37 : Value} {od37 an37 : Option Addr} {sl37 : Array (Option Value)} {kV37 doc37 pm37 cd37 ct37 : Value} (a37 : PySem.W.nsIn K mainGlobals "matching_rows" = some (some (.ref f37))) (l37 : K.lookup f37 = some ⟨oc37, od37, .func (PySem.W.fnOf "matching_rows" "matching_rows" (defArgs sMRw) (defBody sMRw) (defScope sMRw) .none kV37 doc37 pm37 an37 cd37 ct37), sl37⟩) (c37 : PySem.W.codeIn K cd37 "matching_rows" = true) (k37 : PySem.W.keepIn K (.ref f37) = true)
    {f38 : Addr} {oc38 : Value} {od38 an38 : Option Addr} {sl38 : Array (Option Value)} {kV38 doc38 pm38 cd38 ct38 : Value} (a38 : PySem.W.nsIn K mainGlobals "_law_stream" = some (some (.ref f38))) (l38 : K.lookup f38 = some ⟨oc38, od38, .func (PySem.W.fnOf "_law_stream" "_law_stream" (defArgs sStream) (defBody sStream) (defScope sStream) .none kV38 doc38 pm38 an38 cd38 ct38), sl38⟩) (c38 : PySem.W.codeIn K cd38 "_law_stream" = true) (k38 : PySem.W.keepIn K (.ref f38) = true)
    {f39 : Addr} {oc39 : Value} {od39 an39 : Option Addr} {sl39 : Array (Option Value)} {kV39 doc39 pm39 cd39 ct39 : Value} (a39 : PySem.W.nsIn K mainGlobals "_law_draw" = some (some (.ref f39))) (l39 : K.lookup f39 = some ⟨oc39, od39, .func (PySem.W.fnOf "_law_draw" "_law_draw" (defArgs sDraw) (defBody sDraw) (defScope sDraw) .none kV39 doc39 pm39 an39 cd39 ct39), sl39⟩) (c39 : PySem.W.codeIn K cd39 "_law_draw" = true) (k39 : PySem.W.keepIn K (.ref f39) = true)
    {f40 : Addr} {oc40 : Value} {od40 an40 : Option Addr} {sl40 : Array (Option Value)} {kV40 doc40 pm40 cd40 ct40 : Value} (a40 : PySem.W.nsIn K mainGlobals "_law_name" = some (some (.ref f40))) (l40 : K.lookup f40 = some ⟨oc40, od40, .func (PySem.W.fnOf "_law_name" "_law_name" (defArgs sNm) (defBody sNm) (defScope sNm) .none kV40 doc40 pm40 an40 cd40 ct40), sl40⟩) (c40 : PySem.W.codeIn K cd40 "_law_name" = true) (k40 : PySem.W.keepIn K (.ref f40) = true)
    {f41 : Addr} {oc41 : Value} {od41 an41 : Option Addr} {sl41 : Array (Option Value)} {kV41 doc41 pm41 cd41 ct41 : Value} (a41 : PySem.W.nsIn K mainGlobals "_law_rowset" = some (some (.ref f41))) (l41 : K.lookup f41 = some ⟨oc41, od41, .func (PySem.W.fnOf "_law_rowset" "_law_rowset" (defArgs sRs) (defBody sRs) (defScope sRs) .none kV41 doc41 pm41 an41 cd41 ct41), sl41⟩) (c41 : PySem.W.codeIn K cd41 "_law_rowset" = true) (k41 : PySem.W.keepIn K (.ref f41) = true)
    {f42 : Addr} {oc42 : Value} {od42 an42 : Option Addr} {sl42 : Array (Option Value)} {kV42 doc42 pm42 cd42 ct42 : Value} (a42 : PySem.W.nsIn K mainGlobals "_law_order" = some (some (.ref f42))) (l42 : K.lookup f42 = some ⟨oc42, od42, .func (PySem.W.fnOf "_law_order" "_law_order" (defArgs sLO) (defBody sLO) (defScope sLO) .none kV42 doc42 pm42 an42 cd42 ct42), sl42⟩) (c42 : PySem.W.codeIn K cd42 "_law_order" = true) (k42 : PySem.W.keepIn K (.ref f42) = true)
    {f43 : Addr} {oc43 : Value} {od43 an43 : Option Addr} {sl43 : Array (Option Value)} {kV43 doc43 pm43 cd43 ct43 : Value} (a43 : PySem.W.nsIn K mainGlobals "_law_condition" = some (some (.ref f43))) (l43 : K.lookup f43 = some ⟨oc43, od43, .func (PySem.W.fnOf "_law_condition" "_law_condition" (defArgs sLCo) (defBody sLCo) (defScope sLCo) .none kV43 doc43 pm43 an43 cd43 ct43), sl43⟩) (c43 : PySem.W.codeIn K cd43 "_law_condition" = true) (k43 : PySem.W.keepIn K (.ref f43) = true)
    {f44 : Addr} {oc44 : Value} {od44 an44 : Option Addr} {sl44 : Array (Option Value)} {kV44 doc44 pm44 cd44 ct44 : Value} (a44 : PySem.W.nsIn K mainGlobals "_law_subsets" = some (some (.ref f44))) (l44 : K.lookup f44 = some ⟨oc44, od44, .func (PySem.W.fnOf "_law_subsets" "_law_subsets" (defArgs sSub) (defBody sSub) (defScope sSub) .none kV44 doc44 pm44 an44 cd44 ct44), sl44⟩) (c44 : PySem.W.codeIn K cd44 "_law_subsets" = true) (k44 : PySem.W.keepIn K (.ref f44) = true)
    {f45 : Addr} {oc45 : Value} {od45 an45 : Option Addr} {sl45 : Array (Option Value)} {kV45 doc45 pm45 cd45 ct45 : Value} (a45 : PySem.W.nsIn K mainGlobals "_law_selection" = some (some (.ref f45))) (l45 : K.lookup f45 = some ⟨oc45, od45, .func (PySem.W.fnOf "_law_selection" "_law_selection" (defArgs sSel) (defBody sSel) (defScope sSel) .none kV45 doc45 pm45 an45 cd45 ct45), sl45⟩) (c45 : PySem.W.codeIn K cd45 "_law_selection" = true) (k45 : PySem.W.keepIn K (.ref f45) = true)
    {f46 : Addr} {oc46 : Value} {od46 an46 : Option Addr} {sl46 : Array (Option Value)} {kV46 doc46 pm46 cd46 ct46 : Value} (a46 : PySem.W.nsIn K mainGlobals "_law_rows_named" = some (some (.ref f46))) (l46 : K.lookup f46 = some ⟨oc46, od46, .func (PySem.W.fnOf "_law_rows_named" "_law_rows_named" (defArgs sRNm) (defBody sRNm) (defScope sRNm) .none kV46 doc46 pm46 an46 cd46 ct46), sl46⟩) (c46 : PySem.W.codeIn K cd46 "_law_rows_named" = true) (k46 : PySem.W.keepIn K (.ref f46) = true)
    {f47 : Addr} {oc47 : Value} {od47 an47 : Option Addr} {sl47 : Array (Option Value)} {kV47 doc47 pm47 cd47 ct47 : Value} (a47 : PySem.W.nsIn K mainGlobals "_law_subset_holds" = some (some (.ref f47))) (l47 : K.lookup f47 = some ⟨oc47, od47, .func (PySem.W.fnOf "_law_subset_holds" "_law_subset_holds" (defArgs sSH) (defBody sSH) (defScope sSH) .none kV47 doc47 pm47 an47 cd47 ct47), sl47⟩) (c47 : PySem.W.codeIn K cd47 "_law_subset_holds" = true) (k47 : PySem.W.keepIn K (.ref f47) = true)
    {f48 : Addr} {oc48 : Value} {od48 an48 : Option Addr} {sl48 : Array (Option Value)} {kV48 doc48 pm48 cd48 ct48 : Value} (a48 : PySem.W.nsIn K mainGlobals "_law_small_holds" = some (some (.ref f48))) (l48 : K.lookup f48 = some ⟨oc48, od48, .func (PySem.W.fnOf "_law_small_holds" "_law_small_holds" (defArgs sSml) (defBody sSml) (defScope sSml) .none kV48 doc48 pm48 an48 cd48 ct48), sl48⟩) (c48 : PySem.W.codeIn K cd48 "_law_small_holds" = true) (k48 : PySem.W.keepIn K (.ref f48) = true)
    {f49 : Addr} {oc49 : Value} {od49 an49 : Option Addr} {sl49 : Array (Option Value)} {kV49 doc49 pm49 cd49 ct49 : Value} (a49 : PySem.W.nsIn K mainGlobals "_law_sample" = some (some (.ref f49))) (l49 : K.lookup f49 = some ⟨oc49, od49, .func (PySem.W.fnOf "_law_sample" "_law_sample" (defArgs sSmp) (defBody sSmp) (defScope sSmp) .none kV49 doc49 pm49 an49 cd49 ct49), sl49⟩) (c49 : PySem.W.codeIn K cd49 "_law_sample" = true) (k49 : PySem.W.keepIn K (.ref f49) = true)
    {f50 : Addr} {oc50 : Value} {od50 an50 : Option Addr} {sl50 : Array (Option Value)} {kV50 doc50 pm50 cd50 ct50 : Value} (a50 : PySem.W.nsIn K mainGlobals "_law_large_holds" = some (some (.ref f50))) (l50 : K.lookup f50 = some ⟨oc50, od50, .func (PySem.W.fnOf "_law_large_holds" "_law_large_holds" (defArgs sLg) (defBody sLg) (defScope sLg) .none kV50 doc50 pm50 an50 cd50 ct50), sl50⟩) (c50 : PySem.W.codeIn K cd50 "_law_large_holds" = true) (k50 : PySem.W.keepIn K (.ref f50) = true)
    {f51 : Addr} {oc51 : Value} {od51 an51 : Option Addr} {sl51 : Array (Option Value)} {kV51 doc51 pm51 cd51 ct51 : Value} (a51 : PySem.W.nsIn K mainGlobals "law" = some (some (.ref f51))) (l51 : K.lookup f51 = some ⟨oc51, od51, .func (PySem.W.fnOf "law" "law" (defArgs sLaw) (defBody sLaw) (defScope sLaw) .none kV51 doc51 pm51 an51 cd51 ct51), sl51⟩) (c51 : PySem.W.codeIn K cd51 "law" = true) (k51 : PySem.W.keepIn K (.ref f51) = true)
    (b0 : PySem.W.nsIn K mainGlobals "isinstance" = some none)
    (b1 : PySem.W.nsIn K mainGlobals "bool" = some none)
    (b2 : PySem.W.nsIn K mainGlobals "int" = some none)
    (b3 : PySem.W.nsIn K mainGlobals "str" = some none)
    (b4 : PySem.W.nsIn K mainGlobals "tuple" = some none)
    (b5 : PySem.W.nsIn K mainGlobals "list" = some none)
    (b6 : PySem.W.nsIn K mainGlobals "len" = some none)
    (b7 : PySem.W.nsIn K mainGlobals "all" = some none)
    (b8 : PySem.W.nsIn K mainGlobals "range" = some none)
    (b9 : PySem.W.nsIn K mainGlobals "max" = some none)
    (b10 : PySem.W.nsIn K mainGlobals "min" = some none)
    (b11 : PySem.W.nsIn K mainGlobals "abs" = some none)
    (b12 : PySem.W.nsIn K mainGlobals "repr" = some none)
    (b13 : PySem.W.nsIn K mainGlobals "sorted" = some none)
    (b14 : PySem.W.nsIn K mainGlobals "IndexError" = some none)
    (b15 : PySem.W.nsIn K mainGlobals "ValueError" = some none)
    (b16 : PySem.W.nsIn K mainGlobals "zip" = some none)
    (b17 : PySem.W.nsIn K mainGlobals "any" = some none)
    {t0 : Tok} (v0 : PySem.W.nsIn K mainGlobals "MAX_WIDTH" = some (some (.int 4 t0)))
    {t1 : Tok} (v1 : PySem.W.nsIn K mainGlobals "MAX_COST" = some (some (.int 1000000 t1)))
    {t2 : Tok} (v2 : PySem.W.nsIn K mainGlobals "MAX_VALUE" = some (some (.int 1000000000 t2)))
    {t3 : Tok} (v3 : PySem.W.nsIn K mainGlobals "MAX_EXPIRY" = some (some (.int 1000000000 t3)))
    {t4 : Tok} (v4 : PySem.W.nsIn K mainGlobals "MAX_LETTERS" = some (some (.int 8 t4)))
    {t5 : Tok} (v5 : PySem.W.nsIn K mainGlobals "LETTERS" = some (some (.str "abcdefghijklmnopqrstuvwxyz" t5)))
    {t6 : Tok} (v6 : PySem.W.nsIn K mainGlobals "VALUES" = some (some (.int 2 t6)))
    {t7 : Tok} (v7 : PySem.W.nsIn K mainGlobals "NAME" = some (some (.int 0 t7)))
    {t8 : Tok} (v8 : PySem.W.nsIn K mainGlobals "MAX_ROWS" = some (some (.int 60 t8)))
    {t9 : Tok} (v9 : PySem.W.nsIn K mainGlobals "MAX_COUNT" = some (some (.int 9 t9)))
    {t10 : Tok} (v10 : PySem.W.nsIn K mainGlobals "MAX_CONDITION_NESTING" = some (some (.int 3 t10)))
    {t11 : Tok} (v11 : PySem.W.nsIn K mainGlobals "MAX_PARTS" = some (some (.int 4 t11)))
    (aC : PySem.W.nsIn K mainGlobals "InvalidNumber" = some (some (.ref C)))
    (x1 : PySem.W.excInitIn K C ixTl "IndexError.__new__" = true)
    (x2 : PySem.W.excOver K C ixTl = true)
    (x3 : PySem.W.findIn K (.ref C) "__setattr__" = some (some (.builtin "object.__setattr__")))
    (x4 : PySem.W.hasDictIn K C = true)
    (x5 : PySem.W.subIn K (.ref C) (.type "BaseException") = some true)
    (x6 : PySem.W.typeIn K (.ref C) = some (.type "type"))
    (x7 : PySem.W.keepIn K (.ref C) = true)
    (y1 : PySem.W.findIn K (.ref C) "__getattribute__" = some (some (.builtin "BaseException.__getattribute__")))
    (y2 : PySem.W.findIn K (.ref C) "__getattr__" = some none)
    (y3 : PySem.W.findIn K (.ref C) "__class__" = some (some (.builtin "object.__class__")))
    (y4 : PySem.W.specialIn K (.builtin "object.__class__") "__get__" = some (some (.builtin "getset_descriptor.__get__")))
    (y5 : PySem.W.takesIn K (.builtin "object.__class__") = some true)
    (y6 : PySem.W.mroIn K C (.type "object") = some true)
    (z1 : PySem.W.findIn K (.ref C) "value" = some none)
    (z2 : PySem.W.findIn K (.ref C) "__init__" = some (some (.ref fI)))
    (z3 : PySem.W.typeIn K (.ref fI) = some (.type "function"))
    (z4 : PySem.W.findCls K (.type "IndexError") (.type "type") "__init__" = some (.val (.builtin "IndexError.__init__")))
    (z5 : K.lookup fI = some ⟨ocI, odI, .func (PySem.W.fnOf "__init__" "InvalidNumber.__init__" (defArgs sInit) (defBody sInit) (defScope sInit) .none kVI docI pmI anI cdI ctI), slI⟩)
    (z6 : PySem.W.codeIn K cdI "InvalidNumber.__init__" = true)
    (z7 : PySem.W.keepIn K (.ref fI) = true)
    (aR : PySem.W.nsIn K mainGlobals "InvalidRowset" = some (some (.ref R)))
    (q1 : PySem.W.excIn K R [.type "ValueError", .type "Exception", .type "BaseException", .type "object"] "ValueError.__new__" = true)
    (q2 : PySem.W.keepIn K (.ref R) = true)
    (q3 : PySem.W.subIn K (.ref R) (.type "BaseException") = some true)
    (q4 : PySem.W.typeIn K (.ref R) = some (.type "type"))
    (aO : PySem.W.nsIn K mainGlobals "InvalidOrder" = some (some (.ref O)))
    (m1 : PySem.W.excIn K O [.type "ValueError", .type "Exception", .type "BaseException", .type "object"] "ValueError.__new__" = true)
    (m2 : PySem.W.keepIn K (.ref O) = true)
    (m3 : PySem.W.subIn K (.ref O) (.type "BaseException") = some true)
    (m4 : PySem.W.typeIn K (.ref O) = some (.type "type"))
    (aM : PySem.W.nsIn K mainGlobals "InvalidCondition" = some (some (.ref M)))
    (n1 : PySem.W.excIn K M [.type "ValueError", .type "Exception", .type "BaseException", .type "object"] "ValueError.__new__" = true)
    (n2 : PySem.W.keepIn K (.ref M) = true)
    (n3 : PySem.W.subIn K (.ref M) (.type "BaseException") = some true)
    (n4 : PySem.W.typeIn K (.ref M) = some (.type "type"))
    (d1 : PySem.W.nsIn K mainGlobals "DIRECTIONS" = some (some (.ref td)))
    (d2 : K.lookup td = some ⟨.type "tuple", odT, .seq #[.str "asc" k1T, .str "desc" k2T] nT, slT⟩)
    (p1 : PySem.W.nsIn K mainGlobals "COMPARISONS" = some (some (.ref tq)))
    (p2 : K.lookup tq = some ⟨.type "tuple", odtq, .seq #[.str "ge" ktq0, .str "le" ktq1, .str "eq" ktq2] ntq, sltq⟩)
    (p3 : PySem.W.nsIn K mainGlobals "CONNECTIVES" = some (some (.ref tu)))
    (p4 : K.lookup tu = some ⟨.type "tuple", odtu, .seq #[.str "and" ktu0, .str "or" ktu1] ntu, sltu⟩)
    (kd290 : PySem.W.nsIn K DK29 "count" = some (some (.int 1 tK290)))
    (kd310 : PySem.W.nsIn K DK31 "count" = some (some (.int 1 tK310)))
    (kd311 : PySem.W.nsIn K DK31 "column" = some (some (.int 0 tK311)))
    (kd312 : PySem.W.nsIn K DK31 "cap" = some (some (.int 1 tK312)))
    (g01 : K.lookup cL0 = some ⟨eL0, ddL0, .fields vsL0, slL0⟩)
    (g02 : vsL0[11]? = some (.ref PL0))
    (g03 : PySem.W.codeHdIn K cL0 PL0 = true)
    (g04 : K.lookup PL0 = none)
    (g05 : h.get? PL0 = some { cls := .none, data := .fields #[] })
    : ∃ (fd : FuncData) (cs : List (Addr × Addr)) (sp : Sp), (∀ p ∈ cs, h.get? p.2 = some { cls := .none, data := .fields #[] }) ∧ (∀ p ∈ cs, K.lookup p.2 = none) ∧ (∀ p ∈ cs, PySem.W.CodeHd h p.1 p.2) ∧ (∀ (s : Shared) (u : Value), BindsTo s fd ⟨[u], []⟩ [("script", u)]) ∧
        (∀ (H : Hp) (a : Addr) (ns : List Int), ns.length ≤ 63 → (∀ p ∈ cs, H p.2 = some (.tbl #[])) → SqL K H a (ns.map V.int) → sp [.ref a] H (fun v _ => v = .bl true) fun _ _ _ => False) ∧
        ∀ base : Heap, K.In base → base.Ns mainGlobals mg → (∀ p ∈ cs, LamX.TabB base mg p.1 p.2) → FnG l.prog w K mg base CX0 12 fa fd ["script"] sp := by
  have e := hfa.symm.trans (PySem.W.mg_of X G a51)
  cases e
  have E0 := df_mk (ps := ["value", "low", "high"]) X G a0 l0 c0 k0 (fun _ _ _ _ _ _ us hl => match us, hl with | [_, _, _], _ => rfl)
  have E1 := df_mk (ps := ["value", "low", "high"]) X G a1 l1 c1 k1 (fun _ _ _ _ _ _ us hl => match us, hl with | [_, _, _], _ => rfl)
  have E2 := df_mk (ps := ["value", "low", "high"]) X G a2 l2 c2 k2 (fun _ _ _ _ _ _ us hl => match us, hl with | [_, _, _], _ => rfl)
  have E3 := df_mk (ps := ["width", "value", "length"]) X G a3 l3 c3 k3 (fun _ _ _ _ _ _ us hl => match us, hl with | [_, _, _], _ => rfl)
  have E4 := df_mk (ps := ["parts"]) X G a4 l4 c4 k4 (fun _ _ _ _ _ _ us hl => match us, hl with | [_], _ => rfl)
  have E5 := df_mk (ps := ["names"]) X G a5 l5 c5 k5 (fun _ _ _ _ _ _ us hl => match us, hl with | [_], _ => rfl)
  have E6 := df_mk (ps := ["value"]) X G a6 l6 c6 k6 (fun _ _ _ _ _ _ us hl => match us, hl with | [_], _ => rfl)
  have E7 := df_mk (ps := ["value"]) X G a7 l7 c7 k7 (fun _ _ _ _ _ _ us hl => match us, hl with | [_], _ => rfl)
  have E8 := df_mk (ps := ["value"]) X G a8 l8 c8 k8 (fun _ _ _ _ _ _ us hl => match us, hl with | [_], _ => rfl)
  have E9 := df_mk (ps := ["value"]) X G a9 l9 c9 k9 (fun _ _ _ _ _ _ us hl => match us, hl with | [_], _ => rfl)
  have E10 := df_mk (ps := ["rows"]) X G a10 l10 c10 k10 (fun _ _ _ _ _ _ us hl => match us, hl with | [_], _ => rfl)
  have E11 := df_mk (ps := ["rows"]) X G a11 l11 c11 k11 (fun _ _ _ _ _ _ us hl => match us, hl with | [_], _ => rfl)
  have E12 := df_mk (ps := ["value"]) X G a12 l12 c12 k12 (fun _ _ _ _ _ _ us hl => match us, hl with | [_], _ => rfl)
  have E13 := df_mk (ps := ["rows"]) X G a13 l13 c13 k13 (fun _ _ _ _ _ _ us hl => match us, hl with | [_], _ => rfl)
  have E14 := df_mk (ps := ["rows"]) X G a14 l14 c14 k14 (fun _ _ _ _ _ _ us hl => match us, hl with | [_], _ => rfl)
  have E15 := df_mk (ps := ["rowset"]) X G a15 l15 c15 k15 (fun _ _ _ _ _ _ us hl => match us, hl with | [_], _ => rfl)
  have E16 := df_mk (ps := ["width"]) X G a16 l16 c16 k16 (fun _ _ _ _ _ _ us hl => match us, hl with | [_], _ => rfl)
  have E17 := df_mk (ps := ["rowset"]) X G a17 l17 c17 k17 (fun _ _ _ _ _ _ us hl => match us, hl with | [_], _ => rfl)
  have E18 := df_mk (ps := ["width", "value"]) X G a18 l18 c18 k18 (fun _ _ _ _ _ _ us hl => match us, hl with | [_, _], _ => rfl)
  have E19 := df_mk (ps := ["width", "value", "nesting"]) X G a19 l19 c19 k19 (fun _ _ _ _ _ _ us hl => match us, hl with | [_, _, _], _ => rfl)
  have E20 := df_mk (ps := ["width", "triple"]) X G a20 l20 c20 k20 (fun _ _ _ _ _ _ us hl => match us, hl with | [_, _], _ => rfl)
  have E21 := df_mk (ps := ["width", "condition"]) X G a21 l21 c21 k21 (fun _ _ _ _ _ _ us hl => match us, hl with | [_, _], _ => rfl)
  have E22 := df_mk (ps := ["values", "condition"]) X G a22 l22 c22 k22 (fun _ _ _ _ _ _ us hl => match us, hl with | [_, _], _ => rfl)
  have E23 := df_mk (ps := ["word", "value", "number"]) X G a23 l23 c23 k23 (fun _ _ _ _ _ _ us hl => match us, hl with | [_, _, _], _ => rfl)
  have E24 := df_mk (ps := ["width", "value"]) X G a24 l24 c24 k24 (fun _ _ _ _ _ _ us hl => match us, hl with | [_, _], _ => rfl)
  have E25 := df_mk (ps := ["width", "order"]) X G a25 l25 c25 k25 (fun _ _ _ _ _ _ us hl => match us, hl with | [_, _], _ => rfl)
  have E26 := df_mk (ps := ["row", "order"]) X G a26 l26 c26 k26 (fun _ _ _ _ _ _ us hl => match us, hl with | [_, _], _ => rfl)
  have E27 := df_mk (ps := ["rowset", "order"]) X G a27 l27 c27 k27 (fun _ _ _ _ _ _ us hl => match us, hl with | [_, _], _ => rfl)
  have E28 := df_mk (ps := ["count"]) X G a28 l28 c28 k28 (fun _ _ _ _ _ _ us hl => match us, hl with | [_], _ => rfl)
  have E29 : FunD K "top_names" "top_names" (defArgs sTN) (defBody sTN) (defScope sTN) [] [("count", .int 1)] f29 _ := ⟨⟨_, _, _, _, _, _, _, _, _, _, rfl, l29, c29, .inl ⟨rfl, rfl⟩, .inr ⟨DK29, rfl, fun q hq => by cases List.mem_singleton.mp hq; exact ⟨_, kd290, ⟨_, rfl⟩⟩⟩⟩, k29⟩
  have G29 := PySem.W.mg_of X G a29
  have E30 := df_mk (ps := ["rowset", "order", "count"]) X G a30 l30 c30 k30 (fun _ _ _ _ _ _ us hl => match us, hl with | [_, _, _], _ => rfl)
  have E31 : FunD K "capped_top_names" "capped_top_names" (defArgs sKN) (defBody sKN) (defScope sKN) [] [("count", .int 1), ("column", .int 0), ("cap", .int 1)] f31 _ := ⟨⟨_, _, _, _, _, _, _, _, _, _, rfl, l31, c31, .inl ⟨rfl, rfl⟩, .inr ⟨DK31, rfl, fun q hq => by rcases List.mem_cons.mp hq with rfl | hq; exact ⟨_, kd310, ⟨_, rfl⟩⟩; rcases List.mem_cons.mp hq with rfl | hq; exact ⟨_, kd311, ⟨_, rfl⟩⟩; cases List.mem_singleton.mp hq; exact ⟨_, kd312, ⟨_, rfl⟩⟩⟩⟩, k31⟩
  have G31 := PySem.W.mg_of X G a31
  have E32 := df_mk (ps := ["rowset", "order", "count", "column", "cap"]) X G a32 l32 c32 k32 (fun _ _ _ _ _ _ us hl => match us, hl with | [_, _, _, _, _], _ => rfl)
  have E33 := df_mk (ps := ["rows", "column", "cap"]) X G a33 l33 c33 k33 (fun _ _ _ _ _ _ us hl => match us, hl with | [_, _, _], _ => rfl)
  have E34 := df_mk (ps := ["rowset", "column"]) X G a34 l34 c34 k34 (fun _ _ _ _ _ _ us hl => match us, hl with | [_, _], _ => rfl)
  have E35 := df_mk (ps := ["rowset", "column"]) X G a35 l35 c35 k35 (fun _ _ _ _ _ _ us hl => match us, hl with | [_, _], _ => rfl)
  have E36 := df_mk (ps := ["rowset", "condition"]) X G a36 l36 c36 k36 (fun _ _ _ _ _ _ us hl => match us, hl with | [_, _], _ => rfl)
  have E37 := df_mk (ps := ["rowset", "condition"]) X G a37 l37 c37 k37 (fun _ _ _ _ _ _ us hl => match us, hl with | [_, _], _ => rfl)
  have E38 := df_mk (ps := ["script", "at"]) X G a38 l38 c38 k38 (fun _ _ _ _ _ _ us hl => match us, hl with | [_, _], _ => rfl)
  have E39 := df_mk (ps := ["stream", "total"]) X G a39 l39 c39 k39 (fun _ _ _ _ _ _ us hl => match us, hl with | [_, _], _ => rfl)
  have E40 := df_mk (ps := ["stream", "at"]) X G a40 l40 c40 k40 (fun _ _ _ _ _ _ us hl => match us, hl with | [_, _], _ => rfl)
  have E41 := df_mk (ps := ["stream", "total", "wide"]) X G a41 l41 c41 k41 (fun _ _ _ _ _ _ us hl => match us, hl with | [_, _, _], _ => rfl)
  have E42 := df_mk (ps := ["stream", "wide"]) X G a42 l42 c42 k42 (fun _ _ _ _ _ _ us hl => match us, hl with | [_, _], _ => rfl)
  have E43 := df_mk (ps := ["stream", "wide", "deep"]) X G a43 l43 c43 k43 (fun _ _ _ _ _ _ us hl => match us, hl with | [_, _, _], _ => rfl)
  have E44 := df_mk (ps := ["names"]) X G a44 l44 c44 k44 (fun _ _ _ _ _ _ us hl => match us, hl with | [_], _ => rfl)
  have E45 := df_mk (ps := ["kind", "rows", "arguments"]) X G a45 l45 c45 k45 (fun _ _ _ _ _ _ us hl => match us, hl with | [_, _, _], _ => rfl)
  have E46 := df_mk (ps := ["rows", "names"]) X G a46 l46 c46 k46 (fun _ _ _ _ _ _ us hl => match us, hl with | [_, _], _ => rfl)
  have E47 := df_mk (ps := ["kind", "rows", "subset", "arguments"]) X G a47 l47 c47 k47 (fun _ _ _ _ _ _ us hl => match us, hl with | [_, _, _, _], _ => rfl)
  have E48 := df_mk (ps := ["stream", "wide", "arguments"]) X G a48 l48 c48 k48 (fun _ _ _ _ _ _ us hl => match us, hl with | [_, _, _], _ => rfl)
  have E49 := df_mk (ps := ["stream", "rows", "total", "share"]) X G a49 l49 c49 k49 (fun _ _ _ _ _ _ us hl => match us, hl with | [_, _, _, _], _ => rfl)
  have E50 := df_mk (ps := ["stream", "wide", "arguments"]) X G a50 l50 c50 k50 (fun _ _ _ _ _ _ us hl => match us, hl with | [_, _, _], _ => rfl)
  have B : Bl mg := ⟨PySem.W.mg_none_of X G b0, PySem.W.mg_none_of X G b1, PySem.W.mg_none_of X G b2, PySem.W.mg_none_of X G b3, PySem.W.mg_none_of X G b4, PySem.W.mg_none_of X G b5, PySem.W.mg_none_of X G b6, PySem.W.mg_none_of X G b7, PySem.W.mg_none_of X G b8, PySem.W.mg_none_of X G b9, PySem.W.mg_none_of X G b10, PySem.W.mg_none_of X G b11, PySem.W.mg_none_of X G b12, PySem.W.mg_none_of X G b13, PySem.W.mg_none_of X G b14, PySem.W.mg_none_of X G b15, PySem.W.mg_none_of X G b16, PySem.W.mg_none_of X G b17⟩
  have Ck : Cs mg := ⟨⟨_, PySem.W.mg_of X G v0⟩, ⟨_, PySem.W.mg_of X G v1⟩, ⟨_, PySem.W.mg_of X G v2⟩, ⟨_, PySem.W.mg_of X G v3⟩, ⟨_, PySem.W.mg_of X G v4⟩, ⟨_, PySem.W.mg_of X G v5⟩⟩
  have cv : ∃ t, mg "VALUES" = some (.int 2 t) := ⟨_, PySem.W.mg_of X G v6⟩
  have cn : ∃ t, mg "NAME" = some (.int 0 t) := ⟨_, PySem.W.mg_of X G v7⟩
  have cw : ∃ t, mg "MAX_WIDTH" = some (.int 4 t) := ⟨_, PySem.W.mg_of X G v0⟩
  have cr : ∃ t, mg "MAX_ROWS" = some (.int 60 t) := ⟨_, PySem.W.mg_of X G v8⟩
  have cc : ∃ t, mg "MAX_COUNT" = some (.int 9 t) := ⟨_, PySem.W.mg_of X G v9⟩
  have Cc0 : Cj K mg := ⟨⟨_, PySem.W.mg_of X G v0⟩, ⟨td, PySem.W.mg_of X G d1, _, _, _, d2, rfl, rfl, by show 2 ≤ sizeLine; decide, .cons ⟨_, rfl⟩ (.cons ⟨_, rfl⟩ .nil)⟩⟩
  have Z : Cc K mg := ⟨⟨_, PySem.W.mg_of X G v10⟩, ⟨_, PySem.W.mg_of X G v11⟩, ⟨tq, PySem.W.mg_of X G p1, _, _, _, p2, rfl, rfl, by show 3 ≤ sizeLine; decide, .cons ⟨_, rfl⟩ (.cons ⟨_, rfl⟩ (.cons ⟨_, rfl⟩ .nil))⟩, ⟨tu, PySem.W.mg_of X G p3, _, _, _, p4, rfl, rfl, by show 2 ≤ sizeLine; decide, .cons ⟨_, rfl⟩ (.cons ⟨_, rfl⟩ .nil)⟩⟩
  have FI := fun_mk (st := sInit) z5 z6 z7
  have T : IN K mg C fI _ := ⟨PySem.W.mg_of X G aC, ⟨ixB, x1, x2, x3, x4, x5, x6, x7⟩, ⟨y1, y2, x5, x4, y3, y4, y5, y6⟩, z1, z2, z3, z4, FI, FI.binds (ps := ["self", "value"]) fun _ _ _ _ _ _ us hl => match us, hl with | [_, _], _ => rfl⟩
  have OR : OC K mg "InvalidRowset" R := ⟨PySem.W.mg_of X G aR, q1, q2, q3, q4⟩
  have OO : OC K mg "InvalidOrder" O := ⟨PySem.W.mg_of X G aO, m1, m2, m3, m4⟩
  have OM : OC K mg "InvalidCondition" M := ⟨PySem.W.mg_of X G aM, n1, n2, n3, n4⟩
  refine ⟨PySem.W.fnOf "law" "law" (defArgs sLaw) (defBody sLaw) (defScope sLaw) .none kV51 doc51 pm51 an51 cd51 ct51, [(cL0, PL0)], spLaw K PL0, fun p hp => ?_, fun p hp => ?_, fun p hp => ?_, fun s v => .of_eq rfl, fun H a ns hl hP hS => ⟨a, ns, rfl, hS, hl, hP (cL0, PL0) (List.mem_singleton.mpr rfl), fun _ => rfl⟩, fun base _ _ hT => ?_⟩
  · cases List.mem_singleton.mp hp
    exact g05
  · cases List.mem_singleton.mp hp
    exact g04
  · cases List.mem_singleton.mp hp
    exact PySem.W.codeHd_of_K X g03
  have TB0 := hT (cL0, PL0) (List.mem_singleton.mpr rfl)
  have oRow := ok_row (P := l.prog) (w := w) (base := base) B Ck E7 E0 E2 E6 E8
  have oOW := ok_ow (P := l.prog) (w := w) (base := base) (k := 3) B E9 E7 E10 (oRow.mono (by decide)) ((ok_hw B cv E10).mono (by decide))
  have oIR := ok_ir (P := l.prog) (w := w) (base := base) (k := 4) B cr E12 E2 E9 E5 E13 ((ok_tupB B E2).mono (by decide)) oOW ((ok_asc B E5).mono (by decide)) ((ok_no B cn E13).mono (by decide))
  have oCR := ok_cr (P := l.prog) (w := w) (base := base) OR E15 E12 oIR
  have oRW := ok_rw (P := l.prog) (w := w) (base := base) (k := 6) E17 E15 E11 oCR ((ok_wo B cv cw E11).mono (by decide))
  have oCw := ok_cw (P := l.prog) (w := w) (base := base) B Cc0 T E16 E1 E0
  have oCk := ok_ck (P := l.prog) (w := w) (base := base) B T E1 E0
  have oTB := ok_tupB (P := l.prog) (w := w) (base := base) B E2
  have oDi := ok_dir (P := l.prog) (w := w) (base := base) B Cc0 E3 E0 E2
  have oDs := ok_dist (P := l.prog) (w := w) (base := base) B E4
  have oIO := ok_io (P := l.prog) (w := w) (base := base) B Cc0 E24 E16 E2 E3 E4 oCw (oTB.mono (by decide)) (oDi.mono (by decide)) (oDs.mono (by decide))
  have oCO := ok_co (P := l.prog) (w := w) (base := base) OO E25 E24 oIO
  have oCC := ok_cc (P := l.prog) (w := w) (base := base) cc E28 E1 (k := 3) oCk
  have oKy := ok_key (P := l.prog) (w := w) (base := base) B cv cn E26
  have oSR := ok_sr (P := l.prog) (w := w) (base := base) (k := 1) B l27 c27 TB0 E26 oKy
  have oNL := ok_nol (P := l.prog) (w := w) (base := base) B cn E13
  have oSN := ok_sno (P := l.prog) (w := w) (base := base) (k := 1) B E14 E13 oNL
  have oTR := ok_tr (P := l.prog) (w := w) (base := base) (k := 5) E30 E27 oSR
  have oTN := ok_tn (P := l.prog) (w := w) (base := base) (k := 7) (params := defArgs sTN) E29 E25 E17 E28 E14 E30 (oCO.mono (by decide)) oRW (oCC.mono (by decide)) (oSN.mono (by decide)) (oTR.mono (by decide))
  have oKR := ok_kr (P := l.prog) (w := w) (base := base) cv E33
  have oKT := ok_kt (P := l.prog) (w := w) (base := base) (k := 5) E32 E27 E33 oSR (oKR.mono (by decide))
  have oKN := ok_kn (P := l.prog) (w := w) (base := base) (k := 7) (params := defArgs sKN) E31 E25 E17 E28 E1 E14 E32 (oCO.mono (by decide)) oRW (oCC.mono (by decide)) (oCk.mono (by decide)) (oSN.mono (by decide)) (oKT.mono (by decide))
  have oWi := ok_wi (P := l.prog) (w := w) (base := base) B Ck Z E19 E0 E2 E20 3
  have oIC := ok_ic (P := l.prog) (w := w) (base := base) Z E18 E16 E19 (oCw.mono (by decide)) oWi
  have oCd := ok_ccd (P := l.prog) (w := w) (base := base) OM E21 E18 oIC
  have oHo := ok_ho (P := l.prog) (w := w) (base := base) B E22 E23 3
  have oMR := ok_mrw (P := l.prog) (w := w) (base := base) (k := 5) B cv E37 E22 oHo
  have oFR := ok_frw (P := l.prog) (w := w) (base := base) (k := 8) E36 E21 E17 E37 oCd (oRW.mono (by decide)) (oMR.mono (by decide))
  have oGO := ok_go (P := l.prog) (w := w) (base := base) B cv E35
  have oGR := ok_gr (P := l.prog) (w := w) (base := base) (k := 8) E34 E1 E17 E35 (oCk.mono (by decide)) (oRW.mono (by decide)) (oGO.mono (by decide))
  have oD := ok_draw (P := l.prog) (w := w) (base := base) B E39
  have oRs := ok_rs (P := l.prog) (w := w) (base := base) B E41 E39 E40
  have oLC := ok_lco (P := l.prog) (w := w) (base := base) B E43 E39 1
  have oSel := ok_sel (P := l.prog) (w := w) (base := base) (k := 8) B E45 E29 G29 E31 G31 oTN oKN
  have oSH := ok_sh (P := l.prog) (w := w) (base := base) (k := 9) B E47 E45 oSel
  have oSub := ok_sub (P := l.prog) (w := w) (base := base) E44
  have oRN := ok_rnm (P := l.prog) (w := w) (base := base) B E46
  have oSm := ok_smp (P := l.prog) (w := w) (base := base) (k := 1) B E49 E39 oD
  have oSml := ok_sml (P := l.prog) (w := w) (base := base) (k := 10) B E48 E41 E39 E44 E46 E47 (oRs.mono (by decide)) (oD.mono (by decide)) (oSub.mono (by decide)) (oRN.mono (by decide)) oSH
  have oLg := ok_lg (P := l.prog) (w := w) (base := base) (k := 10) B E50 E41 E39 E45 E49 E47 E43 E29 G29 E31 G31 E36 E34 (oRs.mono (by decide)) (oD.mono (by decide)) (oSel.mono (by decide)) (oSm.mono (by decide)) oSH (oLC.mono (by decide)) (oTN.mono (by decide)) (oKN.mono (by decide)) (oFR.mono (by decide)) (oGR.mono (by decide))
  exact ok_law (P := l.prog) (w := w) (base := base) (k := 11) B ⟨E38, E39, E42, E48, E50, (ok_stream B E38).mono (by decide), oD.mono (by decide), (ok_lo B E42 E39).mono (by decide), oSml, oLg⟩ (fun_mk l51 c51 k51)
end G1
open PySem PySem.W PyProof.Rows
set_option maxHeartbeats 0 in
theorem PySem.Challenge.cw_spareskept_k15_whole_top_is_path_indepen_holds : PySem.Challenge.rw_spareskept_k15_whole_top_is_path_indepen.Holds := by
  w_on; o_law; k_head; (case hw => w_witness2)
  k_fill
  refine KX.walkGY (l := PySem.Challenge.rw_spareskept_k15_whole_top_is_path_indepen) (n := 63) (k := 12) (x := "script") rfl (by decide) rfl ⟨rfl, by decide, by decide⟩ (fun w h Y => PySem.W.km_in_of Y) ?F
  case F =>
    intro w mg fa h KX G hmg Y
    refine' G1.all_mk KX G hmg ?a0 ?l0 ?c0 ?k0 ?a1 ?l1 ?c1 ?k1 ?a2 ?l2 ?c2 ?k2 ?a3 ?l3 ?c3 ?k3 ?a4 ?l4 ?c4 ?k4 ?a5 ?l5 ?c5 ?k5 ?a6 ?l6 ?c6 ?k6 ?a7 ?l7 ?c7 ?k7 ?a8 ?l8 ?c8 ?k8 ?a9 ?l9 ?c9 ?k9 ?a10 ?l10 ?c10 ?k10 ?a11 ?l11 ?c11 ?k11 ?a12 ?l12 ?c12 ?k12 ?a13 ?l13 ?c13 ?k13 ?a14 ?l14 ?c14 ?k14 ?a15 ?l15 ?c15 ?k15 ?a16 ?l16 ?c16 ?k16 ?a17 ?l17 ?c17 ?k17 ?a18 ?l18 ?c18 ?k18 ?a19 ?l19 ?c19 ?k19 ?a20 ?l20 ?c20 ?k20 ?a21 ?l21 ?c21 ?k21 ?a22 ?l22 ?c22 ?k22 ?a23 ?l23 ?c23 ?k23 ?a24 ?l24 ?c24 ?k24 ?a25 ?l25 ?c25 ?k25 ?a26 ?l26 ?c26 ?k26 ?a27 ?l27 ?c27 ?k27 ?a28 ?l28 ?c28 ?k28 ?a29 ?l29 ?c29 ?k29 ?a30 ?l30 ?c30 ?k30 ?a31 ?l31 ?c31 ?k31 ?a32 ?l32 ?c32 ?k32 ?a33 ?l33 ?c33 ?k33 ?a34 ?l34 ?c34 ?k34 ?a35 ?l35 ?c35 ?k35 ?a36 ?l36 ?c36 ?k36 ?a37 ?l37 ?c37 ?k37 ?a38 ?l38 ?c38 ?k38 ?a39 ?l39 ?c39 ?k39 ?a40 ?l40 ?c40 ?k40 ?a41 ?l41 ?c41 ?k41 ?a42 ?l42 ?c42 ?k42 ?a43 ?l43 ?c43 ?k43 ?a44 ?l44 ?c44 ?k44 ?a45 ?l45 ?c45 ?k45 ?a46 ?l46 ?c46 ?k46 ?a47 ?l47 ?c47 ?k47 ?a48 ?l48 ?c48 ?k48 ?a49 ?l49 ?c49 ?k49 ?a50 ?l50 ?c50 ?k50 ?a51 ?l51 ?c51 ?k51 ?b0 ?b1 ?b2 ?b3 ?b4 ?b5 ?b6 ?b7 ?b8 ?b9 ?b10 ?b11 ?b12 ?b13 ?b14 ?b15 ?b16 ?b17 ?v0 ?v1 ?v2 ?v3 ?v4 ?v5 ?v6 ?v7 ?v8 ?v9 ?v10 ?v11 ?aC ?x1 ?x2 ?x3 ?x4 ?x5 ?x6 ?x7 ?y1 ?y2 ?y3 ?y4 ?y5 ?y6 ?z1 ?z2 ?z3 ?z4 ?z5 ?z6 ?z7 ?aR ?q1 ?q2 ?q3 ?q4 ?aO ?m1 ?m2 ?m3 ?m4 ?aM ?n1 ?n2 ?n3 ?n4 ?d1 ?d2 ?p1 ?p2 ?p3 ?p4 ?kd290 ?kd310 ?kd311 ?kd312 ?g01 ?g02 ?g03 ?g04 ?g05
    (case a0 => k_is); (case l0 => k_is); (case c0 => k_is); (case k0 => k_is)
    (case a1 => k_is); (case l1 => k_is); (case c1 => k_is); (case k1 => k_is)
    (case a2 => k_is); (case l2 => k_is); (case c2 => k_is); (case k2 => k_is)
    (case a3 => k_is); (case l3 => k_is); (case c3 => k_is); (case k3 => k_is)
    (case a4 => k_is); (case l4 => k_is); (case c4 => k_is); (case k4 => k_is)
    (case a5 => k_is); (case l5 => k_is); (case c5 => k_is); (case k5 => k_is)
    (case a6 => k_is); (case l6 => k_is); (case c6 => k_is); (case k6 => k_is)
    (case a7 => k_is); (case l7 => k_is); (case c7 => k_is); (case k7 => k_is)
    (case a8 => k_is); (case l8 => k_is); (case c8 => k_is); (case k8 => k_is)
    (case a9 => k_is); (case l9 => k_is); (case c9 => k_is); (case k9 => k_is)
    (case a10 => k_is); (case l10 => k_is); (case c10 => k_is); (case k10 => k_is)
    (case a11 => k_is); (case l11 => k_is); (case c11 => k_is); (case k11 => k_is)
    (case a12 => k_is); (case l12 => k_is); (case c12 => k_is); (case k12 => k_is)
    (case a13 => k_is); (case l13 => k_is); (case c13 => k_is); (case k13 => k_is)
    (case a14 => k_is); (case l14 => k_is); (case c14 => k_is); (case k14 => k_is)
    (case a15 => k_is); (case l15 => k_is); (case c15 => k_is); (case k15 => k_is)
    (case a16 => k_is); (case l16 => k_is); (case c16 => k_is); (case k16 => k_is)
    (case a17 => k_is); (case l17 => k_is); (case c17 => k_is); (case k17 => k_is)
    (case a18 => k_is); (case l18 => k_is); (case c18 => k_is); (case k18 => k_is)
    (case a19 => k_is); (case l19 => k_is); (case c19 => k_is); (case k19 => k_is)
    (case a20 => k_is); (case l20 => k_is); (case c20 => k_is); (case k20 => k_is)
    (case a21 => k_is); (case l21 => k_is); (case c21 => k_is); (case k21 => k_is)
    (case a22 => k_is); (case l22 => k_is); (case c22 => k_is); (case k22 => k_is)
    (case a23 => k_is); (case l23 => k_is); (case c23 => k_is); (case k23 => k_is)
    (case a24 => k_is); (case l24 => k_is); (case c24 => k_is); (case k24 => k_is)
    (case a25 => k_is); (case l25 => k_is); (case c25 => k_is); (case k25 => k_is)
    (case a26 => k_is); (case l26 => k_is); (case c26 => k_is); (case k26 => k_is)
    (case a27 => k_is); (case l27 => k_is); (case c27 => k_is); (case k27 => k_is)
    (case a28 => k_is); (case l28 => k_is); (case c28 => k_is); (case k28 => k_is)
    (case a29 => k_is); (case l29 => k_is); (case c29 => k_is); (case k29 => k_is)
    (case a30 => k_is); (case l30 => k_is); (case c30 => k_is); (case k30 => k_is)
    (case a31 => k_is); (case l31 => k_is); (case c31 => k_is); (case k31 => k_is)
    (case a32 => k_is); (case l32 => k_is); (case c32 => k_is); (case k32 => k_is)
    (case a33 => k_is); (case l33 => k_is); (case c33 => k_is); (case k33 => k_is)
    (case a34 => k_is); (case l34 => k_is); (case c34 => k_is); (case k34 => k_is)
    (case a35 => k_is); (case l35 => k_is); (case c35 => k_is); (case k35 => k_is)
    (case a36 => k_is); (case l36 => k_is); (case c36 => k_is); (case k36 => k_is)
    (case a37 => k_is); (case l37 => k_is); (case c37 => k_is); (case k37 => k_is)
    (case a38 => k_is); (case l38 => k_is); (case c38 => k_is); (case k38 => k_is)
    (case a39 => k_is); (case l39 => k_is); (case c39 => k_is); (case k39 => k_is)
    (case a40 => k_is); (case l40 => k_is); (case c40 => k_is); (case k40 => k_is)
    (case a41 => k_is); (case l41 => k_is); (case c41 => k_is); (case k41 => k_is)
    (case a42 => k_is); (case l42 => k_is); (case c42 => k_is); (case k42 => k_is)
    (case a43 => k_is); (case l43 => k_is); (case c43 => k_is); (case k43 => k_is)
    (case a44 => k_is); (case l44 => k_is); (case c44 => k_is); (case k44 => k_is)
    (case a45 => k_is); (case l45 => k_is); (case c45 => k_is); (case k45 => k_is)
    (case a46 => k_is); (case l46 => k_is); (case c46 => k_is); (case k46 => k_is)
    (case a47 => k_is); (case l47 => k_is); (case c47 => k_is); (case k47 => k_is)
    (case a48 => k_is); (case l48 => k_is); (case c48 => k_is); (case k48 => k_is)
    (case a49 => k_is); (case l49 => k_is); (case c49 => k_is); (case k49 => k_is)
    (case a50 => k_is); (case l50 => k_is); (case c50 => k_is); (case k50 => k_is)
    (case a51 => k_is); (case l51 => k_is); (case c51 => k_is); (case k51 => k_is)
    (case b0 => k_is); (case b1 => k_is); (case b2 => k_is); (case b3 => k_is); (case b4 => k_is); (case b5 => k_is); (case b6 => k_is); (case b7 => k_is); (case b8 => k_is); (case b9 => k_is); (case b10 => k_is); (case b11 => k_is); (case b12 => k_is); (case b13 => k_is); (case b14 => k_is); (case b15 => k_is); (case b16 => k_is); (case b17 => k_is)
    (case v0 => k_is); (case v1 => k_is); (case v2 => k_is); (case v3 => k_is); (case v4 => k_is); (case v5 => k_is); (case v6 => k_is); (case v7 => k_is); (case v8 => k_is); (case v9 => k_is); (case v10 => k_is); (case v11 => k_is)
    (case aC => first | k_is | rfl | k_exc)
    (case z2 => first | k_is | rfl | k_exc)
    (case aR => first | k_is | rfl | k_exc)
    (case aO => first | k_is | rfl | k_exc)
    (case aM => first | k_is | rfl | k_exc)
    (case d1 => first | k_is | rfl | k_exc)
    (case p1 => first | k_is | rfl | k_exc)
    (case p3 => first | k_is | rfl | k_exc)
    (case g01 => first | k_is | rfl | k_exc)
    (case g02 => first | k_is | rfl | k_exc)
    (case x1 => first | k_is | rfl | k_exc)
    (case x2 => first | k_is | rfl | k_exc)
    (case x3 => first | k_is | rfl | k_exc)
    (case x4 => first | k_is | rfl | k_exc)
    (case x5 => first | k_is | rfl | k_exc)
    (case x6 => first | k_is | rfl | k_exc)
    (case x7 => first | k_is | rfl | k_exc)
    (case y1 => first | k_is | rfl | k_exc)
    (case y2 => first | k_is | rfl | k_exc)
    (case y3 => first | k_is | rfl | k_exc)
    (case y4 => first | k_is | rfl | k_exc)
    (case y5 => first | k_is | rfl | k_exc)
    (case y6 => first | k_is | rfl | k_exc)
    (case z1 => first | k_is | rfl | k_exc)
    (case z3 => first | k_is | rfl | k_exc)
    (case z4 => first | k_is | rfl | k_exc)
    (case z5 => first | k_is | rfl | k_exc)
    (case z6 => first | k_is | rfl | k_exc)
    (case z7 => first | k_is | rfl | k_exc)
    (case q1 => first | k_is | rfl | k_exc)
    (case q2 => first | k_is | rfl | k_exc)
    (case q3 => first | k_is | rfl | k_exc)
    (case q4 => first | k_is | rfl | k_exc)
    (case m1 => first | k_is | rfl | k_exc)
    (case m2 => first | k_is | rfl | k_exc)
    (case m3 => first | k_is | rfl | k_exc)
    (case m4 => first | k_is | rfl | k_exc)
    (case n1 => first | k_is | rfl | k_exc)
    (case n2 => first | k_is | rfl | k_exc)
    (case n3 => first | k_is | rfl | k_exc)
    (case n4 => first | k_is | rfl | k_exc)
    (case d2 => first | k_is | rfl | k_exc)
    (case p2 => first | k_is | rfl | k_exc)
    (case p4 => first | k_is | rfl | k_exc)
    (case kd290 => first | k_is | rfl | k_exc)
    (case kd310 => first | k_is | rfl | k_exc)
    (case kd311 => first | k_is | rfl | k_exc)
    (case kd312 => first | k_is | rfl | k_exc)
    (case g03 => first | k_is | rfl | k_exc)
    (case g04 => first | k_is | rfl | k_exc)
    (case g05 => exact PySem.W.km_tabs_of Y _ (by first | k_mem | simp))
