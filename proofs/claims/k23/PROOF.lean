import PyProof.Rows.All
import Wide.All
import OpenK.AllK
import Wide.FinOn
import HandS.ForMost
import HandS.Wide
import HandS.TupAny
import HandS.TupMul
import HandS.IsInst
import HandS.Style
import PyProof.ReprRoads
import KE.DataEq
import HandS.Walk
import PyProof.StrLawsRepr
import PyProof.FitsInt
import KE.SortData
import KE.KExcInit
import KE.KExcIs
import KE.KIsAll
import HandS.ExcInit
import HandS.ExcField
import HandS.TryOnly
import HandS.Strs
import HandS.SetBool
import HandS.Conv
import HandS.Dict
import HandS.SetFor
import HandS.Zip
import KE.GoesZip
import KE.GoesMore
import KE.KEqDict
import KE.DataCmp
import HandS.Lambda
import HandS.Nested
import HandS.EndTab
import HandS.EndOwn
import HandS.ForExc
import HandS.TryMany
import HandS.CallLocal
import PyProof.RulesRaise
import PyProof.FactsTree
import PyProof.ExcClass
import PyProof.ExcBaseAll.LookupError
import HandS.ExcIs
import KE.GoesEnum
import PyProof.DictMoreH
import HandS.SetKeys
import KE.DataMinMax
import PyProof.Claim2Refuses
import PySem.Challenge.RW_spareskept_k23_whole_half_planes_decide
set_option Elab.async false
set_option linter.all false
set_option maxRecDepth 100000
set_option maxHeartbeats 2000000
namespace KX
open PySem PySem.Spec PyProof.Rows L2

/-! ### data: what a value holds, through the tracked heap -/
mutual
inductive Dx (H : Hp) : V → PyData → Prop
  | non : Dx H .non .none
  | bl (b : Bool) : Dx H (.bl b) (.bool b)
  | int (i : Int) : Dx H (.int i) (.int i)
  | str (x : Str) : Dx H (.str x) (.str x)
  | lst {a : Addr} {xs : List V} {ds : List PyData} (e : H a = some (.lst xs)) (n : a ≠ sysModules) (h : Dxs H xs ds) : Dx H (.ref a) (.list ds)
  | tup {a : Addr} {xs : List V} {ds : List PyData} (e : H a = some (.tup xs)) (h : Dxs H xs ds) : Dx H (.ref a) (.tuple ds)
  | dic {a : Addr} (e : H a = some (.dK [])) : Dx H (.ref a) (.dict [])
  | dic1 {a : Addr} {x : Str} {i : Int} (e : H a = some (.dK [(.inr x, .int i)])) : Dx H (.ref a) (.dict [(.str x, .int i)])
inductive Dxs (H : Hp) : List V → List PyData → Prop
  | nil : Dxs H [] []
  | cons {v : V} {vs : List V} {d : PyData} {ds : List PyData} (h : Dx H v d) (t : Dxs H vs ds) : Dxs H (v :: vs) (d :: ds)
end

mutual
theorem Dx.mono {H H' : Hp} (s : Same H H') : ∀ (d : PyData) (v : V), Dx H v d → Dx H' v d
  | .none, _, h => by cases h; exact .non
  | .bool b, _, h => by cases h; exact .bl b
  | .int i, _, h => by cases h; exact .int i
  | .str x, _, h => by cases h; exact .str x
  | .list ds, _, h => by
    cases h with
    | lst e n h => exact .lst (s _ _ e) n (Dxs.mono s ds _ h)
  | .tuple ds, _, h => by
    cases h with
    | tup e h => exact .tup (s _ _ e) (Dxs.mono s ds _ h)
  | .dict ks, _, h => by
    cases h with
    | dic e => exact .dic (s _ _ e)
    | dic1 e => exact .dic1 (s _ _ e)
theorem Dxs.mono {H H' : Hp} (s : Same H H') : ∀ (ds : List PyData) (vs : List V), Dxs H vs ds → Dxs H' vs ds
  | [], _, h => by cases h; exact .nil
  | d :: ds, _, h => by
    cases h with
    | cons h t => exact .cons (Dx.mono s d _ h) (Dxs.mono s ds _ t)
end
theorem Dx.up {H H' : Hp} {v : V} {d : PyData} (h : Dx H v d) (s : Same H H') : Dx H' v d := Dx.mono s d v h
theorem Dxs.up {H H' : Hp} {v : List V} {d : List PyData} (h : Dxs H v d) (s : Same H H') : Dxs H' v d := Dxs.mono s d v h
theorem Dxs.len {H : Hp} : ∀ {vs : List V} {ds : List PyData}, Dxs H vs ds → vs.length = ds.length
  | _, _, .nil => rfl
  | _, _, .cons _ t => by simp [Dxs.len t]
theorem Dxs.get {H : Hp} : ∀ {vs : List V} {ds : List PyData} {i : Nat} {d : PyData}, Dxs H vs ds → ds[i]? = some d → ∃ v, vs[i]? = some v ∧ Dx H v d
  | _, _, i, d, .nil, e => by simp at e
  | _, _, 0, d, .cons h _, e => by simp at e; subst e; exact ⟨_, rfl, h⟩
  | _, _, i + 1, d, .cons _ t, e => by
    obtain ⟨v, e1, h⟩ := Dxs.get (i := i) t (by simpa using e)
    exact ⟨v, by simpa using e1, h⟩
theorem Dxs.get' {H : Hp} : ∀ {vs : List V} {ds : List PyData} {i : Nat} {v : V}, Dxs H vs ds → vs[i]? = some v → ∃ d, ds[i]? = some d ∧ Dx H v d
  | _, _, i, d, .nil, e => by simp at e
  | _, _, 0, d, .cons h _, e => by simp at e; subst e; exact ⟨_, rfl, h⟩
  | _, _, i + 1, d, .cons _ t, e => by
    obtain ⟨v, e1, h⟩ := Dxs.get' (i := i) t (by simpa using e)
    exact ⟨v, by simpa using e1, h⟩
theorem Dxs.app {H : Hp} : ∀ {vs : List V} {ds : List PyData} {ws : List V} {es : List PyData}, Dxs H vs ds → Dxs H ws es → Dxs H (vs ++ ws) (ds ++ es)
  | _, _, _, _, .nil, h => h
  | _, _, _, _, .cons h t, k => .cons h (Dxs.app t k)
theorem Dxs.take {H : Hp} : ∀ {vs : List V} {ds : List PyData} (n : Nat), Dxs H vs ds → Dxs H (vs.take n) (ds.take n)
  | _, _, 0, _ => .nil
  | _, _, _ + 1, .nil => .nil
  | _, _, n + 1, .cons h t => .cons h (Dxs.take n t)
theorem Dxs.drop {H : Hp} : ∀ {vs : List V} {ds : List PyData} (n : Nat), Dxs H vs ds → Dxs H (vs.drop n) (ds.drop n)
  | _, _, 0, h => h
  | _, _, _ + 1, .nil => .nil
  | _, _, n + 1, .cons _ t => Dxs.drop n t
theorem Dxs.rev {H : Hp} : ∀ {vs : List V} {ds : List PyData}, Dxs H vs ds → Dxs H vs.reverse ds.reverse
  | _, _, .nil => .nil
  | _, _, .cons h t => by
    rw [List.reverse_cons, List.reverse_cons]
    exact (Dxs.rev t).app (.cons h .nil)

section
variable {X : Cx} {pins : List (Addr × Obj)} {σ : L2.St} {H : Hp} {s : Shared}
mutual
theorem Dx.reads (I : Inv X pins σ H s) : ∀ (d : PyData) (v : V) (u : Value), Dx H v d → RelV v u → ∃ as, Reads s.heap u d as ∧ sysModules ∉ as
  | .none, _, _, h, r => by
    cases h
    cases r
    exact ⟨_, Reads.none, by simp⟩
  | .bool b, _, _, h, r => by
    cases h
    cases r
    exact ⟨_, Reads.bool b, by simp⟩
  | .int i, _, _, h, r => by
    cases h
    obtain ⟨t, rfl⟩ := r
    exact ⟨_, Reads.int i t, by simp⟩
  | .str x, _, _, h, r => by
    cases h
    obtain ⟨t, rfl⟩ := r
    exact ⟨_, Reads.str x t, by simp⟩
  | .list ds, _, _, h, r => by
    cases h with
    | @lst a xs _ e ne h =>
      cases r
      have hs : SqL X.K H a xs := .inl (.inl e)
      obtain ⟨its, rv, ⟨o, n, ho, hc, _, hd⟩, _⟩ := I.list hs
      obtain ⟨as, hr, hn⟩ := Dxs.reads I ds _ its h rv
      refine ⟨_, Reads.list ho hc hd hr, fun z => ?_⟩
      rcases List.mem_cons.mp z with z | z
      · exact ne z.symm
      · exact hn z
  | .tuple ds, _, _, h, r => by
    cases h with
    | @tup a xs _ e h =>
      cases r
      have hs : SqT X.K H a xs := .inl (.inl e)
      obtain ⟨its, rv, ⟨o, ho, hc, n, hd⟩, _⟩ := I.tuple hs
      obtain ⟨as, hr, hn⟩ := Dxs.reads I ds _ its h rv
      exact ⟨_, Reads.tuple ho hc hd hr, hn⟩
  | .dict ks, _, _, h, r => by
    cases h with
    | @dic a e =>
      cases r
      obtain ⟨z, y, vs, r, o, es, ep, e1, ex, ed, hm⟩ := (show ObjOk X.prog X.w H s.heap a (.dK []) from I.hok a _ e)
      cases r
      have hes : es = #[] := by
        obtain ⟨es⟩ := es
        have hl := hm.2.1.length
        cases es with
        | nil => rfl
        | cons x l => simp at hl
      subst hes
      refine ⟨_, Reads.dict (kvs := []) e1 ex.1 ed .nil .nil, fun z => ?_⟩
      have z : sysModules = a := by simpa using z
      rw [z] at y
      simp at y
    | @dic1 a x i e =>
      cases r
      obtain ⟨z, y, vs, r, o, es, ep, e1, ex, ed, hm⟩ := (show ObjOk X.prog X.w H s.heap a (.dK [(.inr x, .int i)]) from I.hok a _ e)
      obtain ⟨es⟩ := es
      obtain ⟨_, hp, _⟩ := hm
      match vs, r, hp with
      | [(k, u)], .cons ⟨hk, tk, hu⟩ .nil, hp =>
        dsimp only at hk hu
        subst hk hu
        match es, hp, ed with
        | [en], .cons a1 a2 .nil, ed =>
          have a1' : keyIs (Sum.inr x) en.key = true := a1
          obtain ⟨q, t, hq1, hq2⟩ := (keyIs_shape a1').resolve_left (fun z => by obtain ⟨_, _, z, _⟩ := z; cases z)
          cases hq1
          refine ⟨_, Reads.dict (kvs := [(.str x, .int i)]) (as := []) (bs := []) e1 ex.1 ed ?_ ?_, fun z => ?_⟩
          · show ReadsAll s.heap [en.key] [PyData.str x] _
            rw [hq2]
            exact ReadsAll.cons (as := []) (bs := []) (.str x t) .nil
          · show ReadsAll s.heap [en.val] [PyData.int i] _
            rw [a2]
            exact ReadsAll.cons (as := []) (bs := []) (.int i tk) .nil
          · have z : sysModules = a := by simpa using z
            rw [z] at y
            simp at y
theorem Dxs.reads (I : Inv X pins σ H s) : ∀ (ds : List PyData) (vs : List V) (us : List Value), Dxs H vs ds → Vals vs us → ∃ as, ReadsAll s.heap us ds as ∧ sysModules ∉ as
  | [], _, _, h, r => by
    cases h
    cases r
    exact ⟨_, ReadsAll.nil, by simp⟩
  | d :: ds, _, _, h, r => by
    cases h with
    | cons h1 h2 =>
      cases r with
      | cons r1 r2 =>
        obtain ⟨as, q1, n1⟩ := Dx.reads I d _ _ h1 r1
        obtain ⟨bs, q2, n2⟩ := Dxs.reads I ds _ _ h2 r2
        exact ⟨_, ReadsAll.cons q1 q2, by simp [n1, n2]⟩
end
/-- a new address is none of the first ones -/
theorem new_big (I : Inv X pins σ H s) {p : Addr} (h : s.heap.objs.size ≤ p) : p ≠ sysModules := by
  intro z
  have h1 : mainGlobals < X.base.objs.size := I.ok.mod.glob.lt
  have h2 := I.ok.bsz
  have h3 := I.sz
  have h4 : sysModules < mainGlobals := by decide
  rw [z] at h
  exact absurd (Nat.lt_of_lt_of_le h4 (Nat.le_trans (Nat.le_of_lt h1) (Nat.le_trans h2 (Nat.le_trans h3 h)))) (Nat.lt_irrefl _)
end

section
variable {X : Cx}
/-- a list that is written, its address none of the first -/
def tLstS (t : TA) : TE := fun σ H Q => t σ H fun xs H1 => xs.length ≤ sizeLine ∧ ∀ p, H1 p = none → p ≠ sysModules → Q (.ref p) (upd H1 p (.lst xs))
theorem pe_lstS {es : List Expr} {t : TA} {pos : Pos} (ha : PA X es t) : PE X (.List es pos) (tLstS t) := by
  constructor
  intro pins s σ H Q I hq
  refine wpAny_List_spliced (thn (ha.run pos pins s σ H _ I hq) fun us s1 hh => ?_)
  obtain ⟨xs, H1, I1, r, z, q⟩ := hh
  have nf : H1 s1.heap.objs.size = none := I1.hok.fresh (Nat.le_refl _)
  refine ⟨by rw [← r.length]; exact z, .ref s1.heap.objs.size, upd H1 s1.heap.objs.size (.lst xs), ?_, rfl, q _ nf (new_big I1 (Nat.le_refl _))⟩
  exact I1.laid (t' := s1.toks) (fun b u e => Heap.get?_push_of_some _ e) (Nat.le_refl _) ⟨z, us, 0, r, Heap.get?_push_size _ rfl⟩
/-- list(t), t a tuple or a list of data -/
theorem call_listS : CallR X (.type "list") (fun xs H Q => ∃ p ys, xs = [.ref p] ∧ (SqL X.K H p ys ∨ SqT X.K H p ys) ∧ ∀ l, H l = none → l ≠ sysModules → Q (.ref l) (upd H l (.lst ys))) := by
  intro pins s σ H xs us Q I r h
  obtain ⟨p, ys, e, hq, q⟩ := h
  subst e
  obtain ⟨u, rfl, rx⟩ := vals1 r
  cases rx
  have nf : H s.heap.objs.size = none := I.hok.fresh (Nat.le_refl _)
  have fin : ∀ (its : List Value), Vals ys its → ys.length ≤ sizeLine → ∀ (g : Heap) (c : Nat), (∀ b o', s.heap.get? b = some o' → g.get? b = some o') →
      g.get? s.heap.objs.size = some { cls := .type "list", dict := none, data := .seq its.toArray c, slots := #[] } → EP X pins σ Q (.ref s.heap.objs.size) { s with heap := g } := by
    intro its rv hz g c kp e
    refine ⟨.ref s.heap.objs.size, _, I.laid (t' := s.toks) kp (Nat.le_refl _) (o := .lst ys) ⟨hz, its, c, rv, e⟩, rfl, q _ nf (new_big I (Nat.le_refl _))⟩
  rcases hq with hq | hq
  · obtain ⟨its, rv, pl, hz⟩ := I.list hq
    have hlen := rv.length
    obtain ⟨o, ho, hc, n, hd⟩ := pl.isList
    exact call_list_seq p (.inl rfl) ho hc hd (fun g c kp e => fin its rv hz g c kp e) (by simp only [List.size_toArray] <;> omega)
  · obtain ⟨its, rv, pl, hz⟩ := I.tuple hq
    have hlen := rv.length
    obtain ⟨o, ho, hc, n, hd⟩ := pl
    exact call_list_seq p (.inr rfl) ho hc hd (fun g c kp e => fin its rv hz g c kp e) (by simp only [List.size_toArray] <;> omega)
/-- repr(x), x data -/
def rReprD : List V → Hp → VK → Prop := fun xs H Q => ∃ x d, xs = [x] ∧ Dx H x d ∧ d.showable = true ∧ d.depth ≤ 100 ∧ d.shown.length ≤ sizeLine ∧ Q (.str d.shown) H
theorem call_reprD {k : Nat} (hr : Room k X.A) (hg : X.A.guards = some []) : CallR X (.builtin "repr") rReprD := by
  intro pins s σ H xs us Q I r h
  obtain ⟨x, d, e, hd, hs, hdp, hz, q⟩ := h
  subst e
  obtain ⟨u, rfl, rx⟩ := vals1 r
  obtain ⟨as, hrd, hn⟩ := Dx.reads I d x u hd rx
  have hu := hr.un
  have fin : ∀ h' u' tk, (∀ b o, s.heap.get? b = some o → h'.get? b = some o) → EP X pins σ Q (.str d.shown u') { s with heap := h', toks := tk } := fun h' u' tk hk =>
    ⟨.str d.shown, H, I.kept (t' := tk) hk, ⟨_, rfl⟩, q⟩
  cases hd with
  | non =>
    cases (show u = Value.none from rx)
    simp only [PyData.shown] at fin
    exact PySem.P.repr_of_none (fin _ _ _ fun _ _ e => e)
  | bl b =>
    cases (show u = Value.bool b from rx)
    simp only [PyData.shown] at fin
    exact PySem.P.repr_of_bool (fin _ _ _ fun _ _ e => e)
  | int i =>
    obtain ⟨t, z⟩ := (show ∃ t, u = Value.int i t from rx)
    cases z
    simp only [PyData.shown] at fin
    exact PySem.P.repr_of_int (by simpa [PyData.showable] using hs) (fin _ _ _ fun _ _ e => e)
  | str y =>
    obtain ⟨t, z⟩ := (show ∃ t, u = Value.str y t from rx)
    cases z
    simp only [PyData.shown] at fin hz
    exact PySem.P.repr_of_str (fin _ _ _ fun _ _ e => e) hz
  | lst e n h =>
    cases (show u = Value.ref _ from rx)
    exact repr_of_reads' hrd hs (fun _ => hn) hg (by omega) (fun _ _ e => e) fin hz
  | tup e h =>
    cases (show u = Value.ref _ from rx)
    exact repr_of_reads' hrd hs (fun _ => hn) hg (by omega) (fun _ _ e => e) fin hz
  | dic e =>
    cases (show u = Value.ref _ from rx)
    exact repr_of_reads' hrd hs (fun _ => hn) hg (by omega) (fun _ _ e => e) fin hz
  | dic1 e =>
    cases (show u = Value.ref _ from rx)
    exact repr_of_reads' hrd hs (fun _ => hn) hg (by omega) (fun _ _ e => e) fin hz
end
end KX

set_option maxRecDepth 100000
set_option maxHeartbeats 4000000
namespace KX
open PySem PySem.Spec PyProof.Rows L2 HT
section
variable {prog : Program} {w : World} {A : Around} {E : Value → Shared → Prop} {s : Shared}
theorem rev_adjust (n : Nat) : Builtin.Slice.sliceAdjust none none (-1) (n : Int) = ((n : Int) - 1, -1) := by
  unfold Builtin.Slice.sliceAdjust
  simp
theorem rev_places (n : Nat) : Builtin.Slice.slicePlaces ((n : Int) - 1) (-1) (-1) = n := by
  unfold Builtin.Slice.slicePlaces
  rw [if_neg (by decide)]
  by_cases h : (n : Int) - 1 > -1
  · rw [if_pos h]
    have : ((n : Int) - 1 - -1 - 1) / (- -1) + 1 = (n : Int) := by
      rw [show (- -1 : Int) = 1 by decide, Int.ediv_one]
      omega
    rw [this, Int.toNat_natCast]
  · rw [if_neg h]
    have : n = 0 := by omega
    subst this
    rfl
theorem rev_pick (xs : Array Value) : ((List.range xs.size).filterMap fun (k : Nat) => xs[(((xs.size : Nat) : Int) - 1 + (k : Int) * (-1)).toNat]?).toArray = xs.toList.reverse.toArray := by
  have e : (fun (k : Nat) => xs[(((xs.size : Nat) : Int) - 1 + (k : Int) * (-1)).toNat]?) = fun (k : Nat) => xs[xs.size - 1 - k]? := by
    funext k
    have : (((xs.size : Nat) : Int) - 1 + (k : Int) * (-1)).toNat = xs.size - 1 - k := by omega
    rw [this]
  rw [e]
  have e2 : (fun (k : Nat) => xs[xs.size - 1 - k]?) = (fun i => xs[i]?) ∘ fun k => xs.size - 1 - k := rfl
  rw [e2, ← List.filterMap_map, PySem.W.krv_range, List.filterMap_reverse, PySem.W.krv_all]
theorem applied_rev {sl : Addr} {vs : Value} {n : Nat} {Q : Int × Int × Nat → Shared → Prop} (hs : s.heap.IsSliceOf sl .none .none vs) (ps : IsPart vs (some (-1)))
    (h : Q ((n : Int) - 1, -1, n) s) : wpAny (model prog w) A (Builtin.Slice.sliceApplied (.ref sl) (pure (n : Int))) Q E s := by
  obtain ⟨os, hos, hcs, hds⟩ := id hs
  unfold Builtin.Slice.sliceApplied Builtin.Slice.sliceFields
  refine wpAny_bind (wpAny_bind (wpAny_field hos hds (x := .none) rfl (wpAny_bind (wpAny_field hos hds (x := .none) rfl (wpAny_bind (wpAny_field hos hds (x := vs) rfl (wpAny_pure ?_)))))))
  refine wpAny_bind (slicePart_ ps ?_)
  show wpAny _ _ (if ((-1 : Int) == 0) = true then _ else _) _ _ s
  rw [if_neg (by decide)]
  refine wpAny_bind (slicePart_none (wpAny_bind (slicePart_none (wpAny_bind (wpAny_pure ?_)))))
  show wpAny _ _ (match Builtin.Slice.sliceAdjust none none (-1) (n : Int) with | (lo, hi) => pure (lo, (-1 : Int), Builtin.Slice.slicePlaces lo hi (-1))) _ _ s
  rw [rev_adjust n]
  show wpAny _ _ (pure ((n : Int) - 1, (-1 : Int), Builtin.Slice.slicePlaces ((n : Int) - 1) (-1) (-1))) _ _ s
  rw [rev_places]
  exact wpAny_pure h
theorem getItem_tuple_rev {t sl : Addr} {items : Array Value} {vs : Value} {Q : Value → Shared → Prop} (ht : IsTup s.heap t items) (hs : s.heap.IsSliceOf sl .none .none vs) (ps : IsPart vs (some (-1)))
    (h : Q (.ref s.heap.objs.size) { s with heap := s.heap.push { cls := .type "tuple", data := .seq items.toList.reverse.toArray } })
    (hsz : items.size ≤ sizeLine) : wpAny (model prog w) A (getItem (.ref t) (.ref sl)) Q E s := by
  have htk : sizeOk (.seq items.toList.reverse.toArray) := by
    show items.toList.reverse.toArray.size ≤ sizeLine
    rw [List.size_toArray, List.length_reverse, Array.length_toList]
    exact hsz
  obtain ⟨os, hos, hcs, hds⟩ := id hs
  have hTs : s.TypeIs (.ref sl) "slice" := ⟨os, hos, hcs⟩
  unfold getItem
  try with_reducible refine wpAny_holding ?_
  first | refine wpAny_bind (wpAny_pure ?_) | skip
  refine wpAny_bind (wpAny_sequenceKey ht.typeIs (by decide) ?_)
  refine wpAny_bind (wpAny_callSpecial?_slot (name := Str.ofString "__getitem__") ht.typeIs PyProof.Rows.slot_tuple_getitem
    (wpAny_call_entry PyProof.Rows.slot_tuple_getitem ht.typeIs entry_tuple_getitem ?_ (args_tuple_getitem _ _)))
  show wpAny _ _ (Builtin.Tuple.tupleItemsOf (.ref t) >>= _) _ _ s
  refine wpAny_bind (tupleItemsOf_ ht ?_)
  refine wpAny_bind (wpAny_typeOf hTs ?_)
  rw [if_pos (by decide)]
  refine wpAny_bind (applied_rev hs ps ?_)
  have hno : ¬ ((((items.size : Nat) : Int) - 1 == 0 && (-1 : Int) == 1 && items.size == items.size) = true) := by
    intro q
    rw [Bool.and_eq_true, Bool.and_eq_true] at q
    exact absurd q.1.2 (by decide)
  show wpAny _ _ (if (((items.size : Nat) : Int) - 1 == 0 && (-1 : Int) == 1 && items.size == items.size) = true then _ else _) _ _ s
  rw [if_neg hno, rev_pick]
  first
    | exact wpAny_bind (m := Builtin.Tuple.tupleExact _) (wpAny_newObj_type (wpAny_pure ⟨_, rfl, wpAny_pure h⟩) htk)
    | exact wpAny_bind (m := Builtin.Tuple.tupleExact _) (wpAny_newObj_type (wpAny_bind (wpAny_pure (wpAny_pure ⟨_, rfl, wpAny_pure h⟩))) htk)
    | exact wpAny_bind (wpAny_bind (m := Builtin.Tuple.tupleExact _) (wpAny_newObj_type (wpAny_pure (wpAny_pure ⟨_, rfl, wpAny_pure h⟩)) htk))
    | exact wpAny_bind (wpAny_bind (m := Builtin.Tuple.tupleExact _) (wpAny_newObj_type (wpAny_pure ⟨_, rfl, wpAny_pure h⟩) htk))
end
section
variable {X : Cx}
/-- t[::-1], t a tuple: a new tuple -/
def tRevT (K : PySem.W.Frag) (te : TE) : TE := fun σ H Q => te σ H fun x H1 => ∃ a xs, x = .ref a ∧ SqT K H1 a xs ∧ ∀ p, H1 p = none → Q (.ref p) (upd H1 p (.tup xs.reverse))
theorem pe_revT {e : Expr} {te : TE} {k : Nat} {p1 p2 p3 pos : Pos} (he : PE X e te) : PE X (.Subscript e (.Slice none none (some (.UnaryOp .USub (.Constant (.int 1) k p1) p2)) p3) pos) (tRevT X.K te) := by
  constructor
  intro pins s σ H Q I h
  refine Subscript_ (thn (he.run pins s σ H _ I h) fun v s1 hh => ?_)
  obtain ⟨x, H1, I1, r1, a, xs, ex, hx, q⟩ := hh
  subst ex
  cases r1
  have hst : PO X (some (.UnaryOp .USub (.Constant (.int 1) k p1) p2)) (tPart (tUn (rU fun i => .int (-i)) (tC (.int 1)))) := po_some (pe_un un_neg pe_int)
  refine wpAny_Slice (thn (po_none.run pins s1 σ H1 (fun o H2 => o = none ∧ H2 = H1) I1 ⟨rfl, rfl⟩) fun vl s2 hh2 => ?_)
  obtain ⟨l, H2, I2, pl, el, e2⟩ := hh2
  subst el e2
  refine thn (po_none.run pins s2 σ H2 (fun o H3 => o = none ∧ H3 = H2) I2 ⟨rfl, rfl⟩) fun vu s3 hh3 => ?_
  obtain ⟨u, H3, I3, pu, eu, e3⟩ := hh3
  subst eu e3
  refine thn (hst.run pins s3 σ H3 (fun o H4 => o = some (-1) ∧ H4 = H3) I3 ⟨1, rfl, -1, rfl, rfl, rfl⟩) fun vs s4 hh4 => ?_
  obtain ⟨o, H4, I4, ps, eo, e4⟩ := hh4
  subst eo e4
  cases pl
  cases pu
  have I5 : Inv X pins σ H4 { s4 with heap := s4.heap.push { cls := .type "slice", data := .fields #[.none, .none, vs] } } := I4.kept (t' := s4.toks) fun b ob q => Heap.get?_push_of_some _ q
  obtain ⟨its, r, ht, hz⟩ := I5.tuple hx
  have hlen := r.length
  show wpAny (model X.prog X.w) X.A (subscriptTail e (.Slice none none (some (.UnaryOp .USub (.Constant (.int 1) k p1) p2)) p3) (.ref a) (.ref s4.heap.objs.size)) (EP X pins σ Q) X.xe { s4 with heap := s4.heap.push { cls := .type "slice", data := .fields #[.none, .none, vs] } }
  refine tail_any (ops := [.ref a, .ref s4.heap.objs.size]) ht.typeIs (PyProof.Rows.slot_tuple_getitem.lookup) ?_ (by with_unfolding_all rfl)
  refine getItem_tuple_rev ht (Heap.IsSliceOf.new _ .none .none vs) ps ?_ (by rw [List.size_toArray]; omega)
  refine ⟨.ref _, _, I5.laid (t' := s4.toks) (o := .tup xs.reverse) (fun b ob q => Heap.get?_push_of_some _ q) (Nat.le_refl _) ?_, rfl, q _ (I5.hok.fresh (Nat.le_refl _))⟩
  exact ⟨by rw [List.length_reverse]; exact hz, _, r.reverse, IsTup.new _ _⟩
/-- a power, great -/
theorem op_powW : OpR X (binaryOp .Pow) (rI (fun i j => 0 ≤ j ∧ (Builtin.Int.intBits i : Int) * j ≤ 2 ^ 27) fun i j => .int (i ^ j.toNat)) := opI fun _ _ _ _ _ _ _ hc q => pow_int hc.1 hc.2 q
end
end KX

set_option maxRecDepth 100000
set_option maxHeartbeats 4000000
namespace KX
open PySem PySem.Spec PyProof.Rows L2
/-! ### a def that shows data (repr): its promise where no repr runs around it -/
structure FnG (P : Program) (w : World) (K : PySem.W.Frag) (mg : Str → Option Value) (base : Heap) (CX : CXT) (k : Nat) (f : Addr) (fd : FuncData) (ps : List Str) (sp : Sp) : Prop where
  len : ∀ vs H Q E, sp vs H Q E → vs.length = ps.length
  run : ∀ (B : Around) (outs : List Env) (t : Shared) (H : Hp) (given : Args) (us : List Value) (vs : List V) (Q : VK) (E : XK), B.guards = some [] → Room k B → Env0 P w K mg base B outs t H →
    BindsTo t fd given (ps.zip us) → Vals vs us → sp vs H Q E → codeAny (model P w) B (.call (.ref f) given) (CR CX outs P w H t Q E) t
theorem FnG.mono {P : Program} {w : World} {K : PySem.W.Frag} {mg : Str → Option Value} {base : Heap} {CX : CXT} {j k : Nat} {f : Addr} {fd : FuncData} {ps : List Str} {sp : Sp} (F : FnG P w K mg base CX j f fd ps sp) (h : j ≤ k) :
    FnG P w K mg base CX k f fd ps sp := ⟨F.len, fun B outs t H given us vs Q E hg hr => F.run B outs t H given us vs Q E hg (hr.mono h)⟩
section
variable {X : Cx} {CX : CXT} {k : Nat} {f : Addr} {fd : FuncData} {ps : List Str} {sp : Sp} {dvs : List V} {ds : List Value} {E : XK} {x : Str} {p pos : Pos} {e : Expr} {es : List Expr} {t : TA}
theorem run_fnG {pins : List (Addr × Obj)} {σ : L2.St} {H : Hp} {s : Shared} {Q : VK} {us : List Value} {vs : List V} (F : FnG X.prog X.w X.K X.mg X.base CX k f fd ps sp) (hg : X.A.guards = some []) (hr : Room k X.A) (hb : Binds X.K fd ps ds)
    (hd : Vals dvs ds) (hx : Passes CX X E) (I : Inv X pins σ H s) (r : Vals vs us) (h : sp (vs ++ dvs) H Q E) : wpAny (model X.prog X.w) X.A (call (.ref f) us) (EP X pins σ Q) X.xe s := by
  have r2 : Vals (vs ++ dvs) (us ++ ds) := r.append hd
  have hl : (us ++ ds).length = ps.length := by
    rw [← r2.length]
    exact F.len _ _ _ _ h
  refine wpAny_call (codeAny_mono (F.run X.A X.stack s H ⟨us, []⟩ (us ++ ds) (vs ++ dvs) Q E hg hr I.env0 (hb s us I.kIn hl) r2 h) fun r s' hq => ?_)
  match r, hq with
  | .error e, hq => exact hx pins σ H s e s' I hq
  | .ok (.ret u), hq => exact I.after hq
theorem pe_callG (F : FnG X.prog X.w X.K X.mg X.base CX k f fd ps sp) (hgd : X.A.guards = some []) (hr : Room k X.A) (hg : Gl X x) (hm : X.mg x = some (.ref f)) (hk : PySem.W.keepIn X.K (.ref f) = true) (hb : Binds X.K fd ps ds)
    (hd : Vals dvs ds) (hx : Passes CX X E) (ha : PA X (e :: es) t) (hdb : (x == ("__debug__" : Str)) = false := by decide) (he : starEach (e :: es) X.env = (false, eval e X.env) :: starEach es X.env := by rfl)
    (hpl : (backTo pos (starEach es X.env)).any (·.1) = false := by rfl) : PE X (.Call (.Name x p) (e :: es) [] pos) (tCall sp dvs E t) := by
  constructor
  intro pins s σ H Q I h
  refine wpAny_Call_Name_kw (ld_glob I hg hm ?_ hdb)
  refine PySem.W.callWith_K (h₀ := X.base) I.ok.mod.kin hk (thn (ha.run pos pins s σ H _ I h) fun us s1 hh => ?_) he hpl
  obtain ⟨vs, H1, I1, r, q⟩ := hh
  exact ⟨I1.kIn, run_fnG F hgd hr hb hd hx I1 r q⟩
end
/-- a def of the text, where no repr runs around it -/
theorem fn_ofG {CX : CXT} {P : Program} {w : World} {K : PySem.W.Frag} {mg : Str → Option Value} {base : Heap} {k : Nat} {f : Addr} {name qual : Str} {params : Arguments} {body : List Stmt} {scope : Scope} {dV kV doc pm cdv ct oc : Value}
    {an od : Option Addr} {osl : Array (Option Value)} {N ps : List Str} {sp : Sp} (lk : K.lookup f = some ⟨oc, od, .func (PySem.W.fnOf name qual params body scope dV kV doc pm an cdv ct), osl⟩) (hcd : PySem.W.codeIn K cdv qual = true)
    (S : FnScope N ps scope) (len : ∀ vs H Q E, sp vs H Q E → vs.length = ps.length)
    (hbody : ∀ (B : Around) (outs : List Env) (s : Shared) (H : Hp) (vs : List V) (Q : VK) (E : XK), (B.deeper (envOfC qual scope s.heap.objs.size f cdv)).guards = some [] → Room k (B.deeper (envOfC qual scope s.heap.objs.size f cdv)) → sp vs H Q E →
      ∃ t, PSs (cxOf CX P w K mg base N qual scope f cdv B outs s H E) body t ∧ t { nx := fun _ H' => Q .non H', rt := Q } (start N vs) H) :
    FnG P w K mg base CX (k + 1) f (PySem.W.fnOf name qual params body scope dV kV doc pm an cdv ct) ps sp := by
  refine ⟨len, fun B outs s H given us vs Q E hg hr e0 hb r hsp => ?_⟩
  have hl := len _ _ _ _ hsp
  have KX : K.In s.heap := e0.mod.kin.keeps fun b o e => (e0.bs b o e).1
  have lim : s.heap.NoLimit := e0.mod.nolimit.keeps fun b o e => (e0.bs b o e).1
  have hkind : ∀ y ∈ ps.zip us, scope.names.lookup y.1 = some .local ∨ (scope.names.lookup y.1 = some .cell ∧ ((cellsFrom (s.heap.objs.size + 1) scope.names []).lookup y.1).isSome = true) := by
    rintro ⟨n, v⟩ hy
    rcases S.par n (List.of_mem_zip hy).1 with q | q
    · exact .inl q
    · exact .inr ⟨q, PySem.W.cellsFrom_some _ _ _ (.inl q)⟩
  refine codeAny_call_function hr.depth (KX _ _ lk) rfl S.co S.gen rfl (PySem.W.codeRec_of KX hcd) (hb _ _ _ _ ?_)
  refine wpAny_newFunctionEnv_cells S.kind hkind fun env he s1 x => ?_
  subst he
  refine ⟨lim.keeps x.toInCall.keep, codeAny_func ?_⟩
  obtain ⟨t, ht, hq⟩ := hbody B outs s H vs Q E hg (hr.deeper _) hsp
  have I : Inv (cxOf CX P w K mg base N qual scope f cdv B outs s H E) [] (start N vs) H s1 := inv_start S hr.hd e0 hl r x
  refine wpAny_mono (ht.run [] s1 (start N vs) H _ I hq) (fun fl s' hs => ?_) fun e s' hs => hs
  match fl, hs with
  | .ret u, hs =>
    obtain ⟨v, σ', H', J, rv, q⟩ := hs
    exact ⟨v, H', J.os, J.bare, J.base, J.hok, rv, q⟩
  | .next, hs =>
    obtain ⟨σ', H', J, q⟩ := hs
    exact ⟨V.non, H', J.os, J.bare, J.base, J.hok, rfl, q⟩
  | .brk, hs =>
    obtain ⟨_, _, _, q⟩ := hs
    exact False.elim q
  | .cont, hs =>
    obtain ⟨_, _, _, q⟩ := hs
    exact False.elim q
theorem okG {P : Program} {w : World} {K : PySem.W.Frag} {mg : Str → Option Value} {base : Heap} {x qual : Str} {st : Stmt} {f : Addr} {fd : FuncData} {N ps : List Str} {k : Nat} {sp : Sp} (F : Fun K x qual st f fd) (S : FnScope N ps (defScope st))
    (len : ∀ vs H Q E, sp vs H Q E → vs.length = ps.length)
    (hbody : ∀ (cdv : Value) (B : Around) (outs : List Env) (s : Shared) (H : Hp) (vs : List V) (Q : VK) (E : XK), (B.deeper (envOfC qual (defScope st) s.heap.objs.size f cdv)).guards = some [] → Room k (B.deeper (envOfC qual (defScope st) s.heap.objs.size f cdv)) →
      sp vs H Q E → ∃ t, PSs (cxOf CX0 P w K mg base N qual (defScope st) f cdv B outs s H E).nox (defBody st) t ∧ t { nx := fun _ H' => Q .non H', rt := Q } (start N vs) H) : FnG P w K mg base CX0 (k + 1) f fd ps sp := by
  obtain ⟨oc, od, kV, doc, pm, an, cdv, ct, osl, rfl, lk, hcd⟩ := F.ex
  refine fn_ofG lk hcd S len fun B outs s H vs Q E hg hr hsp => ?_
  obtain ⟨t, h, q⟩ := hbody cdv B outs s H vs Q E hg hr hsp
  exact ⟨t, h.nox, q⟩

/-! ### the law's call -/
theorem lawG {P : Program} {w : World} {K : PySem.W.Frag} {mg mb : Str → Option Value} {k : Nat} {fa a : Addr} {fd : FuncData} {x : Str} {sp : Sp} {s1 : Shared} {vs : List Value} {ns : List Int}
    (KX : K.In s1.heap) (hns : s1.heap.Ns mainGlobals mg) (hb : s1.heap.Ns builtinsNs mb) (hbb : ∀ x : Str, x ≠ "__name__" → mb x = bootBuiltins x) (hlim : s1.heap.NoLimit) (hg : s1.gens = #[])
    (ha : s1.heap.get? a = some { cls := .type "list", data := .seq vs.toArray }) (hi : IntsAre vs ns) (hl : ns.length ≤ sizeLine) (hr : Room k callerA)
    (F : ∀ base : Heap, K.In base → base.Ns mainGlobals mg → FnG P w K mg base CX0 k fa fd [x] sp) (hbind : ∀ (s : Shared) (u : Value), BindsTo s fd ⟨[u], []⟩ [(x, u)])
    (hsp : ∀ H : Hp, SqL K H a (ns.map V.int) → (∀ b o, H b = some o → ∃ ob u, o = .frz ob u) → sp [.ref a] H (fun v _ => v = .bl true) fun _ _ _ => False) :
    codeAny (model P w) callerA (.call (.ref fa) ⟨[.ref a], []⟩) (fun r s' => r = .ok (.ret (.bool true)) ∧ OldK s1.heap s'.heap ∧ s'.os = s1.os ∧ AllBare s'.gens) s1 := by
  have rv := vals_ints hi
  have lenV := hi.length
  -- the script at a, known to the object, where it is no object of the module; nothing else
  have main : ∀ H : Hp, (∀ b o, H b = some o → b = a ∧ K.lookup a = none ∧ o = .frz { cls := .type "list", data := .seq vs.toArray } (.lst (ns.map V.int))) → SqL K H a (ns.map V.int) →
      codeAny (model P w) callerA (.call (.ref fa) ⟨[.ref a], []⟩) (fun r s' => r = .ok (.ret (.bool true)) ∧ OldK s1.heap s'.heap ∧ s'.os = s1.os ∧ AllBare s'.gens) s1 := by
    intro H hO hS
    have hok : HOk P w H s1.heap := fun b o e => by
      obtain ⟨e1, _, e2⟩ := hO b o e
      subst e1 e2
      exact ⟨ha, by rw [List.length_map]; exact hl, vs, _, rv, ha⟩
    have keep : ∀ {b : Addr} {o : Obj}, s1.heap.get? b = some o → (b = a → False) → (hidT s1.heap H).get? b = some o := fun {b o} e n => hidT_get e (by
      cases q : H b with
      | none => rfl
      | some u => exact (n (hO b u q).1).elim)
    have nsK : ∀ {b : Addr} {m : Str → Option Value}, s1.heap.Ns b m → (hidT s1.heap H).Ns b m := fun {b m} hn => by
      obtain ⟨o, es, ep, e, d, r⟩ := hn
      refine ⟨o, es, ep, keep e fun z => ?_, d, r⟩
      subst z
      rw [ha] at e
      cases e
      cases d
    have hKb : K.In (hidT s1.heap H) := fun b o e => hidT_get (KX b o e) (by
      cases q : H b with
      | none => rfl
      | some u =>
        obtain ⟨e1, e2, _⟩ := hO b u q
        rw [e1, e2] at e
        cases e)
    have hM : Mod K mg (hidT s1.heap H) := ⟨hKb, nsK hns, ⟨mb, nsK hb, hbb⟩, let ⟨mc, h1, h2⟩ := hlim; ⟨mc, nsK h1, h2⟩⟩
    have e0 : Env0 P w K mg (hidT s1.heap H) callerA [] s1 H := ⟨rfl, hM, fun b o e => of_hidT e, Nat.le_of_eq (hidT_size _ _), trivial, fun b hb => absurd (show b ∈ ([] : List Addr) from hb) (by simp), hok, .of_eq hg⟩
    have fr : ∀ b o, H b = some o → ∃ ob u, o = .frz ob u := fun b o e => ⟨_, _, (hO b o e).2.2⟩
    refine codeAny_mono ((F _ hKb (nsK hns)).run callerA [] s1 H ⟨[.ref a], []⟩ [.ref a] [.ref a] _ _ rfl hr e0 (hbind s1 (.ref a)) (.cons rfl .nil) (hsp H hS fr)) fun r s' h => ?_
    match r, h with
    | .error e, h => exact h.elim
    | .ok (.ret u), h =>
      obtain ⟨v, H', os, bare, un, hok', r', q⟩ := h
      have q' : v = .bl true := q
      subst q'
      obtain rfl : u = Value.bool true := r'
      refine ⟨rfl, OldK.of_keep fun b o e => ?_, os, bare⟩
      cases q : H b with
      | none => exact un.keep b o e q (fun z => absurd (show b ∈ ([] : List Addr) from z) (by simp)) (by simp)
      | some u =>
        obtain ⟨e1, _, e2⟩ := hO b u q
        rw [e2] at q
        obtain ⟨f1, _⟩ := hok b _ q
        obtain ⟨f2, _⟩ := hok' b _ (un.frzs b _ _ q)
        rw [e] at f1
        cases f1
        exact f2
  cases hk : K.lookup a with
  | some o =>
    have e := KX a o hk
    rw [ha] at e
    cases e
    exact main (fun _ => none) (fun b u z => by cases (show (none : Option HO) = some u from z)) (.inr ⟨_, vs.toArray, _, hk, rfl, rfl, rfl, by rw [List.size_toArray, lenV]; exact hl, by simpa using rv⟩)
  | none =>
    refine main (fun b => if b = a then some (.frz { cls := .type "list", data := .seq vs.toArray } (.lst (ns.map V.int))) else none) (fun b u z => ?_) (.inl (.inr ⟨_, if_pos rfl⟩))
    by_cases hb : b = a
    · have z' := (if_pos hb).symm.trans z
      cases z'
      exact ⟨hb, hk, rfl⟩
    · have z' := (if_neg hb).symm.trans z
      cases z'
theorem walkG {l : PySem.W.OpenLaw} {n k : Nat} {q : Program} {loose : List Str} {XP : (Str → Option Value) → Heap → Prop} {YP : World → Heap → Prop} {d : DefRec} {K : Params → PySem.W.Frag} {sp : PySem.W.Frag → Sp} {x : Str}
    (hn : l.most = some n) (hn2 : n ≤ sizeLine) (hdf : d.params.defaults = []) (hr : Room k callerA) (hY : ∀ (w : World) (h : Heap), YP w h → (K w.params).In h)
    (F : ∀ (w : World) (mg : Str → Option Value) (fa : Addr) (h : Heap), (K w.params).In h → h.Ns mainGlobals mg → mg d.name = some (.ref fa) →
      ∃ fd : FuncData, (∀ (s : Shared) (u : Value), BindsTo s fd ⟨[u], []⟩ [(x, u)]) ∧ ∀ base : Heap, (K w.params).In base → base.Ns mainGlobals mg → FnG l.prog w (K w.params) mg base CX0 k fa fd [x] (sp (K w.params)))
    (hsp : ∀ (K : PySem.W.Frag) (H : Hp) (a : Addr) (ns : List Int), ns.length ≤ n → SqL K H a (ns.map V.int) → (∀ b o, H b = some o → ∃ ob u, o = .frz ob u) → sp K [.ref a] H (fun v _ => v = .bl true) fun _ _ _ => False) :
    PySem.W.WalkO q loose XP YP l.row.toRowW d [] (fun f vs => PySem.call f vs) := by
  refine Att.attach_call hn hdf fun w s₀ s1 mg mb fa o pm cd doc a vs ns G Y ho hd hcd hmg hobj hints hlen hg => ?_
  have KX := hY w _ Y
  obtain ⟨fd, hb, hF⟩ := F w mg fa _ KX G.T.g hmg
  exact lawG KX G.T.g G.T.b G.T.builtins G.T.nolimit hg hobj hints (Nat.le_trans hlen hn2) hr hF hb fun H hS hO => hsp (K w.params) H a ns hlen hS hO
end KX

set_option maxRecDepth 100000
set_option maxHeartbeats 4000000
namespace KX
open PySem PySem.Spec PyProof.Rows L2
section
variable {X : Cx}
/-- == and != of data without dicts -/
def rEqP (K : PySem.W.Frag) (f : Bool → Bool) : R2 := fun x y H Q => ∃ d e, Dp K H x d ∧ Dp K H y e ∧ d.plain = true ∧ e.plain = true ∧ min d.depth e.depth ≤ 64 ∧ Q (.bl (f (PyData.eqv d e))) H
theorem op_eqP (hu : X.A.units + 64 < cLine) : OpR X (compareOp .Eq) (rEqP X.K id) := by
  intro pins s σ H x y v u Q I rx ry h
  obtain ⟨d, e, hd, he, pd, pe, hm, q⟩ := h
  obtain ⟨as, r1⟩ := Dp.reads I d x v hd rx
  obtain ⟨bs, r2⟩ := Dp.reads I e y u he ry
  exact SeqAt.eq_plain r1 r2 pd pe (by omega) ⟨.bl _, H, I, rfl, q⟩
theorem op_neP (hu : X.A.units + 64 < cLine) : OpR X (compareOp .NotEq) (rEqP X.K not) := by
  intro pins s σ H x y v u Q I rx ry h
  obtain ⟨d, e, hd, he, pd, pe, hm, q⟩ := h
  obtain ⟨as, r1⟩ := Dp.reads I d x v hd rx
  obtain ⟨bs, r2⟩ := Dp.reads I e y u he ry
  exact SeqAt.ne_plain r1 r2 pd pe (by omega) ⟨.bl _, H, I, rfl, q⟩
end
/-- a list of ones against the empty list -/
theorem dp_ints {K : PySem.W.Frag} {H : Hp} : ∀ (ns : List Int), DpAll K H (ns.map V.int) (ns.map PyData.int)
  | [] => .nil
  | n :: ns => .cons (.int n) (dp_ints ns)
theorem dp_strs {K : PySem.W.Frag} {H : Hp} : ∀ (ns : List Str), DpAll K H (ns.map V.str) (ns.map PyData.str)
  | [] => .nil
  | n :: ns => .cons (.str n) (dp_strs ns)
theorem pl_ints : ∀ ns : List Int, PyData.plainAll (ns.map PyData.int) = true
  | [] => rfl
  | n :: ns => by simp [PyData.plainAll, PyData.plain, pl_ints ns]
theorem pl_strs : ∀ ns : List Str, PyData.plainAll (ns.map PyData.str) = true
  | [] => rfl
  | n :: ns => by simp [PyData.plainAll, PyData.plain, pl_strs ns]
theorem eqv_nil (ds : List PyData) : PyData.eqv (.list ds) (.list []) = ds.isEmpty := by
  cases ds <;> simp [PyData.eqv, PyData.eqvAll]
theorem min_nil (d : PyData) : min d.depth (PyData.list []).depth ≤ 64 := by
  have : (PyData.list []).depth ≤ 64 := by decide
  omega
end KX

set_option maxRecDepth 100000
set_option maxHeartbeats 4000000
namespace KX
open PySem PySem.Spec PyProof.Rows L2
/-! ### how great data are -/
/-- {} and {text: int} -/
def fineK (B : Nat) : List (PyData × PyData) → Bool
  | [] => true
  | [(.str x, .int i)] => (x.cps.toList.all fun c => decide (c < 128)) && decide (x.length ≤ 20) && decide (i.natAbs ≤ B)
  | _ => false
theorem fineK_is {B : Nat} {kvs : List (PyData × PyData)} (h : fineK B kvs = true) : kvs = [] ∨ ∃ x i, kvs = [(.str x, .int i)] ∧ (∀ c ∈ x.cps.toList, c < 128) ∧ x.length ≤ 20 ∧ i.natAbs ≤ B := by
  unfold fineK at h
  split at h
  · exact .inl rfl
  · rename_i x i
    simp only [Bool.and_eq_true, decide_eq_true_eq, List.all_eq_true] at h
    exact .inr ⟨x, i, rfl, h.1.1, h.1.2, h.2⟩
  · cases h
mutual
/-- ints within B, texts of plain signs, no dict but {} and {text: int} -/
def fine (B : Nat) : PyData → Bool
  | .none => true
  | .bool _ => true
  | .int i => decide (i.natAbs ≤ B)
  | .str x => x.cps.toList.all fun c => decide (c < 128)
  | .list xs => fineAll B xs
  | .tuple xs => fineAll B xs
  | .dict kvs => fineK B kvs
def fineAll (B : Nat) : List PyData → Bool
  | [] => true
  | x :: xs => fine B x && fineAll B xs
end
mutual
def wt : PyData → Nat
  | .str x => x.length + 1
  | .list xs => wtAll xs + 1
  | .tuple xs => wtAll xs + 1
  | _ => 1
def wtAll : List PyData → Nat
  | [] => 0
  | x :: xs => wt x + wtAll xs
end
theorem fineAll_app (B : Nat) : ∀ xs ys, fineAll B (xs ++ ys) = (fineAll B xs && fineAll B ys)
  | [], ys => by simp [fineAll]
  | x :: xs, ys => by simp [fineAll, fineAll_app B xs ys, Bool.and_assoc]
theorem wtAll_app : ∀ xs ys, wtAll (xs ++ ys) = wtAll xs + wtAll ys
  | [], ys => by simp [wtAll]
  | x :: xs, ys => by simp [wtAll, wtAll_app xs ys, Nat.add_assoc]
theorem fineAll_mem {B : Nat} : ∀ {xs : List PyData}, fineAll B xs = true ↔ ∀ x ∈ xs, fine B x = true
  | [] => by simp [fineAll]
  | x :: xs => by simp [fineAll, fineAll_mem (xs := xs)]
theorem wt_mem : ∀ {xs : List PyData} {x : PyData}, x ∈ xs → wt x ≤ wtAll xs
  | y :: xs, x, h => by
    rcases List.mem_cons.mp h with rfl | h
    · simp [wtAll]
    · have := wt_mem h
      simp [wtAll]
      omega
theorem wtAll_take (n : Nat) : ∀ xs, wtAll (xs.take n) + wtAll (xs.drop n) = wtAll xs := fun xs => by
  rw [← wtAll_app, List.take_append_drop]
theorem wtAll_rev : ∀ xs, wtAll xs.reverse = wtAll xs
  | [] => rfl
  | x :: xs => by
    rw [List.reverse_cons, wtAll_app, wtAll_rev xs]
    simp [wtAll]
    omega
theorem len_wt : ∀ xs : List PyData, xs.length ≤ wtAll xs
  | [] => Nat.zero_le _
  | x :: xs => by
    have := len_wt xs
    have h : 1 ≤ wt x := by cases x <;> simp [wt]
    simp [wtAll]
    omega
mutual
theorem fine_le {B C : Nat} (h : B ≤ C) : ∀ d : PyData, fine B d = true → fine C d = true
  | .none, _ => by simp [fine]
  | .bool _, _ => by simp [fine]
  | .int i, q => by simp [fine] at q ⊢; omega
  | .str x, q => by simpa [fine] using q
  | .list xs, q => by simp only [fine] at q ⊢; exact fineAll_le h xs q
  | .tuple xs, q => by simp only [fine] at q ⊢; exact fineAll_le h xs q
  | .dict kvs, q => by
    rcases fineK_is (show fineK B kvs = true from q) with rfl | ⟨x, i, rfl, h1, h2, h3⟩
    · rfl
    · show fineK C [(.str x, .int i)] = true
      simp only [fineK, Bool.and_eq_true, decide_eq_true_eq, List.all_eq_true]
      exact ⟨⟨h1, h2⟩, by omega⟩
theorem fineAll_le {B C : Nat} (h : B ≤ C) : ∀ ds : List PyData, fineAll B ds = true → fineAll C ds = true
  | [], _ => by simp [fineAll]
  | x :: xs, q => by
    simp only [fineAll, Bool.and_eq_true] at q ⊢
    exact ⟨fine_le h x q.1, fineAll_le h xs q.2⟩
end
theorem piled_cons' (t : Str) (r : List Str) : piled (t :: r) = t.length + 2 + piled r := by
  rw [piled_cons]
theorem listText_le (ts : List Str) : (listText ts).length ≤ piled ts + 2 := by
  unfold listText
  rw [strLen_append]
  cases ts with
  | nil => show 1 + 1 ≤ _; simp [piled]
  | cons t r =>
    show (textFrom 1 ((("[" : Str) ++ ("" : Str)) ++ t) r).length + 1 ≤ _
    rw [textFrom_length_pos _ _ _ (by decide), strLen_append, strLen_append, piled_cons']
    show 1 + 0 + t.length + piled r + 1 ≤ _
    omega
theorem tupleText_le (ts : List Str) : (tupleText ts).length ≤ piled ts + 3 := by
  unfold tupleText
  rw [strLen_append, strLen_append]
  have h2 : ((if ts.length == 1 then ",)" else ")" : String) : Str).length ≤ 2 := by
    split <;> decide
  have h1 : (("(" : Str)).length = 1 := rfl
  by_cases h : ts = []
  · subst h
    have : (Str.join ", " ([] : List Str)).length = 0 := rfl
    omega
  · have := join_length_add ts h
    omega
mutual
theorem shown_le {B : Nat} (hB : B < 10 ^ 400) : ∀ d : PyData, fine B d = true → d.shown.length + 10 ≤ 1000 * wt d
  | .none, _ => by simp only [PyData.shown]; show 4 + 10 ≤ 1000 * 1; decide
  | .bool b, _ => by cases b <;> simp only [PyData.shown] <;> decide
  | .int i, q => by
    have q : i.natAbs ≤ B := by simpa [fine] using q
    have h : (toString i).length ≤ 400 + 1 := PySem.int_text_length_le10 (a := i) (k := 400) (by decide) (by omega)
    simp only [PyData.shown, wt]
    have e : (Str.ofString (toString i)).length = (toString i).length := PySem.ofString_length _
    show (Str.ofString (toString i)).length + 10 ≤ _
    omega
  | .str x, q => by
    have q : ∀ c ∈ x.cps.toList, c < 128 := by
      have q : (x.cps.toList.all fun c => decide (c < 128)) = true := q
      intro c hc
      exact of_decide_eq_true (List.all_eq_true.mp q c hc)
    have h := PySem.StrLaws.reprText_len x fun c hc => Nat.lt_trans (q c hc) (by decide)
    simp only [PyData.shown, wt]
    omega
  | .list xs, q => by
    have q : fineAll B xs = true := by simpa only [fine] using q
    have h1 := listText_le (PyData.shownAll xs)
    have h2 := shownAll_le hB xs q
    simp only [PyData.shown, wt]
    omega
  | .tuple xs, q => by
    have q : fineAll B xs = true := by simpa only [fine] using q
    have h1 := tupleText_le (PyData.shownAll xs)
    have h2 := shownAll_le hB xs q
    simp only [PyData.shown, wt]
    omega
  | .dict kvs, q => by
    rcases fineK_is (show fineK B kvs = true from q) with rfl | ⟨x, i, rfl, h1, h2, h3⟩
    · simp only [PyData.shown, PyData.shownKv]
      show (2 : Nat) + 10 ≤ 1000 * 1
      decide
    · have h := PySem.StrLaws.reprText_len x fun c hc => Nat.lt_trans (h1 c hc) (by decide)
      have h5 : (toString i).length ≤ 400 + 1 := PySem.int_text_length_le10 (a := i) (k := 400) (by decide) (by omega)
      have e : (Str.ofString (toString i)).length = (toString i).length := PySem.ofString_length _
      have h6 := dictText_len_le (PyData.shownKv [(.str x, .int i)])
      simp only [PyData.shown, PyData.shownKv, wt, List.map_cons, List.map_nil, List.sum_cons, List.sum_nil, List.length_cons, List.length_nil, strLen_append] at h6 ⊢
      have e2 : ((": " : Str)).length = 2 := rfl
      have e3 : (Str.ofString (toString i)).length ≤ 401 := by omega
      change _ ≤ (reprText x).length + (": " : Str).length + (Str.ofString (toString i)).length + 0 + 2 * (0 + 1) + 3 at h6
      omega
theorem shownAll_le {B : Nat} (hB : B < 10 ^ 400) : ∀ ds : List PyData, fineAll B ds = true → piled (PyData.shownAll ds) ≤ 1000 * wtAll ds
  | [], _ => by simp [PyData.shownAll, piled]
  | x :: xs, q => by
    simp only [fineAll, Bool.and_eq_true] at q
    have h1 := shown_le hB x q.1
    have h2 := shownAll_le hB xs q.2
    simp only [PyData.shownAll, wtAll]
    rw [piled_cons']
    have h : 1 ≤ wt x := by cases x <;> simp [wt]
    omega
end
end KX
namespace KX
open PySem PySem.Spec PyProof.Rows L2
theorem log_of_fine {B : Nat} (hB : B < 10 ^ 400) {i : Int} (h : i.natAbs ≤ B) : i.natAbs.log2 < 1920 := by
  by_cases z : i.natAbs = 0
  · rw [z]; decide
  · refine (Nat.log2_lt z).mpr ?_
    have : (10 : Nat) ^ 400 < 2 ^ 1920 := by decide +kernel
    omega
mutual
theorem showable_fine {B : Nat} (hB : B < 10 ^ 400) : ∀ d : PyData, fine B d = true → d.showable = true
  | .none, _ => by simp only [PyData.showable]
  | .bool b, _ => by simp only [PyData.showable]
  | .int i, q => by
    have q : i.natAbs ≤ B := by simpa [fine] using q
    simp only [PyData.showable]
    exact decide_eq_true (log_of_fine hB q)
  | .str x, _ => by simp only [PyData.showable]
  | .list xs, q => by
    simp only [PyData.showable]
    exact showableAll_fine hB xs (by simpa only [fine] using q)
  | .tuple xs, q => by
    simp only [PyData.showable]
    exact showableAll_fine hB xs (by simpa only [fine] using q)
  | .dict kvs, q => by
    rcases fineK_is (show fineK B kvs = true from q) with rfl | ⟨x, i, rfl, h1, h2, h3⟩
    · simp only [PyData.showable, PyData.showableKv]
    · simp only [PyData.showable, PyData.showableKv, Bool.and_true, Bool.true_and]
      exact decide_eq_true (log_of_fine hB h3)
theorem showableAll_fine {B : Nat} (hB : B < 10 ^ 400) : ∀ ds : List PyData, fineAll B ds = true → PyData.showableAll ds = true
  | [], _ => by simp only [PyData.showableAll]
  | x :: xs, q => by
    simp only [fineAll, Bool.and_eq_true] at q
    simp only [PyData.showableAll, showable_fine hB x q.1, showableAll_fine hB xs q.2, Bool.and_self]
end
mutual
theorem depth_wt {B : Nat} : ∀ d : PyData, fine B d = true → d.depth ≤ wt d
  | .none, _ => by simp [PyData.depth]
  | .bool b, _ => by simp [PyData.depth]
  | .int i, _ => by simp [PyData.depth]
  | .str x, _ => by simp [PyData.depth]
  | .list xs, q => by
    have := depthAll_wt xs (B := B) (by simpa only [fine] using q)
    simp only [PyData.depth, wt]
    omega
  | .tuple xs, q => by
    have := depthAll_wt xs (B := B) (by simpa only [fine] using q)
    simp only [PyData.depth, wt]
    omega
  | .dict kvs, q => by
    rcases fineK_is (show fineK B kvs = true from q) with rfl | ⟨x, i, rfl, h1, h2, h3⟩ <;> simp [PyData.depth, PyData.depthKv, wt]
theorem depthAll_wt {B : Nat} : ∀ ds : List PyData, fineAll B ds = true → PyData.depthAll ds ≤ wtAll ds
  | [], _ => by simp [PyData.depthAll]
  | x :: xs, q => by
    simp only [fineAll, Bool.and_eq_true] at q
    have h1 := depth_wt x q.1
    have h2 := depthAll_wt xs q.2
    simp only [PyData.depthAll, wtAll]
    omega
end
/-- data that can be shown -/
structure Good (B n : Nat) (d : PyData) : Prop where
  f : fine B d = true
  w : wt d ≤ n
theorem Good.show {B n : Nat} {d : PyData} (g : Good B n d) (hB : B < 10 ^ 400) (hn : n ≤ 100) : d.showable = true ∧ d.depth ≤ 100 ∧ d.shown.length ≤ sizeLine := by
  have h1 := depth_wt d g.f
  have h2 := shown_le hB d g.f
  have h3 := g.w
  refine ⟨showable_fine hB d g.f, by omega, ?_⟩
  rw [sizeLine_eq]
  omega
theorem Good.mono {B n B' n' : Nat} {d : PyData} (g : Good B n d) (h : B ≤ B') (h' : n ≤ n') : Good B' n' d := ⟨fine_le h d g.f, Nat.le_trans g.w h'⟩
/-- new objects beside a stream -/
def hid (l : Addr) (H : Hp) : Hp := fun b => if b = l then none else H b
theorem hid_at {l b : Addr} {H : Hp} (h : b ≠ l) : hid l H b = H b := if_neg h
theorem hid_some {l b : Addr} {H : Hp} {o : HO} (h : hid l H b = some o) : b ≠ l ∧ H b = some o := by
  unfold hid at h
  split at h
  · cases h
  · exact ⟨by assumption, h⟩
/-- all but what stands at l is as it was -/
def Keep (l : Addr) (H H' : Hp) : Prop := ∀ b o, b ≠ l → H b = some o → H' b = some o
theorem Keep.same {l : Addr} {H H' : Hp} (k : Keep l H H') : Same (hid l H) (hid l H') := fun b o e => by
  obtain ⟨n, e⟩ := hid_some e
  rw [hid_at n]
  exact k b o n e
theorem Keep.refl (l : Addr) (H : Hp) : Keep l H H := fun _ _ _ e => e
theorem Keep.trans {l : Addr} {H H1 H2 : Hp} (a : Keep l H H1) (b : Keep l H1 H2) : Keep l H H2 := fun c o n e => b c o n (a c o n e)
theorem Keep.of {l : Addr} {H H' : Hp} (s : Same H H') : Keep l H H' := fun b o _ e => s b o e
theorem Keep.at {l : Addr} {H : Hp} {o : HO} : Keep l H (upd H l o) := fun b u n e => by rw [upd_ne n]; exact e
theorem Keep.new {l p : Addr} {H H' : Hp} {o : HO} (k : Keep l H H') (n : H' p = none) : Keep l H (upd H' p o) := k.trans (Keep.of fun b u e => by rw [upd_ne (ne_of_none e n)]; exact e)
theorem Keep.upd {l : Addr} {H H' : Hp} {o : HO} (k : Keep l H H') : Keep l H (upd H' l o) := k.trans Keep.at
theorem hid_same (l : Addr) (H : Hp) : Same (hid l H) H := fun b o e => (hid_some e).2
/-- a stream stands at l -/
def StO (H : Hp) (l : Addr) : Prop := ∃ a b c : Int, H l = some (.lst [.int a, .int b, .int c])
theorem StO.ne {l p : Addr} {H : Hp} (h : StO H l) (n : H p = none) : p ≠ l := by
  obtain ⟨a, b, c, e⟩ := h
  exact (ne_of_none e n).symm
theorem StO.new {l p : Addr} {H : Hp} {o : HO} (h : StO H l) (n : H p = none) : StO (upd H p o) l := by
  obtain ⟨a, b, c, e⟩ := id h
  exact ⟨a, b, c, by rw [upd_ne (h.ne n).symm]; exact e⟩
theorem StO.same {l : Addr} {H H' : Hp} (h : StO H l) (s : Same H H') : StO H' l := by
  obtain ⟨a, b, c, e⟩ := h
  exact ⟨a, b, c, s _ _ e⟩
theorem hnew {l p : Addr} {H : Hp} {o : HO} (n : H p = none) : Same (hid l H) (hid l (L2.upd H p o)) := ((Keep.refl l H).new n).same
theorem dx_tup {l p : Addr} {H : Hp} {xs : List V} {ds : List PyData} (n : H p = none) (st : StO H l) (h : Dxs (hid l H) xs ds) : Dx (hid l (L2.upd H p (.tup xs))) (.ref p) (.tuple ds) :=
  .tup (by rw [hid_at (st.ne n)]; exact upd_same) (h.up (hnew n))
theorem dx_lst {l p : Addr} {H : Hp} {xs : List V} {ds : List PyData} (n : H p = none) (z : p ≠ sysModules) (st : StO H l) (h : Dxs (hid l H) xs ds) : Dx (hid l (L2.upd H p (.lst xs))) (.ref p) (.list ds) :=
  .lst (by rw [hid_at (st.ne n)]; exact upd_same) z (h.up (hnew n))
theorem dx_dic1 {l p : Addr} {H : Hp} {x : Str} {i : Int} (n : H p = none) (st : StO H l) : Dx (hid l (L2.upd H p (.dK [(.inr x, .int i)]))) (.ref p) (.dict [(.str x, .int i)]) :=
  .dic1 (by rw [hid_at (st.ne n)]; exact upd_same)
theorem dx_dic {l p : Addr} {H : Hp} (n : H p = none) (st : StO H l) : Dx (hid l (L2.upd H p (.dK []))) (.ref p) (.dict []) :=
  .dic (by rw [hid_at (st.ne n)]; exact upd_same)
end KX

set_option maxRecDepth 100000
set_option maxHeartbeats 4000000
namespace KX
open PySem PySem.Spec PyProof.Rows L2
open PySem.W (AllAlike Sortable EachIs dataLe)
theorem each_pairs {β : Type} {R : Value → β → Prop} : ∀ {us : List Value} {bs : List β}, (us.length = bs.length) → (∀ (i : Nat) u b, us[i]? = some u → bs[i]? = some b → R u b) → EachIs R us bs
  | [], [], _, _ => .nil
  | u :: us, b :: bs, hl, h => .cons (h 0 u b rfl rfl) (each_pairs (by simpa using hl) fun i u b e f => h (i + 1) u b (by simpa using e) (by simpa using f))
  | [], _ :: _, hl, _ => by simp at hl
  | _ :: _, [], hl, _ => by simp at hl
section
variable {X : Cx}
/-- sorted(xs), xs alike data -/
def rSortE {β : Type} (K : PySem.W.Frag) (enc : β → PyData) : List V → Hp → VK → Prop := fun vs H Q => ∃ (a : Addr) (bs : List (V × β)), vs = [.ref a] ∧ SqL K H a (bs.map (·.1)) ∧ (∀ b ∈ bs, Dp K H b.1 (enc b.2)) ∧ AllAlike (bs.map fun b => enc b.2) ∧ Sortable (bs.map fun b => enc b.2) ∧
  (∀ b ∈ bs, (enc b.2).depth ≤ 50) ∧ ∀ p, H p = none → Q (.ref p) (L2.upd H p (.lst ((bs.mergeSort (dataLe false fun b => enc b.2)).map (·.1))))
theorem cr_sortE {β : Type} {enc : β → PyData} {k : Nat} (hr : Room k X.A) : CallR X (.builtin "sorted") (rSortE X.K enc) := by
  intro pins s σ H vs us Q I r h
  obtain ⟨a, bs, e, hS, hd, hal, hk, hu, q⟩ := h
  subst e
  obtain ⟨u, rfl, ru⟩ := vals1 r
  cases ru
  obtain ⟨its, rv, pl, hz⟩ := I.list hS
  have hlen := rv.length
  rw [List.length_map] at hlen hz
  have er : EachIs (fun v (b : V × β) => ∃ as, Reads s.heap v (enc b.2) as) its bs := each_pairs (by omega) fun i u b e f => by
    obtain ⟨u', e', ru⟩ := rv.get (i := i) (x := b.1) (by rw [List.getElem?_map, f]; rfl)
    rw [e] at e'
    cases e'
    exact Dp.reads I (enc b.2) b.1 u (hd b (List.mem_of_getElem? f)) ru
  have eR : EachIs (fun v (b : V × β) => RelV b.1 v) its bs := each_pairs (by omega) fun i u b e f => by
    obtain ⟨u', e', ru⟩ := rv.get (i := i) (x := b.1) (by rw [List.getElem?_map, f]; rfl)
    rw [e] at e'
    cases e'
    exact ru
  have hun := hr.un
  refine PySem.W.sorted_data (enc := fun b : V × β => enc b.2) pl.isList eR er hal hk (by omega) (fun b hb => by have := hu b hb; omega) fun out hl he => ?_
  obtain ⟨c, hc⟩ := PyProof.Rows.sortedAll_at s.heap its out.toArray
  have rel : ∀ {ws : List Value} {ps : List (V × β)}, EachIs (fun v (b : V × β) => RelV b.1 v) ws ps → Vals (ps.map (·.1)) ws := by
    intro ws ps e
    induction e with
    | nil => exact .nil
    | cons h t ih => exact .cons h ih
  have keep : ∀ b o, s.heap.get? b = some o → (PyProof.Rows.sortedAll s.heap its out.toArray).get? b = some o := fun _ _ => PyProof.Rows.sortedAll_old
  refine ⟨.ref (s.heap.objs.size + 1), _, I.laid (t' := s.toks) keep (Nat.le_succ _) (o := .lst ((bs.mergeSort (dataLe false fun b => enc b.2)).map (·.1))) ⟨?_, out, c, rel he, hc⟩, rfl, q _ (I.hok.fresh (Nat.le_succ _))⟩
  rw [List.length_map, List.length_mergeSort]
  omega
end
mutual
/-- without dicts: the layer's own data -/
theorem dp_dx {K : PySem.W.Frag} {H : Hp} : ∀ (d : PyData) (v : V), d.plain = true → Dx H v d → Dp K H v d
  | .none, _, _, h => by cases h; exact .non
  | .bool b, _, _, h => by cases h; exact .bl b
  | .int i, _, _, h => by cases h; exact .int i
  | .str x, _, _, h => by cases h; exact .str x
  | .list ds, _, p, h => by
    cases h with
    | lst e n h => exact .lst (.inl (.inl e)) (dps_dx ds _ (by simpa [PyData.plain] using p) h)
  | .tuple ds, _, p, h => by
    cases h with
    | tup e h => exact .tup (.inl (.inl e)) (dps_dx ds _ (by simpa [PyData.plain] using p) h)
  | .dict ks, _, p, _ => by simp [PyData.plain] at p
theorem dps_dx {K : PySem.W.Frag} {H : Hp} : ∀ (ds : List PyData) (vs : List V), PyData.plainAll ds = true → Dxs H vs ds → DpAll K H vs ds
  | [], _, _, h => by cases h; exact .nil
  | d :: ds, _, p, h => by
    have p' : d.plain = true ∧ PyData.plainAll ds = true := by simpa [PyData.plainAll] using p
    cases h with
    | cons h t => exact .cons (dp_dx d _ p'.1 h) (dps_dx ds _ p'.2 t)
end
end KX

set_option maxRecDepth 100000
set_option maxHeartbeats 4000000
namespace KX
open PySem PySem.Spec PyProof.Rows L2
section
variable {X : Cx}
/-- text * 0, text * 1 -/
theorem op_mul_s : OpR X (binaryOp .Mult) (fun x y H Q => ∃ (z : Str) (n : Int), x = .str z ∧ y = .int n ∧ (n = 0 ∨ n = 1) ∧ Q (.str (if n = 1 then z else "")) H) := by
  intro pins s σ H x y v u Q I rx ry h
  obtain ⟨z, n, rfl, rfl, hn, q⟩ := h
  obtain ⟨t, rfl⟩ := rx
  obtain ⟨t', rfl⟩ := ry
  have ok : MulOk z n := by
    rcases hn with rfl | rfl
    · exact ⟨by decide, fun h => absurd (by decide) h, fun h => absurd (by decide) h⟩
    · exact ⟨by decide, fun _ h => by simp at h, fun _ h => by simp at h⟩
  have e : Txt.mul z n = (if n = 1 then z else "") := by
    rcases hn with rfl | rfl
    · rfl
    · simp [Txt.mul]
  refine SB.mul ok fun t1 k => ?_
  rw [e]
  exact ⟨.str _, H, I.tok _, ⟨_, rfl⟩, q⟩
end
end KX

set_option maxRecDepth 100000
set_option maxHeartbeats 4000000
namespace KX
open PySem PySem.Spec PyProof.Rows L2
section
variable {X : Cx}
/-- t != (), t any tuple -/
def rNe0 (K : PySem.W.Frag) : R2 := fun x y H Q => ∃ a b xs, x = .ref a ∧ y = .ref b ∧ SqT K H a xs ∧ SqT K H b [] ∧ Q (.bl (!xs.isEmpty)) H
theorem op_ne0 (hu : X.A.units < cLine) : OpR X (compareOp .NotEq) (rNe0 X.K) := by
  intro pins s σ H x y v u Q I rx ry h
  obtain ⟨a, b, xs, rfl, rfl, ha, hb, q⟩ := h
  cases rx
  cases ry
  obtain ⟨its, r1, p1, _⟩ := I.tuple ha
  obtain ⟨its2, r2, p2, _⟩ := I.tuple hb
  cases r2
  have e : (!((List.range (min its.toArray.size ([] : List Value).toArray.size)).all (fun _ => true) && its.toArray.size == ([] : List Value).toArray.size)) = !xs.isEmpty := by
    have := r1.length
    cases xs with
    | nil =>
      cases its with
      | nil => rfl
      | cons _ _ => simp at this
    | cons _ _ =>
      cases its with
      | nil => simp at this
      | cons _ _ => simp
  refine SeqAt.RcNeAt.tuples (e := fun _ => true) p1 p2 hu (fun j h1 h2 => absurd h2 (by simp)) X.prog X.w X.xe (EP X pins σ Q) ?_
  rw [e]
  exact ⟨.bl _, H, I, rfl, q⟩
end
/-! ### tuples of data, whatever object holds them -/
def cutD (ds : List PyData) (lo hi : Option Int) : List PyData := (ds.drop (HT.sIx ds.length 0 lo)).take (HT.sIx ds.length ds.length hi - HT.sIx ds.length 0 lo)
theorem cutD_to (ds : List PyData) (k : Nat) : cutD ds none (some (k : Int)) = ds.take k := by
  unfold cutD
  rw [HT.sIx_none, HT.sIx_nat, List.drop_zero, Nat.sub_zero]
  by_cases h : k ≤ ds.length
  · rw [Nat.min_eq_left h]
  · rw [Nat.min_eq_right (by omega), List.take_length, List.take_of_length_le (by omega)]
theorem cutD_from (ds : List PyData) (k : Nat) : cutD ds (some (k : Int)) none = ds.drop k := by
  unfold cutD
  rw [HT.sIx_none, HT.sIx_nat]
  by_cases h : k ≤ ds.length
  · rw [Nat.min_eq_left h]
    exact List.take_of_length_le (by rw [List.length_drop]; exact Nat.le_refl _)
  · rw [Nat.min_eq_right (by omega), Nat.sub_self, List.take_zero, List.drop_of_length_le (by omega)]
theorem cutD_one (ds : List PyData) (k : Nat) : cutD ds (some (k : Int)) (some ((k : Int) + 1)) = (ds.drop k).take 1 := by
  unfold cutD
  rw [show ((k : Int) + 1) = ((k + 1 : Nat) : Int) by omega, HT.sIx_nat, HT.sIx_nat]
  by_cases h : k < ds.length
  · rw [Nat.min_eq_left (by omega), Nat.min_eq_left (by omega), Nat.add_sub_cancel_left]
  · rw [Nat.min_eq_right (by omega), Nat.min_eq_right (by omega), Nat.sub_self, List.take_zero, List.drop_of_length_le (by omega)]
    rfl
theorem dxs_cut {H : Hp} {xs : List V} {ds : List PyData} (h : Dxs H xs ds) (lo hi : Option Int) : Dxs H (cutV xs lo hi) (cutD ds lo hi) := by
  unfold cutV cutD
  rw [h.len]
  exact (h.drop _).take _
theorem dx_sqT {K : PySem.W.Frag} {H : Hp} {l a : Addr} {ds : List PyData} (h : Dx (hid l H) (.ref a) (.tuple ds)) : ∃ xs, SqT K H a xs ∧ Dxs (hid l H) xs ds := by
  cases h with
  | @tup a xs _ e h => exact ⟨xs, .inl (.inl (hid_some e).2), h⟩
theorem dx_tupOf {H : Hp} {l : Addr} {v : V} {ds : List PyData} (h : Dx (hid l H) v (.tuple ds)) : ∃ a xs, v = .ref a ∧ a ≠ l ∧ H a = some (.tup xs) ∧ Dxs (hid l H) xs ds := by
  cases h with
  | @tup a xs _ e h => exact ⟨a, xs, rfl, (hid_some e).1, (hid_some e).2, h⟩
section
variable {K : PySem.W.Frag} {H : Hp} {l a b : Addr} {ds es : List PyData} {Q : VK}
theorem sl_of {lo hi : Option Int} {v : V} (hd : Dx (hid l H) v (.tuple ds)) (st : StO H l) (q : ∀ H' p, Keep l H H' → StO H' l → Dx (hid l H') (.ref p) (.tuple (cutD ds lo hi)) → Q (.ref p) H') : rSlA K v lo hi H Q := by
  obtain ⟨a, xs, rfl, na, ea, h⟩ := dx_tupOf hd
  refine ⟨a, xs, rfl, .inl (.inl ea), fun hw => q H a (Keep.refl l H) st ?_, fun _ p np => q _ p ((Keep.refl l H).new np) (st.new np) (dx_tup np st (dxs_cut h lo hi))⟩
  have : cutD ds lo hi = ds := by
    unfold cutD
    rw [← h.len, hw.1, hw.2, List.drop_zero, Nat.sub_zero, List.take_of_length_le (by rw [h.len]; exact Nat.le_refl _)]
  rw [this]
  exact hd
theorem cat_of {v u : V} (hd : Dx (hid l H) v (.tuple ds)) (he : Dx (hid l H) u (.tuple es)) (st : StO H l) (hz : ds.length + es.length ≤ sizeLine)
    (q : ∀ H' p, Keep l H H' → StO H' l → Dx (hid l H') (.ref p) (.tuple (ds ++ es)) → Q (.ref p) H') : rCatA K v u H Q := by
  obtain ⟨a, xs, rfl, na, ea, h⟩ := dx_tupOf hd
  obtain ⟨b, ys, rfl, nb, eb, h2⟩ := dx_tupOf he
  have l1 := h.len
  have l2 := h2.len
  refine ⟨a, b, xs, ys, rfl, rfl, .inl (.inl ea), .inl (.inl eb), by omega, fun z => ?_, fun _ z => ?_, fun _ _ p np => q _ p ((Keep.refl l H).new np) (st.new np) (dx_tup np st (h.app h2))⟩
  · subst z
    have : ds = [] := List.eq_nil_of_length_eq_zero (by simpa using l1.symm)
    subst this
    exact q H b (Keep.refl l H) st he
  · subst z
    have : es = [] := List.eq_nil_of_length_eq_zero (by simpa using l2.symm)
    subst this
    rw [List.append_nil] at q
    exact q H a (Keep.refl l H) st hd
end
end KX

set_option maxRecDepth 100000
set_option maxHeartbeats 4000000
namespace KX
open PySem PySem.Spec PyProof.Rows L2
/-! ### expressions that make data -/
def tD (d : PyData) : TE := fun _ H Q => ∀ H' v, Same H H' → Dx H' v d → Q v H'
def tDs (ds : List PyData) : TA := fun _ H Q => ∀ H' vs, Same H H' → Dxs H' vs ds → Q vs H'
/-- a new list of data -/
def tL (ds : List PyData) : TE := fun _ H Q => ∀ H' p xs, Same H H' → H p = none → H' p = some (.lst xs) → Dxs H' xs ds → Q (.ref p) H'
section
variable {X : Cx} {e : Expr} {es : List Expr} {pos : Pos} {d : PyData} {ds : List PyData}
theorem PE.imp {t t' : TE} (h : PE X e t) (i : ∀ σ H Q, t' σ H Q → t σ H Q) : PE X e t' := ⟨fun pins s σ H Q I q => h.run pins s σ H Q I (i σ H Q q)⟩
theorem PA.imp {t t' : TA} (h : PA X es t) (i : ∀ σ H Q, t' σ H Q → t σ H Q) : PA X es t' := ⟨fun pos pins s σ H Q I q => h.run pos pins s σ H Q I (i σ H Q q)⟩
theorem pd_int {i : Int} {j} : PE X (.Constant (.int i) j pos) (tD (.int i)) := PE.imp pe_int fun _ H Q q => q H _ (Same.refl H) (.int i)
theorem pd_str {x : Str} {j} : PE X (.Constant (.str x) j pos) (tD (.str x)) := PE.imp pe_str fun _ H Q q => q H _ (Same.refl H) (.str x)
theorem pd_bl {b : Bool} {j} : PE X (.Constant (.bool b) j pos) (tD (.bool b)) := PE.imp pe_bl fun _ H Q q => q H _ (Same.refl H) (.bl b)
theorem pd_val {t : TE} {i : Int} (h : PE X e t) (hv : ∀ (σ : L2.St) (H : Hp) (Q : VK), Q (.int i) H → t σ H Q) : PE X e (tD (.int i)) := PE.imp h fun σ H Q q => hv σ H Q (q H _ (Same.refl H) (.int i))
theorem pd_nil : PA X [] (tDs []) := PA.imp pa_nil fun _ H Q q => q H _ (Same.refl H) .nil
theorem pd_cons (h : PE X e (tD d)) (t : PA X es (tDs ds)) (hs : starEach (e :: es) X.env = (false, eval e X.env) :: starEach es X.env := by rfl) : PA X (e :: es) (tDs (d :: ds)) :=
  PA.imp (pa_cons h t hs) fun _ H Q q H1 v s1 dv H2 vs s2 dvs => q H2 (v :: vs) (s1.trans s2) (.cons (dv.up s2) dvs)
theorem pd_tup {x1} (h : PA X es (tDs ds)) (hz : ds.length ≤ sizeLine := by decide) : PE X (.Tuple es x1 pos) (tD (.tuple ds)) :=
  PE.imp (pe_tup h) fun _ H Q q H1 vs s1 dvs => ⟨by rw [dvs.len]; exact hz, fun p np => q _ _ (s1.trans fun b x e => by rw [upd_ne (ne_of_none e np)]; exact e) (.tup upd_same (dvs.up fun b x e => by rw [upd_ne (ne_of_none e np)]; exact e))⟩
theorem pd_lstS (h : PA X es (tDs ds)) (hz : ds.length ≤ sizeLine := by decide) : PE X (.List es pos) (tD (.list ds)) :=
  PE.imp (pe_lstS h) fun _ H Q q H1 vs s1 dvs => ⟨by rw [dvs.len]; exact hz, fun p np zp => q _ _ (s1.trans fun b x e => by rw [upd_ne (ne_of_none e np)]; exact e) (.lst upd_same zp (dvs.up fun b x e => by rw [upd_ne (ne_of_none e np)]; exact e))⟩
theorem pd_lst (h : PA X es (tDs ds)) (hz : ds.length ≤ sizeLine := by decide) : PE X (.List es pos) (tL ds) :=
  PE.imp (pe_lst h) fun _ H Q q H1 vs s1 dvs => ⟨by rw [dvs.len]; exact hz, fun p np => q _ p vs (s1.trans fun b x e => by rw [upd_ne (ne_of_none e np)]; exact e) (s1.free np) upd_same (dvs.up fun b x e => by rw [upd_ne (ne_of_none e np)]; exact e)⟩
theorem dxs_rep {H : Hp} {xs : List V} {es : List PyData} (h : Dxs H xs es) : ∀ n : Nat, Dxs H (List.replicate n xs).flatten (List.replicate n es).flatten
  | 0 => .nil
  | n + 1 => by
    rw [List.replicate_succ, List.replicate_succ, List.flatten_cons, List.flatten_cons]
    exact h.app (dxs_rep h n)
/-- t * k -/
theorem pd_rep {b : Expr} {k : Int} {tb : TE} (h : PE X e (tD (.tuple ds))) (hb : PE X b tb) (hk : ∀ (σ : L2.St) (H : Hp) (Q : VK), Q (.int k) H → tb σ H Q) (k2 : 2 ≤ k) (k1 : k ≤ 1000) (hn : ds ≠ []) (hz : ds.length ≤ 1000) :
    PE X (.BinOp e .Mult b pos) (tD (.tuple (List.replicate k.toNat ds).flatten)) :=
  PE.imp (pe_op op_repT h hb) fun σ H Q q H1 v s1 dv => hk σ H1 _ (by
    cases dv with
    | @tup a xs _ ea hx =>
      have hl := hx.len
      refine ⟨a, k, xs, rfl, rfl, .inl (.inl ea), ?_, k2, k1, by omega, fun p np => q _ _ (s1.trans fun b x e => by rw [upd_ne (ne_of_none e np)]; exact e) (.tup upd_same ((dxs_rep hx k.toNat).up fun b x e => by rw [upd_ne (ne_of_none e np)]; exact e))⟩
      intro z
      subst z
      exact hn (List.eq_nil_of_length_eq_zero (by simpa using hl.symm)))
end
end KX

set_option maxRecDepth 100000
set_option maxHeartbeats 4000000
/-! an own exception class right over a built-in one, whose __init__ says B.__init__(self, x) and then stores -/
namespace KX
open PySem PySem.Spec PyProof.Rows L2
/-- what the library knows of the built-in class B -/
structure XB (B newI iniI : String) (tl : List Value) : Prop where
  fb : PySem.ExcBaseFacts B newI iniI tl
  sf : PySem.StoreFacts B tl "object.__setattr__" "object"
/-- what the written part says of the class at C -/
structure XC (K : PySem.W.Frag) (B newI iniI : String) (tl : List Value) (C : Addr) : Prop where
  b : XB B newI iniI tl
  ini : PySem.W.excInitIn K C tl newI = true
  ovr : PySem.W.excOver K C tl = true
  sa : PySem.W.findIn K (.ref C) "__setattr__" = some (some (.builtin "object.__setattr__"))
  hd : PySem.W.hasDictIn K C = true
  sub : PySem.W.subIn K (.ref C) (.type "BaseException") = some true
  ty : PySem.W.typeIn K (.ref C) = some (.type "type")
  kp : PySem.W.keepIn K (.ref C) = true
section
open PySem.W PySem.Calls PySem.HandSPX Builtin Builtin.ObjectAttr
variable {prog : Program} {w : World} {A : Around} {E : Value → Shared → Prop} {R : Result → Shared → Prop} {hp : Heap} {g : Array GenState} {d : Drawn} {t : Nat} {os : OsState}
/-- the first store into such an exception -/
theorem osa_first {K : PySem.W.Frag} {nm : Str} {tk : Tok} {v : Value} {x C : Addr} {fv : Array Value} {B newI iniI : String} {tl : List Value} (T : XC K B newI iniI tl C)
    (X : K.In hp) (hx : hp.get? x = some { cls := .ref C, data := .fields fv }) (ha : PySem.W.findIn K (.ref C) nm = some none)
    (done : ∀ h2 tk2 dx, (∀ b o, b ≠ x → hp.get? b = some o → h2.get? b = some o) → hp.objs.size ≤ dx → dx ≠ x → h2.get? x = some { cls := .ref C, dict := some dx, data := .fields fv } →
      h2.Ns1 dx (fun y => if y = nm then some v else none) → R (.ok (.ret .none)) ⟨h2, g, d, tk2, os⟩) :
    codeAny (model prog w) A (.call (.builtin "object.__setattr__") ⟨[.ref x, .str nm tk, v], []⟩) R ⟨hp, g, d, t, os⟩ := by
  have tkr : PySem.W.takerIn K C nm = some none := by unfold PySem.W.takerIn; rw [ha]; rfl
  refine PySem.W.osa_openX (s := ⟨hp, g, d, t, os⟩) (od := none) T.b.sf X ⟨hx, rfl, rfl, trivial⟩ T.ovr tkr fun b => ?_
  obtain ⟨cd, hc, hdd⟩ := PySem.W.any_some T.hd
  have hcls : PySem.W.Looks (model prog w) hp (classData C) cd := PySem.W.looks_clsIn X hc
  have far : x ≠ hp.objs.size := Nat.ne_of_lt (Heap.lt_size hx)
  obtain ⟨nm', bs, mro, ns, qn, hd', sn, sb, ab, col, del⟩ := cd
  dsimp only at hdd
  subst hdd
  dsimp only
  unfold storeInOwnDict ownDictForStores
  repeat (first | with_reducible refine store_in_new ?_ ?_ | with_reducible refine wpAny_loadPart_at hx ?_ | with_reducible refine hcls.at ?_ | wp_step)
  · exact ⟨_, #[], _, (Heap.get?_update_ne _ _ _ _ far.symm).trans (Heap.get?_push_at rfl rfl), rfl, fun e he => absurd he (by simp), fun _ => rfl⟩
  · intro h2 tk2 hn2 hs
    have hx1 : (hp.push { cls := .type "dict", data := .dict #[] }).get? x = some { cls := .ref C, data := .fields fv } := Heap.get?_push_of_some _ hx
    refine done h2 tk2 hp.objs.size (fun b o hb ho => ?_) (Nat.le_refl _) far.symm ?_ hn2
    · have z := Heap.get?_push_of_some { cls := .type "dict", data := .dict #[] } ho
      exact (hs.2 b (Nat.ne_of_lt (Heap.lt_size ho))).trans ((Heap.get?_update_ne _ _ _ _ hb).trans z)
    · have z := Heap.get?_update_self (fun o => { o with dict := some hp.objs.size }) hx1 rfl
      exact (hs.2 x far).trans z
end
section
variable {X : Cx} {pins : List (Addr × Obj)} {σ : L2.St} {H : Hp} {s : Shared} {a C dx : Addr} {f : Str} {y : V} {u : Value} {E : Value → Shared → Prop} {A : Around} {B newI iniI : String} {tl : List Value}
/-- self.f = y, the first store -/
theorem store_first {Q : Unit → Shared → Prop} (T : XC X.K B newI iniI tl C) (I : Inv X pins σ H s) (e : H a = some (exo a C none)) (hno : PySem.W.findIn X.K (.ref C) f = some none) (ry : RelV y u)
    (go : ∀ dx s2, H dx = none → dx ≠ a → Inv X pins σ (upd (upd H dx (exd dx [(f, y)])) a (exo a C (some dx))) s2 → Q () s2) :
    wpAny (model X.prog X.w) A (setAttr (.ref a) f u) Q E s := by
  obtain ⟨t1, ho⟩ := exo_at I.hok e
  obtain ⟨hp, g, d, t, os⟩ := s
  refine PySem.W.set_plain I.kIn (ox := { cls := .ref C, dict := none, data := .fields #[.ref t1, .none, .none, .none, .bool false, .none] })
    (od := none) ⟨ho, rfl, rfl, trivial⟩ T.sa (osa_first T I.kIn ho hno (fun h2 tk2 dx k dn dne hx hn => ?_))
  have hnd : H dx = none := I.hok.fresh dn
  have new : ∀ {b : Addr} {o : Obj}, hp.get? b = some o → b ≠ dx := fun {b o} q => Nat.ne_of_lt (Nat.lt_of_lt_of_le (Heap.lt_size q) dn)
  have notA : ∀ {b : Addr}, H b = none → b ≠ a := fun {b} n z => by
    rw [z, e] at n
    cases n
  have U : Un X.fs [] H (upd (upd H dx (exd dx [(f, y)])) a (exo a C (some dx))) hp h2 := {
    keep := fun b o q n _ _ => k b o (notA n) q
    slot := fun b o q n _ _ => ⟨o.slots, k b o (notA n) q⟩
    free := fun b o q n _ => by rw [upd_ne (notA n), upd_ne (new q)]; exact n
    there := fun b o q _ => by
      by_cases hb : b = a
      · exact ⟨_, by rw [hb]; exact hx⟩
      · exact ⟨o, k b o hb q⟩
    tups := fun b xs q => by rw [upd_ne (at_ne e q exo_tup), upd_ne (ne_of_none q hnd)]; exact q
    frzs := fun b o v q => by rw [upd_ne (at_ne e q exo_frz), upd_ne (ne_of_none q hnd)]; exact q
    tbls := fun b ps q => ⟨#[], by rw [upd_ne (at_ne e q exo_tbl), upd_ne (ne_of_none q hnd), q]; simp⟩ }
  refine go dx _ hnd dne (I.un (t' := tk2) U fun b o q => ?_)
  by_cases hb : b = a
  · subst hb
    rw [upd_same] at q
    cases q
    exact exo_ok hx
  · rw [upd_ne hb] at q
    by_cases hd : b = dx
    · subst hd
      rw [upd_same] at q
      cases q
      exact exd_ok hn (relO_put (fs := []) ry fun g => True.intro)
    · rw [upd_ne hd] at q
      refine (I.hok b o q).stay (fun c v hc z => k c v ?_ z) (fun c hc => ?_) (fun c xs hc => ?_)
      · rcases hc with hc | hc
        · rw [hc]
          exact hb
        · exact at_ne e hc exo_own
      · rw [upd_ne (at_ne e hc exo_own), upd_ne (ne_of_none hc hnd)]
        exact hc
      · rw [upd_ne (at_ne e hc exo_tup), upd_ne (ne_of_none hc hnd)]
        exact hc
/-- B.__init__(self, ..): nothing of it is told -/
theorem init_told {us : List Value} {Q : Value → Shared → Prop} (T : XC X.K B newI iniI tl C) (I : Inv X pins σ H s) (e : H a = some (exo a C none)) (hl : us.length ≤ sizeLine) (go : ∀ s2, Inv X pins σ H s2 → Q .none s2) :
    wpAny (model X.prog X.w) A (call (.builtin iniI) (.ref a :: us)) Q E s := by
  obtain ⟨nm, N, qn, bs, bm, hdct, sn, sub, ab, col, dd, k0, k1, k2, k3, k5, hC, hT⟩ := PySem.W.excInit_of I.kIn T.ini
  obtain ⟨t1, ho⟩ := exo_at I.hok e
  obtain ⟨hp, g, d, t, os⟩ := s
  refine wpAny_call (PySem.HandSPX.init_base T.b.fb hT hC ho hl fun h2 t2 k hx => go _ ?_)
  have J := I.write (t' := t) (x := a) (e := a) (o := exo a C none) (by rw [e]; exact True.intro) (.inl rfl) k ⟨_, hx⟩ (exo_ok hx)
  have same : upd H a (exo a C none) = H := by
    funext b
    by_cases hb : b = a
    · rw [hb, upd_same, e]
    · rw [upd_ne hb]
  rw [same] at J
  exact J
end
/-- B.__init__(self, ..) -/
def tBini (K : PySem.W.Frag) (B newI iniI : String) (tl : List Value) (ta : TA) : TE := fun σ H Q => ta σ H fun vs H1 =>
  ∃ (a C : Addr) (ws : List V), vs = .ref a :: ws ∧ ws.length ≤ 1000 ∧ XC K B newI iniI tl C ∧ H1 a = some (exo a C none) ∧ Q .non H1
/-- self.f = e, the first store -/
def tFst (K : PySem.W.Frag) (B newI iniI : String) (tl : List Value) (f : Str) (to te : TE) : TS := fun D σ H => te σ H fun y H1 => to σ H1 fun x H2 =>
  ∃ a C : Addr, x = .ref a ∧ XC K B newI iniI tl C ∧ PySem.W.findIn K (.ref C) f = some none ∧ H2 a = some (exo a C none) ∧
    ∀ dx, H2 dx = none → dx ≠ a → D.nx σ (upd (upd H2 dx (exd dx [(f, y)])) a (exo a C (some dx)))
section
variable {X : Cx} {o e : Expr} {es : List Expr} {to te : TE} {ta : TA} {f : Str} {p p' p1 p2 pos : Pos} {B newI iniI : String} {tl : List Value}
theorem ps_fst (ho : PE X o to) (he : PE X e te) (hs : swapsWith e (some (.Attribute o f p')) pos.line X.env = pure false := by rfl) : PS X (.Assign [.Attribute o f p'] e pos) (tFst X.K B newI iniI tl f to te) := by
  refine ⟨fun pins s σ H D I h => ?_⟩
  refine plainObj_wpAny_Assign_Attribute (thn (he.run pins s σ H _ I h) fun v s1 z1 => ?_) hs
  obtain ⟨y, H1, I1, r1, q1⟩ := z1
  refine thn (ho.run pins s1 σ H1 _ I1 q1) fun u s2 z2 => ?_
  obtain ⟨x, H2, I2, r2, a, C, ex, T, hno, ea, q⟩ := z2
  subst ex
  obtain rfl : u = Value.ref a := r2
  exact store_first T I2 ea hno r1 fun dx s3 n ne J => ⟨σ, _, J, q dx n ne⟩
theorem pe_bini {pl : Sem Bool} (hg : Gl X "IndexError") (hm : X.mg "IndexError" = none) (vV : PySem.W.findCls X.K (.type "IndexError") (.type "type") "__init__" = some (.val (.builtin "IndexError.__init__"))) (ha : PA X (e :: es) ta)
    (hc : eval (.Call (.Attribute (.Name "IndexError" p1) "__init__" p2) (e :: es) [] pos) X.env = (do
      let cv ← eval (.Name "IndexError" p1) X.env
      standAt p2.atName
      let (fn, ahead) ← holding [cv] (getMethod cv "__init__" pl)
      callWith pos fn ahead (backTo pos (starEach (e :: es) X.env)) (backToKw pos (keywordEach [] X.env))) := by rfl)
    (he : starEach (e :: es) X.env = (false, eval e X.env) :: starEach es X.env := by rfl) (hpl : (backTo pos (starEach es X.env)).any (·.1) = false := by rfl) :
    PE X (.Call (.Attribute (.Name "IndexError" p1) "__init__" p2) (e :: es) [] pos) (tBini X.K "IndexError" newI "IndexError.__init__" tl ta) := by
  refine ⟨fun pins s σ H Q I h => ?_⟩
  have ty : typeOf (.type "IndexError") = pure (.type "type") := by kernel_rfl
  refine PySem.W.methodCall_KW (ld_blt I hg hm PyProof.Rows.Boot.«IndexError» ?_ (by decide) (by decide)) hc
  obtain ⟨m, fr⟩ := I.fr
  refine PySem.W.method_type fr I.ok.mod.kin ty (by decide +kernel) vV (by decide +kernel) ?_
  show wpAny _ _ (callWith pos (Value.builtin "IndexError.__init__") [] (backTo pos (starEach (e :: es) X.env)) []) _ _ _
  refine PyProof.Rows.callWith_method1 (thn (ha.run pos pins _ σ H _ (I.tok _) h) fun us s1 z => ?_) he hpl
  obtain ⟨vs, H1, I1, r1, a, C, ws, ev, hl, T, ea, q⟩ := z
  subst ev
  cases r1 with
  | @cons _ u0 _ ur ra rw' =>
    obtain rfl : u0 = Value.ref a := ra
    have hlen : ur.length ≤ sizeLine := by
      rw [← Paired.length rw', sizeLine_eq]
      omega
    exact init_told T I1 ea hlen fun s2 J => ⟨.non, H1, J, rfl, q⟩
/-- C(e, ..) -/
theorem pmk_x {CX : CXT} {x : Str} {C fI : Addr} {k : Nat} {fd : FuncData} {ps : List Str} {sp : Sp} (T : XC X.K B newI iniI tl C) (iC : PySem.W.findIn X.K (.ref C) "__init__" = some (some (.ref fI)))
    (tI : PySem.W.typeIn X.K (.ref fI) = some (.type "function")) (F1 : FnOk X.prog X.w X.K X.mg X.base CX k fI fd ps sp) (hr : Room (k + 1) X.A) (hb : Binds X.K fd ps []) (hx : Passes CX X (fun _ _ _ => False)) (hg : Gl X x)
    (hm : X.mg x = some (.ref C)) (ha : PA X (e :: es) ta) (hdb : (x == ("__debug__" : Str)) = false := by decide) (he : starEach (e :: es) X.env = (false, eval e X.env) :: starEach es X.env := by rfl)
    (hpl : (backTo pos (starEach es X.env)).any (·.1) = false := by rfl) : PMk X (.Call (.Name x p) (e :: es) [] pos) (tMkO C sp [] ta) := by
  intro pins s σ H Q I h
  obtain ⟨nm, N, qn, bs, bm, hdct, sn, sub, ab, col, dd, k0, k1, k2, k3, k5, hC, hT⟩ := PySem.W.excInit_of I.kIn T.ini
  refine wpAny_Call_Name_kw (ld_glob I hg hm ?_ hdb)
  refine PySem.W.callWith_K (h₀ := X.base) I.ok.mod.kin T.kp (thn (ha.run pos pins s σ H _ I h) fun us s1 z => ?_) he hpl
  obtain ⟨vs, H1, I1, r1, hz, q1⟩ := z
  have X1 := I1.kIn
  refine ⟨X1, ?_⟩
  obtain ⟨nm, N, qn, bs, bm, hdct, sn, sub, ab, col, dd, k0, k1, k2, k3, k5, hC, hT⟩ := PySem.W.excInit_of X1 T.ini
  show wpAny _ _ (call (.ref C) us) _ _ _
  obtain ⟨hp, g, dr, tk, os⟩ := s1
  have up : hp.objs.size ≤ hp.objs.size + 1 := Nat.le_succ _
  have hq := q1 (hp.objs.size + 1) (I1.hok.fresh up)
  have kk : ∀ b o, hp.get? b = some o → ((hp.push (PySem.W.kdv_tup us)).push (PySem.HandSPX.excO C hp.objs.size)).get? b = some o :=
    fun b o e => Heap.get?_push_of_some _ (Heap.get?_push_of_some _ e)
  have hget : ((hp.push (PySem.W.kdv_tup us)).push (PySem.HandSPX.excO C hp.objs.size)).get? (hp.objs.size + 1) = some (PySem.HandSPX.excO C hp.objs.size) := by heap_get
  have I2 : Inv X pins σ (upd H1 (hp.objs.size + 1) (exo (hp.objs.size + 1) C none)) ⟨(hp.push (PySem.W.kdv_tup us)).push (PySem.HandSPX.excO C hp.objs.size), g, dr, tk, os⟩ :=
    I1.laid (t' := tk) (a := hp.objs.size + 1) (o := exo (hp.objs.size + 1) C none) (h' := (hp.push (PySem.W.kdv_tup us)).push (PySem.HandSPX.excO C hp.objs.size)) kk up (exo_ok hget)
  have r2 : Vals (V.ref (hp.objs.size + 1) :: (vs ++ [])) (Value.ref (hp.objs.size + 1) :: us) := .cons rfl (by rw [List.append_nil]; exact r1)
  have hl : (Value.ref (hp.objs.size + 1) :: us).length = ps.length := by
    rw [← r2.length]
    exact F1.len _ _ _ _ hq
  have hus : us.length ≤ sizeLine := by
    rw [← Paired.length r1, sizeLine_eq]
    omega
  have hbd := hb ⟨(hp.push (PySem.W.kdv_tup us)).push (PySem.HandSPX.excO C hp.objs.size), g, dr, tk, os⟩ (Value.ref (hp.objs.size + 1) :: us) I2.kIn (by rw [List.append_nil]; exact hl)
  rw [List.append_nil] at hbd
  have go := F1.run _ X.stack _ _ ⟨Value.ref (hp.objs.size + 1) :: us, []⟩ (Value.ref (hp.objs.size + 1) :: us) _ _ (fun _ _ _ => False) (hr.make C us []) (I2.env0.make C us []) hbd r2 hq
  refine wpAny_call (PySem.HandSPX.call_own T.b.fb hT hC (PySem.W.looks_findIn X1 iC) (fun self => PySem.W.bind_fn X1 self tI) hus (codeAny_mono go fun r s2 z => ?_))
  cases r with
  | error er => exact hx pins σ _ _ er s2 I2 z
  | ok fl =>
    cases fl with
    | ret u =>
      obtain ⟨v, H2, os2, bare2, un2, hok2, rv, ev, d, fs, ea, ed, hd1, q2⟩ := z
      subst ev
      obtain ⟨h2, g2, d2, t2, os'⟩ := s2
      exact ⟨rv, mk_end (raises_own T.sub T.ty) I1 up kk un2 hok2 os2 bare2 ea ed hd1 q2⟩
    | next => exact False.elim z
    | brk => exact False.elim z
    | cont => exact False.elim z
end
end KX

set_option maxRecDepth 100000
set_option maxHeartbeats 4000000
namespace KX
open PySem PySem.Spec PyProof.Rows L2
/-- isinstance(e, T), isinstance(e, (T, U)): e the exception that the suite holds, an instance of a class of the program with fields of its own -/
structure XI (K : PySem.W.Frag) (C : Addr) : Prop where
  ga : PySem.W.findIn K (.ref C) "__getattribute__" = some (some (.builtin "BaseException.__getattribute__"))
  gg : PySem.W.findIn K (.ref C) "__getattr__" = some none
  sub : PySem.W.subIn K (.ref C) (.type "BaseException") = some true
  hd : PySem.W.hasDictIn K C = true
  hcl : PySem.W.findIn K (.ref C) "__class__" = some (some (.builtin "object.__class__"))
  sp : PySem.W.specialIn K (.builtin "object.__class__") "__get__" = some (some (.builtin "getset_descriptor.__get__"))
  tk : PySem.W.takesIn K (.builtin "object.__class__") = some true
  mro : PySem.W.mroIn K C (.type "object") = some true
theorem XI.xf {K : PySem.W.Frag} {C : Addr} (T : XI K C) : XfC K C := ⟨T.ga, T.gg, T.sub, T.hd⟩
def rIsX (K : PySem.W.Frag) (a : Addr) (cls : Value) (d : Option Addr) : List V → Hp → VK → Prop := fun xs H Q =>
  ∃ (C dd : Addr) (fs : List (Str × V)) (c : V) (b : Bool), XI K C ∧ cls = .ref C ∧ d = some dd ∧ H dd = some (.xd fs) ∧ xs = [.ref a, c] ∧
    ((∃ cv, (∀ u, RelV c u → u = cv) ∧ PySem.W.kitOne K (.ref C) cv = some b) ∨
      ∃ (tp : Addr) (ys : List V) (its : List Value), c = .ref tp ∧ H tp = some (.tup ys) ∧ (∀ us, Vals ys us → us = its) ∧ PySem.W.kitAny K (.ref C) its = some b) ∧ Q (.bl b) H
theorem call_isX {X : Cx} {a : Addr} {oe : Obj} {cls : Value} {d : Option Addr} {pn : List (Addr × Obj)} (hz : Zc cls d oe) (hf : ∃ vs, oe.data = .fields vs) :
    CallR (X.suite a ((a, oe) :: pn)) (.builtin "isinstance") (rIsX X.K a cls d) := by
  intro pins s σ H xs us Q I r h
  obtain ⟨C, dd, fs, c, b, T, ec, ed, eH, rfl, hc, q⟩ := h
  subst ec ed
  obtain ⟨hget, _⟩ := I.pin (a, oe) (List.mem_append.mpr (.inl List.mem_cons_self))
  obtain ⟨vs, hv⟩ := hf
  have hx : ObjOk X.prog X.w H s.heap dd (.xd fs) := I.hok dd _ eH
  obtain ⟨mA, hns, _⟩ := hx
  obtain ⟨od, ho, _⟩ := lookIn_ns hns
  have J : PySem.W.InstAt s.heap a oe C (some od) := ⟨hget, hz.1, by unfold PySem.W.notCls; rw [hv] <;> rfl, by rw [hz.2]; exact ho⟩
  have hcl : (PySem.W.clsIn X.K C).isSome = true := by
    obtain ⟨cd, hc, _⟩ := PySem.W.any_some T.hd
    rw [hc]; rfl
  have Z : PySem.W.KitX X.K (.ref a) (.ref C) (fun h => PySem.W.InstAt h a oe C (some od)) := PySem.W.kitx_exc hcl T.ga T.gg T.sub T.hcl T.sp T.tk T.mro
  obtain ⟨u, rfl, ru, uc, rc⟩ : ∃ u2, us = [.ref a, u2] ∧ RelV c u2 ∧ True ∧ True := by
    cases r with
    | cons r1 r2 =>
      cases r2 with
      | cons r3 r4 =>
        cases r4
        cases r1
        exact ⟨_, rfl, r3, trivial, trivial⟩
  rcases hc with ⟨cv, hcv, e⟩ | ⟨tp, ys, its, rfl, hH, hits, e⟩
  · have eu := hcv _ ru
    subst eu
    exact PySem.W.kia_one Z I.kIn J e (fun z => nomatch z) fun tk => ⟨.bl b, H, I.kept (t' := tk) fun _ _ z => z, rfl, q⟩
  · obtain rfl : u = Value.ref tp := ru
    obtain ⟨_, us2, r2, o, h1, h2, n, h3⟩ := (show ObjOk X.prog X.w H s.heap tp (.tup ys) from I.hok tp _ hH)
    have eu := hits us2 r2
    subst eu
    obtain ⟨oc, od2, oda, osl⟩ := o
    dsimp only at h2 h3
    subst h2 h3
    exact PySem.W.kia_tup Z I.kIn J h1 e (fun z => nomatch z) fun tk => ⟨.bl b, H, I.kept (t' := tk) fun _ _ z => z, rfl, q⟩
end KX

set_option maxRecDepth 100000
set_option maxHeartbeats 4000000
namespace KX
open PySem PySem.Spec PyProof.Rows L2
section
variable {X : Cx}
/-- x in t, x not in t: t a tuple of data, x data, no dicts -/
def rInT (K : PySem.W.Frag) (f : Bool → Bool) : R2 := fun x y H Q => ∃ d ds, Dp K H x d ∧ Dp K H y (.tuple ds) ∧ d.plain = true ∧ PyData.plainAll ds = true ∧ PyData.depthAll ds ≤ 60 ∧ Q (.bl (f (ds.any fun z => PyData.eqv z d))) H
theorem op_inTD (hu : X.A.units + 64 < cLine) : OpR X (compareOp .In) (rInT X.K id) := by
  intro pins s σ H x y v u Q I rx ry h
  obtain ⟨d, ds, hd, he, pd, pe, hm, q⟩ := h
  obtain ⟨as, r1⟩ := Dp.reads I d x v hd rx
  obtain ⟨bs, r2⟩ := Dp.reads I (.tuple ds) y u he ry
  exact SeqAt.in_tuple_data r2 r1 pe pd (by omega) ⟨.bl _, H, I, rfl, q⟩
theorem op_ninTD (hu : X.A.units + 64 < cLine) : OpR X (compareOp .NotIn) (rInT X.K not) := by
  intro pins s σ H x y v u Q I rx ry h
  obtain ⟨d, ds, hd, he, pd, pe, hm, q⟩ := h
  obtain ⟨as, r1⟩ := Dp.reads I d x v hd rx
  obtain ⟨bs, r2⟩ := Dp.reads I (.tuple ds) y u he ry
  exact SeqAt.notIn_tuple_data r2 r1 pe pd (by omega) ⟨.bl _, H, I, rfl, q⟩
/-- len(s), s a set of numbers -/
theorem call_lenZ : CallR X (.builtin "len") (fun xs H Q => ∃ (a : Addr) (S : Int → Bool) (n : Nat), xs = [.ref a] ∧ H a = some (SetO X.w a S n) ∧ Q (.int n) H) := by
  intro pins s σ H xs us Q I r h
  obtain ⟨a, S, n, rfl, ha, q⟩ := h
  obtain ⟨u, rfl, ru⟩ := vals1 r
  obtain rfl : u = Value.ref a := ru
  obtain ⟨o, es, ep, t, ho, hex, hd, _, _, _, hb, hf, hn, _⟩ := setO_get I ha
  have hb' : (scanBound : Nat) < 2 ^ 63 := by decide
  exact call_len_set ho hex hd hf (by omega) ⟨.int n, H, I.tok _, ⟨_, by rw [hn]⟩, q⟩
/-- what a turn of {k for x in t} leaves -/
def addS (w : World) (D : Addr) (S : Int → Bool) (n : Nat) (k : Int) (H : Hp) : Hp := upd H D (SetO w D (fun j => S j || decide (j = k)) (if S k = true then n else n + 1))
theorem into_set {pins : List (Addr × Obj)} {σ : L2.St} {H : Hp} {s : Shared} {E : Value → Shared → Prop} {D : Addr} {S : Int → Bool} {n : Nat} {k : Int} {tk : Tok} {Q : Value → Shared → Prop} (I : Inv X pins σ H s)
    (hD : H D = some (SetO X.w D S n)) (room : n + 1 < scanBound) (go : ∀ s2, Inv X pins σ (addS X.w D S n k H) s2 → Q .none s2) : wpAny (model X.prog X.w) X.A (call (.builtin "set.add") [.ref D, .int k tk]) Q E s := by
  refine setR_add (setO_get I hD) room fun h2 sb new => go _ ?_
  have ex : ∃ u, h2.get? D = some u := by
    obtain ⟨o, _, _, _, ho, _⟩ := new
    exact ⟨o, ho⟩
  exact I.write (e := D) (t' := s.toks + 1) (by rw [hD]; trivial) (.inl rfl) (fun b u hb hu => (sb.2 b hb).trans hu) ex (setO_new new)
/-- {e for x in t}, no ifs, e a number: D the new set -/
def tSetI (w : World) (wi : TI) (g : TG) (te : TE) (vs : List Nat) : TE := fun σ H Q => wi σ H fun J H1 => ∀ D, H1 D = none → ∃ W : Nat → Nat → Hp → Prop, (∃ m, W 0 m (upd H1 D (SetO w D (fun _ => false) 0))) ∧
  ∀ i m G, W i m G → (J.stop i G ∧ Q (.ref D) G) ∨ (J.go i G ∧ ∀ x G1, J.yld i G x G1 → g x (wipe σ vs) G1 fun σ2 G2 => wipe σ2 vs = wipe σ vs ∧
    te σ2 G2 fun y G3 => ∃ (k : Int) (S : Int → Bool) (n : Nat), y = .int k ∧ G3 D = some (SetO w D S n) ∧ n + 1 < scanBound ∧ ∃ m2, m2 < m ∧ W (i + 1) m2 (addS w D S n k G3))
abbrev freshSet (w : World) : Obj := { cls := .type "set", dict := none, data := .set #[] 0 (.fresh 0 0 (!w.params.followText "set-order")) }
theorem pe_setI {elt tg iter : Expr} {scope : Scope} {own : List (PySem.Str × Nat)} {pos : Pos} {wi : TI} {g : TG} {te : TE} (hc : X.calm = true) (hN : X.N.Nodup) (hi : PI X tg iter wi) (ok : BlkOk X.N X.env.scope scope own)
    (hg : ∀ (s : Shared) (H : Hp) (C : Addr) (cl : List (PySem.Str × Addr)) (fp : List Addr), PG (X.blk s H scope (compEnvC scope cl C X.env) fp) tg g)
    (he : ∀ (s : Shared) (H : Hp) (C : Addr) (cl : List (PySem.Str × Addr)) (fp : List Addr), PE (X.blk s H scope (compEnvC scope cl C X.env) fp) elt te)
    (hs : ∀ x, foldedSetIterable iter X.env x = pure x := by intro _; rfl) :
    PE X (.SetComp elt [⟨tg, iter, [], 0⟩] scope pos) (tSetI X.w wi g te (own.map (·.2))) := by
  refine ⟨fun pins s σ H Q I h => ?_⟩
  rw [PpSet.eval_SetComp]
  have cap : ∀ y ∈ scope.names, y.2 = .free → ∃ c, X.env.cells.lookup y.1 = some c := fun y hy e => (ok.free y hy e).elim (fun k => I.ok.has _ (.inl k)) fun k => I.ok.has _ (.inr k)
  refine wpAny_comprehension_free rfl hs (closure_ok cap) ok.kind (fun y hy e => by rw [ok.uniq y hy, e]) (thn (hi.run pins s σ H _ I h) fun xv s1 hx => thn hx fun itv s2 z => ?_)
  obtain ⟨it, fp, tn, J, H2, rfl, I2, T, at0, own2, q⟩ := z
  refine PpSet.newSet_ok (newEnv_comp ?_)
  obtain ⟨D, hD⟩ : ∃ D, D = s2.heap.objs.size := ⟨_, rfl⟩
  rw [← hD]
  obtain ⟨W, ⟨m0, w0⟩, turn⟩ := q D (I2.hok.fresh (Nat.le_of_eq hD.symm))
  obtain ⟨s3, es3⟩ : ∃ s3 : Shared, s3 = { s2 with heap := s2.heap.push (freshSet X.w) } := ⟨_, rfl⟩
  obtain ⟨H3, eH3⟩ : ∃ H3, H3 = upd H2 D (SetO X.w D (fun _ => false) 0) := ⟨_, rfl⟩
  have I3 : Inv X pins σ H3 s3 := by
    rw [es3, eH3]
    refine I2.laid (t' := s2.toks) (fun b o e => Heap.get?_push_of_some _ e) (Nat.le_of_eq hD.symm) ?_
    rw [hD]
    exact setO_new (setR_fresh X.w)
  have kp3 : ∀ b o, s2.heap.get? b = some o → s3.heap.get? b = some o := fun b o e => by rw [es3]; exact Heap.get?_push_of_some _ e
  have own3 : ∀ b ∈ fp, FpOk X pins H3 b ∧ b < s3.heap.objs.size := fun b hb => by
    obtain ⟨o, eo, _⟩ := T.obj _ _ at0 b hb
    have lt := Heap.lt_size eo
    refine ⟨⟨?_, (own2 b hb).2⟩, Heap.lt_size (kp3 b o eo)⟩
    rw [eH3, upd_ne (by rw [hD]; exact Nat.ne_of_lt lt)]
    exact (own2 b hb).1
  have I4 := block_start I3 ok hN own3
  obtain ⟨C, eC⟩ : ∃ C, C = s3.heap.objs.size := ⟨_, rfl⟩
  obtain ⟨cl, ecl⟩ : ∃ cl, cl = cellsFrom (s3.heap.objs.size + 1) scope.names (cloFrom X.env.cells scope.names []) := ⟨_, rfl⟩
  have at3 : tn 0 s3.heap := T.keep _ _ _ at0 fun b _ o e => kp3 b o e
  rw [← es3, ← ecl, ← eC]
  rw [← ecl, ← eC] at I4
  obtain ⟨s4, es4⟩ : ∃ s4 : Shared, s4 = { s3 with heap := pushCells (s3.heap.push { cls := .type "dict", data := .dict #[] }) scope.names } := ⟨_, rfl⟩
  rw [← es4] at I4 ⊢
  have at4 : tn 0 s4.heap := T.keep _ _ _ at3 fun b _ o e => by rw [es4]; exact pushCells_keeps _ _ _ _ (Heap.get?_push_of_some _ e)
  obtain ⟨Y, eY⟩ : ∃ Y, Y = X.blk s3 H3 scope (compEnvC scope cl C X.env) fp := ⟨_, rfl⟩
  have pg := hg s3 H3 C cl fp
  have pe := he s3 H3 C cl fp
  rw [← eY] at pg pe I4
  have calmY : Y.calm = true := by rw [eY]; exact hc
  have still : ∀ {σ' : L2.St} {H' : Hp} {s' : Shared}, Inv Y [] σ' H' s' → (∀ b ∈ fp, H' b = none) → ∀ b ∈ fp, FpOk Y [] H' b := fun {σ' H' s'} I' hn b hb => by
    subst eY
    exact ⟨hn b hb, (I'.ok.exf b hb).1, I'.ok.exfs b hb, .inl hb, fun x c e => (I'.ok.exf b hb).2 x c e, fun p hp => absurd (show p ∈ ([] : List (Addr × Obj)) ++ [] from hp) (by simp)⟩
  have loop : codeAny (model X.prog X.w) X.A (.compLoop (.SetComp elt [⟨tg, iter, [], 0⟩] scope pos) 0 (.ref it) (.ref D) (compEnvC scope cl C X.env)) (compPost (model X.prog X.w) X.A X.xe none (EP X pins σ Q) (.ref D) C) s4 := by
    refine PpSet.compLoopS_any (fun m s' => ∃ i G, Inv Y [] (wipe σ (own.map (·.2))) G s' ∧ tn i s'.heap ∧ (∀ b ∈ fp, G b = none) ∧ W i m G) ?_ m0
      ⟨0, H3, I4, at4, fun b hb => (own3 b hb).1.1, by rw [eH3]; exact w0⟩
    rintro m s5 ⟨i, G, I5, at5, n5, w5⟩
    rcases turn i m G w5 with ⟨stop, qq⟩ | ⟨go, step⟩
    · have td := T.done Y (by rw [eY]) (by rw [eY]) (by rw [eY]) calmY i [] s5 _ G (fun _ _ => False) I5 (still I5 n5) at5 stop
      have cL : (compEnvC scope cl C X.env).locals = C := rfl
      subst eY
      refine thnF td fun r s6 z => ?_
      obtain ⟨hr, I6⟩ := z
      subst hr
      have back : ∀ b ∈ fp, (b ∈ X.ex ∨ X.s_0.heap.objs.size ≤ b) ∧ b ≠ X.env.locals ∧ (∀ x c, X.env.cells.lookup x = some c → c ≠ b) ∧ ∀ p ∈ X.pn ++ pins, p.1 ≠ b := fun b hb => by
        obtain ⟨_, a1, _, a3, a4, a5⟩ := (own3 b hb).1
        exact ⟨a3, a1, a4, a5⟩
      have I7 : Inv X pins σ G s6 := I3.call' (ch := fp) I6.os I6.base I6.hok I6.bare back
      have nC : G C = none := I6.free
      obtain ⟨mm, hn, _⟩ := I6.loc
      refine ⟨mm, hn, fun h2 sb => ?_⟩
      obtain ⟨f0, f1, f2, f3, f4, f5⟩ := I3.fpOk (Nat.le_of_eq eC.symm) nC
      exact ⟨.ref D, G, I7.turned (t' := s6.toks) (fun b o hb e => (sb.2 b hb).trans e) f0 f1 f3 f4 f5, rfl, qq⟩
    · have ti := T.item Y (by rw [eY]) (by rw [eY]) (by rw [eY]) calmY i [] s5 _ G (fun _ _ => False) I5 (still I5 n5) at5 go
      have xeY : Y.xe = fun _ _ => False := by rw [eY]
      have AY : Y.A = X.A := by rw [eY]
      have pY : Y.prog = X.prog := by rw [eY]
      have wY : Y.w = X.w := by rw [eY]
      subst eY
      refine thnF ti fun r s6 z => ?_
      obtain ⟨u, hr, h6⟩ := z
      subst hr
      refine thnF h6 fun _ s7 z => ?_
      obtain ⟨x, G7, I7, r7, y7, at7, n7⟩ := z
      have I7p := I7.pinned (still I7 n7) (T.obj _ _ at7)
      refine thnF (pg.run _ s7 _ G7 x u _ I7p r7 (step x G7 y7)) fun _ s8 z => ?_
      obtain ⟨σ8, G8, I8, hw8, q8⟩ := z
      show wpAny _ _ (forIn [] true _) _ _ s8
      refine wpAny_pure ?_
      rw [if_pos rfl]
      refine thnF (pe.run _ s8 σ8 G8 _ I8 q8) fun v s9 z => ?_
      obtain ⟨yv, G9, I9, r9, k, S, n, ey, hD9, room, m2, lt2, w2⟩ := z
      subst ey
      obtain ⟨tk, rfl⟩ := r9
      refine into_set (X := X.blk s3 H3 scope (compEnvC scope cl C X.env) fp) I9 hD9 room fun s10 I10 => ?_
      have pinned : ∀ b ∈ fp, ∀ o, s7.heap.get? b = some o → s10.heap.get? b = some o ∧ addS X.w D S n k G9 b = none := fun b hb o e =>
        have z := I10.pin (b, o) (List.mem_append_right _ (List.mem_append_right _ (mem_pinsAt hb e)))
        ⟨z.1, z.2.1⟩
      have hl : (wipe σ (own.map (·.2))).length = σ8.length := by rw [← hw8, wipe_length]
      refine ⟨m2, lt2, i + 1, _, (I10.unpinned (pins := [])).weak hl (fun j v e => ?_), T.keep _ _ _ at7 fun b hb o e => (pinned b hb o e).1, fun b hb => ?_, w2⟩
      · rw [← hw8] at e
        exact (wipe_some e).1
      · obtain ⟨o, e, _⟩ := T.obj _ _ at7 b hb
        exact (pinned b hb o e).2
  exact PpSet.codeAny_compStart_set loop (T.self X.A 0 _ _ _ at4 loop)
end
end KX
namespace KX
open PySem PySem.Spec PyProof.Rows L2
/-- {e for x in t}, t a tuple that stays -/
theorem setI_tup {w : World} {K : PySem.W.Frag} {a D : Addr} {xs : List V} {g : TG} {te : TE} {vs : List Nat} {σ : L2.St} {H1 : Hp} {Qd : Hp → Prop} (Pv : Nat → Hp → Prop) (h0 : Pv 0 (upd H1 D (SetO w D (fun _ => false) 0)))
    (hl : ∀ i G, i ≤ xs.length → Pv i G → SqT K G a xs)
    (hs : ∀ i x G, xs[i]? = some x → Pv i G → g x (wipe σ vs) G fun σ2 G2 => wipe σ2 vs = wipe σ vs ∧ te σ2 G2 fun y G3 => ∃ (k : Int) (S : Int → Bool) (n : Nat), y = .int k ∧ G3 D = some (SetO w D S n) ∧ n + 1 < scanBound ∧ Pv (i + 1) (addS w D S n k G3))
    (hd : ∀ G, Pv xs.length G → Qd G) :
    ∃ W : Nat → Nat → Hp → Prop, (∃ m, W 0 m (upd H1 D (SetO w D (fun _ => false) 0))) ∧ ∀ i m G, W i m G → ((Itt K a).stop i G ∧ Qd G) ∨ ((Itt K a).go i G ∧ ∀ x G1, (Itt K a).yld i G x G1 → g x (wipe σ vs) G1 fun σ2 G2 => wipe σ2 vs = wipe σ vs ∧
      te σ2 G2 fun y G3 => ∃ (k : Int) (S : Int → Bool) (n : Nat), y = .int k ∧ G3 D = some (SetO w D S n) ∧ n + 1 < scanBound ∧ ∃ m2, m2 < m ∧ W (i + 1) m2 (addS w D S n k G3)) := by
  refine ⟨fun i m G => m = xs.length - i ∧ i ≤ xs.length ∧ Pv i G, ⟨xs.length, by simp, Nat.zero_le _, h0⟩, fun i m G hw => ?_⟩
  obtain ⟨rfl, hi, p⟩ := hw
  have q := hl i G hi p
  by_cases lt : i < xs.length
  · refine .inr ⟨⟨xs, xs[i], q, List.getElem?_eq_getElem lt⟩, fun x G1 y => ?_⟩
    obtain ⟨rfl, y⟩ := y
    have z := hs i x G1 (y xs q) p
    have mono : ∀ {σ2 : L2.St} {G2 : Hp} {y : V} {G3 : Hp}, (∃ (k : Int) (S : Int → Bool) (n : Nat), y = .int k ∧ G3 D = some (SetO w D S n) ∧ n + 1 < scanBound ∧ Pv (i + 1) (addS w D S n k G3)) →
        ∃ (k : Int) (S : Int → Bool) (n : Nat), y = .int k ∧ G3 D = some (SetO w D S n) ∧ n + 1 < scanBound ∧ ∃ m2, m2 < xs.length - i ∧ m2 = xs.length - (i + 1) ∧ i + 1 ≤ xs.length ∧ Pv (i + 1) (addS w D S n k G3) :=
      fun {σ2 G2 y G3} h => by
        obtain ⟨k, S, n, e1, e2, e3, e4⟩ := h
        exact ⟨k, S, n, e1, e2, e3, _, by omega, rfl, by omega, e4⟩
    have key : (fun (y : V) (G3 : Hp) => ∃ (k : Int) (S : Int → Bool) (n : Nat), y = .int k ∧ G3 D = some (SetO w D S n) ∧ n + 1 < scanBound ∧ ∃ m2, m2 < xs.length - i ∧ m2 = xs.length - (i + 1) ∧ i + 1 ≤ xs.length ∧ Pv (i + 1) (addS w D S n k G3)) =
        fun (y : V) (G3 : Hp) => ∃ (k : Int) (S : Int → Bool) (n : Nat), y = .int k ∧ G3 D = some (SetO w D S n) ∧ n + 1 < scanBound ∧ Pv (i + 1) (addS w D S n k G3) := by
      funext y G3
      refine propext ⟨fun h => ?_, fun h => mono (σ2 := []) (G2 := G3) h⟩
      obtain ⟨k, S, n, e1, e2, e3, m2, _, _, _, e4⟩ := h
      exact ⟨k, S, n, e1, e2, e3, e4⟩
    rw [key]
    exact z
  · have e : i = xs.length := by omega
    subst e
    exact .inl ⟨⟨xs, q, Nat.le_refl _⟩, hd G p⟩
end KX

set_option maxRecDepth 100000
set_option maxHeartbeats 4000000
namespace KX
open PySem PySem.Spec PyProof.Rows L2
/-! ### what an expression of a law's generator makes, its stream at l: S is what is known of the data, P of the names -/
abbrev PSt := L2.St → Hp → Prop
def Kp (l : Addr) (P : PSt) : Prop := ∀ σ H H', Keep l H H' → StO H' l → P σ H → P σ H'
def GD (l : Addr) (P : PSt) (S : PyData → Prop) (t : TE) : Prop := ∀ σ H Q, StO H l → P σ H → (∀ H' v d, S d → Keep l H H' → StO H' l → Dx (hid l H') v d → Q v H') → t σ H Q
def GDs (l : Addr) (P : PSt) (S : List PyData → Prop) (t : TA) : Prop := ∀ σ H Q, StO H l → P σ H → (∀ H' vs ds, S ds → Keep l H H' → StO H' l → Dxs (hid l H') vs ds → Q vs H') → t σ H Q
def GI (l : Addr) (P : PSt) (S : Int → Prop) (t : TE) : Prop := ∀ σ H Q, StO H l → P σ H → (∀ H' i, S i → Keep l H H' → StO H' l → Q (.int i) H') → t σ H Q
/-- a new list, read by its items only -/
def GM (l : Addr) (P : PSt) (S : List PyData → Prop) (t : TE) : Prop := ∀ σ H Q, StO H l → P σ H → (∀ H' p xs ds, S ds → Keep l H H' → StO H' l → p ≠ l → H' p = some (.lst xs) → Dxs (hid l H') xs ds → Q (.ref p) H') → t σ H Q
def GO (l : Addr) (P : PSt) (o : Option Int) (t : TO) : Prop := ∀ σ H Q, StO H l → P σ H → (∀ H', Keep l H H' → StO H' l → Q o H') → t σ H Q
section
variable {l : Addr} {P : PSt} {K : PySem.W.Frag} {S S2 : PyData → Prop} {Ss Ss2 : List PyData → Prop} {N : Int → Prop} {t ta tb : TE} {ts : TA} {d : PyData} {ds : List PyData}
theorem GD.imp (h : GD l P S t) (i : ∀ d, S d → S2 d) : GD l P S2 t := fun σ H Q st p q => h σ H Q st p fun H' v d s => q H' v d (i d s)
theorem GDs.imp (h : GDs l P Ss ts) (i : ∀ d, Ss d → Ss2 d) : GDs l P Ss2 ts := fun σ H Q st p q => h σ H Q st p fun H' v d s => q H' v d (i d s)
theorem GM.imp (h : GM l P Ss t) (i : ∀ d, Ss d → Ss2 d) : GM l P Ss2 t := fun σ H Q st p q => h σ H Q st p fun H' v xs d s => q H' v xs d (i d s)
theorem gd_var {i : Nat} (h : ∀ σ H, P σ H → ∃ v d, σ[i]? = some (some v) ∧ S d ∧ Dx (hid l H) v d) : GD l P S (tVar i) := fun σ H Q st p q => by
  obtain ⟨v, d, e, s, x⟩ := h σ H p
  exact ⟨v, e, q H v d s (Keep.refl l H) st x⟩
theorem gd_c {v : V} (h : ∀ H, Dx H v d) : GD l P (· = d) (tC v) := fun σ H Q st p q => q H v d rfl (Keep.refl l H) st (h _)
theorem gi_val {n : Int} (h : ∀ (σ : L2.St) (H : Hp) (Q : VK), Q (.int n) H → t σ H Q) : GI l P (· = n) t := fun σ H Q st p q => h σ H Q (q H n rfl (Keep.refl l H) st)
theorem gi_var {i : Nat} (h : ∀ σ H, P σ H → ∃ n, σ[i]? = some (some (.int n)) ∧ N n) : GI l P N (tVar i) := fun σ H Q st p q => by
  obtain ⟨n, e, s⟩ := h σ H p
  exact ⟨.int n, e, q H n s (Keep.refl l H) st⟩
theorem gd_int (h : GI l P N t) : GD l P (fun d => ∃ i, N i ∧ d = .int i) t := fun σ H Q st p q => h σ H Q st p fun H' i s k st' => q H' _ _ ⟨i, s, rfl⟩ k st' (.int i)
theorem gds_nil : GDs l P (· = []) tNil := fun σ H Q st p q => q H _ _ rfl (Keep.refl l H) st .nil
theorem gds_cons (kp : Kp l P) (h : GD l P S t) (hs : GDs l P Ss ts) : GDs l P (fun x => ∃ d ds, x = d :: ds ∧ S d ∧ Ss ds) (tCons t ts) := fun σ H Q st p q =>
  h σ H _ st p fun H1 v d s k st1 x => hs σ H1 _ st1 (kp _ _ _ k st1 p) fun H2 vs ds ss k2 st2 xs => q H2 _ _ ⟨d, ds, rfl, s, ss⟩ (k.trans k2) st2 (.cons (x.up k2.same) xs)
theorem gd_tup (h : GDs l P Ss ts) (hz : ∀ ds, Ss ds → ds.length ≤ sizeLine) : GD l P (fun d => ∃ ds, d = .tuple ds ∧ Ss ds) (tTup ts) := fun σ H Q st p q =>
  h σ H _ st p fun H1 vs ds s k st1 x => ⟨by rw [x.len]; exact hz ds s, fun a na => q _ _ _ ⟨ds, rfl, s⟩ (k.new na) (st1.new na) (dx_tup na st1 x)⟩
theorem gd_lst (h : GDs l P Ss ts) (hz : ∀ ds, Ss ds → ds.length ≤ sizeLine) : GD l P (fun d => ∃ ds, d = .list ds ∧ Ss ds) (tLstS ts) := fun σ H Q st p q =>
  h σ H _ st p fun H1 vs ds s k st1 x => ⟨by rw [x.len]; exact hz ds s, fun a na za => q _ _ _ ⟨ds, rfl, s⟩ (k.new na) (st1.new na) (dx_lst na za st1 x)⟩
theorem gm_lst (h : GDs l P Ss ts) (hz : ∀ ds, Ss ds → ds.length ≤ sizeLine) : GM l P Ss (tLst ts) := fun σ H Q st p q =>
  h σ H _ st p fun H1 vs ds s k st1 x => ⟨by rw [x.len]; exact hz ds s, fun a na => q _ a vs ds s (k.new na) (st1.new na) (st1.ne na) upd_same (x.up (hnew na))⟩
theorem gm_var {i : Nat} (h : ∀ σ H, P σ H → ∃ p xs ds, σ[i]? = some (some (.ref p)) ∧ Ss ds ∧ p ≠ l ∧ H p = some (.lst xs) ∧ Dxs (hid l H) xs ds) : GM l P Ss (tVar i) := fun σ H Q st p q => by
  obtain ⟨a, xs, ds, e, s, na, ea, x⟩ := h σ H p
  exact ⟨.ref a, e, q H a xs ds s (Keep.refl l H) st na ea x⟩
theorem gm_cat (kp : Kp l P) (h : GM l P Ss ta) (h2 : GM l P Ss2 tb) (hz : ∀ x y, Ss x → Ss2 y → x.length + y.length ≤ sizeLine) : GM l P (fun z => ∃ x y, z = x ++ y ∧ Ss x ∧ Ss2 y) (tOp rCat ta tb) := fun σ H Q st p q =>
  h σ H _ st p fun H1 a xs ds s k st1 na ea x => h2 σ H1 _ st1 (kp _ _ _ k st1 p) fun H2 b ys es s2 k2 st2 nb eb y =>
    ⟨a, b, xs, ys, rfl, rfl, k2 _ _ na ea, eb, by rw [x.len, y.len]; exact hz _ _ s s2, fun c nc => q _ c _ _ ⟨ds, es, rfl, s, s2⟩ ((k.trans k2).new nc) (st2.new nc) (st2.ne nc) upd_same (((x.up k2.same).app y).up (hnew nc))⟩
theorem gd_ixM {n : Int} (kp : Kp l P) (h : GM l P Ss ta) (hi : GI l P (fun k => 0 ≤ k ∧ k < n) tb) (hn : ∀ ds, Ss ds → (ds.length : Int) = n) : GD l P (fun d => ∃ ds, Ss ds ∧ d ∈ ds) (tOp (rIxL K) ta tb) := fun σ H Q st p q =>
  h σ H _ st p fun H1 a xs ds s k st1 na ea x => hi σ H1 _ st1 (kp _ _ _ k st1 p) fun H2 i hb k2 st2 => by
    have hl := hn ds s
    have hx := x.len
    have lt : i.toNat < xs.length := by omega
    obtain ⟨d, ed, hd⟩ := x.get' (List.getElem?_eq_getElem lt)
    have ix : atI xs i = some xs[i.toNat] := by
      have z := atI_nat (xs := xs) (j := i.toNat) (List.getElem?_eq_getElem lt)
      rwa [show ((i.toNat : Nat) : Int) = i by omega] at z
    exact ⟨a, xs, i, _, rfl, rfl, .inl (.inl (k2 _ _ na ea)), ix, q H2 _ d ⟨ds, s, List.mem_of_getElem? ed⟩ (k.trans k2) st2 (hd.up k2.same)⟩
/-- t[k], t a tuple that is known -/
theorem gd_ixT {k : Nat} (kp : Kp l P) (h : GD l P (· = .tuple ds) ta) (hi : GI l P (· = (k : Int)) tb) (hk : ds[k]? = some d) : GD l P (· = d) (tOp (rIxT K) ta tb) := fun σ H Q st p q =>
  h σ H _ st p fun H1 v e s k1 st1 x => hi σ H1 _ st1 (kp _ _ _ k1 st1 p) fun H2 i hb k2 st2 => by
    subst s hb
    obtain ⟨a, xs, rfl, na, ea, hx⟩ := dx_tupOf x
    have lt : k < ds.length := by
      rcases Nat.lt_or_ge k ds.length with z | z
      · exact z
      · rw [List.getElem?_eq_none z] at hk; cases hk
    have lt2 : k < xs.length := by rw [hx.len]; exact lt
    obtain ⟨d2, ed, hd⟩ := hx.get' (List.getElem?_eq_getElem lt2)
    rw [hk] at ed
    cases ed
    exact ⟨a, xs, k, _, rfl, rfl, .inl (.inl (k2 _ _ na ea)), atI_nat (List.getElem?_eq_getElem lt2), q H2 _ d rfl (k1.trans k2) st2 (hd.up k2.same)⟩
theorem go_none : GO l P none tNoPart := fun σ H Q st p q => q H (Keep.refl l H) st
theorem go_some {n : Int} (h : GI l P (· = n) t) : GO l P (some n) (tPart t) := fun σ H Q st p q => h σ H _ st p fun H' i s k st' => ⟨i, rfl, by subst s; exact q H' k st'⟩
theorem gd_slice {lo hi : Option Int} {tl th : TO} (kp : Kp l P) (h : GD l P (· = .tuple ds) ta) (hl : GO l P lo tl) (hh : GO l P hi th) : GD l P (· = .tuple (cutD ds lo hi)) (L2.tSl (rSlA K) ta tl th) := fun σ H Q st p q =>
  h σ H _ st p fun H1 v e s k1 st1 x => hl σ H1 _ st1 (kp _ _ _ k1 st1 p) fun H2 k2 st2 => hh σ H2 _ st2 (kp _ _ _ (k1.trans k2) st2 p) fun H3 k3 st3 => by
    subst s
    exact sl_of ((x.up k2.same).up k3.same) st3 fun H4 a k4 st4 y => q H4 _ _ rfl (((k1.trans k2).trans k3).trans k4) st4 y
theorem gd_cat (kp : Kp l P) (h : GD l P S ta) (h2 : GD l P S2 tb) (t1 : ∀ d, S d → ∃ ds, d = .tuple ds ∧ ds.length ≤ 1000) (t2 : ∀ d, S2 d → ∃ ds, d = .tuple ds ∧ ds.length ≤ 1000) :
    GD l P (fun d => ∃ x y, S (.tuple x) ∧ S2 (.tuple y) ∧ d = .tuple (x ++ y)) (tOp (rCatA K) ta tb) := fun σ H Q st p q =>
  h σ H _ st p fun H1 v e s k1 st1 x => h2 σ H1 _ st1 (kp _ _ _ k1 st1 p) fun H2 u e2 s2 k2 st2 y => by
    obtain ⟨ds, rfl, z1⟩ := t1 e s
    obtain ⟨es, rfl, z2⟩ := t2 e2 s2
    have hb : (2000 : Nat) ≤ sizeLine := by decide
    exact cat_of (x.up k2.same) y st2 (by omega) fun H3 a k3 st3 z => q H3 _ _ ⟨ds, es, s, s2, rfl⟩ ((k1.trans k2).trans k3) st3 z
def rLst2 (K : PySem.W.Frag) : List V → Hp → VK → Prop := fun xs H Q => ∃ p ys, xs = [.ref p] ∧ (SqL K H p ys ∨ SqT K H p ys) ∧ ∀ l, H l = none → l ≠ sysModules → Q (.ref l) (upd H l (.lst ys))
theorem call_lst2 {X : Cx} : CallR X (.type "list") (rLst2 X.K) := call_listS
theorem gd_listOf (h : GD l P (· = .tuple ds) t) : GD l P (· = .list ds) (tCB (rLst2 K) (tCons t tNil)) := fun σ H Q st p q =>
  h σ H _ st p fun H1 v e s k1 st1 x => by
    subst s
    obtain ⟨a, xs, rfl, na, ea, hx⟩ := dx_tupOf x
    exact ⟨a, xs, rfl, .inr (.inl (.inl ea)), fun b nb zb => q _ _ _ rfl (k1.new nb) (st1.new nb) (dx_lst nb zb st1 hx)⟩
theorem gd_rep {k : Int} (kp : Kp l P) (h : GD l P (· = .tuple ds) ta) (hb : GI l P (· = k) tb) (k2 : 2 ≤ k) (k1 : k ≤ 1000) (hn : ds ≠ []) (hz : ds.length ≤ 1000) :
    GD l P (· = .tuple (List.replicate k.toNat ds).flatten) (tOp (rRepT K) ta tb) := fun σ H Q st p q =>
  h σ H _ st p fun H1 v e s k1' st1 x => hb σ H1 _ st1 (kp _ _ _ k1' st1 p) fun H2 i hb k2' st2 => by
    subst s hb
    obtain ⟨a, xs, rfl, na, ea, hx⟩ := dx_tupOf (x.up k2'.same)
    have hl := hx.len
    refine ⟨a, i, xs, rfl, rfl, .inl (.inl ea), fun z => ?_, k2, k1, by omega, fun b nb => q _ _ _ rfl ((k1'.trans k2').new nb) (st2.new nb) (dx_tup nb st2 (dxs_rep hx _))⟩
    subst z
    exact hn (List.eq_nil_of_length_eq_zero (by simpa using hl.symm))
theorem gd_dict : GD l P (· = .dict []) tDNewK := fun σ H Q st p q b nb => q _ _ _ rfl ((Keep.refl l H).new nb) (st.new nb) (dx_dic nb st)
end
end KX

set_option maxRecDepth 100000
set_option maxHeartbeats 4000000
namespace KX
open PySem PySem.Spec PyProof.Rows L2
/-! ### known names, and data of a bounded weight -/
def Env (l : Addr) (σ0 : L2.St) (L : List (V × PyData)) (M : List (Addr × List V × List PyData)) : PSt := fun σ H =>
  σ = σ0 ∧ (∀ p ∈ L, Dx (hid l H) p.1 p.2) ∧ ∀ m ∈ M, m.1 ≠ l ∧ H m.1 = some (.lst m.2.1) ∧ Dxs (hid l H) m.2.1 m.2.2
theorem kp_env {l : Addr} {σ0 : L2.St} {L : List (V × PyData)} {M : List (Addr × List V × List PyData)} : Kp l (Env l σ0 L M) := fun σ H H' k st h =>
  ⟨h.1, fun p hp => (h.2.1 p hp).up k.same, fun m hm => by
    obtain ⟨h1, h2, h3⟩ := h.2.2 m hm
    exact ⟨h1, k _ _ h1 h2, h3.up k.same⟩⟩
def Gp (n : Nat) (d : PyData) : Prop := fine (10 ^ 40) d = true ∧ wt d ≤ n ∧ d.plain = true
def Lp (n : Nat) (ds : List PyData) : Prop := fineAll (10 ^ 40) ds = true ∧ wtAll ds ≤ n ∧ PyData.plainAll ds = true
def TpS (n : Nat) (d : PyData) : Prop := ∃ ds, d = .tuple ds ∧ Lp n ds
def Al (S : PyData → Prop) (n : Nat) (ds : List PyData) : Prop := ds.length = n ∧ ∀ d ∈ ds, S d
theorem plainAll_app : ∀ xs ys : List PyData, PyData.plainAll (xs ++ ys) = (PyData.plainAll xs && PyData.plainAll ys)
  | [], ys => by simp [PyData.plainAll]
  | x :: xs, ys => by simp [PyData.plainAll, plainAll_app xs ys, Bool.and_assoc]
theorem Lp.nil : Lp 0 [] := ⟨rfl, Nat.le_refl _, rfl⟩
theorem Lp.cons {a b : Nat} {d : PyData} {ds : List PyData} (h : Gp a d) (t : Lp b ds) : Lp (a + b) (d :: ds) := by
  refine ⟨by simp [fineAll, h.1, t.1], ?_, by simp [PyData.plainAll, h.2.2, t.2.2]⟩
  have h1 := h.2.1
  have h2 := t.2.1
  simp [wtAll]
  omega
theorem Lp.app {a b : Nat} {x y : List PyData} (h : Lp a x) (t : Lp b y) : Lp (a + b) (x ++ y) := by
  refine ⟨by rw [fineAll_app, h.1, t.1]; rfl, ?_, by rw [plainAll_app, h.2.2, t.2.2]; rfl⟩
  have h1 := h.2.1
  have h2 := t.2.1
  rw [wtAll_app]
  omega
theorem Lp.mono {a b : Nat} {x : List PyData} (h : Lp a x) (le : a ≤ b) : Lp b x := ⟨h.1, Nat.le_trans h.2.1 le, h.2.2⟩
theorem Gp.mono {a b : Nat} {x : PyData} (h : Gp a x) (le : a ≤ b) : Gp b x := ⟨h.1, Nat.le_trans h.2.1 le, h.2.2⟩
theorem Lp.split {n k : Nat} {x : List PyData} (h : Lp n x) : Lp n (x.take k) ∧ Lp n (x.drop k) := by
  obtain ⟨h1, h2, h3⟩ := h
  rw [← List.take_append_drop k x, fineAll_app, Bool.and_eq_true] at h1
  rw [← List.take_append_drop k x, wtAll_app] at h2
  rw [← List.take_append_drop k x, plainAll_app, Bool.and_eq_true] at h3
  exact ⟨⟨h1.1, by omega, h3.1⟩, ⟨h1.2, by omega, h3.2⟩⟩
theorem Lp.cut {n : Nat} {x : List PyData} (h : Lp n x) (lo hi : Option Int) : Lp n (cutD x lo hi) := (h.split.2).split.1
theorem Lp.len {n : Nat} {x : List PyData} (h : Lp n x) : x.length ≤ n := Nat.le_trans (len_wt x) h.2.1
theorem Lp.tup {n : Nat} {x : List PyData} (h : Lp n x) : Gp (n + 1) (.tuple x) := ⟨by simpa [fine] using h.1, by have := h.2.1; simp [wt]; omega, by simpa [PyData.plain] using h.2.2⟩
theorem Lp.lst {n : Nat} {x : List PyData} (h : Lp n x) : Gp (n + 1) (.list x) := ⟨by simpa [fine] using h.1, by have := h.2.1; simp [wt]; omega, by simpa [PyData.plain] using h.2.2⟩
theorem TpS.gp {n : Nat} {d : PyData} (h : TpS n d) : Gp (n + 1) d := by
  obtain ⟨ds, rfl, h⟩ := h
  exact h.tup
theorem TpS.mono {a b : Nat} {d : PyData} (h : TpS a d) (le : a ≤ b) : TpS b d := by
  obtain ⟨ds, rfl, h⟩ := h
  exact ⟨ds, rfl, h.mono le⟩
theorem big_line : (1000 : Nat) ≤ sizeLine := by decide
section
variable {l : Addr} {P : PSt} {K : PySem.W.Frag} {S : PyData → Prop} {t ta tb : TE} {ts : TA} {ds : List PyData} {a b n : Nat} {σ0 : L2.St} {L : List (V × PyData)} {M : List (Addr × List V × List PyData)}
theorem gd_env {i : Nat} {v : V} {d : PyData} (h : σ0[i]? = some (some v)) (hm : (v, d) ∈ L) : GD l (Env l σ0 L M) (· = d) (tVar i) :=
  gd_var fun σ H p => ⟨v, d, by rw [p.1]; exact h, rfl, p.2.1 _ hm⟩
theorem gi_env {i : Nat} {k : Int} (h : σ0[i]? = some (some (.int k))) : GI l (Env l σ0 L M) (· = k) (tVar i) := gi_var fun σ H p => ⟨k, by rw [p.1]; exact h, rfl⟩
theorem gm_env {i : Nat} {p : Addr} {xs : List V} (h : σ0[i]? = some (some (.ref p))) (hm : (p, xs, ds) ∈ M) : GM l (Env l σ0 L M) (· = ds) (tVar i) :=
  gm_var fun σ H q => ⟨p, xs, ds, by rw [q.1]; exact h, rfl, (q.2.2 _ hm).1, (q.2.2 _ hm).2.1, (q.2.2 _ hm).2.2⟩
theorem gl_nil : GDs l P (Lp 0) tNil := gds_nil.imp fun _ e => by subst e; exact Lp.nil
theorem gl_cons (kp : Kp l P) (h : GD l P (Gp a) t) (hs : GDs l P (Lp b) ts) : GDs l P (Lp (a + b)) (tCons t ts) := (gds_cons kp h hs).imp fun _ z => by
  obtain ⟨d, ds, rfl, z1, z2⟩ := z
  exact Lp.cons z1 z2
theorem gl_tup (h : GDs l P (Lp n) ts) (hn : n ≤ 1000) : GD l P (TpS n) (tTup ts) := (gd_tup h fun ds z => Nat.le_trans z.len (Nat.le_trans hn big_line)).imp fun _ z => by
  obtain ⟨ds, rfl, z⟩ := z
  exact ⟨ds, rfl, z⟩
theorem gl_cat (kp : Kp l P) (h : GD l P (TpS a) ta) (h2 : GD l P (TpS b) tb) (ha : a ≤ 1000) (hb : b ≤ 1000) : GD l P (TpS (a + b)) (tOp (rCatA K) ta tb) :=
  (gd_cat kp h h2 (fun d z => by obtain ⟨ds, rfl, z⟩ := z; exact ⟨ds, rfl, Nat.le_trans z.len ha⟩) fun d z => by obtain ⟨ds, rfl, z⟩ := z; exact ⟨ds, rfl, Nat.le_trans z.len hb⟩).imp fun d z => by
    obtain ⟨x, y, ⟨x', e1, h1⟩, ⟨y', e2, h2⟩, rfl⟩ := z
    cases e1
    cases e2
    exact ⟨_, rfl, h1.app h2⟩
theorem gl_slice {lo hi : Option Int} {tl th : TO} (kp : Kp l P) (h : GD l P (· = .tuple ds) ta) (z : Lp n ds) (hl : GO l P lo tl) (hh : GO l P hi th) : GD l P (TpS n) (L2.tSl (rSlA K) ta tl th) :=
  (gd_slice kp h hl hh).imp fun d e => ⟨_, e, z.cut lo hi⟩
theorem al_nil : GDs l P (Al S 0) tNil := gds_nil.imp fun _ e => by subst e; exact ⟨rfl, fun d h => by cases h⟩
theorem al_cons (kp : Kp l P) (h : GD l P S t) (hs : GDs l P (Al S n) ts) : GDs l P (Al S (n + 1)) (tCons t ts) := (gds_cons kp h hs).imp fun _ z => by
  obtain ⟨d, ds, rfl, z1, z2, z3⟩ := z
  refine ⟨by simp [z2], fun x hx => ?_⟩
  rcases List.mem_cons.mp hx with e | hx
  · rw [e]; exact z1
  · exact z3 x hx
theorem al_lst (h : GDs l P (Al S n) ts) (hn : n ≤ 1000) : GM l P (Al S n) (tLst ts) := gm_lst h fun ds z => by rw [z.1]; exact Nat.le_trans hn big_line
theorem al_cat {m : Nat} (kp : Kp l P) (h : GM l P (Al S n) ta) (h2 : GM l P (Al S m) tb) (hn : n + m ≤ 1000) : GM l P (Al S (n + m)) (tOp rCat ta tb) :=
  (gm_cat kp h h2 fun x y z1 z2 => by rw [z1.1, z2.1]; exact Nat.le_trans hn big_line).imp fun z w => by
    obtain ⟨x, y, rfl, w1, w2⟩ := w
    refine ⟨by rw [List.length_append, w1.1, w2.1], fun d hd => ?_⟩
    rcases List.mem_append.mp hd with q | q
    · exact w1.2 d q
    · exact w2.2 d q
/-- one of a list, by a number within it -/
theorem al_ix {m : Int} (kp : Kp l P) (h : GM l P (Al S n) ta) (hi : GI l P (fun k => 0 ≤ k ∧ k < m) tb) (hn : (n : Int) = m) : GD l P S (tOp (rIxL K) ta tb) :=
  (gd_ixM kp h hi fun ds z => by rw [z.1]; exact hn).imp fun d z => by
    obtain ⟨ds, z1, z2⟩ := z
    exact z1.2 d z2
end
theorem GI.imp {l : Addr} {P : PSt} {N N2 : Int → Prop} {t : TE} (h : GI l P N t) (i : ∀ d, N d → N2 d) : GI l P N2 t := fun σ H Q st p q => h σ H Q st p fun H' v s => q H' v (i v s)
theorem gp_int {i : Int} (h : i.natAbs ≤ 10 ^ 40) {n : Nat} (hn : 1 ≤ n) : Gp n (.int i) := ⟨by simpa [fine] using h, by simpa [wt] using hn, rfl⟩
theorem gcn {l : Addr} {P : PSt} {n : Nat} {v : V} {d : PyData} (h : ∀ H, Dx H v d) (g : Gp n d) : GD l P (Gp n) (tC v) := (gd_c h).imp fun _ e => by subst e; exact g
theorem gin {l : Addr} {P : PSt} {n : Nat} {k : Int} {t : TE} (h : GI l P (· = k) t) (hk : k.natAbs ≤ 10 ^ 40) (hn : 1 ≤ n) : GD l P (Gp n) t := (gd_int h).imp fun d e => by
  obtain ⟨i, rfl, rfl⟩ := e
  exact gp_int hk hn
theorem alld_nil {l : Addr} {H : Hp} : ∀ p ∈ ([] : List (V × PyData)), Dx (hid l H) p.1 p.2 := fun p h => by cases h
theorem alld_cons {l : Addr} {H : Hp} {v : V} {d : PyData} {L : List (V × PyData)} (h : Dx (hid l H) v d) (t : ∀ p ∈ L, Dx (hid l H) p.1 p.2) : ∀ p ∈ (v, d) :: L, Dx (hid l H) p.1 p.2 := fun p hp => by
  rcases List.mem_cons.mp hp with e | hp
  · rw [e]; exact h
  · exact t p hp
theorem alld_up {l : Addr} {H H' : Hp} {L : List (V × PyData)} (k : Keep l H H') (t : ∀ p ∈ L, Dx (hid l H) p.1 p.2) : ∀ p ∈ L, Dx (hid l H') p.1 p.2 := fun p hp => (t p hp).up k.same
theorem allm_nil {l : Addr} {H : Hp} : ∀ m ∈ ([] : List (Addr × List V × List PyData)), m.1 ≠ l ∧ H m.1 = some (.lst m.2.1) ∧ Dxs (hid l H) m.2.1 m.2.2 := fun p h => by cases h
theorem allm_one {l : Addr} {H : Hp} {p : Addr} {xs : List V} {ds : List PyData} (n : p ≠ l) (e : H p = some (.lst xs)) (x : Dxs (hid l H) xs ds) :
    ∀ m ∈ [(p, xs, ds)], m.1 ≠ l ∧ H m.1 = some (.lst m.2.1) ∧ Dxs (hid l H) m.2.1 m.2.2 := fun q h => by
  obtain rfl := List.mem_singleton.mp h
  exact ⟨n, e, x⟩
/-- a name gets data; a name gets a list -/
theorem gd_seq {l : Addr} {P : PSt} {S : PyData → Prop} {t : TE} {u : TS} {i : Nat} {D : Ends} {σ : L2.St} {H : Hp} (h : GD l P S t) (st : StO H l) (p : P σ H) (k : ∀ H' v d, S d → Keep l H H' → StO H' l → Dx (hid l H') v d → u D (σ.set i (some v)) H') :
    tSeq (tAsg t (gName i)) u D σ H := h σ H _ st p fun H' v d s k1 st1 x => k H' v d s k1 st1 x
theorem gm_seq {l : Addr} {P : PSt} {S : List PyData → Prop} {t : TE} {u : TS} {i : Nat} {D : Ends} {σ : L2.St} {H : Hp} (h : GM l P S t) (st : StO H l) (p : P σ H)
    (k : ∀ H' a xs ds, S ds → Keep l H H' → StO H' l → a ≠ l → H' a = some (.lst xs) → Dxs (hid l H') xs ds → u D (σ.set i (some (.ref a))) H') :
    tSeq (tAsg t (gName i)) u D σ H := h σ H _ st p fun H' a xs ds s k1 st1 n e x => k H' a xs ds s k1 st1 n e x
end KX

set_option maxRecDepth 100000
set_option maxHeartbeats 4000000
namespace I1
open PySem PySem.Spec PyProof.Rows L2 KX
/-! ### the text -/
def topS (i : Nat) : Stmt := PySem.Challenge.pw_spareskept_k23_whole_half_planes_decide.main.body.getD i (.Pass ⟨0, 0, 0, 0⟩)
abbrev sBetween : Stmt := topS 6
abbrev sTupB : Stmt := topS 9
/-- a def of the text as it stands behind the top -/
structure Df (K : PySem.W.Frag) (mg : Str → Option Value) (x : String) (st : Stmt) (ps : List Str) (f : Addr) (fd : FuncData) : Prop where
  F : Fun K x x st f fd
  b : Binds K fd ps []
  g : mg x = some (.ref f)
/-- the built-in names that the text uses -/
structure Bl (mg : Str → Option Value) : Prop where
  isi : mg "isinstance" = none
  bool : mg "bool" = none
  int : mg "int" = none
  str : mg "str" = none
  tuple : mg "tuple" = none
  list : mg "list" = none
  len : mg "len" = none
  all : mg "all" = none
  range : mg "range" = none
  max : mg "max" = none
  min : mg "min" = none
  abs : mg "abs" = none
  repr : mg "repr" = none
  sorted : mg "sorted" = none
  ixe : mg "IndexError" = none
  vae : mg "ValueError" = none
  zip : mg "zip" = none
  any : mg "any" = none
  kye : mg "KeyError" = none
  sum : mg "sum" = none
  dict : mg "dict" = none

/-! ### kinds of data -/
def tyN : PyData → String
  | .none => "NoneType" | .bool _ => "bool" | .int _ => "int" | .str _ => "str" | .list _ => "list" | .tuple _ => "tuple" | .dict _ => "dict"
def isaN (T : String) : PyData → Bool := fun d => (kitB (tyN d) T).getD false
theorem Dx.ty {K : PySem.W.Frag} {H : Hp} {v : V} {d : PyData} (h : Dx H v d) : TyX K H v (.type (tyN d)) := by
  cases h with
  | non => exact .base .non
  | bl b => exact .base (.bl b)
  | int i => exact .base (.int i)
  | str x => exact .base (.str x)
  | lst e n h => exact .base (.lst e)
  | tup e h => exact .base (.tup e)
  | dic e => exact .base (.dK e)
  | dic1 e => exact .base (.dK e)
def okT (T : String) : Bool := (["NoneType", "bool", "int", "str", "list", "tuple", "dict"].all fun a => (kitB a T).isSome)
section
variable {X : Cx}
/-- isinstance(x, T), x data, T a built-in class -/
def rIsD (T : String) : List V → Hp → VK → Prop := fun xs H Q => match xs with
  | [x, c] => c = .ty T ∧ ∃ d, Dx H x d ∧ Q (.bl (isaN T d)) H
  | _ => False
theorem call_isD {T : String} (hT : okT T = true) : CallR X (.builtin "isinstance") (rIsD T) := by
  intro pins s σ H xs us Q I r h
  match xs, h with
  | [x, c], h =>
  obtain ⟨e, d, hd, q⟩ := h
  subst e
  have ha := List.all_eq_true.mp hT
  have hs : (kitB (tyN d) T).isSome = true := ha (tyN d) (by cases d <;> simp [tyN])
  obtain ⟨b, hb⟩ := Option.isSome_iff_exists.mp hs
  have q2 : Q (.bl b) H := by
    have : isaN T d = b := by unfold isaN; rw [hb]; rfl
    rw [← this]; exact q
  exact call_isi pins s σ H _ us Q I r ⟨x, .ty T, .type (tyN d), .type T, b, rfl, .ty T, Dx.ty hd, kit_ty hb, q2⟩
/-- isinstance(x, T) as an expression -/
theorem pe_isD {T x : String} {e : Expr} {te : TE} {p p2 pos : Pos} (hT : okT T = true) (mi : X.mg "isinstance" = none) (hm : X.mg x = none) (hv : bootBuiltins x = some (.type T)) (he : PE X e te) (hg0 : Gl X "isinstance") (hg : Gl X x)
    (hn : (x : Str) ≠ "__name__" := by decide) (hd : ((x : Str) == ("__debug__" : Str)) = false := by decide)
    (h1 : starEach [e, .Name x p2] X.env = (false, eval e X.env) :: starEach [.Name x p2] X.env := by rfl) (h2 : starEach [.Name x p2] X.env = (false, eval (.Name x p2) X.env) :: starEach [] X.env := by rfl)
    (hpl : (backTo pos (starEach [.Name x p2] X.env)).any (·.1) = false := by rfl) :
    PE X (.Call (.Name "isinstance" p) [e, .Name x p2] [] pos) (tCB (rIsD T) (tCons te (tCons (tC (.ty T)) tNil))) := by
  refine ⟨fun pins s σ H Q I h => ?_⟩
  refine (pe_callB (call_isD hT) hg0 mi (by decide +kernel) (pa_cons he (pa_cons (pe_bltn (v := .ty T) hg hm hv rfl hn hd) pa_nil h2) h1) (by decide) (by decide) h1 hpl).run pins s σ H Q I ?_
  exact h
end
/-! ### is_between -/
def betw (lo hi : Int) : PyData → Bool
  | .int i => decide (lo ≤ i) && decide (i ≤ hi)
  | _ => false
def spBetween : Sp := fun vs H Q _ => ∃ v d lo hi, vs = [v, .int lo, .int hi] ∧ Dx H v d ∧ Q (.bl (betw lo hi d)) H
theorem scBetween : FnScope ["value", "low", "high"] ["value", "low", "high"] (defScope sBetween) := ⟨rfl, rfl, rfl, by decide +kernel, rfl, by decide +kernel, by decide +kernel⟩
section
variable {P : Program} {w : World} {K : PySem.W.Frag} {mg : Str → Option Value} {base : Heap}
theorem ok_between {f : Addr} {fd : FuncData} (B : Bl mg) (D : Df K mg "is_between" sBetween ["value", "low", "high"] f fd) : FnOk P w K mg base CX0 1 f fd ["value", "low", "high"] spBetween := by
  refine D.F.ok scBetween (fun vs H Q E h => ?_) (fun cdv A outer s H vs Q E hr h => ?_)
  · obtain ⟨v, d, lo, hi, rfl, _⟩ := h
    rfl
  · obtain ⟨v, d, lo, hi, rfl, hd, q⟩ := h
    refine ⟨_, pss_cons (ps_if (PW.pt (pw_or (pt_val (pe_isD (T := "bool") (x := "bool") (by decide +kernel) B.isi B.bool (by decide +kernel) (pv 0) (by rfl) (by rfl)))
        (pw_or1 (pt_not (pt_val (pe_isD (T := "int") (x := "int") (by decide +kernel) B.isi B.int (by decide +kernel) (pv 0) (by rfl) (by rfl))))))) (pss_one (ps_ret pe_bl)) pss_nil)
      (pss_one (ps_ret (pe_chain op_le op_le (pv 1) (pv 0) (pv 2)))), ?_⟩
    refine ⟨v, rfl, rfl, d, hd, _, rfl, ?_⟩
    cases d with
    | bool b => exact q
    | int i =>
      refine iteF ⟨v, rfl, rfl, _, hd, _, rfl, ?_⟩
      refine iteF ⟨_, rfl, v, rfl, ?_⟩
      cases hd
      refine ⟨lo, i, rfl, rfl, _, rfl, ?_⟩
      have e : betw lo hi (.int i) = (decide (lo ≤ i) && decide (i ≤ hi)) := rfl
      rw [e] at q
      by_cases h : lo ≤ i
      · rw [decide_eq_true h] at q ⊢
        exact iteT ⟨_, rfl, _, _, rfl, rfl, q⟩
      · rw [decide_eq_false h] at q ⊢
        exact iteF q
    | _ => exact iteF ⟨v, rfl, rfl, _, hd, _, rfl, q⟩
end
end I1

namespace I1
open PySem PySem.Spec PyProof.Rows L2 KX
abbrev sName : Stmt := topS 23
abbrev sRow : Stmt := topS 24
abbrev sVals : Stmt := topS 25
/-- the constants of the text -/
structure Cs (mg : Str → Option Value) : Prop where
  wid : ∃ t, mg "MAX_WIDTH" = some (.int 4 t)
  cost : ∃ t, mg "MAX_COST" = some (.int 1000000 t)
  val : ∃ t, mg "MAX_VALUE" = some (.int 1000000000 t)
  exp : ∃ t, mg "MAX_EXPIRY" = some (.int 1000000000 t)
  lets : ∃ t, mg "MAX_LETTERS" = some (.int 8 t)
  abc : ∃ t, mg "LETTERS" = some (.str "abcdefghijklmnopqrstuvwxyz" t)
/-! ### is_tuple_between -/
def tupB (lo hi : Int) : PyData → Bool
  | .tuple ds => decide (lo ≤ (ds.length : Int)) && decide ((ds.length : Int) ≤ hi)
  | _ => false
def spTupB : Sp := fun vs H Q _ => ∃ v d lo hi, vs = [v, .int lo, .int hi] ∧ Dx H v d ∧ Q (.bl (tupB lo hi d)) H
theorem scTupB : FnScope ["value", "low", "high"] ["value", "low", "high"] (defScope sTupB) := ⟨rfl, rfl, rfl, by decide +kernel, rfl, by decide +kernel, by decide +kernel⟩
theorem isa_tuple {d : PyData} : isaN "tuple" d = match d with | .tuple _ => true | _ => false := by
  cases d <;> (simp only [isaN, tyN]; decide +kernel)
theorem isa_str {d : PyData} : isaN "str" d = match d with | .str _ => true | _ => false := by
  cases d <;> (simp only [isaN, tyN]; decide +kernel)
theorem isa_int {d : PyData} : isaN "int" d = match d with | .int _ => true | .bool _ => true | _ => false := by
  cases d <;> (simp only [isaN, tyN]; decide +kernel)
theorem isa_bool {d : PyData} : isaN "bool" d = match d with | .bool _ => true | _ => false := by
  cases d <;> (simp only [isaN, tyN]; decide +kernel)
section
variable {P : Program} {w : World} {K : PySem.W.Frag} {mg : Str → Option Value} {base : Heap}
theorem ok_tupB {f : Addr} {fd : FuncData} (B : Bl mg) (D : Df K mg "is_tuple_between" sTupB ["value", "low", "high"] f fd) : FnOk P w K mg base CX0 1 f fd ["value", "low", "high"] spTupB := by
  refine D.F.ok scTupB (fun vs H Q E h => ?_) (fun cdv A outer s H vs Q E hr h => ?_)
  · obtain ⟨v, d, lo, hi, rfl, _⟩ := h
    rfl
  · obtain ⟨v, d, lo, hi, rfl, hd, q⟩ := h
    refine ⟨_, pss_one (ps_ret (pe_and (pe_isD (T := "tuple") (x := "tuple") (by decide +kernel) B.isi B.tuple (by decide +kernel) (pv 0) (by rfl) (by rfl))
      (pe_one (pe_chain op_le op_le (pv 1) (pe_callB call_len_seq (by rfl) B.len PySem.boot_len (pa_cons (pv 0) pa_nil)) (pv 2))))), ?_⟩
    refine ⟨v, rfl, rfl, d, hd, _, rfl, ?_⟩
    rw [isa_tuple]
    cases d with
    | tuple ds =>
      cases hd with
      | @tup a xs _ e h =>
        refine iteT ⟨_, rfl, _, rfl, a, xs, rfl, .inr (.inl (.inl e)), _, _, rfl, rfl, _, rfl, ?_⟩
        rw [h.len]
        have e : tupB lo hi (.tuple ds) = (decide (lo ≤ (ds.length : Int)) && decide ((ds.length : Int) ≤ hi)) := rfl
        rw [e] at q
        by_cases h : lo ≤ (ds.length : Int)
        · rw [decide_eq_true h] at q ⊢
          exact iteT ⟨_, rfl, _, _, rfl, rfl, q⟩
        · rw [decide_eq_false h] at q ⊢
          exact iteF q
    | _ => exact iteF q
end
/-! ### is_name -/
def abc : Str := "abcdefghijklmnopqrstuvwxyz"
def letD (x : Str) : Bool := x.cps.toList.all fun c => decide (c ∈ abc.cps.toList)
def nameD : PyData → Bool
  | .str x => (decide (1 ≤ (x.length : Int)) && decide ((x.length : Int) ≤ 8)) && letD x
  | _ => false
/-- texts are not too long -/
def smS : PyData → Prop
  | .str x => x.length ≤ sizeLine
  | _ => True
def spName : Sp := fun vs H Q _ => ∃ v d, vs = [v] ∧ Dx H v d ∧ smS d ∧ ∀ H', Same H H' → Q (.bl (nameD d)) H'
theorem scName : FnScope ["value", "letter"] ["value"] (defScope sName) := ⟨rfl, rfl, rfl, by decide +kernel, rfl, by decide +kernel, by decide +kernel⟩
theorem same_new {H : Hp} {p : Addr} {o : HO} (h : H p = none) : Same H (upd H p o) := fun b x e => by
  rw [upd_ne (ne_of_none e h)]
  exact e
theorem same_at {H H' : Hp} {p : Addr} {o : HO} (h : Same H H') (n : H p = none) : Same H (upd H' p o) := fun b x e => by
  rw [upd_ne (ne_of_none e n)]
  exact h _ _ e
section
variable {P : Program} {w : World} {K : PySem.W.Frag} {mg : Str → Option Value} {base : Heap}
theorem ok_name {f : Addr} {fd : FuncData} (B : Bl mg) (C : Cs mg) (D : Df K mg "is_name" sName ["value"] f fd) : FnOk P w K mg base CX0 1 f fd ["value"] spName := by
  obtain ⟨t8, m8⟩ := C.lets
  obtain ⟨ta, ma⟩ := C.abc
  refine D.F.ok scName (fun vs H Q E h => ?_) (fun cdv A outer s H vs Q E hr h => ?_)
  · obtain ⟨v, d, rfl, _⟩ := h
    rfl
  · obtain ⟨v, d, rfl, hd, hsm, q⟩ := h
    refine ⟨_, pss_cons (ps_if (PW.pt (pw_or (pt_not (pt_val (pe_isD (T := "str") (x := "str") (by decide +kernel) B.isi B.str (by decide +kernel) (pv 0) (by rfl) (by rfl))))
        (pw_or1 (pt_not (pt_chain op_le op_le pe_int (pe_callB call_len_str (by rfl) B.len PySem.boot_len (pa_cons (pv 0) pa_nil)) (pe_glob (v := .int 8) (by rfl) m8 ⟨_, rfl⟩)))))) (pss_one (ps_ret pe_bl)) pss_nil)
      (pss_one (ps_ret (pe_callB (cr_all rfl) (by rfl) B.all (by decide +kernel) (pa_cons (pe_lc (own := [("letter", 1)]) (g := gName 1) rfl scName.nd (pi_str (pv 0)) (blkOk_by (N := ["value", "letter"]) (sc := defScope sName) (by decide +kernel))
        (fun _ _ _ _ _ => pg_name (i := 1) scName.nd rfl (Or.inl rfl)) (fun _ _ _ _ _ => pts_nil) (fun _ _ _ _ _ => pe_cmpR op_in_sign (pv 1) (pe_glob (v := .str abc) (by rfl) ma ⟨_, rfl⟩) (by rfl))) pa_nil)))), ?_⟩
    refine ⟨v, rfl, rfl, d, hd, _, rfl, ?_⟩
    rw [isa_str]
    cases d with
    | str x =>
      cases hd
      refine iteF ⟨.str x, rfl, x, rfl, hsm, 1, _, rfl, rfl, _, rfl, ?_⟩
      have en : nameD (.str x) = ((decide (1 ≤ (x.length : Int)) && decide ((x.length : Int) ≤ 8)) && letD x) := rfl
      rw [en] at q
      by_cases h1 : 1 ≤ (x.length : Int)
      · rw [decide_eq_true h1] at q ⊢
        refine iteT ⟨_, _, rfl, rfl, _, rfl, ?_⟩
        by_cases h2 : (x.length : Int) ≤ 8
        · rw [decide_eq_true h2] at q ⊢
          refine iteF ⟨_, rfl, x, rfl, fun D nD => ?_⟩
          refine lc_it walk_str (fun i G => Same H G ∧ G D = some (.lst (((x.cps.toList.take i).map fun c => decide (c ∈ abc.cps.toList)).map V.bl))) ⟨same_at (Same.refl H) nD, upd_same⟩ (fun _ _ _ _ => trivial) (fun i c G G' hi hp hy => ?_) (fun G hp => ?_)
          · obtain ⟨rfl, cc, ec, rfl⟩ := hy
            refine ⟨rfl, _, rfl, cc, abc, rfl, rfl, _, hp.2, ?_, same_at hp.1 nD, ?_⟩
            · rw [List.length_map, List.length_map, List.length_take]
              have hx : x.cps.toList.length = x.length := by simp [Str.length]
              have hb : (8 : Nat) < sizeLine := by decide
              omega
            · rw [upd_same, List.take_add_one, show x.cps.toList[i]? = some cc by simpa using ec]
              simp
          · have hx : x.cps.toList.take x.cps.size = x.cps.toList := List.take_of_length_le (by simp)
            rw [hx] at hp
            refine ⟨D, _, rfl, .inl (.inl hp.2), ?_⟩
            have := q G hp.1
            rw [List.all_map]
            exact this
        · rw [decide_eq_false h2] at q ⊢
          exact iteT (q H (Same.refl H))
      · rw [decide_eq_false h1] at q ⊢
        exact iteF ⟨_, rfl, iteT (q H (Same.refl H))⟩
    | _ => exact iteT (q H (Same.refl H))
end
end I1

namespace I1
open PySem PySem.Spec PyProof.Rows L2 KX
/-! ### are_row_values -/
def valsD : PyData → Bool
  | .tuple ds => (decide (1 ≤ (ds.length : Int)) && decide ((ds.length : Int) ≤ 4)) && ds.all (betw (-1000000000) 1000000000)
  | _ => false
def spVals : Sp := fun vs H Q _ => ∃ v d, vs = [v] ∧ Dx H v d ∧ ∀ H', Same H H' → Q (.bl (valsD d)) H'
theorem scVals : FnScope ["value", "number"] ["value"] (defScope sVals) := ⟨rfl, rfl, rfl, by decide +kernel, rfl, by decide +kernel, by decide +kernel⟩
section
variable {P : Program} {w : World} {K : PySem.W.Frag} {mg : Str → Option Value} {base : Heap}
theorem ok_vals {f fB fT : Addr} {fd fdB fdT : FuncData} (B : Bl mg) (C : Cs mg) (D : Df K mg "are_row_values" sVals ["value"] f fd) (DB : Df K mg "is_between" sBetween ["value", "low", "high"] fB fdB)
    (DT : Df K mg "is_tuple_between" sTupB ["value", "low", "high"] fT fdT) : FnOk P w K mg base CX0 2 f fd ["value"] spVals := by
  obtain ⟨tw, mw⟩ := C.wid
  obtain ⟨tv, mv⟩ := C.val
  have GB : FnOk P w K mg base CX0 1 fB fdB _ spBetween := ok_between B DB
  have GT : FnOk P w K mg base CX0 1 fT fdT _ spTupB := ok_tupB B DT
  refine D.F.ok scVals (fun vs H Q E h => ?_) (fun cdv A outer s H vs Q E hr h => ?_)
  · obtain ⟨v, d, rfl, _⟩ := h
    rfl
  · obtain ⟨v, d, rfl, hd, q⟩ := h
    refine ⟨_, pss_cons (ps_if (pt_not (pt_val (pe_call GT hr (by rfl) DT.g DT.F.kp DT.b .nil pass0 (pa_cons (pv 0) (pa_cons pe_int (pa_cons (pe_glob (v := .int 4) (by rfl) mw ⟨_, rfl⟩) pa_nil)))))) (pss_one (ps_ret pe_bl)) pss_nil)
      (pss_one (ps_ret (pe_callB (cr_all rfl) (by rfl) B.all (by decide +kernel) (pa_cons (pe_lc (own := [("number", 1)]) (g := gName 1) rfl scVals.nd (pi_tup (pv 0)) (blkOk_by (N := ["value", "number"]) (sc := defScope sVals) (by decide +kernel))
        (fun _ _ _ _ _ => pg_name (i := 1) scVals.nd rfl (Or.inl rfl)) (fun _ _ _ _ _ => pts_nil)
        (fun _ _ _ _ _ => pe_call GB hr (by rfl) DB.g DB.F.kp DB.b .nil pass0 (pa_cons (pv 1) (pa_cons (pe_un un_neg (pe_glob (v := .int 1000000000) (by rfl) mv ⟨_, rfl⟩)) (pa_cons (pe_glob (v := .int 1000000000) (by rfl) mv ⟨_, rfl⟩) pa_nil))))) pa_nil)))), ?_⟩
    refine ⟨v, rfl, v, d, 1, 4, rfl, hd, _, rfl, ?_⟩
    cases d with
    | tuple ds =>
      cases hd with
      | @tup a xs _ ea h =>
        have et : tupB 1 4 (.tuple ds) = (decide (1 ≤ (ds.length : Int)) && decide ((ds.length : Int) ≤ 4)) := rfl
        have en : valsD (.tuple ds) = ((decide (1 ≤ (ds.length : Int)) && decide ((ds.length : Int) ≤ 4)) && ds.all (betw (-1000000000) 1000000000)) := rfl
        rw [en] at q
        rw [et]
        cases eb : (decide (1 ≤ (ds.length : Int)) && decide ((ds.length : Int) ≤ 4)) with
        | false =>
          rw [eb] at q
          exact iteT (q H (Same.refl H))
        | true =>
          rw [eb] at q
          have hlen : ds.length ≤ 4 := by
            rw [Bool.and_eq_true] at eb
            have := of_decide_eq_true eb.2
            omega
          refine iteF ⟨.ref a, rfl, a, rfl, ⟨_, .inl (.inl ea)⟩, fun D nD => ?_⟩
          refine lc_tup (xs := xs) (fun i G => Same H G ∧ G D = some (.lst (((ds.take i).map (betw (-1000000000) 1000000000)).map V.bl))) ⟨same_at (Same.refl H) nD, upd_same⟩
            (fun i G hi hp => .inl (.inl (hp.1 _ _ ea))) (fun i x G hx hp => ?_) (fun G hp => ?_)
          · obtain ⟨d, ed, hd⟩ := h.get' hx
            refine ⟨rfl, x, rfl, _, rfl, x, d, -1000000000, 1000000000, rfl, hd.up hp.1, _, hp.2, ?_, same_at hp.1 nD, ?_⟩
            · rw [List.length_map, List.length_map, List.length_take]
              have hb : (4 : Nat) < sizeLine := by decide
              omega
            · rw [upd_same, List.take_add_one, ed]
              simp
          · have hx : ds.take xs.length = ds := List.take_of_length_le (by rw [h.len]; exact Nat.le_refl _)
            rw [hx] at hp
            refine ⟨D, _, rfl, .inl (.inl hp.2), ?_⟩
            have := q G hp.1
            rw [List.all_map]
            exact this
    | _ => exact iteT (q H (Same.refl H))
end
/-! ### is_row -/
def rowD : PyData → Bool
  | .tuple [n, c, vs, e] => nameD n && betw 1 1000000 c && (valsD vs && betw 1 1000000000 e)
  | _ => false
/-- all texts are not too long -/
def smA : PyData → Prop
  | .tuple ds => ∀ d ∈ ds, smS d
  | _ => True
def spRow : Sp := fun vs H Q _ => ∃ v d, vs = [v] ∧ Dx H v d ∧ smA d ∧ ∀ H', Same H H' → Q (.bl (rowD d)) H'
theorem scRow : FnScope ["value", "name", "cost", "values", "expiry"] ["value"] (defScope sRow) := ⟨rfl, rfl, rfl, by decide +kernel, rfl, by decide +kernel, by decide +kernel⟩
theorem tupB_four {d : PyData} : tupB 4 4 d = true → ∃ a b c e, d = .tuple [a, b, c, e] := by
  intro h
  cases d with
  | tuple ds =>
    have e : (decide (4 ≤ (ds.length : Int)) && decide ((ds.length : Int) ≤ 4)) = true := h
    rw [Bool.and_eq_true] at e
    have h1 := of_decide_eq_true e.1
    have h2 := of_decide_eq_true e.2
    match ds, h1, h2 with
    | [a, b, c, e], _, _ => exact ⟨a, b, c, e, rfl⟩
    | [], h1, _ => simp at h1
    | [_], h1, _ => simp at h1
    | [_, _], h1, _ => simp at h1
    | [_, _, _], h1, _ => simp at h1
    | _ :: _ :: _ :: _ :: _ :: _, _, h2 => simp at h2; omega
  | _ => cases h
theorem rowD_not {d : PyData} (h : tupB 4 4 d = false) : rowD d = false := by
  unfold rowD
  split
  · simp [tupB] at h
  · rfl
section
variable {P : Program} {w : World} {K : PySem.W.Frag} {mg : Str → Option Value} {base : Heap}
theorem ok_row {f fB fT fN fV : Addr} {fd fdB fdT fdN fdV : FuncData} (B : Bl mg) (C : Cs mg) (D : Df K mg "is_row" sRow ["value"] f fd) (DB : Df K mg "is_between" sBetween ["value", "low", "high"] fB fdB)
    (DT : Df K mg "is_tuple_between" sTupB ["value", "low", "high"] fT fdT) (DN : Df K mg "is_name" sName ["value"] fN fdN) (DV : Df K mg "are_row_values" sVals ["value"] fV fdV) : FnOk P w K mg base CX0 3 f fd ["value"] spRow := by
  obtain ⟨tc, mc⟩ := C.cost
  obtain ⟨te, me⟩ := C.exp
  have GB : FnOk P w K mg base CX0 2 fB fdB _ spBetween := (ok_between B DB).mono (by decide)
  have GT : FnOk P w K mg base CX0 2 fT fdT _ spTupB := (ok_tupB B DT).mono (by decide)
  have GN : FnOk P w K mg base CX0 2 fN fdN _ spName := (ok_name B C DN).mono (by decide)
  have GV : FnOk P w K mg base CX0 2 fV fdV _ spVals := ok_vals B C DV DB DT
  refine D.F.ok scRow (fun vs H Q E h => ?_) (fun cdv A outer s H vs Q E hr h => ?_)
  · obtain ⟨v, d, rfl, _⟩ := h
    rfl
  · obtain ⟨v, d, rfl, hd, hsm, q⟩ := h
    have nd := scRow.nd
    refine ⟨_, pss_cons (ps_if (pt_not (pt_val (pe_call GT hr (by rfl) DT.g DT.F.kp DT.b .nil pass0 (pa_cons (pv 0) (pa_cons pe_int (pa_cons pe_int pa_nil)))))) (pss_one (ps_ret pe_bl)) pss_nil)
      (pss_cons (ps_asg (pv 0) (pg_tup (by rfl) (pgs_cons (pg_name (i := 1) nd rfl (.inl rfl)) (pgs_cons (pg_name (i := 2) nd rfl (.inl rfl)) (pgs_cons (pg_name (i := 3) nd rfl (.inl rfl)) (pgs_cons (pg_name (i := 4) nd rfl (.inl rfl)) pgs_nil))))))
      (pss_cons (ps_if (PW.pt (pw_or (pt_not (pt_val (pe_call GN hr (by rfl) DN.g DN.F.kp DN.b .nil pass0 (pa_cons (pv 1) pa_nil))))
        (pw_or1 (pt_not (pt_val (pe_call GB hr (by rfl) DB.g DB.F.kp DB.b .nil pass0 (pa_cons (pv 2) (pa_cons pe_int (pa_cons (pe_glob (v := .int 1000000) (by rfl) mc ⟨_, rfl⟩) pa_nil))))))))) (pss_one (ps_ret pe_bl)) pss_nil)
      (pss_one (ps_ret (pe_and (pe_call GV hr (by rfl) DV.g DV.F.kp DV.b .nil pass0 (pa_cons (pv 3) pa_nil))
        (pe_one (pe_call GB hr (by rfl) DB.g DB.F.kp DB.b .nil pass0 (pa_cons (pv 4) (pa_cons pe_int (pa_cons (pe_glob (v := .int 1000000000) (by rfl) me ⟨_, rfl⟩) pa_nil)))))))))), ?_⟩
    refine ⟨v, rfl, v, d, 4, 4, rfl, hd, _, rfl, ?_⟩
    cases eb : tupB 4 4 d with
    | false =>
      rw [rowD_not eb] at q
      exact iteT (q H (Same.refl H))
    | true =>
      obtain ⟨n, c, vs, e, rfl⟩ := tupB_four eb
      cases hd with
      | @tup a xs _ ea h =>
        match xs, h, ea with
        | [vn, vc, vv, ve], .cons hn (.cons hc (.cons hv (.cons he .nil))), ea =>
          have sn : smS n := hsm n (by simp)
          refine iteF ⟨.ref a, rfl, a, _, rfl, .inl (.inl ea), rfl, _, _, rfl, _, _, rfl, _, _, rfl, _, _, rfl, rfl, ?_⟩
          refine ⟨vn, rfl, vn, n, rfl, hn, sn, fun H1 s1 => ⟨_, rfl, ?_⟩⟩
          have er : rowD (.tuple [n, c, vs, e]) = (nameD n && betw 1 1000000 c && (valsD vs && betw 1 1000000000 e)) := rfl
          rw [er] at q
          cases en : nameD n with
          | false =>
            rw [en] at q
            exact iteT (iteT (q H1 s1))
          | true =>
            rw [en] at q
            refine iteF ⟨vc, rfl, vc, c, 1, 1000000, rfl, hc.up s1, _, rfl, ?_⟩
            cases ec : betw 1 1000000 c with
            | false =>
              rw [ec] at q
              exact iteT (q H1 s1)
            | true =>
              rw [ec] at q
              refine iteF ⟨vv, rfl, vv, vs, rfl, hv.up s1, fun H2 s2 => ⟨_, rfl, ?_⟩⟩
              cases ev : valsD vs with
              | false =>
                rw [ev] at q
                exact iteF (q H2 (s1.trans s2))
              | true =>
                rw [ev] at q
                exact iteT ⟨ve, rfl, ve, e, 1, 1000000000, rfl, (he.up s1).up s2, q H2 (s1.trans s2)⟩
end
end I1

set_option maxRecDepth 100000
set_option maxHeartbeats 4000000
namespace KX
open PySem PySem.Spec PyProof.Rows L2
theorem countP_eqU {x : V} : ∀ {xs : List V} {us : List Value}, Vals xs us → xs.all flatV = true → us.countP (eqU x) = xs.countP fun y => eqV y x
  | _, _, .nil, _ => rfl
  | y :: xs, u :: us, .cons r t, f => by
    rw [List.all_cons, Bool.and_eq_true] at f
    rw [List.countP_cons, List.countP_cons, eqU_of r f.1, countP_eqU t f.2]
section
variable {X : Cx}
/-- xs.count(y), flat items -/
def rCntF (K : PySem.W.Frag) : V → List V → Hp → VK → Prop := fun x xs H Q => ∃ (p : Addr) (ys : List V) (y : V), x = .ref p ∧ xs = [y] ∧ SqL K H p ys ∧ flatV y = true ∧ ys.all flatV = true ∧ Q (.int (ys.countP fun z => eqV z y : Nat)) H
theorem mt_countF : MtR X "list.count" (rCntF X.K) := by
  intro pins s σ H x xs v us Q I rx rxs h
  obtain ⟨p, ys, y, rfl, rfl, hs, fy, fs, q⟩ := h
  cases rx
  obtain ⟨u, rfl, ru⟩ := rxs.one
  obtain ⟨its, rv, ⟨⟨cls, dd, data, sl⟩, n, ho, hc, hdn, hd⟩, hlen⟩ := I.list hs
  dsimp only at hc hd
  subst hc hd
  have same : its.toArray.toList.countP (eqU y) = ys.countP fun z => eqV z y := countP_eqU rv fs
  refine call_meets PySem.F.slot_list_count ⟨_, ho, rfl⟩ PySem.F.entry_list_count (PySem.F.args_list_count_2 _ _) (SeqAt.list_countAt p its.toArray n dd sl u (eqU y)) ⟨ho, fun z hz => mem_eqAt ru fy rv fs z (by simpa using hz), ?_⟩
  refine ⟨.int (ys.countP fun z => eqV z y : Nat), H, I.tok _, ⟨s.toks, ?_⟩, q⟩
  rw [same]
end
/-- isinstance(e, T), isinstance(e, (T, ..)): e a caught error without fields of its own -/
def rIsN (K : PySem.W.Frag) (a : Addr) (cls : Value) (d : Option Addr) : List V → Hp → VK → Prop := fun xs H Q =>
  ∃ (C : Addr) (c : V) (b : Bool), XI K C ∧ cls = .ref C ∧ d = none ∧ xs = [.ref a, c] ∧
    ((∃ cv, (∀ u, RelV c u → u = cv) ∧ PySem.W.kitOne K (.ref C) cv = some b) ∨
      ∃ (tp : Addr) (ys : List V) (its : List Value), c = .ref tp ∧ H tp = some (.tup ys) ∧ (∀ us, Vals ys us → us = its) ∧ PySem.W.kitAny K (.ref C) its = some b) ∧ Q (.bl b) H
theorem call_isN {X : Cx} {a : Addr} {oe : Obj} {cls : Value} {d : Option Addr} {pn : List (Addr × Obj)} (hz : Zc cls d oe) (hf : ∃ vs, oe.data = .fields vs) :
    CallR (X.suite a ((a, oe) :: pn)) (.builtin "isinstance") (rIsN X.K a cls d) := by
  intro pins s σ H xs us Q I r h
  obtain ⟨C, c, b, T, ec, ed, rfl, hc, q⟩ := h
  subst ec ed
  obtain ⟨hget, _⟩ := I.pin (a, oe) (List.mem_append.mpr (.inl List.mem_cons_self))
  obtain ⟨vs, hv⟩ := hf
  have J : PySem.W.InstAt s.heap a oe C none := ⟨hget, hz.1, by unfold PySem.W.notCls; rw [hv] <;> rfl, by rw [hz.2]; trivial⟩
  have hcl : (PySem.W.clsIn X.K C).isSome = true := by
    obtain ⟨cd, hc, _⟩ := PySem.W.any_some T.hd
    rw [hc]; rfl
  have Z : PySem.W.KitX X.K (.ref a) (.ref C) (fun h => PySem.W.InstAt h a oe C none) := PySem.W.kitx_exc hcl T.ga T.gg T.sub T.hcl T.sp T.tk T.mro
  obtain ⟨u, rfl, ru⟩ : ∃ u2, us = [.ref a, u2] ∧ RelV c u2 := by
    cases r with
    | cons r1 r2 =>
      cases r2 with
      | cons r3 r4 =>
        cases r4
        cases r1
        exact ⟨_, rfl, r3⟩
  rcases hc with ⟨cv, hcv, e⟩ | ⟨tp, ys, its, rfl, hH, hits, e⟩
  · have eu := hcv _ ru
    subst eu
    exact PySem.W.kia_one Z I.kIn J e (fun z => nomatch z) fun tk => ⟨.bl b, H, I.kept (t' := tk) fun _ _ z => z, rfl, q⟩
  · obtain rfl : u = Value.ref tp := ru
    obtain ⟨_, us2, r2, o, h1, h2, n, h3⟩ := (show ObjOk X.prog X.w H s.heap tp (.tup ys) from I.hok tp _ hH)
    have eu := hits us2 r2
    subst eu
    obtain ⟨oc, od2, oda, osl⟩ := o
    dsimp only at h2 h3
    subst h2 h3
    exact PySem.W.kia_tup Z I.kIn J h1 e (fun z => nomatch z) fun tk => ⟨.bl b, H, I.kept (t' := tk) fun _ _ z => z, rfl, q⟩
end KX

set_option maxRecDepth 100000
set_option maxHeartbeats 4000000
/-! zip of a list and a tuple -/
namespace KX
open PySem PySem.Spec PyProof.Rows L2
def ItM (K : PySem.W.Frag) (a b : Addr) : It :=
  ⟨fun i H => ∃ (xs ys : List V) (x y : V), SqL K H a xs ∧ SqT K H b ys ∧ xs[i]? = some x ∧ ys[i]? = some y,
    fun i H v G => ∃ T x y, v = .ref T ∧ H T = none ∧ G = upd H T (.tup [x, y]) ∧ (∀ xs, SqL K H a xs → xs[i]? = some x) ∧ ∀ ys, SqT K H b ys → ys[i]? = some y,
    fun i H => ∃ xs ys : List V, SqL K H a xs ∧ SqT K H b ys ∧ xs.length = i ∧ ys.length = i⟩
theorem sep_of {z TI TO i1 i2 a b : Addr} (D : ZipApart z TI TO i1 i2 a b) : ZipSep2 z TI TO i1 i2 [i1, a] [i2, b] := by
  have e1 := D.TIz
  refine ⟨D.TIz, D.TOz, D.TITO, D.TIi1, by simp, ?_, ?_, D.TIi2, by simp, ?_, ?_, ?_, ?_⟩
  · simp [D.i1z.symm, D.l1z.symm]
  · simp [D.TOi1, D.l1TO.symm]
  · simp [D.i2z.symm, D.l2z.symm]
  · simp [D.TOi2, D.l2TO.symm]
  · simp [D.i12, D.l2i1.symm]
  · simp [D.i12.symm, D.l1i2.symm]
theorem turn_m {P : Program} {w : World} {K : PySem.W.Frag} {elts : List Expr} {kk : Nat} {tpos : Pos} {a b z TI TO i1 i2 : Addr} (D : ZipApart z TI TO i1 i2 a b) :
    Turn P w K (.Tuple elts kk tpos) (ItM K a b) [z, TI, TO, i1, i2] z (fun i h => IsZip h z TI TO .none ∧ IsPair h TI (.ref i1) (.ref i2) ∧ (∃ x y, IsPair h TO x y) ∧ h.IsListIter i1 a i ∧ h.IsTupleIter i2 b i) where
  mem := by simp
  obj := fun i h st c hc => by
    obtain ⟨hz, hTI, ⟨x, y, hTO⟩, ⟨o1, e1, _, d1⟩, ⟨o2, e2, _, d2⟩⟩ := st
    simp only [List.mem_cons, List.not_mem_nil, or_false] at hc
    rcases hc with rfl | rfl | rfl | rfl | rfl
    · exact ⟨_, hz, fun v q => nomatch q⟩
    · exact ⟨_, hTI, fun v q => nomatch q⟩
    · exact ⟨_, hTO, fun v q => nomatch q⟩
    · exact ⟨o1, e1, fun v q => by rw [d1] at q; cases q⟩
    · exact ⟨o2, e2, fun v q => by rw [d2] at q; cases q⟩
  keep := fun i h h' st k => by
    obtain ⟨hz, hTI, ⟨x, y, hTO⟩, t1, t2⟩ := st
    exact ⟨k z (by simp) _ hz, k TI (by simp) _ hTI, ⟨x, y, k TO (by simp) _ hTO⟩, t1.at fun o q => k i1 (by simp) o q, t2.at fun o q => k i2 (by simp) o q⟩
  item := by
    intro X hP hw hK hc i pins s σ H E I hf st hg
    subst hP hw hK
    obtain ⟨hz, hTI, ⟨x0, y0, hTO⟩, t1, t2⟩ := st
    obtain ⟨xs, ys, x, y, hqx, hqy, hx, hy⟩ := hg
    obtain ⟨its, rv, pl, _⟩ := I.list hqx
    obtain ⟨its2, rv2, pt, _⟩ := I.tuple hqy
    obtain ⟨u, hu, ru⟩ := rv.get hx
    obtain ⟨u2, hu2, ru2⟩ := rv2.get hy
    have zl : z < s.heap.objs.size := Heap.lt_size hz
    have hh : X.A.in1.handled = none := I.ok.hd hc
    have li : i < its.toArray.size := by simpa using (List.getElem?_eq_some_iff.mp hu).1
    have li2 : i < its2.toArray.size := by simpa using (List.getElem?_eq_some_iff.mp hu2).1
    refine wpAny_pyNext_zipD2_item (sep_of D) (Draws.list hh i1 a D.l1i1 its.toArray) (Draws.tuple hh i2 b D.l2i2 its2.toArray) hz hTI hTO ⟨t1, pl.isList⟩ ⟨t2, pt⟩ li li2 fun x1 x2 h' tk q1 q2 z' TO' s1' s2' hT hsz hk => ?_
    have e1 : x1 = u := Option.some.inj (q1.symm.trans (by simpa using hu))
    have e2 : x2 = u2 := Option.some.inj (q2.symm.trans (by simpa using hu2))
    subst e1 e2
    refine ⟨_, rfl, wpAny_letOwnedTupleGo_zip (s := { s with heap := h', toks := tk }) z' fun h'' z'' sb => ?_⟩
    have hT2 : h''.get? s.heap.objs.size = some { cls := .type "tuple", data := .seq #[x1, x2] } := (sb.2 _ (Nat.ne_of_gt zl)).trans hT
    have new : ObjOk X.prog X.w (upd H s.heap.objs.size (.tup [x, y])) h'' s.heap.objs.size (.tup [x, y]) := ⟨by show 2 ≤ sizeLine; decide, [x1, x2], .cons ru (.cons ru2 .nil), ⟨_, hT2, rfl, _, rfl⟩⟩
    have moved : ∀ c o, c ∉ [z, TI, TO, i1, i2] → s.heap.get? c = some o → h''.get? c = some o := fun c o hb q => by
      simp only [List.mem_cons, List.not_mem_nil, or_false, not_or] at hb
      exact (sb.2 c hb.1).trans (hk c o hb.1 hb.2.2.1 hb.2.2.2.1 hb.2.2.2.2 q)
    have I1 : Inv X pins σ (upd H s.heap.objs.size (.tup [x, y])) { s with heap := h'', toks := tk } := I.turnedNew (t' := tk) (ch := [z, TI, TO, i1, i2]) moved hf (Nat.le_refl _) new
    refine ⟨.ref s.heap.objs.size, _, I1, rfl, ⟨_, x, y, rfl, I.hok.fresh (Nat.le_refl _), rfl, fun l hl => by rw [I.list_inj hl hqx]; exact hx, fun l hl => by rw [I.tuple_inj hl hqy]; exact hy⟩,
      ⟨z'', (sb.2 _ D.TIz).trans (hk _ _ D.TIz D.TITO D.TIi1 D.TIi2 hTI), ⟨x1, x2, (sb.2 _ D.TOz).trans TO'⟩, s1'.1.at fun o q => (sb.2 _ D.i1z).trans q, s2'.1.at fun o q => (sb.2 _ D.i2z).trans q⟩, fun c hcm => ?_⟩
    have lt : c < s.heap.objs.size := by
      simp only [List.mem_cons, List.not_mem_nil, or_false] at hcm
      rcases hcm with rfl | rfl | rfl | rfl | rfl
      · exact zl
      · exact Heap.lt_size hTI
      · exact Heap.lt_size hTO
      · obtain ⟨_, q, _⟩ := t1; exact Heap.lt_size q
      · obtain ⟨_, q, _⟩ := t2; exact Heap.lt_size q
    rw [upd_ne (Nat.ne_of_lt lt)]
    exact (hf c hcm).1
  done := by
    intro X hP hw hK hc i pins s σ H E I hf st hg
    subst hP hw hK
    obtain ⟨hz, hTI, ⟨x0, y0, hTO⟩, t1, t2⟩ := st
    obtain ⟨xs, ys, hqx, hqy, e1, e2⟩ := hg
    obtain ⟨its, rv, pl, _⟩ := I.list hqx
    obtain ⟨its2, rv2, pt, _⟩ := I.tuple hqy
    have l1 := rv.length
    have l2 := rv2.length
    have hh : X.A.in1.handled = none := I.ok.hd hc
    have s1 : its.toArray.size = i := by simp; omega
    have s2 : its2.toArray.size = i := by simp; omega
    refine wpAny_pyNext_zipD2_end (sep_of D) (Draws.list hh i1 a D.l1i1 its.toArray) (Draws.tuple hh i2 b D.l2i2 its2.toArray) hz hTI hTO ⟨t1, pl.isList⟩ ⟨t2, pt⟩ (by omega) (by omega) (.inl s1.symm) fun h' tk hk => ⟨rfl, ?_⟩
    refine I.turnedL (t' := tk) (ch := [z, TI, TO, i1, i2]) (fun c o hb q => ?_) hf
    simp only [List.mem_cons, List.not_mem_nil, or_false, not_or] at hb
    exact hk c o hb.1 hb.2.2.1 hb.2.2.2.1 hb.2.2.2.2 q
  self := fun A i s Q E st h => wpAny_pyIter_zip st.1 h
/-! the call -/
abbrev zm1 (h : Heap) (a : Addr) : Heap := h.push { cls := .type "list_iterator", data := .fields #[.ref a, .int 0 0] }
abbrev zm2 (h : Heap) (a b : Addr) : Heap := (zm1 h a).push { cls := .type "tuple_iterator", data := .fields #[.ref b, .int 0 0] }
abbrev zm3 (h : Heap) (a b : Addr) : Heap := (zm2 h a b).push { cls := .type "tuple", data := .seq #[.ref h.objs.size, .ref (zm1 h a).objs.size] }
abbrev zm4 (h : Heap) (a b : Addr) : Heap := (zm3 h a b).push { cls := .type "tuple", data := .seq #[.none, .none] }
abbrev zm5 (h : Heap) (a b : Addr) : Heap := (zm4 h a b).push { cls := .type "zip", data := .fields #[.none, .bool false, .bool false, .ref (zm2 h a b).objs.size, .ref (zm3 h a b).objs.size] }
theorem meets_zm (a b : Addr) (xs ys : Array Value) :
    Meets (Builtin.«zip.__new__» ⟨[.type "zip", .ref a, .ref b], []⟩) (fun _ R s => s.heap.IsList a xs ∧ s.heap.IsTuple b ys ∧ R (.ok (.ret (.ref (zm4 s.heap a b).objs.size))) { s with heap := zm5 s.heap a b }) :=
  .of_wp fun prog w A R s h => by
    obtain ⟨hp, g, d, tk, os⟩ := s
    obtain ⟨ha, hb, h⟩ := h
    have hsub := sub_zip
    have La : Heap.IsList (Shared.heap ⟨hp, g, d, tk, os⟩) a xs := ha
    have Lb : Heap.IsTuple (Shared.heap ⟨hp.push { cls := .type "list_iterator", data := .fields #[.ref a, .int 0 0] }, g, d, tk, os⟩) b ys := Heap.IsTuple.push hb _
    wp_walk using wpAny_pyIter_list La, wpAny_pyIter_tuple Lb
    exact ⟨_, rfl, h⟩
section
variable {prog : Program} {w : World} {A : Around} {E : Value → Shared → Prop} {s : Shared}
theorem call_zm {a b : Addr} {xs ys : Array Value} {Q : Value → Shared → Prop} (ha : s.heap.IsList a xs) (hb : s.heap.IsTuple b ys)
    (go : ∀ h', IsZip h' (s.heap.objs.size + 4) (s.heap.objs.size + 2) (s.heap.objs.size + 3) .none → IsPair h' (s.heap.objs.size + 2) (.ref s.heap.objs.size) (.ref (s.heap.objs.size + 1)) → IsPair h' (s.heap.objs.size + 3) .none .none →
      h'.IsListIter s.heap.objs.size a 0 → h'.IsTupleIter (s.heap.objs.size + 1) b 0 → (∀ c o, s.heap.get? c = some o → h'.get? c = some o) → Q (.ref (s.heap.objs.size + 4)) { s with heap := h' }) :
    wpAny (model prog w) A (call (.type "zip") [.ref a, .ref b]) Q E s := by
  refine callType_new F.called_zip (by decide) (F.typeCall_zip_2 _ _) (F.newCall_zip_2 _ _) (fun obj => F.args_object_init_3 obj _ _) F.entry_zip_new (meets_zm a b xs ys) ⟨ha, hb, ?_⟩
  have n1 : (zm1 s.heap a).objs.size = s.heap.objs.size + 1 := by rw [Heap.size_push]
  have n2 : (zm2 s.heap a b).objs.size = s.heap.objs.size + 2 := by rw [Heap.size_push, n1]
  have n3 : (zm3 s.heap a b).objs.size = s.heap.objs.size + 3 := by rw [Heap.size_push, n2]
  have n4 : (zm4 s.heap a b).objs.size = s.heap.objs.size + 4 := by rw [Heap.size_push, n3]
  have k45 : ∀ {c o}, (zm4 s.heap a b).get? c = some o → (zm5 s.heap a b).get? c = some o := fun e => Heap.get?_push_of_some _ e
  have k35 : ∀ {c o}, (zm3 s.heap a b).get? c = some o → (zm5 s.heap a b).get? c = some o := fun e => k45 (Heap.get?_push_of_some _ e)
  have k25 : ∀ {c o}, (zm2 s.heap a b).get? c = some o → (zm5 s.heap a b).get? c = some o := fun e => k35 (Heap.get?_push_of_some _ e)
  have k15 : ∀ {c o}, (zm1 s.heap a).get? c = some o → (zm5 s.heap a b).get? c = some o := fun e => k25 (Heap.get?_push_of_some _ e)
  have o5 : (zm5 s.heap a b).get? (zm4 s.heap a b).objs.size = some _ := Heap.get?_push_size _ rfl
  have o4 := k45 (c := (zm3 s.heap a b).objs.size) (Heap.get?_push_size _ rfl)
  have o3 := k35 (c := (zm2 s.heap a b).objs.size) (Heap.get?_push_size _ rfl)
  have o2 := k25 (c := (zm1 s.heap a).objs.size) (Heap.get?_push_size _ rfl)
  have o1 := k15 (c := s.heap.objs.size) (Heap.get?_push_size _ rfl)
  show _ ∧ _
  rw [n2, n3, n4] at o5
  rw [n3] at o4
  rw [n1, n2] at o3
  rw [n1] at o2
  rw [n4]
  exact ⟨⟨_, o5, rfl⟩, go _ o5 o3 o4 ⟨_, o1, rfl, rfl⟩ ⟨_, o2, rfl, rfl⟩ fun c o x => k15 (Heap.get?_push_of_some _ x)⟩
end
def iZipM (K : PySem.W.Frag) (ta : TA) : TI := fun σ H R => ta σ H fun vs H1 => ∃ a b xs ys, vs = [.ref a, .ref b] ∧ SqL K H1 a xs ∧ SqT K H1 b ys ∧ R (ItM K a b) H1
theorem pi_zipM {X : Cx} {e e2 : Expr} {ta : TA} {p pos tpos : Pos} {elts : List Expr} {kk : Nat} (hg : Gl X "zip") (hm : X.mg "zip" = none) (ha : PA X [e, e2] ta)
    (hs : starEach [e, e2] X.env = (false, eval e X.env) :: starEach [e2] X.env := by rfl) (hpl : (backTo pos (starEach [e2] X.env)).any (·.1) = false := by rfl) :
    PI X (.Tuple elts kk tpos) (.Call (.Name "zip" p) [e, e2] [] pos) (iZipM X.K ta) := by
  refine ⟨fun pins s σ H R I h => ?_⟩
  refine Call_ (ld_blt I hg hm PyProof.Rows.boot_zip (PyProof.Rows.callWith_type1 (thn (ha.run pos pins s σ H _ I h) fun us s1 z => ?_) hs hpl))
  obtain ⟨vs, H1, I1, r1, a, b, xs, ys, ex, hqx, hqy, q⟩ := z
  subst ex
  obtain rfl : us = [.ref a, .ref b] := by
    cases r1 with
    | cons r rr =>
      cases rr with
      | cons r' rr =>
        cases rr
        cases r
        cases r'
        rfl
  obtain ⟨its, rv, pl, _⟩ := I1.list hqx
  obtain ⟨its2, rv2, pt, _⟩ := I1.tuple hqy
  have ltb : b < s1.heap.objs.size := by
    obtain ⟨o, ho, _⟩ := id pt
    exact Heap.lt_size ho
  refine call_zm pl.isList (show s1.heap.IsTuple b its2.toArray from pt) fun h' hz hTI hTO t1 t2 hk => wpAny_pyIter_zip hz ?_
  have I2 : Inv X pins σ H1 { s1 with heap := h' } := I1.kept (t' := s1.toks) hk
  refine ⟨s1.heap.objs.size + 4, [s1.heap.objs.size + 4, s1.heap.objs.size + 2, s1.heap.objs.size + 3, s1.heap.objs.size, s1.heap.objs.size + 1], _, _, H1, rfl, I2, turn_m (PySem.W.ktu_apart s1.heap.objs.size a b pl.lt ltb), ⟨hz, hTI, ⟨_, _, hTO⟩, t1, t2⟩, fun c hcm => ?_, q⟩
  have le : s1.heap.objs.size ≤ c := by
    simp only [List.mem_cons, List.not_mem_nil, or_false] at hcm
    rcases hcm with rfl | rfl | rfl | rfl | rfl <;> omega
  exact I1.fpOk le (I1.hok.fresh le)
/-- [e for x, y in zip(l, t)] -/
theorem lc_zipM {K : PySem.W.Frag} {a b : Addr} {xs ys : List V} {g : TG} {tt : TT} {te : TE} {vs : List Nat} {σ : L2.St} {H1 : Hp} {D : Addr} {Qd : Hp → Prop} (hl : xs.length = ys.length) (Pv : Nat → Hp → Prop) (h0 : Pv 0 (upd H1 D (.lst [])))
    (hq : ∀ i G, i ≤ xs.length → Pv i G → SqL K G a xs ∧ SqT K G b ys)
    (hs : ∀ (i : Nat) (x y : V) (T : Addr) (G : Hp), xs[i]? = some x → ys[i]? = some y → Pv i G → G T = none → g (.ref T) (wipe σ vs) (upd G T (.tup [x, y])) fun σ2 H2 => wipe σ2 vs = wipe σ vs ∧ tt σ2 H2 fun b H3 =>
      if b = true then te σ2 H3 fun y H4 => ∃ zs, H4 D = some (.lst zs) ∧ zs.length < sizeLine ∧ Pv (i + 1) (upd H4 D (.lst (zs ++ [y]))) else Pv (i + 1) H3) (hd : ∀ G, Pv xs.length G → Qd G) :
    ∃ W : Nat → Nat → Hp → Prop, (∃ m, W 0 m (upd H1 D (.lst []))) ∧ ∀ i m H, W i m H → ((ItM K a b).stop i H ∧ Qd H) ∨ ((ItM K a b).go i H ∧ ∃ Nx : Hp → Prop, (∀ H', Nx H' → ∃ m', m' < m ∧ W (i + 1) m' H') ∧ ∀ x H', (ItM K a b).yld i H x H' →
      g x (wipe σ vs) H' fun σ2 H2 => wipe σ2 vs = wipe σ vs ∧ tt σ2 H2 fun b H3 => if b = true then te σ2 H3 fun y H4 => ∃ zs, H4 D = some (.lst zs) ∧ zs.length < sizeLine ∧ Nx (upd H4 D (.lst (zs ++ [y]))) else Nx H3) := by
  refine ⟨fun i m H => m = xs.length - i ∧ i ≤ xs.length ∧ Pv i H, ⟨xs.length, by simp, Nat.zero_le _, h0⟩, fun i m H hw => ?_⟩
  obtain ⟨rfl, hi, p⟩ := hw
  obtain ⟨qx, qy⟩ := hq i H hi p
  by_cases lt : i < xs.length
  · refine .inr ⟨⟨xs, ys, xs[i], ys[i], qx, qy, List.getElem?_eq_getElem lt, List.getElem?_eq_getElem (by omega)⟩, Pv (i + 1), fun H' p' => ⟨xs.length - (i + 1), by omega, rfl, lt, p'⟩, fun v H' y => ?_⟩
    obtain ⟨T, x, y, rfl, nT, rfl, e1, e2⟩ := y
    exact hs i x y T H (e1 xs qx) (e2 ys qy) p nT
  · have e : i = xs.length := by omega
    subst e
    exact .inl ⟨⟨xs, ys, qx, qy, rfl, hl.symm⟩, hd H p⟩
end KX

set_option maxRecDepth 100000
set_option maxHeartbeats 4000000
/-! == of a text and a dict; x in t where x may be a dict -/
namespace KX
open PySem PySem.Spec PyProof.Rows L2
theorem str_eq_declines_dict (b : Str) (u : Tok) (l : Addr) (es : Array DictEntry) (ep : Nat) (dd : Option Addr) (sl : Array (Option Value)) :
    Meets (Builtin.«str.__eq__» ⟨[.str b u, .ref l], []⟩) (fun _ R s => s.heap.get? l = some { cls := .type "dict", dict := dd, data := .dict es ep, slots := sl } ∧ R (.ok (.ret .notImplemented)) s) :=
  .of_wp fun prog w A R s h => by obtain ⟨hp, g, d, tk, os⟩ := s; obtain ⟨hl, h⟩ := h; wp_walk using AutoSeq1.wpAny_loadPart' hl, wpAny_load hl; exact ⟨_, rfl, h⟩
theorem dict_eq_declines_str (b : Str) (u : Tok) (l : Addr) (es : Array DictEntry) (ep : Nat) (dd : Option Addr) (sl : Array (Option Value)) :
    Meets (Builtin.«dict.__eq__» ⟨[.ref l, .str b u], []⟩) (fun _ R s => s.heap.get? l = some { cls := .type "dict", dict := dd, data := .dict es ep, slots := sl } ∧ R (.ok (.ret .notImplemented)) s) :=
  .of_wp fun prog w A R s h => by obtain ⟨hp, g, d, tk, os⟩ := s; obtain ⟨hl, h⟩ := h; have f1 : isSubtype (.type "str") (.type "dict") = pure false := by rw [isSubtype_type]; kernel_rfl
                                  wp_walk using AutoSeq1.wpAny_loadPart' hl, wpAny_load hl; exact ⟨_, rfl, h⟩
section
open MeetsSeq MeetsSeq2 MeetsSeq3 SeqRoads2 SeqAt
variable {A : Around} {s : Shared}
theorem rc_str_dict {l : Addr} {o : Obj} {es : Array DictEntry} {ep : Nat} (b : Str) (u : Tok) (ho : s.heap.get? l = some o) (hc : o.cls = .type "dict") (hd : o.data = .dict es ep) (hu : A.units < cLine) : SeqAt.RcAt A s (.str b u) (.ref l) false := fun prog w E Q h => by
  obtain ⟨cls, dd, data, sl⟩ := o
  simp only at hc hd
  subst hc hd
  exact rc_eq_decline_or (k := false) (typeIs_str s b u) ⟨_, ho, rfl⟩ (by decide) PySem.F.sub_dict_str PySem.F.slot_str_eq PySem.F.slot_dict_eq_refl
    (fun _ hq => call_meets PySem.F.slot_str_eq (typeIs_str s b u) PySem.F.entry_str_eq (PySem.F.args_str_eq_2 _ _) (str_eq_declines_dict b u l es ep dd sl) ⟨ho, hq⟩)
    (fun _ hq => call_meets PySem.F.slot_dict_eq_refl ⟨_, ho, rfl⟩ PySem.F.entry_dict_eq (PySem.F.args_dict_eq_2 _ _) (dict_eq_declines_str b u l es ep dd sl) ⟨ho, hq⟩)
    (fun _ hq => wpAny_of_eq (rfl : isSame (.str b u) (.ref l) = pure false) hq) (.inr hu) h
theorem eq_str_dict {l : Addr} {o : Obj} {es : Array DictEntry} {ep : Nat} (b : Str) (u : Tok) (ho : s.heap.get? l = some o) (hc : o.cls = .type "dict") (hd : o.data = .dict es ep) (hu : A.units < cLine) : SeqAt.EqAt A s (.str b u) (.ref l) false := fun prog w E Q h => by
  unfold eqBool
  refine wpAny_holding ?_
  refine wpAny_ite_split (fun hab => absurd (eq_of_beq hab) nofun) (fun _ => ?_)
  exact wpAny_bind (rc_str_dict b u ho hc hd hu prog w E _ (wpAny_truthy_bool h))
end
/-- data without dicts, or a dict -/
def okP (d : PyData) : Prop := d.plain = true ∨ ∃ kvs, d = .dict kvs
section
variable {X : Cx}
/-- x in t: t a tuple of texts, x data, or a dict -/
def rInX (K : PySem.W.Frag) (f : Bool → Bool) : R2 := fun x y H Q => ∃ (d : PyData) (t : Addr) (ns : List Str), Dx H x d ∧ okP d ∧ y = .ref t ∧ SqT K H t (ns.map V.str) ∧ Q (.bl (f ((ns.map PyData.str).any fun z => PyData.eqv z d))) H
theorem dp_strsX {K : PySem.W.Frag} {H : Hp} : ∀ ns : List Str, DpAll K H (ns.map V.str) (ns.map PyData.str)
  | [] => .nil
  | n :: ns => .cons (.str n) (dp_strsX ns)
theorem strs_plain : ∀ ns : List Str, PyData.plainAll (ns.map PyData.str) = true ∧ PyData.depthAll (ns.map PyData.str) = 0
  | [] => ⟨rfl, by simp [PyData.depthAll]⟩
  | n :: ns => by
    obtain ⟨h1, h2⟩ := strs_plain ns
    exact ⟨by simp [PyData.plainAll, PyData.plain, h1], by simp [PyData.depthAll, PyData.depth, h2]⟩
theorem op_inX (hu : X.A.units + 64 < cLine) : OpR X (compareOp .In) (rInX X.K id) := by
  intro pins s σ H x y v u Q I rx ry h
  obtain ⟨d, t, ns, hd, od, rfl, ht, q⟩ := h
  rcases od with pd | ⟨kvs, rfl⟩
  · exact op_inTD hu pins s σ H x (.ref t) v u Q I rx ry ⟨d, ns.map PyData.str, dp_dx d x pd hd, .tup ht (dp_strsX ns), pd, (strs_plain ns).1, by rw [(strs_plain ns).2]; omega, q⟩
  · have hq : ((ns.map PyData.str).any fun z => PyData.eqv z (.dict kvs)) = false := List.any_eq_false.mpr fun z hz => by
      obtain ⟨n, _, rfl⟩ := List.mem_map.mp hz
      simp [PyData.eqv]
    rw [hq] at q
    obtain ⟨a, rfl⟩ : ∃ a, x = .ref a := by
      cases hd with
      | dic e => exact ⟨_, rfl⟩
      | dic1 e => exact ⟨_, rfl⟩
    cases ry
    cases rx
    obtain ⟨its, rv, ⟨o, ho, hc, n, hdat⟩, _⟩ := I.tuple ht
    have hdic : ∃ o es ep, s.heap.get? a = some o ∧ o.cls = .type "dict" ∧ o.data = .dict es ep := by
      cases hd with
      | dic e =>
        obtain ⟨_, _, _, _, o, es, ep, e1, ex, ed, _⟩ := (show ObjOk X.prog X.w H s.heap a (.dK []) from I.hok a _ e)
        exact ⟨o, es, ep, e1, ex.1, ed⟩
      | dic1 e =>
        obtain ⟨_, _, _, _, o, es, ep, e1, ex, ed, _⟩ := (show ObjOk X.prog X.w H s.heap a (.dK _) from I.hok a _ e)
        exact ⟨o, es, ep, e1, ex.1, ed⟩
    obtain ⟨o2, es, ep, h1, h2, h3⟩ := hdic
    refine SeqAt.in_tupleAt (e := fun _ => false) (hl := ⟨o, ho, hc, n, hdat⟩) (he := fun y hy => ?_) (h := ?_)
    · have hm : ∃ n t, y = Value.str n t := by
        have : ∀ (ns : List Str) (us : List Value), Vals (ns.map V.str) us → ∀ z ∈ us, ∃ n t, z = Value.str n t := fun ns => by
          induction ns with
          | nil => intro us r z hz; cases r; cases hz
          | cons n ns ih =>
            intro us r z hz
            cases r with
            | cons r1 r2 =>
              rcases List.mem_cons.mp hz with rfl | hz
              · obtain ⟨t, rfl⟩ := r1
                exact ⟨n, t, rfl⟩
              · exact ih _ r2 z hz
        exact this ns its rv y (by simpa using hy)
      obtain ⟨n, t, rfl⟩ := hm
      exact eq_str_dict n t h1 h2 h3 (by have : X.A.units + 64 < cLine := hu; show X.A.in1.units < cLine; exact Nat.lt_of_le_of_lt (by show X.A.units + 1 ≤ X.A.units + 64; omega) this)
    · have : (its.toArray.any fun _ => false) = false := by
        rw [← Array.any_toList]
        exact List.any_eq_false.mpr fun _ _ => by simp
      rw [this]
      exact ⟨.bl false, H, I, rfl, q⟩
end
end KX

set_option maxRecDepth 100000
set_option maxHeartbeats 4000000
/-! < of data that are alike -/
namespace KX
open PySem PySem.Spec PyProof.Rows L2
section
variable {X : Cx}
def rLtD (K : PySem.W.Frag) : R2 := fun x y H Q => ∃ d e, Dp K H x d ∧ Dp K H y e ∧ PySem.W.alike d e = true ∧ d ≠ .none ∧ min d.depth e.depth ≤ 60 ∧ Q (.bl (PySem.W.dataLt d e)) H
theorem op_ltD (hu : X.A.units + 64 < cLine) : OpR X (compareOp .Lt) (rLtD X.K) := by
  intro pins s σ H x y v u Q I rx ry h
  obtain ⟨d, e, hd, he, ha, hn, hm, q⟩ := h
  obtain ⟨as, r1⟩ := Dp.reads I d x v hd rx
  obtain ⟨bs, r2⟩ := Dp.reads I e y u he ry
  exact PySem.W.lt_data r1 r2 ha hn (by omega) ⟨.bl _, H, I, rfl, q⟩
end
end KX

set_option maxRecDepth 100000
set_option maxHeartbeats 4000000
/-! l != [], l any list -/
namespace KX
open PySem PySem.Spec PyProof.Rows L2
section
variable {X : Cx}
def rNeL0 (K : PySem.W.Frag) : R2 := fun x y H Q => ∃ a b xs, x = .ref a ∧ y = .ref b ∧ SqL K H a xs ∧ SqL K H b [] ∧ Q (.bl (!xs.isEmpty)) H
theorem op_neL0 (hu : X.A.units < cLine) : OpR X (compareOp .NotEq) (rNeL0 X.K) := by
  intro pins s σ H x y v u Q I rx ry h
  obtain ⟨a, b, xs, rfl, rfl, ha, hb, q⟩ := h
  cases rx
  cases ry
  obtain ⟨its, r1, p1, _⟩ := I.list ha
  obtain ⟨its2, r2, p2, _⟩ := I.list hb
  cases r2
  cases xs with
  | nil =>
    cases r1
    refine SeqAt.RcNeAt.lists (e := fun _ => true) p1.isList p2.isList rfl hu (fun j h1 h2 => absurd h2 (by simp)) X.prog X.w X.xe (EP X pins σ Q) ?_
    exact ⟨.bl _, H, I, rfl, q⟩
  | cons x xs =>
    cases r1
    exact SeqAt.RcNeAt.lists_lengths p1.isList p2.isList (by simp) hu X.prog X.w X.xe (EP X pins σ Q) ⟨.bl _, H, I, rfl, q⟩
end
end KX

set_option maxRecDepth 100000
set_option maxHeartbeats 400000
namespace KX
open PySem PySem.Spec PyProof.Rows L2 LamX NdefX
/-! ### a lambda with one parameter, captured names, handed to a def and called there -/
abbrev lamF (q : Str) (params : Arguments) (scope : Scope) (cl : List (Str × Addr)) (c : Addr) : NF := ⟨"<lambda>", q, params, [], scope, cl, c⟩
theorem cells_later {cl : List (Str × Addr)} {fr : List Str} {ws : List (Option V)} {fs : List Addr} {h h2 : Heap} {H H2 : Hp} (C : CellsAt cl fr ws h H) (un : Un fs [] H H2 h h2) : CellsAt cl fr ws h2 H2 := by
  have kp : ∀ y c, cl.lookup y = some c → ∀ v, h.IsCell c v → h2.IsCell c v := fun y c e v ⟨o, ho, hd⟩ => by
    obtain ⟨sl, q⟩ := un.any ho (C.all y c e).1 (by simp)
    exact ⟨_, q, hd⟩
  refine ⟨C.len, fun y c e => ?_, C.inj, fun i y e => ?_⟩
  · obtain ⟨n, v, z⟩ := C.all y c e
    refine ⟨?_, v, kp y c e v z⟩
    obtain ⟨o, ho, _⟩ := z
    exact un.free c o ho n (by simp)
  · obtain ⟨c, hc, hv⟩ := C.has i y e
    refine ⟨c, hc, fun v ev => ?_⟩
    obtain ⟨u, r, z⟩ := hv v ev
    exact ⟨u, r, kp y c hc _ z⟩
theorem vals_one {v : V} {us : List Value} (r : Vals [v] us) : ∃ u0, us = [u0] := by
  cases r with
  | cons r0 rr =>
    cases rr
    exact ⟨_, rfl⟩
/-- it runs -/
theorem lam_run {CX : CXT} {P : Program} {w : World} {K : PySem.W.Frag} {mg : Str → Option Value} {base : Heap} {N ps fr : List Str} {q : Str} {params : Arguments} {scope : Scope} {cl : List (Str × Addr)} {c' f : Addr} {body : Expr} {k : Nat} {A : Around} {outer : List PySem.Env} {s : Shared} {H : Hp}
    {us : List Value} {vs : List V} {ws : List (Option V)} {Q : VK} {E : XK} {pm ctv : Value} {t : TE} (S : NScope N ps fr scope) (hb : bindArgs (PySem.W.kla_fn "<lambda>" q params body scope cl pm (.ref c') ctv) ⟨us, []⟩ = pure (ps.zip us)) (hr : Room (k + 1) A)
    (e0 : Env0 P w K mg base A outer s H) (ho : s.heap.get? f = some (PySem.W.kla_obj "<lambda>" q params body scope cl pm c' ctv)) (hc : H c' = some (CodeO c' q)) (C : CellsAt cl fr ws s.heap H) (r : Vals vs us) (hl : vs.length = ps.length)
    (hbody : Room k (A.deeper (envF (lamF q params scope cl c') f s.heap.objs.size)) → PE (ncx CX P w K mg base N (lamF q params scope cl c') f A outer s H E) body t) (ht : t (startF N vs ws) H Q) : codeAny (model P w) A (.call (.ref f) ⟨us, []⟩) (CR CX outer P w H s Q E) s := by
  have lim : s.heap.NoLimit := e0.mod.nolimit.keeps fun b o e => (e0.bs b o e).1
  refine PySem.W.kla_callFunE hr.depth ho rfl S.co S.gen rfl (codeO_at e0.hok hc) ?_
  rw [hb]
  refine wpAny_pure (wpAny_newFunctionEnv S.nocell (fun ⟨n, _⟩ hy => S.par n (List.of_mem_zip hy).1) (fun h₁ hns hsb => ⟨lim.fresh _ hsb, ?_⟩) S.kind)
  show codeAny _ _ (.expr body (envF (lamF q params scope cl c') f s.heap.objs.size)) _ _
  have kp : ∀ b o, s.heap.get? b = some o → h₁.get? b = some o := fun b o e => hsb.extBut b o (Nat.ne_of_lt (Heap.lt_size e)) (Heap.get?_push_of_some _ e)
  have I : Inv (ncx CX P w K mg base N (lamF q params scope cl c') f A outer s H E) [] (startF N vs ws) H { s with heap := h₁, toks := s.toks + (ps.zip us).length } := inv_startN S hr.hd e0 hl r C hns kp
  refine PySem.W.kla_codeExpr (wpAny_mono ((hbody (hr.deeper _)).run [] _ _ H Q I ht) (fun v s' hq => ?_) fun e s' hq => hq)
  obtain ⟨w', H', J', rv, q⟩ := hq
  exact ⟨w', H', J'.os, J'.bare, J'.base, J'.hok, rv, q⟩
section
variable {X : Cx} {pins : List (Addr × Obj)} {σ : L2.St} {H : Hp} {s : Shared}
/-- a(e), in the def that got the lambda as a -/
theorem pe_act1 {CXg : CXT} {Eg : XK} {Ng : List Str} {qg : Str} {sg : Scope} {g f c' : Addr} {cdg pm ctv : Value} {q : Str} {params : Arguments} {body : Expr} {scope : Scope} {cl : List (Str × Addr)} {k i : Nat} {a p : Str} {pn : List (Addr × Obj)} {xe : Value → Shared → Prop} {W : WX} {tb : XK → TE} {te : TE} {e : Expr} {p1 p2 : Pos} {N fr : List Str} {ws : List (Option V)}
    (S : NScope N [p] fr scope) (C : CellsAt cl fr ws s.heap H) (hf : s.heap.get? f = some (PySem.W.kla_obj "<lambda>" q params body scope cl pm c' ctv)) (hfn : H f = none) (hfr : f ∉ frs X.stack)
    (hbind : ∀ u, bindArgs (PySem.W.kla_fn "<lambda>" q params body scope cl pm (.ref c') ctv) ⟨[u], []⟩ = pure [(p, u)])
    (tk : Takes ((cxOf CXg X.prog X.w X.K X.mg X.base Ng qg sg g cdg X.A X.stack s H Eg).tr pn xe) W) (hr : Room (k + 1) (X.A.deeper (envOfC qg sg s.heap.objs.size g cdg)))
    (hbody : ∀ (A : Around) (outer : List PySem.Env) (s : Shared) (H : Hp) (E : XK), Room k (A.deeper (envF (lamF q params scope cl c') f s.heap.objs.size)) → PE (ncx (L2.CX X.prog X.w) X.prog X.w X.K X.mg X.base N (lamF q params scope cl c') f A outer s H E) body (tb E))
    (ha : PE ((cxOf CXg X.prog X.w X.K X.mg X.base Ng qg sg g cdg X.A X.stack s H Eg).tr pn xe) e te) (he : ∀ env, starEach [e] env = (false, eval e env) :: starEach [] env)
    (hN : Ng[i]? = some a) (hv : Vis sg a) (hd : (a == ("__debug__" : Str)) = false := by decide) (hcd : (a == ("__classdict__" : Str)) = false := by decide) :
    PE ((cxOf CXg X.prog X.w X.K X.mg X.base Ng qg sg g cdg X.A X.stack s H Eg).tr pn xe) (.Call (.Name a p1) [e] [] p2)
      (fun σZ HZ Q => σZ[i]? = some (some (.ref f)) ∧ te σZ HZ fun v H1 => H1 c' = some (CodeO c' q) ∧ tb (fun cls d H' => W cls d σZ H') (startF N [v] ws) H1 Q) := by
  refine ⟨fun pinsZ sZ σZ HZ Q IZ h => ?_⟩
  obtain ⟨hs, ht⟩ := h
  refine wpAny_Call_Name_kw (thn ((pe_var (pos := p1) (i := i) hN hv hd hcd).run pinsZ sZ σZ HZ (fun v H1 => v = .ref f ∧ H1 = HZ) IZ ⟨.ref f, hs, rfl, rfl⟩) fun u s1 ⟨v, H1, I1, r1, q1⟩ => ?_)
  obtain ⟨ev, eH⟩ := q1
  subst ev
  rw [eH] at I1
  obtain rfl : u = Value.ref f := r1
  have of1 : s1.heap.get? f = some (PySem.W.kla_obj "<lambda>" q params body scope cl pm c' ctv) := I1.base.keep f _ hf hfn hfr (fun z => nomatch (show f ∈ ([] : List Addr) from z))
  refine PySem.W.callWith_F (first := []) ⟨_, _, _, _, of1⟩ (thn ((pa_cons ha pa_nil (he _)).run p2 pinsZ s1 σZ HZ (fun vs H' => ∃ v, vs = [v] ∧ H' c' = some (CodeO c' q) ∧ tb (fun cls d H' => W cls d σZ H') (startF N [v] ws) H' Q) I1 ?_) fun us s2 ⟨vs, H2, I2, r, q2⟩ => ?_) (he _) (by rfl)
  · show te σZ HZ fun v H1 => _
    have : (fun v H1 => H1 c' = some (CodeO c' q) ∧ tb (fun cls d H' => W cls d σZ H') (startF N [v] ws) H1 Q) = (fun v H1 => ∃ v', [v] = [v'] ∧ H1 c' = some (CodeO c' q) ∧ tb (fun cls d H' => W cls d σZ H') (startF N [v'] ws) H1 Q) := by
      funext v H1
      refine propext ⟨fun h => ⟨v, rfl, h⟩, fun ⟨v', e, h⟩ => ?_⟩
      cases e
      exact h
    rw [this] at ht
    exact ht
  obtain ⟨v, ev, hc, hb⟩ := q2
  subst ev
  have of2 : s2.heap.get? f = some (PySem.W.kla_obj "<lambda>" q params body scope cl pm c' ctv) := I2.base.keep f _ hf hfn hfr (fun z => nomatch (show f ∈ ([] : List Addr) from z))
  refine ⟨⟨_, _, _, _, of2⟩, ?_⟩
  show wpAny _ _ (call (.ref f) us) _ _ _
  have un : Un (frs X.stack) [] H H2 s.heap s2.heap := I2.base
  obtain ⟨u0, eu⟩ := vals_one r
  subst eu
  have rc : codeAny (model X.prog X.w) (X.A.deeper (envOfC qg sg s.heap.objs.size g cdg)) (.call (.ref f) ⟨[u0], []⟩) (CR (L2.CX X.prog X.w) (envOfC qg sg s.heap.objs.size g cdg :: X.stack) X.prog X.w H2 s2 Q (fun cls d H' => W cls d σZ H')) s2 :=
    lam_run (k := k) S (hbind u0) hr I2.env0 of2 hc (cells_later C un) r rfl (fun hr2 => hbody _ _ _ _ _ hr2) hb
  refine wpAny_call (codeAny_mono rc fun r s' hq => ?_)
  cases r with
  | error e => exact tk e s' (XE.of_call I2 (fun cls d H' h => h) hq)
  | ok fl =>
    cases fl with
    | ret u => exact I2.after hq
    | next => exact False.elim hq
    | brk => exact False.elim hq
    | cont => exact False.elim hq
end
/-- the def g (two parameters, the second is called): TT is what it makes of the lambda's reading -/
def GivesTo1 (X : Cx) (k : Nat) (Ng : List Str) (x : Str) (sg : Scope) (g : Addr) (cdg : Value) (bg : List Stmt) (a : Str) (q : Str) (TT : (XK → V → Hp → VK → Prop) → V → Hp → VK → Prop) : Prop :=
  ∀ (f c' : Addr) (s : Shared) (H : Hp) (v0 : V) (Q : VK) (tl : XK → V → Hp → VK → Prop), Room k (X.A.deeper (envOfC x sg s.heap.objs.size g cdg)) →
    (∀ (W : WX) (pn : List (Addr × Obj)) (xe : Value → Shared → Prop) (e : Expr) (te : TE) (p1 p2 : Pos), Takes ((cxOf C8.CX0 X.prog X.w X.K X.mg X.base Ng x sg g cdg X.A X.stack s H C8.E0).tr pn xe) W →
      PE ((cxOf C8.CX0 X.prog X.w X.K X.mg X.base Ng x sg g cdg X.A X.stack s H C8.E0).tr pn xe) e te → (∀ env, starEach [e] env = (false, eval e env) :: starEach [] env) →
      PE ((cxOf C8.CX0 X.prog X.w X.K X.mg X.base Ng x sg g cdg X.A X.stack s H C8.E0).tr pn xe) (.Call (.Name a p1) [e] [] p2) (fun σZ HZ Q => σZ[1]? = some (some (.ref f)) ∧ te σZ HZ fun v H1 => H1 c' = some (CodeO c' q) ∧ tl (fun cls d H' => W cls d σZ H') v H1 Q)) →
    H c' = some (CodeO c' q) → TT tl v0 H Q →
    ∃ t, PSs (cxOf C8.CX0 X.prog X.w X.K X.mg X.base Ng x sg g cdg X.A X.stack s H C8.E0).nox bg t ∧ t { nx := fun _ H' => Q .non H', rt := Q } (L2.start Ng [v0, .ref f]) H
def tLam1 (T : List (Addr × Str)) (TT : (XK → V → Hp → VK → Prop) → V → Hp → VK → Prop) (t0 : TE) (t : XK → L2.St → V → Hp → VK → Prop) : TE := fun σ H Q => t0 σ H fun v0 H0 => Tabs T H0 ∧ ∀ H1, ExtN H0 H1 → Tabs T H1 → TT (fun E v H' Q' => t E σ v H' Q') v0 H1 Q
section
variable {X : Cx}
/-- x(e, lambda p: body) -/
theorem pe_lamcall1 {T : List (Addr × Str)} {TT : (XK → V → Hp → VK → Prop) → V → Hp → VK → Prop} {x a a0 p : Str} {g c P : Addr} {k : Nat} {pg : Arguments} {bg : List Stmt} {sg : Scope} {dV kV doc pm cdv ct oc : Value} {an od : Option Addr} {osl : Array (Option Value)} {Ng N fr : List Str} {js : List Nat}
    {params : Arguments} {body e : Expr} {scope : Scope} {t : XK → TE} {t0 : TE} {pp lpos pos : Pos} (hg : Gl X x) (hm : X.mg x = some (.ref g)) (hk : PySem.W.keepIn X.K (.ref g) = true)
    (lk : X.K.lookup g = some ⟨oc, od, .func (PySem.W.fnOf x x pg bg sg dV kV doc pm an cdv ct), osl⟩) (hcg : PySem.W.codeIn X.K cdv x = true) (hb : L2.Binds X.K (PySem.W.fnOf x x pg bg sg dV kV doc pm an cdv ct) [a0, a] []) (Sg : FnScope Ng [a0, a] sg) (hNg : Ng[1]? = some a) (hva : Vis sg a)
    (hG : GivesTo1 X (k + 1) Ng x sg g cdv bg a (X.env.qual ++ "<lambda>") TT)
    (TB : TabB X.base X.mg c P) (hcode : X.env.code = .ref c) (hmT : (P, X.env.qual ++ "<lambda>") ∈ T) (hu : ∀ p ∈ T, p.1 = P → p.2 = X.env.qual ++ "<lambda>") (hr : Room (k + 2) X.A) (S : NScope N [p] fr scope)
    (hfree : ∀ y ∈ scope.names, y.2 = .free → X.env.scope.names.lookup y.1 = some .cell ∨ X.env.scope.names.lookup y.1 = some .free) (hfr : ∀ y ∈ fr, (y, NameKind.free) ∈ scope.names) (hjs : js.map (fun j => X.N[j]?) = fr.map some)
    (hdef : defaultsOf params X.env = ([], []))
    (hbind : ∀ (q : Str) (cl : List (Str × Addr)) (pm cv ctv u : Value), bindArgs (PySem.W.kla_fn "<lambda>" q params body scope cl pm cv ctv) ⟨[u], []⟩ = pure [(p, u)])
    (hbody : ∀ (A : Around) (outer : List PySem.Env) (s : Shared) (H : Hp) (E : XK) (f c' : Addr), Room k (A.deeper (envF (lamF (X.env.qual ++ "<lambda>") params scope (cloFrom X.env.cells scope.names []) c') f s.heap.objs.size)) →
      PE (ncx (L2.CX X.prog X.w) X.prog X.w X.K X.mg X.base N (lamF (X.env.qual ++ "<lambda>") params scope (cloFrom X.env.cells scope.names []) c') f A outer s H E) body (t E))
    (he : PE X e t0) (hse : ∀ env, starEach [e, .Lambda params body scope lpos] env = (false, eval e env) :: starEach [.Lambda params body scope lpos] env)
    (hdb : (x == ("__debug__" : Str)) = false := by decide) (hd : (a == ("__debug__" : Str)) = false := by decide) (hcd : (a == ("__classdict__" : Str)) = false := by decide) :
    PE X (.Call (.Name x pp) [e, .Lambda params body scope lpos] [] pos) (tLam1 T TT t0 fun E σ v H Q => t E (startF N [v] (js.map (slotAt σ))) H Q) := by
  refine ⟨fun pins s σ H Q I h => ?_⟩
  refine wpAny_Call_Name_kw (ld_glob I hg hm ?_ hdb)
  refine PySem.W.callWith_K (h₀ := X.base) I.ok.mod.kin hk ?_ (hse _) (by rfl)
  rw [hse]
  show wpAny _ _ (spliced ((false, eval e X.env) :: (false, eval (.Lambda params body scope lpos) X.env) :: backTo pos (starEach [] X.env))) _ _ s
  refine Calls.spliced_cons (thn (he.run pins s σ H _ I h) fun u0 s0 ⟨v0, H0, I0, r0, q0⟩ => ?_)
  obtain ⟨hT, h⟩ := q0
  have hfr2 : ∀ y ∈ scope.names, y.2 = .free → ∃ c, X.env.cells.lookup y.1 = some c := fun y hy e => (hfree y hy e).elim (fun z => I0.ok.has _ (.inl z)) fun z => I0.ok.has _ (.inr z)
  refine Calls.spliced_cons (lam_make2 I0 TB hcode hmT hu hT hdef hfr2 fun f c' pm' ctv H1 s' I1 eN T1 hf hfn hfr' hco => ?_)
  refine Calls.spliced_nil ⟨I1.kIn, ?_⟩
  have cp := cells_of I1 (Caps.made I1.ok hfree hfr hjs)
  have rc : codeAny (model X.prog X.w) X.A (.call (.ref g) ⟨[u0, .ref f], []⟩) (CR C8.CX0 X.stack X.prog X.w H1 s' Q C8.E0) s' := by
    refine run_ofS (N := Ng) (ps := [a0, a]) (us := [u0, .ref f]) (vs := [v0, .ref f]) lk hcg Sg hr I1.env0 (hb s' [u0, .ref f] I1.kIn rfl) (.cons r0 (.cons rfl .nil)) rfl fun hr' => ?_
    obtain ⟨t', ht', hq'⟩ := hG f c' s' H1 v0 Q (fun E v H' Q' => t E (startF N [v] (js.map (slotAt σ))) H' Q') hr' (fun W pn xe e te p1 p2 tk ha he => pe_act1 (i := 1) S cp hf hfn hfr' (hbind _ _ _ _ _) tk hr' (fun A outer s H E hr2 => hbody A outer s H E f c' hr2) ha he hNg hva hd hcd) hco (h H1 eN T1)
    exact ⟨t', ht'.nox, hq'⟩
  refine wpAny_call (codeAny_mono rc fun r s2 hq => ?_)
  cases r with
  | error e => exact (show False from hq).elim
  | ok fl =>
    cases fl with
    | ret u => exact I1.after hq
    | next => exact False.elim hq
    | brk => exact False.elim hq
    | cont => exact False.elim hq
end
end KX

set_option maxRecDepth 100000
set_option maxHeartbeats 1000000
namespace KX
open PySem PySem.Spec PyProof.Rows L2 LamX
/-! ### the law's call where defs make lambdas, and repr shows data -/
theorem lawGT {P : Program} {w : World} {K : PySem.W.Frag} {mg mb : Str → Option Value} {k : Nat} {fa a : Addr} {cs : List (Addr × Addr)} {fd : FuncData} {x : Str} {sp : Sp} {s1 : Shared} {vs : List Value} {ns : List Int}
    (KX : K.In s1.heap) (hns : s1.heap.Ns mainGlobals mg) (hb : s1.heap.Ns builtinsNs mb) (hbb : ∀ x : Str, x ≠ "__name__" → mb x = bootBuiltins x) (hlim : s1.heap.NoLimit) (hg : s1.gens = #[])
    (hT : ∀ p ∈ cs, s1.heap.get? p.2 = some { cls := .none, data := .fields #[] }) (nT : ∀ p ∈ cs, K.lookup p.2 = none) (C : ∀ p ∈ cs, PySem.W.CodeHd s1.heap p.1 p.2)
    (hbm : ∃ (bm : Addr) (ob : Obj), mg "__builtins__" = some (.ref bm) ∧ bm ≠ builtinsNs ∧ s1.heap.get? bm = some ob ∧ ob.cls = .type "module" ∧ ob.dict = some builtinsNs ∧ ob.data = .plain)
    (ha : s1.heap.get? a = some { cls := .type "list", data := .seq vs.toArray }) (hi : IntsAre vs ns) (hl : ns.length ≤ sizeLine) (hr : Room k callerA)
    (F : ∀ base : Heap, K.In base → base.Ns mainGlobals mg → (∀ p ∈ cs, TabB base mg p.1 p.2) → FnG P w K mg base CX0 k fa fd [x] sp) (hbind : ∀ (s : Shared) (u : Value), BindsTo s fd ⟨[u], []⟩ [(x, u)])
    (hsp : ∀ H : Hp, (∀ p ∈ cs, H p.2 = some (.tbl #[])) → SqL K H a (ns.map V.int) → sp [.ref a] H (fun v _ => v = .bl true) fun _ _ _ => False) :
    codeAny (model P w) callerA (.call (.ref fa) ⟨[.ref a], []⟩) (fun r s' => r = .ok (.ret (.bool true)) ∧ OldK s1.heap s'.heap ∧ s'.os = s1.os ∧ AllBare s'.gens) s1 := by
  have rv := vals_ints hi
  have lenV := hi.length
  have neA : ∀ p ∈ cs, p.2 ≠ a := fun p hp z => by
    have e := hT p hp
    rw [z, ha] at e
    cases e
  have main : ∀ H : Hp, (∀ b o, H b = some o → (b = a ∧ K.lookup a = none ∧ o = .frz { cls := .type "list", data := .seq vs.toArray } (.lst (ns.map V.int))) ∨ ∃ p ∈ cs, b = p.2 ∧ o = .tbl #[]) → (∀ p ∈ cs, H p.2 = some (.tbl #[])) → SqL K H a (ns.map V.int) →
      codeAny (model P w) callerA (.call (.ref fa) ⟨[.ref a], []⟩) (fun r s' => r = .ok (.ret (.bool true)) ∧ OldK s1.heap s'.heap ∧ s'.os = s1.os ∧ AllBare s'.gens) s1 := by
    intro H hO hH hS
    have hok : HOk P w H s1.heap := fun b o e => by
      rcases hO b o e with ⟨e1, _, e2⟩ | ⟨p, hp, e1, e2⟩
      · subst e1 e2
        exact ⟨ha, by rw [List.length_map]; exact hl, vs, _, rv, ha⟩
      · subst e1 e2
        exact hT p hp
    have none_of : ∀ {b : Addr} {o : Obj}, s1.heap.get? b = some o → (∀ vs n, o.data ≠ .seq vs n) → o.data ≠ .fields #[] → H b = none := fun {b o} e n1 n2 => by
      cases q : H b with
      | none => rfl
      | some u =>
        rcases hO b u q with ⟨e1, _, _⟩ | ⟨p, hp, e1, _⟩
        · rw [e1, ha] at e
          cases e
          exact (n1 _ _ rfl).elim
        · rw [e1, hT p hp] at e
          cases e
          exact (n2 rfl).elim
    have keep : ∀ {b : Addr} {o : Obj}, s1.heap.get? b = some o → (∀ vs n, o.data ≠ .seq vs n) → o.data ≠ .fields #[] → (hidT s1.heap H).get? b = some o := fun e n1 n2 => hidT_get e (none_of e n1 n2)
    have nsK : ∀ {b : Addr} {m : Str → Option Value}, s1.heap.Ns b m → (hidT s1.heap H).Ns b m := fun {b m} hn => by
      obtain ⟨o, es, ep, e, d, r⟩ := hn
      exact ⟨o, es, ep, keep e (fun vs n z => by rw [d] at z; cases z) (fun z => by rw [d] at z; cases z), d, r⟩
    have hKb : K.In (hidT s1.heap H) := fun b o e => hidT_get (KX b o e) (by
      cases q : H b with
      | none => rfl
      | some u =>
        rcases hO b u q with ⟨e1, e2, _⟩ | ⟨p, hp, e1, _⟩
        · rw [e1, e2] at e
          cases e
        · rw [e1, nT p hp] at e
          cases e)
    have hM : Mod K mg (hidT s1.heap H) := ⟨hKb, nsK hns, ⟨mb, nsK hb, hbb⟩, let ⟨mc, h1, h2⟩ := hlim; ⟨mc, nsK h1, h2⟩⟩
    have e0 : Env0 P w K mg (hidT s1.heap H) callerA [] s1 H := ⟨rfl, hM, fun b o e => of_hidT e, Nat.le_of_eq (hidT_size _ _), trivial, fun b hb => absurd (show b ∈ ([] : List Addr) from hb) (by simp), hok, .of_eq hg⟩
    have TB : ∀ p ∈ cs, TabB (hidT s1.heap H) mg p.1 p.2 := fun p hp => by
      refine ⟨?_, ?_, fun z => ?_⟩
      · obtain ⟨o, us, file, tf, flags, tg, inF, text, tt, e1, r1, r2, r3, rest⟩ := C p hp
        refine ⟨o, us, file, tf, flags, tg, inF, text, tt, keep e1 (fun vs n z => by rw [r2] at z; cases z) (fun z => ?_), r1, r2, r3, rest⟩
        rw [r2] at z
        cases z
        simp at r3
      · obtain ⟨bm, ob, b1, b2, b3, b4, b5, b6⟩ := hbm
        have n1 : ∀ vs n, ob.data ≠ .seq vs n := fun vs n z => by rw [b6] at z; cases z
        have n2 : ob.data ≠ .fields #[] := fun z => by rw [b6] at z; cases z
        refine ⟨bm, ob, b1, b2, fun q => ?_, fun q => ?_, keep b3 n1 n2, b4, b5, b6⟩
        · obtain ⟨o, es, ep, e, hd, _⟩ := hns
          rw [q, e] at b3
          cases b3
          rw [hd] at b6
          cases b6
        · rw [q, hT p hp] at b3
          cases b3
          cases b6
      · obtain ⟨o, es, ep, e, hd, _⟩ := hns
        rw [z, hT p hp] at e
        cases e
        cases hd
    refine codeAny_mono ((F _ hKb (nsK hns) TB).run callerA [] s1 H ⟨[.ref a], []⟩ [.ref a] [.ref a] _ _ rfl hr e0 (hbind s1 (.ref a)) (.cons rfl .nil) (hsp H hH hS)) fun r s' h => ?_
    match r, h with
    | .error e, h => exact h.elim
    | .ok (.ret u), h =>
      obtain ⟨v, H', os, bare, un, hok', r', q⟩ := h
      have q' : v = .bl true := q
      subst q'
      obtain rfl : u = Value.bool true := r'
      have key : ∀ b o, (∀ p ∈ cs, b ≠ p.2) → s1.heap.get? b = some o → s'.heap.get? b = some o := fun b o nb e => by
        cases q : H b with
        | none => exact un.keep b o e q (fun z => absurd (show b ∈ ([] : List Addr) from z) (by simp)) (by simp)
        | some u =>
          rcases hO b u q with ⟨e1, _, e2⟩ | ⟨p, hp, e1, _⟩
          · rw [e2] at q
            obtain ⟨f1, _⟩ := hok b _ q
            obtain ⟨f2, _⟩ := hok' b _ (un.frzs b _ _ q)
            rw [e] at f1
            cases f1
            exact f2
          · exact (nb p hp e1).elim
      have grown : ∀ p ∈ cs, ∃ more : Array Value, s'.heap.get? p.2 = some { cls := .none, data := .fields more } := fun p hp => by
        obtain ⟨more, z⟩ := un.tbls p.2 #[] (hH p hp)
        exact ⟨_, hok' p.2 _ z⟩
      refine ⟨rfl, ⟨fun b o e => ?_, fun b o e => ?_⟩, os, bare⟩
      · by_cases hb : ∃ p ∈ cs, b = p.2
        · obtain ⟨p, hp, ep⟩ := hb
          obtain ⟨more, hm⟩ := grown p hp
          rw [ep] at e ⊢
          rw [hT p hp] at e
          cases e
          exact .inr (.inl ⟨((C p hp).tab (hT p hp)).isCodeTable, rfl, #[], more, rfl, by rw [Array.empty_append]; exact hm⟩)
        · exact .inl (key b o (fun p hp z => hb ⟨p, hp, z⟩) e)
      · by_cases hb : ∃ p ∈ cs, b = p.2
        · obtain ⟨p, hp, ep⟩ := hb
          obtain ⟨more, hm⟩ := grown p hp
          rw [ep]
          exact ⟨_, hm⟩
        · exact ⟨o, key b o (fun p hp z => hb ⟨p, hp, z⟩) e⟩
  cases hk : K.lookup a with
  | some o =>
    have e := KX a o hk
    rw [ha] at e
    cases e
    refine main (fun b => if ∃ p ∈ cs, b = p.2 then some (.tbl #[]) else none) (fun b u z => ?_) (fun p hp => if_pos ⟨p, hp, rfl⟩) (.inr ⟨_, vs.toArray, _, hk, rfl, rfl, rfl, by rw [List.size_toArray, lenV]; exact hl, by simpa using rv⟩)
    by_cases hb : ∃ p ∈ cs, b = p.2
    · have z' := (if_pos hb).symm.trans z
      cases z'
      obtain ⟨p, hp, e⟩ := hb
      exact .inr ⟨p, hp, e, rfl⟩
    · have z' := (if_neg hb).symm.trans z
      cases z'
  | none =>
    refine main (fun b => if b = a then some (.frz { cls := .type "list", data := .seq vs.toArray } (.lst (ns.map V.int))) else if ∃ p ∈ cs, b = p.2 then some (.tbl #[]) else none) (fun b u z => ?_) (fun p hp => (if_neg (neA p hp)).trans (if_pos ⟨p, hp, rfl⟩)) (.inl (.inr ⟨_, if_pos rfl⟩))
    by_cases hb : b = a
    · have z' := (if_pos hb).symm.trans z
      cases z'
      exact .inl ⟨hb, hk, rfl⟩
    · have z1 := (if_neg hb).symm.trans z
      by_cases hb2 : ∃ p ∈ cs, b = p.2
      · have z' := (if_pos hb2).symm.trans z1
        cases z'
        obtain ⟨p, hp, e⟩ := hb2
        exact .inr ⟨p, hp, e, rfl⟩
      · have z' := (if_neg hb2).symm.trans z1
        cases z'
/-- the table of the def that stands at f is empty -/
def EmptyTab (K : PySem.W.Frag) (f : Addr) (h : Heap) : Prop := OwnTab K f h
theorem walkGT {l : PySem.W.OpenLaw} {n k : Nat} {q : Program} {loose : List Str} {XP : (Str → Option Value) → Heap → Prop} {YP : World → Heap → Prop} {d : DefRec} {K : Params → PySem.W.Frag} {x : Str}
    (hn : l.most = some n) (hn2 : n ≤ sizeLine) (hdf : d.params.defaults = []) (hr : Room k callerA) (hY : ∀ (w : World) (h : Heap), YP w h → (K w.params).In h)
    (F : ∀ (w : World) (mg : Str → Option Value) (fa : Addr) (h : Heap), (K w.params).In h → h.Ns mainGlobals mg → mg d.name = some (.ref fa) → (∀ y : Str, ((recsOf q).any fun e => e.name == y) = true → ∀ f : Addr, mg y = some (.ref f) → OwnTab (K w.params) f h) →
      ∃ (fd : FuncData) (cs : List (Addr × Addr)) (sp : Sp), (∀ p ∈ cs, h.get? p.2 = some { cls := .none, data := .fields #[] }) ∧ (∀ p ∈ cs, (K w.params).lookup p.2 = none) ∧ (∀ p ∈ cs, PySem.W.CodeHd h p.1 p.2) ∧ (∀ (s : Shared) (u : Value), BindsTo s fd ⟨[u], []⟩ [(x, u)]) ∧
        (∀ (H : Hp) (a : Addr) (ns : List Int), ns.length ≤ n → (∀ p ∈ cs, H p.2 = some (.tbl #[])) → SqL (K w.params) H a (ns.map V.int) → sp [.ref a] H (fun v _ => v = .bl true) fun _ _ _ => False) ∧
        ∀ base : Heap, (K w.params).In base → base.Ns mainGlobals mg → (∀ p ∈ cs, TabB base mg p.1 p.2) → FnG l.prog w (K w.params) mg base CX0 k fa fd [x] sp) :
    PySem.W.WalkO q loose XP YP l.row.toRowW d [] (fun f vs => PySem.call f vs) := by
  refine Att.attach_callB hn hdf fun w s₀ s₁ mg mb fa o pm cd doc a vs ns G Y ho hd hcd hmg hobj hints hlen hbits hg => ?_
  have KX := hY w _ Y
  have own : ∀ y : Str, ((recsOf q).any fun e => e.name == y) = true → ∀ f : Addr, mg y = some (.ref f) → OwnTab (K w.params) f s₁.heap := fun y hrec f hf c P o1 fd1 e dd vs1 sl k1 k2 k3 k4 k5 => by
    obtain ⟨dL, hm, hn1⟩ := List.any_eq_true.mp hrec
    have hn2 : dL.name = y := beq_iff_eq.mp hn1
    obtain ⟨a', o', fd', c', P', h1, h2, h3, h4, h5, h6⟩ := G.T.tab dL hm
    rw [hn2, hf] at h1
    cases h1
    have g1 := KX _ _ k1
    rw [g1] at h2
    cases h2
    rw [k2] at h3
    cases h3
    rw [k3] at h4
    cases h4
    obtain ⟨⟨oc, vc, e1, _, e3, e4⟩, hP⟩ := h6
    have g2 := KX _ _ k4
    rw [g2] at e1
    cases e1
    cases e3
    rw [k5] at e4
    cases e4
    exact hP
  obtain ⟨fd, cs, sp, hT, nT, C, hb, hsp, hF⟩ := F w mg fa _ KX G.T.g hmg own
  exact lawGT KX G.T.g G.T.b G.T.builtins G.T.nolimit hg hT nT C G.T.bmain hobj hints (Nat.le_trans hlen hn2) hr hF hb fun H hH hS => hsp H a ns hlen hH hS
end KX

set_option maxRecDepth 100000
set_option maxHeartbeats 1000000
namespace KX
open PySem PySem.Spec PyProof.Rows L2 LamX
/-! ### tables beside the stream; data where tables grow -/
theorem tabs_keep {l : Addr} {T : List (Addr × Str)} {H H' : Hp} (k : Keep l H H') (st : StO H l) (t : Tabs T H) : Tabs T H' := fun p hp => by
  obtain ⟨ps, h1, h2, h3⟩ := t p hp
  obtain ⟨x, y, z, el⟩ := st
  refine ⟨ps, k _ _ (fun e => ?_) h1, h2, fun pos cv hc => ?_⟩
  · rw [e, el] at h1
    cases h1
  · obtain ⟨c, e1, e2⟩ := h3 pos cv hc
    refine ⟨c, e1, k _ _ (fun e => ?_) e2⟩
    rw [e, el] at e2
    unfold CodeO at e2
    cases e2
/-- without the tables -/
def noT (H : Hp) : Hp := fun b => match H b with
  | some (.tbl _) => none
  | o => o
theorem noT_same {H : Hp} : Same (noT H) H := fun b o e => by
  unfold noT at e
  cases h : H b with
  | none => rw [h] at e; cases e
  | some u =>
    rw [h] at e
    cases u <;> first | exact e | cases e
theorem noT_at {H : Hp} {b : Addr} {o : HO} (h : H b = some o) (n : ∀ ps, o ≠ .tbl ps) : noT H b = some o := by
  unfold noT
  rw [h]
  cases o <;> first | rfl | exact (n _ rfl).elim
theorem noT_ext {H H' : Hp} (e : ExtN H H') : Same (noT H) (noT H') := fun b o h => by
  have n : ∀ ps, o ≠ .tbl ps := fun ps z => by
    subst z
    unfold noT at h
    cases q : H b with
    | none => rw [q] at h; cases h
    | some u =>
      rw [q] at h
      cases u <;> cases h
  exact noT_at (e b o (noT_same b o h) n) n
mutual
theorem Dx.noT {H : Hp} {v : V} {d : PyData} : Dx H v d → Dx (KX.noT H) v d
  | .non => .non
  | .bl b => .bl b
  | .int i => .int i
  | .str x => .str x
  | .tup e h => .tup (noT_at e fun _ z => by cases z) (Dxs.noT h)
  | .lst e n h => .lst (noT_at e fun _ z => by cases z) n (Dxs.noT h)
  | .dic e => .dic (noT_at e fun _ z => by cases z)
  | .dic1 e => .dic1 (noT_at e fun _ z => by cases z)
theorem Dxs.noT {H : Hp} {vs : List V} {ds : List PyData} : Dxs H vs ds → Dxs (KX.noT H) vs ds
  | .nil => .nil
  | .cons h hs => .cons (Dx.noT h) (Dxs.noT hs)
end
theorem Dx.ext {H H' : Hp} {v : V} {d : PyData} (h : Dx H v d) (e : ExtN H H') : Dx H' v d := (h.noT.up (noT_ext e)).up noT_same
theorem sto_ext {l : Addr} {H H' : Hp} (st : StO H l) (e : ExtN H H') : StO H' l := by
  obtain ⟨x, y, z, el⟩ := st
  exact ⟨x, y, z, e _ _ el fun ps q => by cases q⟩
theorem seq_ext {K : PySem.W.Frag} {H H' : Hp} {a : Addr} {xs : List V} (h : SqL K H a xs) (e : ExtN H H') : SqL K H' a xs := by
  rcases h with (h | ⟨o, h⟩) | h
  · exact .inl (.inl (e _ _ h fun ps q => by cases q))
  · exact .inl (.inr ⟨o, e _ _ h fun ps q => by cases q⟩)
  · exact .inr h
end KX

set_option maxRecDepth 100000
set_option maxHeartbeats 1000000
namespace KX
open PySem PySem.Spec PyProof.Rows L2 LamX
/-! ### a callee that doesn't get the list at p: it leaves it, and what it makes doesn't hold it -/
def frameL (sp : Sp) : Sp := fun vs H Q E => ∃ p xs, H p = some (.lst xs) ∧ sp vs (hid p H) (fun v H' => H' p = none → Q v (upd H' p (.lst xs))) E
section
variable {P : Program} {w : World} {K : PySem.W.Frag} {mg : Str → Option Value} {base : Heap} {k : Nat} {f : Addr} {fd : FuncData} {ps : List Str} {sp : Sp}
theorem hok_hid {H : Hp} {h : Heap} {p : Addr} {xs : List V} (ok : HOk P w H h) (e : H p = some (.lst xs)) : HOk P w (hid p H) h := fun b o q => by
  obtain ⟨n, q⟩ := hid_some q
  refine (ok b o q).stay (fun _ _ _ z => z) (fun c z => ?_) fun c ys z => ?_
  · rw [hid_at (fun y => by rw [y, e] at z; cases z)]
    exact z
  · rw [hid_at (fun y => by rw [y, e] at z; cases z)]
    exact z
theorem hok_back {H : Hp} {h : Heap} {p : Addr} {xs : List V} (ok : HOk P w H h) (n : H p = none) (x : ObjOk P w H h p (.lst xs)) : HOk P w (upd H p (.lst xs)) h := fun b o q => by
  by_cases hb : b = p
  · subst hb
    rw [upd_same] at q
    cases q
    exact x
  · rw [upd_ne hb] at q
    refine (ok b o q).stay (fun _ _ _ z => z) (fun c z => ?_) fun c ys z => ?_
    · rw [upd_ne (ne_of_none z n)]
      exact z
    · rw [upd_ne (ne_of_none z n)]
      exact z
theorem FnOk.frame (F : FnOk P w K mg base CX0 k f fd ps sp) : FnOk P w K mg base CX0 k f fd ps (frameL sp) := by
  refine ⟨fun vs H Q E h => ?_, fun A outer s H args us vs Q E hr e0 hb hv h => ?_⟩
  · obtain ⟨p, xs, _, h⟩ := h
    exact F.len _ _ _ _ h
  · obtain ⟨p, xs, e, h⟩ := h
    have nf : p ∉ frs outer := fun z => by
      rw [e0.frf p z] at e
      cases e
    have e1 : Env0 P w K mg base A outer s (hid p H) := ⟨e0.frames, e0.mod, fun b o z => ⟨(e0.bs b o z).1, by
      unfold hid
      split
      · rfl
      · exact (e0.bs b o z).2⟩, e0.bsz, e0.funs, fun b z => by
      unfold hid
      split
      · rfl
      · exact e0.frf b z, hok_hid e0.hok e, e0.bare⟩
    refine codeAny_mono (F.run A outer s (hid p H) args us vs _ E hr e1 hb hv h) fun r s' hq => ?_
    match r, hq with
    | .ok (.ret u), hq =>
      obtain ⟨v, H', os, bare, un, hok, r, q⟩ := hq
      have hn : hid p H p = none := if_pos rfl
      have x0 := e0.hok p _ e
      obtain ⟨ob, ho⟩ : ∃ ob, s.heap.get? p = some ob := by
        obtain ⟨_, its, n, _, z⟩ := x0
        exact ⟨_, z⟩
      have hp : H' p = none := un.free p ob ho hn (by simp)
      have kp := un.keep p ob ho hn nf (by simp)
      have x1 : ObjOk P w H' s'.heap p (.lst xs) := by
        obtain ⟨z, its, n, r, z2⟩ := x0
        rw [ho] at z2
        cases z2
        exact ⟨z, its, n, r, kp⟩
      have cs : ∀ {b : Addr} {o : HO}, H b = some o → (∀ ys, o ≠ .lst ys) → hid p H b = some o ∧ b ≠ p := fun {b o} z n => by
        have ne : b ≠ p := fun y => by
          rw [y, e] at z
          cases z
          exact n _ rfl
        exact ⟨by rw [hid_at ne]; exact z, ne⟩
      refine ⟨v, upd H' p (.lst xs), os, bare, ⟨fun b o z n => un.keep b o z (by unfold hid; split <;> first | rfl | exact n), fun b o z n => un.slot b o z (by unfold hid; split <;> first | rfl | exact n), fun b o z n nx => ?_, un.there, fun b ys z => ?_, fun b o u z => ?_, fun b us z => ?_⟩, hok_back hok hp x1, r, q hp⟩
      · have ne : b ≠ p := fun y => by
          rw [y, e] at n
          cases n
        rw [upd_ne ne]
        exact un.free b o z (by rw [hid_at ne]; exact n) nx
      · obtain ⟨c1, c2⟩ := cs z (fun _ y => by cases y)
        rw [upd_ne c2]
        exact un.tups b ys c1
      · obtain ⟨c1, c2⟩ := cs z (fun _ y => by cases y)
        rw [upd_ne c2]
        exact un.frzs b o u c1
      · obtain ⟨c1, c2⟩ := cs z (fun _ y => by cases y)
        rw [upd_ne c2]
        exact un.tbls b us c1
    | .error e, hq => exact (show False from hq).elim
end
/-- the values that a comprehension has made so far, beside the stream -/
theorem hid_comm {a b : Addr} {H : Hp} : hid a (hid b H) = hid b (hid a H) := by
  funext c
  unfold hid
  by_cases h1 : c = a <;> by_cases h2 : c = b <;> simp [h1, h2]
theorem hid_upd {p : Addr} {H : Hp} {o : HO} (n : H p = none) : hid p (upd H p o) = H := by
  funext c
  by_cases h : c = p
  · subst h
    unfold hid
    rw [if_pos rfl, n]
  · rw [hid_at h, upd_ne h]
/-- the law's call, the tables by what the top says -/
theorem walkGY {l : PySem.W.OpenLaw} {n k : Nat} {q : Program} {loose : List Str} {XP : (Str → Option Value) → Heap → Prop} {YP : World → Heap → Prop} {d : DefRec} {K : Params → PySem.W.Frag} {x : Str}
    (hn : l.most = some n) (hn2 : n ≤ sizeLine) (hdf : d.params.defaults = []) (hr : Room k callerA) (hY : ∀ (w : World) (h : Heap), YP w h → (K w.params).In h)
    (F : ∀ (w : World) (mg : Str → Option Value) (fa : Addr) (h : Heap), (K w.params).In h → h.Ns mainGlobals mg → mg d.name = some (.ref fa) → YP w h →
      ∃ (fd : FuncData) (cs : List (Addr × Addr)) (sp : Sp), (∀ p ∈ cs, h.get? p.2 = some { cls := .none, data := .fields #[] }) ∧ (∀ p ∈ cs, (K w.params).lookup p.2 = none) ∧ (∀ p ∈ cs, PySem.W.CodeHd h p.1 p.2) ∧ (∀ (s : Shared) (u : Value), BindsTo s fd ⟨[u], []⟩ [(x, u)]) ∧
        (∀ (H : Hp) (a : Addr) (ns : List Int), ns.length ≤ n → (∀ p ∈ cs, H p.2 = some (.tbl #[])) → SqL (K w.params) H a (ns.map V.int) → sp [.ref a] H (fun v _ => v = .bl true) fun _ _ _ => False) ∧
        ∀ base : Heap, (K w.params).In base → base.Ns mainGlobals mg → (∀ p ∈ cs, TabB base mg p.1 p.2) → FnG l.prog w (K w.params) mg base CX0 k fa fd [x] sp) :
    PySem.W.WalkO q loose XP YP l.row.toRowW d [] (fun f vs => PySem.call f vs) := by
  refine Att.attach_callB hn hdf fun w s₀ s₁ mg mb fa o pm cd doc a vs ns G Y ho hd hcd hmg hobj hints hlen hbits hg => ?_
  have KX := hY w _ Y
  obtain ⟨fd, cs, sp, hT, nT, C, hb, hsp, hF⟩ := F w mg fa _ KX G.T.g hmg Y
  exact lawGT KX G.T.g G.T.b G.T.builtins G.T.nolimit hg hT nT C G.T.bmain hobj hints (Nat.le_trans hlen hn2) hr hF hb fun H hH hS => hsp H a ns hlen hH hS
end KX

set_option maxRecDepth 100000
set_option maxHeartbeats 1000000
/-! any data against a text: ==, and in a tuple of texts -/
namespace KX
open PySem PySem.Spec PyProof.Rows L2
section
open MeetsSeq MeetsSeq2 MeetsSeq3 SeqRoads2 SeqAt
variable {A : Around} {s : Shared}
theorem rc_dict_str {l : Addr} {o : Obj} {es : Array DictEntry} {ep : Nat} (b : Str) (u : Tok) (ho : s.heap.get? l = some o) (hc : o.cls = .type "dict") (hd : o.data = .dict es ep) (hu : A.units < cLine) : SeqAt.RcAt A s (.ref l) (.str b u) false := fun prog w E Q h => by
  obtain ⟨cls, dd, data, sl⟩ := o
  simp only at hc hd
  subst hc hd
  exact rc_eq_decline_or (k := false) ⟨_, ho, rfl⟩ (typeIs_str s b u) (by decide) PySem.F.sub_str_dict PySem.F.slot_dict_eq PySem.F.slot_str_eq_refl
    (fun _ hq => call_meets PySem.F.slot_dict_eq ⟨_, ho, rfl⟩ PySem.F.entry_dict_eq (PySem.F.args_dict_eq_2 _ _) (dict_eq_declines_str b u l es ep dd sl) ⟨ho, hq⟩)
    (fun _ hq => call_meets PySem.F.slot_str_eq_refl (typeIs_str s b u) PySem.F.entry_str_eq (PySem.F.args_str_eq_2 _ _) (str_eq_declines_dict b u l es ep dd sl) ⟨ho, hq⟩)
    (fun _ hq => wpAny_of_eq (rfl : isSame (.ref l) (.str b u) = pure false) hq) (.inr hu) h
end
section
variable {X : Cx}
theorem dic_at {pins : List (Addr × Obj)} {σ : L2.St} {H : Hp} {s : Shared} {a : Addr} {kvs : List (Key × V)} (I : Inv X pins σ H s) (e : H a = some (.dK kvs)) : ∃ o es ep, s.heap.get? a = some o ∧ o.cls = .type "dict" ∧ o.data = .dict es ep := by
  obtain ⟨_, _, _, _, o, es, ep, e1, ex, ed, _⟩ := (show ObjOk X.prog X.w H s.heap a (.dK kvs) from I.hok a _ e)
  exact ⟨o, es, ep, e1, ex.1, ed⟩
/-- the data d is the text n -/
def isSt (n : Str) : PyData → Bool
  | .str m => decide (m = n)
  | _ => false
theorem isSt_is {n : Str} {d : PyData} (h : isSt n d = true) : d = .str n := by
  cases d with
  | str m => rw [of_decide_eq_true h]
  | _ => cases h
theorem rc_data_str {pins : List (Addr × Obj)} {σ : L2.St} {H : Hp} {s : Shared} {A : Around} {x : V} {d : PyData} {v : Value} {n : Str} {u : Tok} (I : Inv X pins σ H s) (hd : Dx H x d) (r : RelV x v) (hu : A.units < cLine) : SeqAt.RcAt A s v (.str n u) (isSt n d) := by
  cases hd with
  | non =>
    cases r
    exact SeqAt.RcAt.none_str n u
  | bl b =>
    cases r
    exact SeqAt.RcAt.bool_str b n u
  | int i =>
    obtain ⟨t, rfl⟩ := (show ∃ t, v = Value.int i t from r)
    exact SeqAt.RcAt.int_str i t n u
  | str y =>
    obtain ⟨t, rfl⟩ := (show ∃ t, v = Value.str y t from r)
    rw [show isSt n (.str y) = (y == n) by
      show decide (y = n) = (y == n)
      by_cases h : y = n
      · subst h; simp
      · rw [decide_eq_false h]; symm; simpa using h]
    exact SeqAt.RcAt.str_str y t n u
  | @tup a xs ds e h =>
    cases (show v = Value.ref a from r)
    obtain ⟨its, r1, p1, _⟩ := I.tuple (show SqT X.K H a xs from .inl (.inl e))
    exact SeqAt.RcAt.tuple_str n u p1 hu
  | @lst a xs ds e _ h =>
    cases (show v = Value.ref a from r)
    obtain ⟨_, its, k, _, z⟩ := (show ObjOk X.prog X.w H s.heap a (.lst xs) from I.hok a _ e)
    exact SeqAt.RcAt.list_str n u ⟨_, z, rfl, _, rfl⟩ hu
  | @dic a e =>
    cases (show v = Value.ref a from r)
    obtain ⟨o, es, ep, h1, h2, h3⟩ := dic_at I e
    exact rc_dict_str n u h1 h2 h3 hu
  | @dic1 a _ _ e =>
    cases (show v = Value.ref a from r)
    obtain ⟨o, es, ep, h1, h2, h3⟩ := dic_at I e
    exact rc_dict_str n u h1 h2 h3 hu
theorem eq_str_data {pins : List (Addr × Obj)} {σ : L2.St} {H : Hp} {s : Shared} {A : Around} {x : V} {d : PyData} {v : Value} {n : Str} {u : Tok} (I : Inv X pins σ H s) (hd : Dx H x d) (r : RelV x v) (hu : A.units < cLine) : SeqAt.EqAt A s (.str n u) v (isSt n d) := by
  cases hd with
  | non =>
    cases r
    exact SeqAt.EqAt.str_none n u
  | bl b =>
    cases r
    exact SeqAt.EqAt.str_bool n u b
  | int i =>
    obtain ⟨t, rfl⟩ := (show ∃ t, v = Value.int i t from r)
    exact SeqAt.EqAt.str_int n u i t
  | str y =>
    obtain ⟨t, rfl⟩ := (show ∃ t, v = Value.str y t from r)
    rw [show isSt n (.str y) = (n == y) by
      show decide (y = n) = (n == y)
      by_cases h : y = n
      · subst h; simp
      · rw [decide_eq_false h]; symm; simpa using fun z : n = y => h z.symm]
    exact SeqAt.EqAt.str_str n u y t
  | @tup a xs ds e h =>
    cases (show v = Value.ref a from r)
    obtain ⟨its, r1, p1, _⟩ := I.tuple (show SqT X.K H a xs from .inl (.inl e))
    exact SeqAt.EqAt.str_tuple n u p1 hu
  | @lst a xs ds e _ h =>
    cases (show v = Value.ref a from r)
    obtain ⟨_, its, k, _, z⟩ := (show ObjOk X.prog X.w H s.heap a (.lst xs) from I.hok a _ e)
    exact SeqAt.EqAt.str_list n u ⟨_, z, rfl, _, rfl⟩ hu
  | @dic a e =>
    cases (show v = Value.ref a from r)
    obtain ⟨o, es, ep, h1, h2, h3⟩ := dic_at I e
    exact eq_str_dict n u h1 h2 h3 hu
  | @dic1 a _ _ e =>
    cases (show v = Value.ref a from r)
    obtain ⟨o, es, ep, h1, h2, h3⟩ := dic_at I e
    exact eq_str_dict n u h1 h2 h3 hu
/-- x == 'n', x any data -/
def rEqS : R2 := fun x y H Q => ∃ d n, Dx H x d ∧ y = .str n ∧ Q (.bl (isSt n d)) H
theorem op_eqS (hu : X.A.units < cLine) : OpR X (compareOp .Eq) rEqS := by
  intro pins s σ H x y v u Q I rx ry h
  obtain ⟨d, n, hd, rfl, q⟩ := h
  obtain ⟨t, rfl⟩ := (show ∃ t, u = Value.str n t from ry)
  exact rc_data_str I hd rx hu X.prog X.w X.xe _ ⟨.bl _, H, I, rfl, q⟩
/-- x in t, x not in t: t a tuple of texts, x any data -/
def rInA (K : PySem.W.Frag) (f : Bool → Bool) : R2 := fun x y H Q => ∃ (d : PyData) (t : Addr) (ns : List Str), Dx H x d ∧ y = .ref t ∧ SqT K H t (ns.map V.str) ∧ Q (.bl (f (ns.any fun n => isSt n d))) H
theorem vals_strs : ∀ (ns : List Str) (us : List Value), Vals (ns.map V.str) us → ∀ z ∈ us, ∃ n t, z = Value.str n t := fun ns => by
  induction ns with
  | nil => intro us r z hz; cases r; cases hz
  | cons n ns ih =>
    intro us r z hz
    cases r with
    | cons r1 r2 =>
      rcases List.mem_cons.mp hz with rfl | hz
      · obtain ⟨t, rfl⟩ := r1
        exact ⟨n, t, rfl⟩
      · exact ih _ r2 z hz
def isS (d : PyData) : Value → Bool
  | .str m _ => isSt m d
  | _ => false
theorem any_isS {d : PyData} : ∀ (ns : List Str) (us : List Value), Vals (ns.map V.str) us → us.any (isS d) = ns.any fun n => isSt n d := fun ns => by
  induction ns with
  | nil => intro us r; cases r; rfl
  | cons n ns ih =>
    intro us r
    cases r with
    | cons r1 r2 =>
      obtain ⟨t, rfl⟩ := r1
      rw [List.any_cons, List.any_cons, ih _ r2]
      rfl
theorem op_inA (hu : X.A.units + 64 < cLine) : OpR X (compareOp .In) (rInA X.K id) := by
  intro pins s σ H x y v u Q I rx ry h
  obtain ⟨d, t, ns, hd, rfl, ht, q⟩ := h
  cases ry
  obtain ⟨its, rv, ⟨o, ho, hc, n, hdat⟩, _⟩ := I.tuple ht
  refine SeqAt.in_tupleAt (e := isS d) (hl := ⟨o, ho, hc, n, hdat⟩) (he := fun y hy => ?_) (h := ?_)
  · obtain ⟨m, t, rfl⟩ := vals_strs ns its rv y (by simpa using hy)
    exact eq_str_data I hd rx (by have : X.A.units + 64 < cLine := hu; show X.A.in1.units < cLine; exact Nat.lt_of_le_of_lt (by show X.A.units + 1 ≤ X.A.units + 64; omega) this)
  · have e : its.toArray.any (isS d) = ns.any fun n => isSt n d := by
      rw [← Array.any_toList]
      exact any_isS ns its rv
    rw [e]
    exact ⟨.bl _, H, I, rfl, q⟩
theorem op_ninA (hu : X.A.units + 64 < cLine) : OpR X (compareOp .NotIn) (rInA X.K not) := by
  intro pins s σ H x y v u Q I rx ry h
  obtain ⟨d, t, ns, hd, rfl, ht, q⟩ := h
  cases ry
  obtain ⟨its, rv, ⟨o, ho, hc, n, hdat⟩, _⟩ := I.tuple ht
  refine SeqAt.notIn_tupleAt (e := isS d) (hl := ⟨o, ho, hc, n, hdat⟩) (he := fun y hy => ?_) (h := ?_)
  · obtain ⟨m, t, rfl⟩ := vals_strs ns its rv y (by simpa using hy)
    exact eq_str_data I hd rx (by have : X.A.units + 64 < cLine := hu; show X.A.in1.units < cLine; exact Nat.lt_of_le_of_lt (by show X.A.units + 1 ≤ X.A.units + 64; omega) this)
  · have e : its.toArray.any (isS d) = ns.any fun n => isSt n d := by
      rw [← Array.any_toList]
      exact any_isS ns its rv
    rw [e]
    exact ⟨.bl _, H, I, rfl, q⟩
/-- t == (), t any tuple -/
def rEq0 (K : PySem.W.Frag) : R2 := fun x y H Q => ∃ a b xs, x = .ref a ∧ y = .ref b ∧ SqT K H a xs ∧ SqT K H b [] ∧ Q (.bl xs.isEmpty) H
theorem op_eq0 (hu : X.A.units < cLine) : OpR X (compareOp .Eq) (rEq0 X.K) := by
  intro pins s σ H x y v u Q I rx ry h
  obtain ⟨a, b, xs, rfl, rfl, ha, hb, q⟩ := h
  cases rx
  cases ry
  obtain ⟨its, r1, p1, _⟩ := I.tuple ha
  obtain ⟨its2, r2, p2, _⟩ := I.tuple hb
  cases r2
  have e : ((List.range (min its.toArray.size ([] : List Value).toArray.size)).all (fun _ => true) && its.toArray.size == ([] : List Value).toArray.size) = xs.isEmpty := by
    have := r1.length
    cases xs with
    | nil =>
      cases its with
      | nil => rfl
      | cons _ _ => simp at this
    | cons _ _ =>
      cases its with
      | nil => simp at this
      | cons _ _ => simp
  refine SeqAt.RcAt.tuples (e := fun _ => true) p1 p2 hu (fun j h1 h2 => absurd h2 (by simp)) X.prog X.w X.xe (EP X pins σ Q) ?_
  rw [e]
  exact ⟨.bl _, H, I, rfl, q⟩
end
end KX

set_option maxRecDepth 100000
set_option maxHeartbeats 4000000
namespace I1
open PySem PySem.Spec PyProof.Rows L2 KX
def clsB : Stmt → List Stmt
  | .ClassDef (body := b) .. => b
  | _ => []
end I1

set_option maxRecDepth 100000
set_option maxHeartbeats 4000000
namespace I1
open PySem PySem.Spec PyProof.Rows L2 KX
abbrev sDraw : Stmt := topS 53
abbrev sStream : Stmt := topS 52
def spDraw : Sp := fun vs H Q _ => ∃ (l : Addr) (t : Int), vs = [.ref l, .int t] ∧ StO H l ∧ 0 < t ∧ t < 2 ^ 64 ∧ ∀ H' n, Keep l H H' → StO H' l → 0 ≤ n → n < t → Q (.int n) H'
theorem scDraw : FnScope ["stream", "total", "found", "one", "stir", "two"] ["stream", "total"] (defScope sDraw) := ⟨rfl, rfl, rfl, by decide +kernel, rfl, by decide +kernel, by decide +kernel⟩
theorem i63 {a b c : Int} : atI [V.int a, V.int b, V.int c] 0 = some (V.int a) ∧ atI [V.int a, V.int b, V.int c] 1 = some (V.int b) ∧ atI [V.int a, V.int b, V.int c] 2 = some (V.int c) := ⟨rfl, rfl, rfl⟩
theorem mod_bd {x m : Int} (h : 0 < m) (h2 : m < 2 ^ 64) : -(2 ^ 64) < x % m ∧ x % m < 2 ^ 64 := by
  have a := Int.emod_nonneg x (show m ≠ 0 by omega)
  have b := Int.emod_lt_of_pos x h
  omega
section
variable {P : Program} {w : World} {K : PySem.W.Frag} {mg : Str → Option Value} {base : Heap}
theorem ok_draw {f : Addr} {fd : FuncData} (B : Bl mg) (D : Df K mg "_law_draw" sDraw ["stream", "total"] f fd) : FnOk P w K mg base CX0 1 f fd ["stream", "total"] spDraw := by
  refine D.F.ok scDraw (fun vs H Q E h => ?_) (fun cdv A outer s H vs Q E hr h => ?_)
  · obtain ⟨l, t, rfl, _⟩ := h
    rfl
  · obtain ⟨l, t, rfl, ⟨a, b, c, el⟩, t0, t1, q⟩ := h
    have nd := scDraw.nd
    refine ⟨_, pss_cons (ps_if (pt_cmpR op_gt (pe_ix ix_list (pv 0) pe_int (fun _ _ => rfl)) pe_int (nomark _))
        (pss_cons (ps_set (i := 2) nd rfl (.inl rfl) (pe_op op_mod (pe_ix ix_list (pv 0) pe_int (fun _ _ => rfl)) (pv 1)))
        (pss_cons (ps_asg (pe_op op_fdivW (pe_ix ix_list (pv 0) pe_int (fun _ _ => rfl)) (pv 1)) (pg_sub (pv 0) pe_int set_list))
        (pss_one (ps_ret (pv 2))))) pss_nil)
      (pss_cons (ps_asg (pe_op op_add (pe_ix ix_list (pv 0) pe_int (fun _ _ => rfl)) pe_int) (pg_sub (pv 0) pe_int set_list))
      (pss_cons (ps_set (i := 3) nd rfl (.inl rfl) (pe_op op_mod (pe_op op_add (pe_ix ix_list (pv 0) pe_int (fun _ _ => rfl)) (pe_op op_mul pe_int (pe_ix ix_list (pv 0) pe_int (fun _ _ => rfl)))) pe_int))
      (pss_cons (ps_set (i := 4) nd rfl (.inl rfl) (pe_op op_add (pe_op op_mul (pe_op op_mod (pe_op op_mul (pv 3) (pv 3)) pe_int) (pv 3)) (pe_op op_mul pe_int (pe_ix ix_list (pv 0) pe_int (fun _ _ => rfl)))))
      (pss_cons (ps_set (i := 5) nd rfl (.inl rfl) (pe_op op_mod (pe_op op_add (pv 4) (pe_op op_mod (pe_ix ix_list (pv 0) pe_int (fun _ _ => rfl)) pe_int)) pe_int))
      (pss_one (ps_ret (pe_op op_mod (pe_op op_add (pe_op op_fdiv (pe_op op_mod (pe_op op_mul (pv 5) (pv 5)) pe_int) pe_int)
        (pe_op op_mul (pe_op op_mul (pv 3) pe_int) (pe_callTy call_int1 (by rfl) B.int (by decide +kernel) (pa_cons (pe_cmpR op_gt (pv 1) (pe_op op_pow pe_int pe_int) (nomark _)) pa_nil)))) (pv 1)))))))), ?_⟩
    refine ⟨.ref l, rfl, l, _, 0, .int a, rfl, rfl, .inl (.inl el), rfl, a, 0, rfl, rfl, _, rfl, ite2 (fun h => ?_) fun h => ?_⟩
    · refine ⟨.ref l, rfl, l, _, 0, .int a, rfl, rfl, .inl (.inl el), rfl, .int t, rfl, a, t, rfl, rfl, t0, ?_⟩
      refine ⟨.ref l, rfl, l, _, 0, .int a, rfl, rfl, .inl (.inl el), rfl, .int t, rfl, a, t, rfl, rfl, wide_div (b := 64) t0 (by omega) (by decide) (by decide), ?_⟩
      refine ⟨.ref l, rfl, l, _, 0, 0, rfl, rfl, el, rfl, .int (a % t), rfl, ?_⟩
      exact q _ _ Keep.at ⟨_, _, _, upd_same⟩ (Int.emod_nonneg a (by omega)) (Int.emod_lt_of_pos a t0)
    · refine ⟨.ref l, rfl, l, _, 2, .int c, rfl, rfl, .inl (.inl el), rfl, c, 1, rfl, rfl, .ref l, rfl, l, _, 2, 2, rfl, rfl, el, rfl, ?_⟩
      have e2 : (upd H l (.lst [.int a, .int b, .int (c + 1)])) l = some (.lst [.int a, .int b, .int (c + 1)]) := upd_same
      refine ⟨.ref l, rfl, l, _, 1, .int b, rfl, rfl, .inl (.inl e2), rfl, .ref l, rfl, l, _, 2, .int (c + 1), rfl, rfl, .inl (.inl e2), rfl, 1500450271, c + 1, rfl, rfl, .inl ⟨by decide, by decide⟩,
        b, _, rfl, rfl, _, 4294967279, rfl, rfl, (show (0 : Int) < 4294967279 by decide), ?_⟩
      have o1 := mod_bd (x := b + 1500450271 * (c + 1)) (m := 4294967279) (by decide) (by decide)
      refine ⟨_, rfl, _, rfl, _, _, rfl, rfl, .inl o1, _, 4294967231, rfl, rfl, (show (0 : Int) < 4294967231 by decide), _, rfl, _, _, rfl, rfl, .inr o1,
        .ref l, rfl, l, _, 2, .int (c + 1), rfl, rfl, .inl (.inl e2), rfl, 10007, c + 1, rfl, rfl, .inl ⟨by decide, by decide⟩, _, _, rfl, rfl, ?_⟩
      refine ⟨_, rfl, .ref l, rfl, l, _, 1, .int b, rfl, rfl, .inl (.inl e2), rfl, b, 65537, rfl, rfl, (show (0 : Int) < 65537 by decide), _, _, rfl, rfl, _, 4294967197, rfl, rfl, (show (0 : Int) < 4294967197 by decide), ?_⟩
      have o2 : ∀ x : Int, -(2 ^ 64) < x % 4294967197 ∧ x % 4294967197 < 2 ^ 64 := fun x => mod_bd (x := x) (m := 4294967197) (by decide) (by decide)
      refine ⟨_, rfl, _, rfl, _, _, rfl, rfl, .inl (o2 _), _, 4294967189, rfl, rfl, (show (0 : Int) < 4294967189 by decide), _, 64, rfl, rfl, (show (0 : Int) < 64 ∧ (64 : Int) < 1073741824 by decide), ?_⟩
      refine ⟨_, rfl, _, 67108864, rfl, rfl, .inl o1, .int t, rfl, 10, 6, rfl, rfl, ⟨by decide, by decide, by decide⟩, t, _, rfl, rfl, .inr ⟨_, rfl, ?_⟩⟩
      refine ⟨_, _, rfl, rfl, .inr ?_, _, _, rfl, rfl, .int t, rfl, _, t, rfl, rfl, t0, ?_⟩
      · split <;> decide
      · exact q _ _ Keep.at ⟨_, _, _, upd_same⟩ (Int.emod_nonneg _ (by omega)) (Int.emod_lt_of_pos _ t0)
end
/-! ### _law_stream -/
def spStream (K : PySem.W.Frag) : Sp := fun vs H Q _ => ∃ (a : Addr) (ns : List Int) (k : Int), vs = [.ref a, .int k] ∧ SqL K H a (ns.map V.int) ∧ 0 ≤ k ∧ k ≤ 1000 ∧ ∀ H' p, Same H H' → H p = none → StO H' p → Q (.ref p) H'
theorem scStream : FnScope ["script", "at", "cell", "great"] ["script", "at"] (defScope sStream) := ⟨rfl, rfl, rfl, by decide +kernel, rfl, by decide +kernel, by decide +kernel⟩
section
variable {P : Program} {w : World} {K : PySem.W.Frag} {mg : Str → Option Value} {base : Heap}
theorem ok_stream {f : Addr} {fd : FuncData} (B : Bl mg) (D : Df K mg "_law_stream" sStream ["script", "at"] f fd) : FnOk P w K mg base CX0 1 f fd ["script", "at"] (spStream K) := by
  refine D.F.ok scStream (fun vs H Q E h => ?_) (fun cdv A outer s H vs Q E hr h => ?_)
  · obtain ⟨a, ns, k, rfl, _⟩ := h
    rfl
  · obtain ⟨a, ns, k, rfl, hS, k0, k1, q⟩ := h
    have nd := scStream.nd
    refine ⟨_, pss_cons (ps_set (i := 2) nd rfl (.inl rfl) (pe_op op_add (pe_op op_mul pe_int (pv 1)) pe_int))
      (pss_cons (ps_if (pt_cmpR op_lt (pv 1) (pe_callB call_len_seq (by rfl) B.len PySem.boot_len (pa_cons (pv 0) pa_nil)) (nomark _))
        (pss_one (ps_set (i := 2) nd rfl (.inl rfl) (pe_ix ix_list (pv 0) (pv 1) (fun _ _ => rfl)))) pss_nil)
      (pss_cons (ps_set (i := 3) nd rfl (.inl rfl) (pe_op op_mod (pe_callB call_abs (by rfl) B.abs (by decide +kernel) (pa_cons (pv 2) pa_nil)) (pe_op op_powW (pe_op op_pow pe_int pe_int) pe_int)))
      (pss_one (ps_ret (pe_lst (pa_cons (pe_callB (call_max2 rfl) (by rfl) B.max (by decide +kernel) (pa_cons pe_int (pa_cons (pe_op op_sub (pv 3) (pe_op op_pow pe_int pe_int)) pa_nil)))
        (pa_cons (pe_op op_mod (pe_op op_add (pe_op op_add (pe_op op_add (pe_op op_mul (pv 3) pe_int) (pe_op op_mul pe_int (pv 1))) (pe_op op_mul pe_int (pe_callTy call_int1 (by rfl) B.int (by decide +kernel) (pa_cons (pe_cmpR op_lt (pv 2) pe_int (nomark _)) pa_nil)))) pe_int) pe_int)
        (pa_cons pe_int pa_nil)))))))), ?_⟩
    refine ⟨.int k, rfl, 5, k, rfl, rfl, .inl ⟨by decide, by decide⟩, _, 3, rfl, rfl, ?_⟩
    have c1 : (0 : Int) ≤ 60 ∧ (60 : Int) ≤ 1000000 ∧ (10 : Int).natAbs < 2 ^ 64 := by decide
    have c2 : (0 : Int) ≤ 12 ∧ ((Builtin.Int.intBits ((10 : Int) ^ (60 : Int).toNat) : Nat) : Int) * 12 ≤ 2 ^ 27 := by decide +kernel
    have c3 : (0 : Int) < ((10 : Int) ^ (60 : Int).toNat) ^ (12 : Int).toNat := by decide +kernel
    have c4 : (0 : Int) ≤ 17 ∧ (17 : Int) ≤ 1000000 ∧ (10 : Int).natAbs < 2 ^ 64 := by decide
    have c5 : (0 : Int) < 4294967291 := by decide
    refine ⟨.int k, rfl, .ref a, rfl, a, _, rfl, .inl hS, k, _, rfl, rfl, _, rfl, ite2 (fun h => ?_) (fun h => ?_)⟩
    · have hk : k < (ns.map V.int).length := of_decide_eq_true h
      rw [List.length_map] at hk
      have hk2 : k.toNat < ns.length := by omega
      refine ⟨.ref a, rfl, .int k, rfl, a, _, k, .int ns[k.toNat], rfl, rfl, hS, ?_, ?_⟩
      · have e : ((k.toNat : Nat) : Int) = k := by omega
        have z : atI (ns.map V.int) ((k.toNat : Nat) : Int) = some (.int ns[k.toNat]) := atI_nat (by
          rw [List.getElem?_map, List.getElem?_eq_getElem hk2]
          rfl)
        rw [e] at z
        exact z
      · refine ⟨_, rfl, _, rfl, 10, 60, rfl, rfl, c1, _, 12, rfl, rfl, c2, _, _, rfl, rfl, c3, ?_⟩
        refine ⟨_, rfl, 10, 17, rfl, rfl, c4, _, _, rfl, rfl, _, _, rfl, ?_⟩
        refine ⟨_, rfl, _, 9576890767, rfl, rfl, .inr ⟨by decide, by decide⟩, .int k, rfl, 611953, k, rfl, rfl, .inl ⟨by decide, by decide⟩, _, _, rfl, rfl, ?_⟩
        refine ⟨_, rfl, _, 0, rfl, rfl, .inr ⟨_, rfl, 2, _, rfl, rfl, .inl ⟨by decide, by decide⟩, _, _, rfl, rfl, _, 7, rfl, rfl, _, _, rfl, rfl, c5, ?_⟩⟩
        refine ⟨by show 3 ≤ sizeLine; decide, fun p np => ?_⟩
        exact q _ p (same_new np) np ⟨_, _, _, upd_same⟩
    · refine ⟨_, rfl, _, rfl, 10, 60, rfl, rfl, c1, _, 12, rfl, rfl, c2, _, _, rfl, rfl, c3, ?_⟩
      refine ⟨_, rfl, 10, 17, rfl, rfl, c4, _, _, rfl, rfl, _, _, rfl, ?_⟩
      refine ⟨_, rfl, _, 9576890767, rfl, rfl, .inr ⟨by decide, by decide⟩, .int k, rfl, 611953, k, rfl, rfl, .inl ⟨by decide, by decide⟩, _, _, rfl, rfl, ?_⟩
      refine ⟨_, rfl, _, 0, rfl, rfl, .inr ⟨_, rfl, 2, _, rfl, rfl, .inl ⟨by decide, by decide⟩, _, _, rfl, rfl, _, 7, rfl, rfl, _, _, rfl, rfl, c5, ?_⟩⟩
      refine ⟨by show 3 ≤ sizeLine; decide, fun p np => ?_⟩
      exact q _ p (same_new np) np ⟨_, _, _, upd_same⟩
end
end I1

namespace I1
open PySem PySem.Spec PyProof.Rows L2 KX
abbrev sNm : Stmt := topS 54
/-! ### _law_name -/
def baseL (n : Nat) : List Nat := [97 + n / 2 % 26] ++ (if n % 2 = 1 then [97] else []) ++ (if n > 51 then [97 + n / 52] else [])
def Lets (l : List Nat) : Prop := ∀ c ∈ l, 97 ≤ c ∧ c ≤ 122
def NameOf (n : Nat) (x : Str) : Prop := ∃ suf : List Nat, x.cps.toList = baseL n ++ suf ∧ Lets suf ∧ (suf.length = 0 ∨ (n % 2 = 1 ∧ n < 52 ∧ (suf.length = 2 ∨ suf.length = 6)))
theorem abc_at : ∀ i : Nat, i < 26 → abc.cps.toList[i]? = some (97 + i) := by decide +kernel
theorem abc_has : ∀ c : Nat, 97 ≤ c → c ≤ 122 → c ∈ abc.cps.toList := fun c h1 h2 => by
  have h := abc_at (c - 97) (by omega)
  rw [show 97 + (c - 97) = c by omega] at h
  exact List.mem_of_getElem? h
theorem abc_len : abc.length ≤ sizeLine := by decide +kernel
theorem app_cps (x y : Str) : (x ++ y).cps.toList = x.cps.toList ++ y.cps.toList := by
  show (x.cps ++ y.cps).toList = _
  simp
theorem base_cps (a b : Nat) (p q : Prop) [Decidable p] [Decidable q] : (((⟨#[a]⟩ : Str) ++ (if p then ("a" : Str) else "")) ++ (if q then (⟨#[b]⟩ : Str) else "")).cps.toList = [a] ++ (if p then [97] else []) ++ (if q then [b] else []) := by
  rw [app_cps, app_cps]
  by_cases hp : p
  · rw [if_pos hp, if_pos hp]
    by_cases hq : q
    · rw [if_pos hq, if_pos hq]; rfl
    · rw [if_neg hq, if_neg hq]; rfl
  · rw [if_neg hp, if_neg hp]
    by_cases hq : q
    · rw [if_pos hq, if_pos hq]; rfl
    · rw [if_neg hq, if_neg hq]; rfl
theorem b2i_one {c : Prop} [Decidable c] : ((if decide c = true then (1 : Int) else 0) = 1) ↔ c := by
  by_cases h : c
  · rw [decide_eq_true h, if_pos rfl]; simp [h]
  · rw [decide_eq_false h, if_neg (by decide)]; simp [h]
theorem len_cps (x : Str) : x.length = x.cps.toList.length := by simp [Str.length]
def spNm : Sp := fun vs H Q _ => ∃ (l : Addr) (n : Nat), vs = [.ref l, .int (n : Int)] ∧ StO H l ∧ n < 61 ∧ ∀ H' x, Keep l H H' → StO H' l → NameOf n x → Q (.str x) H'
theorem scNm : FnScope ["stream", "at", "letters", "name", "turn_v"] ["stream", "at"] (defScope sNm) := ⟨rfl, rfl, rfl, by decide +kernel, rfl, by decide +kernel, by decide +kernel⟩
section
variable {P : Program} {w : World} {K : PySem.W.Frag} {mg : Str → Option Value} {base : Heap}
theorem ok_nm {f fD : Addr} {fd fdD : FuncData} (B : Bl mg) (D : Df K mg "_law_name" sNm ["stream", "at"] f fd) (DD : Df K mg "_law_draw" sDraw ["stream", "total"] fD fdD) : FnOk P w K mg base CX0 2 f fd ["stream", "at"] spNm := by
  have GD : FnOk P w K mg base CX0 1 fD fdD _ spDraw := ok_draw B DD
  refine D.F.ok scNm (fun vs H Q E h => ?_) (fun cdv A outer s H vs Q E hr h => ?_)
  · obtain ⟨l, n, rfl, _⟩ := h
    rfl
  · obtain ⟨l, n, rfl, hs, hn, q⟩ := h
    have nd := scNm.nd
    refine ⟨_, pss_cons (ps_set (i := 2) nd rfl (.inl rfl) pe_str)
      (pss_cons (ps_set (i := 3) nd rfl (.inl rfl) (pe_op op_add_str (pe_op op_add_str (pe_ix ix_str (pv 2) (pe_op op_mod (pe_op op_fdiv (pv 1) pe_int) pe_int) (fun _ _ => rfl))
          (pe_ix ix_list (pe_lst (pa_cons pe_str (pa_cons pe_str pa_nil))) (pe_op op_mod (pv 1) pe_int) (fun _ _ => rfl)))
          (pe_op op_mul_s (pe_ix ix_str (pv 2) (pe_op op_fdiv (pv 1) pe_int) (fun _ _ => rfl)) (pe_callTy call_int1 (by rfl) B.int (by decide +kernel) (pa_cons (pe_cmpR op_gt (pv 1) pe_int (nomark _)) pa_nil)))))
      (pss_cons (ps_for PassesOwn.never rfl (pi_range1 (by rfl) B.range (pa_cons (pe_op op_mul (pe_op op_mul (pe_ix ix_list (pe_lst (pa_cons pe_int (pa_cons pe_int (pa_cons pe_int (pa_cons pe_int pa_nil)))))
              (pe_call GD hr (by rfl) DD.g DD.F.kp DD.b .nil pass0 (pa_cons (pv 0) (pa_cons pe_int pa_nil))) (fun _ _ => rfl))
              (pe_callTy call_int1 (by rfl) B.int (by decide +kernel) (pa_cons (pe_op op_mod (pv 1) pe_int) pa_nil)))
              (pe_callTy call_int1 (by rfl) B.int (by decide +kernel) (pa_cons (pe_cmpR op_lt (pv 1) pe_int (nomark _)) pa_nil))) pa_nil))
          (pg_name (i := 4) nd rfl (.inl rfl))
          (pss_one (ps_set (i := 3) nd rfl (.inl rfl) (pe_op op_add_str (pv 3) (pe_ix ix_str (pv 2) (pe_call GD hr (by rfl) DD.g DD.F.kp DD.b .nil pass0 (pa_cons (pv 0) (pa_cons pe_int pa_nil))) (fun _ _ => rfl))))))
      (pss_one (ps_ret (pv 3))))), ?_⟩
    have c26 : (0 : Int) < 26 := by decide
    have c2 : (0 : Int) < 2 ∧ (2 : Int) < 1073741824 := by decide
    have c52 : (0 : Int) < 52 ∧ (52 : Int) < 1073741824 := by decide
    have e1 : atI abc.cps.toList (((n : Int) / 2) % 26) = some (97 + n / 2 % 26) := by
      have := atI_nat (abc_at (n / 2 % 26) (by omega))
      rw [show (((n / 2 % 26 : Nat)) : Int) = ((n : Int) / 2) % 26 by omega] at this
      exact this
    have e2 : atI abc.cps.toList ((n : Int) / 52) = some (97 + n / 52) := by
      have := atI_nat (abc_at (n / 52) (by omega))
      rw [show (((n / 52 : Nat)) : Int) = (n : Int) / 52 by omega] at this
      exact this
    refine ⟨_, rfl, .int (n : Int), rfl, n, 2, rfl, rfl, c2, _, 26, rfl, rfl, c26, abc, _, _, rfl, rfl, abc_len, e1, ?_⟩
    refine ⟨by show 2 ≤ sizeLine; decide, fun p np => ?_⟩
    have h1 := hs.new (o := .lst [.str "", .str "a"]) np
    have e3 : atI [V.str "", V.str "a"] ((n : Int) % 2) = some (.str (if n % 2 = 1 then "a" else "")) := by
      rcases Nat.mod_two_eq_zero_or_one n with z | z
      · rw [if_neg (by omega), show (n : Int) % 2 = ((0 : Nat) : Int) by omega]
        rfl
      · rw [if_pos z, show (n : Int) % 2 = ((1 : Nat) : Int) by omega]
        rfl
    refine ⟨.int (n : Int), rfl, n, 2, rfl, rfl, (show (0 : Int) < 2 by decide), p, _, _, _, rfl, rfl, .inl (.inl upd_same), e3, _, _, rfl, rfl, ?_, ?_⟩
    · have : ((if n % 2 = 1 then ("a" : Str) else "") : Str).length ≤ 1 := by split <;> decide
      have h2 : (⟨#[97 + n / 2 % 26]⟩ : Str).length = 1 := rfl
      have hb : (2 : Nat) < sizeLine := by decide
      omega
    · refine ⟨_, rfl, .int (n : Int), rfl, n, 52, rfl, rfl, c52, abc, _, _, rfl, rfl, abc_len, e2, ?_⟩
      refine ⟨.int (n : Int), rfl, n, 51, rfl, rfl, .inr ⟨_, rfl, _, _, rfl, rfl, ?_, ?_⟩⟩
      · split <;> simp
      · have eb : (((⟨#[97 + n / 2 % 26]⟩ : Str) ++ (if n % 2 = 1 then ("a" : Str) else "")) ++ (if (if decide ((51 : Int) < (n : Int)) = true then (1 : Int) else 0) = 1 then (⟨#[97 + n / 52]⟩ : Str) else "")).cps.toList = baseL n := by
          rw [base_cps]
          unfold baseL
          congr 1
          by_cases z : n > 51
          · rw [if_pos z, if_pos (b2i_one.mpr (by omega))]
          · rw [if_neg z, if_neg (fun h => z (by have := b2i_one.mp h; omega))]
        have lb : (baseL n).length ≤ 3 := by
          unfold baseL
          split <;> split <;> simp
        refine ⟨_, _, rfl, rfl, ?_, ?_⟩
        · have k1 := len_cps ((((⟨#[97 + n / 2 % 26]⟩ : Str) ++ (if n % 2 = 1 then ("a" : Str) else "")) ++ (if (if decide ((51 : Int) < (n : Int)) = true then (1 : Int) else 0) = 1 then (⟨#[97 + n / 52]⟩ : Str) else "")))
          rw [eb, strLen_append] at k1
          have hb : (3 : Nat) < sizeLine := by decide
          omega
        · generalize hX : (((⟨#[97 + n / 2 % 26]⟩ : Str) ++ (if n % 2 = 1 then ("a" : Str) else "")) ++ (if (if decide ((51 : Int) < (n : Int)) = true then (1 : Int) else 0) = 1 then (⟨#[97 + n / 52]⟩ : Str) else "")) = X0 at eb ⊢
          refine ⟨by show 4 ≤ sizeLine; decide, fun p2 np2 => ?_⟩
          have h2 := h1.new (o := .lst [.int 0, .int 0, .int 2, .int 6]) np2
          refine ⟨.ref l, rfl, l, 4, rfl, h2, by decide, by decide, fun H2 d kd sd d0 d4 => ?_⟩
          have e4 : ∃ m : Nat, atI [V.int 0, V.int 0, V.int 2, V.int 6] d = some (.int (m : Int)) ∧ (m = 0 ∨ m = 2 ∨ m = 6) := by
            have : d = 0 ∨ d = 1 ∨ d = 2 ∨ d = 3 := by omega
            rcases this with rfl | rfl | rfl | rfl
            · exact ⟨0, rfl, by simp⟩
            · exact ⟨0, rfl, by simp⟩
            · exact ⟨2, rfl, by simp⟩
            · exact ⟨6, rfl, by simp⟩
          obtain ⟨m, em, hm⟩ := e4
          have pl : H2 p2 = some _ := kd _ _ (h1.ne np2) upd_same
          refine ⟨p2, _, d, _, rfl, rfl, .inl (.inl pl), em, .int (n : Int), rfl, n, 2, rfl, rfl, (show (0 : Int) < 2 by decide), .inl ⟨_, rfl, m, _, rfl, rfl, .inl ?_, ?_⟩⟩
          · omega
          · refine ⟨.int (n : Int), rfl, n, 52, rfl, rfl, .inr ⟨_, rfl, _, _, rfl, rfl, .inr ?_, ?_⟩⟩
            · split <;> decide
            · have hj : ∃ j : Nat, ((m : Int) * ((n : Int) % 2)) * (if decide ((n : Int) < 52) = true then (1 : Int) else 0) = (j : Int) ∧ (j = 0 ∨ (n % 2 = 1 ∧ n < 52 ∧ (j = 2 ∨ j = 6))) := by
                by_cases z : (n : Int) < 52
                · rw [decide_eq_true z, if_pos rfl, Int.mul_one]
                  rcases Nat.mod_two_eq_zero_or_one n with y | y
                  · exact ⟨0, by rw [show (n : Int) % 2 = 0 by omega]; simp, .inl rfl⟩
                  · refine ⟨m, by rw [show (n : Int) % 2 = 1 by omega]; simp, ?_⟩
                    rcases hm with h | h | h
                    · exact .inl h
                    · exact .inr ⟨y, by omega, .inl h⟩
                    · exact .inr ⟨y, by omega, .inr h⟩
                · rw [decide_eq_false z, if_neg (by decide), Int.mul_zero]
                  exact ⟨0, rfl, .inl rfl⟩
              obtain ⟨j, ej, hj⟩ := hj
              refine ⟨_, rfl, ?_, ?_, ?_⟩
              · show (-(2 ^ 62) : Int) ≤ _
                rw [ej]
                omega
              · show (_ : Int) < 2 ^ 62
                rw [ej]
                omega
              · have st1 : StO H2 l := sd
                have kp1 : Keep l H H2 := (((Keep.refl l H).new np).new np2).trans kd
                refine for_range (lo := 0) (n := Int.toNat _) (fun i σ G => Keep l H G ∧ StO G l ∧ ∃ (x : Str) (suf : List Nat) (tv : Option V), σ = [some (.ref l), some (.int n), some (.str abc), some (.str x), tv] ∧ x.cps.toList = baseL n ++ suf ∧ Lets suf ∧ suf.length = i)
                  ⟨kp1, st1, X0, [], none, rfl, by rw [eb, List.append_nil], fun c hc => absurd hc (by simp), rfl⟩ (fun i σ G hi hp => ?_) (fun σ G hp => ?_)
                · obtain ⟨kp, st, x, suf, tv, rfl, ex, hl, hi2⟩ := hp
                  have hi3 : i < j := by
                    have h := hi
                    rw [show Int.toNat _ = j from congrArg Int.toNat ej] at h
                    exact h
                  refine ⟨.str x, rfl, _, rfl, .ref l, rfl, l, 26, rfl, st, by decide, by decide, fun G2 d2 kd2 sd2 d20 d26 => ?_⟩
                  have e5 : atI abc.cps.toList d2 = some (97 + d2.toNat) := by
                    have := atI_nat (abc_at d2.toNat (by omega))
                    rw [show ((d2.toNat : Nat) : Int) = d2 by omega] at this
                    exact this
                  refine ⟨abc, _, _, rfl, rfl, abc_len, e5, x, _, rfl, rfl, ?_, kp.trans kd2, sd2, _, suf ++ [97 + d2.toNat], _, rfl, ?_, ?_, ?_⟩
                  · have k1 := len_cps x
                    rw [ex, List.length_append] at k1
                    have k2 : (⟨#[97 + d2.toNat]⟩ : Str).length = 1 := rfl
                    have hb : (20 : Nat) < sizeLine := by decide
                    omega
                  · rw [app_cps, ex, List.append_assoc]
                  · intro c hc
                    rcases List.mem_append.mp hc with hc | hc
                    · exact hl c hc
                    · have : c = 97 + d2.toNat := by simpa using hc
                      omega
                  · rw [List.length_append, hi2]
                    rfl
                · obtain ⟨kp, st, x, suf, tv, rfl, ex, hl, hi2⟩ := hp
                  have hi3 : suf.length = j := hi2.trans (congrArg Int.toNat ej)
                  refine ⟨_, rfl, q G x kp st ⟨suf, ex, hl, ?_⟩⟩
                  rw [hi3]
                  exact hj
end
theorem name_ok {n : Nat} {x : Str} (hn : n < 61) (h : NameOf n x) : nameD (.str x) = true ∧ x.length ≤ 8 := by
  obtain ⟨suf, ex, hl, hs⟩ := h
  have hb : (baseL n).length = 1 + (if n % 2 = 1 then 1 else 0) + (if n > 51 then 1 else 0) := by
    unfold baseL
    split <;> split <;> simp
  have lx := len_cps x
  rw [ex, List.length_append, hb] at lx
  have h8 : 1 ≤ x.length ∧ x.length ≤ 8 := by
    split at lx <;> split at lx <;> omega
  refine ⟨?_, h8.2⟩
  have all : letD x = true := by
    unfold letD
    rw [ex, List.all_eq_true]
    intro c hc
    refine decide_eq_true (abc_has c ?_ ?_)
    all_goals
      rcases List.mem_append.mp hc with hc | hc
      · unfold baseL at hc
        split at hc <;> split at hc <;> simp at hc <;> omega
      · have := hl c hc
        omega
  show ((decide (1 ≤ (x.length : Int)) && decide ((x.length : Int) ≤ 8)) && letD x) = true
  rw [all, decide_eq_true (by omega), decide_eq_true (by omega)]
  rfl
end I1

set_option maxRecDepth 100000
set_option maxHeartbeats 4000000
namespace KX
open PySem PySem.Spec PyProof.Rows L2
/-- what is seen but for two addresses -/
def view (l q : Addr) (H : Hp) : Hp := hid q (hid l H)
theorem view_at {l q b : Addr} {H : Hp} (h : b ≠ l) (h' : b ≠ q) : view l q H b = H b := by
  unfold view
  rw [hid_at h', hid_at h]
theorem view_same {l q : Addr} {H H' : Hp} (k : ∀ b o, b ≠ l → b ≠ q → H b = some o → H' b = some o) : Same (view l q H) (view l q H') := fun b o e => by
  obtain ⟨n, e⟩ := hid_some e
  obtain ⟨n', e⟩ := hid_some e
  rw [view_at n' n]
  exact k b o n' n e
theorem view_keep {l q : Addr} {H H' : Hp} (k : Keep l H H') : Same (view l q H) (view l q H') := view_same fun b o n _ e => k b o n e
theorem view_tup {l q p : Addr} {H : Hp} {xs : List V} {ds : List PyData} (n : H p = none) (hl : p ≠ l) (hq : p ≠ q) (h : Dxs (view l q H) xs ds) : Dx (view l q (L2.upd H p (.tup xs))) (.ref p) (.tuple ds) :=
  .tup (by rw [view_at hl hq]; exact upd_same) (h.up (view_keep ((Keep.refl l H).new n)))
theorem Keep.to {l : Addr} {H H' : Hp} {b : Addr} {o : HO} (k : Keep l H H') (n : b ≠ l) (e : H b = some o) : H' b = some o := k b o n e
end KX
namespace I1
open PySem PySem.Spec PyProof.Rows L2 KX
abbrev sRs : Stmt := topS 55
/-! ### _law_rowset -/
structure Rec where
  nm : Str
  cost : Int
  vals : List Int
  exp : Int
def encR (r : Rec) : PyData := .tuple [.str r.nm, .int r.cost, .tuple (r.vals.map .int), .int r.exp]
structure RecOk (w n : Nat) (r : Rec) : Prop where
  nm : NameOf n r.nm
  c0 : 1 ≤ r.cost
  c1 : r.cost ≤ 1000000
  len : r.vals.length = w
  vs : ∀ v ∈ r.vals, -1000000000 ≤ v ∧ v ≤ 1000000000
  e0 : 1 ≤ r.exp
  e1 : r.exp ≤ 1000000000
/-- the rows as they are made, one for each number -/
def Made (w : Nat) (recs : List Rec) : Prop := ∀ (i : Nat) (r : Rec), recs[i]? = some r → RecOk w i r
def sortR (recs : List Rec) : List Rec := recs.mergeSort (PySem.W.dataLe false encR)
def spRs : Sp := fun vs H Q _ => ∃ (l : Addr) (n w : Nat), vs = [.ref l, .int (n : Int), .int (w : Int)] ∧ StO H l ∧ n ≤ 61 ∧ 1 ≤ w ∧ w ≤ 4 ∧
  ∀ H' p recs, Keep l H H' → StO H' l → recs.length = n → Made w recs → Dx (hid l H') (.ref p) (.tuple ((sortR recs).map encR)) → Q (.ref p) H'
theorem scRs : FnScope ["stream", "total", "wide", "top", "dear", "last", "rows", "at", "worths", "col"] ["stream", "total", "wide"] (defScope sRs) := ⟨rfl, rfl, rfl, by decide +kernel, rfl, by decide +kernel, by decide +kernel⟩
theorem dxs_ints {H : Hp} : ∀ (ns : List Int), Dxs H (ns.map V.int) (ns.map PyData.int)
  | [] => .nil
  | n :: ns => .cons (.int n) (dxs_ints ns)
theorem menu {ns : List Int} {d : Int} (h0 : 0 ≤ d) (h1 : d < (ns.length : Int)) : ∃ t, t ∈ ns ∧ atI (ns.map V.int) d = some (.int t) := by
  have hl : d.toNat < ns.length := by omega
  refine ⟨ns[d.toNat], List.getElem_mem hl, ?_⟩
  have := atI_nat (xs := ns.map V.int) (j := d.toNat) (v := .int ns[d.toNat]) (by rw [List.getElem?_map, List.getElem?_eq_getElem hl]; rfl)
  rw [show ((d.toNat : Nat) : Int) = d by omega] at this
  exact this
theorem alike_recs (rs : List Rec) : PySem.W.AllAlike (rs.map encR) := PySem.W.AllAlike.of fun a b => by
  simp [encR, PySem.W.alike, PySem.W.alikeAll, PySem.W.alike_ints]
theorem tup_recs (rs : List Rec) : PySem.W.Sortable (rs.map encR) := PySem.W.Sortable.tuples fun b => ⟨_, _, rfl⟩
theorem depth_rec (r : Rec) : (encR r).depth ≤ 50 := by
  simp [encR, PyData.depth, PyData.depthAll, PySem.W.depth_ints]
theorem plain_rec (r : Rec) : (encR r).plain = true := by
  simp [encR, PyData.plain, PyData.plainAll, pl_ints]
theorem dxs_pairs {H : Hp} : ∀ (bs : List (V × Rec)), (∀ b ∈ bs, Dx H b.1 (encR b.2)) → Dxs H (bs.map (·.1)) (bs.map fun b => encR b.2)
  | [], _ => .nil
  | b :: bs, h => .cons (h b (by simp)) (dxs_pairs bs fun c hc => h c (by simp [hc]))
section
variable {P : Program} {w : World} {K : PySem.W.Frag} {mg : Str → Option Value} {base : Heap}
theorem ok_rs {f fD fN : Addr} {fd fdD fdN : FuncData} (B : Bl mg) (D : Df K mg "_law_rowset" sRs ["stream", "total", "wide"] f fd) (DD : Df K mg "_law_draw" sDraw ["stream", "total"] fD fdD) (DN : Df K mg "_law_name" sNm ["stream", "at"] fN fdN) :
    FnOk P w K mg base CX0 3 f fd ["stream", "total", "wide"] spRs := by
  have GD : FnOk P w K mg base CX0 2 fD fdD _ spDraw := (ok_draw B DD).mono (by decide)
  have GN : FnOk P w K mg base CX0 2 fN fdN _ spNm := ok_nm B DN DD
  refine D.F.ok scRs (fun vs H Q E h => ?_) (fun cdv A outer s H vs Q E hr h => ?_)
  · obtain ⟨l, n, w, rfl, _⟩ := h
    rfl
  · obtain ⟨l, n, wd, rfl, hs, hn, hw1, hw4, q⟩ := h
    have nd := scRs.nd
    refine ⟨_, pss_cons (ps_set (i := 3) nd rfl (.inr rfl) (pe_ix ix_list (pe_lst (pa_cons pe_int (pa_cons pe_int (pa_cons pe_int (pa_cons (pe_op op_pow pe_int pe_int) pa_nil)))))
          (pe_call GD hr (by rfl) DD.g DD.F.kp DD.b .nil pass0 (pa_cons (pv 0) (pa_cons pe_int pa_nil))) (fun _ _ => rfl)))
      (pss_cons (ps_par (i := 4) (j := 5) rfl nd rfl rfl (by decide) rfl rfl (pa_cons (pe_ix ix_list (pe_lst (pa_cons pe_int (pa_cons pe_int (pa_cons pe_int (pa_cons (pe_op op_pow pe_int pe_int) pa_nil)))))
          (pe_call GD hr (by rfl) DD.g DD.F.kp DD.b .nil pass0 (pa_cons (pv 0) (pa_cons pe_int pa_nil))) (fun _ _ => rfl))
          (pa_cons (pe_ix ix_list (pe_lst (pa_cons pe_int (pa_cons pe_int (pa_cons (pe_op op_pow pe_int pe_int) pa_nil))))
          (pe_call GD hr (by rfl) DD.g DD.F.kp DD.b .nil pass0 (pa_cons (pv 0) (pa_cons pe_int pa_nil))) (fun _ _ => rfl)) pa_nil)) (by rfl))
      (pss_cons (ps_set (i := 6) nd rfl (.inl rfl) (pe_lst pa_nil))
      (pss_cons (ps_for PassesOwn.never rfl (pi_range1 (by rfl) B.range (pa_cons (pv 1) pa_nil)) (pg_name (i := 7) nd rfl (.inl rfl))
        (pss_cons (ps_set (i := 8) nd rfl (.inl rfl) (pe_callTy call_tuple_of (by rfl) B.tuple (by decide +kernel) (pa_cons (pe_lc (own := [("col", 9)]) (g := gName 9) rfl nd (pi_range1 (by rfl) B.range (pa_cons (pv 2) pa_nil))
            (blkOk_by (N := ["stream", "total", "wide", "top", "dear", "last", "rows", "at", "worths", "col"]) (sc := defScope sRs) (by decide +kernel)) (fun _ _ _ _ _ => pg_name (i := 9) nd rfl (Or.inl rfl)) (fun _ _ _ _ _ => pts_nil)
            (fun _ _ _ _ _ => pe_op op_sub (pe_call GD hr (by rfl) DD.g DD.F.kp DD.b .nil pass0 (pa_cons (pv 0) (pa_cons (pe_op op_add (pe_op op_mul pe_int (pv 3)) pe_int) pa_nil))) (pv 3))) pa_nil)))
        (pss_one (ps_expr (pe_bm PySem.F.plainAttrs_list PySem.F.slot_list_append PySem.F.type_list_append mt_append (pv 6) (pa_cons (pe_tup (pa_cons (pe_call GN hr (by rfl) DN.g DN.F.kp DN.b .nil pass0 (pa_cons (pv 0) (pa_cons (pv 7) pa_nil)))
            (pa_cons (pe_op op_add pe_int (pe_call GD hr (by rfl) DD.g DD.F.kp DD.b .nil pass0 (pa_cons (pv 0) (pa_cons (pv 4) pa_nil)))) (pa_cons (pv 8)
            (pa_cons (pe_op op_add pe_int (pe_call GD hr (by rfl) DD.g DD.F.kp DD.b .nil pass0 (pa_cons (pv 0) (pa_cons (pv 5) pa_nil)))) pa_nil))))) pa_nil))))))
      (pss_one (ps_ret (pe_callTy call_tuple_of (by rfl) B.tuple (by decide +kernel) (pa_cons (pe_callB (cr_sortE (enc := encR) hr) (by rfl) B.sorted (by decide +kernel) (pa_cons (pv 6) pa_nil)) pa_nil))))))), ?_⟩
    -- top = [1, 2, 4, 10 ** 9][draw]
    refine ⟨10, 9, rfl, rfl, ⟨by decide, by decide, by decide⟩, by show 4 ≤ sizeLine; decide, fun p1 n1 => ?_⟩
    refine ⟨.ref l, rfl, l, 4, rfl, hs.new n1, by decide, by decide, fun H1 d1 k1 s1 d10 d14 => ?_⟩
    have a1 : H1 p1 = some _ := k1.to (hs.ne n1) upd_same
    obtain ⟨top, mt, et⟩ := menu (ns := [1, 2, 4, 10 ^ (9 : Int).toNat]) d10 d14
    have ht : 1 ≤ top ∧ top ≤ 1000000000 := by
      have : ∀ t ∈ [1, 2, 4, (10 : Int) ^ (9 : Int).toNat], 1 ≤ t ∧ t ≤ 1000000000 := by decide
      exact this top mt
    refine ⟨p1, _, d1, _, rfl, rfl, .inl (.inl a1), et, ?_⟩
    -- dear, last
    refine ⟨10, 6, rfl, rfl, ⟨by decide, by decide, by decide⟩, by show 4 ≤ sizeLine; decide, fun p2 n2 => ?_⟩
    refine ⟨.ref l, rfl, l, 4, rfl, s1.new n2, by decide, by decide, fun H2 d2 k2 s2 d20 d24 => ?_⟩
    have a2 : H2 p2 = some _ := k2.to (s1.ne n2) upd_same
    obtain ⟨dear, md, ed⟩ := menu (ns := [1, 3, 9, 10 ^ (6 : Int).toNat]) d20 d24
    have hd : 1 ≤ dear ∧ dear ≤ 1000000 := by
      have : ∀ t ∈ [1, 3, 9, (10 : Int) ^ (6 : Int).toNat], 1 ≤ t ∧ t ≤ 1000000 := by decide
      exact this dear md
    refine ⟨p2, _, d2, _, rfl, rfl, .inl (.inl a2), ed, ?_⟩
    refine ⟨10, 9, rfl, rfl, ⟨by decide, by decide, by decide⟩, by show 3 ≤ sizeLine; decide, fun p3 n3 => ?_⟩
    refine ⟨.ref l, rfl, l, 3, rfl, s2.new n3, by decide, by decide, fun H3 d3 k3 s3 d30 d34 => ?_⟩
    have a3 : H3 p3 = some _ := k3.to (s2.ne n3) upd_same
    obtain ⟨last, ml, el⟩ := menu (ns := [1, 3, 10 ^ (9 : Int).toNat]) d30 d34
    have hl : 1 ≤ last ∧ last ≤ 1000000000 := by
      have : ∀ t ∈ [1, 3, (10 : Int) ^ (9 : Int).toNat], 1 ≤ t ∧ t ≤ 1000000000 := by decide
      exact this last ml
    refine ⟨p3, _, d3, _, rfl, rfl, .inl (.inl a3), el, _, _, rfl, ?_⟩
    -- rows = []
    refine ⟨Nat.zero_le _, fun r nr => ?_⟩
    have hrl : r ≠ l := s3.ne nr
    have kk : Keep l H (L2.upd H3 r (.lst [])) := ((((((Keep.refl l H).new n1).trans k1).new n2).trans k2).new n3).trans k3 |>.new nr
    have s4 : StO (L2.upd H3 r (.lst [])) l := s3.new nr
    have hHr : H r = none := by
      cases e : H r with
      | none => rfl
      | some o =>
        have := ((((((Keep.refl l H).new n1).trans k1).new n2).trans k2).new n3).trans k3 r o hrl e
        rw [nr] at this
        cases this
    refine ⟨.int (n : Int), rfl, n, rfl, by omega, by omega, ?_⟩
    refine for_range (lo := 0) (n := n) (fun i σ G => Keep l H G ∧ StO G l ∧ ∃ (vs : List V) (recs : List Rec) (ta tw tc : Option V), σ = [some (.ref l), some (.int n), some (.int wd), some (.int top), some (.int dear), some (.int last), some (.ref r), ta, tw, tc] ∧
        G r = some (.lst vs) ∧ Dxs (view l r G) vs (recs.map encR) ∧ recs.length = i ∧ Made wd recs)
      ⟨kk, s4, [], [], none, none, none, rfl, upd_same, .nil, rfl, fun i r h => by simp at h⟩ (fun i σ G hi hp => ?_) (fun σ G hp => ?_)
    · obtain ⟨kp, st, vs, recs, ta, tw, tc, rfl, gr, hx, hlen, hmade⟩ := hp
      refine ⟨.int (wd : Int), rfl, wd, rfl, by omega, by omega, fun D0 nD => ?_⟩
      have hDl : D0 ≠ l := st.ne nD
      refine lc_range (lo := 0) (n := wd) (fun j F => Keep l G F ∧ StO F l ∧ ∃ ns : List Int, ns.length = j ∧ (∀ v ∈ ns, -1000000000 ≤ v ∧ v ≤ 1000000000) ∧ F D0 = some (.lst (ns.map V.int)))
        ⟨(Keep.refl l G).new nD, st.new nD, [], rfl, fun v h => absurd h (by simp), upd_same⟩ (fun j F hj hF => ?_) (fun F hF => ?_)
      · obtain ⟨kF, sF, ns, hns, hv, eD⟩ := hF
        refine ⟨rfl, .ref l, rfl, .int top, rfl, 2, top, rfl, rfl, .inl ⟨by decide, by decide⟩, _, 1, rfl, rfl, l, 2 * top + 1, rfl, sF, by omega, by omega, fun F2 d kd sd d0 d1 => ?_⟩
        have eD2 : F2 D0 = some _ := kd.to hDl eD
        refine ⟨.int top, rfl, d, top, rfl, rfl, _, eD2, ?_, ?_⟩
        · rw [List.length_map]
          have hb : (4 : Nat) < sizeLine := by decide
          omega
        · refine ⟨fun b o nb eb => by rw [upd_ne (ne_of_none eb nD)]; exact kd b o nb (kF b o nb eb), ?_, ns ++ [d - top], ?_, ?_, ?_⟩
          · obtain ⟨x, y, z, e⟩ := sd
            exact ⟨x, y, z, by rw [upd_ne hDl.symm]; exact e⟩
          · rw [List.length_append, hns]
            rfl
          · intro v hv'
            rcases List.mem_append.mp hv' with hv' | hv'
            · exact hv v hv'
            · have : v = d - top := by simpa using hv'
              omega
          · rw [upd_same, List.map_append]
            rfl
      · obtain ⟨kF, sF, ns, hns, hv, eD⟩ := hF
        refine ⟨D0, _, rfl, .inl ⟨.inl (.inl eD), fun t nt => ?_⟩⟩
        have htl : t ≠ l := sF.ne nt
        have gr1 : F r = some (.lst vs) := kF.to hrl gr
        have htr : t ≠ r := (ne_of_none gr1 nt).symm
        have s5 : StO (L2.upd F t (.tup (ns.map V.int))) l := sF.new nt
        have dt : Dx (view l r (L2.upd F t (.tup (ns.map V.int)))) (.ref t) (.tuple (ns.map PyData.int)) := view_tup nt htl htr (dxs_ints ns)
        have k5 : Keep l G (L2.upd F t (.tup (ns.map V.int))) := kF.new nt
        refine ⟨.ref r, rfl, .inl ⟨rfl, _, .inl (.inl (k5.to hrl gr))⟩, .ref l, rfl, _, rfl, l, i, by simp, s5, by omega, fun G2 x k6 s6 hnm => ?_⟩
        refine ⟨.ref l, rfl, .int dear, rfl, l, dear, rfl, s6, by omega, by omega, fun G3 dc k7 s7 c0 c1 => ⟨1, dc, rfl, rfl, .ref t, rfl, ?_⟩⟩
        refine ⟨.ref l, rfl, .int last, rfl, l, last, rfl, s7, by omega, by omega, fun G4 de k8 s8 e0 e1 => ⟨1, de, rfl, rfl, by show 4 ≤ sizeLine; decide, fun u nu => ?_⟩⟩
        have hul : u ≠ l := s8.ne nu
        have kk4 : Keep l G G4 := ((k5.trans k6).trans k7).trans k8
        have gr4 : G4 r = some (.lst vs) := kk4.to hrl gr
        have hur : u ≠ r := (ne_of_none gr4 nu).symm
        have dt4 : Dx (view l r G4) (.ref t) (.tuple (ns.map PyData.int)) := dt.up (view_keep ((k6.trans k7).trans k8))
        have du : Dx (view l r (L2.upd G4 u (.tup [.str x, .int (1 + dc), .ref t, .int (1 + de)]))) (.ref u) (encR ⟨x, 1 + dc, ns, 1 + de⟩) :=
          view_tup nu hul hur (.cons (.str x) (.cons (.int _) (.cons dt4 (.cons (.int _) .nil))))
        have ku : Keep l G (L2.upd G4 u (.tup [.str x, .int (1 + dc), .ref t, .int (1 + de)])) := kk4.new nu
        have vlen : vs.length = recs.length := by
          have := hx.len
          rwa [List.length_map] at this
        refine ⟨r, vs, .ref u, rfl, rfl, by rw [upd_ne hur.symm]; exact gr4, ?_, ?_⟩
        · have hb : (61 : Nat) < sizeLine := by decide
          omega
        · have sup : Same (view l r (L2.upd G4 u (.tup [.str x, .int (1 + dc), .ref t, .int (1 + de)]))) (view l r (L2.upd (L2.upd G4 u (.tup [.str x, .int (1 + dc), .ref t, .int (1 + de)])) r (.lst (vs ++ [.ref u])))) :=
            view_same fun b o _ nb e => by rw [upd_ne nb]; exact e
          refine ⟨fun b o nb eb => by rw [upd_ne (ne_of_none eb hHr)]; exact ku b o nb (kp b o nb eb), ?_, vs ++ [.ref u], recs ++ [⟨x, 1 + dc, ns, 1 + de⟩], _, _, _, rfl, upd_same, ?_, ?_, ?_⟩
          · obtain ⟨y1, y2, y3, e⟩ := s8.new (o := .tup [.str x, .int (1 + dc), .ref t, .int (1 + de)]) nu
            exact ⟨y1, y2, y3, by rw [upd_ne hrl.symm]; exact e⟩
          · rw [List.map_append]
            exact ((hx.up (view_keep ku)).up sup).app (.cons (du.up sup) .nil)
          · rw [List.length_append, hlen]
            rfl
          · intro j r' hj
            by_cases hjl : j < recs.length
            · exact hmade j r' (by rw [List.getElem?_append_left hjl] at hj; exact hj)
            · rw [List.getElem?_append_right (by omega)] at hj
              have hj0 : j - recs.length = 0 := by
                have := (List.getElem?_eq_some_iff.mp hj).1
                simp at this
                omega
              rw [hj0] at hj
              cases hj
              have hji : j = i := by omega
              rw [hji]
              exact ⟨hnm, by show 1 ≤ 1 + dc; omega, by show 1 + dc ≤ _; omega, hns, hv, by show 1 ≤ 1 + de; omega, by show 1 + de ≤ _; omega⟩
    · obtain ⟨kp, st, vs, recs, ta, tw, tc, rfl, gr, hx, hlen, hmade⟩ := hp
      have vlen : vs.length = recs.length := by
        have := hx.len
        rwa [List.length_map] at this
      have eachH : ∀ b ∈ vs.zip recs, Dx (hid l G) b.1 (encR b.2) := fun b hb => by
        obtain ⟨i, hi, e⟩ := List.mem_iff_getElem.mp hb
        have e' : (vs.zip recs)[i]? = some b := by rw [List.getElem?_eq_getElem hi, e]
        rw [List.getElem?_zip_eq_some] at e'
        obtain ⟨d, ed, hd⟩ := hx.get' e'.1
        rw [List.getElem?_map, e'.2] at ed
        cases ed
        exact hd.up (hid_same r (hid l G))
      have each : ∀ b ∈ vs.zip recs, Dx G b.1 (encR b.2) := fun b hb => (eachH b hb).up (hid_same l G)
      refine ⟨.ref r, rfl, r, vs.zip recs, rfl, .inl (.inl ?_), ?_, ?_, ?_, ?_, fun p np => ?_⟩
      · rw [List.map_fst_zip (by omega)]
        exact gr
      · intro b hb
        exact dp_dx _ _ (plain_rec b.2) (each b hb)
      · have := alike_recs ((vs.zip recs).map (·.2))
        rwa [List.map_map] at this
      · have := tup_recs ((vs.zip recs).map (·.2))
        rwa [List.map_map] at this
      · exact fun b _ => depth_rec b.2
      · have hm : ∀ b ∈ (vs.zip recs).mergeSort (PySem.W.dataLe false fun b => encR b.2), Dx (hid l (L2.upd G p (.lst (((vs.zip recs).mergeSort (PySem.W.dataLe false fun b => encR b.2)).map (·.1))))) b.1 (encR b.2) := fun b hb =>
          ((eachH b (List.mem_mergeSort.mp hb)).up (hnew np))
        have e1 : ((vs.zip recs).mergeSort (PySem.W.dataLe false fun b => encR b.2)).map (fun b => encR b.2) = (sortR recs).map encR := by
          have e2 : ((vs.zip recs).mergeSort (PySem.W.dataLe false fun b => encR b.2)).map Prod.snd = sortR recs := by
            have h := List.map_mergeSort (f := Prod.snd) (r := PySem.W.dataLe false fun b : V × Rec => encR b.2) (s := PySem.W.dataLe false encR) (l := vs.zip recs) (fun a _ b _ => rfl)
            rw [List.map_snd_zip (by omega)] at h
            exact h
          rw [← e2, List.map_map]
          rfl
        have hx2 := dxs_pairs _ hm
        rw [e1] at hx2
        have sp := st.new (o := .lst (((vs.zip recs).mergeSort (PySem.W.dataLe false fun b => encR b.2)).map (·.1))) np
        refine ⟨p, _, rfl, .inl ⟨.inl (.inl upd_same), fun p2 np2 => ?_⟩⟩
        exact q _ p2 recs ((kp.new np).new np2) (sp.new np2) hlen hmade (dx_tup np2 sp hx2)
end
end I1

namespace I1
open PySem PySem.Spec PyProof.Rows L2 KX
theorem nm_len {r : Rec} {w : Nat} (h : RecOk w 0 r) : r.nm.length = 1 := by
  obtain ⟨suf, ex, hl, hs⟩ := h.nm
  have lx := len_cps r.nm
  rw [ex, List.length_append] at lx
  have hb : (baseL 0).length = 1 := rfl
  rcases hs with hs | ⟨z, _⟩
  · omega
  · omega
theorem fine_ints {B : Nat} : ∀ ns : List Int, (∀ v ∈ ns, -1000000000 ≤ v ∧ v ≤ 1000000000) → 1000000000 ≤ B → fineAll B (ns.map PyData.int) = true
  | [], _, _ => rfl
  | n :: ns, h, hB => by
    have := h n (by simp)
    simp only [List.map_cons, fineAll, fine, Bool.and_eq_true]
    exact ⟨decide_eq_true (by omega), fine_ints ns (fun v hv => h v (by simp [hv])) hB⟩
theorem wt_ints : ∀ ns : List Int, wtAll (ns.map PyData.int) = ns.length
  | [] => rfl
  | n :: ns => by
    simp only [List.map_cons, wtAll, wt_ints ns, List.length_cons]
    rw [show wt (.int n) = 1 by simp [wt]]
    omega
theorem rec_good {r : Rec} {w : Nat} (h : RecOk w 0 r) (hw : w ≤ 4) : Good (10 ^ 40) 10 (encR r) := by
  have l1 := nm_len h
  have hl := h.len
  have c0 := h.c0
  have c1 := h.c1
  have e0 := h.e0
  have e1 := h.e1
  obtain ⟨suf, ex, hs, hx⟩ := h.nm
  refine ⟨?_, ?_⟩
  · simp only [encR, fine, fineAll, Bool.and_eq_true]
    refine ⟨?_, decide_eq_true (by omega), fine_ints _ h.vs (by decide), decide_eq_true (by omega), trivial⟩
    refine List.all_eq_true.mpr fun c hc => decide_eq_true ?_
    rw [ex] at hc
    rcases List.mem_append.mp hc with hc | hc
    · have : c = 97 := by simpa [baseL] using hc
      omega
    · have := hs c hc
      omega
  · simp only [encR, wt, wtAll, wt_ints]
    omega
theorem betw_int {lo hi i : Int} (h0 : lo ≤ i) (h1 : i ≤ hi) : betw lo hi (.int i) = true := by
  show (decide (lo ≤ i) && decide (i ≤ hi)) = true
  rw [decide_eq_true h0, decide_eq_true h1]
  rfl
theorem rec_row {r : Rec} {w n : Nat} (hn : n < 61) (h : RecOk w n r) (h1 : 1 ≤ w) (hw : w ≤ 4) : rowD (encR r) = true := by
  show (nameD (.str r.nm) && betw 1 1000000 (.int r.cost) && (valsD (.tuple (r.vals.map .int)) && betw 1 1000000000 (.int r.exp))) = true
  rw [(name_ok hn h.nm).1, betw_int h.c0 h.c1, betw_int h.e0 h.e1]
  have hl := h.len
  have ev : valsD (.tuple (r.vals.map .int)) = true := by
    show ((decide (1 ≤ (((r.vals.map PyData.int).length : Nat) : Int)) && decide ((((r.vals.map PyData.int).length : Nat) : Int) ≤ 4)) && (r.vals.map PyData.int).all (betw (-1000000000) 1000000000)) = true
    rw [List.length_map, decide_eq_true (by omega), decide_eq_true (by omega)]
    simp only [Bool.true_and, List.all_eq_true]
    intro d hd
    obtain ⟨v, hv, rfl⟩ := List.mem_map.mp hd
    exact betw_int (h.vs v hv).1 (h.vs v hv).2
  rw [ev]
  rfl
def okEnt : PyData → Bool
  | .tuple [.tuple [.str n, c, v, e], .bool b] => (rowD (.tuple [.str n, c, v, e]) == b) && decide (n.length ≤ 100) && !(tyN c == "str") && !(tyN v == "str") && !(tyN e == "str")
  | _ => false

end I1

set_option maxRecDepth 100000
set_option maxHeartbeats 1000000
namespace KX
open PySem PySem.Spec PyProof.Rows L2 RZ
/-! ### [e for x, y in zip(s, t)], s and t tuples, t the shorter one -/
theorem lc_zipS {K : PySem.W.Frag} {a b : Addr} {xs ys : List V} {g : TG} {tt : TT} {te : TE} {vs : List Nat} {σ : L2.St} {H1 : Hp} {D : Addr} {Qd : Hp → Prop} (hl : ys.length ≤ xs.length) (Pv : Nat → Hp → Prop) (h0 : Pv 0 (upd H1 D (.lst [])))
    (hq : ∀ i G, i ≤ ys.length → Pv i G → SqT K G a xs ∧ SqT K G b ys)
    (hs : ∀ (i : Nat) (x y : V) (T : Addr) (G : Hp), xs[i]? = some x → ys[i]? = some y → Pv i G → G T = none → g (.ref T) (wipe σ vs) (upd G T (.tup [x, y])) fun σ2 H2 => wipe σ2 vs = wipe σ vs ∧ tt σ2 H2 fun b H3 =>
      if b = true then te σ2 H3 fun y H4 => ∃ zs, H4 D = some (.lst zs) ∧ zs.length < sizeLine ∧ Pv (i + 1) (upd H4 D (.lst (zs ++ [y]))) else Pv (i + 1) H3) (hd : ∀ G, Pv ys.length G → Qd G) :
    ∃ W : Nat → Nat → Hp → Prop, (∃ m, W 0 m (upd H1 D (.lst []))) ∧ ∀ i m H, W i m H → ((ItzT K a b).stop i H ∧ Qd H) ∨ ((ItzT K a b).go i H ∧ ∃ Nx : Hp → Prop, (∀ H', Nx H' → ∃ m', m' < m ∧ W (i + 1) m' H') ∧ ∀ x H', (ItzT K a b).yld i H x H' →
      g x (wipe σ vs) H' fun σ2 H2 => wipe σ2 vs = wipe σ vs ∧ tt σ2 H2 fun b H3 => if b = true then te σ2 H3 fun y H4 => ∃ zs, H4 D = some (.lst zs) ∧ zs.length < sizeLine ∧ Nx (upd H4 D (.lst (zs ++ [y]))) else Nx H3) := by
  refine ⟨fun i m G => m = ys.length - i ∧ i ≤ ys.length ∧ Pv i G, ⟨ys.length, by simp, Nat.zero_le _, h0⟩, fun i m G hw => ?_⟩
  obtain ⟨rfl, hi, p⟩ := hw
  obtain ⟨qx, qy⟩ := hq i G hi p
  by_cases lt : i < ys.length
  · refine .inr ⟨⟨xs, ys, xs[i]'(by omega), ys[i], qx, qy, List.getElem?_eq_getElem (by omega), List.getElem?_eq_getElem lt⟩, Pv (i + 1), fun G' p' => ⟨ys.length - (i + 1), by omega, rfl, lt, p'⟩, fun v G' r => ?_⟩
    obtain ⟨T, x, y, rfl, nT, rfl, e1, e2⟩ := r
    exact hs i x y T G (e1 xs qx) (e2 ys qy) p nT
  · have e : i = ys.length := by omega
    subst e
    exact .inl ⟨⟨xs, ys, qx, qy, .inr (Nat.le_refl _)⟩, hd G p⟩
/-! ### except clauses, with names and without -/
/-- a clause: its class, the slot of its name if it has one, its suite -/
structure Cls where
  c : Value
  i : Option Nat
  ts : Addr → Value → Option Addr → TS
def endsAt (D : Ends) : Option Nat → Ends
  | none => D
  | some i => { nx := fun σ' G => D.nx (σ'.set i none) G, rt := D.rt, bk := fun σ' G => D.bk (σ'.set i none) G, ct := fun σ' G => D.ct (σ'.set i none) G }
def slotIn (σ : L2.St) (a : Addr) : Option Nat → L2.St
  | none => σ
  | some i => σ.set i (some (.ref a))
def wMix (K : PySem.W.Frag) (Wo : WX) (D : Ends) : List Cls → WX
  | [] => Wo
  | q :: r => fun cls d σ G => ∃ b, PySem.W.exmOne K cls q.c = some b ∧ (b = true → ∀ a, G a = none → q.ts a cls d (endsAt D q.i) (slotIn σ a q.i) G) ∧ (b = false → wMix K Wo D r cls d σ G)
inductive MixOk (X : Cx) : List ExceptHandler → List Cls → Prop
  | nil : MixOk X [] []
  | plain {x : Str} {c : Value} {ts : Addr → Value → Option Addr → TS} {b0 : Stmt} {bs : List Stmt} {p1 p2 : Pos} {hds : List ExceptHandler} {l : List Cls} (hc : Names X x c)
      (hb : ∀ (a : Addr) (oe : Obj) (cls : Value) (d : Option Addr) (pn : List (Addr × Obj)), Zc cls d oe → (∃ vs, oe.data = .fields vs) → PSs (X.suite a ((a, oe) :: pn)) (b0 :: bs) (ts a cls d)) (r : MixOk X hds l) :
      MixOk X (.ExceptHandler (some (.Name x p1)) none (b0 :: bs) p2 :: hds) (⟨c, none, ts⟩ :: l)
  | named {x n : Str} {i : Nat} {c : Value} {ts : Addr → Value → Option Addr → TS} {b0 : Stmt} {bs : List Stmt} {p1 p2 : Pos} {hds : List ExceptHandler} {l : List Cls} (hi : X.N[i]? = some n) (hn : X.env.kindOf n = some .local) (hc : Names X x c)
      (hb : ∀ (a : Addr) (oe : Obj) (cls : Value) (d : Option Addr) (pn : List (Addr × Obj)), Zc cls d oe → (∃ vs, oe.data = .fields vs) → PSs (X.suite a ((a, oe) :: pn)) (b0 :: bs) (ts a cls d)) (r : MixOk X hds l) :
      MixOk X (.ExceptHandler (some (.Name x p1)) (some n) (b0 :: bs) p2 :: hds) (⟨c, some i, ts⟩ :: l)
section
variable {X : Cx} {body : List Stmt} {hd0 : ExceptHandler} {hds : List ExceptHandler} {l : List Cls} {pos : Pos} {tb : WX → TS} {Wo : WX}
theorem ps_try_mix (hs : X.stack = X.env :: X.outer) (hf : X.env.frame = some X.env.locals) (nd : X.N.Nodup) (tk : Takes X Wo)
    (hb : ∀ (W : WX) (pn : List (Addr × Obj)) (xe : Value → Shared → Prop), Takes (X.tr pn xe) W → PassesOwn (model X.prog X.w) X.A X.env xe → PSs (X.tr pn xe) body (tb W))
    (hh : MixOk X (hd0 :: hds) l) : PS X (.Try body (hd0 :: hds) [] [] pos) (fun D σ G => tb (wMix X.K Wo D l) D σ G) := by
  refine ⟨fun pins s σ G D I h => wpAny_Try_except ?_⟩
  have ok := I.ok
  have frm : X.A.frames = some (X.env :: X.outer) := ok.frames.trans (by rw [hs])
  refine wpAny_mono ((hb (wMix X.K Wo D l) (X.pn ++ pins) (fun e t1 => wpAny (model X.prog X.w) X.A (noteFrame e X.env) (fun _ t2 => wpAny (model X.prog X.w) X.A (setFlight e none) (fun _ t3 =>
    wpAny (model X.prog X.w) X.A (handleBy e X.env (hd0 :: hds)) (SP X pins D) X.xe t3) X.xe t2) X.xe t1) (fun u s1 caught => ?_) PassesOwn.looking).run [] s σ G D (I.toTry _) h) (fun fl s1 fin => ?_) (fun _ _ z => z)
  · obtain ⟨ea, B0, sI, pins1, σ1, G1, cls, d, rfl, IT, nb, up, sky, na, os, ag, wish⟩ := caught
    have I1 : Inv X pins σ1 G1 sI := IT.ofTry ok
    refine Sky.land Zc.steady frm hf (show Sky B0 (X.env :: X.outer) ea (Zc cls d) X.env.locals s1.heap by rw [← hs]; exact sky) fun h3 lands up3 => ?_
    have I3 : Inv X pins σ1 G1 { s1 with heap := h3 } := I1.landed nb lands.1 (up.trans up3) os ag
    obtain ⟨oe3, fv3, at3, z3, dat3⟩ := lands.there
    have off : ea ∉ frs (X.env :: X.outer) := fun hm => by
      obtain ⟨_, o1, e1, nf⟩ := lands.2.2.1.mem hm
      rw [at3] at e1
      cases e1
      exact nf _ dat3
    have offL : ea ≠ X.env.locals := fun z => off (List.mem_filterMap.mpr ⟨X.env, List.mem_cons_self, by rw [hf, z]⟩)
    have offF : ea ∉ X.fs := fun hm => by
      obtain ⟨en, hen, q⟩ := List.mem_filterMap.mp hm
      exact off (List.mem_filterMap.mpr ⟨en, List.mem_cons_of_mem _ hen, q⟩)
    have S3 := I3.suite at3 dat3 na offL offF
    have looks : PySem.W.Looks (model X.prog X.w) h3 (typeOf (.ref ea)) cls := fun A Q E t k q => wpAny_typeOf_ref (k _ _ at3) (by rw [z3.1]; exact q)
    have reads : ∀ {x : Str} {c : Value} {p1 : Pos} {Q : Value → Shared → Prop} {E : Value → Shared → Prop}, Names X x c → Q c { s1 with heap := h3 } → wpAny (model X.prog X.w) (X.A.mark (some (.ref ea))) (eval (.Name x p1) X.env) Q E { s1 with heap := h3 } := fun {x c p1 Q E} hc q => by
      obtain ⟨hg, hdb, hm | ⟨hm, hv, hnn⟩⟩ := hc
      · exact ld_glob (X := X.suite ea ((ea, oe3) :: (X.pn ++ pins))) S3 hg hm q hdb
      · exact ld_blt (X := X.suite ea ((ea, oe3) :: (X.pn ++ pins))) S3 hg hm hv q hnn hdb
    have each : ∀ {hl : List ExceptHandler} {cl : List Cls}, MixOk X hl cl → wMix X.K Wo D cl cls d σ1 G1 → wpAny (model X.prog X.w) X.A (handleBy (.ref ea) X.env hl) (SP X pins D) X.xe { s1 with heap := h3 } := by
      intro hl cl mk
      induction mk with
      | nil =>
        intro wo
        refine wpAny_handleBy_nil ?_
        obtain ⟨_, _, _, ox, fx, T, _, _, atx, _, datx, tl1, _⟩ := id lands
        unfold PySem.passOn
        refine wpAny_bind (wpAny_field atx datx tl1 ?_)
        rw [if_neg (by simp)]
        have out : wpAny (model X.prog X.w) X.A (setFlight (.ref ea) X.env.frame) (fun _ t4 => wpAny (model X.prog X.w) X.A (throw (.ref ea) : Sem Flow) (SP X pins D) X.xe t4) X.xe { s1 with heap := h3 } := by
          rw [hf]
          refine HandSPX.setFlight_upZ lands fun h4 hx4 up4 => wpAny_throw (tk _ _ ⟨ea, B0, sI, pins, σ1, G1, cls, d, rfl, I1, nb, (up.trans up3).trans up4, .inr (.inr (by rw [hs]; exact hx4)), na, os, ag, wo⟩)
        first | exact wpAny_bind (wpAny_pure (wpAny_bind out)) | exact wpAny_bind out
      | @plain x c ts b0 bs p1 p2 hds2 l2 hc hb r ih =>
        intro wq
        obtain ⟨b, e1, yes, no⟩ := wq
        refine wpAny_handleBy_cons (codeAny_handlers_test (reads hc ((PySem.W.exm_one (M := model X.prog X.w) I3.kIn looks e1).here ?_))) (by intro q; cases q)
        cases b with
        | false => exact ih (no rfl)
        | true =>
          refine codeAny_handlers_suite (HandSPX.lands_againZ lands fun h4 lands4 up4 => ?_)
          obtain ⟨oe4, fv4, at4, z4, dat4⟩ := lands4.there
          have I4 : Inv X pins σ1 G1 { s1 with heap := h4 } := I1.landed nb lands4.1 ((up.trans up3).trans up4) os ag
          refine wpAny_mono ((hb ea oe4 cls d (X.pn ++ pins) z4 ⟨_, dat4⟩).run [] _ _ G1 _ (I4.suite at4 dat4 na offL offF) (yes rfl ea na)) (fun fl t6 fin => ?_) (fun _ _ z => z.elim)
          cases fl with
          | ret u =>
            obtain ⟨v6, σ6, G6, S6, r6, q6⟩ := fin
            exact ⟨v6, σ6, G6, S6.unsuite ok, r6, q6⟩
          | _ =>
            obtain ⟨σ6, G6, S6, q6⟩ := fin
            exact ⟨σ6, G6, S6.unsuite ok, q6⟩
      | @named x n i c ts b0 bs p1 p2 hds2 l2 hi hn hc hb r ih =>
        intro wq
        obtain ⟨b, e1, yes, no⟩ := wq
        refine wpAny_handleBy_cons (codeAny_handlers_test (reads hc ((PySem.W.exm_one (M := model X.prog X.w) I3.kIn looks e1).here ?_))) (by intro q; cases q)
        cases b with
        | false => exact ih (no rfl)
        | true =>
          refine codeAny_handlers_suite_as (HandSPX.lands_againZ lands fun h4 lands4 up4 => ?_)
          obtain ⟨oe4, fv4, at4, z4, dat4⟩ := lands4.there
          have I4 : Inv X pins σ1 G1 { s1 with heap := h4 } := I1.landed nb lands4.1 ((up.trans up3).trans up4) os ag
          refine store_ok (X := X.suite ea ((ea, oe4) :: (X.pn ++ pins))) (v := .ref ea) (I4.suite at4 dat4 na offL offF) nd hi (.inl hn) rfl (fun t5 S5 => ?_) (.inr hn)
          refine wpAny_mono ((hb ea oe4 cls d (X.pn ++ pins) z4 ⟨_, dat4⟩).run [] t5 _ G1 _ S5 (yes rfl ea na)) (fun fl t6 fin => ?_) (fun _ _ z => z.elim)
          have gone : ∀ {σ6 : L2.St} {G6 : Hp} {R : Shared → Prop}, Inv (X.suite ea ((ea, oe4) :: (X.pn ++ pins))) [] σ6 G6 t6 → (∀ t7, Inv X pins (σ6.set i none) G6 t7 → R t7) →
              wpAny (model X.prog X.w) X.A (do bindName X.env n .none; unbindBehindTheSuite X.env n p2) (fun _ t7 => R t7) X.xe t6 := fun {σ6 G6 R} S6 k => gone_ok (S6.unsuite ok) nd hi hn k
          cases fl with
          | ret u =>
            obtain ⟨v6, σ6, G6, S6, r6, q6⟩ := fin
            exact gone S6 fun t7 I7 => ⟨v6, _, _, I7, r6, q6⟩
          | _ =>
            obtain ⟨σ6, G6, S6, q6⟩ := fin
            exact gone S6 fun t7 I7 => ⟨_, _, I7, q6⟩
    exact each hh wish
  · cases fl with
    | next =>
      obtain ⟨σ6, G6, I6, q6⟩ := fin
      exact wpAny_execs_nil ⟨σ6, G6, I6.ofTry ok, q6⟩
    | ret u =>
      obtain ⟨v6, σ6, G6, I6, r6, q6⟩ := fin
      exact ⟨v6, σ6, G6, I6.ofTry ok, r6, q6⟩
    | _ =>
      obtain ⟨σ6, G6, I6, q6⟩ := fin
      exact ⟨σ6, G6, I6.ofTry ok, q6⟩
end
end KX

set_option maxRecDepth 100000
set_option maxHeartbeats 4000000
namespace I1
open PySem PySem.Spec PyProof.Rows L2 KX
abbrev sAsc : Stmt := topS 10
abbrev sOW : Stmt := topS 26
abbrev sHW : Stmt := topS 27
abbrev sIR : Stmt := topS 29
abbrev sNO : Stmt := topS 30
/-! ### is_ascending -/
def ltS (a b : Str) : Bool := decide (a.cps.toList < b.cps.toList)
def ascS : List Str → Bool
  | a :: b :: r => ltS a b && ascS (b :: r)
  | _ => true
theorem asc_pairs : ∀ ns : List Str, ((ns.zip (ns.drop 1)).map fun q => ltS q.1 q.2).all id = ascS ns
  | [] => rfl
  | [_] => rfl
  | a :: b :: r => by
    have ih := asc_pairs (b :: r)
    have e : ((a :: b :: r).zip ((a :: b :: r).drop 1)) = (a, b) :: ((b :: r).zip ((b :: r).drop 1)) := rfl
    rw [e, List.map_cons, List.all_cons, ih]
    rfl
theorem vals_strsD {H : Hp} : ∀ {xs : List V} {ns : List Str}, Dxs H xs (ns.map PyData.str) → xs = ns.map V.str
  | [], [], _ => rfl
  | x :: xs, n :: ns, .cons h t => by
    cases h
    rw [vals_strsD t]
    rfl
theorem sl_same {K : PySem.W.Frag} {H : Hp} {ds : List PyData} {Q : VK} {lo hi : Option Int} {v : V} (hd : Dx H v (.tuple ds)) (q : ∀ H' p, Same H H' → Dx H' (.ref p) (.tuple (KX.cutD ds lo hi)) → Q (.ref p) H') : rSlA K v lo hi H Q := by
  cases hd with
  | @tup a xs _ ea h =>
    refine ⟨a, xs, rfl, .inl (.inl ea), fun hw => q H a (Same.refl H) ?_, fun _ p np => q _ p (same_new np) (.tup upd_same ((dxs_cut h lo hi).up (same_new np)))⟩
    have : KX.cutD ds lo hi = ds := by
      unfold KX.cutD
      rw [← h.len, hw.1, hw.2, List.drop_zero, Nat.sub_zero, List.take_of_length_le (by rw [h.len]; exact Nat.le_refl _)]
    rw [this]
    exact .tup ea h
def spAsc : Sp := fun vs H Q _ => ∃ (v : V) (ns : List Str), vs = [v] ∧ Dx H v (.tuple (ns.map .str)) ∧ ns.length ≤ 1000 ∧ ∀ H', Same H H' → Q (.bl (ascS ns)) H'
theorem scAsc : FnScope ["names", "first", "second"] ["names"] (defScope sAsc) := ⟨rfl, rfl, rfl, by decide +kernel, rfl, by decide +kernel, by decide +kernel⟩
section
variable {P : Program} {w : World} {K : PySem.W.Frag} {mg : Str → Option Value} {base : Heap}
theorem ok_asc {f : Addr} {fd : FuncData} (B : Bl mg) (D : Df K mg "is_ascending" sAsc ["names"] f fd) : FnOk P w K mg base CX0 1 f fd ["names"] spAsc := by
  refine D.F.ok scAsc (fun vs H Q E h => ?_) (fun cdv A outer s H vs Q E hr h => ?_)
  · obtain ⟨v, ns, rfl, _⟩ := h
    rfl
  · obtain ⟨v, ns, rfl, hd, hl, q⟩ := h
    have nd := scAsc.nd
    refine ⟨_, pss_one (ps_ret (pe_callB (cr_all rfl) (by rfl) B.all (by decide +kernel) (pa_cons (pe_lc (own := [("first", 1), ("second", 2)]) (g := gTup K 2 (gCons (gName 1) (gCons (gName 2) gNil))) rfl nd (RZ.pi_zipA (by rfl) B.zip (pa_cons (pv 0) (pa_cons (pe_slice sl_tupA (pv 0) (po_some pe_int) po_none) pa_nil)))
        (blkOk_by (N := ["names", "first", "second"]) (sc := defScope sAsc) (by decide +kernel)) (fun _ _ _ _ _ => pg_tup rfl (pgs_cons (pg_name (i := 1) nd rfl (Or.inl rfl)) (pgs_cons (pg_name (i := 2) nd rfl (Or.inl rfl)) pgs_nil))) (fun _ _ _ _ _ => pts_nil)
        (fun _ _ _ _ _ => pe_cmpR op_lt_str (pv 1) (pv 2) (nomark _))) pa_nil))), ?_⟩
    refine ⟨v, rfl, v, rfl, 1, rfl, ?_⟩
    refine (show ∀ {σ : L2.St} {H : Hp} {Q : Option Int → Hp → Prop}, Q none H → tNoPart σ H Q from fun h => h) (sl_same hd fun H2 p s2 dp => ?_)
    rw [show (1 : Int) = ((1 : Nat) : Int) from rfl, cutD_from, ← List.map_drop] at dp
    cases hd with
    | @tup a xs _ ea h =>
    cases dp with
    | @tup _ ys _ ep hp =>
    have exs := vals_strsD h
    have eys := vals_strsD hp
    have lx : xs.length = ns.length := by rw [exs, List.length_map]
    have ly : ys.length = ns.length - 1 := by rw [eys, List.length_map, List.length_drop]
    refine ⟨a, p, xs, ys, rfl, .inr ⟨.inl (.inl (s2 _ _ ea)), .inl (.inl ep), fun D nD => ?_⟩⟩
    refine lc_zipS (xs := xs) (ys := ys) (by omega) (fun i G => Same H2 G ∧ G D = some (.lst ((((ns.zip (ns.drop 1)).take i).map fun q => ltS q.1 q.2).map V.bl))) ⟨same_new nD, upd_same⟩ (fun i G _ hG => ⟨.inl (.inl (hG.1 _ _ (s2 _ _ ea))), .inl (.inl (hG.1 _ _ ep))⟩) (fun i x y T G hx hy hG nT => ?_) (fun G hG => ?_)
    · obtain ⟨sG, eD⟩ := hG
      rw [exs, List.getElem?_map] at hx
      rw [eys, List.getElem?_map] at hy
      obtain ⟨n1, e1, rfl⟩ := Option.map_eq_some_iff.mp hx
      obtain ⟨n2, e2, rfl⟩ := Option.map_eq_some_iff.mp hy
      have ez : (ns.zip (ns.drop 1))[i]? = some (n1, n2) := by rw [List.getElem?_zip_eq_some]; exact ⟨e1, e2⟩
      have sT : Same G (upd G T (.tup [.str n1, .str n2])) := same_new nT
      refine ⟨T, _, rfl, .inl (.inl upd_same), rfl, _, _, rfl, _, _, rfl, rfl, rfl, ?_⟩
      refine ⟨.str n1, rfl, .str n2, rfl, n1, n2, rfl, rfl, _, sT _ _ eD, ?_, same_at (sG.trans sT) nD, ?_⟩
      · rw [List.length_map, List.length_map, List.length_take, List.length_zip, List.length_drop]
        have hb : (1000 : Nat) < sizeLine := by decide
        omega
      · rw [upd_same, List.take_add_one, ez, List.map_append, List.map_append]
        rfl
    · obtain ⟨sG, eD⟩ := hG
      rw [List.take_of_length_le (by rw [List.length_zip, List.length_drop]; omega)] at eD
      refine ⟨D, _, rfl, .inl (.inl eD), ?_⟩
      rw [asc_pairs]
      exact q G (s2.trans sG)
/-! ### names_of -/
def spNO : Sp := fun vs H Q _ => ∃ (v : V) (rs : List Rec), vs = [v] ∧ Dx H v (.tuple (rs.map encR)) ∧ rs.length ≤ 1000 ∧ ∀ H' p, Same H H' → Dx H' (.ref p) (.tuple ((rs.map (·.nm)).map .str)) → Q (.ref p) H'
theorem scNO : FnScope ["rows", "row"] ["rows"] (defScope sNO) := ⟨rfl, rfl, rfl, by decide +kernel, rfl, by decide +kernel, by decide +kernel⟩
theorem row_dx {H : Hp} {v : V} {r : Rec} (h : Dx H v (encR r)) : ∃ a z vs, v = .ref a ∧ H a = some (.tup [.str r.nm, .int r.cost, .ref z, .int r.exp]) ∧ H z = some (.tup vs) ∧ vs = r.vals.map V.int := by
  unfold encR at h
  cases h with
  | @tup a xs _ ea h =>
    match xs, h, ea with
    | [v1, v2, v3, v4], .cons h1 (.cons h2 (.cons h3 (.cons h4 .nil))), ea =>
      cases h1
      cases h2
      cases h4
      cases h3 with
      | @tup z vs _ ez hz =>
        refine ⟨a, z, vs, rfl, ea, ez, ?_⟩
        have : ∀ {xs : List V} {ns : List Int}, Dxs H xs (ns.map PyData.int) → xs = ns.map V.int := fun {xs ns} => by
          induction ns generalizing xs with
          | nil => intro h; cases h; rfl
          | cons n ns ih =>
            intro h
            cases h with
            | cons h t =>
              cases h
              rw [ih t]
              rfl
        exact this hz
theorem ok_no {f : Addr} {fd : FuncData} (B : Bl mg) (cn : ∃ t, mg "NAME" = some (.int 0 t)) (D : Df K mg "names_of" sNO ["rows"] f fd) : FnOk P w K mg base CX0 1 f fd ["rows"] spNO := by
  obtain ⟨tn, mn⟩ := cn
  refine D.F.ok scNO (fun vs H Q E h => ?_) (fun cdv A outer s H vs Q E hr h => ?_)
  · obtain ⟨v, ns, rfl, _⟩ := h
    rfl
  · obtain ⟨v, rs, rfl, hd, hl, q⟩ := h
    have nd := scNO.nd
    refine ⟨_, pss_one (ps_ret (pe_callTy call_tuple_of (by rfl) B.tuple (by decide +kernel) (pa_cons (pe_lc (own := [("row", 1)]) (g := gName 1) rfl nd (pi_tup (pv 0))
        (blkOk_by (N := ["rows", "row"]) (sc := defScope sNO) (by decide +kernel)) (fun _ _ _ _ _ => pg_name (i := 1) nd rfl (Or.inl rfl)) (fun _ _ _ _ _ => pts_nil)
        (fun _ _ _ _ _ => pe_ix (r := rIxT K) ix_tup (pv 1) (pe_glob (v := .int 0) (by rfl) mn ⟨_, rfl⟩) (fun _ _ => rfl))) pa_nil))), ?_⟩
    cases hd with
    | @tup a xs _ ea h =>
    have lx := h.len
    rw [List.length_map] at lx
    refine ⟨.ref a, rfl, a, rfl, ⟨_, .inl (.inl ea)⟩, fun D nD => ?_⟩
    refine lc_tup (xs := xs) (fun i G => Same H G ∧ G D = some (.lst (((rs.take i).map (·.nm)).map V.str))) ⟨same_new nD, upd_same⟩ (fun i G _ hG => .inl (.inl (hG.1 _ _ ea))) (fun i x G hx hG => ?_) (fun G hG => ?_)
    · obtain ⟨sG, eD⟩ := hG
      obtain ⟨d, ed, hdx⟩ := h.get' hx
      rw [List.getElem?_map] at ed
      obtain ⟨r, er, rfl⟩ := Option.map_eq_some_iff.mp ed
      obtain ⟨b, z, vs, rfl, eb, _⟩ := row_dx (hdx.up sG)
      refine ⟨rfl, .ref b, rfl, b, _, 0, .str r.nm, rfl, rfl, .inl (.inl eb), rfl, _, eD, ?_, same_at sG nD, ?_⟩
      · rw [List.length_map, List.length_map, List.length_take]
        have hb : (1000 : Nat) < sizeLine := by decide
        omega
      · rw [upd_same, List.take_add_one, er, List.map_append, List.map_append]
        rfl
    · obtain ⟨sG, eD⟩ := hG
      rw [List.take_of_length_le (by omega)] at eD
      refine ⟨D, _, rfl, .inl ⟨.inl (.inl eD), fun p np => ?_⟩⟩
      have : ∀ (ns : List Str) (G : Hp), Dxs G (ns.map V.str) (ns.map PyData.str) := fun ns G => by
        induction ns with
        | nil => exact .nil
        | cons n ns ih => exact .cons (.str n) ih
      exact q _ p (sG.trans (same_new np)) (.tup upd_same (this _ _))
/-! ### have_one_width, for rows of one width -/
theorem call_lenK {X : Cx} {K : PySem.W.Frag} (h : X.K = K) : CallR X (.builtin "len") (fun xs H Q => ∃ p ys, xs = [V.ref p] ∧ (SqL K H p ys ∨ SqT K H p ys) ∧ Q (.int (ys.length : Int)) H) := by
  subst h
  exact call_len_seq
theorem scHW : FnScope ["rows", "row"] ["rows"] (defScope sHW) := ⟨rfl, rfl, rfl, by decide +kernel, rfl, by decide +kernel, by decide +kernel⟩
/-- the rows have one width -/
def oneW : List Rec → Bool
  | [] => true
  | r :: rs => (r :: rs).all fun e => decide (e.vals.length = r.vals.length)
def spHW : Sp := fun vs H Q _ => ∃ (v : V) (rs : List Rec), vs = [v] ∧ Dx H v (.tuple (rs.map encR)) ∧ rs.length ≤ 1000 ∧ ∀ H', Same H H' → Q (.bl (oneW rs)) H'
theorem ok_hw {f : Addr} {fd : FuncData} (B : Bl mg) (cv : ∃ t, mg "VALUES" = some (.int 2 t)) (D : Df K mg "have_one_width" sHW ["rows"] f fd) : FnOk P w K mg base CX0 1 f fd ["rows"] spHW := by
  obtain ⟨tv, mv⟩ := cv
  refine D.F.ok scHW (fun vs H Q E h => ?_) (fun cdv A outer s H vs Q E hr h => ?_)
  · obtain ⟨v, rs, rfl, _⟩ := h
    rfl
  · obtain ⟨v, rs, rfl, hd, hl, q⟩ := h
    have nd := scHW.nd
    refine ⟨_, pss_one (ps_ret (pe_callB (cr_all rfl) (by rfl) B.all (by decide +kernel) (pa_cons (pe_lc (own := [("row", 1)]) (g := gName 1) rfl nd (pi_tup (pv 0))
        (blkOk_by (N := ["rows", "row"]) (sc := defScope sHW) (by decide +kernel)) (fun _ _ _ _ _ => pg_name (i := 1) nd rfl (Or.inl rfl)) (fun _ _ _ _ _ => pts_nil)
        (fun _ _ _ _ _ => pe_cmpR op_eq (pe_callB (call_lenK (K := K) rfl) (by rfl) B.len PySem.boot_len (pa_cons (pe_ix (r := rIxT K) ix_tup (pv 1) (pe_glob (v := .int 2) (by rfl) mv ⟨_, rfl⟩) (fun _ _ => rfl)) pa_nil))
          (pe_callB (call_lenK (K := K) rfl) (by rfl) B.len PySem.boot_len (pa_cons (pe_ix (r := rIxT K) ix_tup (pe_ix (r := rIxT K) ix_tup (pv 0) pe_int (fun _ _ => rfl)) (pe_glob (v := .int 2) (by rfl) mv ⟨_, rfl⟩) (fun _ _ => rfl)) pa_nil)) (nomark _))) pa_nil))), ?_⟩
    cases hd with
    | @tup a xs _ ea h =>
    have lx := h.len
    rw [List.length_map] at lx
    refine ⟨.ref a, rfl, a, rfl, ⟨_, .inl (.inl ea)⟩, fun D nD => ?_⟩
    refine lc_tup (xs := xs) (fun i G => Same H G ∧ G D = some (.lst (((rs.take i).map fun r => decide (r.vals.length = (rs.headD ⟨"", 0, [], 0⟩).vals.length)).map V.bl))) ⟨same_new nD, upd_same⟩ (fun i G _ hG => .inl (.inl (hG.1 _ _ ea))) (fun i x G hx hG => ?_) (fun G hG => ?_)
    · obtain ⟨sG, eD⟩ := hG
      have hi : i < xs.length := (List.getElem?_eq_some_iff.mp hx).1
      obtain ⟨d, ed, hdx⟩ := h.get' hx
      rw [List.getElem?_map] at ed
      obtain ⟨r, er, rfl⟩ := Option.map_eq_some_iff.mp ed
      obtain ⟨b, z, vs, rfl, eb, ez, ev⟩ := row_dx (hdx.up sG)
      have h0 : 0 < rs.length := by omega
      obtain ⟨x0, e0, hd0⟩ := h.get (i := 0) (d := encR rs[0]) (by rw [List.getElem?_map, List.getElem?_eq_getElem h0]; rfl)
      obtain ⟨b0, z0, vs0, rfl, eb0, ez0, ev0⟩ := row_dx (hd0.up sG)
      have eh : rs.headD ⟨"", 0, [], 0⟩ = rs[0] := by
        cases rs with
        | nil => exact absurd h0 (by simp)
        | cons r rs => rfl
      refine ⟨rfl, .ref b, rfl, b, _, 2, .ref z, rfl, rfl, .inl (.inl eb), rfl, z, vs, rfl, .inr (.inl (.inl ez)), ?_⟩
      refine ⟨.ref a, rfl, a, xs, 0, .ref b0, rfl, rfl, .inl (.inl (sG _ _ ea)), atI_nat (j := 0) e0, b0, _, 2, .ref z0, rfl, rfl, .inl (.inl eb0), rfl, z0, vs0, rfl, .inr (.inl (.inl ez0)), rfl, _, eD, ?_, same_at sG nD, ?_⟩
      · rw [List.length_map, List.length_map, List.length_take]
        have hb : (1000 : Nat) < sizeLine := by decide
        omega
      · rw [upd_same, List.take_add_one, er, List.map_append, List.map_append, eh, ev, ev0, List.length_map, List.length_map]
        have eb : decide (V.int (r.vals.length : Int) = V.int (rs[0].vals.length : Int)) = decide (r.vals.length = rs[0].vals.length) := by
          by_cases z : r.vals.length = rs[0].vals.length
          · rw [decide_eq_true z, decide_eq_true (by rw [z])]
          · rw [decide_eq_false z, decide_eq_false (fun e => z (by have := V.int.inj e; omega))]
        rw [eb]
        rfl
    · obtain ⟨sG, eD⟩ := hG
      rw [List.take_of_length_le (by omega)] at eD
      refine ⟨D, _, rfl, .inl (.inl eD), ?_⟩
      have : (rs.map fun r => decide (r.vals.length = (rs.headD ⟨"", 0, [], 0⟩).vals.length)).all id = oneW rs := by
        rw [List.all_map]
        cases rs with
        | nil => rfl
        | cons r rs => rfl
      rw [this]
      exact q G sG
end
end I1

set_option maxRecDepth 100000
set_option maxHeartbeats 4000000
namespace I1
open PySem PySem.Spec PyProof.Rows L2 KX
/-! ### are_rows_of_one_width, is_rowset: any data -/
def intD' : PyData → Option Int
  | .int i => some i
  | _ => none
def recD : PyData → Rec
  | .tuple [.str n, .int c, .tuple vs, .int e] => ⟨n, c, vs.filterMap intD', e⟩
  | _ => ⟨"", 0, [], 0⟩
theorem ints_back : ∀ ns : List Int, (ns.map PyData.int).filterMap intD' = ns
  | [] => rfl
  | n :: ns => by
    rw [List.map_cons, List.filterMap_cons]
    show n :: (ns.map PyData.int).filterMap intD' = n :: ns
    rw [ints_back ns]
theorem recD_enc (r : Rec) : recD (encR r) = r := by
  show (⟨r.nm, r.cost, (r.vals.map PyData.int).filterMap intD', r.exp⟩ : Rec) = r
  rw [ints_back]
theorem ints_rec {lo hi : Int} : ∀ {ds : List PyData}, ds.all (betw lo hi) = true → ∃ ns : List Int, ds = ns.map .int
  | [], _ => ⟨[], rfl⟩
  | d :: ds, h => by
    rw [List.all_cons, Bool.and_eq_true] at h
    obtain ⟨ns, e⟩ := ints_rec h.2
    cases d with
    | int i => exact ⟨i :: ns, by rw [e]; rfl⟩
    | _ => exact absurd h.1 (by simp [betw])
theorem row_rec {d : PyData} (h : rowD d = true) : ∃ r, d = encR r := by
  match d, h with
  | .tuple [n, c, vs, e], h =>
    change (nameD n && betw 1 1000000 c && (valsD vs && betw 1 1000000000 e)) = true at h
    simp only [Bool.and_eq_true] at h
    obtain ⟨⟨h1, h2⟩, h3, h4⟩ := h
    cases n with
    | str n =>
      cases c with
      | int c =>
        cases e with
        | int e =>
          cases vs with
          | tuple ws =>
            simp only [valsD, Bool.and_eq_true] at h3
            obtain ⟨ns, rfl⟩ := ints_rec h3.2
            exact ⟨⟨n, c, ns, e⟩, rfl⟩
          | _ => simp [valsD] at h3
        | _ => simp [betw] at h4
      | _ => simp [betw] at h2
    | _ => simp [nameD] at h1
theorem rows_rec : ∀ {ds : List PyData}, ds.all rowD = true → ∃ rs : List Rec, ds = rs.map encR
  | [], _ => ⟨[], rfl⟩
  | d :: ds, h => by
    rw [List.all_cons, Bool.and_eq_true] at h
    obtain ⟨rs, e⟩ := rows_rec h.2
    obtain ⟨r, rfl⟩ := row_rec h.1
    exact ⟨r :: rs, by rw [e]; rfl⟩
theorem recs_back (rs : List Rec) : (rs.map encR).map recD = rs := by
  rw [List.map_map]
  have : recD ∘ encR = id := funext recD_enc
  rw [this, List.map_id]
def rowsD : PyData → Bool
  | .tuple ds => ds.all rowD && oneW (ds.map recD)
  | _ => false
def rowsetD : PyData → Bool
  | .tuple ds => decide (ds.length ≤ 60) && (rowsD (.tuple ds) && ascS ((ds.map recD).map (·.nm)))
  | _ => false
/-- its texts are not too long, it has not too many items -/
def SmR (d : PyData) : Prop := ∀ ds, d = .tuple ds → ds.length ≤ 1000 ∧ ∀ e ∈ ds, smA e
def spOW : Sp := fun vs H Q _ => ∃ (v : V) (d : PyData), vs = [v] ∧ Dx H v d ∧ SmR d ∧ ∀ H', Same H H' → Q (.bl (rowsD d)) H'
def spIR : Sp := fun vs H Q _ => ∃ (v : V) (d : PyData), vs = [v] ∧ Dx H v d ∧ SmR d ∧ ∀ H', Same H H' → Q (.bl (rowsetD d)) H'
theorem scOW : FnScope ["value", "row"] ["value"] (defScope sOW) := ⟨rfl, rfl, rfl, by decide +kernel, rfl, by decide +kernel, by decide +kernel⟩
theorem scIR : FnScope ["value"] ["value"] (defScope sIR) := ⟨rfl, rfl, rfl, by decide +kernel, rfl, by decide +kernel, by decide +kernel⟩
theorem isa_tupleT {ds : List PyData} : isaN "tuple" (.tuple ds) = true := isa_tuple
section
variable {P : Program} {w : World} {K : PySem.W.Frag} {mg : Str → Option Value} {base : Heap}
theorem ok_ow {k : Nat} {f fR fW : Addr} {fd fdR fdW : FuncData} (B : Bl mg) (D : Df K mg "are_rows_of_one_width" sOW ["value"] f fd) (DR : Df K mg "is_row" sRow ["value"] fR fdR) (DW : Df K mg "have_one_width" sHW ["rows"] fW fdW)
    (GR : FnOk P w K mg base CX0 k fR fdR ["value"] spRow) (GW : FnOk P w K mg base CX0 k fW fdW ["rows"] spHW) : FnOk P w K mg base CX0 (k + 1) f fd ["value"] spOW := by
  refine D.F.ok scOW (fun vs H Q E h => ?_) (fun cdv A outer s H vs Q E hr h => ?_)
  · obtain ⟨v, d, rfl, _⟩ := h
    rfl
  · obtain ⟨v, d, rfl, hd, hsm, q⟩ := h
    have nd := scOW.nd
    refine ⟨_, pss_cons (ps_if (PW.pt (pw_or (pt_not (pt_val (pe_isD (T := "tuple") (x := "tuple") (by decide +kernel) B.isi B.tuple (by decide +kernel) (pv 0) (by rfl) (by rfl))))
        (pw_or1 (pt_not (pt_val (pe_callB (cr_all rfl) (by rfl) B.all (by decide +kernel) (pa_cons (pe_lc (own := [("row", 1)]) (g := gName 1) rfl nd (pi_tup (pv 0)) (blkOk_by (N := ["value", "row"]) (sc := defScope sOW) (by decide +kernel))
          (fun _ _ _ _ _ => pg_name (i := 1) nd rfl (Or.inl rfl)) (fun _ _ _ _ _ => pts_nil) (fun _ _ _ _ _ => pe_call GR hr (by rfl) DR.g DR.F.kp DR.b .nil pass0 (pa_cons (pv 1) pa_nil))) pa_nil))))))) (pss_one (ps_ret pe_bl)) pss_nil)
      (pss_one (ps_ret (pe_call GW hr (by rfl) DW.g DW.F.kp DW.b .nil pass0 (pa_cons (pv 0) pa_nil)))), ?_⟩
    refine ⟨v, rfl, rfl, d, hd, _, rfl, ?_⟩
    rw [isa_tuple]
    cases d with
    | tuple ds =>
      obtain ⟨hl, sm⟩ := hsm ds rfl
      refine iteF ?_
      obtain ⟨a, xs, rfl, ea, hx⟩ : ∃ a xs, v = .ref a ∧ H a = some (.tup xs) ∧ Dxs H xs ds := by
        cases hd with
        | @tup a xs _ ea h => exact ⟨a, xs, rfl, ea, h⟩
      have lx := hx.len
      refine ⟨.ref a, rfl, a, rfl, ⟨_, .inl (.inl ea)⟩, fun L nL => ?_⟩
      refine lc_tup (xs := xs) (fun i G => Same H G ∧ G L = some (.lst (((ds.take i).map rowD).map V.bl))) ⟨same_new nL, upd_same⟩ (fun i G _ hG => .inl (.inl (hG.1 _ _ ea))) (fun i x G hx2 hG => ?_) (fun G hG => ?_)
      · obtain ⟨sG, eL⟩ := hG
        obtain ⟨e, ee, hxe⟩ := hx.get' hx2
        have hi : i < ds.length := (List.getElem?_eq_some_iff.mp ee).1
        refine ⟨rfl, x, rfl, x, e, rfl, hxe.up sG, sm e (List.mem_of_getElem? ee), fun G2 s2 => ⟨_, s2 _ _ eL, ?_, same_at (sG.trans s2) nL, ?_⟩⟩
        · rw [List.length_map, List.length_map, List.length_take]
          have hb : (1000 : Nat) < sizeLine := by decide
          omega
        · rw [upd_same, List.take_add_one, ee]
          simp
      · obtain ⟨sG, eL⟩ := hG
        rw [List.take_of_length_le (by omega)] at eL
        refine ⟨L, _, rfl, .inl (.inl eL), _, rfl, ?_⟩
        have e1 : (ds.map rowD).all id = ds.all rowD := by rw [List.all_map]; rfl
        rw [e1]
        change ∀ H', Same H H' → Q (.bl (ds.all rowD && oneW (ds.map recD))) H' at q
        cases er : ds.all rowD with
        | false =>
          rw [er] at q
          exact iteT (q G sG)
        | true =>
          rw [er] at q
          obtain ⟨rs, rfl⟩ := rows_rec er
          rw [recs_back] at q
          rw [List.length_map] at hl
          exact iteF ⟨.ref a, rfl, .ref a, rs, rfl, (Dx.tup ea hx).up sG, hl, fun G2 s2 => q G2 (sG.trans s2)⟩
    | _ => exact iteT (iteT (q H (Same.refl H)))
theorem ok_ir {k : Nat} {f fT fO fA fN : Addr} {fd fdT fdO fdA fdN : FuncData} (B : Bl mg) (cr : ∃ t, mg "MAX_ROWS" = some (.int 60 t)) (D : Df K mg "is_rowset" sIR ["value"] f fd) (DT : Df K mg "is_tuple_between" sTupB ["value", "low", "high"] fT fdT) (DO : Df K mg "are_rows_of_one_width" sOW ["value"] fO fdO)
    (DA : Df K mg "is_ascending" sAsc ["names"] fA fdA) (DN : Df K mg "names_of" sNO ["rows"] fN fdN) (GT : FnOk P w K mg base CX0 k fT fdT ["value", "low", "high"] spTupB) (GO : FnOk P w K mg base CX0 k fO fdO ["value"] spOW) (GA : FnOk P w K mg base CX0 k fA fdA ["names"] spAsc) (GN : FnOk P w K mg base CX0 k fN fdN ["rows"] spNO) :
    FnOk P w K mg base CX0 (k + 1) f fd ["value"] spIR := by
  obtain ⟨tr, mr⟩ := cr
  refine D.F.ok scIR (fun vs H Q E h => ?_) (fun cdv A outer s H vs Q E hr h => ?_)
  · obtain ⟨v, d, rfl, _⟩ := h
    rfl
  · obtain ⟨v, d, rfl, hd, hsm, q⟩ := h
    refine ⟨_, pss_cons (ps_if (PW.pt (pw_or (pt_not (pt_val (pe_call GT hr (by rfl) DT.g DT.F.kp DT.b .nil pass0 (pa_cons (pv 0) (pa_cons pe_int (pa_cons (pe_glob (v := .int 60) (by rfl) mr ⟨_, rfl⟩) pa_nil))))))
        (pw_or1 (pt_not (pt_val (pe_call GO hr (by rfl) DO.g DO.F.kp DO.b .nil pass0 (pa_cons (pv 0) pa_nil))))))) (pss_one (ps_ret pe_bl)) pss_nil)
      (pss_one (ps_ret (pe_call GA hr (by rfl) DA.g DA.F.kp DA.b .nil pass0 (pa_cons (pe_call GN hr (by rfl) DN.g DN.F.kp DN.b .nil pass0 (pa_cons (pv 0) pa_nil)) pa_nil)))), ?_⟩
    refine ⟨v, rfl, v, d, 0, 60, rfl, hd, _, rfl, ?_⟩
    cases d with
    | tuple ds =>
      have et : tupB 0 60 (.tuple ds) = (decide ((0 : Int) ≤ (ds.length : Int)) && decide ((ds.length : Int) ≤ 60)) := rfl
      change ∀ H', Same H H' → Q (.bl (decide (ds.length ≤ 60) && (rowsD (.tuple ds) && ascS ((ds.map recD).map (·.nm))))) H' at q
      rw [et, decide_eq_true (by omega)]
      by_cases h60 : ds.length ≤ 60
      · rw [decide_eq_true h60] at q
        rw [decide_eq_true (show (ds.length : Int) ≤ 60 by omega)]
        refine iteF ⟨v, rfl, v, _, rfl, hd, hsm, fun G sG => ⟨_, rfl, ?_⟩⟩
        cases er : rowsD (.tuple ds) with
        | false =>
          rw [er] at q
          exact iteT (q G sG)
        | true =>
          rw [er] at q
          have ea : ds.all rowD = true := by
            have : (ds.all rowD && oneW (ds.map recD)) = true := er
            rw [Bool.and_eq_true] at this
            exact this.1
          obtain ⟨rs, rfl⟩ := rows_rec ea
          rw [recs_back] at q
          rw [List.length_map] at h60
          refine iteF ⟨v, rfl, v, rs, rfl, hd.up sG, by omega, fun G2 p s2 hp => ?_⟩
          exact ⟨.ref p, rs.map (fun r : Rec => r.nm), rfl, hp, by rw [List.length_map]; omega, fun G3 s3 => q G3 ((sG.trans s2).trans s3)⟩
      · rw [decide_eq_false h60] at q
        rw [decide_eq_false (show ¬ (ds.length : Int) ≤ 60 by omega)]
        exact iteT (iteT (q H (Same.refl H)))
    | _ => exact iteT (iteT (q H (Same.refl H)))
end
end I1

set_option maxRecDepth 100000
set_option maxHeartbeats 1000000
/-! KeyError as a base of an own exception class: __new__ is LookupError's, __init__ its own -/
namespace KX
open PySem PySem.F PySem.Spec PyProof.Rows L2 HandSPX
def kyTl : List Value := [.type "KeyError", .type "LookupError", .type "Exception", .type "BaseException", .type "object"]
/-- what is known of the __init__ of a built-in exception class -/
structure IniB (B iniI : String) : Prop where
  slot : Slot B "__init__" iniI
  ent : entryFor table iniI = some Builtin.«BaseException.__init__»
  spl : splitId iniI = some (B, "__init__")
  knd : builtinKind iniI = some .slot
  row : Manifest.signature? iniI = some ⟨.positional, "*", B, .self, [⟨"args", .varPos, false⟩]⟩
theorem kyIni : IniB "KeyError" "KeyError.__init__" :=
  ⟨.of (owner := "KeyError") (n := "__init__") (by rw [typeLookup_type, builtinLookup_eq_fast]; kernel_rfl) (by decide +kernel) (by decide +kernel) (by decide +kernel) (by first | exact .inl (by decide +kernel) | exact .inr (by decide +kernel)) (by rw [isSubtype_type]; kernel_rfl),
   entryFor_alias (id' := "BaseException.__init__") (by rw [fastTable_eq_tree]; kernel_rfl) (by first | rfl | decide +kernel) (by decide +kernel) (by rw [fastTable_eq_tree]; kernel_rfl), by kernel_rfl, by kernel_rfl, by kernel_rfl⟩
theorem kyStore : StoreFacts "KeyError" kyTl "object.__setattr__" "object" := by
  have i := PySem.F.store_IndexError
  refine ⟨by kernel_rfl, ?_, i.entry, i.kind, i.split, by decide +kernel, i.args, fun z => by kernel_rfl⟩
  exact .of (owner := "object") (n := "__setattr__") (by rw [typeLookup_type, builtinLookup_eq_fast]; kernel_rfl) (by decide +kernel) (by decide +kernel) (by decide +kernel) (by first | exact .inl (by decide +kernel) | exact .inr (by decide +kernel)) (by rw [isSubtype_type]; kernel_rfl)
/-- of the class at C, whose tail is bm: the built-in class B makes it, D's __init__ fits it -/
structure Tl (B D : String) (bm : List Value) : Prop where
  b : bm.contains (.type B) = true
  d : bm.contains (.type D) = true
  a : bm.contains (.type "AttributeError") = false
  n : bm.contains (.type "NameError") = false
section
variable {M : Model} {prog : Program} {w : World} {A : Around} {E : Value → Shared → Prop} {R : Result → Shared → Prop} {hp : Heap} {g : Array GenState} {dr : Drawn} {tk : Nat} {os : OsState}
variable {nm q : Str} {C N : Addr} {bs bm bB : List Value} {hdct : Bool} {sn : List Str} {sub : List Value} {ab : Bool} {col : Option Bool} {dd : Option Addr} {k0 k1 k2 k3 k5 : Option Value} {B D newI oldI iniI : String} {rest : List Value}
theorem new_ok2 (L : ExcBaseFacts B newI oldI bB) (T : Tl B D bm) {Q : Unit → Shared → Prop} (at' : hp.get? C = some (excClassObj nm q C N bs bm hdct sn sub ab col dd k0 k1 k2 k3 k5 newI)) (k : Q () ⟨hp, g, dr, tk, os⟩) :
    wpAny M A (checkBuiltinCall newI ⟨.ref C :: rest, []⟩) Q E ⟨hp, g, dr, tk, os⟩ := by
  have inB : (Value.ref C :: bm).contains (.type B) = true := by rw [List.contains_cons, T.b, Bool.or_true]
  have star := L.noStar
  simp only [checkBuiltinCall, L.newKind, L.newSplit, L.newRow]
  repeat (first | refine wpAny_loadPart_at at' ?_ | (refine wpAny_isSubtype_exc at' ?_; rw [inB]) | refine wpAny_staticBase_exc at' ?_ | refine wpAny_madeBy_exc at' ?_ | simp only [bne_self_eq_false, Bool.false_eq_true, if_false] | wp_step)
  exact k
theorem ini_ok2 (J : IniB D iniI) (nst : (D != "*") = true) (T : Tl B D bm) {e : Addr} {oe : Obj} {Q : Unit → Shared → Prop} (at' : hp.get? C = some (excClassObj nm q C N bs bm hdct sn sub ab col dd k0 k1 k2 k3 k5 newI)) (ae : hp.get? e = some oe) (ce : oe.cls = .ref C) (k : Q () ⟨hp, g, dr, tk, os⟩) :
    wpAny M A (checkBuiltinCall iniI ⟨.ref e :: rest, []⟩) Q E ⟨hp, g, dr, tk, os⟩ := by
  have inD : (Value.ref C :: bm).contains (.type D) = true := by rw [List.contains_cons, T.d, Bool.or_true]
  simp only [checkBuiltinCall, J.knd, J.spl, J.row]
  repeat (first | (with_reducible refine wpAny_loadPart_at ae ?_; rw [ce]) | with_reducible refine wpAny_loadPart_at at' ?_ | (with_reducible refine wpAny_isSubtype_exc at' ?_; rw [inD]) | wp_step)
  refine wpAny_onRaise ?_
  rw [show ∀ (x y : String) (m : Nat), Bind.check ⟨.positional, "*", D, .self, [⟨"args", .varPos, false⟩]⟩ x y m (List.map (fun z => z.fst) ({ pos := Value.ref e :: rest } : Args).kw) = pure () from fun x y m => check_star_args _ _ _ _ _ _]
  exact wpAny_pure k
theorem made2 (L : ExcBaseFacts B newI oldI bB) (T : Tl B D bm) (at' : hp.get? C = some (excClassObj nm q C N bs bm hdct sn sub ab col dd k0 k1 k2 k3 k5 newI))
    (k : R (.ok (.ret (.ref (hp.objs.size + 1)))) ⟨(hp.push (W.kdv_tup rest)).push (excO C hp.objs.size), g, dr, tk, os⟩) (hl : rest.length ≤ sizeLine) : codeAny (model prog w) A (.builtin newI ⟨.ref C :: rest, []⟩) R ⟨hp, g, dr, tk, os⟩ := by
  have en := L.ends
  have inB : (Value.ref C :: bm).contains (.type B) = true := by rw [List.contains_cons, T.b, Bool.or_true]
  have noA : (Value.ref C :: bm).contains (.type "AttributeError") = false := by rw [List.contains_cons, T.a]; rfl
  have noN : (Value.ref C :: bm).contains (.type "NameError") = false := by rw [List.contains_cons, T.n]; rfl
  refine codeAny_builtinAt L.entry ?_
  unfold Builtin.«BaseException.__new__»
  refine PyProof.Rows.wpAt_bind (show PyProof.Rows.wpAt _ _ _ (stack >>= _) _ _ _ from PyProof.Rows.wpAt_bind (PyProof.Rows.wpAt_stack fun p below => wpAt_of_wpAny ?_))
  wp_walk
  refine wpAt_of_wpAny ?_
  rw [L.owner]
  repeat (first | with_reducible refine wpAny_madeHere_exc L.canon at' ?_ | with_reducible refine wpAny_loadPart_at at' ?_ | (with_reducible refine wpAny_isSubtype_exc at' ?_; first | rw [inB] | rw [noA] | rw [noN]) | wp_step)
  show R _ _
  rw [Heap.size_push]
  exact k
theorem tcall2 (L : ExcBaseFacts B newI oldI bB) (T : Tl B D bm) {fI : Addr} {Q : Fin → Shared → Prop} (at' : hp.get? C = some (excClassObj nm q C N bs bm hdct sn sub ab col dd k0 k1 k2 k3 k5 newI))
    (li : W.Looks (model prog w) hp (typeLookup (.ref C) "__init__") (some (.ref fI))) (lb : ∀ z, W.Looks (model prog w) hp (bindSpecial (.ref fI) z) (.ref fI, [z])) (hl : rest.length ≤ sizeLine)
    (k : codeAny (model prog w) A (.call (.ref fI) ⟨.ref (hp.objs.size + 1) :: rest, []⟩) (fun r s' => match r with | .ok (.ret v) => v = .none ∧ Q (.done (.ret (.ref (hp.objs.size + 1)))) s' | .ok _ => False | .error e => E e s')
      ⟨(hp.push (W.kdv_tup rest)).push (excO C hp.objs.size), g, dr, tk, os⟩) : wpAny (model prog w) A (Builtin.«type.__call__» ⟨.ref C :: rest, []⟩) Q E ⟨hp, g, dr, tk, os⟩ := by
  repeat (first | with_reducible refine wpAny_loadPart_at at' ?_ | with_reducible refine wpAny_madeBy_exc at' ?_ | wp_step)
  refine codeAny_call_builtin_code (Code.quiet_builtin _ L.quiet) (new_ok2 L T at' (made2 L T at' ?_ hl))
  show wpAny _ _ _ _ _ _
  have old : ∀ b o, hp.get? b = some o → ((hp.push (W.kdv_tup rest)).push (excO C hp.objs.size)).get? b = some o := fun b o z => Heap.get?_push_of_some _ (Heap.get?_push_of_some _ z)
  have at1 := old _ _ at'
  have new1 : ((hp.push (W.kdv_tup rest)).push (excO C hp.objs.size)).get? (hp.objs.size + 1) = some (excO C hp.objs.size) := by heap_get
  have self1 : (Value.ref C :: bm).contains (.ref C) = true := by simp
  unfold isInstance
  repeat (first | with_reducible refine wpAny_loadPart_at new1 ?_ | (with_reducible refine wpAny_isSubtype_exc at1 ?_; rw [self1]) | wp_step)
  show wpAny _ _ (typeLookup (.ref C) _) _ _ _
  refine (li.keeps old).at (wpAny_holding (wpAny_bind (((lb (.ref (hp.objs.size + 1))).keeps old).at (wpAny_bind (wpAny_call (codeAny_mono k fun r s' z => ?_))))))
  rcases r with e | (v | _ | _ | _) <;> first | exact z | exact z.elim | skip
  obtain ⟨rfl, z⟩ := z
  first | exact wpAny_pure (wpAny_pure z) | (wp_walk; exact z)
theorem own2 (L : ExcBaseFacts B newI oldI bB) (T : Tl B D bm) {fI : Addr} (at' : hp.get? C = some (excClassObj nm q C N bs bm hdct sn sub ab col dd k0 k1 k2 k3 k5 newI))
    (li : W.Looks (model prog w) hp (typeLookup (.ref C) "__init__") (some (.ref fI))) (lb : ∀ z, W.Looks (model prog w) hp (bindSpecial (.ref fI) z) (.ref fI, [z])) (hl : rest.length ≤ sizeLine)
    (k : codeAny (model prog w) (A.under (.builtin "type.__call__" ⟨.ref C :: rest, []⟩)) (.call (.ref fI) ⟨.ref (hp.objs.size + 1) :: rest, []⟩) (W.InitBack (hp.objs.size + 1) R)
      ⟨(hp.push (W.kdv_tup rest)).push (excO C hp.objs.size), g, dr, tk, os⟩) : codeAny (model prog w) A (.call (.ref C) ⟨rest, []⟩) R ⟨hp, g, dr, tk, os⟩ := by
  have c1 := tc_lookup
  have c2 := tc_bind (.ref C)
  have c3 : (⟨hp, g, dr, tk, os⟩ : Shared).TypeIs (.ref C) "type" := ⟨_, at', rfl⟩
  refine codeAny_of_tree (show wpAny _ _ (callAny (.ref C) _) _ _ _ from ?_)
  repeat (any_goals (first | assumption | with_reducible refine wpAny_loadPart_at at' ?_ | wp_step))
  refine ⟨rfl, ?_⟩
  refine codeAny_call_builtin_at (Code.quiet_builtin _ (by decide +kernel)) entry_typeCall (wpAny_check_type_call_sub at' (tcall2 L T at' li lb hl (codeAny_mono k fun r s' z => ?_)))
  rcases r with e | (v | _ | _ | _) <;> exact z
/-- D.__init__(e, ..): the args are laid anew -/
theorem inib2 (J : IniB D iniI) (nst : (D != "*") = true) (T : Tl B D bm) {e t0 : Addr} (at' : hp.get? C = some (excClassObj nm q C N bs bm hdct sn sub ab col dd k0 k1 k2 k3 k5 newI)) (ae : hp.get? e = some (excO C t0)) (hl : rest.length ≤ sizeLine)
    (k : ∀ h' t1, (∀ b o, b ≠ e → hp.get? b = some o → h'.get? b = some o) → h'.get? e = some (excO C t1) → R (.ok (.ret .none)) ⟨h', g, dr, tk, os⟩) : codeAny (model prog w) A (.call (.builtin iniI) ⟨.ref e :: rest, []⟩) R ⟨hp, g, dr, tk, os⟩ := by
  refine codeAny_call_builtin J.slot.plain J.ent (ini_ok2 J nst T at' ae rfl ?_)
  wp_walk
  refine k _ hp.objs.size (fun b o hb ho => ?_) ?_
  · rw [Heap.get?_update_other _ _ hb.symm]
    exact Heap.get?_push_of_some _ ho
  · rw [Heap.get?_update_self _ (Heap.get?_push_of_some _ ae) rfl]
    rfl
end
end KX

set_option maxRecDepth 100000
set_option maxHeartbeats 4000000
/-! an own exception class right over KeyError, whose __init__ says KeyError.__init__(self, x) and then stores -/
namespace KY
open PySem PySem.Spec PyProof.Rows L2 KX
/-- what the library knows of the built-in class B, whose __new__ may be another class's -/
structure XB2 (B newI iniI : String) (tl : List Value) : Prop where
  sf : PySem.StoreFacts B tl "object.__setattr__" "object"
  j : IniB B iniI
  ns : (B != "*") = true
  mks : ∃ (LB oldI : String) (bB : List Value), PySem.ExcBaseFacts LB newI oldI bB ∧ Tl LB B tl
theorem XB2.tl {B newI iniI : String} {tl bm : List Value} (T : XB2 B newI iniI tl) (h : ∀ X : String, bm.contains (.type X) = tl.contains (.type X)) : ∃ (LB oldI : String) (bB : List Value), PySem.ExcBaseFacts LB newI oldI bB ∧ Tl LB B bm := by
  obtain ⟨LB, oldI, bB, L, t⟩ := T.mks
  exact ⟨LB, oldI, bB, L, by rw [h]; exact t.b, by rw [h]; exact t.d, by rw [h]; exact t.a, by rw [h]; exact t.n⟩
/-- what the written part says of the class at C -/
structure XC2 (K : PySem.W.Frag) (B newI iniI : String) (tl : List Value) (C : Addr) : Prop where
  b : XB2 B newI iniI tl
  ini : PySem.W.excInitIn K C tl newI = true
  ovr : PySem.W.excOver K C tl = true
  sa : PySem.W.findIn K (.ref C) "__setattr__" = some (some (.builtin "object.__setattr__"))
  hd : PySem.W.hasDictIn K C = true
  sub : PySem.W.subIn K (.ref C) (.type "BaseException") = some true
  ty : PySem.W.typeIn K (.ref C) = some (.type "type")
  kp : PySem.W.keepIn K (.ref C) = true
section
open PySem.W PySem.Calls PySem.HandSPX Builtin Builtin.ObjectAttr
variable {prog : Program} {w : World} {A : Around} {E : Value → Shared → Prop} {R : Result → Shared → Prop} {hp : Heap} {g : Array GenState} {d : Drawn} {t : Nat} {os : OsState}
/-- the first store into such an exception -/
theorem osa_first {K : PySem.W.Frag} {nm : Str} {tk : Tok} {v : Value} {x C : Addr} {fv : Array Value} {B newI iniI : String} {tl : List Value} (T : XC2 K B newI iniI tl C)
    (X : K.In hp) (hx : hp.get? x = some { cls := .ref C, data := .fields fv }) (ha : PySem.W.findIn K (.ref C) nm = some none)
    (done : ∀ h2 tk2 dx, (∀ b o, b ≠ x → hp.get? b = some o → h2.get? b = some o) → hp.objs.size ≤ dx → dx ≠ x → h2.get? x = some { cls := .ref C, dict := some dx, data := .fields fv } →
      h2.Ns1 dx (fun y => if y = nm then some v else none) → R (.ok (.ret .none)) ⟨h2, g, d, tk2, os⟩) :
    codeAny (model prog w) A (.call (.builtin "object.__setattr__") ⟨[.ref x, .str nm tk, v], []⟩) R ⟨hp, g, d, t, os⟩ := by
  have tkr : PySem.W.takerIn K C nm = some none := by unfold PySem.W.takerIn; rw [ha]; rfl
  refine PySem.W.osa_openX (s := ⟨hp, g, d, t, os⟩) (od := none) T.b.sf X ⟨hx, rfl, rfl, trivial⟩ T.ovr tkr fun b => ?_
  obtain ⟨cd, hc, hdd⟩ := PySem.W.any_some T.hd
  have hcls : PySem.W.Looks (model prog w) hp (classData C) cd := PySem.W.looks_clsIn X hc
  have far : x ≠ hp.objs.size := Nat.ne_of_lt (Heap.lt_size hx)
  obtain ⟨nm', bs, mro, ns, qn, hd', sn, sb, ab, col, del⟩ := cd
  dsimp only at hdd
  subst hdd
  dsimp only
  unfold storeInOwnDict ownDictForStores
  repeat (first | with_reducible refine store_in_new ?_ ?_ | with_reducible refine wpAny_loadPart_at hx ?_ | with_reducible refine hcls.at ?_ | wp_step)
  · exact ⟨_, #[], _, (Heap.get?_update_ne _ _ _ _ far.symm).trans (Heap.get?_push_at rfl rfl), rfl, fun e he => absurd he (by simp), fun _ => rfl⟩
  · intro h2 tk2 hn2 hs
    have hx1 : (hp.push { cls := .type "dict", data := .dict #[] }).get? x = some { cls := .ref C, data := .fields fv } := Heap.get?_push_of_some _ hx
    refine done h2 tk2 hp.objs.size (fun b o hb ho => ?_) (Nat.le_refl _) far.symm ?_ hn2
    · have z := Heap.get?_push_of_some { cls := .type "dict", data := .dict #[] } ho
      exact (hs.2 b (Nat.ne_of_lt (Heap.lt_size ho))).trans ((Heap.get?_update_ne _ _ _ _ hb).trans z)
    · have z := Heap.get?_update_self (fun o => { o with dict := some hp.objs.size }) hx1 rfl
      exact (hs.2 x far).trans z
end
section
variable {X : Cx} {pins : List (Addr × Obj)} {σ : L2.St} {H : Hp} {s : Shared} {a C dx : Addr} {f : Str} {y : V} {u : Value} {E : Value → Shared → Prop} {A : Around} {B newI iniI : String} {tl : List Value}
/-- self.f = y, the first store -/
theorem store_first {Q : Unit → Shared → Prop} (T : XC2 X.K B newI iniI tl C) (I : Inv X pins σ H s) (e : H a = some (exo a C none)) (hno : PySem.W.findIn X.K (.ref C) f = some none) (ry : RelV y u)
    (go : ∀ dx s2, H dx = none → dx ≠ a → Inv X pins σ (upd (upd H dx (exd dx [(f, y)])) a (exo a C (some dx))) s2 → Q () s2) :
    wpAny (model X.prog X.w) A (setAttr (.ref a) f u) Q E s := by
  obtain ⟨t1, ho⟩ := exo_at I.hok e
  obtain ⟨hp, g, d, t, os⟩ := s
  refine PySem.W.set_plain I.kIn (ox := { cls := .ref C, dict := none, data := .fields #[.ref t1, .none, .none, .none, .bool false, .none] })
    (od := none) ⟨ho, rfl, rfl, trivial⟩ T.sa (osa_first T I.kIn ho hno (fun h2 tk2 dx k dn dne hx hn => ?_))
  have hnd : H dx = none := I.hok.fresh dn
  have new : ∀ {b : Addr} {o : Obj}, hp.get? b = some o → b ≠ dx := fun {b o} q => Nat.ne_of_lt (Nat.lt_of_lt_of_le (Heap.lt_size q) dn)
  have notA : ∀ {b : Addr}, H b = none → b ≠ a := fun {b} n z => by
    rw [z, e] at n
    cases n
  have U : Un X.fs [] H (upd (upd H dx (exd dx [(f, y)])) a (exo a C (some dx))) hp h2 := {
    keep := fun b o q n _ _ => k b o (notA n) q
    slot := fun b o q n _ _ => ⟨o.slots, k b o (notA n) q⟩
    free := fun b o q n _ => by rw [upd_ne (notA n), upd_ne (new q)]; exact n
    there := fun b o q _ => by
      by_cases hb : b = a
      · exact ⟨_, by rw [hb]; exact hx⟩
      · exact ⟨o, k b o hb q⟩
    tups := fun b xs q => by rw [upd_ne (at_ne e q exo_tup), upd_ne (ne_of_none q hnd)]; exact q
    frzs := fun b o v q => by rw [upd_ne (at_ne e q exo_frz), upd_ne (ne_of_none q hnd)]; exact q
    tbls := fun b ps q => ⟨#[], by rw [upd_ne (at_ne e q exo_tbl), upd_ne (ne_of_none q hnd), q]; simp⟩ }
  refine go dx _ hnd dne (I.un (t' := tk2) U fun b o q => ?_)
  by_cases hb : b = a
  · subst hb
    rw [upd_same] at q
    cases q
    exact exo_ok hx
  · rw [upd_ne hb] at q
    by_cases hd : b = dx
    · subst hd
      rw [upd_same] at q
      cases q
      exact exd_ok hn (relO_put (fs := []) ry fun g => True.intro)
    · rw [upd_ne hd] at q
      refine (I.hok b o q).stay (fun c v hc z => k c v ?_ z) (fun c hc => ?_) (fun c xs hc => ?_)
      · rcases hc with hc | hc
        · rw [hc]
          exact hb
        · exact at_ne e hc exo_own
      · rw [upd_ne (at_ne e hc exo_own), upd_ne (ne_of_none hc hnd)]
        exact hc
      · rw [upd_ne (at_ne e hc exo_tup), upd_ne (ne_of_none hc hnd)]
        exact hc
/-- B.__init__(self, ..): nothing of it is told -/
theorem init_told {us : List Value} {Q : Value → Shared → Prop} (T : XC2 X.K B newI iniI tl C) (I : Inv X pins σ H s) (e : H a = some (exo a C none)) (hl : us.length ≤ sizeLine) (go : ∀ s2, Inv X pins σ H s2 → Q .none s2) :
    wpAny (model X.prog X.w) A (call (.builtin iniI) (.ref a :: us)) Q E s := by
  obtain ⟨nm, N, qn, bs, bm, hdct, sn, sub, ab, col, dd, k0, k1, k2, k3, k5, hC, hT⟩ := PySem.W.excInit_of I.kIn T.ini
  obtain ⟨t1, ho⟩ := exo_at I.hok e
  obtain ⟨hp, g, d, t, os⟩ := s
  obtain ⟨LB, oldI, bB, L, tlb⟩ := T.b.tl hT
  refine wpAny_call (inib2 T.b.j T.b.ns tlb hC ho hl fun h2 t2 k hx => go _ ?_)
  have J := I.write (t' := t) (x := a) (e := a) (o := exo a C none) (by rw [e]; exact True.intro) (.inl rfl) k ⟨_, hx⟩ (exo_ok hx)
  have same : upd H a (exo a C none) = H := by
    funext b
    by_cases hb : b = a
    · rw [hb, upd_same, e]
    · rw [upd_ne hb]
  rw [same] at J
  exact J
end
/-- B.__init__(self, ..) -/
def tBini (K : PySem.W.Frag) (B newI iniI : String) (tl : List Value) (ta : TA) : TE := fun σ H Q => ta σ H fun vs H1 =>
  ∃ (a C : Addr) (ws : List V), vs = .ref a :: ws ∧ ws.length ≤ 1000 ∧ XC2 K B newI iniI tl C ∧ H1 a = some (exo a C none) ∧ Q .non H1
/-- self.f = e, the first store -/
def tFst (K : PySem.W.Frag) (B newI iniI : String) (tl : List Value) (f : Str) (to te : TE) : TS := fun D σ H => te σ H fun y H1 => to σ H1 fun x H2 =>
  ∃ a C : Addr, x = .ref a ∧ XC2 K B newI iniI tl C ∧ PySem.W.findIn K (.ref C) f = some none ∧ H2 a = some (exo a C none) ∧
    ∀ dx, H2 dx = none → dx ≠ a → D.nx σ (upd (upd H2 dx (exd dx [(f, y)])) a (exo a C (some dx)))
section
variable {X : Cx} {o e : Expr} {es : List Expr} {to te : TE} {ta : TA} {f : Str} {p p' p1 p2 pos : Pos} {B newI iniI : String} {tl : List Value}
theorem ps_fst (ho : PE X o to) (he : PE X e te) (hs : swapsWith e (some (.Attribute o f p')) pos.line X.env = pure false := by rfl) : PS X (.Assign [.Attribute o f p'] e pos) (tFst X.K B newI iniI tl f to te) := by
  refine ⟨fun pins s σ H D I h => ?_⟩
  refine plainObj_wpAny_Assign_Attribute (thn (he.run pins s σ H _ I h) fun v s1 z1 => ?_) hs
  obtain ⟨y, H1, I1, r1, q1⟩ := z1
  refine thn (ho.run pins s1 σ H1 _ I1 q1) fun u s2 z2 => ?_
  obtain ⟨x, H2, I2, r2, a, C, ex, T, hno, ea, q⟩ := z2
  subst ex
  obtain rfl : u = Value.ref a := r2
  exact store_first T I2 ea hno r1 fun dx s3 n ne J => ⟨σ, _, J, q dx n ne⟩
theorem pe_bini {pl : Sem Bool} (hg : Gl X "KeyError") (hm : X.mg "KeyError" = none) (vV : PySem.W.findCls X.K (.type "KeyError") (.type "type") "__init__" = some (.val (.builtin "KeyError.__init__"))) (ha : PA X (e :: es) ta)
    (hc : eval (.Call (.Attribute (.Name "KeyError" p1) "__init__" p2) (e :: es) [] pos) X.env = (do
      let cv ← eval (.Name "KeyError" p1) X.env
      standAt p2.atName
      let (fn, ahead) ← holding [cv] (getMethod cv "__init__" pl)
      callWith pos fn ahead (backTo pos (starEach (e :: es) X.env)) (backToKw pos (keywordEach [] X.env))) := by rfl)
    (he : starEach (e :: es) X.env = (false, eval e X.env) :: starEach es X.env := by rfl) (hpl : (backTo pos (starEach es X.env)).any (·.1) = false := by rfl) :
    PE X (.Call (.Attribute (.Name "KeyError" p1) "__init__" p2) (e :: es) [] pos) (tBini X.K "KeyError" newI "KeyError.__init__" tl ta) := by
  refine ⟨fun pins s σ H Q I h => ?_⟩
  have ty : typeOf (.type "KeyError") = pure (.type "type") := by kernel_rfl
  refine PySem.W.methodCall_KW (ld_blt I hg hm PyProof.Rows.Boot.«KeyError» ?_ (by decide) (by decide)) hc
  obtain ⟨m, fr⟩ := I.fr
  refine PySem.W.method_type fr I.ok.mod.kin ty (by decide +kernel) vV (by decide +kernel) ?_
  show wpAny _ _ (callWith pos (Value.builtin "KeyError.__init__") [] (backTo pos (starEach (e :: es) X.env)) []) _ _ _
  refine PyProof.Rows.callWith_method1 (thn (ha.run pos pins _ σ H _ (I.tok _) h) fun us s1 z => ?_) he hpl
  obtain ⟨vs, H1, I1, r1, a, C, ws, ev, hl, T, ea, q⟩ := z
  subst ev
  cases r1 with
  | @cons _ u0 _ ur ra rw' =>
    obtain rfl : u0 = Value.ref a := ra
    have hlen : ur.length ≤ sizeLine := by
      rw [← Paired.length rw', sizeLine_eq]
      omega
    exact init_told T I1 ea hlen fun s2 J => ⟨.non, H1, J, rfl, q⟩
/-- C(e, ..) -/
theorem pmk_x {CX : CXT} {x : Str} {C fI : Addr} {k : Nat} {fd : FuncData} {ps : List Str} {sp : Sp} (T : XC2 X.K B newI iniI tl C) (iC : PySem.W.findIn X.K (.ref C) "__init__" = some (some (.ref fI)))
    (tI : PySem.W.typeIn X.K (.ref fI) = some (.type "function")) (F1 : FnOk X.prog X.w X.K X.mg X.base CX k fI fd ps sp) (hr : Room (k + 1) X.A) (hb : Binds X.K fd ps []) (hx : Passes CX X (fun _ _ _ => False)) (hg : Gl X x)
    (hm : X.mg x = some (.ref C)) (ha : PA X (e :: es) ta) (hdb : (x == ("__debug__" : Str)) = false := by decide) (he : starEach (e :: es) X.env = (false, eval e X.env) :: starEach es X.env := by rfl)
    (hpl : (backTo pos (starEach es X.env)).any (·.1) = false := by rfl) : PMk X (.Call (.Name x p) (e :: es) [] pos) (tMkO C sp [] ta) := by
  intro pins s σ H Q I h
  obtain ⟨nm, N, qn, bs, bm, hdct, sn, sub, ab, col, dd, k0, k1, k2, k3, k5, hC, hT⟩ := PySem.W.excInit_of I.kIn T.ini
  refine wpAny_Call_Name_kw (ld_glob I hg hm ?_ hdb)
  refine PySem.W.callWith_K (h₀ := X.base) I.ok.mod.kin T.kp (thn (ha.run pos pins s σ H _ I h) fun us s1 z => ?_) he hpl
  obtain ⟨vs, H1, I1, r1, hz, q1⟩ := z
  have X1 := I1.kIn
  refine ⟨X1, ?_⟩
  obtain ⟨nm, N, qn, bs, bm, hdct, sn, sub, ab, col, dd, k0, k1, k2, k3, k5, hC, hT⟩ := PySem.W.excInit_of X1 T.ini
  show wpAny _ _ (call (.ref C) us) _ _ _
  obtain ⟨hp, g, dr, tk, os⟩ := s1
  have up : hp.objs.size ≤ hp.objs.size + 1 := Nat.le_succ _
  have hq := q1 (hp.objs.size + 1) (I1.hok.fresh up)
  have kk : ∀ b o, hp.get? b = some o → ((hp.push (PySem.W.kdv_tup us)).push (PySem.HandSPX.excO C hp.objs.size)).get? b = some o :=
    fun b o e => Heap.get?_push_of_some _ (Heap.get?_push_of_some _ e)
  have hget : ((hp.push (PySem.W.kdv_tup us)).push (PySem.HandSPX.excO C hp.objs.size)).get? (hp.objs.size + 1) = some (PySem.HandSPX.excO C hp.objs.size) := by heap_get
  have I2 : Inv X pins σ (upd H1 (hp.objs.size + 1) (exo (hp.objs.size + 1) C none)) ⟨(hp.push (PySem.W.kdv_tup us)).push (PySem.HandSPX.excO C hp.objs.size), g, dr, tk, os⟩ :=
    I1.laid (t' := tk) (a := hp.objs.size + 1) (o := exo (hp.objs.size + 1) C none) (h' := (hp.push (PySem.W.kdv_tup us)).push (PySem.HandSPX.excO C hp.objs.size)) kk up (exo_ok hget)
  have r2 : Vals (V.ref (hp.objs.size + 1) :: (vs ++ [])) (Value.ref (hp.objs.size + 1) :: us) := .cons rfl (by rw [List.append_nil]; exact r1)
  have hl : (Value.ref (hp.objs.size + 1) :: us).length = ps.length := by
    rw [← r2.length]
    exact F1.len _ _ _ _ hq
  have hus : us.length ≤ sizeLine := by
    rw [← Paired.length r1, sizeLine_eq]
    omega
  have hbd := hb ⟨(hp.push (PySem.W.kdv_tup us)).push (PySem.HandSPX.excO C hp.objs.size), g, dr, tk, os⟩ (Value.ref (hp.objs.size + 1) :: us) I2.kIn (by rw [List.append_nil]; exact hl)
  rw [List.append_nil] at hbd
  have go := F1.run _ X.stack _ _ ⟨Value.ref (hp.objs.size + 1) :: us, []⟩ (Value.ref (hp.objs.size + 1) :: us) _ _ (fun _ _ _ => False) (hr.make C us []) (I2.env0.make C us []) hbd r2 hq
  obtain ⟨LB, oldI, bB, L, tlb⟩ := T.b.tl hT
  refine wpAny_call (own2 L tlb hC (PySem.W.looks_findIn X1 iC) (fun self => PySem.W.bind_fn X1 self tI) hus (codeAny_mono go fun r s2 z => ?_))
  cases r with
  | error er => exact hx pins σ _ _ er s2 I2 z
  | ok fl =>
    cases fl with
    | ret u =>
      obtain ⟨v, H2, os2, bare2, un2, hok2, rv, ev, d, fs, ea, ed, hd1, q2⟩ := z
      subst ev
      obtain ⟨h2, g2, d2, t2, os'⟩ := s2
      exact ⟨rv, mk_end (raises_own T.sub T.ty) I1 up kk un2 hok2 os2 bare2 ea ed hd1 q2⟩
    | next => exact False.elim z
    | brk => exact False.elim z
    | cont => exact False.elim z
end
theorem kyB : XB2 "KeyError" "LookupError.__new__" "KeyError.__init__" kyTl := ⟨kyStore, kyIni, by decide +kernel, _, _, _, PySem.F.excBase_LookupError, by decide +kernel, by decide +kernel, by decide +kernel, by decide +kernel⟩
end KY

set_option maxRecDepth 100000
set_option maxHeartbeats 2000000
open PySem PySem.Spec PyProof.Rows L2 KX
/-! ### a method of a made tuple: its object is remembered -/
namespace KX
section
variable {X : Cx}
/-- tuple(list): a new tuple, whose object has no dict -/
theorem call_tupleF : CallR X (.type "tuple") (fun xs H Q => ∃ p ys, xs = [.ref p] ∧ SqL X.K H p ys ∧ ∀ l o, H l = none → o.cls = .type "tuple" → o.dict = none → Q (.ref l) (upd H l (.frz o (.tup ys)))) := by
  intro pins s σ H xs us Q I r h
  obtain ⟨p, ys, rfl, hq, q⟩ := h
  obtain ⟨u, rfl, rx⟩ := vals1 r
  cases rx
  obtain ⟨its, rv, pl, hz⟩ := I.list hq
  have hn := rv.length
  refine call_tuple_list pl.isList (fun hp2 kp => ?_) (by simp only [List.size_toArray] <;> omega)
  have J : Inv X pins σ H { s with heap := hp2 } := I.kept (t' := s.toks) kp
  have J2 : Inv X pins σ (upd H hp2.objs.size (.frz { cls := .type "tuple", data := .seq its.toArray } (.tup ys))) { s with heap := hp2.push { cls := .type "tuple", data := .seq its.toArray } } :=
    J.laid (t' := s.toks) (fun b o e => Heap.get?_push_of_some _ e) (Nat.le_refl _) (show ObjOk X.prog X.w _ _ _ (.frz _ (.tup ys)) from ⟨Heap.get?_push_size _ rfl, hz, its, rv, IsTup.new _ _⟩)
  exact ⟨.ref hp2.objs.size, _, J2, rfl, q _ _ (J.hok.fresh (Nat.le_refl _)) rfl rfl⟩
def tBMF (T : String) (r : V → List V → Hp → VK → Prop) (to : TE) (t : TA) : TE := fun σ H Q => to σ H fun x H1 => (∃ p o u, x = .ref p ∧ H1 p = some (.frz o u) ∧ o.cls = .type T ∧ o.dict = none) ∧ t σ H1 fun xs H2 => r x xs H2 Q
variable {o e : Expr} {es : List Expr} {to : TE} {t : TA} {name : Str} {apos cpos : Pos} {T id : String} {r : V → List V → Hp → VK → Prop}
theorem pe_bmF (pa : PlainAttrs T) (slot : Slot T name id) (hty : typeOf (.builtin id) = pure (.type "method_descriptor")) (hm : MtR X id r) (ho : PE X o to) (ha : PA X (e :: es) t)
    (hbase : attributeBase o name X.env (eval o X.env) = eval o X.env := by rfl)
    (hfew : ((backTo cpos (starEach (e :: es) X.env)).all (fun x => !x.1) && (backToKw cpos (keywordEach [] X.env)).all (fun x => x.1.isSome)
      && decide ((e :: es).length + ([] : List Keyword).length + (if ([] : List Keyword).isEmpty then 0 else 1) < 30)) = true := by rfl)
    (hline : (apos.endLine == cpos.line) = true := by rfl) (hs : starEach (e :: es) X.env = (false, eval e X.env) :: starEach es X.env := by rfl) (hplain : (backTo cpos (starEach es X.env)).any (·.1) = false := by rfl) :
    PE X (.Call (.Attribute o name apos) (e :: es) [] cpos) (tBMF T r to t) := by
  refine ⟨fun pins s σ H Q I h => ?_⟩
  refine wpAny_Call_method_late hbase hfew hline rfl (thn (ho.run pins s σ H _ I h) fun v s1 ⟨x, H1, I1, r1, ty, q1⟩ => ?_)
  obtain ⟨p, ob, u, rfl, ef, hc, hd⟩ := ty
  cases r1
  obtain ⟨eg, _⟩ := (show ObjOk X.prog X.w H1 s1.heap p (.frz ob u) from I1.hok p _ ef)
  refine ⟨T, id, pa, slot, hty, ⟨ob, eg, hc⟩, fun a e => ?_, ?_⟩
  · cases e
    exact ⟨ob, eg, hd⟩
  · have hA := ha.run cpos pins s1 σ H1 _ I1 q1
    rw [hs] at hA ⊢
    refine Calls.callWith_builtin (by show (false || (backTo cpos (starEach es X.env)).any (·.1)) = false; rw [hplain] <;> rfl) (Calls.evalArgs_plain ?_)
    exact thn hA fun us s2 ⟨vs, H2, I2, r2, q2⟩ => hm pins s2 σ H2 (.ref p) vs (.ref p) us Q I2 rfl r2 q2
end
end KX

set_option maxRecDepth 100000
set_option maxHeartbeats 2000000
namespace KX
open PySem PySem.Spec PyProof.Rows L2 RZ
inductive MixD (X : Cx) : List ExceptHandler → List Cls → Prop
  | nil : MixD X [] []
  | dead {hds : List ExceptHandler} : MixD X hds []
  | plain {x : Str} {c : Value} {ts : Addr → Value → Option Addr → TS} {b0 : Stmt} {bs : List Stmt} {p1 p2 : Pos} {hds : List ExceptHandler} {l : List Cls} (hc : Names X x c)
      (hb : ∀ (a : Addr) (oe : Obj) (cls : Value) (d : Option Addr) (pn : List (Addr × Obj)), Zc cls d oe → (∃ vs, oe.data = .fields vs) → PSs (X.suite a ((a, oe) :: pn)) (b0 :: bs) (ts a cls d)) (r : MixD X hds l) :
      MixD X (.ExceptHandler (some (.Name x p1)) none (b0 :: bs) p2 :: hds) (⟨c, none, ts⟩ :: l)
  | named {x n : Str} {i : Nat} {c : Value} {ts : Addr → Value → Option Addr → TS} {b0 : Stmt} {bs : List Stmt} {p1 p2 : Pos} {hds : List ExceptHandler} {l : List Cls} (hi : X.N[i]? = some n) (hn : X.env.kindOf n = some .local) (hc : Names X x c)
      (hb : ∀ (a : Addr) (oe : Obj) (cls : Value) (d : Option Addr) (pn : List (Addr × Obj)), Zc cls d oe → (∃ vs, oe.data = .fields vs) → PSs (X.suite a ((a, oe) :: pn)) (b0 :: bs) (ts a cls d)) (r : MixD X hds l) :
      MixD X (.ExceptHandler (some (.Name x p1)) (some n) (b0 :: bs) p2 :: hds) (⟨c, some i, ts⟩ :: l)
section
variable {X : Cx} {body : List Stmt} {hd0 : ExceptHandler} {hds : List ExceptHandler} {l : List Cls} {pos : Pos} {tb : WX → TS} {Wo : WX}
theorem ps_try_mixD (hs : X.stack = X.env :: X.outer) (hf : X.env.frame = some X.env.locals) (nd : X.N.Nodup) (tk : Takes X Wo) (hWo : ∀ cls d σ G, ¬ Wo cls d σ G)
    (hb : ∀ (W : WX) (pn : List (Addr × Obj)) (xe : Value → Shared → Prop), Takes (X.tr pn xe) W → PassesOwn (model X.prog X.w) X.A X.env xe → PSs (X.tr pn xe) body (tb W))
    (hh : MixD X (hd0 :: hds) l) : PS X (.Try body (hd0 :: hds) [] [] pos) (fun D σ G => tb (wMix X.K Wo D l) D σ G) := by
  refine ⟨fun pins s σ G D I h => wpAny_Try_except ?_⟩
  have ok := I.ok
  have frm : X.A.frames = some (X.env :: X.outer) := ok.frames.trans (by rw [hs])
  refine wpAny_mono ((hb (wMix X.K Wo D l) (X.pn ++ pins) (fun e t1 => wpAny (model X.prog X.w) X.A (noteFrame e X.env) (fun _ t2 => wpAny (model X.prog X.w) X.A (setFlight e none) (fun _ t3 =>
    wpAny (model X.prog X.w) X.A (handleBy e X.env (hd0 :: hds)) (SP X pins D) X.xe t3) X.xe t2) X.xe t1) (fun u s1 caught => ?_) PassesOwn.looking).run [] s σ G D (I.toTry _) h) (fun fl s1 fin => ?_) (fun _ _ z => z)
  · obtain ⟨ea, B0, sI, pins1, σ1, G1, cls, d, rfl, IT, nb, up, sky, na, os, ag, wish⟩ := caught
    have I1 : Inv X pins σ1 G1 sI := IT.ofTry ok
    refine Sky.land Zc.steady frm hf (show Sky B0 (X.env :: X.outer) ea (Zc cls d) X.env.locals s1.heap by rw [← hs]; exact sky) fun h3 lands up3 => ?_
    have I3 : Inv X pins σ1 G1 { s1 with heap := h3 } := I1.landed nb lands.1 (up.trans up3) os ag
    obtain ⟨oe3, fv3, at3, z3, dat3⟩ := lands.there
    have off : ea ∉ frs (X.env :: X.outer) := fun hm => by
      obtain ⟨_, o1, e1, nf⟩ := lands.2.2.1.mem hm
      rw [at3] at e1
      cases e1
      exact nf _ dat3
    have offL : ea ≠ X.env.locals := fun z => off (List.mem_filterMap.mpr ⟨X.env, List.mem_cons_self, by rw [hf, z]⟩)
    have offF : ea ∉ X.fs := fun hm => by
      obtain ⟨en, hen, q⟩ := List.mem_filterMap.mp hm
      exact off (List.mem_filterMap.mpr ⟨en, List.mem_cons_of_mem _ hen, q⟩)
    have S3 := I3.suite at3 dat3 na offL offF
    have looks : PySem.W.Looks (model X.prog X.w) h3 (typeOf (.ref ea)) cls := fun A Q E t k q => wpAny_typeOf_ref (k _ _ at3) (by rw [z3.1]; exact q)
    have reads : ∀ {x : Str} {c : Value} {p1 : Pos} {Q : Value → Shared → Prop} {E : Value → Shared → Prop}, Names X x c → Q c { s1 with heap := h3 } → wpAny (model X.prog X.w) (X.A.mark (some (.ref ea))) (eval (.Name x p1) X.env) Q E { s1 with heap := h3 } := fun {x c p1 Q E} hc q => by
      obtain ⟨hg, hdb, hm | ⟨hm, hv, hnn⟩⟩ := hc
      · exact ld_glob (X := X.suite ea ((ea, oe3) :: (X.pn ++ pins))) S3 hg hm q hdb
      · exact ld_blt (X := X.suite ea ((ea, oe3) :: (X.pn ++ pins))) S3 hg hm hv q hnn hdb
    have each : ∀ {hl : List ExceptHandler} {cl : List Cls}, MixD X hl cl → wMix X.K Wo D cl cls d σ1 G1 → wpAny (model X.prog X.w) X.A (handleBy (.ref ea) X.env hl) (SP X pins D) X.xe { s1 with heap := h3 } := by
      intro hl cl mk
      induction mk with
      | dead =>
        intro wo
        exact absurd wo (hWo _ _ _ _)
      | nil =>
        intro wo
        refine wpAny_handleBy_nil ?_
        obtain ⟨_, _, _, ox, fx, T, _, _, atx, _, datx, tl1, _⟩ := id lands
        unfold PySem.passOn
        refine wpAny_bind (wpAny_field atx datx tl1 ?_)
        rw [if_neg (by simp)]
        have out : wpAny (model X.prog X.w) X.A (setFlight (.ref ea) X.env.frame) (fun _ t4 => wpAny (model X.prog X.w) X.A (throw (.ref ea) : Sem Flow) (SP X pins D) X.xe t4) X.xe { s1 with heap := h3 } := by
          rw [hf]
          refine HandSPX.setFlight_upZ lands fun h4 hx4 up4 => wpAny_throw (tk _ _ ⟨ea, B0, sI, pins, σ1, G1, cls, d, rfl, I1, nb, (up.trans up3).trans up4, .inr (.inr (by rw [hs]; exact hx4)), na, os, ag, wo⟩)
        first | exact wpAny_bind (wpAny_pure (wpAny_bind out)) | exact wpAny_bind out
      | @plain x c ts b0 bs p1 p2 hds2 l2 hc hb r ih =>
        intro wq
        obtain ⟨b, e1, yes, no⟩ := wq
        refine wpAny_handleBy_cons (codeAny_handlers_test (reads hc ((PySem.W.exm_one (M := model X.prog X.w) I3.kIn looks e1).here ?_))) (by intro q; cases q)
        cases b with
        | false => exact ih (no rfl)
        | true =>
          refine codeAny_handlers_suite (HandSPX.lands_againZ lands fun h4 lands4 up4 => ?_)
          obtain ⟨oe4, fv4, at4, z4, dat4⟩ := lands4.there
          have I4 : Inv X pins σ1 G1 { s1 with heap := h4 } := I1.landed nb lands4.1 ((up.trans up3).trans up4) os ag
          refine wpAny_mono ((hb ea oe4 cls d (X.pn ++ pins) z4 ⟨_, dat4⟩).run [] _ _ G1 _ (I4.suite at4 dat4 na offL offF) (yes rfl ea na)) (fun fl t6 fin => ?_) (fun _ _ z => z.elim)
          cases fl with
          | ret u =>
            obtain ⟨v6, σ6, G6, S6, r6, q6⟩ := fin
            exact ⟨v6, σ6, G6, S6.unsuite ok, r6, q6⟩
          | _ =>
            obtain ⟨σ6, G6, S6, q6⟩ := fin
            exact ⟨σ6, G6, S6.unsuite ok, q6⟩
      | @named x n i c ts b0 bs p1 p2 hds2 l2 hi hn hc hb r ih =>
        intro wq
        obtain ⟨b, e1, yes, no⟩ := wq
        refine wpAny_handleBy_cons (codeAny_handlers_test (reads hc ((PySem.W.exm_one (M := model X.prog X.w) I3.kIn looks e1).here ?_))) (by intro q; cases q)
        cases b with
        | false => exact ih (no rfl)
        | true =>
          refine codeAny_handlers_suite_as (HandSPX.lands_againZ lands fun h4 lands4 up4 => ?_)
          obtain ⟨oe4, fv4, at4, z4, dat4⟩ := lands4.there
          have I4 : Inv X pins σ1 G1 { s1 with heap := h4 } := I1.landed nb lands4.1 ((up.trans up3).trans up4) os ag
          refine store_ok (X := X.suite ea ((ea, oe4) :: (X.pn ++ pins))) (v := .ref ea) (I4.suite at4 dat4 na offL offF) nd hi (.inl hn) rfl (fun t5 S5 => ?_) (.inr hn)
          refine wpAny_mono ((hb ea oe4 cls d (X.pn ++ pins) z4 ⟨_, dat4⟩).run [] t5 _ G1 _ S5 (yes rfl ea na)) (fun fl t6 fin => ?_) (fun _ _ z => z.elim)
          have gone : ∀ {σ6 : L2.St} {G6 : Hp} {R : Shared → Prop}, Inv (X.suite ea ((ea, oe4) :: (X.pn ++ pins))) [] σ6 G6 t6 → (∀ t7, Inv X pins (σ6.set i none) G6 t7 → R t7) →
              wpAny (model X.prog X.w) X.A (do bindName X.env n .none; unbindBehindTheSuite X.env n p2) (fun _ t7 => R t7) X.xe t6 := fun {σ6 G6 R} S6 k => gone_ok (S6.unsuite ok) nd hi hn k
          cases fl with
          | ret u =>
            obtain ⟨v6, σ6, G6, S6, r6, q6⟩ := fin
            exact gone S6 fun t7 I7 => ⟨v6, _, _, I7, r6, q6⟩
          | _ =>
            obtain ⟨σ6, G6, S6, q6⟩ := fin
            exact gone S6 fun t7 I7 => ⟨_, _, I7, q6⟩
    exact each hh wish
  · cases fl with
    | next =>
      obtain ⟨σ6, G6, I6, q6⟩ := fin
      exact wpAny_execs_nil ⟨σ6, G6, I6.ofTry ok, q6⟩
    | ret u =>
      obtain ⟨v6, σ6, G6, I6, r6, q6⟩ := fin
      exact ⟨v6, σ6, G6, I6.ofTry ok, r6, q6⟩
    | _ =>
      obtain ⟨σ6, G6, I6, q6⟩ := fin
      exact ⟨σ6, G6, I6.ofTry ok, q6⟩
end
/-! ### a lambda without parameters that captures names, handed to a def and called there -/
section
open LamX NdefX
variable {X : Cx} {pins : List (Addr × Obj)} {σ : L2.St} {H : Hp} {s : Shared}
/-- az(), in the def that got the lambda as az -/
theorem pe_act0 {CXg : CXT} {Eg : XK} {Nz : List Str} {qz : Str} {sz : Scope} {g fl cl : Addr} {cdz pmz ctz : Value} {q : Str} {pars : Arguments} {bd : Expr} {scp : Scope} {cs : List (Str × Addr)} {k : Nat} {az : Str} {pn : List (Addr × Obj)} {xe : Value → Shared → Prop} {W : WX} {tb : XK → TE} {p1 p2 : Pos} {N fr : List Str} {ws : List (Option V)}
    (S : NScope N [] fr scp) (C : CellsAt cs fr ws s.heap H) (hf : s.heap.get? fl = some (PySem.W.kla_obj "<lambda>" q pars bd scp cs pmz cl ctz)) (hfn : H fl = none) (hfr : fl ∉ frs X.stack)
    (hbind : bindArgs (PySem.W.kla_fn "<lambda>" q pars bd scp cs pmz (.ref cl) ctz) ⟨[], []⟩ = pure [])
    (tk : Takes ((cxOf CXg X.prog X.w X.K X.mg X.base Nz qz sz g cdz X.A X.stack s H Eg).tr pn xe) W) (hr : Room (k + 1) (X.A.deeper (envOfC qz sz s.heap.objs.size g cdz)))
    (hbody : ∀ (A : Around) (outer : List PySem.Env) (s : Shared) (H : Hp) (E : XK), Room k (A.deeper (envF (lamF q pars scp cs cl) fl s.heap.objs.size)) → PE (ncx (L2.CX X.prog X.w) X.prog X.w X.K X.mg X.base N (lamF q pars scp cs cl) fl A outer s H E) bd (tb E))
    (hN : Nz[0]? = some az) (hv : Vis sz az) (hd : (az == ("__debug__" : Str)) = false := by decide) (hcd : (az == ("__classdict__" : Str)) = false := by decide) :
    PE ((cxOf CXg X.prog X.w X.K X.mg X.base Nz qz sz g cdz X.A X.stack s H Eg).tr pn xe) (.Call (.Name az p1) [] [] p2)
      (fun σZ HZ Qy => σZ[0]? = some (some (.ref fl)) ∧ HZ cl = some (CodeO cl q) ∧ tb (fun cls d H' => W cls d σZ H') (startF N [] ws) HZ Qy) := by
  refine ⟨fun pinsZ sZ σZ HZ Qy IZ h => ?_⟩
  obtain ⟨hs, hc, hb⟩ := h
  refine wpAny_Call_Name_kw (thn ((pe_var (pos := p1) (i := 0) hN hv hd hcd).run pinsZ sZ σZ HZ (fun v H1 => v = .ref fl ∧ H1 = HZ) IZ ⟨.ref fl, hs, rfl, rfl⟩) fun u s1 ⟨v, H1, I1, r1, q1⟩ => ?_)
  obtain ⟨ev, eH⟩ := q1
  subst ev
  rw [eH] at I1
  obtain rfl : u = Value.ref fl := r1
  have of1 : s1.heap.get? fl = some (PySem.W.kla_obj "<lambda>" q pars bd scp cs pmz cl ctz) := I1.base.keep fl _ hf hfn hfr (fun z => nomatch (show fl ∈ ([] : List Addr) from z))
  refine PySem.W.callWith_F0 (first := []) ⟨_, _, _, _, of1⟩ ?_
  show wpAny _ _ (call (.ref fl) []) _ _ _
  have un : Un (frs X.stack) [] H HZ s.heap s1.heap := I1.base
  have rc : codeAny (model X.prog X.w) (X.A.deeper (envOfC qz sz s.heap.objs.size g cdz)) (.call (.ref fl) ⟨[], []⟩) (CR (L2.CX X.prog X.w) (envOfC qz sz s.heap.objs.size g cdz :: X.stack) X.prog X.w HZ s1 Qy (fun cls d H' => W cls d σZ H')) s1 :=
    lam_run (k := k) S hbind hr I1.env0 of1 hc (cells_later C un) .nil rfl (fun hr2 => hbody _ _ _ _ _ hr2) hb
  refine wpAny_call (codeAny_mono rc fun r s' hq => ?_)
  cases r with
  | error e => exact tk e s' (XE.of_call I1 (fun cls d H' h => h) hq)
  | ok fw =>
    cases fw with
    | ret u => exact I1.after hq
    | next => exact False.elim hq
    | brk => exact False.elim hq
    | cont => exact False.elim hq
/-- the def g (one parameter, called in it): TT is what it makes of the lambda's reading -/
def GivesR (X : Cx) (k : Nat) (Nz : List Str) (xg : Str) (sz : Scope) (g : Addr) (cdz : Value) (bz : List Stmt) (az : Str) (qz : Str) (TT : (XK → Hp → VK → Prop) → Hp → VK → Prop) : Prop :=
  ∀ (fl cl : Addr) (sz0 : Shared) (Hz : Hp) (Qz : VK) (tl : XK → Hp → VK → Prop), Room k (X.A.deeper (envOfC xg sz sz0.heap.objs.size g cdz)) →
    (∀ (W : WX) (pn : List (Addr × Obj)) (xe : Value → Shared → Prop) (p1 p2 : Pos), Takes ((cxOf C8.CX0 X.prog X.w X.K X.mg X.base Nz xg sz g cdz X.A X.stack sz0 Hz C8.E0).tr pn xe) W →
      PE ((cxOf C8.CX0 X.prog X.w X.K X.mg X.base Nz xg sz g cdz X.A X.stack sz0 Hz C8.E0).tr pn xe) (.Call (.Name az p1) [] [] p2) (fun σZ HZ Qy => σZ[0]? = some (some (.ref fl)) ∧ HZ cl = some (CodeO cl qz) ∧ tl (fun cls d H' => W cls d σZ H') HZ Qy)) →
    Hz cl = some (CodeO cl qz) → TT tl Hz Qz →
    ∃ t, PSs (cxOf C8.CX0 X.prog X.w X.K X.mg X.base Nz xg sz g cdz X.A X.stack sz0 Hz C8.E0).nox bz t ∧ t { nx := fun _ H' => Qz .non H', rt := Qz } (L2.start Nz [.ref fl]) Hz
def tLamR (T : List (Addr × Str)) (TT : (XK → Hp → VK → Prop) → Hp → VK → Prop) (t : XK → TE) (js : List Nat) (N : List Str) : TE := fun σ H Q => Tabs T H ∧ ∀ H1, ExtN H H1 → Tabs T H1 → TT (fun E H' Q' => t E (startF N [] (js.map (slotAt σ))) H' Q') H1 Q
/-- the call xg(lambda: bd) -/
theorem pe_lamR {T : List (Addr × Str)} {TT : (XK → Hp → VK → Prop) → Hp → VK → Prop} {xg az : Str} {g cc Pz : Addr} {k : Nat} {pz : Arguments} {bz : List Stmt} {sz : Scope} {dVz kVz docz pmz cdz ctz ocz : Value} {anz odz : Option Addr} {slz : Array (Option Value)} {Nz N fr : List Str} {js : List Nat}
    {pars : Arguments} {bd : Expr} {scp : Scope} {tz : XK → TE} {pp lp ps : Pos} (hg : Gl X xg) (hm : X.mg xg = some (.ref g)) (hkp : PySem.W.keepIn X.K (.ref g) = true)
    (lk : X.K.lookup g = some ⟨ocz, odz, .func (PySem.W.fnOf xg xg pz bz sz dVz kVz docz pmz anz cdz ctz), slz⟩) (hcz : PySem.W.codeIn X.K cdz xg = true) (hbz : L2.Binds X.K (PySem.W.fnOf xg xg pz bz sz dVz kVz docz pmz anz cdz ctz) [az] []) (Sz : FnScope Nz [az] sz) (hNz : Nz[0]? = some az) (hvz : Vis sz az)
    (hG : GivesR X (k + 1) Nz xg sz g cdz bz az (X.env.qual ++ "<lambda>") TT)
    (TB : TabB X.base X.mg cc Pz) (hcd : X.env.code = .ref cc) (hmT : (Pz, X.env.qual ++ "<lambda>") ∈ T) (hone : ∀ p ∈ T, p.1 = Pz → p.2 = X.env.qual ++ "<lambda>") (hr : Room (k + 2) X.A) (S : NScope N [] fr scp)
    (hfree : ∀ y ∈ scp.names, y.2 = .free → X.env.scope.names.lookup y.1 = some .cell ∨ X.env.scope.names.lookup y.1 = some .free) (hfr : ∀ y ∈ fr, (y, NameKind.free) ∈ scp.names) (hjs : js.map (fun j => X.N[j]?) = fr.map some)
    (hdef : defaultsOf pars X.env = ([], []))
    (hbind : ∀ (q : Str) (cl : List (Str × Addr)) (pm cv ctv : Value), bindArgs (PySem.W.kla_fn "<lambda>" q pars bd scp cl pm cv ctv) ⟨[], []⟩ = pure [])
    (hbd : ∀ (A : Around) (outer : List PySem.Env) (s : Shared) (H : Hp) (E : XK) (fl cl : Addr), Room k (A.deeper (envF (lamF (X.env.qual ++ "<lambda>") pars scp (cloFrom X.env.cells scp.names []) cl) fl s.heap.objs.size)) →
      PE (ncx (L2.CX X.prog X.w) X.prog X.w X.K X.mg X.base N (lamF (X.env.qual ++ "<lambda>") pars scp (cloFrom X.env.cells scp.names []) cl) fl A outer s H E) bd (tz E))
    (hdb : (xg == ("__debug__" : Str)) = false := by decide) (hda : (az == ("__debug__" : Str)) = false := by decide) (hdc : (az == ("__classdict__" : Str)) = false := by decide) :
    PE X (.Call (.Name xg pp) [.Lambda pars bd scp lp] [] ps) (tLamR T TT tz js N) := by
  refine ⟨fun pn sh σ G Qz J hyp => ?_⟩
  obtain ⟨tabs, hyp⟩ := hyp
  refine wpAny_Call_Name_kw (ld_glob J hg hm ?_ hdb)
  refine PySem.W.callWith_K (h₀ := X.base) J.ok.mod.kin hkp ?_ (by rfl) (by rfl)
  show wpAny _ _ (spliced ((false, eval (.Lambda pars bd scp lp) X.env) :: backTo ps (starEach [] X.env))) _ _ sh
  have hfr2 : ∀ y ∈ scp.names, y.2 = .free → ∃ c, X.env.cells.lookup y.1 = some c := fun y hy e => (hfree y hy e).elim (fun z => J.ok.has _ (.inl z)) fun z => J.ok.has _ (.inr z)
  refine Calls.spliced_cons (lam_make2 J TB hcd hmT hone tabs hdef hfr2 fun fl cl pm2 ct2 G1 sh1 J1 eN T1 hfl hfn hfr' hco => ?_)
  refine Calls.spliced_nil ⟨J1.kIn, ?_⟩
  have cp := cells_of J1 (Caps.made J1.ok hfree hfr hjs)
  have ran : codeAny (model X.prog X.w) X.A (.call (.ref g) ⟨[.ref fl], []⟩) (CR C8.CX0 X.stack X.prog X.w G1 sh1 Qz C8.E0) sh1 := by
    refine run_ofS (N := Nz) (ps := [az]) (us := [.ref fl]) (vs := [.ref fl]) lk hcz Sz hr J1.env0 (hbz sh1 [.ref fl] J1.kIn rfl) (.cons rfl .nil) rfl fun hr2 => ?_
    obtain ⟨t', ht', hq'⟩ := hG fl cl sh1 G1 Qz (fun E H' Q' => tz E (startF N [] (js.map (slotAt σ))) H' Q') hr2 (fun W pn2 xe p1 p2 tk => pe_act0 S cp hfl hfn hfr' (hbind _ _ _ _ _) tk hr2 (fun A outer s H E hr3 => hbd A outer s H E fl cl hr3) hNz hvz hda hdc) hco (hyp G1 eN T1)
    exact ⟨t', ht'.nox, hq'⟩
  refine wpAny_call (codeAny_mono ran fun res sh2 hq => ?_)
  cases res with
  | error e => exact (show False from hq).elim
  | ok fw =>
    cases fw with
    | ret u => exact J1.after hq
    | next => exact False.elim hq
    | brk => exact False.elim hq
    | cont => exact False.elim hq
end
end KX

set_option maxRecDepth 100000
set_option maxHeartbeats 4000000
namespace KX
open PySem PySem.Spec PyProof.Rows L2
/-! ### tuple * number, the empty tuple too -/
theorem tuple_mul0 (l : Addr) (n : Nat) (dd : Option Addr) (sl : Array (Option Value)) (x : Int) (u : Tok) (c0 : (decide (x < -(2 ^ 63)) || decide (x ≥ 2 ^ 63)) = false) :
    Meets (Builtin.«tuple.__mul__» ⟨[.ref l, .int x u], []⟩) (fun _ R s => s.heap.get? l = some { cls := .type "tuple", dict := dd, data := .seq #[] n, slots := sl } ∧ R (.ok (.ret (Value.ref l))) s) :=
  .of_wp fun prog w A R s h => by
    obtain ⟨hp, g, d, tk, os⟩ := s
    obtain ⟨hl, h⟩ := h
    have c1 : ((#[] : Array Value).isEmpty || x == 1) = true := rfl
    have f1 := AutoSeq1.idx_int
    wp_walk using wpAny_loadPart' hl
    refine wpAny_ite_false (decide_eq_false (by rw [c0]; exact Bool.false_ne_true)) ?_
    wp_walk using wpAny_loadPart' hl
    exact ⟨_, rfl, h⟩
def rRepE (K : PySem.W.Frag) : R2 := fun x y H Q => ∃ l k xs, x = .ref l ∧ y = .int k ∧ SqT K H l xs ∧ 2 ≤ k ∧ k ≤ 1000 ∧ xs.length ≤ 1000 ∧ (xs = [] → Q (.ref l) H) ∧ (xs ≠ [] → ∀ p, H p = none → Q (.ref p) (upd H p (.tup (List.replicate k.toNat xs).flatten)))
theorem op_repE {X : Cx} : OpR X (binaryOp .Mult) (rRepE X.K) := by
  intro pins s σ H x y v u Q I rx ry h
  obtain ⟨l, k, xs, rfl, rfl, hT, h1, h2, hz, q0, q1⟩ := h
  by_cases hne : xs = []
  · subst hne
    cases rx
    obtain ⟨t, rfl⟩ := ry
    obtain ⟨its, r, ⟨⟨cls, dd, data, sl⟩, ho, hc, n, hd⟩, hs⟩ := I.tuple hT
    simp only at hc hd
    subst hc hd
    cases r
    have c0 : (decide (k < -(2 ^ 63)) || decide (k ≥ 2 ^ 63)) = false := by
      rw [decide_eq_false (by omega), decide_eq_false (by omega)] <;> rfl
    exact wpAny_binaryOp_repeat_ref (T := "tuple") (U := "int") (by decide) ⟨_, ho, rfl⟩ (fun s' => typeIs_int s' k t) noFill_tuple_mul F.fills_int_mul F.slot_int_rmul repeat_tuple F.slot_int_index.lookup
      (call_meets F.slot_int_rmul (typeIs_int s k t) F.entry_int_rmul (F.args_int_rmul_2 _ _) (int_rmul_tuple k t l #[] n dd sl)
        ⟨ho, rfl, ⟨_, ho, rfl⟩, call_meets F.slot_tuple_mul ⟨_, ho, rfl⟩ F.entry_tuple_mul (F.args_tuple_mul_2 _ _) (tuple_mul0 l n dd sl k t c0) ⟨ho, ⟨.ref l, H, I, rfl, q0 rfl⟩⟩⟩)
  · exact op_repT pins s σ H (.ref l) (.int k) v u Q I rx ry ⟨l, k, xs, rfl, rfl, hT, hne, h1, h2, hz, q1 hne⟩
section
variable {l : Addr} {P : PSt} {K : PySem.W.Frag} {ta tb : TE} {ds : List PyData}
theorem gd_repE {k : Int} (kp : Kp l P) (h : GD l P (· = .tuple ds) ta) (hb : GI l P (· = k) tb) (k2 : 2 ≤ k) (k1 : k ≤ 1000) (hz : ds.length ≤ 1000) :
    GD l P (· = .tuple (List.replicate k.toNat ds).flatten) (tOp (rRepE K) ta tb) := fun σ H Q st p q =>
  h σ H _ st p fun H1 v e s k1' st1 x => hb σ H1 _ st1 (kp _ _ _ k1' st1 p) fun H2 i hb k2' st2 => by
    subst s hb
    obtain ⟨a, xs, rfl, na, ea, hx⟩ := dx_tupOf (x.up k2'.same)
    have hl := hx.len
    refine ⟨a, i, xs, rfl, rfl, .inl (.inl ea), k2, k1, by omega, fun z => ?_, fun _ b nb => q _ _ _ rfl ((k1'.trans k2').new nb) (st2.new nb) (dx_tup nb st2 (dxs_rep hx _))⟩
    subst z
    have e : ds = [] := List.eq_nil_of_length_eq_zero (by simpa using hl.symm)
    subst e
    have e2 : (List.replicate i.toNat ([] : List PyData)).flatten = [] := by simp
    rw [e2] at q
    exact q _ _ _ rfl (k1'.trans k2') st2 (x.up k2'.same)
end
end KX

set_option maxRecDepth 100000
set_option maxHeartbeats 4000000
namespace KX
open PySem PySem.Spec PyProof.Rows L2 PySem.W
/-! ### sorted(t), t a tuple of alike data -/
section
variable {prog : Program} {w : World} {A : Around} {E : Value → Shared → Prop} {s : Shared} {β : Type} {us : List Value} {ps : List β} {code : β → PyData} {Rz : Value → β → Prop}
theorem each_later {h h' : Heap} (kp : ∀ b o, h.get? b = some o → h'.get? b = some o) (er : EachIs (fun v b => ∃ as, Reads h v (code b) as) us ps) : EachIs (fun v b => ∃ as, Reads h' v (code b) as) us ps :=
  er.mono fun _ _ ⟨as, r⟩ => ⟨as, PyProof.Rows.Reads.keeps kp r⟩
theorem sorted_tupD {tp : Addr} {ob : Obj} {n : Nat} {Qz : Value → Shared → Prop} (ho : s.heap.get? tp = some ob) (hc : ob.cls = .type "tuple") (hd : ob.data = .seq us.toArray n) (e : EachIs Rz us ps) (er : EachIs (fun v b => ∃ as, Reads s.heap v (code b) as) us ps)
    (hal : AllAlike (ps.map code)) (hk : Sortable (ps.map code)) (hL : ps.length ≤ sizeLine) (hu : ∀ b, b ∈ ps → A.units + 2 + (code b).depth < cLine)
    (hq : ∀ (h' : Heap) (out : List Value), (∀ b o, s.heap.get? b = some o → h'.get? b = some o) → out.length = ps.length → EachIs Rz out (ps.mergeSort (dataLe false code)) →
      Qz (.ref h'.objs.size) { s with heap := sortedHeap (h'.push (seqObj "list" us.toArray 0)) h'.objs.size us (List.toArray out) }) :
    wpAny (model prog w) A (call (.builtin "sorted") [.ref tp]) Qz E s := by
  have hlen : us.length ≤ sizeLine := by rw [e.length]; exact hL
  refine call_function_entry_kw kind_sorted plain_sorted entry_sorted (args_sorted1 _) ?_
  unfold Builtin.«sorted»
  refine wpAny_bind (m := checkCount "sorted" 1 1 _) (wpAny_pure ?_)
  refine wpAny_bind (wpAny_collect_seq tp (.inr rfl) ho hc hd (fun h1 kp => ?_) (by rw [List.size_toArray]; exact hlen))
  rw [List.toList_toArray]
  refine wpAny_bind (wpAny_newList ?_ hlen)
  have at1 : (h1.push (seqObj "list" us.toArray 0)).get? h1.objs.size = some (seqObj "list" us.toArray 0) := Heap.get?_push_size _ rfl
  have old1 : ∀ b o, s.heap.get? b = some o → (h1.push (seqObj "list" us.toArray 0)).get? b = some o := fun b o q => Heap.get?_push_of_some _ (kp b o q)
  refine wpAny_bind (wpAny_holding (wpAny_call_entry_kw slot_list_sort ⟨_, at1, rfl⟩ entry_list_sort ?body (args_list_sort _)))
  case body =>
    show wpAny (model prog w) A.in1.in1 (Builtin.«list.sort» ⟨[.ref h1.objs.size], []⟩) _ _ { s with heap := h1.push (seqObj "list" us.toArray 0) }
    have er' : EachIs (fun v b => ∃ as, Reads (sortingHeap (h1.push (seqObj "list" us.toArray 0)) h1.objs.size us) v (code b) as) us ps :=
      each_later (fun b o q => sortingHeap_old (Nat.ne_of_lt (Heap.lt_size (kp b o q))) (old1 b o q)) er
    refine list_sort_vals (s := { s with heap := h1.push (seqObj "list" us.toArray 0) }) at1 (SortsAt.data (s := { s with heap := sortingHeap (h1.push (seqObj "list" us.toArray 0)) h1.objs.size us }) (each_map (R := fun v d => ∃ as, Reads (sortingHeap (h1.push (seqObj "list" us.toArray 0)) h1.objs.size us) v d as) code er') hal hk (bound_map hu)) hlen ?_
    exact ⟨.none, rfl, wpAny_pure ⟨_, rfl, hq h1 _ kp (by rw [sortVals_length false rfl]; exact e.length) (sortVals_data false e er' hal)⟩⟩
end
section
variable {X : Cx}
/-- sorted(t), t a tuple of alike data -/
def rSortT {β : Type} (K : PySem.W.Frag) (enc : β → PyData) : List V → Hp → VK → Prop := fun vs H Q => ∃ (a : Addr) (bs : List (V × β)), vs = [.ref a] ∧ SqT K H a (bs.map (·.1)) ∧ (∀ b ∈ bs, Dp K H b.1 (enc b.2)) ∧ AllAlike (bs.map fun b => enc b.2) ∧ Sortable (bs.map fun b => enc b.2) ∧
  (∀ b ∈ bs, (enc b.2).depth ≤ 50) ∧ ∀ p, H p = none → Q (.ref p) (L2.upd H p (.lst ((bs.mergeSort (dataLe false fun b => enc b.2)).map (·.1))))
theorem cr_sortT {β : Type} {enc : β → PyData} {k : Nat} (hr : Room k X.A) : CallR X (.builtin "sorted") (rSortT X.K enc) := by
  intro pins s σ H vs us Q I r h
  obtain ⟨a, bs, e, hS, hd, hal, hk, hu, q⟩ := h
  subst e
  obtain ⟨u, rfl, ru⟩ := vals1 r
  cases ru
  obtain ⟨its, rv, ⟨ob, ho, hc, n, hdat⟩, hz⟩ := I.tuple hS
  have hlen := rv.length
  rw [List.length_map] at hlen hz
  have er : EachIs (fun v (b : V × β) => ∃ as, Reads s.heap v (enc b.2) as) its bs := each_pairs (by omega) fun i u b e f => by
    obtain ⟨u', e', ru⟩ := rv.get (i := i) (x := b.1) (by rw [List.getElem?_map, f]; rfl)
    rw [e] at e'
    cases e'
    exact Dp.reads I (enc b.2) b.1 u (hd b (List.mem_of_getElem? f)) ru
  have eR : EachIs (fun v (b : V × β) => RelV b.1 v) its bs := each_pairs (by omega) fun i u b e f => by
    obtain ⟨u', e', ru⟩ := rv.get (i := i) (x := b.1) (by rw [List.getElem?_map, f]; rfl)
    rw [e] at e'
    cases e'
    exact ru
  have hun := hr.un
  refine sorted_tupD (code := fun b : V × β => enc b.2) ho hc hdat eR er hal hk (by omega) (fun b hb => by have := hu b hb; omega) fun h1 out kp hl he => ?_
  have rel : ∀ {ws : List Value} {ps : List (V × β)}, EachIs (fun v (b : V × β) => RelV b.1 v) ws ps → Vals (ps.map (·.1)) ws := by
    intro ws ps e
    induction e with
    | nil => exact .nil
    | cons h t ih => exact .cons h ih
  have at1 : (h1.push (seqObj "list" its.toArray 0)).get? h1.objs.size = some (seqObj "list" its.toArray 0) := Heap.get?_push_size _ rfl
  obtain ⟨ep, hep⟩ := sortedHeap_at (out := out.toArray) at1
  have J : Inv X pins σ H { s with heap := h1 } := I.kept (t' := s.toks) kp
  have old : ∀ b o, h1.get? b = some o → (sortedHeap (h1.push (seqObj "list" its.toArray 0)) h1.objs.size its out.toArray).get? b = some o := fun b o q => by
    have lt := Heap.lt_size q
    rw [sortedHeap_old (Nat.ne_of_lt lt) (by rw [size_push']; exact Nat.lt_succ_of_lt lt)]
    exact Heap.get?_push_of_some _ q
  refine ⟨.ref h1.objs.size, _, J.laid (t' := s.toks) old (Nat.le_refl _) (o := .lst ((bs.mergeSort (dataLe false fun b => enc b.2)).map (·.1))) ⟨?_, out, ep, rel he, hep⟩, rfl, q _ (J.hok.fresh (Nat.le_refl _))⟩
  rw [List.length_map, List.length_mergeSort]
  omega
end
end KX

set_option maxRecDepth 100000
set_option maxHeartbeats 4000000
namespace I1
open PySem PySem.Spec PyProof.Rows L2 KX
abbrev sIniU : Stmt := (clsB (topS 3)).getD 0 (.Pass ⟨0, 0, 0, 0⟩)
abbrev sAmg : Stmt := topS 11
abbrev sCR : Stmt := topS 33
abbrev sCN : Stmt := topS 34
/-- the class UnknownName, at U; its __init__ at fU -/
structure UN (K : PySem.W.Frag) (mg : Str → Option Value) (U fU : Addr) (gU : FuncData) : Prop where
  g : mg "UnknownName" = some (.ref U)
  x : KY.XC2 K "KeyError" "LookupError.__new__" "KeyError.__init__" kyTl U
  i : XI K U
  no : PySem.W.findIn K (.ref U) "name" = some none
  iC : PySem.W.findIn K (.ref U) "__init__" = some (some (.ref fU))
  tI : PySem.W.typeIn K (.ref fU) = some (.type "function")
  vV : PySem.W.findCls K (.type "KeyError") (.type "type") "__init__" = some (.val (.builtin "KeyError.__init__"))
  F : Fun K "__init__" "UnknownName.__init__" sIniU fU gU
  b : Binds K gU ["self", "name"] []
/-- an own class over ValueError without an __init__ -/
structure OC (K : PySem.W.Frag) (mg : Str → Option Value) (x : Str) (R : Addr) : Prop where
  g : mg x = some (.ref R)
  q : PySem.W.excIn K R [.type "ValueError", .type "Exception", .type "BaseException", .type "object"] "ValueError.__new__" = true
  kp : PySem.W.keepIn K (.ref R) = true
  sub : PySem.W.subIn K (.ref R) (.type "BaseException") = some true
  ty : PySem.W.typeIn K (.ref R) = some (.type "type")
def spIniU (U : Addr) : Sp := fun vs H Q _ => ∃ a v, vs = [.ref a, v] ∧ H a = some (exo a U none) ∧ ∀ dx, H dx = none → dx ≠ a → Q .non (upd (upd H dx (exd dx [("name", v)])) a (exo a U (some dx)))
theorem scIniU : FnScope ["self", "name"] ["self", "name"] (defScope sIniU) := ⟨rfl, rfl, rfl, by decide +kernel, rfl, by decide +kernel, by decide +kernel⟩
/-- the data d is one of the texts -/
def amg (ns : List Str) (d : PyData) : Bool := ns.any fun n => isSt n d
def spAmg (U : Addr) : Sp := fun vs H Q E => ∃ (kv nv : V) (ns : List Str), vs = [kv, nv] ∧ Dx H kv (.tuple (ns.map .str)) ∧
  ((∃ a xs ds, nv = .ref a ∧ H a = some (.tup xs) ∧ Dxs H xs ds ∧ (((∀ d ∈ ds, amg ns d = true) ∧ ∀ H', Same H H' → Q .non H') ∨
      ∃ (i : Nat) (v : V) (d : PyData), xs[i]? = some v ∧ ds[i]? = some d ∧ amg ns d = false ∧ (∀ (j : Nat) (e : PyData), j < i → ds[j]? = some e → amg ns e = true) ∧ ∀ H' dd, Same H H' → H' dd = some (.xd [("name", v)]) → E (.ref U) (some dd) H')) ∨
    ∃ d, Dx H nv d ∧ (∀ ds, d ≠ .tuple ds) ∧ ∀ H' dd, Same H H' → H' dd = some (.xd [("name", nv)]) → E (.ref U) (some dd) H')
theorem scAmg : FnScope ["known", "names", "name"] ["known", "names"] (defScope sAmg) := ⟨rfl, rfl, rfl, by decide +kernel, rfl, by decide +kernel, by decide +kernel⟩
section
variable {P : Program} {w : World} {K : PySem.W.Frag} {mg : Str → Option Value} {base : Heap} {U fU : Addr} {gU : FuncData}
theorem ok_iniU (B : Bl mg) (T : UN K mg U fU gU) : FnOk P w K mg base CX0 1 fU gU ["self", "name"] (spIniU U) := by
  refine T.F.ok scIniU (fun vs H Q E h => ?_) (fun cdv A outer s H vs Q E hr h => ?_)
  · obtain ⟨a, v, rfl, _⟩ := h
    rfl
  · obtain ⟨a, v, rfl, ea, q⟩ := h
    refine ⟨_, pss_cons (ps_expr (KY.pe_bini (newI := "LookupError.__new__") (tl := kyTl) (by rfl) B.kye T.vV (pa_cons (pv 0) (pa_cons (pv 1) pa_nil))))
      (pss_one (KY.ps_fst (B := "KeyError") (newI := "LookupError.__new__") (iniI := "KeyError.__init__") (tl := kyTl) (pv 0) (pv 1))), ?_⟩
    refine ⟨.ref a, rfl, v, rfl, a, U, [v], rfl, by simp, T.x, ea, ?_⟩
    exact ⟨v, rfl, .ref a, rfl, a, U, rfl, T.x, T.no, ea, fun dx n ne => q dx n ne⟩
theorem ok_amg {f : Addr} {fd : FuncData} (B : Bl mg) (T : UN K mg U fU gU) (D : Df K mg "check_among" sAmg ["known", "names"] f fd) : FnOk P w K mg base (L2.CX P w) 3 f fd ["known", "names"] (spAmg U) := by
  have GI : FnOk P w K mg base CX0 1 fU gU _ (spIniU U) := ok_iniU B T
  refine D.F.okX scAmg (fun vs H Q E h => ?_) (fun cdv A outer s H vs Q E hr h => ?_)
  · obtain ⟨kv, nv, ns, rfl, _⟩ := h
    rfl
  · obtain ⟨kv, nv, ns, rfl, hk, q⟩ := h
    have nd := scAmg.nd
    refine ⟨_, pss_cons (ps_if (pt_not (pt_val (pe_isD (T := "tuple") (x := "tuple") (by decide +kernel) B.isi B.tuple (by decide +kernel) (pv 1) (by rfl) (by rfl))))
        (pss_one (ps_raise rfl (takes_of rfl rfl rfl rfl) (KY.pmk_x T.x T.iC T.tI GI hr T.b pass0 (by rfl) T.g (pa_cons (pv 1) pa_nil)))) pss_nil)
      (pss_one (ps_for (passes_of rfl) rfl (pi_tup (pv 1)) (pg_name (i := 2) nd rfl (.inl rfl))
        (pss_one (ps_if (pt_cmpR (op_ninA hr.units) (pv 2) (pv 0) (by rfl)) (pss_one (ps_raise rfl (takes_of rfl rfl rfl rfl) (KY.pmk_x T.x T.iC T.tI GI hr T.b pass0 (by rfl) T.g (pa_cons (pv 2) pa_nil)))) pss_nil)))), ?_⟩
    rcases q with ⟨a, xs, ds, rfl, ea, hx, q⟩ | ⟨d, hd, nt, q⟩
    · have hd : Dx H (.ref a) (.tuple ds) := .tup ea hx
      refine ⟨.ref a, rfl, rfl, _, hd, _, rfl, ?_⟩
      rw [isa_tupleT]
      refine iteF ⟨.ref a, rfl, a, rfl, ⟨_, .inl (.inl ea)⟩, ?_⟩
      cases hk with
      | @tup t ks _ et hks =>
      have ek := vals_strsD hks
      have turn : ∀ {x : V} {d : PyData} {G : Hp} {o : Option V} {Qt : Bool → Hp → Prop}, Same H G → Dx G x d → Qt (!amg ns d) G → tTest (tOp (rInA K not) (tVar 2) (tVar 0)) [some (.ref t), some (.ref a), some x] G Qt := fun {x d G o Qt} sG hx k =>
        ⟨x, rfl, .ref t, rfl, d, t, ns, hx, rfl, .inl (.inl (by rw [← ek]; exact sG _ _ et)), _, rfl, k⟩
      rcases q with ⟨all, q⟩ | ⟨i, v, d, ev, ed, bad, good, q⟩
      · refine for_tup (K := K) (xs := xs) (fun j σ G => Same H G ∧ ∃ o : Option V, σ = [some (.ref t), some (.ref a), o]) ⟨Same.refl H, none, rfl⟩ (fun j σ G _ hG => .inl (.inl (hG.1 _ _ ea))) (fun j x σ G hxj hG => ?_) (fun σ G hG => ?_)
        · obtain ⟨sG, o, rfl⟩ := hG
          obtain ⟨e, ee, hxe⟩ := hx.get' hxj
          refine turn (o := o) sG (hxe.up sG) ?_
          rw [all e (List.mem_of_getElem? ee)]
          exact iteF ⟨sG, _, rfl⟩
        · exact q G hG.1
      · refine for_tup (K := K) (xs := xs) (fun j σ G => j ≤ i ∧ Same H G ∧ ∃ o : Option V, σ = [some (.ref t), some (.ref a), o]) ⟨Nat.zero_le _, Same.refl H, none, rfl⟩ (fun j σ G _ hG => .inl (.inl (hG.2.1 _ _ ea))) (fun j x σ G hxj hG => ?_) (fun σ G hG => ?_)
        · obtain ⟨ji, sG, o, rfl⟩ := hG
          obtain ⟨e, ee, hxe⟩ := hx.get' hxj
          refine turn (o := o) sG (hxe.up sG) ?_
          by_cases lt : j < i
          · rw [good j e lt ee]
            exact iteF ⟨lt, sG, _, rfl⟩
          · have e1 : j = i := by omega
            subst e1
            rw [ev] at hxj
            rw [ed] at ee
            cases hxj
            cases ee
            rw [bad]
            refine iteT ⟨v, rfl, by simp, fun b nb => ⟨b, v, rfl, upd_same, fun dx ndx ne => ⟨rfl, dx, [("name", v)], upd_same, ?_, ?_, ?_⟩⟩⟩
            · rw [upd_ne ne, upd_same]
            · rw [upd_ne ne] at ndx
              exact ndx
            · rw [upd_ne ne] at ndx
              refine q _ dx (fun c u z => ?_) upd_same
              have z := sG _ _ z
              rw [upd_ne (ne_of_none z ndx), del_ne (ne_of_none z nb), upd_ne (ne_of_none z nb), upd_ne (ne_of_none z ndx), upd_ne (ne_of_none z nb)]
              exact z
        · have h1 := hG.1
          have h2 := (List.getElem?_eq_some_iff.mp ev).1
          omega
    · refine ⟨nv, rfl, rfl, d, hd, _, rfl, ?_⟩
      rw [isa_tuple]
      cases d with
      | tuple ds => exact absurd rfl (nt ds)
      | _ =>
        refine iteT ⟨nv, rfl, by simp, fun a na => ⟨a, nv, rfl, upd_same, fun dx ndx ne => ⟨rfl, dx, [("name", nv)], upd_same, ?_, ?_, ?_⟩⟩⟩
        · rw [upd_ne ne, upd_same]
        · rw [upd_ne ne] at ndx
          exact ndx
        · rw [upd_ne ne] at ndx
          refine q _ dx (fun b o e => ?_) upd_same
          rw [upd_ne (ne_of_none e ndx), del_ne (ne_of_none e na), upd_ne (ne_of_none e na), upd_ne (ne_of_none e ndx), upd_ne (ne_of_none e na)]
          exact e
def spCN (U : Addr) : Sp := fun vs H Q E => ∃ (v nv : V) (rs : List Rec), vs = [v, nv] ∧ Dx H v (.tuple (rs.map encR)) ∧ rs.length ≤ 1000 ∧
  ((∃ a xs ds, nv = .ref a ∧ H a = some (.tup xs) ∧ Dxs H xs ds ∧ (((∀ d ∈ ds, amg (rs.map (·.nm)) d = true) ∧ ∀ H', Same H H' → Q .non H') ∨
      ∃ (i : Nat) (v : V) (d : PyData), xs[i]? = some v ∧ ds[i]? = some d ∧ amg (rs.map (·.nm)) d = false ∧ (∀ (j : Nat) (e : PyData), j < i → ds[j]? = some e → amg (rs.map (·.nm)) e = true) ∧ ∀ H' dd, Same H H' → H' dd = some (.xd [("name", v)]) → E (.ref U) (some dd) H')) ∨
    ∃ d, Dx H nv d ∧ (∀ ds, d ≠ .tuple ds) ∧ ∀ H' dd, Same H H' → H' dd = some (.xd [("name", nv)]) → E (.ref U) (some dd) H')
theorem scCN : FnScope ["rowset", "names"] ["rowset", "names"] (defScope sCN) := ⟨rfl, rfl, rfl, by decide +kernel, rfl, by decide +kernel, by decide +kernel⟩
theorem ok_cn {f fA fN : Addr} {fd fdA fdN : FuncData} (B : Bl mg) (cn : ∃ t, mg "NAME" = some (.int 0 t)) (T : UN K mg U fU gU) (D : Df K mg "check_names" sCN ["rowset", "names"] f fd) (DA : Df K mg "check_among" sAmg ["known", "names"] fA fdA) (DN : Df K mg "names_of" sNO ["rows"] fN fdN) :
    FnOk P w K mg base (L2.CX P w) 4 f fd ["rowset", "names"] (spCN U) := by
  have GA : FnOk P w K mg base (L2.CX P w) 3 fA fdA _ (spAmg U) := ok_amg B T DA
  have GN : FnOk P w K mg base CX0 3 fN fdN _ spNO := (ok_no B cn DN).mono (by decide)
  refine D.F.okX scCN (fun vs H Q E h => ?_) (fun cdv A outer s H vs Q E hr h => ?_)
  · obtain ⟨v, nv, rs, rfl, _⟩ := h
    rfl
  · obtain ⟨v, nv, rs, rfl, hd, hl, q⟩ := h
    refine ⟨_, pss_one (ps_expr (pe_callS GA hr (by rfl) DA.g DA.F.kp DA.b (fun σ => passAt (takes_of rfl rfl rfl rfl) σ) (pa_cons (pe_call GN hr (by rfl) DN.g DN.F.kp DN.b .nil pass0 (pa_cons (pv 0) pa_nil)) (pa_cons (pv 1) pa_nil)))), ?_⟩
    refine ⟨v, rfl, v, rs, rfl, hd, hl, fun G p sG hp => ⟨nv, rfl, .ref p, nv, rs.map (·.nm), rfl, hp, ?_⟩⟩
    rcases q with ⟨a, xs, ds, rfl, ea, hx, q⟩ | ⟨d, hd2, nt, q⟩
    · refine .inl ⟨a, xs, ds, rfl, sG _ _ ea, hx.up sG, ?_⟩
      rcases q with ⟨all, q⟩ | ⟨i, v, d, ev, ed, bad, good, q⟩
      · exact .inl ⟨all, fun G2 s2 => q G2 (sG.trans s2)⟩
      · exact .inr ⟨i, v, d, ev, ed, bad, good, fun G2 dd s2 e => q G2 dd (sG.trans s2) e⟩
    · exact .inr ⟨d, hd2.up sG, nt, fun G2 dd s2 e => q G2 dd (sG.trans s2) e⟩
end
abbrev sWO : Stmt := topS 28
abbrev sRW : Stmt := topS 35
abbrev sFR : Stmt := topS 36
structure RsOk (rs : List Rec) : Prop where
  le : rs.length ≤ 60
  row : (rs.map encR).all rowD = true
  one : oneW rs = true
  asc : ascS (rs.map (·.nm)) = true
theorem rowset_rec {d : PyData} (h : rowsetD d = true) : ∃ rs, d = .tuple (rs.map encR) ∧ RsOk rs := by
  cases d with
  | tuple ds =>
    have h : (decide (ds.length ≤ 60) && ((ds.all rowD && oneW (ds.map recD)) && ascS ((ds.map recD).map (·.nm)))) = true := h
    simp only [Bool.and_eq_true] at h
    obtain ⟨h1, ⟨h2, h3⟩, h4⟩ := h
    obtain ⟨rs, rfl⟩ := rows_rec h2
    rw [recs_back] at h3 h4
    rw [List.length_map] at h1
    exact ⟨rs, rfl, of_decide_eq_true h1, h2, h3, h4⟩
  | _ => cases h
def spCR (R : Addr) : Sp := fun vs H Q E => ∃ (v : V) (d : PyData), vs = [v] ∧ Dx H v d ∧ SmR d ∧ (rowsetD d = true → ∀ H', Same H H' → Q .non H') ∧ (rowsetD d = false → ∀ H', Same H H' → E (.ref R) none H')
theorem scCR : FnScope ["rowset"] ["rowset"] (defScope sCR) := ⟨rfl, rfl, rfl, by decide +kernel, rfl, by decide +kernel, by decide +kernel⟩
theorem scWO : FnScope ["rows"] ["rows"] (defScope sWO) := ⟨rfl, rfl, rfl, by decide +kernel, rfl, by decide +kernel, by decide +kernel⟩
theorem scRW : FnScope ["rowset"] ["rowset"] (defScope sRW) := ⟨rfl, rfl, rfl, by decide +kernel, rfl, by decide +kernel, by decide +kernel⟩
section
variable {P : Program} {w : World} {K : PySem.W.Frag} {mg : Str → Option Value} {base : Heap} {R : Addr}
theorem ok_cr {k : Nat} {f fI : Addr} {fd fdI : FuncData} (T : OC K mg "InvalidRowset" R) (D : Df K mg "check_rowset" sCR ["rowset"] f fd) (DI : Df K mg "is_rowset" sIR ["value"] fI fdI) (GI' : FnOk P w K mg base CX0 k fI fdI ["value"] spIR) :
    FnOk P w K mg base (L2.CX P w) (k + 1) f fd ["rowset"] (spCR R) := by
  refine D.F.okX scCR (fun vs H Q E h => ?_) (fun cdv A outer s H vs Q E hr h => ?_)
  · obtain ⟨v, d, rfl, _⟩ := h
    rfl
  · obtain ⟨v, d, rfl, hd, sm, q1, q2⟩ := h
    refine ⟨_, pss_one (ps_if (pt_not (pt_val (pe_call GI' hr (by rfl) DI.g DI.F.kp DI.b .nil pass0 (pa_cons (pv 0) pa_nil))))
        (pss_one (ps_raise rfl (takes_of rfl rfl rfl rfl) (pmk_own PySem.F.excBase_ValueError T.q T.g T.kp (raises_own T.sub T.ty) (by rfl)))) pss_nil), ?_⟩
    refine ⟨v, rfl, v, d, rfl, hd, sm, fun G sG => ⟨_, rfl, ?_⟩⟩
    cases e : rowsetD d with
    | true => exact iteF (q1 e G sG)
    | false => exact iteT (q2 e G sG)
def widthI : List Rec → Int
  | [] => 4
  | r :: _ => (r.vals.length : Int)
def spWO : Sp := fun vs H Q _ => ∃ (v : V) (rs : List Rec), vs = [v] ∧ Dx H v (.tuple (rs.map encR)) ∧ ∀ H', Same H H' → Q (.int (widthI rs)) H'
theorem ok_wo {f : Addr} {fd : FuncData} (B : Bl mg) (cv : ∃ t, mg "VALUES" = some (.int 2 t)) (cw : ∃ t, mg "MAX_WIDTH" = some (.int 4 t)) (D : Df K mg "width_of" sWO ["rows"] f fd) : FnOk P w K mg base CX0 1 f fd ["rows"] spWO := by
  obtain ⟨tv, mv⟩ := cv
  obtain ⟨tw, mw⟩ := cw
  refine D.F.ok scWO (fun vs H Q E h => ?_) (fun cdv A outer s H vs Q E hr h => ?_)
  · obtain ⟨v, rs, rfl, _⟩ := h
    rfl
  · obtain ⟨v, rs, rfl, hd, q⟩ := h
    refine ⟨_, pss_one (ps_ret (pe_ifExp (pt_truth (pv 0) (fun _ => rfl)) (pe_callB (call_lenK (K := K) rfl) (by rfl) B.len PySem.boot_len (pa_cons (pe_ix (r := rIxT K) ix_tup (pe_ix (r := rIxT K) ix_tup (pv 0) pe_int (fun _ _ => rfl)) (pe_glob (v := .int 2) (by rfl) mv ⟨_, rfl⟩) (fun _ _ => rfl)) pa_nil)) (pe_glob (v := .int 4) (by rfl) mw ⟨_, rfl⟩))), ?_⟩
    cases hd with
    | @tup a xs _ ea h =>
    refine ⟨.ref a, rfl, _, .inr (.inl ⟨xs, .inl (.inl ea), rfl⟩), ?_⟩
    cases rs with
    | nil =>
      cases h
      exact iteF (q H (Same.refl H))
    | cons r rs =>
      cases h with
      | @cons v vs _ _ h1 t =>
        obtain ⟨b, z, zs, rfl, eb, ez, ev⟩ := row_dx h1
        refine iteT ⟨.ref a, rfl, a, _, 0, .ref b, rfl, rfl, .inl (.inl ea), atI_nat (j := 0) rfl, b, _, 2, .ref z, rfl, rfl, .inl (.inl eb), rfl, z, zs, rfl, .inr (.inl (.inl ez)), ?_⟩
        rw [ev, List.length_map]
        exact q H (Same.refl H)
/-- a function of a checked rowset -/
def spOf (R : Addr) (val : List Rec → V → Hp → Prop) : Sp := fun vs H Q E => ∃ (v : V) (d : PyData), vs = [v] ∧ Dx H v d ∧ SmR d ∧ (rowsetD d = false → ∀ H', Same H H' → E (.ref R) none H') ∧ ∀ rs, d = .tuple (rs.map encR) → RsOk rs → ∀ H' x, Same H H' → val rs x H' → Q x H'
theorem ok_rw {k : Nat} {f fC fW : Addr} {fd fdC fdW : FuncData} (D : Df K mg "rowset_width" sRW ["rowset"] f fd) (DC : Df K mg "check_rowset" sCR ["rowset"] fC fdC) (DW : Df K mg "width_of" sWO ["rows"] fW fdW)
    (GC : FnOk P w K mg base (L2.CX P w) k fC fdC ["rowset"] (spCR R)) (GW : FnOk P w K mg base CX0 k fW fdW ["rows"] spWO) : FnOk P w K mg base (L2.CX P w) (k + 1) f fd ["rowset"] (spOf R fun rs x _ => x = .int (widthI rs)) := by
  refine D.F.okX scRW (fun vs H Q E h => ?_) (fun cdv A outer s H vs Q E hr h => ?_)
  · obtain ⟨v, d, rfl, _⟩ := h
    rfl
  · obtain ⟨v, d, rfl, hd, sm, qe, q⟩ := h
    refine ⟨_, pss_cons (ps_expr (pe_callS GC hr (by rfl) DC.g DC.F.kp DC.b (fun σ => passAt (takes_of rfl rfl rfl rfl) σ) (pa_cons (pv 0) pa_nil)))
      (pss_one (ps_ret (pe_call GW hr (by rfl) DW.g DW.F.kp DW.b .nil pass0 (pa_cons (pv 0) pa_nil)))), ?_⟩
    refine ⟨v, rfl, v, d, rfl, hd, sm, fun e G sG => ?_, qe⟩
    obtain ⟨rs, rfl, ok⟩ := rowset_rec e
    exact ⟨v, rfl, v, rs, rfl, hd.up sG, fun G2 s2 => q rs rfl ok G2 _ (sG.trans s2) rfl⟩
end
end I1

set_option maxRecDepth 100000
set_option maxHeartbeats 2000000
namespace I1
open PySem PySem.Spec PyProof.Rows L2 KX
theorem sm_name {n : Nat} {x : Str} (hn : n < 61) (h : NameOf n x) : smS (.str x) := by
  have hb : (8 : Nat) ≤ sizeLine := by decide
  exact Nat.le_trans (name_ok hn h).2 hb
def ROk (wd : Nat) (r : Rec) : Prop := ∃ n, n < 61 ∧ RecOk wd n r
theorem rec_sm {wd : Nat} {r : Rec} (h : ROk wd r) : smA (encR r) := fun d hd => by
  obtain ⟨n, hn, o⟩ := h
  simp at hd
  rcases hd with rfl | rfl | rfl | rfl
  · exact sm_name hn o.nm
  all_goals trivial
theorem rec_rd {wd : Nat} {r : Rec} (h : ROk wd r) (w1 : 1 ≤ wd) (w4 : wd ≤ 4) : rowD (encR r) = true := by
  obtain ⟨n, hn, o⟩ := h
  exact rec_row hn o w1 w4
theorem wtAll_le {W : Nat} : ∀ {es : List PyData}, (∀ e ∈ es, wt e ≤ W) → wtAll es ≤ es.length * W
  | [], _ => by simp [wtAll]
  | e :: es, h => by
    have h1 := h e (by simp)
    have h2 := wtAll_le (es := es) fun x hx => h x (by simp [hx])
    simp only [wtAll, List.length_cons, Nat.succ_mul]
    omega
theorem depthAll_le {k : Nat} : ∀ {es : List PyData}, (∀ e ∈ es, e.depth ≤ k) → PyData.depthAll es ≤ k
  | [], _ => by simp [PyData.depthAll]
  | e :: es, h => by
    have h1 := h e (by simp)
    have h2 := depthAll_le (es := es) fun x hx => h x (by simp [hx])
    simp only [PyData.depthAll]
    omega
theorem rec_fine {wd : Nat} {r : Rec} (h : ROk wd r) (hw : wd ≤ 4) : fine (10 ^ 40) (encR r) = true ∧ wt (encR r) ≤ 20 ∧ (encR r).depth ≤ 50 := by
  obtain ⟨n, hn, h⟩ := h
  have l8 := (name_ok hn h.nm).2
  have hl := h.len
  have c0 := h.c0
  have c1 := h.c1
  have e0 := h.e0
  have e1 := h.e1
  obtain ⟨suf, ex, hs, hx⟩ := h.nm
  refine ⟨?_, ?_, depth_rec r⟩
  · simp only [encR, fine, fineAll, Bool.and_eq_true]
    refine ⟨?_, decide_eq_true (by omega), fine_ints _ h.vs (by decide), decide_eq_true (by omega), trivial⟩
    refine List.all_eq_true.mpr fun c hc => decide_eq_true ?_
    rw [ex] at hc
    rcases List.mem_append.mp hc with hc | hc
    · unfold baseL at hc
      rcases List.mem_append.mp hc with hc | hc
      · rcases List.mem_append.mp hc with hc | hc
        · have := List.mem_singleton.mp hc
          omega
        · split at hc
          · have := List.mem_singleton.mp hc
            omega
          · cases hc
      · split at hc
        · have := List.mem_singleton.mp hc
          omega
        · cases hc
    · have := hs c hc
      omega
  · simp only [encR, wt, wtAll, wt_ints]
    omega
theorem big_show {d : PyData} (f : fine (10 ^ 40) d = true) (h2 : wt d ≤ 2000) (h3 : d.depth ≤ 100) : d.showable = true ∧ d.depth ≤ 100 ∧ d.shown.length ≤ sizeLine := by
  have h1 := shown_le (B := 10 ^ 40) (by decide) d f
  refine ⟨showable_fine (B := 10 ^ 40) (by decide) d f, h3, ?_⟩
  rw [sizeLine_eq]
  omega
/-! ### names up to number 60 -/
theorem base_cases (n : Nat) (hn : n < 61) : (n < 52 ∧ baseL n = (97 + n / 2) :: (if n % 2 = 1 then [97] else [])) ∨ (52 ≤ n ∧ baseL n = (97 + (n / 2 - 26)) :: ((if n % 2 = 1 then [97] else []) ++ [98])) := by
  by_cases h : n < 52
  · refine .inl ⟨h, ?_⟩
    have m26 : n / 2 % 26 = n / 2 := Nat.mod_eq_of_lt (by omega)
    have g51 : ¬ n > 51 := by omega
    simp [baseL, m26, g51]
  · refine .inr ⟨by omega, ?_⟩
    have m26 : n / 2 % 26 = n / 2 - 26 := by omega
    have g51 : n > 51 := by omega
    have d52 : n / 52 = 1 := by omega
    simp [baseL, m26, g51, d52]
theorem name_inj {n m : Nat} {x : Str} (hn : n < 61) (hm : m < 61) (h1 : NameOf n x) (h2 : NameOf m x) : n = m := by
  obtain ⟨s1, e1, _, k1⟩ := h1
  obtain ⟨s2, e2, _, k2⟩ := h2
  rw [e1] at e2
  rcases base_cases n hn with ⟨a1, b1⟩ | ⟨a1, b1⟩ <;> rcases base_cases m hm with ⟨a2, b2⟩ | ⟨a2, b2⟩ <;> rw [b1, b2] at e2 <;> simp only [List.cons_append, List.cons.injEq] at e2 <;> obtain ⟨e3, e4⟩ := e2 <;>
    rcases Nat.mod_two_eq_zero_or_one n with z | z <;> rcases Nat.mod_two_eq_zero_or_one m with y | y <;> simp [z, y] at e4 <;> have l := congrArg List.length e4 <;> (try simp at l) <;> (try omega)
/-- a text that may be a name's: a letter first, a or b second -/
def nmx : List Nat → Bool
  | [] => false
  | [c] => decide (97 ≤ c)
  | c :: d :: _ => decide (97 ≤ c) && decide (d ≤ 98)
theorem nmx_of {n : Nat} {x : Str} (hn : n < 61) (h : NameOf n x) : nmx x.cps.toList = true := by
  obtain ⟨s, e, _, k⟩ := h
  rw [e]
  rcases base_cases n hn with ⟨a1, b1⟩ | ⟨a1, b1⟩ <;> rw [b1] <;> rcases Nat.mod_two_eq_zero_or_one n with z | z <;> simp [z]
  · have : s = [] := List.eq_nil_of_length_eq_zero (by omega)
    subst this
    simp [nmx]
  · simp [nmx]
  · simp [nmx]
  · simp [nmx]
def leN (a b : Str) : Bool := decide (a.cps.toList ≤ b.cps.toList)
theorem le_rec {a b : Rec} (h : a.nm = b.nm → a = b) : PySem.W.dataLe false encR a b = leN a.nm b.nm := by
  show (!PySem.W.dataLt (encR b) (encR a)) = _
  by_cases e : a.nm = b.nm
  · have := h e
    subst this
    have z : PySem.W.dataLt (encR a) (encR a) = false := lex_irrefl _
    rw [z]
    exact (decide_eq_true (List.le_refl _)).symm
  · have ne : PyData.eqv (.str b.nm) (.str a.nm) = false := by
      simp [PyData.eqv]
      exact fun z => e z.symm
    unfold encR
    rw [PySem.W.dataLt_tuple, PySem.W.dataLt_cons (by simp [PySem.W.alike]), ne, if_neg (by decide), PySem.W.dataLt_str]
    exact PySem.W.not_lt_str _ _
theorem made_dist {wd : Nat} {recs : List Rec} (h : Made wd recs) (hl : recs.length ≤ 61) : ∀ a ∈ recs, ∀ b ∈ recs, a.nm = b.nm → a = b := fun r1 h1 r2 h2 e => by
  obtain ⟨i, hi, e1⟩ := List.getElem_of_mem h1
  obtain ⟨j, hj, e2⟩ := List.getElem_of_mem h2
  have a := (h i r1 (by rw [List.getElem?_eq_getElem hi, e1])).nm
  have b := (h j r2 (by rw [List.getElem?_eq_getElem hj, e2])).nm
  rw [e] at a
  have := name_inj (by omega) (by omega) a b
  subst this
  rw [← e1, ← e2]
theorem made_nodup {wd : Nat} {recs : List Rec} (h : Made wd recs) (hl : recs.length ≤ 61) : (recs.map (·.nm)).Nodup := by
  rw [List.nodup_iff_pairwise_ne, List.pairwise_iff_getElem]
  intro i j hi hj lt e
  rw [List.length_map] at hi hj
  rw [List.getElem_map, List.getElem_map] at e
  have a := (h i _ (List.getElem?_eq_getElem hi)).nm
  have b := (h j _ (List.getElem?_eq_getElem hj)).nm
  rw [e] at a
  have := name_inj (by omega) (by omega) a b
  omega
theorem names_sort {wd : Nat} {recs : List Rec} (h : Made wd recs) (hl : recs.length ≤ 61) : (sortR recs).map (·.nm) = (recs.map (·.nm)).mergeSort leN :=
  List.map_mergeSort fun a ha b hb => le_rec (made_dist h hl a ha b hb)
theorem le_tot (a b : Str) : (leN a b || leN b a) = true := by
  unfold leN
  rcases List.le_total a.cps.toList b.cps.toList with h | h
  · rw [decide_eq_true h]; rfl
  · rw [decide_eq_true h]; simp
theorem le_tr (a b c : Str) (h1 : leN a b = true) (h2 : leN b c = true) : leN a c = true :=
  decide_eq_true (List.le_trans (of_decide_eq_true h1) (of_decide_eq_true h2))
theorem asc_of : ∀ {ns : List Str}, ns.Pairwise (fun a b => leN a b = true) → ns.Nodup → ascS ns = true
  | [], _, _ => rfl
  | [_], _, _ => rfl
  | a :: b :: r, hp, nd => by
    have le : a.cps.toList ≤ b.cps.toList := of_decide_eq_true ((List.pairwise_cons.mp hp).1 b (by simp))
    have ne : a ≠ b := fun z => (List.nodup_cons.mp nd).1 (by rw [z]; simp)
    have lt : a.cps.toList < b.cps.toList := by
      rcases List.le_iff_lt_or_eq.mp le with h | h
      · exact h
      · exact absurd (by
          cases a with
          | mk x =>
            cases b with
            | mk y =>
              have : x = y := Array.toList_inj.mp h
              rw [this]) ne
    show (ltS a b && ascS (b :: r)) = true
    rw [asc_of (List.pairwise_cons.mp hp).2 (List.nodup_cons.mp nd).2]
    show (decide _ && true) = true
    rw [decide_eq_true lt]
    rfl
theorem asc_sort {wd : Nat} {recs : List Rec} (h : Made wd recs) (hl : recs.length ≤ 61) : ascS ((sortR recs).map (·.nm)) = true := by
  rw [names_sort h hl]
  exact asc_of (List.pairwise_mergeSort le_tr le_tot _) ((List.mergeSort_perm _ _).nodup_iff.mpr (made_nodup h hl))
theorem names_nodup {wd : Nat} {recs : List Rec} (h : Made wd recs) (hl : recs.length ≤ 61) : ((sortR recs).map (·.nm)).Nodup := by
  rw [names_sort h hl]
  exact (List.mergeSort_perm _ _).nodup_iff.mpr (made_nodup h hl)
theorem sort_rok {wd : Nat} {recs : List Rec} (h : Made wd recs) (hl : recs.length ≤ 61) : ∀ r ∈ sortR recs, ROk wd r := fun r hr => by
  have hr : r ∈ recs := List.mem_mergeSort.mp hr
  obtain ⟨i, hi, e⟩ := List.getElem_of_mem hr
  exact ⟨i, by omega, h i r (by rw [List.getElem?_eq_getElem hi, e])⟩
theorem eqv_ints : ∀ xs ys : List Int, PyData.eqvAll (xs.map .int) (ys.map .int) = decide (xs = ys)
  | [], [] => by simp [PyData.eqvAll]
  | [], y :: ys => by simp [PyData.eqvAll]
  | x :: xs, [] => by simp [PyData.eqvAll]
  | x :: xs, y :: ys => by
    rw [List.map_cons, List.map_cons, PySem.W.eqv_all_cons, eqv_ints xs ys]
    by_cases h : x = y <;> by_cases h2 : xs = ys <;> simp [PyData.eqv, h, h2]
/-! ### [row for row in rows if ..] -/
theorem filter_at (f : Rec → Bool) {rs : List Rec} {i : Nat} {r : Rec} (h : rs[i]? = some r) : (rs.take (i + 1)).filter f = (rs.take i).filter f ++ (if f r = true then [r] else []) := by
  rw [List.take_add_one, h, List.filter_append]
  by_cases z : f r = true
  · simp [z]
  · simp [z]
theorem lc_filter {K : PySem.W.Frag} {a D : Addr} {xs : List V} {rs : List Rec} {g : TG} {tt : TT} {te : TE} {vs : List Nat} {σ : L2.St} {H1 : Hp} {Qd : Hp → Prop} (f : Rec → Bool) (nD : H1 D = none) (ea : H1 a = some (.tup xs)) (hx : Dxs H1 xs (rs.map encR)) (hl : rs.length ≤ 1000)
    (hs : ∀ (r : Rec) (x : V) (G : Hp), r ∈ rs → Same H1 G → Dx G x (encR r) → ∀ (Pt : V → Hp → Prop) (Pf : Hp → Prop), (if f r = true then Pt x G else Pf G) → g x (wipe σ vs) G fun σ2 H2 => wipe σ2 vs = wipe σ vs ∧ tt σ2 H2 fun b H3 => if b = true then te σ2 H3 Pt else Pf H3)
    (hd : ∀ G ys, Same H1 G → G D = some (.lst ys) → Dxs (hid D G) ys ((rs.filter f).map encR) → Qd G) :
    ∃ W : Nat → Nat → Hp → Prop, (∃ m, W 0 m (upd H1 D (.lst []))) ∧ ∀ i m H, W i m H →
      ((Itt K a).stop i H ∧ Qd H) ∨ ((Itt K a).go i H ∧ ∃ Nx : Hp → Prop, (∀ H', Nx H' → ∃ m', m' < m ∧ W (i + 1) m' H') ∧ ∀ x H', (Itt K a).yld i H x H' → g x (wipe σ vs) H' fun σ2 H2 => wipe σ2 vs = wipe σ vs ∧ tt σ2 H2 fun b H3 =>
        if b = true then te σ2 H3 fun y H4 => ∃ acc, H4 D = some (.lst acc) ∧ acc.length < sizeLine ∧ Nx (upd H4 D (.lst (acc ++ [y]))) else Nx H3) := by
  have lx := hx.len
  rw [List.length_map] at lx
  refine lc_tup (xs := xs) (fun i G => Same H1 G ∧ ∃ ys, G D = some (.lst ys) ∧ Dxs (hid D G) ys (((rs.take i).filter f).map encR)) ⟨same_new nD, [], upd_same, .nil⟩ (fun i G _ hG => .inl (.inl (hG.1 _ _ ea))) (fun i x G hxi hG => ?_) (fun G hG => ?_)
  · obtain ⟨sG, ys, eD, hy⟩ := hG
    obtain ⟨d, ed, hdx⟩ := hx.get' hxi
    rw [List.getElem?_map] at ed
    obtain ⟨r, er, rfl⟩ := Option.map_eq_some_iff.mp ed
    have el := filter_at f er
    have ly : ys.length ≤ i := by
      rw [hy.len, List.length_map]
      exact Nat.le_trans (List.length_filter_le _ _) (by rw [List.length_take]; omega)
    have ii : i < rs.length := (List.getElem?_eq_some_iff.mp er).1
    refine hs r x G (List.mem_of_getElem? er) sG (hdx.up sG) _ _ ?_
    by_cases lt : f r = true
    · rw [if_pos lt] at el ⊢
      refine ⟨ys, eD, ?_, same_at sG nD, ys ++ [x], upd_same, ?_⟩
      · have hb : (1000 : Nat) < sizeLine := by decide
        omega
      · rw [el, List.map_append]
        refine (hy.up fun c u e => ?_).app (.cons ((hdx.up (H' := hid D (upd G D (.lst (ys ++ [x])))) fun c u e => ?_)) .nil)
        · obtain ⟨nc, e⟩ := hid_some e
          rw [hid_at nc, upd_ne nc]
          exact e
        · have nc : c ≠ D := ne_of_none e nD
          rw [hid_at nc, upd_ne nc]
          exact sG _ _ e
    · rw [if_neg lt] at el ⊢
      rw [List.append_nil] at el
      exact ⟨sG, ys, eD, by rw [el]; exact hy⟩
  · obtain ⟨sG, ys, eD, hy⟩ := hG
    rw [List.take_of_length_le (by omega)] at hy
    exact hd G ys sG eD hy
/-- a list of ints out of the rows -/
theorem lc_ints {K : PySem.W.Frag} {a D : Addr} {xs : List V} {rs : List Rec} {g : TG} {tt : TT} {te : TE} {vs : List Nat} {σ : L2.St} {H1 : Hp} {Qd : Hp → Prop} (f : Rec → Int) (nD : H1 D = none) (ea : H1 a = some (.tup xs)) (hx : Dxs H1 xs (rs.map encR)) (hl : rs.length ≤ 1000)
    (hs : ∀ (r : Rec) (x : V) (G : Hp), r ∈ rs → Same H1 G → Dx G x (encR r) → ∀ (Pt : V → Hp → Prop) (Pf : Hp → Prop), Pt (.int (f r)) G → g x (wipe σ vs) G fun σ2 H2 => wipe σ2 vs = wipe σ vs ∧ tt σ2 H2 fun b H3 => if b = true then te σ2 H3 Pt else Pf H3)
    (hd : ∀ G, Same H1 G → G D = some (.lst ((rs.map f).map V.int)) → Qd G) :
    ∃ W : Nat → Nat → Hp → Prop, (∃ m, W 0 m (upd H1 D (.lst []))) ∧ ∀ i m H, W i m H →
      ((Itt K a).stop i H ∧ Qd H) ∨ ((Itt K a).go i H ∧ ∃ Nx : Hp → Prop, (∀ H', Nx H' → ∃ m', m' < m ∧ W (i + 1) m' H') ∧ ∀ x H', (Itt K a).yld i H x H' → g x (wipe σ vs) H' fun σ2 H2 => wipe σ2 vs = wipe σ vs ∧ tt σ2 H2 fun b H3 =>
        if b = true then te σ2 H3 fun y H4 => ∃ acc, H4 D = some (.lst acc) ∧ acc.length < sizeLine ∧ Nx (upd H4 D (.lst (acc ++ [y]))) else Nx H3) := by
  have lx := hx.len
  rw [List.length_map] at lx
  refine lc_tup (xs := xs) (fun i G => Same H1 G ∧ G D = some (.lst (((rs.take i).map f).map V.int))) ⟨same_new nD, upd_same⟩ (fun i G _ hG => .inl (.inl (hG.1 _ _ ea))) (fun i x G hxi hG => ?_) (fun G hG => ?_)
  · obtain ⟨sG, eD⟩ := hG
    obtain ⟨d, ed, hdx⟩ := hx.get' hxi
    rw [List.getElem?_map] at ed
    obtain ⟨r, er, rfl⟩ := Option.map_eq_some_iff.mp ed
    have ii : i < rs.length := (List.getElem?_eq_some_iff.mp er).1
    refine hs r x G (List.mem_of_getElem? er) sG (hdx.up sG) _ _ ?_
    refine ⟨_, eD, ?_, same_at sG nD, ?_⟩
    · rw [List.length_map, List.length_map, List.length_take]
      have hb : (1000 : Nat) < sizeLine := by decide
      omega
    · rw [upd_same, List.take_add_one, er, List.map_append, List.map_append]
      rfl
  · obtain ⟨sG, eD⟩ := hG
    rw [List.take_of_length_le (by omega)] at eD
    exact hd G sG eD
theorem dx_tup' {H : Hp} {v : V} {ds : List PyData} (h : Dx H v (.tuple ds)) : ∃ a xs, v = .ref a ∧ H a = some (.tup xs) ∧ Dxs H xs ds := by
  cases h with
  | @tup a xs _ ea h => exact ⟨a, xs, rfl, ea, h⟩
theorem eqv_self (r : Rec) : PyData.eqv (encR r) (encR r) = true := by
  simp [encR, PyData.eqv, PyData.eqvAll, eqv_ints]
theorem eqv_rows : ∀ rs : List Rec, PyData.eqvAll (rs.map encR) (rs.map encR) = true
  | [] => by simp [PyData.eqvAll]
  | r :: rs => by simp [PyData.eqvAll, eqv_self, eqv_rows rs]
theorem eqv_tup (rs : List Rec) : PyData.eqv (.tuple (rs.map encR)) (.tuple (rs.map encR)) = true := by simpa [PyData.eqv] using eqv_rows rs
theorem plain_rows : ∀ rs : List Rec, PyData.plainAll (rs.map encR) = true
  | [] => by simp [PyData.plainAll]
  | r :: rs => by simp [PyData.plainAll, plain_rec, plain_rows rs]
theorem plain_tup (rs : List Rec) : (PyData.tuple (rs.map encR)).plain = true := by simpa [PyData.plain] using plain_rows rs
theorem deep_rows (rs : List Rec) : PyData.depthAll (rs.map encR) ≤ 50 := depthAll_le fun e he => by
  obtain ⟨r, _, rfl⟩ := List.mem_map.mp he
  exact depth_rec r
theorem deep_tup (rs : List Rec) : (PyData.tuple (rs.map encR)).depth ≤ 64 := by
  have := deep_rows rs
  simp only [PyData.depth]
  omega
theorem dp_tup {K : PySem.W.Frag} {H : Hp} {v : V} {rs : List Rec} (h : Dx H v (.tuple (rs.map encR))) : Dp K H v (.tuple (rs.map encR)) := dp_dx _ _ (plain_tup rs) h
theorem any_self {bs : List Rec} {r : Rec} (h : r ∈ bs) : ((bs.map encR).any fun z => PyData.eqv z (encR r)) = true :=
  List.any_eq_true.mpr ⟨encR r, List.mem_map.mpr ⟨r, h, rfl⟩, eqv_self r⟩
theorem rows_fine {wd : Nat} {rs : List Rec} (hr : ∀ r ∈ rs, ROk wd r) (hl : rs.length ≤ 61) (hw : wd ≤ 4) : (PyData.tuple (rs.map encR)).showable = true ∧ (PyData.tuple (rs.map encR)).depth ≤ 100 ∧ (PyData.tuple (rs.map encR)).shown.length ≤ sizeLine := by
  have hm : ∀ e ∈ rs.map encR, fine (10 ^ 40) e = true ∧ wt e ≤ 20 ∧ e.depth ≤ 50 := fun e he => by
    obtain ⟨r, mr, rfl⟩ := List.mem_map.mp he
    exact rec_fine (hr r mr) hw
  have fr := fineAll_mem.mpr fun e he => (hm e he).1
  have gr := wtAll_le fun e he => (hm e he).2.1
  have kr := depthAll_le fun e he => (hm e he).2.2
  rw [List.length_map] at gr
  refine big_show ?_ ?_ ?_
  · simpa only [fine] using fr
  · simp only [wt]
    omega
  · simp only [PyData.depth]
    omega
end I1

set_option maxRecDepth 100000
set_option maxHeartbeats 4000000
namespace I1
open PySem PySem.Spec PyProof.Rows L2 KX
section
variable {P : Program} {w : World} {K : PySem.W.Frag} {mg : Str → Option Value} {base : Heap} {R U : Addr}
def spNOF : Sp := fun vs H Q _ => ∃ (v : V) (rs : List Rec), vs = [v] ∧ Dx H v (.tuple (rs.map encR)) ∧ rs.length ≤ 1000 ∧ ∀ H' p o, Same H H' → o.cls = .type "tuple" → o.dict = none → H' p = some (.frz o (.tup ((rs.map (·.nm)).map V.str))) → Q (.ref p) H'
theorem ok_nof {f : Addr} {fd : FuncData} (B : Bl mg) (cn : ∃ t, mg "NAME" = some (.int 0 t)) (D : Df K mg "names_of" sNO ["rows"] f fd) : FnOk P w K mg base CX0 1 f fd ["rows"] spNOF := by
  obtain ⟨tn, mn⟩ := cn
  refine D.F.ok scNO (fun vs H Q E h => ?_) (fun cdv A outer s H vs Q E hr h => ?_)
  · obtain ⟨v, ns, rfl, _⟩ := h
    rfl
  · obtain ⟨v, rs, rfl, hd, hl, q⟩ := h
    have nd := scNO.nd
    refine ⟨_, pss_one (ps_ret (pe_callTy call_tupleF (by rfl) B.tuple (by decide +kernel) (pa_cons (pe_lc (own := [("row", 1)]) (g := gName 1) rfl nd (pi_tup (pv 0))
        (blkOk_by (N := ["rows", "row"]) (sc := defScope sNO) (by decide +kernel)) (fun _ _ _ _ _ => pg_name (i := 1) nd rfl (Or.inl rfl)) (fun _ _ _ _ _ => pts_nil)
        (fun _ _ _ _ _ => pe_ix (r := rIxT K) ix_tup (pv 1) (pe_glob (v := .int 0) (by rfl) mn ⟨_, rfl⟩) (fun _ _ => rfl))) pa_nil))), ?_⟩
    cases hd with
    | @tup a xs _ ea h =>
    have lx := h.len
    rw [List.length_map] at lx
    refine ⟨.ref a, rfl, a, rfl, ⟨_, .inl (.inl ea)⟩, fun D nD => ?_⟩
    refine lc_tup (xs := xs) (fun i G => Same H G ∧ G D = some (.lst (((rs.take i).map (·.nm)).map V.str))) ⟨same_new nD, upd_same⟩ (fun i G _ hG => .inl (.inl (hG.1 _ _ ea))) (fun i x G hx hG => ?_) (fun G hG => ?_)
    · obtain ⟨sG, eD⟩ := hG
      obtain ⟨d, ed, hdx⟩ := h.get' hx
      rw [List.getElem?_map] at ed
      obtain ⟨r, er, rfl⟩ := Option.map_eq_some_iff.mp ed
      obtain ⟨b, z, vs, rfl, eb, _⟩ := row_dx (hdx.up sG)
      refine ⟨rfl, .ref b, rfl, b, _, 0, .str r.nm, rfl, rfl, .inl (.inl eb), rfl, _, eD, ?_, same_at sG nD, ?_⟩
      · rw [List.length_map, List.length_map, List.length_take]
        have hb : (1000 : Nat) < sizeLine := by decide
        omega
      · rw [upd_same, List.take_add_one, er, List.map_append, List.map_append]
        rfl
    · obtain ⟨sG, eD⟩ := hG
      rw [List.take_of_length_le (by omega)] at eD
      exact ⟨D, _, rfl, .inl (.inl eD), fun p o np hc hn => q _ p o (sG.trans (same_new np)) hc hn upd_same⟩
def spFR (R U : Addr) : Sp := fun vs H Q E => ∃ (v nv : V) (d : PyData), vs = [v, nv] ∧ Dx H v d ∧ SmR d ∧ (∃ dn, Dx H nv dn) ∧ (rowsetD d = false → ∀ H', Same H H' → E (.ref R) none H') ∧
  ∀ rs, d = .tuple (rs.map encR) → RsOk rs → ((∃ dn, Dx H nv dn ∧ amg (rs.map (·.nm)) dn = false ∧ ∀ H' dd, Same H H' → H' dd = some (.xd [("name", nv)]) → E (.ref U) (some dd) H') ∨
      ∃ i r, rs[i]? = some r ∧ nv = .str r.nm ∧ (∀ (j : Nat) (e : Rec), j < i → rs[j]? = some e → e.nm ≠ r.nm) ∧ ∀ H' x, Same H H' → Dx H' x (encR r) → Q x H')
theorem scFR : FnScope ["rowset", "name"] ["rowset", "name"] (defScope sFR) := ⟨rfl, rfl, rfl, by decide +kernel, rfl, by decide +kernel, by decide +kernel⟩
theorem ok_fr {k : Nat} {f fR fN fO : Addr} {fd fdR fdN fdO : FuncData} (B : Bl mg) (D : Df K mg "find_row" sFR ["rowset", "name"] f fd) (DR : Df K mg "check_rowset" sCR ["rowset"] fR fdR) (DN : Df K mg "check_names" sCN ["rowset", "names"] fN fdN) (DO : Df K mg "names_of" sNO ["rows"] fO fdO)
    (GR : FnOk P w K mg base (L2.CX P w) k fR fdR ["rowset"] (spCR R)) (GN : FnOk P w K mg base (L2.CX P w) k fN fdN ["rowset", "names"] (spCN U)) (GO : FnOk P w K mg base CX0 k fO fdO ["rows"] spNOF) : FnOk P w K mg base (L2.CX P w) (k + 1) f fd ["rowset", "name"] (spFR R U) := by
  refine D.F.okX scFR (fun vs H Q E h => ?_) (fun cdv A outer s H vs Q E hr h => ?_)
  · obtain ⟨v, nv, d, rfl, _⟩ := h
    rfl
  · obtain ⟨v, nv, d, rfl, hd, sm, _, qe, q⟩ := h
    refine ⟨_, pss_cons (ps_expr (pe_callS GR hr (by rfl) DR.g DR.F.kp DR.b (fun σ => passAt (takes_of rfl rfl rfl rfl) σ) (pa_cons (pv 0) pa_nil)))
      (pss_cons (ps_expr (pe_callS GN hr (by rfl) DN.g DN.F.kp DN.b (fun σ => passAt (takes_of rfl rfl rfl rfl) σ) (pa_cons (pv 0) (pa_cons (pe_tup (pa_cons (pv 1) pa_nil)) pa_nil))))
      (pss_one (ps_ret (pe_ix ix_tup (pv 0) (pe_bmF PySem.F.plainAttrs_tuple PySem.F.slot_tuple_index PySem.F.type_tuple_index mt_tup_index (pe_call GO hr (by rfl) DO.g DO.F.kp DO.b .nil pass0 (pa_cons (pv 0) pa_nil)) (pa_cons (pv 1) pa_nil)) (fun _ _ => rfl))))), ?_⟩
    refine ⟨v, rfl, v, d, rfl, hd, sm, fun e G sG => ?_, qe⟩
    obtain ⟨rs, rfl, ok⟩ := rowset_rec e
    have l60 := ok.le
    refine ⟨v, rfl, nv, rfl, by show 1 ≤ sizeLine; decide, fun p np => ?_⟩
    have s1 : Same H (upd G p (.tup [nv])) := sG.trans (same_new np)
    refine ⟨v, .ref p, rs, rfl, hd.up s1, by omega, ?_⟩
    rcases q rs rfl ok with ⟨dn, hn, bad, q⟩ | ⟨i, r, er, rfl, first, q⟩
    · exact .inl ⟨p, [nv], [dn], rfl, upd_same, .cons (hn.up s1) .nil, .inr ⟨0, nv, dn, rfl, rfl, bad, fun j e lt => absurd lt (by omega), fun G2 dd s2 e => q G2 dd (s1.trans s2) e⟩⟩
    · have hin : amg (rs.map (·.nm)) (.str r.nm) = true := by
        unfold amg
        rw [List.any_eq_true]
        exact ⟨r.nm, List.mem_map.mpr ⟨r, List.mem_of_getElem? er, rfl⟩, decide_eq_true rfl⟩
      refine .inl ⟨p, [.str r.nm], [.str r.nm], rfl, upd_same, .cons (.str _) .nil, .inl ⟨fun d hd => by rw [List.mem_singleton.mp hd]; exact hin, fun G2 s2 => ?_⟩⟩
      have s3 := s1.trans s2
      cases hd with
      | @tup a xs _ ea h =>
      obtain ⟨x, ex, hx⟩ := h.get (i := i) (d := encR r) (by rw [List.getElem?_map, er]; rfl)
      refine ⟨.ref a, rfl, .ref a, rfl, .ref a, rs, rfl, (Dx.tup ea h).up s3, by omega, fun G3 p2 o s4 hc hn ep => ?_⟩
      have s5 := s3.trans s4
      refine ⟨⟨p2, o, _, rfl, ep, hc, hn⟩, .str r.nm, rfl, p2, rs.map (·.nm), r.nm, i, rfl, rfl, .inl (.inr ⟨o, ep⟩), by rw [List.getElem?_map, er]; rfl, fun m lt e => ?_, ?_⟩
      · rw [List.getElem?_map] at e
        obtain ⟨e2, ee, e3⟩ := Option.map_eq_some_iff.mp e
        exact first m e2 lt ee e3
      · exact ⟨a, xs, (i : Int), x, rfl, rfl, .inl (.inl (s5 _ _ ea)), atI_nat ex, q G3 x s5 (hx.up s5)⟩
end
end I1

set_option maxRecDepth 100000
set_option maxHeartbeats 4000000
namespace I1
open PySem PySem.Spec PyProof.Rows L2 KX
/-! ### names_of a list, sorted_names_of -/
abbrev sSNO : Stmt := topS 31
def spNOL : Sp := fun vs H Q _ => ∃ (a : Addr) (xs : List V) (rs : List Rec), vs = [.ref a] ∧ H a = some (.lst xs) ∧ Dxs H xs (rs.map encR) ∧ rs.length ≤ 1000 ∧ ∀ H' p, Same H H' → Dx H' (.ref p) (.tuple ((rs.map (·.nm)).map .str)) → Q (.ref p) H'
theorem dxs_strs {H : Hp} : ∀ ns : List Str, Dxs H (ns.map V.str) (ns.map PyData.str)
  | [] => .nil
  | n :: ns => .cons (.str n) (dxs_strs ns)
def srtN (ns : List Str) : List Str := ns.mergeSort (PySem.W.dataLe false PyData.str)
def spSNO : Sp := fun vs H Q _ => ∃ (a : Addr) (xs : List V) (rs : List Rec), vs = [.ref a] ∧ H a = some (.lst xs) ∧ Dxs H xs (rs.map encR) ∧ rs.length ≤ 1000 ∧ ∀ H' p, Same H H' → Dx H' (.ref p) (.tuple ((srtN (rs.map (·.nm))).map .str)) → Q (.ref p) H'
theorem scSNO : FnScope ["rows"] ["rows"] (defScope sSNO) := ⟨rfl, rfl, rfl, by decide +kernel, rfl, by decide +kernel, by decide +kernel⟩
theorem alike_strs (ns : List Str) : PySem.W.AllAlike (ns.map PyData.str) := PySem.W.AllAlike.of fun a b => by simp [PySem.W.alike]
section
variable {P : Program} {w : World} {K : PySem.W.Frag} {mg : Str → Option Value} {base : Heap}
theorem ok_nol {f : Addr} {fd : FuncData} (B : Bl mg) (cn : ∃ t, mg "NAME" = some (.int 0 t)) (D : Df K mg "names_of" sNO ["rows"] f fd) : FnOk P w K mg base CX0 1 f fd ["rows"] spNOL := by
  obtain ⟨tn, mn⟩ := cn
  refine D.F.ok scNO (fun vs H Q E h => ?_) (fun cdv A outer s H vs Q E hr h => ?_)
  · obtain ⟨a, xs, rs, rfl, _⟩ := h
    rfl
  · obtain ⟨a, xs, rs, rfl, ea, h, hl, q⟩ := h
    have nd := scNO.nd
    refine ⟨_, pss_one (ps_ret (pe_callTy call_tuple_of (by rfl) B.tuple (by decide +kernel) (pa_cons (pe_lc (own := [("row", 1)]) (g := gName 1) rfl nd (pi_list (pv 0))
        (blkOk_by (N := ["rows", "row"]) (sc := defScope sNO) (by decide +kernel)) (fun _ _ _ _ _ => pg_name (i := 1) nd rfl (Or.inl rfl)) (fun _ _ _ _ _ => pts_nil)
        (fun _ _ _ _ _ => pe_ix (r := rIxT K) ix_tup (pv 1) (pe_glob (v := .int 0) (by rfl) mn ⟨_, rfl⟩) (fun _ _ => rfl))) pa_nil))), ?_⟩
    have lx := h.len
    rw [List.length_map] at lx
    refine ⟨.ref a, rfl, a, rfl, ⟨_, .inl (.inl ea)⟩, fun D nD => ?_⟩
    refine lc_list (xs := xs) (fun i G => Same H G ∧ G D = some (.lst (((rs.take i).map (·.nm)).map V.str))) ⟨same_new nD, upd_same⟩ (fun i G _ hG => .inl (.inl (hG.1 _ _ ea))) (fun i x G hx hG => ?_) (fun G hG => ?_)
    · obtain ⟨sG, eD⟩ := hG
      obtain ⟨d, ed, hdx⟩ := h.get' hx
      rw [List.getElem?_map] at ed
      obtain ⟨r, er, rfl⟩ := Option.map_eq_some_iff.mp ed
      obtain ⟨b, z, vs, rfl, eb, _⟩ := row_dx (hdx.up sG)
      refine ⟨rfl, .ref b, rfl, b, _, 0, .str r.nm, rfl, rfl, .inl (.inl eb), rfl, _, eD, ?_, same_at sG nD, ?_⟩
      · rw [List.length_map, List.length_map, List.length_take]
        have hb : (1000 : Nat) < sizeLine := by decide
        omega
      · rw [upd_same, List.take_add_one, er, List.map_append, List.map_append]
        rfl
    · obtain ⟨sG, eD⟩ := hG
      rw [List.take_of_length_le (by omega)] at eD
      refine ⟨D, _, rfl, .inl ⟨.inl (.inl eD), fun p np => ?_⟩⟩
      exact q _ p (sG.trans (same_new np)) (.tup upd_same (dxs_strs _))
theorem ok_sno {k : Nat} {f fN : Addr} {fd fdN : FuncData} (B : Bl mg) (D : Df K mg "sorted_names_of" sSNO ["rows"] f fd) (DN : Df K mg "names_of" sNO ["rows"] fN fdN) (GN : FnOk P w K mg base CX0 k fN fdN ["rows"] spNOL) : FnOk P w K mg base CX0 (k + 1) f fd ["rows"] spSNO := by
  refine D.F.ok scSNO (fun vs H Q E h => ?_) (fun cdv A outer s H vs Q E hr h => ?_)
  · obtain ⟨a, xs, rs, rfl, _⟩ := h
    rfl
  · obtain ⟨a, xs, rs, rfl, ea, h, hl, q⟩ := h
    refine ⟨_, pss_one (ps_ret (pe_callTy call_tuple_of (by rfl) B.tuple (by decide +kernel) (pa_cons (pe_callB (cr_sortT (enc := PyData.str) hr) (by rfl) B.sorted (by decide +kernel) (pa_cons (pe_call GN hr (by rfl) DN.g DN.F.kp DN.b .nil pass0 (pa_cons (pv 0) pa_nil)) pa_nil)) pa_nil))), ?_⟩
    refine ⟨.ref a, rfl, a, xs, rs, rfl, ea, h, hl, fun G p sG hp => ?_⟩
    obtain ⟨p', ks, ep, eap, hks⟩ := dx_tup' hp
    cases ep
    have ek := vals_strsD hks
    obtain ⟨ns, ens⟩ : ∃ ns, ns = rs.map (fun r : Rec => r.nm) := ⟨_, rfl⟩
    have lns : ns.length = rs.length := by rw [ens, List.length_map]
    rw [← ens] at ek q
    refine ⟨p, ns.map fun n => (V.str n, n), rfl, .inl (.inl ?_), fun b hb => ?_, ?_, ?_, fun b hb => ?_, fun pl npl => ?_⟩
    · rw [List.map_map, eap, ek]
      rfl
    · obtain ⟨n, _, rfl⟩ := List.mem_map.mp hb
      exact .str n
    · rw [List.map_map]
      exact alike_strs ns
    · rw [List.map_map]
      exact PySem.W.Sortable.others fun n => ⟨by simp, by simp⟩
    · simp [PyData.depth]
    · have e1 : ((ns.map fun n => (V.str n, n)).mergeSort (PySem.W.dataLe false fun b => PyData.str b.2)).map (·.1) = (srtN ns).map V.str := by
        have h := List.map_mergeSort (f := fun n : Str => (V.str n, n)) (r := PySem.W.dataLe false PyData.str) (s := PySem.W.dataLe false fun b : V × Str => PyData.str b.2) (l := ns) (fun a _ b _ => rfl)
        rw [← h, List.map_map]
        rfl
      refine ⟨pl, _, rfl, .inl ⟨.inl (.inl upd_same), fun p2 np2 => ?_⟩⟩
      refine q _ p2 ((sG.trans (same_new npl)).trans (same_new np2)) (.tup upd_same ?_)
      rw [e1]
      exact dxs_strs _
/-! ### top_rows, check_count, top_names -/
theorem cutV_to (xs : List V) (n : Nat) : cutV xs none (some (n : Int)) = xs.take n := by
  unfold cutV
  rw [HT.sIx_none, HT.sIx_nat, Nat.sub_zero, List.drop_zero]
  rcases Nat.le_total n xs.length with h | h
  · rw [Nat.min_eq_left h]
  · rw [Nat.min_eq_right h, List.take_of_length_le (Nat.le_refl _), List.take_of_length_le h]
theorem Dxs.takeN {H : Hp} {xs : List V} {ds : List PyData} (h : Dxs H xs ds) (n : Nat) : Dxs H (xs.take n) (ds.take n) := by
  induction n generalizing xs ds with
  | zero => exact .nil
  | succ n ih =>
    cases h with
    | nil => exact .nil
    | cons h t => exact .cons h (ih t)
/-- the names that are selected -/
theorem width_ok {rs : List Rec} (ok : RsOk rs) : 1 ≤ widthI rs ∧ widthI rs ≤ 4 ∧ ∀ r ∈ rs, widthI rs ≤ (r.vals.length : Int) ∧ 1 ≤ r.vals.length ∧ r.vals.length ≤ 4 := by
  have each : ∀ r ∈ rs, 1 ≤ r.vals.length ∧ r.vals.length ≤ 4 := fun r hr => by
    have h := List.all_eq_true.mp ok.row (encR r) (List.mem_map.mpr ⟨r, hr, rfl⟩)
    have h : (nameD (.str r.nm) && betw 1 1000000 (.int r.cost) && (valsD (.tuple (r.vals.map .int)) && betw 1 1000000000 (.int r.exp))) = true := h
    simp only [Bool.and_eq_true] at h
    have h3 := h.2.1
    have e : valsD (.tuple (r.vals.map .int)) = ((decide (1 ≤ (((r.vals.map PyData.int).length : Nat) : Int)) && decide ((((r.vals.map PyData.int).length : Nat) : Int) ≤ 4)) && (r.vals.map PyData.int).all (betw (-1000000000) 1000000000)) := rfl
    rw [e, List.length_map, Bool.and_eq_true, Bool.and_eq_true] at h3
    have a := of_decide_eq_true h3.1.1
    have b := of_decide_eq_true h3.1.2
    omega
  cases rs with
  | nil => exact ⟨by decide, by decide, fun r hr => by cases hr⟩
  | cons r0 rs =>
    obtain ⟨a, b⟩ := each r0 (by simp)
    have ew : widthI (r0 :: rs) = (r0.vals.length : Int) := rfl
    rw [ew]
    refine ⟨by omega, by omega, fun r hr => ?_⟩
    obtain ⟨c, d⟩ := each r hr
    have h1 : ((r0 :: rs).all fun e => decide (e.vals.length = r0.vals.length)) = true := ok.one
    have := of_decide_eq_true (List.all_eq_true.mp h1 r hr)
    omega
end
end I1

set_option maxRecDepth 100000
set_option maxHeartbeats 4000000
namespace I1
open PySem PySem.Spec PyProof.Rows L2 KX
/-- the constants of the text -/
theorem tupB_len {n : Int} {ds : List PyData} : tupB n n (.tuple ds) = decide ((ds.length : Int) = n) := by
  have e : tupB n n (.tuple ds) = (decide (n ≤ (ds.length : Int)) && decide ((ds.length : Int) ≤ n)) := rfl
  rw [e]
  by_cases h : (ds.length : Int) = n
  · rw [decide_eq_true h, decide_eq_true (by omega), decide_eq_true (by omega)]; rfl
  · rw [decide_eq_false h]
    by_cases h2 : n ≤ (ds.length : Int)
    · rw [decide_eq_true h2, decide_eq_false (by omega)]; rfl
    · rw [decide_eq_false h2]; rfl
theorem plain_at {ds : List PyData} {d : PyData} {i : Nat} (h : PyData.plainAll ds = true) (e : ds[i]? = some d) : d.plain = true := by
  induction ds generalizing i with
  | nil => simp at e
  | cons c cs ih =>
    have h' : c.plain = true ∧ PyData.plainAll cs = true := by simpa [PyData.plainAll] using h
    cases i with
    | zero =>
      simp at e
      subst e
      exact h'.1
    | succ i => exact ih h'.2 (by simpa using e)
theorem plain_tupO {ds : List PyData} (h : (PyData.tuple ds).plain = true) : PyData.plainAll ds = true := by simpa [PyData.plain] using h
/-- an item of a tuple of data -/
theorem at_of {H : Hp} {xs : List V} {ds : List PyData} (h : Dxs H xs ds) {i : Nat} (hi : i < ds.length) : ∃ v, xs[i]? = some v ∧ Dx H v (ds.getD i .none) := by
  have hx : i < xs.length := by rw [h.len]; exact hi
  obtain ⟨d, ed, hd⟩ := h.get' (List.getElem?_eq_getElem hx)
  refine ⟨_, List.getElem?_eq_getElem hx, ?_⟩
  rw [List.getD_eq_getElem?_getD, ed]
  exact hd
section
variable {P : Program} {w : World} {K : PySem.W.Frag} {mg : Str → Option Value} {base : Heap}
end
end I1
namespace I1
open PySem PySem.Spec PyProof.Rows L2 KX
def col0 : PyData → Int
  | .tuple (.int i :: _) => i
  | _ => 0
def hasCol : PyData → Prop := fun d => ∃ i es, d = .tuple (.int i :: es)
theorem nodup_snoc {l : List Int} {k : Int} : (l ++ [k]).Nodup ↔ l.Nodup ∧ k ∉ l := by
  rw [List.nodup_append]
  constructor
  · intro h
    exact ⟨h.1, fun hk => h.2.2 k hk k (by simp) rfl⟩
  · intro h
    refine ⟨h.1, by simp, fun a ha b hb e => ?_⟩
    simp at hb
    subst hb
    exact h.2 (e ▸ ha)
section
variable {P : Program} {w : World} {K : PySem.W.Frag} {mg : Str → Option Value} {base : Heap}
end
end I1

namespace I1
open PySem PySem.Spec PyProof.Rows L2 KX
abbrev sInit : Stmt := (clsB (topS 4)).getD 0 (.Pass ⟨0, 0, 0, 0⟩)
abbrev sCk : Stmt := topS 7
def ixTl : List Value := [.type "IndexError", .type "LookupError", .type "Exception", .type "BaseException", .type "object"]
theorem ixB : XB "IndexError" "IndexError.__new__" "IndexError.__init__" ixTl := ⟨PySem.F.excBase_IndexError, PySem.F.store_IndexError⟩
/-- the class InvalidNumber, at C; its __init__ at fI -/
structure IN (K : PySem.W.Frag) (mg : Str → Option Value) (C fI : Addr) (gI : FuncData) : Prop where
  g : mg "InvalidNumber" = some (.ref C)
  x : XC K "IndexError" "IndexError.__new__" "IndexError.__init__" ixTl C
  i : XI K C
  no : PySem.W.findIn K (.ref C) "value" = some none
  iC : PySem.W.findIn K (.ref C) "__init__" = some (some (.ref fI))
  tI : PySem.W.typeIn K (.ref fI) = some (.type "function")
  vV : PySem.W.findCls K (.type "IndexError") (.type "type") "__init__" = some (.val (.builtin "IndexError.__init__"))
  F : Fun K "__init__" "InvalidNumber.__init__" sInit fI gI
  b : Binds K gI ["self", "value"] []
def spInit (C : Addr) : Sp := fun vs H Q _ => ∃ a v, vs = [.ref a, v] ∧ H a = some (exo a C none) ∧ ∀ dx, H dx = none → dx ≠ a → Q .non (upd (upd H dx (exd dx [("value", v)])) a (exo a C (some dx)))
theorem scInit : FnScope ["self", "value"] ["self", "value"] (defScope sInit) := ⟨rfl, rfl, rfl, by decide +kernel, rfl, by decide +kernel, by decide +kernel⟩
section
variable {P : Program} {w : World} {K : PySem.W.Frag} {mg : Str → Option Value} {base : Heap} {C fI : Addr} {gI : FuncData}
theorem ok_init (B : Bl mg) (T : IN K mg C fI gI) : FnOk P w K mg base CX0 1 fI gI ["self", "value"] (spInit C) := by
  refine T.F.ok scInit (fun vs H Q E h => ?_) (fun cdv A outer s H vs Q E hr h => ?_)
  · obtain ⟨a, v, rfl, _⟩ := h
    rfl
  · obtain ⟨a, v, rfl, ea, q⟩ := h
    refine ⟨_, pss_cons (ps_expr (pe_bini (newI := "IndexError.__new__") (tl := ixTl) (by rfl) B.ixe T.vV (pa_cons (pv 0) (pa_cons (pv 1) pa_nil))))
      (pss_one (ps_fst (B := "IndexError") (newI := "IndexError.__new__") (iniI := "IndexError.__init__") (tl := ixTl) (pv 0) (pv 1))), ?_⟩
    refine ⟨.ref a, rfl, v, rfl, a, C, [v], rfl, by simp, T.x, ea, ?_⟩
    exact ⟨v, rfl, .ref a, rfl, a, C, rfl, T.x, T.no, ea, fun dx n ne => q dx n ne⟩
/-! ### check_between -/
def spCk (C : Addr) : Sp := fun vs H Q E => ∃ v d lo hi, vs = [v, .int lo, .int hi] ∧ Dx H v d ∧
  (if betw lo hi d = true then Q .non H else ∀ H' dd, Same H H' → H' dd = some (.xd [("value", v)]) → E (.ref C) (some dd) H')
theorem scCk : FnScope ["value", "low", "high"] ["value", "low", "high"] (defScope sCk) := ⟨rfl, rfl, rfl, by decide +kernel, rfl, by decide +kernel, by decide +kernel⟩
theorem ok_ck {f fB : Addr} {fd fdB : FuncData} (B : Bl mg) (T : IN K mg C fI gI) (D : Df K mg "check_between" sCk ["value", "low", "high"] f fd) (DB : Df K mg "is_between" sBetween ["value", "low", "high"] fB fdB) :
    FnOk P w K mg base (L2.CX P w) 3 f fd ["value", "low", "high"] (spCk C) := by
  have GB : FnOk P w K mg base CX0 1 fB fdB _ spBetween := ok_between B DB
  have GI : FnOk P w K mg base CX0 1 fI gI _ (spInit C) := ok_init B T
  refine D.F.okX scCk (fun vs H Q E h => ?_) (fun cdv A outer s H vs Q E hr h => ?_)
  · obtain ⟨v, d, lo, hi, rfl, _⟩ := h
    rfl
  · obtain ⟨v, d, lo, hi, rfl, hd, q⟩ := h
    refine ⟨_, pss_one (ps_if (pt_not (pt_val (pe_call GB (hr.mono (by decide)) (by rfl) DB.g DB.F.kp DB.b .nil pass0 (pa_cons (pv 0) (pa_cons (pv 1) (pa_cons (pv 2) pa_nil))))))
      (pss_one (ps_raise rfl (takes_of rfl rfl rfl rfl) (pmk_x T.x T.iC T.tI GI hr T.b pass0 (by rfl) T.g (pa_cons (pv 0) pa_nil)))) pss_nil), ?_⟩
    refine ⟨v, rfl, .int lo, rfl, .int hi, rfl, v, d, lo, hi, rfl, hd, _, rfl, ?_⟩
    cases eb : betw lo hi d with
    | true =>
      rw [eb] at q
      exact iteF q
    | false =>
      rw [eb] at q
      refine iteT ⟨v, rfl, by simp, fun a na => ⟨a, v, rfl, upd_same, fun dx ndx ne => ⟨rfl, dx, [("value", v)], upd_same, ?_, ?_, ?_⟩⟩⟩
      · rw [upd_ne ne, upd_same]
      · rw [upd_ne ne] at ndx
        exact ndx
      · rw [upd_ne ne] at ndx
        refine q _ dx (fun b o e => ?_) upd_same
        rw [upd_ne (ne_of_none e ndx), del_ne (ne_of_none e na), upd_ne (ne_of_none e na), upd_ne (ne_of_none e ndx), upd_ne (ne_of_none e na)]
        exact e
/-! ### check_width -/
end
end I1

set_option maxRecDepth 100000
set_option maxHeartbeats 4000000
/-! Ex31: zip of a tuple and a list (Ex5 with the roles exchanged) -/
namespace KX
open PySem PySem.Spec PyProof.Rows L2
def ItN (K : PySem.W.Frag) (a b : Addr) : It :=
  ⟨fun i H => ∃ (xs ys : List V) (x y : V), SqT K H a xs ∧ SqL K H b ys ∧ xs[i]? = some x ∧ ys[i]? = some y,
    fun i H v G => ∃ T x y, v = .ref T ∧ H T = none ∧ G = upd H T (.tup [x, y]) ∧ (∀ xs, SqT K H a xs → xs[i]? = some x) ∧ ∀ ys, SqL K H b ys → ys[i]? = some y,
    fun i H => ∃ xs ys : List V, SqT K H a xs ∧ SqL K H b ys ∧ xs.length = i ∧ ys.length = i⟩
theorem turn_n {P : Program} {w : World} {K : PySem.W.Frag} {elts : List Expr} {kk : Nat} {tpos : Pos} {a b z TI TO i1 i2 : Addr} (D : ZipApart z TI TO i1 i2 a b) :
    Turn P w K (.Tuple elts kk tpos) (ItN K a b) [z, TI, TO, i1, i2] z (fun i h => IsZip h z TI TO .none ∧ IsPair h TI (.ref i1) (.ref i2) ∧ (∃ x y, IsPair h TO x y) ∧ h.IsTupleIter i1 a i ∧ h.IsListIter i2 b i) where
  mem := by simp
  obj := fun i h st c hc => by
    obtain ⟨hz, hTI, ⟨x, y, hTO⟩, ⟨o1, e1, _, d1⟩, ⟨o2, e2, _, d2⟩⟩ := st
    simp only [List.mem_cons, List.not_mem_nil, or_false] at hc
    rcases hc with rfl | rfl | rfl | rfl | rfl
    · exact ⟨_, hz, fun v q => nomatch q⟩
    · exact ⟨_, hTI, fun v q => nomatch q⟩
    · exact ⟨_, hTO, fun v q => nomatch q⟩
    · exact ⟨o1, e1, fun v q => by rw [d1] at q; cases q⟩
    · exact ⟨o2, e2, fun v q => by rw [d2] at q; cases q⟩
  keep := fun i h h' st k => by
    obtain ⟨hz, hTI, ⟨x, y, hTO⟩, t1, t2⟩ := st
    exact ⟨k z (by simp) _ hz, k TI (by simp) _ hTI, ⟨x, y, k TO (by simp) _ hTO⟩, t1.at fun o q => k i1 (by simp) o q, t2.at fun o q => k i2 (by simp) o q⟩
  item := by
    intro X hP hw hK hc i pins s σ H E I hf st hg
    subst hP hw hK
    obtain ⟨hz, hTI, ⟨x0, y0, hTO⟩, t1, t2⟩ := st
    obtain ⟨xs, ys, x, y, hqx, hqy, hx, hy⟩ := hg
    obtain ⟨its, rv, pl, _⟩ := I.tuple hqx
    obtain ⟨its2, rv2, pt, _⟩ := I.list hqy
    obtain ⟨u, hu, ru⟩ := rv.get hx
    obtain ⟨u2, hu2, ru2⟩ := rv2.get hy
    have zl : z < s.heap.objs.size := Heap.lt_size hz
    have hh : X.A.in1.handled = none := I.ok.hd hc
    have li : i < its.toArray.size := by simpa using (List.getElem?_eq_some_iff.mp hu).1
    have li2 : i < its2.toArray.size := by simpa using (List.getElem?_eq_some_iff.mp hu2).1
    refine wpAny_pyNext_zipD2_item (sep_of D) (Draws.tuple hh i1 a D.l1i1 its.toArray) (Draws.list hh i2 b D.l2i2 its2.toArray) hz hTI hTO ⟨t1, pl⟩ ⟨t2, pt.isList⟩ li li2 fun x1 x2 h' tk q1 q2 z' TO' s1' s2' hT hsz hk => ?_
    have e1 : x1 = u := Option.some.inj (q1.symm.trans (by simpa using hu))
    have e2 : x2 = u2 := Option.some.inj (q2.symm.trans (by simpa using hu2))
    subst e1 e2
    refine ⟨_, rfl, wpAny_letOwnedTupleGo_zip (s := { s with heap := h', toks := tk }) z' fun h'' z'' sb => ?_⟩
    have hT2 : h''.get? s.heap.objs.size = some { cls := .type "tuple", data := .seq #[x1, x2] } := (sb.2 _ (Nat.ne_of_gt zl)).trans hT
    have new : ObjOk X.prog X.w (upd H s.heap.objs.size (.tup [x, y])) h'' s.heap.objs.size (.tup [x, y]) := ⟨by show 2 ≤ sizeLine; decide, [x1, x2], .cons ru (.cons ru2 .nil), ⟨_, hT2, rfl, _, rfl⟩⟩
    have moved : ∀ c o, c ∉ [z, TI, TO, i1, i2] → s.heap.get? c = some o → h''.get? c = some o := fun c o hb q => by
      simp only [List.mem_cons, List.not_mem_nil, or_false, not_or] at hb
      exact (sb.2 c hb.1).trans (hk c o hb.1 hb.2.2.1 hb.2.2.2.1 hb.2.2.2.2 q)
    have I1 : Inv X pins σ (upd H s.heap.objs.size (.tup [x, y])) { s with heap := h'', toks := tk } := I.turnedNew (t' := tk) (ch := [z, TI, TO, i1, i2]) moved hf (Nat.le_refl _) new
    refine ⟨.ref s.heap.objs.size, _, I1, rfl, ⟨_, x, y, rfl, I.hok.fresh (Nat.le_refl _), rfl, fun l hl => by rw [I.tuple_inj hl hqx]; exact hx, fun l hl => by rw [I.list_inj hl hqy]; exact hy⟩,
      ⟨z'', (sb.2 _ D.TIz).trans (hk _ _ D.TIz D.TITO D.TIi1 D.TIi2 hTI), ⟨x1, x2, (sb.2 _ D.TOz).trans TO'⟩, s1'.1.at fun o q => (sb.2 _ D.i1z).trans q, s2'.1.at fun o q => (sb.2 _ D.i2z).trans q⟩, fun c hcm => ?_⟩
    have lt : c < s.heap.objs.size := by
      simp only [List.mem_cons, List.not_mem_nil, or_false] at hcm
      rcases hcm with rfl | rfl | rfl | rfl | rfl
      · exact zl
      · exact Heap.lt_size hTI
      · exact Heap.lt_size hTO
      · obtain ⟨_, q, _⟩ := t1; exact Heap.lt_size q
      · obtain ⟨_, q, _⟩ := t2; exact Heap.lt_size q
    rw [upd_ne (Nat.ne_of_lt lt)]
    exact (hf c hcm).1
  done := by
    intro X hP hw hK hc i pins s σ H E I hf st hg
    subst hP hw hK
    obtain ⟨hz, hTI, ⟨x0, y0, hTO⟩, t1, t2⟩ := st
    obtain ⟨xs, ys, hqx, hqy, e1, e2⟩ := hg
    obtain ⟨its, rv, pl, _⟩ := I.tuple hqx
    obtain ⟨its2, rv2, pt, _⟩ := I.list hqy
    have l1 := rv.length
    have l2 := rv2.length
    have hh : X.A.in1.handled = none := I.ok.hd hc
    have s1 : its.toArray.size = i := by simp; omega
    have s2 : its2.toArray.size = i := by simp; omega
    refine wpAny_pyNext_zipD2_end (sep_of D) (Draws.tuple hh i1 a D.l1i1 its.toArray) (Draws.list hh i2 b D.l2i2 its2.toArray) hz hTI hTO ⟨t1, pl⟩ ⟨t2, pt.isList⟩ (by omega) (by omega) (.inl s1.symm) fun h' tk hk => ⟨rfl, ?_⟩
    refine I.turnedL (t' := tk) (ch := [z, TI, TO, i1, i2]) (fun c o hb q => ?_) hf
    simp only [List.mem_cons, List.not_mem_nil, or_false, not_or] at hb
    exact hk c o hb.1 hb.2.2.1 hb.2.2.2.1 hb.2.2.2.2 q
  self := fun A i s Q E st h => wpAny_pyIter_zip st.1 h
/-! the call -/
abbrev zn1 (h : Heap) (a : Addr) : Heap := h.push { cls := .type "tuple_iterator", data := .fields #[.ref a, .int 0 0] }
abbrev zn2 (h : Heap) (a b : Addr) : Heap := (zn1 h a).push { cls := .type "list_iterator", data := .fields #[.ref b, .int 0 0] }
abbrev zn3 (h : Heap) (a b : Addr) : Heap := (zn2 h a b).push { cls := .type "tuple", data := .seq #[.ref h.objs.size, .ref (zn1 h a).objs.size] }
abbrev zn4 (h : Heap) (a b : Addr) : Heap := (zn3 h a b).push { cls := .type "tuple", data := .seq #[.none, .none] }
abbrev zn5 (h : Heap) (a b : Addr) : Heap := (zn4 h a b).push { cls := .type "zip", data := .fields #[.none, .bool false, .bool false, .ref (zn2 h a b).objs.size, .ref (zn3 h a b).objs.size] }
theorem meets_zn (a b : Addr) (xs ys : Array Value) :
    Meets (Builtin.«zip.__new__» ⟨[.type "zip", .ref a, .ref b], []⟩) (fun _ R s => s.heap.IsTuple a xs ∧ s.heap.IsList b ys ∧ R (.ok (.ret (.ref (zn4 s.heap a b).objs.size))) { s with heap := zn5 s.heap a b }) :=
  .of_wp fun prog w A R s h => by
    obtain ⟨hp, g, d, tk, os⟩ := s
    obtain ⟨ha, hb, h⟩ := h
    have hsub := sub_zip
    have La : Heap.IsTuple (Shared.heap ⟨hp, g, d, tk, os⟩) a xs := ha
    have Lb : Heap.IsList (Shared.heap ⟨hp.push { cls := .type "tuple_iterator", data := .fields #[.ref a, .int 0 0] }, g, d, tk, os⟩) b ys := Heap.IsList.push hb _
    wp_walk using wpAny_pyIter_tuple La, wpAny_pyIter_list Lb
    exact ⟨_, rfl, h⟩
section
variable {prog : Program} {w : World} {A : Around} {E : Value → Shared → Prop} {s : Shared}
theorem call_zn {a b : Addr} {xs ys : Array Value} {Q : Value → Shared → Prop} (ha : s.heap.IsTuple a xs) (hb : s.heap.IsList b ys)
    (go : ∀ h', IsZip h' (s.heap.objs.size + 4) (s.heap.objs.size + 2) (s.heap.objs.size + 3) .none → IsPair h' (s.heap.objs.size + 2) (.ref s.heap.objs.size) (.ref (s.heap.objs.size + 1)) → IsPair h' (s.heap.objs.size + 3) .none .none →
      h'.IsTupleIter s.heap.objs.size a 0 → h'.IsListIter (s.heap.objs.size + 1) b 0 → (∀ c o, s.heap.get? c = some o → h'.get? c = some o) → Q (.ref (s.heap.objs.size + 4)) { s with heap := h' }) :
    wpAny (model prog w) A (call (.type "zip") [.ref a, .ref b]) Q E s := by
  refine callType_new F.called_zip (by decide) (F.typeCall_zip_2 _ _) (F.newCall_zip_2 _ _) (fun obj => F.args_object_init_3 obj _ _) F.entry_zip_new (meets_zn a b xs ys) ⟨ha, hb, ?_⟩
  have n1 : (zn1 s.heap a).objs.size = s.heap.objs.size + 1 := by rw [Heap.size_push]
  have n2 : (zn2 s.heap a b).objs.size = s.heap.objs.size + 2 := by rw [Heap.size_push, n1]
  have n3 : (zn3 s.heap a b).objs.size = s.heap.objs.size + 3 := by rw [Heap.size_push, n2]
  have n4 : (zn4 s.heap a b).objs.size = s.heap.objs.size + 4 := by rw [Heap.size_push, n3]
  have k45 : ∀ {c o}, (zn4 s.heap a b).get? c = some o → (zn5 s.heap a b).get? c = some o := fun e => Heap.get?_push_of_some _ e
  have k35 : ∀ {c o}, (zn3 s.heap a b).get? c = some o → (zn5 s.heap a b).get? c = some o := fun e => k45 (Heap.get?_push_of_some _ e)
  have k25 : ∀ {c o}, (zn2 s.heap a b).get? c = some o → (zn5 s.heap a b).get? c = some o := fun e => k35 (Heap.get?_push_of_some _ e)
  have k15 : ∀ {c o}, (zn1 s.heap a).get? c = some o → (zn5 s.heap a b).get? c = some o := fun e => k25 (Heap.get?_push_of_some _ e)
  have o5 : (zn5 s.heap a b).get? (zn4 s.heap a b).objs.size = some _ := Heap.get?_push_size _ rfl
  have o4 := k45 (c := (zn3 s.heap a b).objs.size) (Heap.get?_push_size _ rfl)
  have o3 := k35 (c := (zn2 s.heap a b).objs.size) (Heap.get?_push_size _ rfl)
  have o2 := k25 (c := (zn1 s.heap a).objs.size) (Heap.get?_push_size _ rfl)
  have o1 := k15 (c := s.heap.objs.size) (Heap.get?_push_size _ rfl)
  show _ ∧ _
  rw [n2, n3, n4] at o5
  rw [n3] at o4
  rw [n1, n2] at o3
  rw [n1] at o2
  rw [n4]
  exact ⟨⟨_, o5, rfl⟩, go _ o5 o3 o4 ⟨_, o1, rfl, rfl⟩ ⟨_, o2, rfl, rfl⟩ fun c o x => k15 (Heap.get?_push_of_some _ x)⟩
end
def iZipN (K : PySem.W.Frag) (ta : TA) : TI := fun σ H R => ta σ H fun vs H1 => ∃ a b xs ys, vs = [.ref a, .ref b] ∧ SqT K H1 a xs ∧ SqL K H1 b ys ∧ R (ItN K a b) H1
theorem pi_zipN {X : Cx} {e e2 : Expr} {ta : TA} {p pos tpos : Pos} {elts : List Expr} {kk : Nat} (hg : Gl X "zip") (hm : X.mg "zip" = none) (ha : PA X [e, e2] ta)
    (hs : starEach [e, e2] X.env = (false, eval e X.env) :: starEach [e2] X.env := by rfl) (hpl : (backTo pos (starEach [e2] X.env)).any (·.1) = false := by rfl) :
    PI X (.Tuple elts kk tpos) (.Call (.Name "zip" p) [e, e2] [] pos) (iZipN X.K ta) := by
  refine ⟨fun pins s σ H R I h => ?_⟩
  refine Call_ (ld_blt I hg hm PyProof.Rows.boot_zip (PyProof.Rows.callWith_type1 (thn (ha.run pos pins s σ H _ I h) fun us s1 z => ?_) hs hpl))
  obtain ⟨vs, H1, I1, r1, a, b, xs, ys, ex, hqx, hqy, q⟩ := z
  subst ex
  obtain rfl : us = [.ref a, .ref b] := by
    cases r1 with
    | cons r rr =>
      cases rr with
      | cons r' rr =>
        cases rr
        cases r
        cases r'
        rfl
  obtain ⟨its, rv, pl, _⟩ := I1.tuple hqx
  obtain ⟨its2, rv2, pt, _⟩ := I1.list hqy
  have lta : a < s1.heap.objs.size := by
    obtain ⟨o, ho, _⟩ := id pl
    exact Heap.lt_size ho
  refine call_zn (show s1.heap.IsTuple a its.toArray from pl) pt.isList fun h' hz hTI hTO t1 t2 hk => wpAny_pyIter_zip hz ?_
  have I2 : Inv X pins σ H1 { s1 with heap := h' } := I1.kept (t' := s1.toks) hk
  refine ⟨s1.heap.objs.size + 4, [s1.heap.objs.size + 4, s1.heap.objs.size + 2, s1.heap.objs.size + 3, s1.heap.objs.size, s1.heap.objs.size + 1], _, _, H1, rfl, I2, turn_n (PySem.W.ktu_apart s1.heap.objs.size a b lta pt.lt), ⟨hz, hTI, ⟨_, _, hTO⟩, t1, t2⟩, fun c hcm => ?_, q⟩
  have le : s1.heap.objs.size ≤ c := by
    simp only [List.mem_cons, List.not_mem_nil, or_false] at hcm
    rcases hcm with rfl | rfl | rfl | rfl | rfl <;> omega
  exact I1.fpOk le (I1.hok.fresh le)
/-- [e for x, y in zip(l, t)] -/
theorem lc_zipN {K : PySem.W.Frag} {a b : Addr} {xs ys : List V} {g : TG} {tt : TT} {te : TE} {vs : List Nat} {σ : L2.St} {H1 : Hp} {D : Addr} {Qd : Hp → Prop} (hl : xs.length = ys.length) (Pv : Nat → Hp → Prop) (h0 : Pv 0 (upd H1 D (.lst [])))
    (hq : ∀ i G, i ≤ xs.length → Pv i G → SqT K G a xs ∧ SqL K G b ys)
    (hs : ∀ (i : Nat) (x y : V) (T : Addr) (G : Hp), xs[i]? = some x → ys[i]? = some y → Pv i G → G T = none → g (.ref T) (wipe σ vs) (upd G T (.tup [x, y])) fun σ2 H2 => wipe σ2 vs = wipe σ vs ∧ tt σ2 H2 fun b H3 =>
      if b = true then te σ2 H3 fun y H4 => ∃ zs, H4 D = some (.lst zs) ∧ zs.length < sizeLine ∧ Pv (i + 1) (upd H4 D (.lst (zs ++ [y]))) else Pv (i + 1) H3) (hd : ∀ G, Pv xs.length G → Qd G) :
    ∃ W : Nat → Nat → Hp → Prop, (∃ m, W 0 m (upd H1 D (.lst []))) ∧ ∀ i m H, W i m H → ((ItN K a b).stop i H ∧ Qd H) ∨ ((ItN K a b).go i H ∧ ∃ Nx : Hp → Prop, (∀ H', Nx H' → ∃ m', m' < m ∧ W (i + 1) m' H') ∧ ∀ x H', (ItN K a b).yld i H x H' →
      g x (wipe σ vs) H' fun σ2 H2 => wipe σ2 vs = wipe σ vs ∧ tt σ2 H2 fun b H3 => if b = true then te σ2 H3 fun y H4 => ∃ zs, H4 D = some (.lst zs) ∧ zs.length < sizeLine ∧ Nx (upd H4 D (.lst (zs ++ [y]))) else Nx H3) := by
  refine ⟨fun i m H => m = xs.length - i ∧ i ≤ xs.length ∧ Pv i H, ⟨xs.length, by simp, Nat.zero_le _, h0⟩, fun i m H hw => ?_⟩
  obtain ⟨rfl, hi, p⟩ := hw
  obtain ⟨qx, qy⟩ := hq i H hi p
  by_cases lt : i < xs.length
  · refine .inr ⟨⟨xs, ys, xs[i], ys[i], qx, qy, List.getElem?_eq_getElem lt, List.getElem?_eq_getElem (by omega)⟩, Pv (i + 1), fun H' p' => ⟨xs.length - (i + 1), by omega, rfl, lt, p'⟩, fun v H' y => ?_⟩
    obtain ⟨T, x, y, rfl, nT, rfl, e1, e2⟩ := y
    exact hs i x y T H (e1 xs qx) (e2 ys qy) p nT
  · have e : i = xs.length := by omega
    subst e
    exact .inl ⟨⟨xs, ys, qx, qy, rfl, hl.symm⟩, hd H p⟩
end KX

set_option maxRecDepth 100000
set_option maxHeartbeats 4000000
/-! Ex33: zip of three lists -/
namespace KX
open PySem PySem.Spec PyProof.Rows L2
def It3 (K : PySem.W.Frag) (a b c : Addr) : It :=
  ⟨fun i H => ∃ (xs ys us : List V) (x y u : V), SqL K H a xs ∧ SqL K H b ys ∧ SqL K H c us ∧ xs[i]? = some x ∧ ys[i]? = some y ∧ us[i]? = some u,
    fun i H v G => ∃ T x y u, v = .ref T ∧ H T = none ∧ G = upd H T (.tup [x, y, u]) ∧ (∀ xs, SqL K H a xs → xs[i]? = some x) ∧ (∀ ys, SqL K H b ys → ys[i]? = some y) ∧ ∀ us, SqL K H c us → us[i]? = some u,
    fun i H => ∃ xs ys us : List V, SqL K H a xs ∧ SqL K H b ys ∧ SqL K H c us ∧ xs.length = i ∧ ys.length = i ∧ us.length = i⟩
structure Ap3 (z TI TO i1 i2 i3 a b c : Addr) : Prop where
  s : ZipSep3 z TI TO i1 i2 i3 [i1, a] [i2, b] [i3, c]
  la : a ≠ i1
  lb : b ≠ i2
  lc : c ≠ i3
theorem turn_3 {P : Program} {w : World} {K : PySem.W.Frag} {elts : List Expr} {kk : Nat} {tpos : Pos} {a b c z TI TO i1 i2 i3 : Addr} (D : Ap3 z TI TO i1 i2 i3 a b c) :
    Turn P w K (.Tuple elts kk tpos) (It3 K a b c) [z, TI, TO, i1, i2, i3] z (fun i h => IsZip h z TI TO .none ∧ IsTupOf3 h TI (.ref i1) (.ref i2) (.ref i3) ∧ (∃ x y u, IsTupOf3 h TO x y u) ∧ h.IsListIter i1 a i ∧ h.IsListIter i2 b i ∧ h.IsListIter i3 c i) where
  mem := by simp
  obj := fun i h st e hc => by
    obtain ⟨hz, hTI, ⟨x, y, u, hTO⟩, ⟨o1, e1, _, d1⟩, ⟨o2, e2, _, d2⟩, ⟨o3, e3, _, d3⟩⟩ := st
    simp only [List.mem_cons, List.not_mem_nil, or_false] at hc
    rcases hc with rfl | rfl | rfl | rfl | rfl | rfl
    · exact ⟨_, hz, fun v q => nomatch q⟩
    · exact ⟨_, hTI, fun v q => nomatch q⟩
    · exact ⟨_, hTO, fun v q => nomatch q⟩
    · exact ⟨o1, e1, fun v q => by rw [d1] at q; cases q⟩
    · exact ⟨o2, e2, fun v q => by rw [d2] at q; cases q⟩
    · exact ⟨o3, e3, fun v q => by rw [d3] at q; cases q⟩
  keep := fun i h h' st k => by
    obtain ⟨hz, hTI, ⟨x, y, u, hTO⟩, t1, t2, t3⟩ := st
    exact ⟨k z (by simp) _ hz, k TI (by simp) _ hTI, ⟨x, y, u, k TO (by simp) _ hTO⟩, t1.at fun o e => k i1 (by simp) o e, t2.at fun o q => k i2 (by simp) o q, t3.at fun o q => k i3 (by simp) o q⟩
  item := by
    intro X hP hw hK hc i pins s σ H E I hf st hg
    subst hP hw hK
    obtain ⟨hz, hTI, ⟨x0, y0, u0, hTO⟩, t1, t2, t3⟩ := st
    obtain ⟨xs, ys, us, x, y, u, hqx, hqy, hqu, hx, hy, hu⟩ := hg
    obtain ⟨it1, rv1, p1, _⟩ := I.list hqx
    obtain ⟨it2, rv2, p2, _⟩ := I.list hqy
    obtain ⟨it3, rv3, p3, _⟩ := I.list hqu
    obtain ⟨a1, ha1, ra1⟩ := rv1.get hx
    obtain ⟨a2, ha2, ra2⟩ := rv2.get hy
    obtain ⟨a3, ha3, ra3⟩ := rv3.get hu
    have zl : z < s.heap.objs.size := Heap.lt_size hz
    have hh : X.A.in1.handled = none := I.ok.hd hc
    have l1 : i < it1.toArray.size := by simpa using (List.getElem?_eq_some_iff.mp ha1).1
    have l2 : i < it2.toArray.size := by simpa using (List.getElem?_eq_some_iff.mp ha2).1
    have l3 : i < it3.toArray.size := by simpa using (List.getElem?_eq_some_iff.mp ha3).1
    refine wpAny_pyNext_zipD3_item D.s (Draws.list hh i1 a D.la it1.toArray) (Draws.list hh i2 b D.lb it2.toArray) (Draws.list hh i3 c D.lc it3.toArray) hz hTI hTO ⟨t1, p1.isList⟩ ⟨t2, p2.isList⟩ ⟨t3, p3.isList⟩ l1 l2 l3 fun x1 x2 x3 h' tk q1 q2 q3 z' TO' s1' s2' s3' hT hsz hk => ?_
    have e1 : x1 = a1 := Option.some.inj (q1.symm.trans (by simpa using ha1))
    have e2 : x2 = a2 := Option.some.inj (q2.symm.trans (by simpa using ha2))
    have e3 : x3 = a3 := Option.some.inj (q3.symm.trans (by simpa using ha3))
    subst e1 e2 e3
    refine ⟨_, rfl, wpAny_letOwnedTupleGo_zip (s := { s with heap := h', toks := tk }) z' fun h'' z'' sb => ?_⟩
    have hT2 : h''.get? s.heap.objs.size = some { cls := .type "tuple", data := .seq #[x1, x2, x3] } := (sb.2 _ (Nat.ne_of_gt zl)).trans hT
    have new : ObjOk X.prog X.w (upd H s.heap.objs.size (.tup [x, y, u])) h'' s.heap.objs.size (.tup [x, y, u]) := ⟨by show 3 ≤ sizeLine; decide, [x1, x2, x3], .cons ra1 (.cons ra2 (.cons ra3 .nil)), ⟨_, hT2, rfl, _, rfl⟩⟩
    have moved : ∀ e o, e ∉ [z, TI, TO, i1, i2, i3] → s.heap.get? e = some o → h''.get? e = some o := fun e o hb q => by
      simp only [List.mem_cons, List.not_mem_nil, or_false, not_or] at hb
      exact (sb.2 e hb.1).trans (hk e o hb.1 hb.2.2.1 hb.2.2.2.1 hb.2.2.2.2.1 hb.2.2.2.2.2 q)
    have I1 : Inv X pins σ (upd H s.heap.objs.size (.tup [x, y, u])) { s with heap := h'', toks := tk } := I.turnedNew (t' := tk) (ch := [z, TI, TO, i1, i2, i3]) moved hf (Nat.le_refl _) new
    have i1z : i1 ≠ z := D.s.zi1.symm
    have i2z : i2 ≠ z := D.s.zi2.symm
    have i3z : i3 ≠ z := D.s.zi3.symm
    refine ⟨.ref s.heap.objs.size, _, I1, rfl, ⟨_, x, y, u, rfl, I.hok.fresh (Nat.le_refl _), rfl, fun l hl => by rw [I.list_inj hl hqx]; exact hx, fun l hl => by rw [I.list_inj hl hqy]; exact hy, fun l hl => by rw [I.list_inj hl hqu]; exact hu⟩,
      ⟨z'', (sb.2 _ D.s.TIz).trans (hk _ _ D.s.TIz D.s.TITO D.s.TIi1 D.s.TIi2 D.s.TIi3 hTI), ⟨x1, x2, x3, (sb.2 _ D.s.TOz).trans TO'⟩, s1'.1.at fun o q => (sb.2 _ i1z).trans q, s2'.1.at fun o q => (sb.2 _ i2z).trans q, s3'.1.at fun o q => (sb.2 _ i3z).trans q⟩, fun e hcm => ?_⟩
    have lt : e < s.heap.objs.size := by
      simp only [List.mem_cons, List.not_mem_nil, or_false] at hcm
      rcases hcm with rfl | rfl | rfl | rfl | rfl | rfl
      · exact zl
      · exact Heap.lt_size hTI
      · exact Heap.lt_size hTO
      · obtain ⟨_, q, _⟩ := t1; exact Heap.lt_size q
      · obtain ⟨_, q, _⟩ := t2; exact Heap.lt_size q
      · obtain ⟨_, q, _⟩ := t3; exact Heap.lt_size q
    rw [upd_ne (Nat.ne_of_lt lt)]
    exact (hf e hcm).1
  done := by
    intro X hP hw hK hc i pins s σ H E I hf st hg
    subst hP hw hK
    obtain ⟨hz, hTI, ⟨x0, y0, u0, hTO⟩, t1, t2, t3⟩ := st
    obtain ⟨xs, ys, us, hqx, hqy, hqu, e1, e2, e3⟩ := hg
    obtain ⟨it1, rv1, p1, _⟩ := I.list hqx
    obtain ⟨it2, rv2, p2, _⟩ := I.list hqy
    obtain ⟨it3, rv3, p3, _⟩ := I.list hqu
    have l1 := rv1.length
    have l2 := rv2.length
    have l3 := rv3.length
    have hh : X.A.in1.handled = none := I.ok.hd hc
    have s1 : it1.toArray.size = i := by simp; omega
    have s2 : it2.toArray.size = i := by simp; omega
    have s3 : it3.toArray.size = i := by simp; omega
    refine wpAny_pyNext_zipD3_end D.s (Draws.list hh i1 a D.la it1.toArray) (Draws.list hh i2 b D.lb it2.toArray) (Draws.list hh i3 c D.lc it3.toArray) hz hTI hTO ⟨t1, p1.isList⟩ ⟨t2, p2.isList⟩ ⟨t3, p3.isList⟩ (by omega) (by omega) (by omega) (.inl s1.symm) fun h' tk hk => ⟨rfl, ?_⟩
    refine I.turnedL (t' := tk) (ch := [z, TI, TO, i1, i2, i3]) (fun e o hb q => ?_) hf
    simp only [List.mem_cons, List.not_mem_nil, or_false, not_or] at hb
    exact hk e o hb.1 hb.2.2.1 hb.2.2.2.1 hb.2.2.2.2.1 hb.2.2.2.2.2 q
  self := fun A i s Q E st h => wpAny_pyIter_zip st.1 h
def iZip3 (K : PySem.W.Frag) (ta : TA) : TI := fun σ H R => ta σ H fun vs H1 => ∃ a b c xs ys us, vs = [.ref a, .ref b, .ref c] ∧ SqL K H1 a xs ∧ SqL K H1 b ys ∧ SqL K H1 c us ∧ R (It3 K a b c) H1
theorem pi_zip3 {X : Cx} {e e2 e3 : Expr} {ta : TA} {p pos tpos : Pos} {elts : List Expr} {kk : Nat} (hg : Gl X "zip") (hm : X.mg "zip" = none) (ha : PA X [e, e2, e3] ta)
    (hs : starEach [e, e2, e3] X.env = (false, eval e X.env) :: starEach [e2, e3] X.env := by rfl) (hpl : (backTo pos (starEach [e2, e3] X.env)).any (·.1) = false := by rfl) :
    PI X (.Tuple elts kk tpos) (.Call (.Name "zip" p) [e, e2, e3] [] pos) (iZip3 X.K ta) := by
  refine ⟨fun pins s σ H R I h => ?_⟩
  refine Call_ (ld_blt I hg hm PyProof.Rows.boot_zip (PyProof.Rows.callWith_type1 (thn (ha.run pos pins s σ H _ I h) fun us s1 z => ?_) hs hpl))
  obtain ⟨vs, H1, I1, r1, a, b, c, xs, ys, us3, ex, hqx, hqy, hqu, q⟩ := z
  subst ex
  obtain rfl : us = [.ref a, .ref b, .ref c] := by
    cases r1 with
    | cons r rr =>
      cases rr with
      | cons r' rr =>
        cases rr with
        | cons r'' rr =>
          cases rr
          cases r
          cases r'
          cases r''
          rfl
  obtain ⟨it1, rv1, p1, _⟩ := I1.list hqx
  obtain ⟨it2, rv2, p2, _⟩ := I1.list hqy
  obtain ⟨it3, rv3, p3, _⟩ := I1.list hqu
  have la := p1.lt
  have lb := p2.lt
  have lc := p3.lt
  refine zip_begins3 (begins_list a it1.toArray) (begins_list b it2.toArray) (begins_list c it3.toArray) p1.isList p2.isList p3.isList fun h' hz hTI hTO g1 g2 g3 hsz hk => wpAny_pyIter_zip hz ?_
  have I2 : Inv X pins σ H1 { s1 with heap := h' } := I1.kept (t' := s1.toks) hk
  have ap : Ap3 (s1.heap.objs.size + 5) (s1.heap.objs.size + 3) (s1.heap.objs.size + 4) s1.heap.objs.size (s1.heap.objs.size + 1) (s1.heap.objs.size + 2) a b c :=
    ⟨zip_sep3 (fp1 := [a]) (fp2 := [b]) (fp3 := [c]) (fun d hd => by rw [List.mem_singleton.mp hd]; exact la) (fun d hd => by rw [List.mem_singleton.mp hd]; exact lb) (fun d hd => by rw [List.mem_singleton.mp hd]; exact lc), Nat.ne_of_lt la, Nat.ne_of_lt (Nat.lt_succ_of_lt lb), Nat.ne_of_lt (Nat.lt_succ_of_lt (Nat.lt_succ_of_lt lc))⟩
  refine ⟨s1.heap.objs.size + 5, [s1.heap.objs.size + 5, s1.heap.objs.size + 3, s1.heap.objs.size + 4, s1.heap.objs.size, s1.heap.objs.size + 1, s1.heap.objs.size + 2], _, _, H1, rfl, I2, turn_3 ap, ⟨hz, hTI, ⟨_, _, _, hTO⟩, ⟨_, g1, rfl, rfl⟩, ⟨_, g2, rfl, rfl⟩, ⟨_, g3, rfl, rfl⟩⟩, fun d hcm => ?_, q⟩
  have le : s1.heap.objs.size ≤ d := by
    simp only [List.mem_cons, List.not_mem_nil, or_false] at hcm
    rcases hcm with rfl | rfl | rfl | rfl | rfl | rfl <;> omega
  exact I1.fpOk le (I1.hok.fresh le)
/-- [e for x, y, u in zip(l, m, n)] -/
theorem lc_zip3 {K : PySem.W.Frag} {a b c : Addr} {xs ys us : List V} {g : TG} {tt : TT} {te : TE} {vs : List Nat} {σ : L2.St} {F : Hp} {D : Addr} {Fin : Hp → Prop} (l1 : xs.length = ys.length) (l2 : us.length = ys.length) (Pv : Nat → Hp → Prop) (base : Pv 0 (upd F D (.lst [])))
    (stays : ∀ i G, i ≤ ys.length → Pv i G → SqL K G a xs ∧ SqL K G b ys ∧ SqL K G c us)
    (step : ∀ (i : Nat) (x y u : V) (T : Addr) (G : Hp), xs[i]? = some x → ys[i]? = some y → us[i]? = some u → Pv i G → G T = none → g (.ref T) (wipe σ vs) (upd G T (.tup [x, y, u])) fun σ2 G2 => wipe σ2 vs = wipe σ vs ∧ tt σ2 G2 fun q G3 =>
      if q = true then te σ2 G3 fun v G4 => ∃ ws, G4 D = some (.lst ws) ∧ ws.length < sizeLine ∧ Pv (i + 1) (upd G4 D (.lst (ws ++ [v]))) else Pv (i + 1) G3) (last : ∀ G, Pv ys.length G → Fin G) :
    ∃ W : Nat → Nat → Hp → Prop, (∃ m, W 0 m (upd F D (.lst []))) ∧ ∀ i m G, W i m G → ((It3 K a b c).stop i G ∧ Fin G) ∨ ((It3 K a b c).go i G ∧ ∃ Nx : Hp → Prop, (∀ G', Nx G' → ∃ m', m' < m ∧ W (i + 1) m' G') ∧ ∀ x G', (It3 K a b c).yld i G x G' →
      g x (wipe σ vs) G' fun σ2 G2 => wipe σ2 vs = wipe σ vs ∧ tt σ2 G2 fun q G3 => if q = true then te σ2 G3 fun v G4 => ∃ ws, G4 D = some (.lst ws) ∧ ws.length < sizeLine ∧ Nx (upd G4 D (.lst (ws ++ [v]))) else Nx G3) := by
  refine ⟨fun i m G => m = ys.length - i ∧ i ≤ ys.length ∧ Pv i G, ⟨ys.length, by simp, Nat.zero_le _, base⟩, fun i m G hw => ?_⟩
  obtain ⟨rfl, hi, p⟩ := hw
  obtain ⟨q1, q2, q3⟩ := stays i G hi p
  by_cases lt : i < ys.length
  · refine .inr ⟨⟨xs, ys, us, xs[i], ys[i], us[i], q1, q2, q3, List.getElem?_eq_getElem (by omega), List.getElem?_eq_getElem lt, List.getElem?_eq_getElem (by omega)⟩, Pv (i + 1), fun G' p' => ⟨ys.length - (i + 1), by omega, rfl, lt, p'⟩, fun v G' yl => ?_⟩
    obtain ⟨T, x, y, u, rfl, nT, rfl, e1, e2, e3⟩ := yl
    exact step i x y u T G (e1 xs q1) (e2 ys q2) (e3 us q3) p nT
  · have e : i = ys.length := by omega
    subst e
    exact .inl ⟨⟨xs, ys, us, q1, q2, q3, l1, rfl, l2⟩, last G p⟩
end KX

set_option maxRecDepth 100000
set_option maxHeartbeats 4000000
/-! Ex34: what is told is locked: for k, v in f(..).items() -/
namespace KX
open PySem PySem.Spec PyProof.Rows L2
def tFrz (t : TE) : TE := fun σ H Q => t σ H fun x H1 => ∃ d u, x = .ref d ∧ H1 d = some u ∧ Mut (some u) ∧ ∀ od, Q x (upd H1 d (.frz od u))
theorem pe_frz {X : Cx} {e : PySem.Expr} {t : TE} (h : PE X e t) : PE X e (tFrz t) := ⟨fun pins s σ H Q I z => thn (h.run pins s σ H _ I z) fun u s' q => by
  obtain ⟨v, H', I', r, d, w, rfl, e1, m, k⟩ := q
  obtain ⟨od, I2⟩ := I'.lock e1 m
  exact ⟨_, _, I2, r, k od⟩⟩
end KX

set_option maxRecDepth 100000
set_option maxHeartbeats 4000000
namespace KX
open PySem PySem.Spec PyProof.Rows L2 PySem.W
/-! ### d.setdefault(t, x), the keys tuples -/
section
variable {X : Cx} {pins : List (Addr × Obj)} {σ : L2.St} {H : Hp} {s : Shared} {a b : Addr} {r : Value} {d : V} {k : List L2.Key} {A : Around} {E : Value → Shared → Prop}
theorem d_setdT {kvs : List (List L2.Key × V)} {Q : Value → Shared → Prop} (hu : A.units + 1 < cLine) (I : Inv X pins σ H s) (e : H a = some (.dT kvs)) (eb : H b = some (.tup (k.map kV))) (rd : RelV d r) (hl : kvs.length < sizeLine)
    (h1 : ∀ v, valV kvs k = some v → ∀ (w' : Value) (s' : Shared), Inv X pins σ H s' → RelV v w' → Q w' s') (h2 : valV kvs k = none → ∀ (w' : Value) (s' : Shared), Inv X pins σ (L2.upd H a (.dT (putK kvs k d))) s' → RelV d w' → Q w' s') :
    wpAny (model X.prog X.w) A (call (.builtin "dict.setdefault") [.ref a, .ref b, r]) Q E s := by
  obtain ⟨z, hd, xs, rel, dd⟩ := dt_of I.hok e
  have hz : xs.length ≤ sizeLine := by rw [← Paired.length rel]; exact z
  have q := rel.val k
  refine call_setdefault_heap (hsz := hz) (tupleKind_room_in1 hu) (key_of I.hok eb) hd dd (fun p hp => ?_) fun hn h' dd' hs => ?_
  · rw [hp] at q
    cases q0 : valV kvs k with
    | none =>
      rw [q0] at q
      exact (show False from q).elim
    | some v0 =>
      rw [q0] at q
      exact h1 v0 q0 _ _ (I.tok _) q
  · rw [hn] at q
    cases q0 : valV kvs k with
    | some v0 =>
      rw [q0] at q
      exact (show False from q).elim
    | none =>
      have hl2 : (putK kvs k d).length ≤ sizeLine := by
        have := length_putK kvs k d
        omega
      obtain ⟨u, es, ep, hq, g2, g3, g4, _, g5⟩ := dd'
      refine h2 q0 _ _ (d_write I (by rw [e]; exact True.intro) hs ⟨u, hq⟩ ⟨hl2, hd, _, (rel.put k eb rd).keeps fun c ys ec => ?_, u, es, ep, hq, g2, g3, g4, g5⟩) rd
      rw [upd_ne (ne_of ec e (fun z => nomatch z))]
      exact ec
end
def tDSetdT (td ty tx : TE) : TE := fun σ H Q => td σ H fun x H1 => ∃ a, x = .ref a ∧ IsD H1 a ∧ ty σ H1 fun y H2 => tx σ H2 fun z H3 => ∃ (kvs : List (List L2.Key × V)) (k : List L2.Key) (b : Addr), H3 a = some (.dT kvs) ∧ y = .ref b ∧ H3 b = some (.tup (k.map kV)) ∧ kvs.length < sizeLine ∧
  (∀ v, valV kvs k = some v → Q v H3) ∧ (valV kvs k = none → Q z (L2.upd H3 a (.dT (putK kvs k z))))
section
variable {X : Cx} {o e f : Expr} {td ty tx : TE} {apos cpos : Pos}
theorem pe_dsetdT (hu : X.A.units + 1 < cLine) (ho : PE X o td) (he : PE X e ty) (hf : PE X f tx) (m : M2 X o "setdefault" apos e f cpos) : PE X (.Call (.Attribute o "setdefault" apos) [e, f] [] cpos) (tDSetdT td ty tx) := by
  refine ⟨fun pins s σ H Q I h => ?_⟩
  refine wpAny_Call_method m.base m.few m.line PySem.F.plainAttrs_dict PySem.F.slot_dict_setdefault PySem.F.type_dict_setdefault (thn (ho.run pins s σ H _ I h) fun u s1 ⟨x, H1, I1, rx, a, ex, d, q1⟩ => ?_)
  subst ex
  obtain rfl : u = Value.ref a := rx
  obtain ⟨t1, t2, _⟩ := isD_at I1 d
  refine ⟨t1, t2, ?_⟩
  rw [m.trees]
  refine Calls.callWith_builtin rfl (Calls.evalArgs_plain (Calls.spliced_cons (thn (he.run pins s1 σ H1 _ I1 q1) fun iv s2 ⟨y, H2, I2, ry, q2⟩ =>
    Calls.spliced_cons (thn (hf.run pins s2 σ H2 _ I2 q2) fun fv s3 ⟨z, H3, I3, rz, kvs, k, b, ea, ey, eb, hl, q3, q4⟩ => Calls.spliced_nil ?_))))
  subst ey
  cases ry
  exact d_setdT hu I3 ea eb rz hl (fun v hv w' s4 I4 rw' => ⟨v, _, I4, rw', q3 v hv⟩) fun hn w' s4 I4 rw' => ⟨z, _, I4, rw', q4 hn⟩
end
/-! ### sorted(d), the keys pairs of numbers -/
def encP (p : Int × Int) : PyData := .tuple [.int p.1, .int p.2]
def keyP (p : Int × Int) : List L2.Key := [.inl p.1, .inl p.2]
def PtAt (H : Hp) (v : V) (p : Int × Int) : Prop := ∃ t, v = .ref t ∧ H t = some (.tup [.int p.1, .int p.2])
theorem PtAt.dx {H : Hp} {v : V} {p : Int × Int} (h : PtAt H v p) : Dx H v (encP p) := by
  obtain ⟨t, rfl, e⟩ := h
  exact .tup e (.cons (.int _) (.cons (.int _) .nil))
theorem PtAt.up {H G : Hp} {v : V} {p : Int × Int} (h : PtAt H v p) (s : Same H G) : PtAt G v p := by
  obtain ⟨t, rfl, e⟩ := h
  exact ⟨t, rfl, s _ _ e⟩
theorem key_p {p : Int × Int} : (keyP p).map kV = [V.int p.1, V.int p.2] := rfl
theorem pts_of {H : Hp} : ∀ {kvs : List (List L2.Key × V)} {ks : List (List L2.Key × Addr × Value)} {pts : List (Int × Int)}, KT H kvs ks → kvs.map (·.1) = pts.map keyP →
    ∃ bs : List (V × (Int × Int)), bs.map (·.2) = pts ∧ bs.map (·.1) = ks.map (fun x => V.ref x.2.1) ∧ ∀ b ∈ bs, PtAt H b.1 b.2
  | [], [], [], .nil, _ => ⟨[], rfl, rfl, fun b h => nomatch h⟩
  | [], _, _ :: _, _, e => by simp at e
  | _ :: _, _, [], _, e => by simp at e
  | kv :: kvs, k :: ks, p :: pts, .cons h t, e => by
    rw [List.map_cons, List.map_cons, List.cons.injEq] at e
    obtain ⟨bs, e1, e2, e3⟩ := pts_of t e.2
    refine ⟨(.ref k.2.1, p) :: bs, by rw [List.map_cons, e1], by rw [List.map_cons, List.map_cons, e2], fun b hb => ?_⟩
    rcases List.mem_cons.mp hb with rfl | hb
    · refine ⟨k.2.1, rfl, ?_⟩
      have := h.2.1
      rw [e.1, key_p] at this
      exact this
    · exact e3 b hb
theorem alike_pts (ps : List (Int × Int)) : AllAlike (ps.map encP) := AllAlike.of fun a b => by simp [encP, alike, alikeAll]
theorem sortable_pts (ps : List (Int × Int)) : Sortable (ps.map encP) := Sortable.tuples fun b => ⟨_, _, rfl⟩
def rSortP : List V → Hp → VK → Prop := fun vs H Q => ∃ (a : Addr) (kvs : List (List L2.Key × V)) (pts : List (Int × Int)), vs = [.ref a] ∧ Rd H a (.dT kvs) ∧ kvs.map (·.1) = pts.map keyP ∧
  ∀ p (bs : List (V × (Int × Int))), H p = none → bs.map (·.2) = pts → (∀ b ∈ bs, PtAt H b.1 b.2) → Q (.ref p) (L2.upd H p (.lst ((bs.mergeSort (dataLe false fun b => encP b.2)).map (·.1))))
theorem cr_sortP {X : Cx} {k : Nat} (hcalm : X.calm = true) (hr : Room k X.A) : CallR X (.builtin "sorted") rSortP := by
  intro pins s σ H vs us Q I r h
  obtain ⟨a, kvs, pts, e, hS, hks, q⟩ := h
  subst e
  obtain ⟨u, rfl, ru⟩ := vals1 r
  cases ru
  obtain ⟨z, lo, ks, pr, o, es, ep, ho, hx, hdt, he, hn⟩ := (show ObjOk X.prog X.w H s.heap a (.dT kvs) from hS.ok I.hok)
  have l1 : es.size = ks.length := size_of_entries he
  have l2 : kvs.length = ks.length := Paired.length pr
  obtain ⟨bs, eb1, eb2, eb3⟩ := pts_of pr hks
  have hun := hr.un
  refine call_function_entry_kw kind_sorted plain_sorted entry_sorted (args_sorted1 _) ?_
  unfold Builtin.«sorted»
  refine wpAny_bind (m := checkCount "sorted" 1 1 _) (wpAny_pure ?_)
  refine wpAny_bind (kdu_collect (A := X.A.in1) (kdl_raw lo hx hdt) (I.ok.hd hcalm) ho (by omega) fun h1 tk acc kp it => ?_)
  have ea : acc.toList = ks.map fun x => Value.ref x.2.1 := by
    have hl : acc.toList.length = ks.length := by rw [Array.length_toList, it.1]; exact l1
    apply List.ext_getElem?
    intro j
    rw [List.getElem?_map]
    cases hj : acc.toList[j]? with
    | none =>
      have h1 := List.getElem?_eq_none_iff.mp hj
      rw [List.getElem?_eq_none (by omega)]
      all_goals rfl
    | some v =>
      obtain ⟨en, hen, hv⟩ := it.2 j v (by rw [← Array.getElem?_toList]; exact hj)
      have qe := entry_at he j
      rw [hen] at qe
      cases hb : ks[j]? with
      | none =>
        rw [hb] at qe
        exact nomatch (show some en = none from qe)
      | some b =>
        rw [hb] at qe
        have e2 : en = entryOfKey (tupleKind (mixKind X.prog X.w)) b := Option.some.inj qe
        rw [hv, e2]
        all_goals rfl
  have lb : bs.length = ks.length := by
    have := congrArg List.length eb2
    rwa [List.length_map, List.length_map] at this
  have lpl : acc.toList.length = bs.length := by rw [ea, List.length_map, lb]
  have hlen : acc.toList.length ≤ sizeLine := by omega
  have J : Inv X pins σ H { s with heap := h1, toks := tk } := I.kept kp
  have at_ : ∀ (i : Nat) (u : Value) (b : V × (Int × Int)), acc.toList[i]? = some u → bs[i]? = some b → RelV b.1 u := fun i u b e f => by
    have g1 : (bs.map (·.1))[i]? = some b.1 := by rw [List.getElem?_map, f]; rfl
    rw [eb2, List.getElem?_map] at g1
    rw [ea, List.getElem?_map] at e
    cases hk : ks[i]? with
    | none => rw [hk] at e; cases e
    | some x =>
      rw [hk] at e g1
      have e1 : Value.ref x.2.1 = u := Option.some.inj e
      have e2 : V.ref x.2.1 = b.1 := Option.some.inj g1
      rw [← e1, ← e2]
      exact rfl
  have er : EachIs (fun v (b : V × (Int × Int)) => ∃ as, Reads h1 v (encP b.2) as) acc.toList bs := each_pairs lpl fun i u b e f =>
    Dp.reads J (encP b.2) b.1 u (dp_dx _ _ (by simp [encP, PyData.plain, PyData.plainAll]) (eb3 b (List.mem_of_getElem? f)).dx) (at_ i u b e f)
  have eR : EachIs (fun v (b : V × (Int × Int)) => RelV b.1 v) acc.toList bs := each_pairs lpl at_
  refine wpAny_bind (wpAny_newList ?_ hlen)
  have at1 : (h1.push (seqObj "list" acc.toList.toArray 0)).get? h1.objs.size = some (seqObj "list" acc.toList.toArray 0) := Heap.get?_push_size _ rfl
  have hal : AllAlike (bs.map fun b => encP b.2) := by
    rw [show (bs.map fun b => encP b.2) = (bs.map (·.2)).map encP by rw [List.map_map]; rfl]
    exact alike_pts _
  have hk : Sortable (bs.map fun b => encP b.2) := by
    rw [show (bs.map fun b => encP b.2) = (bs.map (·.2)).map encP by rw [List.map_map]; rfl]
    exact sortable_pts _
  have hdep : ∀ b, b ∈ bs → (encP b.2).depth ≤ 50 := fun b _ => by simp [encP, PyData.depth, PyData.depthAll]
  refine wpAny_bind (wpAny_holding (wpAny_call_entry_kw slot_list_sort ⟨_, at1, rfl⟩ entry_list_sort ?body (args_list_sort _)))
  case body =>
    show wpAny (model X.prog X.w) X.A.in1.in1 (Builtin.«list.sort» ⟨[.ref h1.objs.size], []⟩) _ _ { s with heap := h1.push (seqObj "list" acc.toList.toArray 0), toks := tk }
    have er' : EachIs (fun v (b : V × (Int × Int)) => ∃ as, Reads (sortingHeap (h1.push (seqObj "list" acc.toList.toArray 0)) h1.objs.size acc.toList) v (encP b.2) as) acc.toList bs :=
      each_later (fun b o q => sortingHeap_old (Nat.ne_of_lt (Heap.lt_size q)) (Heap.get?_push_of_some _ q)) er
    refine list_sort_vals (s := { s with heap := h1.push (seqObj "list" acc.toList.toArray 0), toks := tk }) at1 (SortsAt.data (s := { s with heap := sortingHeap (h1.push (seqObj "list" acc.toList.toArray 0)) h1.objs.size acc.toList, toks := tk })
      (each_map (R := fun v d => ∃ as, Reads (sortingHeap (h1.push (seqObj "list" acc.toList.toArray 0)) h1.objs.size acc.toList) v d as) (fun b : V × (Int × Int) => encP b.2) er') hal hk (bound_map fun b hb => by have := hdep b hb; show X.A.units + 2 + (encP b.2).depth < cLine; omega)) hlen ?_
    have rel : ∀ {ws : List Value} {ps : List (V × (Int × Int))}, EachIs (fun v (b : V × (Int × Int)) => RelV b.1 v) ws ps → Vals (ps.map (·.1)) ws := by
      intro ws ps e
      induction e with
      | nil => exact .nil
      | cons h t ih => exact .cons h ih
    have fin : ∀ out : List Value, out.length = bs.length → EachIs (fun v (b : V × (Int × Int)) => RelV b.1 v) out (bs.mergeSort (dataLe false fun b => encP b.2)) →
        EP X pins σ Q (.ref h1.objs.size) { s with heap := sortedHeap (h1.push (seqObj "list" acc.toList.toArray 0)) h1.objs.size acc.toList (List.toArray out), toks := tk } := fun out hl2 he2 => by
      obtain ⟨ep2, hep⟩ := sortedHeap_at (vs := acc.toList) (out := out.toArray) at1
      have old : ∀ b o, h1.get? b = some o → (sortedHeap (h1.push (seqObj "list" acc.toList.toArray 0)) h1.objs.size acc.toList out.toArray).get? b = some o := fun b o q => by
        have lt := Heap.lt_size q
        rw [sortedHeap_old (Nat.ne_of_lt lt) (by rw [size_push']; exact Nat.lt_succ_of_lt lt)]
        exact Heap.get?_push_of_some _ q
      refine ⟨.ref h1.objs.size, _, J.laid (t' := tk) old (Nat.le_refl _) (o := .lst ((bs.mergeSort (dataLe false fun b => encP b.2)).map (·.1))) ⟨?_, out, ep2, rel he2, hep⟩, rfl, q _ bs (J.hok.fresh (Nat.le_refl _)) eb1 eb3⟩
      rw [List.length_map, List.length_mergeSort]
      omega
    exact ⟨.none, rfl, wpAny_pure ⟨_, rfl, fin _ (by rw [sortVals_length false rfl]; exact lpl) (sortVals_data false eR er' hal)⟩⟩
end KX

set_option maxRecDepth 100000
set_option maxHeartbeats 4000000
namespace KX
open PySem PySem.Spec PyProof.Rows L2 PySem.W
section
variable {X : Cx}
/-- x in l, x not in l: l a list of data, x data, no dicts -/
def rInLD (K : PySem.W.Frag) (f : Bool → Bool) : R2 := fun x y H Q => ∃ d ds, Dp K H x d ∧ Dp K H y (.list ds) ∧ d.plain = true ∧ PyData.plainAll ds = true ∧ PyData.depthAll ds ≤ 60 ∧ Q (.bl (f (ds.any fun z => PyData.eqv z d))) H
theorem op_ninLD (hu : X.A.units + 64 < cLine) : OpR X (compareOp .NotIn) (rInLD X.K not) := by
  intro pins s σ H x y v u Q I rx ry h
  obtain ⟨d, ds, hd, he, pd, pe, hm, q⟩ := h
  obtain ⟨as, r1⟩ := Dp.reads I d x v hd rx
  obtain ⟨bs, r2⟩ := Dp.reads I (.list ds) y u he ry
  exact SeqAt.notIn_list_data r2 r1 pe pd (by omega) ⟨.bl _, H, I, rfl, q⟩
/-- min(l), l a list of alike data: one of its items -/
def rMinD {β : Type} (K : PySem.W.Frag) (enc : β → PyData) : List V → Hp → VK → Prop := fun vs H Q => ∃ (a : Addr) (bs : List (V × β)), vs = [.ref a] ∧ SqL K H a (bs.map (·.1)) ∧ bs ≠ [] ∧ (∀ b ∈ bs, Dp K H b.1 (enc b.2)) ∧ (∀ b ∈ bs, (enc b.2).depth ≤ 50) ∧
  (∀ x ∈ bs, ∀ y ∈ bs, alike (enc x.2) (enc y.2) = true) ∧ (∀ x ∈ bs, enc x.2 ≠ .none) ∧ ∀ b ∈ bs, Q b.1 H
theorem call_minD {β : Type} {enc : β → PyData} {k : Nat} (hcalm : X.calm = true) (hr : Room k X.A) : CallR X (.builtin "min") (rMinD X.K enc) := by
  intro pins s σ H vs us Q I r h
  obtain ⟨a, bs, e, hS, hne, hd, hdp, hal, hnn, q⟩ := h
  subst e
  obtain ⟨u, rfl, ru⟩ := vals1 r
  cases ru
  obtain ⟨its, rv, pl, hz⟩ := I.list hS
  have hlen := rv.length
  rw [List.length_map] at hlen hz
  have hun := hr.un
  have er : EachIs (fun v (b : V × β) => ∃ as, Reads s.heap v (enc b.2) as) its bs := each_pairs (by omega) fun i u b e f => by
    obtain ⟨u', e', ru⟩ := rv.get (i := i) (x := b.1) (by rw [List.getElem?_map, f]; rfl)
    rw [e] at e'
    cases e'
    exact Dp.reads I (enc b.2) b.1 u (hd b (List.mem_of_getElem? f)) ru
  obtain ⟨as, ra⟩ := each_readsAll (fun b : V × β => enc b.2) er
  have fin : ∀ (i : Nat) (v : Value) (h' : PySem.Heap) (tk : Tok), its.toArray[i]? = some v → (∀ b o, s.heap.get? b = some o → h'.get? b = some o) → EP X pins σ Q v { s with heap := h', toks := tk } := fun i v h' tk hv kp => by
    have hv : its[i]? = some v := by simpa using hv
    have hi : i < bs.length := by
      have := (List.getElem?_eq_some_iff.mp hv).1
      omega
    obtain ⟨u', e', ru⟩ := rv.get (i := i) (x := bs[i].1) (by rw [List.getElem?_map, List.getElem?_eq_getElem hi]; rfl)
    rw [hv] at e'
    cases e'
    exact ⟨bs[i].1, H, I.kept kp, ru, q _ (List.getElem_mem hi)⟩
  cases bs with
  | nil => exact absurd rfl hne
  | cons b0 bs =>
    have hdl : PyData.depthAll (enc b0.2 :: bs.map fun b => enc b.2) ≤ 50 := by
      have gen : ∀ es : List PyData, (∀ e ∈ es, e.depth ≤ 50) → PyData.depthAll es ≤ 50 := by
        intro es
        induction es with
        | nil => intro _; simp [PyData.depthAll]
        | cons e es ih =>
          intro h
          have h1 := h e (by simp)
          have h2 := ih fun x hx => h x (by simp [hx])
          simp only [PyData.depthAll]
          omega
      refine gen _ fun e he => ?_
      rcases List.mem_cons.mp he with rfl | he
      · exact hdp b0 (by simp)
      · obtain ⟨b, hb, rfl⟩ := List.mem_map.mp he
        exact hdp b (by simp [hb])
    have mem : ∀ e ∈ enc b0.2 :: bs.map (fun b => enc b.2), ∃ b ∈ b0 :: bs, e = enc b.2 := fun e he => by
      rcases List.mem_cons.mp he with rfl | he
      · exact ⟨b0, by simp, rfl⟩
      · obtain ⟨b, hb, rfl⟩ := List.mem_map.mp he
        exact ⟨b, by simp [hb], rfl⟩
    refine min_list_data (I.ok.hd hcalm) pl.isList (vs := its.toArray) (x := enc b0.2) (xs := bs.map fun b => enc b.2) (as := as) (by simpa using ra) ⟨fun x hx y hy => ?_, fun x hx => ?_⟩ (by omega) fun i v h' tk bs' hv _ kp => fin i v h' tk hv kp
    · obtain ⟨b, hb, rfl⟩ := mem x hx
      obtain ⟨c, hc, rfl⟩ := mem y hy
      exact hal b hb c hc
    · obtain ⟨b, hb, rfl⟩ := mem x hx
      exact hnn b hb
end
end KX

set_option maxRecDepth 100000
set_option maxHeartbeats 4000000
namespace I1
open PySem PySem.Spec PyProof.Rows L2 KX
theorem betw_is {lo hi : Int} {d : PyData} (h : betw lo hi d = true) : ∃ i, d = .int i ∧ lo ≤ i ∧ i ≤ hi := by
  cases d with
  | int i =>
    have e : (decide (lo ≤ i) && decide (i ≤ hi)) = true := h
    rw [Bool.and_eq_true] at e
    exact ⟨i, rfl, of_decide_eq_true e.1, of_decide_eq_true e.2⟩
  | _ => cases h
/-! ### check_columns, check_hull -/
abbrev sCC : Stmt := topS 8
abbrev sCH : Stmt := topS 39
theorem scCC : FnScope ["width", "first", "second"] ["width", "first", "second"] (defScope sCC) := ⟨rfl, rfl, rfl, by decide +kernel, rfl, by decide +kernel, by decide +kernel⟩
theorem scCH : FnScope ["rowset", "x", "y"] ["rowset", "x", "y"] (defScope sCH) := ⟨rfl, rfl, rfl, by decide +kernel, rfl, by decide +kernel, by decide +kernel⟩
def ErV (C : Addr) (f : Str) (E : XK) (v : V) (H : Hp) : Prop := ∀ H' dd, Same H H' → H' dd = some (.xd [(f, v)]) → E (.ref C) (some dd) H'
theorem ErV.up {C : Addr} {f : Str} {E : XK} {v : V} {H G : Hp} (h : ErV C f E v H) (s : Same H G) : ErV C f E v G := fun H' dd s' e => h H' dd (s.trans s') e
structure ColE (C : Addr) (w : Int) (E : XK) (v1 : V) (d1 : PyData) (v2 : V) (d2 : PyData) (H : Hp) (K : Int → Int → Prop) : Prop where
  a : betw 0 (w - 1) d1 = false → ErV C "value" E v1 H
  b : betw 0 (w - 1) d1 = true → betw 0 (w - 1) d2 = false → ErV C "value" E v2 H
  c : ∀ i, d1 = .int i → d2 = .int i → 0 ≤ i → i < w → ErV C "value" E v2 H
  d : ∀ i j, d1 = .int i → d2 = .int j → 0 ≤ i → i < w → 0 ≤ j → j < w → i ≠ j → K i j
theorem ColE.up {C : Addr} {w : Int} {E : XK} {v1 v2 : V} {d1 d2 : PyData} {H G : Hp} {K K' : Int → Int → Prop} (h : ColE C w E v1 d1 v2 d2 H K) (s : Same H G) (k : ∀ i j, d1 = .int i → d2 = .int j → 0 ≤ i → i < w → 0 ≤ j → j < w → K i j → K' i j) : ColE C w E v1 d1 v2 d2 G K' :=
  ⟨fun e => (h.a e).up s, fun e f => (h.b e f).up s, fun i e f g1 g2 => (h.c i e f g1 g2).up s, fun i j e f a b c d n => k i j e f a b c d (h.d i j e f a b c d n)⟩
def spCC (C : Addr) : Sp := fun vs H Q E => ∃ (w : Int) (v1 : V) (d1 : PyData) (v2 : V) (d2 : PyData), vs = [.int w, v1, v2] ∧ Dx H v1 d1 ∧ Dx H v2 d2 ∧ ColE C w E v1 d1 v2 d2 H fun _ _ => ∀ H', Same H H' → Q .non H'
def spCH (RA C : Addr) : Sp := fun vs H Q E => ∃ (v : V) (d : PyData) (v1 : V) (d1 : PyData) (v2 : V) (d2 : PyData), vs = [v, v1, v2] ∧ Dx H v d ∧ SmR d ∧ Dx H v1 d1 ∧ Dx H v2 d2 ∧ (rowsetD d = false → ∀ H', Same H H' → E (.ref RA) none H') ∧
  ∀ rs, d = .tuple (rs.map encR) → RsOk rs → ColE C (widthI rs) E v1 d1 v2 d2 H fun _ _ => ∀ H', Same H H' → Q .non H'
section
variable {P : Program} {w : World} {K : PySem.W.Frag} {mg : Str → Option Value} {base : Heap} {C fI RA : Addr} {gI : FuncData}
theorem ok_cc {f fB : Addr} {fd fdB : FuncData} (B : Bl mg) (T : IN K mg C fI gI) (D : Df K mg "check_columns" sCC ["width", "first", "second"] f fd) (DB : Df K mg "check_between" sCk ["value", "low", "high"] fB fdB)
    (GB : FnOk P w K mg base (L2.CX P w) 3 fB fdB ["value", "low", "high"] (spCk C)) : FnOk P w K mg base (L2.CX P w) 4 f fd ["width", "first", "second"] (spCC C) := by
  have GI : FnOk P w K mg base CX0 1 fI gI _ (spInit C) := ok_init B T
  refine D.F.okX scCC (fun vs H Q E h => ?_) (fun cdv A outer s H vs Q E hr h => ?_)
  · obtain ⟨w, v1, d1, v2, d2, rfl, _⟩ := h
    rfl
  · obtain ⟨w, v1, d1, v2, d2, rfl, h1, h2, q⟩ := h
    refine ⟨_, pss_cons (ps_expr (pe_callS GB hr (by rfl) DB.g DB.F.kp DB.b (fun σ => passAt (takes_of rfl rfl rfl rfl) σ) (pa_cons (pv 1) (pa_cons pe_int (pa_cons (pe_op op_sub (pv 0) pe_int) pa_nil)))))
      (pss_cons (ps_expr (pe_callS GB hr (by rfl) DB.g DB.F.kp DB.b (fun σ => passAt (takes_of rfl rfl rfl rfl) σ) (pa_cons (pv 2) (pa_cons pe_int (pa_cons (pe_op op_sub (pv 0) pe_int) pa_nil)))))
      (pss_one (ps_if (pt_cmpR op_eq (pv 2) (pv 1) (nomark _)) (pss_one (ps_raise rfl (takes_of rfl rfl rfl rfl) (pmk_x T.x T.iC T.tI GI (hr.mono (by decide)) T.b pass0 (by rfl) T.g (pa_cons (pv 2) pa_nil)))) pss_nil))), ?_⟩
    refine ⟨v1, rfl, .int w, rfl, w, 1, rfl, rfl, v1, d1, 0, w - 1, rfl, h1, ?_⟩
    cases e1 : betw 0 (w - 1) d1 with
    | false =>
      rw [if_neg (by simp)]
      exact q.a e1
    | true =>
      rw [if_pos rfl]
      refine ⟨v2, rfl, .int w, rfl, w, 1, rfl, rfl, v2, d2, 0, w - 1, rfl, h2, ?_⟩
      cases e2 : betw 0 (w - 1) d2 with
      | false =>
        rw [if_neg (by simp)]
        exact q.b e1 e2
      | true =>
        rw [if_pos rfl]
        obtain ⟨i, rfl, i0, i1⟩ := betw_is e1
        obtain ⟨j, rfl, j0, j1⟩ := betw_is e2
        cases h1
        cases h2
        by_cases e : j = i
        · subst e
          refine ⟨.int j, rfl, .int j, rfl, rfl, true, by rw [decide_eq_true rfl], iteT ?_⟩
          refine ⟨.int j, rfl, by simp, fun a na => ⟨a, .int j, rfl, upd_same, fun dx ndx ne => ⟨rfl, dx, [("value", .int j)], upd_same, ?_, ?_, ?_⟩⟩⟩
          · rw [upd_ne ne, upd_same]
          · rw [upd_ne ne] at ndx
            exact ndx
          · rw [upd_ne ne] at ndx
            refine q.c j rfl rfl j0 (by omega) _ dx (fun b o e => ?_) upd_same
            rw [upd_ne (ne_of_none e ndx), del_ne (ne_of_none e na), upd_ne (ne_of_none e na), upd_ne (ne_of_none e ndx), upd_ne (ne_of_none e na)]
            exact e
        · refine ⟨.int j, rfl, .int i, rfl, rfl, false, by rw [decide_eq_false (fun z => e (V.int.inj z))], iteF ?_⟩
          exact q.d i j rfl rfl i0 (by omega) j0 (by omega) (fun z => e z.symm) _ (Same.refl H)
theorem ok_ch {k : Nat} {f fC fW : Addr} {fd fdC fdW : FuncData} (D : Df K mg "check_hull" sCH ["rowset", "x", "y"] f fd) (DC : Df K mg "check_columns" sCC ["width", "first", "second"] fC fdC) (DW : Df K mg "rowset_width" sRW ["rowset"] fW fdW)
    (GC : FnOk P w K mg base (L2.CX P w) k fC fdC ["width", "first", "second"] (spCC C)) (GW : FnOk P w K mg base (L2.CX P w) k fW fdW ["rowset"] (spOf RA fun rs x _ => x = .int (widthI rs))) : FnOk P w K mg base (L2.CX P w) (k + 1) f fd ["rowset", "x", "y"] (spCH RA C) := by
  refine D.F.okX scCH (fun vs H Q E h => ?_) (fun cdv A outer s H vs Q E hr h => ?_)
  · obtain ⟨v, d, v1, d1, v2, d2, rfl, _⟩ := h
    rfl
  · obtain ⟨v, d, v1, d1, v2, d2, rfl, hd, sm, h1, h2, qr, q⟩ := h
    refine ⟨_, pss_one (ps_expr (pe_callS GC hr (by rfl) DC.g DC.F.kp DC.b (fun σ => passAt (takes_of rfl rfl rfl rfl) σ) (pa_cons (pe_callS GW hr (by rfl) DW.g DW.F.kp DW.b (fun σ => passAt (takes_of rfl rfl rfl rfl) σ) (pa_cons (pv 0) pa_nil)) (pa_cons (pv 1) (pa_cons (pv 2) pa_nil))))), ?_⟩
    refine ⟨v, rfl, v, d, rfl, hd, sm, qr, fun rs e ok G x sG hx => ?_⟩
    subst hx
    exact ⟨v1, rfl, v2, rfl, widthI rs, v1, d1, v2, d2, rfl, h1.up sG, h2.up sG, (q rs e ok).up sG fun _ _ _ _ _ _ _ _ k G2 s2 => k G2 (sG.trans s2)⟩
end
/-! ### is_direction -/
theorem tupB_two {d : PyData} (h : tupB 2 2 d = true) : ∃ a b, d = .tuple [a, b] := by
  cases d with
  | tuple ds =>
    rw [tupB_len] at h
    have h := of_decide_eq_true h
    match ds, h with
    | [a, b], _ => exact ⟨a, b, rfl⟩
    | [], h => simp at h
    | [_], h => simp at h
    | _ :: _ :: _ :: _, h => simp at h; omega
  | _ => cases h
section
variable {P : Program} {w : World} {K : PySem.W.Frag} {mg : Str → Option Value} {base : Heap}
end
end I1

set_option maxRecDepth 100000
set_option maxHeartbeats 4000000
namespace I1
open PySem PySem.Spec PyProof.Rows L2 KX
/-! ### point_of, step_between, turn -/
abbrev sPt : Stmt := topS 40
abbrev sSb : Stmt := topS 46
abbrev sTu : Stmt := topS 45
theorem scPt : FnScope ["row", "x", "y"] ["row", "x", "y"] (defScope sPt) := ⟨rfl, rfl, rfl, by decide +kernel, rfl, by decide +kernel, by decide +kernel⟩
theorem scSb : FnScope ["row", "other", "x", "y"] ["row", "other", "x", "y"] (defScope sSb) := ⟨rfl, rfl, rfl, by decide +kernel, rfl, by decide +kernel, by decide +kernel⟩
theorem scTu : FnScope ["start", "middle", "end", "across", "along"] ["start", "middle", "end"] (defScope sTu) := ⟨rfl, rfl, rfl, by decide +kernel, rfl, by decide +kernel, by decide +kernel⟩
/-- the value of a row in a column -/
def vat (r : Rec) (i : Int) : Int := r.vals.getD i.toNat 0
def ptR (i j : Int) (r : Rec) : Int × Int := (vat r i, vat r j)
/-- a row that has the columns, its values not too great -/
structure Hc (i j : Int) (r : Rec) : Prop where
  i0 : 0 ≤ i
  i1 : i < (r.vals.length : Int)
  j0 : 0 ≤ j
  j1 : j < (r.vals.length : Int)
  v : ∀ v ∈ r.vals, -1000000000 ≤ v ∧ v ≤ 1000000000
theorem vat_at {r : Rec} {i : Int} (h0 : 0 ≤ i) (h1 : i < (r.vals.length : Int)) : atI (r.vals.map V.int) i = some (.int (vat r i)) := by
  have hl : i.toNat < r.vals.length := by omega
  have := atI_nat (xs := r.vals.map V.int) (j := i.toNat) (v := .int r.vals[i.toNat]) (by rw [List.getElem?_map, List.getElem?_eq_getElem hl]; rfl)
  rw [show ((i.toNat : Nat) : Int) = i by omega] at this
  rw [this]
  unfold vat
  rw [List.getD_eq_getElem?_getD, List.getElem?_eq_getElem hl]
  rfl
theorem vat_bd {r : Rec} {i : Int} (h0 : 0 ≤ i) (h1 : i < (r.vals.length : Int)) (hv : ∀ v ∈ r.vals, -1000000000 ≤ v ∧ v ≤ 1000000000) : -1000000000 ≤ vat r i ∧ vat r i ≤ 1000000000 := by
  have hl : i.toNat < r.vals.length := by omega
  unfold vat
  rw [List.getD_eq_getElem?_getD, List.getElem?_eq_getElem hl]
  exact hv _ (List.getElem_mem hl)
/-- a pair of numbers that is not too far -/
def Sml (p : Int × Int) : Prop := -1000000000 ≤ p.1 ∧ p.1 ≤ 1000000000 ∧ -1000000000 ≤ p.2 ∧ p.2 ≤ 1000000000
theorem Hc.sml {i j : Int} {r : Rec} (h : Hc i j r) : Sml (ptR i j r) := by
  have a := vat_bd h.i0 h.i1 h.v
  have b := vat_bd h.j0 h.j1 h.v
  exact ⟨a.1, a.2, b.1, b.2⟩
def stpR (i j : Int) (r e : Rec) : Int × Int := (vat e i - vat r i, vat e j - vat r j)
def turnI (p q r : Int × Int) : Int := (q.1 - p.1) * (r.2 - p.2) - (q.2 - p.2) * (r.1 - p.1)
def spPt : Sp := fun vs H Q _ => ∃ (v : V) (r : Rec) (i j : Int), vs = [v, .int i, .int j] ∧ Dx H v (encR r) ∧ Hc i j r ∧ ∀ H' p, Same H H' → H p = none → H' p = some (.tup [.int (ptR i j r).1, .int (ptR i j r).2]) → Q (.ref p) H'
def spSb : Sp := fun vs H Q _ => ∃ (v ov : V) (r e : Rec) (i j : Int), vs = [v, ov, .int i, .int j] ∧ Dx H v (encR r) ∧ Dx H ov (encR e) ∧ Hc i j r ∧ Hc i j e ∧ ∀ H' p, Same H H' → H p = none → H' p = some (.tup [.int (stpR i j r e).1, .int (stpR i j r e).2]) → Q (.ref p) H'
def spTu : Sp := fun vs H Q _ => ∃ (a b c : V) (p q r : Int × Int), vs = [a, b, c] ∧ PtAt H a p ∧ PtAt H b q ∧ PtAt H c r ∧ Sml p ∧ Sml q ∧ Sml r ∧ Q (.int (turnI p q r)) H
section
variable {P : Program} {w : World} {K : PySem.W.Frag} {mg : Str → Option Value} {base : Heap}
theorem ok_pt {f : Addr} {fd : FuncData} (cv : ∃ t, mg "VALUES" = some (.int 2 t)) (D : Df K mg "point_of" sPt ["row", "x", "y"] f fd) : FnOk P w K mg base CX0 1 f fd ["row", "x", "y"] spPt := by
  obtain ⟨tv, mv⟩ := cv
  refine D.F.ok scPt (fun vs H Q E h => ?_) (fun cdv A outer s H vs Q E hr h => ?_)
  · obtain ⟨v, r, i, j, rfl, _⟩ := h
    rfl
  · obtain ⟨v, r, i, j, rfl, hd, hc, q⟩ := h
    refine ⟨_, pss_one (ps_ret (pe_tup (pa_cons (pe_ix (r := rIxT K) ix_tup (pe_ix (r := rIxT K) ix_tup (pv 0) (pe_glob (v := .int 2) (by rfl) mv ⟨_, rfl⟩) (fun _ _ => rfl)) (pv 1) (fun _ _ => rfl))
      (pa_cons (pe_ix (r := rIxT K) ix_tup (pe_ix (r := rIxT K) ix_tup (pv 0) (pe_glob (v := .int 2) (by rfl) mv ⟨_, rfl⟩) (fun _ _ => rfl)) (pv 2) (fun _ _ => rfl)) pa_nil)))), ?_⟩
    obtain ⟨b, z, zs, rfl, eb, ez, ev⟩ := row_dx hd
    subst ev
    refine ⟨.ref b, rfl, b, _, 2, .ref z, rfl, rfl, .inl (.inl eb), rfl, .int i, rfl, z, _, i, _, rfl, rfl, .inl (.inl ez), vat_at hc.i0 hc.i1, ?_⟩
    refine ⟨.ref b, rfl, b, _, 2, .ref z, rfl, rfl, .inl (.inl eb), rfl, .int j, rfl, z, _, j, _, rfl, rfl, .inl (.inl ez), vat_at hc.j0 hc.j1, by show 2 ≤ sizeLine; decide, fun p np => ?_⟩
    exact q _ p (same_new np) np upd_same
theorem ok_sb {f : Addr} {fd : FuncData} (cv : ∃ t, mg "VALUES" = some (.int 2 t)) (D : Df K mg "step_between" sSb ["row", "other", "x", "y"] f fd) : FnOk P w K mg base CX0 1 f fd ["row", "other", "x", "y"] spSb := by
  obtain ⟨tv, mv⟩ := cv
  refine D.F.ok scSb (fun vs H Q E h => ?_) (fun cdv A outer s H vs Q E hr h => ?_)
  · obtain ⟨v, ov, r, e, i, j, rfl, _⟩ := h
    rfl
  · obtain ⟨v, ov, r, e, i, j, rfl, hd, he, hc, hc2, q⟩ := h
    refine ⟨_, pss_one (ps_ret (pe_tup (pa_cons (pe_op op_sub (pe_ix (r := rIxT K) ix_tup (pe_ix (r := rIxT K) ix_tup (pv 1) (pe_glob (v := .int 2) (by rfl) mv ⟨_, rfl⟩) (fun _ _ => rfl)) (pv 2) (fun _ _ => rfl)) (pe_ix (r := rIxT K) ix_tup (pe_ix (r := rIxT K) ix_tup (pv 0) (pe_glob (v := .int 2) (by rfl) mv ⟨_, rfl⟩) (fun _ _ => rfl)) (pv 2) (fun _ _ => rfl)))
      (pa_cons (pe_op op_sub (pe_ix (r := rIxT K) ix_tup (pe_ix (r := rIxT K) ix_tup (pv 1) (pe_glob (v := .int 2) (by rfl) mv ⟨_, rfl⟩) (fun _ _ => rfl)) (pv 3) (fun _ _ => rfl)) (pe_ix (r := rIxT K) ix_tup (pe_ix (r := rIxT K) ix_tup (pv 0) (pe_glob (v := .int 2) (by rfl) mv ⟨_, rfl⟩) (fun _ _ => rfl)) (pv 3) (fun _ _ => rfl))) pa_nil)))), ?_⟩
    obtain ⟨b, z, zs, rfl, eb, ez, ev⟩ := row_dx hd
    obtain ⟨c, y, ys, rfl, ec, ey, ev2⟩ := row_dx he
    subst ev ev2
    refine ⟨.ref c, rfl, c, _, 2, .ref y, rfl, rfl, .inl (.inl ec), rfl, .int i, rfl, y, _, i, _, rfl, rfl, .inl (.inl ey), vat_at hc2.i0 hc2.i1, ?_⟩
    refine ⟨.ref b, rfl, b, _, 2, .ref z, rfl, rfl, .inl (.inl eb), rfl, .int i, rfl, z, _, i, _, rfl, rfl, .inl (.inl ez), vat_at hc.i0 hc.i1, _, _, rfl, rfl, ?_⟩
    refine ⟨.ref c, rfl, c, _, 2, .ref y, rfl, rfl, .inl (.inl ec), rfl, .int j, rfl, y, _, j, _, rfl, rfl, .inl (.inl ey), vat_at hc2.j0 hc2.j1, ?_⟩
    refine ⟨.ref b, rfl, b, _, 2, .ref z, rfl, rfl, .inl (.inl eb), rfl, .int j, rfl, z, _, j, _, rfl, rfl, .inl (.inl ez), vat_at hc.j0 hc.j1, _, _, rfl, rfl, by show 2 ≤ sizeLine; decide, fun p np => ?_⟩
    exact q _ p (same_new np) np upd_same
theorem ok_tu {f : Addr} {fd : FuncData} (D : Df K mg "turn" sTu ["start", "middle", "end"] f fd) : FnOk P w K mg base CX0 1 f fd ["start", "middle", "end"] spTu := by
  refine D.F.ok scTu (fun vs H Q E h => ?_) (fun cdv A outer s H vs Q E hr h => ?_)
  · obtain ⟨a, b, c, p, q, r, rfl, _⟩ := h
    rfl
  · obtain ⟨va, vb, vc, p, q, r, rfl, ⟨a, rfl, ea⟩, ⟨b, rfl, eb⟩, ⟨c, rfl, ec⟩, hp, hq, hr2, k⟩ := h
    have nd := scTu.nd
    refine ⟨_, pss_cons (ps_set (i := 3) nd rfl (.inl rfl) (pe_op op_mul (pe_op op_sub (pe_ix ix_tup (pv 1) pe_int (fun _ _ => rfl)) (pe_ix ix_tup (pv 0) pe_int (fun _ _ => rfl))) (pe_op op_sub (pe_ix ix_tup (pv 2) pe_int (fun _ _ => rfl)) (pe_ix ix_tup (pv 0) pe_int (fun _ _ => rfl)))))
      (pss_cons (ps_set (i := 4) nd rfl (.inl rfl) (pe_op op_mul (pe_op op_sub (pe_ix ix_tup (pv 1) pe_int (fun _ _ => rfl)) (pe_ix ix_tup (pv 0) pe_int (fun _ _ => rfl))) (pe_op op_sub (pe_ix ix_tup (pv 2) pe_int (fun _ _ => rfl)) (pe_ix ix_tup (pv 0) pe_int (fun _ _ => rfl)))))
      (pss_one (ps_ret (pe_op op_sub (pv 3) (pv 4))))), ?_⟩
    obtain ⟨p1, p2, p3, p4⟩ := hp
    obtain ⟨q1, q2, q3, q4⟩ := hq
    refine ⟨.ref b, rfl, b, _, 0, .int q.1, rfl, rfl, .inl (.inl eb), rfl, .ref a, rfl, a, _, 0, .int p.1, rfl, rfl, .inl (.inl ea), rfl, _, _, rfl, rfl, ?_⟩
    refine ⟨.ref c, rfl, c, _, 1, .int r.2, rfl, rfl, .inl (.inl ec), rfl, .ref a, rfl, a, _, 1, .int p.2, rfl, rfl, .inl (.inl ea), rfl, _, _, rfl, rfl, _, _, rfl, rfl, .inl ⟨by omega, by omega⟩, ?_⟩
    refine ⟨.ref b, rfl, b, _, 1, .int q.2, rfl, rfl, .inl (.inl eb), rfl, .ref a, rfl, a, _, 1, .int p.2, rfl, rfl, .inl (.inl ea), rfl, _, _, rfl, rfl, ?_⟩
    refine ⟨.ref c, rfl, c, _, 0, .int r.1, rfl, rfl, .inl (.inl ec), rfl, .ref a, rfl, a, _, 0, .int p.1, rfl, rfl, .inl (.inl ea), rfl, _, _, rfl, rfl, _, _, rfl, rfl, .inl ⟨by omega, by omega⟩, ?_⟩
    exact ⟨_, rfl, _, rfl, _, _, rfl, rfl, k⟩
end
end I1

set_option maxRecDepth 100000
set_option maxHeartbeats 4000000
namespace I1
open PySem PySem.Spec PyProof.Rows L2 KX
/-! ### half_hull -/
abbrev sHH : Stmt := topS 44
abbrev sCo : Stmt := topS 43
theorem scHH : FnScope ["points", "way", "point"] ["points"] (defScope sHH) := ⟨rfl, rfl, rfl, by decide +kernel, rfl, by decide +kernel, by decide +kernel⟩
theorem scCo : FnScope ["points", "lower", "upper", "point"] ["points"] (defScope sCo) := ⟨rfl, rfl, rfl, by decide +kernel, rfl, by decide +kernel, by decide +kernel⟩
abbrev PV := V × (Int × Int)
def popR (r : Int × Int) : List PV → List PV
  | q :: p :: rest => if turnI p.2 q.2 r ≤ 0 then popR r (p :: rest) else q :: p :: rest
  | l => l
def halfR : List PV → List PV → List PV
  | st, [] => st
  | st, b :: bs => halfR (b :: popR b.2 st) bs
def halfH (bs : List PV) : List PV := (halfR [] bs).reverse
theorem popR_sub {r : Int × Int} : ∀ {st : List PV} {x : PV}, x ∈ popR r st → x ∈ st
  | [], x, h => by simp [popR] at h
  | [q], x, h => by simpa [popR] using h
  | q :: p :: rest, x, h => by
    unfold popR at h
    split at h
    · exact List.mem_cons_of_mem _ (popR_sub h)
    · exact h
theorem popR_len {r : Int × Int} : ∀ {st : List PV}, (popR r st).length ≤ st.length
  | [] => by simp [popR]
  | [q] => by simp [popR]
  | q :: p :: rest => by
    unfold popR
    split
    · have := popR_len (r := r) (st := p :: rest)
      simp only [List.length_cons] at this ⊢
      omega
    · exact Nat.le_refl _
theorem halfR_snoc : ∀ (bs st : List PV) (b : PV), halfR st (bs ++ [b]) = b :: popR b.2 (halfR st bs)
  | [], st, b => rfl
  | c :: bs, st, b => halfR_snoc bs _ b
theorem halfR_sub : ∀ {bs st : List PV} {x : PV}, x ∈ halfR st bs → x ∈ st ∨ x ∈ bs
  | [], st, x, h => .inl h
  | b :: bs, st, x, h => by
    rcases halfR_sub (bs := bs) (st := b :: popR b.2 st) h with h | h
    · rcases List.mem_cons.mp h with rfl | h
      · exact .inr (by simp)
      · exact .inl (popR_sub h)
    · exact .inr (by simp [h])
theorem halfR_len : ∀ {bs st : List PV}, (halfR st bs).length ≤ st.length + bs.length
  | [], st => by simp [halfR]
  | b :: bs, st => by
    have := halfR_len (bs := bs) (st := b :: popR b.2 st)
    have h2 := popR_len (r := b.2) (st := st)
    simp only [List.length_cons] at this ⊢
    unfold halfR
    omega
theorem halfH_sub {bs : List PV} {x : PV} (h : x ∈ halfH bs) : x ∈ bs := by
  rcases halfR_sub (List.mem_reverse.mp h) with h | h
  · simp at h
  · exact h
theorem halfH_len {bs : List PV} : (halfH bs).length ≤ bs.length := by
  have := halfR_len (bs := bs) (st := [])
  unfold halfH
  rw [List.length_reverse]
  simpa using this
theorem at_m1 {α : Type} {l : List α} {x : α} : atI (l ++ [x]) (-1) = some x := by
  unfold atI ixN
  rw [if_neg (by decide), List.length_append, List.length_singleton, if_pos (by omega)]
  show (l ++ [x])[((-1 : Int) + ((l.length + 1 : Nat) : Int)).toNat]? = some x
  rw [show ((-1 : Int) + ((l.length + 1 : Nat) : Int)).toNat = l.length by omega]
  simp
theorem at_m2 {α : Type} {l : List α} {x y : α} : atI (l ++ [x, y]) (-2) = some x := by
  unfold atI ixN
  rw [if_neg (by decide), List.length_append, show [x, y].length = 2 from rfl, if_pos (by omega)]
  show (l ++ [x, y])[((-2 : Int) + ((l.length + 2 : Nat) : Int)).toNat]? = some x
  rw [show ((-2 : Int) + ((l.length + 2 : Nat) : Int)).toNat = l.length by omega]
  simp
/-- points that stand in the heap -/
def Pts (H : Hp) (bs : List PV) : Prop := ∀ b ∈ bs, PtAt H b.1 b.2 ∧ Sml b.2
theorem Pts.up {H G : Hp} {bs : List PV} (h : Pts H bs) (s : Same H G) : Pts G bs := fun b hb => ⟨(h b hb).1.up s, (h b hb).2⟩
def spHH : Sp := fun vs H Q _ => ∃ (a : Addr) (bs : List PV), vs = [.ref a] ∧ H a = some (.lst (bs.map (·.1))) ∧ Pts H bs ∧ bs.length ≤ 1000 ∧ ∀ H' p, Same H H' → H p = none → H' p = some (.lst ((halfH bs).map (·.1))) → Q (.ref p) H'
section
variable {P : Program} {w : World} {K : PySem.W.Frag} {mg : Str → Option Value} {base : Heap}
theorem ok_hh {k : Nat} {f fT : Addr} {fd fdT : FuncData} (B : Bl mg) (D : Df K mg "half_hull" sHH ["points"] f fd) (DT : Df K mg "turn" sTu ["start", "middle", "end"] fT fdT) (GT : FnOk P w K mg base CX0 k fT fdT ["start", "middle", "end"] spTu) :
    FnOk P w K mg base CX0 (k + 1) f fd ["points"] spHH := by
  refine D.F.ok scHH (fun vs H Q E h => ?_) (fun cdv A outer s H vs Q E hr h => ?_)
  · obtain ⟨a, bs, rfl, _⟩ := h
    rfl
  · obtain ⟨a, bs, rfl, ea, hp, hl, q⟩ := h
    have nd := scHH.nd
    have big : (1000 : Nat) < sizeLine := by decide
    refine ⟨_, pss_cons (ps_set (i := 1) nd rfl (.inl rfl) (pe_lst pa_nil))
      (pss_cons (ps_for PassesOwn.never rfl (pi_list (pv 0)) (pg_name (i := 2) nd rfl (.inl rfl))
        (pss_cons (ps_while PassesOwn.never (PW.pt (pw_and (pt_cmpR op_gt (pe_callB call_len_seq (by rfl) B.len PySem.boot_len (pa_cons (pv 1) pa_nil)) pe_int (nomark _))
            (pw_and1 (pt_cmpR op_le (pe_call GT hr (by rfl) DT.g DT.F.kp DT.b .nil pass0 (pa_cons (pe_ix ix_list (pv 1) (pe_un un_neg pe_int) (fun _ _ => rfl)) (pa_cons (pe_ix ix_list (pv 1) (pe_un un_neg pe_int) (fun _ _ => rfl)) (pa_cons (pv 2) pa_nil)))) pe_int (nomark _)))))
          (pss_one (ps_expr (pe_bm0 PySem.F.plainAttrs_list PySem.F.slot_list_pop PySem.F.type_list_pop mt_pop (pv 1)))))
        (pss_one (ps_expr (pe_bm PySem.F.plainAttrs_list PySem.F.slot_list_append PySem.F.type_list_append mt_append (pv 1) (pa_cons (pv 2) pa_nil))))))
      (pss_one (ps_ret (pv 1)))), ?_⟩
    refine ⟨by show 0 ≤ sizeLine; omega, fun w0 nw => ⟨.ref a, rfl, a, rfl, ⟨_, .inl (.inl (same_new nw _ _ ea))⟩, ?_⟩⟩
    refine for_list (K := K) (xs := bs.map (·.1)) (fun i σ G => Same H G ∧ G w0 = some (.lst ((halfR [] (bs.take i)).reverse.map (·.1))) ∧ ∃ o : Option V, σ = [some (.ref a), some (.ref w0), o])
      ⟨same_new nw, upd_same, none, rfl⟩ (fun i σ G _ hG => .inl (.inl (hG.1 _ _ ea))) (fun i x σ G hx hG => ?_) (fun σ G hG => ?_)
    · obtain ⟨sG, eW, o, rfl⟩ := hG
      rw [List.getElem?_map] at hx
      obtain ⟨b, eb, rfl⟩ := Option.map_eq_some_iff.mp hx
      have il : i < bs.length := (List.getElem?_eq_some_iff.mp eb).1
      have hb := hp b (List.mem_of_getElem? eb)
      have e0 : halfR [] (bs.take (i + 1)) = b :: popR b.2 (halfR [] (bs.take i)) := by
        rw [List.take_add_one, eb]
        exact halfR_snoc _ _ _
      generalize hst : halfR [] (bs.take i) = st0 at eW e0
      have sub0 : ∀ y ∈ st0, y ∈ bs := fun y hy => by
        rw [← hst] at hy
        rcases halfR_sub hy with h | h
        · simp at h
        · exact List.mem_of_mem_take h
      have len0 : st0.length ≤ i := by
        rw [← hst]
        have := halfR_len (bs := bs.take i) (st := [])
        rw [List.length_take] at this
        simp at this
        omega
      refine ⟨fun m σ F => Same H F ∧ ∃ st : List PV, m = st.length ∧ st.length ≤ i ∧ σ = [some (.ref a), some (.ref w0), some b.1] ∧ F w0 = some (.lst (st.reverse.map (·.1))) ∧ popR b.2 st = popR b.2 st0 ∧ ∀ y ∈ st, y ∈ bs,
        ⟨_, sG, st0, rfl, len0, rfl, eW, rfl, sub0⟩, fun m σ F hF => ?_⟩
      obtain ⟨sF, st, rfl, lst, rfl, eF, ep, sub⟩ := hF
      have fin : popR b.2 st = st → ∀ F1 : Hp, F1 = F → (∃ l xs y, V.ref w0 = .ref l ∧ [b.1] = [y] ∧ F1 l = some (.lst xs) ∧ xs.length < sizeLine ∧ (Same H (upd F1 l (.lst (xs ++ [y]))) ∧ (upd F1 l (.lst (xs ++ [y]))) w0 = some (.lst ((halfR [] (bs.take (i + 1))).reverse.map (·.1))) ∧ ∃ o : Option V, ([some (.ref a), some (.ref w0), some b.1] : L2.St) = [some (.ref a), some (.ref w0), o])) := fun es F1 e1 => by
        subst e1
        refine ⟨w0, _, b.1, rfl, rfl, eF, by rw [List.length_map, List.length_reverse]; omega, same_at sF nw, ?_, _, rfl⟩
        rw [upd_same, e0, ← ep, es]
        simp
      have len1 : (st.reverse.map (·.1)).length = st.length := by rw [List.length_map, List.length_reverse]
      refine ⟨.ref w0, rfl, w0, _, rfl, .inl (.inl (.inl eF)), _, 1, rfl, rfl, _, rfl, ?_⟩
      rw [len1]
      match st, lst, eF, ep, sub, fin, len1 with
      | [], lst, eF, ep, sub, fin, _ =>
        refine iteF (iteF ?_)
        exact ⟨.ref w0, rfl, .inl ⟨rfl, _, .inl (.inl eF)⟩, b.1, rfl, fin (by simp [popR]) F rfl⟩
      | [q0], lst, eF, ep, sub, fin, _ =>
        refine iteF (iteF ?_)
        exact ⟨.ref w0, rfl, .inl ⟨rfl, _, .inl (.inl eF)⟩, b.1, rfl, fin (by simp [popR]) F rfl⟩
      | q0 :: p0 :: rest, lst, eF, ep, sub, fin, _ =>
        have lt : ((((q0 :: p0 :: rest).length : Nat) : Int) > 1) := by
          simp only [List.length_cons]
          omega
        rw [show decide ((((q0 :: p0 :: rest).length : Nat) : Int) > 1) = true from decide_eq_true lt]
        have h1 := hp q0 (sub q0 (by simp))
        have h2 := hp p0 (sub p0 (by simp))
        have el : ((q0 :: p0 :: rest).reverse.map (fun x : PV => x.1)) = (rest.reverse.map fun x : PV => x.1) ++ [p0.1, q0.1] := by simp
        have eF2 := eF
        rw [el] at eF2
        refine iteT ⟨.ref w0, rfl, 2, rfl, w0, _, -2, p0.1, rfl, rfl, .inl (.inl eF2), at_m2, .ref w0, rfl, 1, rfl, w0, _, -1, q0.1, rfl, rfl, .inl (.inl eF2), ?_, b.1, rfl, ?_⟩
        · rw [show (rest.reverse.map fun x : PV => x.1) ++ [p0.1, q0.1] = ((rest.reverse.map fun x : PV => x.1) ++ [p0.1]) ++ [q0.1] by simp]
          exact at_m1
        refine ⟨p0.1, q0.1, b.1, p0.2, q0.2, b.2, rfl, h2.1.up sF, h1.1.up sF, hb.1.up sF, h2.2, h1.2, hb.2, _, 0, rfl, rfl, _, rfl, ?_⟩
        by_cases le : turnI p0.2 q0.2 b.2 ≤ 0
        · rw [decide_eq_true le]
          refine iteT ⟨fun σ' G' => σ' = [some (.ref a), some (.ref w0), some b.1] ∧ Same H G' ∧ G' w0 = some (.lst ((p0 :: rest).reverse.map (·.1))), fun σ' G' hN => ?_, ?_⟩
          · obtain ⟨rfl, s', e'⟩ := hN
            refine ⟨(p0 :: rest).length, by simp, s', p0 :: rest, rfl, by simp at lst ⊢; omega, rfl, e', ?_, fun y hy => sub y (by simp at hy ⊢; right; exact hy)⟩
            rw [← ep]
            conv => rhs; unfold popR
            rw [if_pos le]
          · refine ⟨.ref w0, rfl, .inl ⟨rfl, _, .inl (.inl eF)⟩, w0, _, q0.1, rfl, rfl, eF, ?_, rfl, same_at sF nw, ?_⟩
            · simp
            · rw [upd_same, el]
              simp
        · rw [decide_eq_false le]
          refine iteF ?_
          exact ⟨.ref w0, rfl, .inl ⟨rfl, _, .inl (.inl eF)⟩, b.1, rfl, fin (by unfold popR; rw [if_neg le]) F rfl⟩
    · obtain ⟨sG, eW, o, rfl⟩ := hG
      rw [List.length_map, List.take_of_length_le (Nat.le_refl _)] at eW
      exact ⟨_, rfl, q G w0 sG nw eW⟩
end
end I1

set_option maxRecDepth 100000
set_option maxHeartbeats 4000000
namespace I1
open PySem PySem.Spec PyProof.Rows L2 KX
theorem none_same {H G : Hp} {p : Addr} (s : Same H G) (n : G p = none) : H p = none := by
  cases e : H p with
  | none => rfl
  | some o =>
    rw [s _ _ e] at n
    cases n
/-! ### corners -/
theorem eqv_pt (p q : Int × Int) : PyData.eqv (encP p) (encP q) = decide (p = q) := by
  obtain ⟨a, b⟩ := p
  obtain ⟨c, d⟩ := q
  simp only [encP, PyData.eqv, PyData.eqvAll, Prod.mk.injEq]
  by_cases h1 : a = c <;> by_cases h2 : b = d <;> simp [h1, h2]
theorem plain_pt (p : Int × Int) : (encP p).plain = true := by simp [encP, PyData.plain, PyData.plainAll]
theorem depth_pt (p : Int × Int) : (encP p).depth ≤ 50 := by simp [encP, PyData.depth, PyData.depthAll]
theorem plain_pts : ∀ ps : List (Int × Int), PyData.plainAll (ps.map encP) = true
  | [] => by simp [PyData.plainAll]
  | p :: ps => by simp [PyData.plainAll, plain_pt, plain_pts ps]
theorem depth_pts (ps : List (Int × Int)) : PyData.depthAll (ps.map encP) ≤ 50 := depthAll_le fun e he => by
  obtain ⟨p, _, rfl⟩ := List.mem_map.mp he
  exact depth_pt p
theorem dps_pts {K : PySem.W.Frag} {H : Hp} : ∀ {bs : List PV}, (∀ b ∈ bs, PtAt H b.1 b.2) → DpAll K H (bs.map (·.1)) ((bs.map (·.2)).map encP)
  | [], _ => .nil
  | b :: bs, h => .cons (dp_dx _ _ (plain_pt _) (h b (by simp)).dx) (dps_pts fun c hc => h c (by simp [hc]))
def cornL (lo up : List PV) : List PV := up.filter fun p => !decide (p.2 ∈ lo.map (·.2))
def cornR (bs : List PV) : List PV := halfH bs ++ cornL (halfH bs) (halfH bs.reverse)
theorem cornR_sub {bs : List PV} {x : PV} (h : x ∈ cornR bs) : x ∈ bs := by
  rcases List.mem_append.mp h with h | h
  · exact halfH_sub h
  · exact List.mem_reverse.mp (halfH_sub (List.mem_filter.mp h).1)
theorem cornR_len {bs : List PV} : (cornR bs).length ≤ 2 * bs.length := by
  have a := halfH_len (bs := bs)
  have b := halfH_len (bs := bs.reverse)
  have c : (cornL (halfH bs) (halfH bs.reverse)).length ≤ (halfH bs.reverse).length := List.length_filter_le _ _
  rw [List.length_reverse] at b
  unfold cornR
  rw [List.length_append]
  omega
theorem filterL_at {lo up : List PV} {i : Nat} {b : PV} (h : up[i]? = some b) : cornL lo (up.take (i + 1)) = cornL lo (up.take i) ++ (if (!decide (b.2 ∈ lo.map (·.2))) = true then [b] else []) := by
  unfold cornL
  rw [List.take_add_one, h, List.filter_append]
  by_cases z : (!decide (b.2 ∈ lo.map (·.2))) = true
  · rw [if_pos z]
    simp only [Option.toList_some, List.filter_cons, List.filter_nil]
    rw [if_pos z]
  · rw [if_neg z]
    simp only [Option.toList_some, List.filter_cons, List.filter_nil]
    rw [if_neg z]
theorem Pts.of {H : Hp} {bs cs : List PV} (h : Pts H bs) (s : ∀ c ∈ cs, c ∈ bs) : Pts H cs := fun c hc => h c (s c hc)
def spCo : Sp := fun vs H Q _ => ∃ (a : Addr) (bs : List PV), vs = [.ref a] ∧ H a = some (.lst (bs.map (·.1))) ∧ Pts H bs ∧ bs.length ≤ 400 ∧ ∀ H' p, Same H H' → H p = none → H' p = some (.lst ((cornR bs).map (·.1))) → Q (.ref p) H'
section
variable {P : Program} {w : World} {K : PySem.W.Frag} {mg : Str → Option Value} {base : Heap}
theorem ok_co {k : Nat} {f fH : Addr} {fd fdH : FuncData} (B : Bl mg) (D : Df K mg "corners" sCo ["points"] f fd) (DH : Df K mg "half_hull" sHH ["points"] fH fdH) (GH : FnOk P w K mg base CX0 k fH fdH ["points"] spHH) :
    FnOk P w K mg base CX0 (k + 1) f fd ["points"] spCo := by
  refine D.F.ok scCo (fun vs H Q E h => ?_) (fun cdv A outer s H vs Q E hr h => ?_)
  · obtain ⟨a, bs, rfl, _⟩ := h
    rfl
  · obtain ⟨a, bs, rfl, ea, hp, hl, q⟩ := h
    have nd := scCo.nd
    have big : (1000 : Nat) < sizeLine := by decide
    refine ⟨_, pss_cons (ps_set (i := 1) nd rfl (.inr rfl) (pe_call GH hr (by rfl) DH.g DH.F.kp DH.b .nil pass0 (pa_cons (pv 0) pa_nil)))
      (pss_cons (ps_set (i := 2) nd rfl (.inl rfl) (pe_call GH hr (by rfl) DH.g DH.F.kp DH.b .nil pass0 (pa_cons (pe_revL (pv 0)) pa_nil)))
      (pss_one (ps_ret (pe_op op_cat (pv 1) (pe_lc (own := [("point", 3)]) (g := gName 3) rfl nd (pi_list (pv 2)) (blkOk_by (N := ["points", "lower", "upper", "point"]) (sc := defScope sCo) (by decide +kernel)) (fun _ _ _ _ _ => pg_name (i := 3) nd rfl (Or.inl rfl))
        (fun _ _ _ _ _ => pts_one (pt_cmpR (r := rInLD K not) (op_ninLD hr.units) (pv 3) (pv 1) (by rfl))) (fun _ _ _ _ _ => pv 3)))))), ?_⟩
    refine ⟨.ref a, rfl, a, bs, rfl, ea, hp, by omega, fun H1 lo s1 nlo elo => ?_⟩
    refine ⟨.ref a, rfl, a, _, rfl, .inl (.inl (s1 _ _ ea)), fun rv nrv => ?_⟩
    have s2 := s1.trans (same_new (o := .lst (bs.map (·.1)).reverse) nrv)
    refine ⟨rv, bs.reverse, rfl, by rw [List.map_reverse]; exact upd_same, (hp.of fun c hc => List.mem_reverse.mp hc).up s2, by rw [List.length_reverse]; omega, fun H2 up s3 nup eup => ?_⟩
    have s13 : Same H H2 := s2.trans s3
    have elo := s3 _ _ (same_new (o := .lst (bs.map (·.1)).reverse) nrv _ _ elo)
    refine ⟨.ref lo, rfl, .ref up, rfl, up, rfl, ⟨_, .inl (.inl eup)⟩, fun D0 nD => ?_⟩
    have llo := halfH_len (bs := bs)
    have lup := halfH_len (bs := bs.reverse)
    rw [List.length_reverse] at lup
    have plo : Pts H2 (halfH bs) := (hp.of fun c hc => halfH_sub hc).up s13
    have pup : Pts H2 (halfH bs.reverse) := (hp.of fun c hc => List.mem_reverse.mp (halfH_sub hc)).up s13
    refine lc_list (xs := (halfH bs.reverse).map (·.1)) (fun i G => Same H2 G ∧ G D0 = some (.lst ((cornL (halfH bs) ((halfH bs.reverse).take i)).map (·.1)))) ⟨same_new nD, upd_same⟩ (fun i G _ hG => .inl (.inl (hG.1 _ _ eup))) (fun i x G hx hG => ?_) (fun G hG => ?_)
    · obtain ⟨sG, eD⟩ := hG
      rw [List.getElem?_map] at hx
      obtain ⟨b, eb, rfl⟩ := Option.map_eq_some_iff.mp hx
      have es := filterL_at (lo := halfH bs) eb
      have lle : (cornL (halfH bs) ((halfH bs.reverse).take i)).length ≤ (halfH bs.reverse).length := by
        have c := List.length_filter_le (fun p : PV => !decide (p.2 ∈ (halfH bs).map (·.2))) ((halfH bs.reverse).take i)
        rw [List.length_take] at c
        unfold cornL
        omega
      have hb := pup b (List.mem_of_getElem? eb)
      refine ⟨rfl, b.1, rfl, .ref lo, rfl, encP b.2, ((halfH bs).map (·.2)).map encP, dp_dx _ _ (plain_pt _) (hb.1.up sG).dx, .lst (.inl (.inl (sG _ _ elo))) (dps_pts fun c hc => (plo c hc).1.up sG), plain_pt _, plain_pts _, Nat.le_trans (depth_pts _) (by decide), _, rfl, ?_⟩
      have ea : ((((halfH bs).map (·.2)).map encP).any fun z => PyData.eqv z (encP b.2)) = decide (b.2 ∈ (halfH bs).map (·.2)) := by
        rw [List.any_map]
        by_cases hm : b.2 ∈ (halfH bs).map (·.2)
        · rw [decide_eq_true hm]
          exact List.any_eq_true.mpr ⟨b.2, hm, by show PyData.eqv (encP b.2) (encP b.2) = true; rw [eqv_pt]; simp⟩
        · rw [decide_eq_false hm, List.any_eq_false]
          intro z hz
          show ¬ PyData.eqv (encP z) (encP b.2) = true
          rw [eqv_pt]
          intro e
          have e := of_decide_eq_true e
          subst e
          exact hm hz
      rw [ea]
      cases ez : (!decide (b.2 ∈ (halfH bs).map (·.2))) with
      | true =>
        rw [ez, if_pos rfl] at es
        refine iteT ⟨b.1, rfl, _, eD, by rw [List.length_map]; omega, same_at sG nD, ?_⟩
        rw [upd_same, es, List.map_append]
        rfl
      | false =>
        rw [ez, if_neg (by decide), List.append_nil] at es
        exact iteF ⟨sG, by rw [es]; exact eD⟩
    · obtain ⟨sG, eD⟩ := hG
      rw [List.length_map, List.take_of_length_le (Nat.le_refl _)] at eD
      have lle : (cornL (halfH bs) (halfH bs.reverse)).length ≤ (halfH bs.reverse).length := List.length_filter_le _ _
      refine ⟨lo, D0, _, _, rfl, rfl, sG _ _ elo, eD, by rw [List.length_map, List.length_map]; omega, fun c nc => ?_⟩
      have sF := s13.trans (sG.trans (same_new (o := .lst ((halfH bs).map (·.1) ++ (cornL (halfH bs) (halfH bs.reverse)).map (·.1))) nc))
      have ncH : H c = none := none_same (s13.trans sG) nc
      exact q _ c sF ncH (by rw [upd_same]; unfold cornR; rw [List.map_append])
end
end I1

set_option maxRecDepth 100000
set_option maxHeartbeats 4000000
namespace I1
open PySem PySem.Spec PyProof.Rows L2 KX
/-! ### hull_rows -/
abbrev sHR : Stmt := topS 42
abbrev sHN : Stmt := topS 41
abbrev NHR : List Str := ["rowset", "x", "y", "first_rows", "row", "point"]
theorem scHR : FnScope NHR ["rowset", "x", "y"] (defScope sHR) := ⟨rfl, rfl, rfl, by decide +kernel, rfl, by decide +kernel, by decide +kernel⟩
theorem scHN : FnScope ["rowset", "x", "y"] ["rowset", "x", "y"] (defScope sHN) := ⟨rfl, rfl, rfl, by decide +kernel, rfl, by decide +kernel, by decide +kernel⟩
/-! ### the hull of points -/
def popP (r : Int × Int) : List (Int × Int) → List (Int × Int)
  | q :: p :: rest => if turnI p q r ≤ 0 then popP r (p :: rest) else q :: p :: rest
  | l => l
def halfS : List (Int × Int) → List (Int × Int) → List (Int × Int)
  | st, [] => st
  | st, b :: bs => halfS (b :: popP b st) bs
def halfP (l : List (Int × Int)) : List (Int × Int) := (halfS [] l).reverse
def cornP (l : List (Int × Int)) : List (Int × Int) := halfP l ++ (halfP l.reverse).filter fun p => !decide (p ∈ halfP l)
def leP (p q : Int × Int) : Bool := PySem.W.dataLe false encP p q
def hullP (pts : List (Int × Int)) : List (Int × Int) := cornP (pts.mergeSort leP)
theorem popR_map {r : Int × Int} : ∀ st : List PV, (popR r st).map (·.2) = popP r (st.map (·.2))
  | [] => rfl
  | [_] => rfl
  | q :: p :: rest => by
    rw [List.map_cons, List.map_cons]
    unfold popR popP
    by_cases h : turnI p.2 q.2 r ≤ 0
    · rw [if_pos h, if_pos h]
      exact popR_map (p :: rest)
    · rw [if_neg h, if_neg h]
      rfl
theorem halfR_map : ∀ bs st : List PV, (halfR st bs).map (·.2) = halfS (st.map (·.2)) (bs.map (·.2))
  | [], st => rfl
  | b :: bs, st => by
    show (halfR (b :: popR b.2 st) bs).map (·.2) = halfS (b.2 :: popP b.2 (st.map (·.2))) (bs.map (·.2))
    rw [halfR_map bs, List.map_cons, popR_map]
theorem halfH_map (bs : List PV) : (halfH bs).map (·.2) = halfP (bs.map (·.2)) := by
  unfold halfH halfP
  rw [List.map_reverse, halfR_map]
  rfl
theorem cornR_map (bs : List PV) : (cornR bs).map (·.2) = cornP (bs.map (·.2)) := by
  unfold cornR cornP cornL
  rw [List.map_append, halfH_map, ← List.map_reverse, ← halfH_map bs.reverse, List.filter_map]
  rfl
theorem sort_map (bs : List PV) : (bs.mergeSort (PySem.W.dataLe false fun b => encP b.2)).map (·.2) = (bs.map (·.2)).mergeSort leP :=
  List.map_mergeSort (f := fun b : PV => b.2) (r := PySem.W.dataLe false fun b : PV => encP b.2) (s := leP) (l := bs) fun a _ b _ => rfl
/-- the first rows of their points -/
def firstR (i j : Int) (acc : List Rec) (r : Rec) : List Rec := if (acc.any fun e => decide (ptR i j e = ptR i j r)) = true then acc else acc ++ [r]
def firsts (i j : Int) (rs : List Rec) : List Rec := rs.foldl (firstR i j) []
theorem firsts_at {i j : Int} {rs : List Rec} {n : Nat} {r : Rec} (h : rs[n]? = some r) : firsts i j (rs.take (n + 1)) = firstR i j (firsts i j (rs.take n)) r := by
  unfold firsts
  rw [List.take_add_one, h, List.foldl_append]
  rfl
theorem keyP_inj {p q : Int × Int} (h : keyP p = keyP q) : p = q := by
  obtain ⟨a, b⟩ := p
  obtain ⟨c, d⟩ := q
  simp [keyP] at h
  simp [h]
/-- the dict holds a row at each of its points -/
def KvR (H : Hp) (i j : Int) : List (List L2.Key × V) → List Rec → Prop := Paired fun kv r => kv.1 = keyP (ptR i j r) ∧ Dx H kv.2 (encR r)
theorem kvR_keys {H : Hp} {i j : Int} : ∀ {kvs : List (List L2.Key × V)} {rws : List Rec}, KvR H i j kvs rws → kvs.map (·.1) = (rws.map (ptR i j)).map keyP
  | [], [], .nil => rfl
  | _ :: _, _ :: _, .cons h t => by rw [List.map_cons, List.map_cons, List.map_cons, h.1, kvR_keys t]
theorem kvR_snoc {H : Hp} {i j : Int} {k : List L2.Key} {v : V} {r : Rec} (h1 : k = keyP (ptR i j r)) (h2 : Dx H v (encR r)) : ∀ {kvs : List (List L2.Key × V)} {rws : List Rec}, KvR H i j kvs rws → KvR H i j (kvs ++ [(k, v)]) (rws ++ [r])
  | [], [], .nil => .cons ⟨h1, h2⟩ .nil
  | _ :: _, _ :: _, .cons h t => .cons h (kvR_snoc h1 h2 t)
theorem kvR_get {H : Hp} {i j : Int} {p : Int × Int} : ∀ {kvs : List (List L2.Key × V)} {rws : List Rec}, KvR H i j kvs rws → p ∈ rws.map (ptR i j) → ∃ v r, valV kvs (keyP p) = some v ∧ r ∈ rws ∧ ptR i j r = p ∧ Dx H v (encR r)
  | [], [], .nil, h => by simp at h
  | kv :: kvs, r :: rws, .cons h t, hp => by
    by_cases e : ptR i j r = p
    · exact ⟨kv.2, r, valV_pos (by rw [h.1, e]), by simp, e, h.2⟩
    · rw [List.map_cons] at hp
      rcases List.mem_cons.mp hp with hp | hp
      · exact absurd hp.symm e
      · obtain ⟨v, r', e1, e2, e3, e4⟩ := kvR_get t hp
        exact ⟨v, r', by rw [valV_neg (by rw [h.1]; exact fun z => e (keyP_inj z))]; exact e1, by simp [e2], e3, e4⟩
theorem kvR_any {H : Hp} {i j : Int} {p : Int × Int} : ∀ {kvs : List (List L2.Key × V)} {rws : List Rec}, KvR H i j kvs rws → (valV kvs (keyP p)).isSome = rws.any fun e => decide (ptR i j e = p)
  | [], [], .nil => rfl
  | kv :: kvs, r :: rws, .cons h t => by
    rw [List.any_cons]
    by_cases e : ptR i j r = p
    · rw [valV_pos (by rw [h.1, e]), decide_eq_true e]
      rfl
    · rw [valV_neg (by rw [h.1]; exact fun z => e (keyP_inj z)), decide_eq_false e, kvR_any t]
      rfl
def spHR : Sp := fun vs H Q _ => ∃ (v : V) (rs : List Rec) (i j : Int), vs = [v, .int i, .int j] ∧ Dx H v (.tuple (rs.map encR)) ∧ rs.length ≤ 60 ∧ (∀ r ∈ rs, Hc i j r) ∧
  ∀ H' p ys rows, Same H H' → H' p = some (.lst ys) → Dxs H' ys (List.map encR rows) → rows.length ≤ 120 → rows.map (ptR i j) = hullP ((firsts i j rs).map (ptR i j)) → (∀ r ∈ rows, r ∈ firsts i j rs) → Q (.ref p) H'
section
variable {P : Program} {w : World} {K : PySem.W.Frag} {mg : Str → Option Value} {base : Heap}
theorem ok_hr {k : Nat} {f fC fP : Addr} {fd fdC fdP : FuncData} (B : Bl mg) (D : Df K mg "hull_rows" sHR ["rowset", "x", "y"] f fd) (DC : Df K mg "corners" sCo ["points"] fC fdC) (DP : Df K mg "point_of" sPt ["row", "x", "y"] fP fdP)
    (GC : FnOk P w K mg base CX0 k fC fdC ["points"] spCo) (GP : FnOk P w K mg base CX0 k fP fdP ["row", "x", "y"] spPt) : FnOk P w K mg base CX0 (k + 1) f fd ["rowset", "x", "y"] spHR := by
  refine D.F.ok scHR (fun vs H Q E h => ?_) (fun cdv A outer s H vs Q E hr h => ?_)
  · obtain ⟨v, rs, i, j, rfl, _⟩ := h
    rfl
  · obtain ⟨v, rs, i, j, rfl, hd, hl, hc, q⟩ := h
    have nd := scHR.nd
    have big : (1000 : Nat) < sizeLine := by decide
    have hu : (A.deeper (envOfC (Str.ofString "hull_rows") (defScope sHR) s.heap.objs.size f cdv)).units + 1 < cLine := by
      have h := hr.units
      omega
    refine ⟨_, pss_cons (ps_set (i := 3) nd rfl (.inr rfl) pe_dnewT)
      (pss_cons (ps_for PassesOwn.never rfl (pi_tup (pv 0)) (pg_name (i := 4) nd rfl (.inl rfl))
        (pss_one (ps_expr (pe_dsetdT hu (pv 3) (pe_call GP hr (by rfl) DP.g DP.F.kp DP.b .nil pass0 (pa_cons (pv 4) (pa_cons (pv 1) (pa_cons (pv 2) pa_nil)))) (pv 4) ⟨rfl, rfl, rfl, rfl⟩))))
      (pss_one (ps_ret (pe_lc (own := [("point", 5)]) (g := gName 5) rfl nd (pi_list (pe_call GC hr (by rfl) DC.g DC.F.kp DC.b .nil pass0 (pa_cons (pe_callB (cr_sortP rfl hr) (by rfl) B.sorted (by decide +kernel) (pa_cons (pv 3) pa_nil)) pa_nil)))
        (blkOk_by (N := NHR) (sc := defScope sHR) (by decide +kernel)) (fun _ _ _ _ _ => pg_name (i := 5) nd rfl (Or.inl rfl)) (fun _ _ _ _ _ => pts_nil) (fun _ _ _ _ _ => pe_dget hu (pv 3) (pv 5) (fun _ _ => rfl)))))), ?_⟩
    obtain ⟨a, xs, rfl, ea, hx⟩ := dx_tup' hd
    have lx := hx.len
    rw [List.length_map] at lx
    refine fun d nd2 => ⟨.ref a, rfl, a, rfl, ⟨_, .inl (.inl (same_new nd2 _ _ ea))⟩, ?_⟩
    refine for_tup (K := K) (xs := xs) (fun n σ G => Same H G ∧ ∃ (kvs : List (List L2.Key × V)) (rws : List Rec) (o : Option V), σ = [some (.ref a), some (.int i), some (.int j), some (.ref d), o, none] ∧ G d = some (.dT kvs) ∧ KvR H i j kvs rws ∧ rws.length ≤ n ∧ (∀ r ∈ rws, r ∈ rs) ∧ rws = firsts i j (rs.take n))
      ⟨same_new nd2, [], [], none, rfl, upd_same, .nil, Nat.le_refl _, (fun r h => nomatch h), rfl⟩ (fun n σ G _ hG => .inl (.inl (hG.1 _ _ ea))) (fun n x σ G hxn hG => ?_) (fun σ G hG => ?_)
    · obtain ⟨sG, kvs, rws, o, rfl, eD, kv, lr, sub, eF⟩ := hG
      obtain ⟨e, ee, hxe⟩ := hx.get' hxn
      rw [List.getElem?_map] at ee
      obtain ⟨r, er, rfl⟩ := Option.map_eq_some_iff.mp ee
      have hmr := List.mem_of_getElem? er
      have nl : n < rs.length := (List.getElem?_eq_some_iff.mp er).1
      refine ⟨.ref d, rfl, d, rfl, .inr ⟨_, .inl eD⟩, x, rfl, .int i, rfl, .int j, rfl, x, r, i, j, rfl, hxe.up sG, hc r hmr, fun G2 p s2 np ep => ?_⟩
      have eD2 := s2 _ _ eD
      have lk : kvs.length = rws.length := Paired.length kv
      refine ⟨x, rfl, kvs, keyP (ptR i j r), p, eD2, rfl, ep, by omega, fun v hv => ?_, fun hn => ?_⟩
      · refine ⟨sG.trans s2, kvs, rws, _, rfl, eD2, kv, by omega, sub, ?_⟩
        have ha := kvR_any (p := ptR i j r) kv
        rw [hv] at ha
        rw [firsts_at er, ← eF]
        unfold firstR
        rw [if_pos (show _ = true from ha.symm)]
      · refine ⟨same_at (sG.trans s2) nd2, kvs ++ [(keyP (ptR i j r), x)], rws ++ [r], _, rfl, ?_, kvR_snoc rfl hxe kv, by rw [List.length_append]; simp; omega, fun e he => ?_, ?_⟩
        · rw [upd_same, putK_new _ hn]
        · rcases List.mem_append.mp he with he | he
          · exact sub e he
          · rw [List.mem_singleton.mp he]
            exact hmr
        · have ha := kvR_any (p := ptR i j r) kv
          rw [hn] at ha
          rw [firsts_at er, ← eF]
          unfold firstR
          rw [if_neg (by rw [← ha]; decide)]
    · obtain ⟨sG, kvs, rws, o, rfl, eD, kv, lr, sub, eF⟩ := hG
      refine ⟨.ref d, rfl, d, kvs, rws.map (ptR i j), rfl, .inl eD, kvR_keys kv, fun p bs np e1 e2 => ?_⟩
      rw [List.take_of_length_le (by omega)] at eF
      have lbs : bs.length = rws.length := by
        have := congrArg List.length e1
        rwa [List.length_map, List.length_map] at this
      have hmem : ∀ b ∈ bs.mergeSort (PySem.W.dataLe false fun b => encP b.2), b ∈ bs := fun b hb => List.mem_mergeSort.mp hb
      have hlen : (bs.mergeSort (PySem.W.dataLe false fun b => encP b.2)).length = bs.length := List.length_mergeSort _
      have esb := sort_map bs
      generalize bs.mergeSort (PySem.W.dataLe false fun b => encP b.2) = sb at hmem hlen esb
      have sp := same_new (o := .lst (sb.map (·.1))) np
      have hpts : Pts G sb := fun b hb => by
        refine ⟨e2 b (hmem b hb), ?_⟩
        have : b.2 ∈ rws.map (ptR i j) := by
          rw [← e1]
          exact List.mem_map.mpr ⟨b, hmem b hb, rfl⟩
        obtain ⟨r, hr2, e3⟩ := List.mem_map.mp this
        rw [← e3]
        exact (hc r (sub r hr2)).sml
      refine ⟨p, sb, rfl, upd_same, hpts.up sp, by omega, fun G2 c s2 nc ec => ?_⟩
      have s02 := sp.trans s2
      have eD2 := s02 _ _ eD
      refine ⟨c, rfl, ⟨_, .inl (.inl ec)⟩, fun L nL => ?_⟩
      have lco := cornR_len (bs := sb)
      have hco : ∀ b ∈ cornR sb, PtAt G2 b.1 b.2 ∧ b.2 ∈ rws.map (ptR i j) := fun b hb => by
        have hb := cornR_sub hb
        refine ⟨(hpts b hb).1.up s02, ?_⟩
        rw [← e1]
        exact List.mem_map.mpr ⟨b, hmem b hb, rfl⟩
      have ecs := cornR_map sb
      generalize cornR sb = cs at ec lco hco ecs
      refine lc_list (xs := cs.map (·.1)) (fun n F => Same G2 F ∧ ∃ (ys : List V) (rows : List Rec), F L = some (.lst ys) ∧ Dxs H ys (rows.map encR) ∧ rows.length = n ∧ rows.map (ptR i j) = (cs.take n).map (·.2) ∧ ∀ r ∈ rows, r ∈ rws) ⟨same_new nL, [], [], upd_same, .nil, rfl, rfl, fun r h => nomatch h⟩ (fun n F _ hF => .inl (.inl (hF.1 _ _ ec))) (fun n x F hxn hF => ?_) (fun F hF => ?_)
      · obtain ⟨sF, ys, rows, eL, hy, lro, epr, srw⟩ := hF
        rw [List.getElem?_map] at hxn
        obtain ⟨b, eb, rfl⟩ := Option.map_eq_some_iff.mp hxn
        have nl : n < cs.length := (List.getElem?_eq_some_iff.mp eb).1
        obtain ⟨⟨t, et, ht⟩, hm⟩ := hco b (List.mem_of_getElem? eb)
        obtain ⟨u, r, e5, e6, e7, e8⟩ := kvR_get kv hm
        have ly := hy.len
        rw [List.length_map] at ly
        rw [et]
        refine ⟨rfl, .ref d, rfl, .ref t, rfl, d, u, rfl, by rw [← e5]; exact DGet.t (sF _ _ eD2) (sF _ _ ht), ys, eL, by omega, same_at sF nL, ys ++ [u], rows ++ [r], upd_same, ?_, by rw [List.length_append, lro]; rfl, ?_, fun e he => ?_⟩
        · rw [List.map_append]
          exact hy.app (.cons e8 .nil)
        · rw [List.map_append, epr, List.take_add_one, eb, List.map_append]
          show _ ++ [ptR i j r] = _ ++ [b.2]
          rw [e7]
        · rcases List.mem_append.mp he with he | he
          · exact srw e he
          · rw [List.mem_singleton.mp he]
            exact e6
      · obtain ⟨sF, ys, rows, eL, hy, lro, epr, srw⟩ := hF
        rw [List.length_map] at lro
        have sAll : Same H F := (sG.trans s02).trans sF
        rw [List.length_map, List.take_of_length_le (Nat.le_refl _), ecs, esb, e1, eF] at epr
        rw [eF] at srw
        exact q F L ys rows sAll eL (hy.up sAll) (by omega) epr srw
end
def spHN (RA C : Addr) : Sp := fun vs H Q E => ∃ (v : V) (d : PyData) (v1 : V) (d1 : PyData) (v2 : V) (d2 : PyData), vs = [v, v1, v2] ∧ Dx H v d ∧ SmR d ∧ Dx H v1 d1 ∧ Dx H v2 d2 ∧ (rowsetD d = false → ∀ H', Same H H' → E (.ref RA) none H') ∧
  ∀ rs, d = .tuple (rs.map encR) → RsOk rs → ColE C (widthI rs) E v1 d1 v2 d2 H fun i j => ∀ (H' : Hp) (p : Addr) (rows : List Rec), Same H H' → Dx H' (.ref p) (.tuple ((srtN (rows.map (fun r : Rec => r.nm))).map .str)) → rows.map (ptR i j) = hullP ((firsts i j rs).map (ptR i j)) → (∀ r ∈ rows, r ∈ firsts i j rs) → Q (.ref p) H'
theorem hc_of {rs : List Rec} (ok : RsOk rs) {i j : Int} (i0 : 0 ≤ i) (i1 : i < widthI rs) (j0 : 0 ≤ j) (j1 : j < widthI rs) : ∀ r ∈ rs, Hc i j r := fun r hr => by
  obtain ⟨_, _, hw⟩ := width_ok ok
  have h := (hw r hr).1
  refine ⟨i0, by omega, j0, by omega, ?_⟩
  have h2 := List.all_eq_true.mp ok.row (encR r) (List.mem_map.mpr ⟨r, hr, rfl⟩)
  have h3 : (nameD (.str r.nm) && betw 1 1000000 (.int r.cost) && (valsD (.tuple (r.vals.map .int)) && betw 1 1000000000 (.int r.exp))) = true := h2
  simp only [Bool.and_eq_true] at h3
  have h4 : ((decide (1 ≤ ((r.vals.map PyData.int).length : Int)) && decide (((r.vals.map PyData.int).length : Int) ≤ 4)) && (r.vals.map PyData.int).all (betw (-1000000000) 1000000000)) = true := h3.2.1
  rw [Bool.and_eq_true] at h4
  intro v hv
  have h5 := List.all_eq_true.mp h4.2 (.int v) (List.mem_map.mpr ⟨v, hv, rfl⟩)
  have h6 : (decide (-1000000000 ≤ v) && decide (v ≤ 1000000000)) = true := h5
  rw [Bool.and_eq_true] at h6
  exact ⟨of_decide_eq_true h6.1, of_decide_eq_true h6.2⟩
section
variable {P : Program} {w : World} {K : PySem.W.Frag} {mg : Str → Option Value} {base : Heap} {C RA : Addr}
theorem ok_hn {k : Nat} {f fC fS fR : Addr} {fd fdC fdS fdR : FuncData} (D : Df K mg "hull_names" sHN ["rowset", "x", "y"] f fd) (DC : Df K mg "check_hull" sCH ["rowset", "x", "y"] fC fdC) (DS : Df K mg "sorted_names_of" sSNO ["rows"] fS fdS) (DR : Df K mg "hull_rows" sHR ["rowset", "x", "y"] fR fdR)
    (GC : FnOk P w K mg base (L2.CX P w) k fC fdC ["rowset", "x", "y"] (spCH RA C)) (GS : FnOk P w K mg base CX0 k fS fdS ["rows"] spSNO) (GR : FnOk P w K mg base CX0 k fR fdR ["rowset", "x", "y"] spHR) : FnOk P w K mg base (L2.CX P w) (k + 1) f fd ["rowset", "x", "y"] (spHN RA C) := by
  refine D.F.okX scHN (fun vs H Q E h => ?_) (fun cdv A outer s H vs Q E hr h => ?_)
  · obtain ⟨v, d, v1, d1, v2, d2, rfl, _⟩ := h
    rfl
  · obtain ⟨v, d, v1, d1, v2, d2, rfl, hd, sm, h1, h2, qr, q⟩ := h
    refine ⟨_, pss_cons (ps_expr (pe_callS GC hr (by rfl) DC.g DC.F.kp DC.b (fun σ => passAt (takes_of rfl rfl rfl rfl) σ) (pa_cons (pv 0) (pa_cons (pv 1) (pa_cons (pv 2) pa_nil)))))
      (pss_one (ps_ret (pe_call GS hr (by rfl) DS.g DS.F.kp DS.b .nil pass0 (pa_cons (pe_call GR hr (by rfl) DR.g DR.F.kp DR.b .nil pass0 (pa_cons (pv 0) (pa_cons (pv 1) (pa_cons (pv 2) pa_nil)))) pa_nil)))), ?_⟩
    refine ⟨v, rfl, v1, rfl, v2, rfl, v, d, v1, d1, v2, d2, rfl, hd, sm, h1, h2, qr, fun rs e ok => (q rs e ok).up (Same.refl H) fun i j e1 e2 i0 i1 j0 j1 kk G sG => ?_⟩
    subst e e1 e2
    cases h1
    cases h2
    refine ⟨v, rfl, .int i, rfl, .int j, rfl, v, rs, i, j, rfl, hd.up sG, ok.le, hc_of ok i0 i1 j0 j1, fun G2 p ys rows s2 ep hy lr e1 e2 => ?_⟩
    exact ⟨p, ys, rows, rfl, ep, hy, by omega, fun G3 p3 s3 h3 => kk G3 p3 rows ((sG.trans s2).trans s3) h3 e1 e2⟩
end
end I1

set_option maxRecDepth 100000
set_option maxHeartbeats 4000000
namespace I1
open PySem PySem.Spec PyProof.Rows L2 KX
theorem lc_filterW {J : It} {Gd : Hp → Prop} {D : Addr} {xs : List V} {rs : List Rec} {g : TG} {tt : TT} {te : TE} {vs : List Nat} {σ : L2.St} {H1 : Hp} {Qd : Hp → Prop} (f : Rec → Bool) (wk : Walk J xs.length Gd (YAt xs)) (nD : H1 D = none) (hG : ∀ G, Same H1 G → Gd G) (hx : Dxs H1 xs (rs.map encR)) (hl : rs.length ≤ 1000)
    (hs : ∀ (r : Rec) (x : V) (G : Hp), r ∈ rs → Same H1 G → Dx H1 x (encR r) → ∀ (Pt : V → Hp → Prop) (Pf : Hp → Prop), (∀ G', Same G G' → if f r = true then Pt x G' else Pf G') → g x (wipe σ vs) G fun σ2 H2 => wipe σ2 vs = wipe σ vs ∧ tt σ2 H2 fun b H3 => if b = true then te σ2 H3 Pt else Pf H3)
    (hd : ∀ G ys, Same H1 G → G D = some (.lst ys) → Dxs H1 ys ((rs.filter f).map encR) → Qd G) :
    ∃ W : Nat → Nat → Hp → Prop, (∃ m, W 0 m (upd H1 D (.lst []))) ∧ ∀ i m H, W i m H →
      (J.stop i H ∧ Qd H) ∨ (J.go i H ∧ ∃ Nx : Hp → Prop, (∀ H', Nx H' → ∃ m', m' < m ∧ W (i + 1) m' H') ∧ ∀ x H', J.yld i H x H' → g x (wipe σ vs) H' fun σ2 H2 => wipe σ2 vs = wipe σ vs ∧ tt σ2 H2 fun b H3 =>
        if b = true then te σ2 H3 fun y H4 => ∃ acc, H4 D = some (.lst acc) ∧ acc.length < sizeLine ∧ Nx (upd H4 D (.lst (acc ++ [y]))) else Nx H3) := by
  have lx := hx.len
  rw [List.length_map] at lx
  refine lc_it wk (fun i G => Same H1 G ∧ ∃ ys, G D = some (.lst ys) ∧ Dxs H1 ys (((rs.take i).filter f).map encR)) ⟨same_new nD, [], upd_same, .nil⟩ (fun i G _ hP => hG G hP.1) (fun i x G G' hi hP hy => ?_) (fun G hP => ?_)
  · obtain ⟨sG, ys, eD, hy2⟩ := hP
    obtain ⟨rfl, hxi⟩ := hy
    obtain ⟨d, ed, hdx⟩ := hx.get' hxi
    rw [List.getElem?_map] at ed
    obtain ⟨r, er, rfl⟩ := Option.map_eq_some_iff.mp ed
    have el := filter_at f er
    have ly : ys.length ≤ i := by
      rw [hy2.len, List.length_map]
      exact Nat.le_trans (List.length_filter_le _ _) (by rw [List.length_take]; omega)
    have ii : i < rs.length := (List.getElem?_eq_some_iff.mp er).1
    have hb : (1000 : Nat) < sizeLine := by decide
    refine hs r x G' (List.mem_of_getElem? er) sG hdx _ _ fun G2 s2 => ?_
    by_cases lt : f r = true
    · rw [if_pos lt] at el ⊢
      refine ⟨ys, s2 _ _ eD, by omega, same_at (sG.trans s2) nD, ys ++ [x], upd_same, ?_⟩
      rw [el, List.map_append]
      exact hy2.app (.cons hdx .nil)
    · rw [if_neg lt] at el ⊢
      rw [List.append_nil] at el
      exact ⟨sG.trans s2, ys, s2 _ _ eD, by rw [el]; exact hy2⟩
  · obtain ⟨sG, ys, eD, hy⟩ := hP
    rw [List.take_of_length_le (by omega)] at hy
    exact hd G ys sG eD hy
/-! ### blocks, blocking_rows -/
def blkR (i j : Int) (d : Int × Int) (r e : Rec) : Bool := if stpR i j r e = (0, 0) then ltS e.nm r.nm else decide (d.1 * (stpR i j r e).1 + d.2 * (stpR i j r e).2 ≥ 0)
section
variable {P : Program} {w : World} {K : PySem.W.Frag} {mg : Str → Option Value} {base : Heap}
end
end I1

set_option maxRecDepth 100000
set_option maxHeartbeats 4000000
namespace I1
open PySem PySem.Spec PyProof.Rows L2 KX
/-! ### blocking_names -/
theorem amg_first {H : Hp} {nv : V} {dn : PyData} : ∀ {rs : List Rec}, amg (rs.map (·.nm)) dn = true → Dx H nv dn → ∃ i r, rs[i]? = some r ∧ nv = .str r.nm ∧ ∀ (j : Nat) (e : Rec), j < i → rs[j]? = some e → e.nm ≠ r.nm
  | [], h, _ => by simp [amg] at h
  | r :: rs, h, hd => by
    by_cases e : isSt r.nm dn = true
    · have e := isSt_is e
      subst e
      cases hd
      exact ⟨0, r, rfl, rfl, fun j e lt => absurd lt (by omega)⟩
    · have h2 : amg (rs.map (·.nm)) dn = true := by
        have h : (isSt r.nm dn || (rs.map (·.nm)).any fun n => isSt n dn) = true := h
        rw [Bool.or_eq_true] at h
        rcases h with h | h
        · exact absurd h e
        · exact h
      obtain ⟨i, x, e1, e2, e3⟩ := amg_first h2 hd
      refine ⟨i + 1, x, e1, e2, fun j y lt ey => ?_⟩
      cases j with
      | zero =>
        cases ey
        subst e2
        intro z
        refine e ?_
        cases hd
        show decide (x.nm = r.nm) = true
        exact decide_eq_true z.symm
      | succ j => exact e3 j y (by omega) ey
section
variable {P : Program} {w : World} {K : PySem.W.Frag} {mg : Str → Option Value} {base : Heap} {C fI RA UA : Addr} {gI : FuncData}
end
end I1

set_option maxRecDepth 100000
set_option maxHeartbeats 4000000
namespace I1
open PySem PySem.Spec PyProof.Rows L2 KX
/-! ### a point that is alone the farthest is a corner -/
/-- before, by the first number and then the second -/
def Lx (a b : Int × Int) : Prop := a.1 < b.1 ∨ (a.1 = b.1 ∧ a.2 < b.2)
def dot (d p : Int × Int) : Int := d.1 * p.1 + d.2 * p.2
theorem Lx.trans {a b c : Int × Int} (h : Lx a b) (k : Lx b c) : Lx a c := by
  unfold Lx at *
  omega
theorem Lx.irr {a : Int × Int} (h : Lx a a) : False := by
  unfold Lx at h
  omega
/-- what is between two others and farther than both is no turn to the right of them: u = b - a, v = c - b, s = -d2, A = d.u, B = -(d.v) -/
theorem cross_id (d1 d2 u1 u2 v1 v2 : Int) : (d1 * u1 + d2 * u2) * v1 - (d1 * v1 + d2 * v2) * u1 = d2 * (u2 * v1 - v2 * u1) := by
  have e1 : (d1 * u1 + d2 * u2) * v1 = d1 * (u1 * v1) + d2 * (u2 * v1) := by rw [Int.add_mul, Int.mul_assoc, Int.mul_assoc]
  have e2 : (d1 * v1 + d2 * v2) * u1 = d1 * (u1 * v1) + d2 * (v2 * u1) := by rw [Int.add_mul, Int.mul_assoc, Int.mul_assoc, Int.mul_comm v1 u1]
  rw [e1, e2, Int.mul_sub]
  omega
theorem low_case {d1 d2 u1 u2 v1 v2 : Int} (hd : d2 < 0) (hu : 0 < u1 ∨ (0 = u1 ∧ 0 < u2)) (hv : 0 < v1 ∨ (0 = v1 ∧ 0 < v2)) (ha : 0 < d1 * u1 + d2 * u2) (hc : d1 * v1 + d2 * v2 < 0) (ht : u1 * v2 - u2 * v1 ≤ 0) : False := by
  have id := cross_id d1 d2 u1 u2 v1 v2
  have u0 : 0 ≤ u1 := by omega
  have v0 : 0 ≤ v1 := by omega
  have p1 : 0 ≤ (d1 * u1 + d2 * u2) * v1 := Int.mul_nonneg (by omega) v0
  have p2 : 0 ≤ (-(d1 * v1 + d2 * v2)) * u1 := Int.mul_nonneg (by omega) u0
  rw [Int.neg_mul] at p2
  have e : u2 * v1 - v2 * u1 = -(u1 * v2 - u2 * v1) := by rw [Int.mul_comm v2 u1]; omega
  rw [e] at id
  have p3 : d2 * -(u1 * v2 - u2 * v1) ≤ 0 := Int.mul_nonpos_of_nonpos_of_nonneg (by omega) (by omega)
  have z1 : (d1 * u1 + d2 * u2) * v1 = 0 := by omega
  have z2 : (d1 * v1 + d2 * v2) * u1 = 0 := by omega
  have v1z : v1 = 0 := by
    rcases Int.mul_eq_zero.mp z1 with h | h
    · omega
    · exact h
  have u1z : u1 = 0 := by
    rcases Int.mul_eq_zero.mp z2 with h | h
    · omega
    · exact h
  subst v1z u1z
  have u2p : 0 < u2 := by omega
  have : d2 * u2 < 0 := Int.mul_neg_of_neg_of_pos hd u2p
  omega
theorem turn_uv (a b c : Int × Int) : turnI a b c = (b.1 - a.1) * (c.2 - b.2) - (b.2 - a.2) * (c.1 - b.1) := by
  unfold turnI
  have e1 : c.2 - a.2 = (c.2 - b.2) + (b.2 - a.2) := by omega
  have e2 : c.1 - a.1 = (c.1 - b.1) + (b.1 - a.1) := by omega
  rw [e1, e2, Int.mul_add, Int.mul_add, Int.mul_comm (b.2 - a.2) (b.1 - a.1)]
  omega
theorem dot_sub (d a b : Int × Int) : dot d b - dot d a = d.1 * (b.1 - a.1) + d.2 * (b.2 - a.2) := by
  unfold dot
  rw [Int.mul_sub, Int.mul_sub]
  omega
theorem low_turn {d a b c : Int × Int} (hd : d.2 ≤ 0) (h1 : Lx a b) (h2 : Lx b c) (ha : dot d a < dot d b) (hc : dot d c < dot d b) : ¬ turnI a b c ≤ 0 := fun ht => by
  have s1 := dot_sub d a b
  have s2 := dot_sub d b c
  rw [turn_uv] at ht
  unfold Lx at h1 h2
  by_cases z : d.2 = 0
  · rw [z, Int.zero_mul, Int.add_zero] at s1 s2
    rcases Int.lt_trichotomy d.1 0 with w | w | w
    · have : d.1 * (b.1 - a.1) ≤ 0 := Int.mul_nonpos_of_nonpos_of_nonneg (by omega) (by omega)
      omega
    · rw [w, Int.zero_mul] at s1
      omega
    · have : 0 ≤ d.1 * (c.1 - b.1) := Int.mul_nonneg (by omega) (by omega)
      omega
  · exact low_case (d1 := d.1) (d2 := d.2) (u1 := b.1 - a.1) (u2 := b.2 - a.2) (v1 := c.1 - b.1) (v2 := c.2 - b.2) (by omega) (by omega) (by omega) (by omega) (by omega) ht
theorem up_turn {d a b c : Int × Int} (hd : 0 < d.2) (h1 : Lx b a) (h2 : Lx c b) (ha : dot d a < dot d b) (hc : dot d c < dot d b) : ¬ turnI a b c ≤ 0 := fun ht => by
  have s1 := dot_sub d a b
  have s2 := dot_sub d b c
  rw [turn_uv] at ht
  unfold Lx at h1 h2
  have e1 : (-d.1) * (-(b.1 - a.1)) + (-d.2) * (-(b.2 - a.2)) = d.1 * (b.1 - a.1) + d.2 * (b.2 - a.2) := by rw [Int.neg_mul_neg, Int.neg_mul_neg]
  have e2 : (-d.1) * (-(c.1 - b.1)) + (-d.2) * (-(c.2 - b.2)) = d.1 * (c.1 - b.1) + d.2 * (c.2 - b.2) := by rw [Int.neg_mul_neg, Int.neg_mul_neg]
  have e3 : (-(b.1 - a.1)) * (-(c.2 - b.2)) - (-(b.2 - a.2)) * (-(c.1 - b.1)) = (b.1 - a.1) * (c.2 - b.2) - (b.2 - a.2) * (c.1 - b.1) := by rw [Int.neg_mul_neg, Int.neg_mul_neg]
  exact low_case (d1 := -d.1) (d2 := -d.2) (u1 := -(b.1 - a.1)) (u2 := -(b.2 - a.2)) (v1 := -(c.1 - b.1)) (v2 := -(c.2 - b.2)) (by omega) (by omega) (by omega) (by rw [e1]; omega) (by rw [e2]; omega) (by rw [e3]; exact ht)
section
variable {R : Int × Int → Int × Int → Prop} {p : Int × Int}
theorem popP_sub {r : Int × Int} : ∀ {st : List (Int × Int)}, (popP r st).Sublist st
  | [] => List.Sublist.refl _
  | [q] => List.Sublist.refl _
  | q :: a :: rest => by
    unfold popP
    split
    · exact (popP_sub (st := a :: rest)).trans (List.sublist_cons_self _ _)
    · exact List.Sublist.refl _
theorem pop_keep {c : Int × Int} (hg : ∀ a, R a p → R p c → ¬ turnI a p c ≤ 0) (hc : R p c) : ∀ {st : List (Int × Int)}, st.Pairwise (fun x y => R y x) → p ∈ st → p ∈ popP c st
  | [], _, h => h
  | [q], _, h => by simpa [popP] using h
  | q :: a :: rest, pw, h => by
    unfold popP
    split
    · rename_i le
      rcases List.mem_cons.mp h with rfl | h
      · have := (List.pairwise_cons.mp pw).1 a (by simp)
        exact absurd le (hg a this hc)
      · exact pop_keep hg hc (List.pairwise_cons.mp pw).2 h
    · exact h
theorem half_keep : ∀ {l st : List (Int × Int)}, (∀ a c, a ∈ st ∨ a ∈ l → c ∈ l → R a p → R p c → ¬ turnI a p c ≤ 0) → st.Pairwise (fun x y => R y x) → l.Pairwise R → (∀ x ∈ st, ∀ y ∈ l, R x y) → p ∈ st ∨ p ∈ l → p ∈ halfS st l
  | [], st, _, _, _, _, h => by
    rcases h with h | h
    · exact h
    · cases h
  | b :: l, st, hg, pw, pl, hx, h => by
    have hs : ∀ x ∈ popP b st, x ∈ st := fun x hx => popP_sub.subset hx
    have pl2 := List.pairwise_cons.mp pl
    refine half_keep (st := b :: popP b st) (l := l) (fun a c ha hc => hg a c ?_ (List.mem_cons_of_mem _ hc)) ?_ pl2.2 (fun x hx2 y hy => ?_) ?_
    · rcases ha with ha | ha
      · rcases List.mem_cons.mp ha with rfl | ha
        · exact .inr (by simp)
        · exact .inl (hs a ha)
      · exact .inr (by simp [ha])
    · exact List.pairwise_cons.mpr ⟨fun y hy => hx y (hs y hy) b (by simp), pw.sublist popP_sub⟩
    · rcases List.mem_cons.mp hx2 with rfl | hx2
      · exact pl2.1 y hy
      · exact hx x (hs x hx2) y (List.mem_cons_of_mem _ hy)
    · rcases h with h | h
      · refine .inl (List.mem_cons_of_mem _ ?_)
        have hpb : R p b := hx p h b (by simp)
        -- all that stand below p in the stack are of st
        have key : ∀ {s : List (Int × Int)}, (∀ x ∈ s, x ∈ st) → s.Pairwise (fun x y => R y x) → p ∈ s → p ∈ popP b s := by
          intro s
          induction s with
          | nil => intro _ _ h; exact h
          | cons q s ih =>
            intro hsub pw h
            cases s with
            | nil => simpa [popP] using h
            | cons a rest =>
              unfold popP
              split
              · rename_i le
                rcases List.mem_cons.mp h with rfl | h
                · have := (List.pairwise_cons.mp pw).1 a (by simp)
                  exact absurd le (hg a b (.inl (hsub a (by simp))) (by simp) this hpb)
                · exact ih (fun x hx => hsub x (List.mem_cons_of_mem _ hx)) (List.pairwise_cons.mp pw).2 h
              · exact h
        exact key (fun _ h => h) pw h
      · rcases List.mem_cons.mp h with rfl | h
        · exact .inl (by simp)
        · exact .inr h
end
theorem lt_pt (p q : Int × Int) : PySem.W.dataLt (encP p) (encP q) = decide (p.1 < q.1 ∨ (p.1 = q.1 ∧ p.2 < q.2)) := PySem.W.dataLt_ii p.1 p.2 q.1 q.2
theorem le_pt {p q : Int × Int} : leP p q = true ↔ ¬ Lx q p := by
  show (!PySem.W.dataLt (encP q) (encP p)) = true ↔ _
  rw [lt_pt]
  unfold Lx
  by_cases h : q.1 < p.1 ∨ (q.1 = p.1 ∧ q.2 < p.2)
  · rw [decide_eq_true h]
    simp [h]
  · rw [decide_eq_false h]
    simp [h]
theorem srt_lx {pts : List (Int × Int)} (nd : pts.Nodup) : (pts.mergeSort leP).Pairwise Lx := by
  have h1 : (pts.mergeSort leP).Pairwise (fun a b => leP a b = true) := List.pairwise_mergeSort (fun a b c h k => by
    rw [le_pt] at h k ⊢
    unfold Lx at *
    omega) (fun a b => by
    cases ea : leP a b with
    | true => rfl
    | false =>
      have : ¬ (leP a b = true) := by rw [ea]; decide
      rw [le_pt] at this
      have h2 : leP b a = true := by
        rw [le_pt]
        unfold Lx at *
        omega
      rw [h2]
      rfl) pts
  have h2 : (pts.mergeSort leP).Nodup := (List.mergeSort_perm pts leP).nodup_iff.mpr nd
  refine List.Pairwise.imp_of_mem (fun {a b} _ _ h => h) ((h1.and (List.nodup_iff_pairwise_ne.mp h2)).imp fun {a b} h => ?_)
  obtain ⟨x, y⟩ := h
  rw [le_pt] at x
  have : ¬ (a.1 = b.1 ∧ a.2 = b.2) := fun z => y (Prod.ext z.1 z.2)
  unfold Lx at *
  omega
theorem hull_has {pts : List (Int × Int)} {p d : Int × Int} (nd : pts.Nodup) (hp : p ∈ pts) (far : ∀ q ∈ pts, q ≠ p → dot d q < dot d p) : p ∈ hullP pts := by
  have pw := srt_lx nd
  have hs : ∀ q ∈ pts.mergeSort leP, q ∈ pts := fun q hq => List.mem_mergeSort.mp hq
  have hp2 : p ∈ pts.mergeSort leP := List.mem_mergeSort.mpr hp
  unfold hullP
  generalize pts.mergeSort leP = l at pw hs hp2
  have main : p ∈ halfP l ∨ p ∈ halfP l.reverse := by
    by_cases hd : d.2 ≤ 0
    · refine .inl (List.mem_reverse.mpr (half_keep (R := Lx) (st := []) (fun a c ha hc h1 h2 => ?_) .nil pw (fun x hx => nomatch hx) (.inr hp2)))
      rcases ha with ha | ha
      · cases ha
      exact low_turn hd h1 h2 (far a (hs a ha) fun z => Lx.irr (z ▸ h1)) (far c (hs c hc) fun z => Lx.irr (z ▸ h2))
    · refine .inr (List.mem_reverse.mpr (half_keep (R := fun x y => Lx y x) (st := []) (fun a c ha hc h1 h2 => ?_) .nil (List.pairwise_reverse.mpr pw) (fun x hx => nomatch hx) (.inr (List.mem_reverse.mpr hp2))))
      rcases ha with ha | ha
      · cases ha
      exact up_turn (by omega) h1 h2 (far a (hs a (List.mem_reverse.mp ha)) fun z => Lx.irr (z ▸ h1)) (far c (hs c (List.mem_reverse.mp hc)) fun z => Lx.irr (z ▸ h2))
  unfold cornP
  by_cases z : p ∈ halfP l
  · exact List.mem_append.mpr (.inl z)
  · rcases main with h | h
    · exact absurd h z
    · refine List.mem_append.mpr (.inr (List.mem_filter.mpr ⟨h, ?_⟩))
      rw [decide_eq_false z]
      rfl
/-! ### the first rows of their points -/
theorem firstR_nodup {i j : Int} {acc : List Rec} (r : Rec) (h : (acc.map (ptR i j)).Nodup) : ((firstR i j acc r).map (ptR i j)).Nodup := by
  unfold firstR
  split
  · exact h
  · rename_i z
    rw [List.map_append, List.nodup_append]
    refine ⟨h, by simp, fun a ha b hb e => ?_⟩
    rw [List.map_cons, List.map_nil] at hb
    rw [List.mem_singleton.mp hb] at e
    obtain ⟨x, hx, ex⟩ := List.mem_map.mp ha
    exact z (List.any_eq_true.mpr ⟨x, hx, decide_eq_true (ex.trans e)⟩)
theorem fold_nodup {i j : Int} : ∀ (rs acc : List Rec), (acc.map (ptR i j)).Nodup → ((rs.foldl (firstR i j) acc).map (ptR i j)).Nodup
  | [], acc, h => h
  | r :: rs, acc, h => fold_nodup rs _ (firstR_nodup r h)
theorem fold_keep {i j : Int} {x : Rec} : ∀ (rs acc : List Rec), x ∈ acc → x ∈ rs.foldl (firstR i j) acc
  | [], acc, h => h
  | r :: rs, acc, h => fold_keep rs _ (by
    unfold firstR
    split
    · exact h
    · exact List.mem_append.mpr (.inl h))
theorem fold_sub {i j : Int} {x : Rec} : ∀ (rs acc : List Rec), x ∈ rs.foldl (firstR i j) acc → x ∈ acc ∨ x ∈ rs
  | [], acc, h => .inl h
  | r :: rs, acc, h => by
    rcases fold_sub rs _ h with h | h
    · unfold firstR at h
      split at h
      · exact .inl h
      · rcases List.mem_append.mp h with h | h
        · exact .inl h
        · exact .inr (by rw [List.mem_singleton.mp h]; simp)
    · exact .inr (List.mem_cons_of_mem _ h)
theorem first_of {i j : Int} {pre post : List Rec} {r : Rec} (h : ∀ e ∈ pre, ptR i j e ≠ ptR i j r) : r ∈ firsts i j (pre ++ r :: post) := by
  unfold firsts
  rw [List.foldl_append, List.foldl_cons]
  refine fold_keep post _ ?_
  unfold firstR
  split
  · rename_i z
    obtain ⟨e, he, ee⟩ := List.any_eq_true.mp z
    rcases fold_sub pre [] he with h2 | h2
    · cases h2
    · exact absurd (of_decide_eq_true ee) (h e h2)
  · exact List.mem_append.mpr (.inr (by simp))
theorem nodup_one {α β : Type} {f : α → β} : ∀ {l : List α} {a b : α}, (l.map f).Nodup → a ∈ l → b ∈ l → f a = f b → a = b
  | [], _, _, _, h, _, _ => by cases h
  | c :: l, a, b, nd, ha, hb, e => by
    rw [List.map_cons, List.nodup_cons] at nd
    rcases List.mem_cons.mp ha with rfl | ha
    · rcases List.mem_cons.mp hb with rfl | hb
      · rfl
      · exact absurd (List.mem_map.mpr ⟨b, hb, e.symm⟩) nd.1
    · rcases List.mem_cons.mp hb with rfl | hb
      · exact absurd (show f b ∈ l.map f from List.mem_map.mpr ⟨a, ‹a ∈ l›, e⟩) nd.1
      · exact nodup_one nd.2 ha hb e
theorem exposed {i j : Int} {pre post rows : List Rec} {r : Rec} {d : Int × Int} (h : ∀ e ∈ pre, ptR i j e ≠ ptR i j r) (far : ∀ e ∈ pre ++ r :: post, ptR i j e ≠ ptR i j r → dot d (ptR i j e) < dot d (ptR i j r))
    (e1 : rows.map (ptR i j) = hullP ((firsts i j (pre ++ r :: post)).map (ptR i j))) (e2 : ∀ x ∈ rows, x ∈ firsts i j (pre ++ r :: post)) : r ∈ rows := by
  have hf := first_of (post := post) h
  have nd : ((firsts i j (pre ++ r :: post)).map (ptR i j)).Nodup := fold_nodup _ [] .nil
  have hp : ptR i j r ∈ hullP ((firsts i j (pre ++ r :: post)).map (ptR i j)) := hull_has (d := d) nd (List.mem_map.mpr ⟨r, hf, rfl⟩) fun q hq ne => by
    obtain ⟨e, he, rfl⟩ := List.mem_map.mp hq
    rcases fold_sub _ [] he with h2 | h2
    · cases h2
    · exact far e h2 ne
  rw [← e1] at hp
  obtain ⟨x, hx, ex⟩ := List.mem_map.mp hp
  rw [← nodup_one nd (e2 x hx) hf ex]
  exact hx
end I1

set_option maxRecDepth 100000
set_option maxHeartbeats 4000000
namespace I1
open PySem PySem.Spec PyProof.Rows L2 KX
theorem gn_to {i : Nat} {v : V} {σ σ' : L2.St} {H : Hp} {Q : L2.St → Hp → Prop} (e : σ.set i (some v) = σ') (h : Q σ' H) : gName i v σ H Q := by subst e; exact h
theorem oneW_iff : ∀ {rs : List Rec}, oneW rs = true ↔ ∀ a ∈ rs, ∀ b ∈ rs, a.vals.length = b.vals.length
  | [] => by simp [oneW]
  | r :: rs => by
    show ((r :: rs).all fun e => decide (e.vals.length = r.vals.length)) = true ↔ _
    rw [List.all_eq_true]
    refine ⟨fun h a ha b hb => ?_, fun h e he => decide_eq_true (h e he r (by simp))⟩
    rw [of_decide_eq_true (h a ha), of_decide_eq_true (h b hb)]
structure RsP (wd : Nat) (rs : List Rec) : Prop where
  pw : (rs.map (fun r : Rec => r.nm)).Pairwise (fun a b => leN a b = true)
  nd : (rs.map (fun r : Rec => r.nm)).Nodup
  ok : ∀ r ∈ rs, ROk wd r
theorem made_rsp {wd : Nat} {recs : List Rec} (h : Made wd recs) (hl : recs.length ≤ 61) : RsP wd (sortR recs) :=
  ⟨by rw [names_sort h hl]; exact List.pairwise_mergeSort le_tr le_tot _, names_nodup h hl, sort_rok h hl⟩
theorem RsP.sub {wd : Nat} {rs ss : List Rec} (h : RsP wd rs) (s : ss.Sublist rs) : RsP wd ss :=
  ⟨h.pw.sublist (s.map _), h.nd.sublist (s.map _), fun r hr => h.ok r (s.subset hr)⟩
theorem RsP.asc {wd : Nat} {rs : List Rec} (h : RsP wd rs) : ascS (rs.map (fun r : Rec => r.nm)) = true := asc_of h.pw h.nd
theorem RsP.rsok {wd : Nat} {rs : List Rec} (h : RsP wd rs) (w1 : 1 ≤ wd) (w4 : wd ≤ 4) (hl : rs.length ≤ 60) : RsOk rs := by
  refine ⟨hl, ?_, ?_, h.asc⟩
  · rw [List.all_eq_true]
    intro e he
    obtain ⟨r, hr, rfl⟩ := List.mem_map.mp he
    exact rec_rd (h.ok r hr) w1 w4
  · refine oneW_iff.mpr fun a ha b hb => ?_
    obtain ⟨_, _, o1⟩ := h.ok a ha
    obtain ⟨_, _, o2⟩ := h.ok b hb
    rw [o1.len, o2.len]
theorem rsok_true {rs : List Rec} (h : RsOk rs) : rowsetD (.tuple (rs.map encR)) = true := by
  show (decide ((rs.map encR).length ≤ 60) && (((rs.map encR).all rowD && oneW ((rs.map encR).map recD)) && ascS (((rs.map encR).map recD).map (·.nm)))) = true
  rw [recs_back, List.length_map, decide_eq_true h.le, h.row, h.one, h.asc]
  rfl
theorem lt_irr (a : Str) : ltS a a = false := decide_eq_false (List.lt_irrefl _)
theorem lt_trs {a b c : Str} (h : ltS a b = true) (k : ltS b c = true) : ltS a c = true := decide_eq_true (List.lt_trans (of_decide_eq_true h) (of_decide_eq_true k))
theorem smR_rows {ds : List PyData} (hl : ds.length ≤ 1000) (h : ∀ e ∈ ds, smA e) : SmR (.tuple ds) := fun es z => by
  cases z
  exact ⟨hl, h⟩
theorem recs_inj {rs ss : List Rec} (h : PyData.tuple (rs.map encR) = .tuple (ss.map encR)) : rs = ss := by
  have := congrArg (fun d : PyData => match d with | .tuple ds => ds.map recD | _ => []) h
  simp only [recs_back] at this
  exact this
theorem asc_cons : ∀ {l : List Str} {a : Str}, ascS (a :: l) = true → ascS l = true ∧ ∀ b ∈ l, ltS a b = true
  | [], a, _ => ⟨rfl, fun b h => nomatch h⟩
  | c :: l, a, h => by
    have h : (ltS a c && ascS (c :: l)) = true := h
    rw [Bool.and_eq_true] at h
    refine ⟨h.2, fun b hb => ?_⟩
    rcases List.mem_cons.mp hb with rfl | hb
    · exact h.1
    · exact lt_trs h.1 ((asc_cons h.2).2 b hb)
theorem asc_mid {r : Str} {post : List Str} : ∀ {pre : List Str}, ascS (pre ++ r :: post) = true → ∀ e ∈ pre, ltS e r = true
  | [], _, e, he => nomatch he
  | c :: pre, h, e, he => by
    have := asc_cons h
    rcases List.mem_cons.mp he with rfl | he
    · exact this.2 r (by simp)
    · exact asc_mid this.1 e he
theorem stp_zero {i j : Int} {r e : Rec} : stpR i j r e = (0, 0) ↔ ptR i j e = ptR i j r := by
  unfold stpR ptR
  simp only [Prod.mk.injEq]
  omega
theorem blk_self {i j : Int} {d : Int × Int} {r : Rec} : blkR i j d r r = false := by
  unfold blkR
  rw [if_pos (stp_zero.mpr rfl)]
  exact lt_irr _
theorem widthI_of {wd : Nat} {rs : List Rec} (h : RsP wd rs) (ne : rs ≠ []) : widthI rs = (wd : Int) := by
  cases rs with
  | nil => exact absurd rfl ne
  | cons r t =>
    obtain ⟨_, _, o⟩ := h.ok r (by simp)
    show (r.vals.length : Int) = wd
    rw [o.len]
theorem rsp_sm {wd : Nat} {rs : List Rec} (h : RsP wd rs) (l60 : rs.length ≤ 60) : SmR (.tuple (rs.map encR)) := smR_rows (by rw [List.length_map]; omega) fun e he => by
  obtain ⟨x, hx, rfl⟩ := List.mem_map.mp he
  exact rec_sm (h.ok x hx)
theorem nm_one {wd : Nat} {rs : List Rec} (h : RsP wd rs) {a b : Rec} (ha : a ∈ rs) (hb : b ∈ rs) (e : a.nm = b.nm) : a = b := nodup_one (f := fun r : Rec => r.nm) h.nd ha hb e
theorem amg_of {rs : List Rec} {r : Rec} (hr : r ∈ rs) : amg (rs.map (·.nm)) (.str r.nm) = true := by
  unfold amg
  rw [List.any_eq_true]
  exact ⟨r.nm, List.mem_map.mpr ⟨r, hr, rfl⟩, decide_eq_true rfl⟩
theorem col_e {C : Addr} {w : Int} {E : XK} {i j : Int} {H : Hp} {K : Int → Int → Prop} (i0 : 0 ≤ i) (i1 : i < w) (j0 : 0 ≤ j) (j1 : j < w) (ne : i ≠ j) (k : K i j) : ColE C w E (.int i) (.int i) (.int j) (.int j) H K := by
  have b1 := betw_int (lo := 0) (hi := w - 1) i0 (by omega)
  have b2 := betw_int (lo := 0) (hi := w - 1) j0 (by omega)
  refine ⟨fun z => ?_, fun _ z => ?_, fun a e1 e2 _ _ => ?_, fun a b e1 e2 _ _ _ _ _ => ?_⟩
  · rw [b1] at z; cases z
  · rw [b2] at z; cases z
  · cases e1; cases e2; exact absurd rfl ne
  · cases e1; cases e2; exact k
theorem hn_call {RA C : Addr} {wd : Nat} {H : Hp} {v : V} {rs : List Rec} {i j : Int} {Q : VK} {E : XK} (h : RsP wd rs) (w1 : 1 ≤ wd) (w4 : wd ≤ 4) (l60 : rs.length ≤ 60) (ne : rs ≠ []) (hd : Dx H v (.tuple (rs.map encR))) (i0 : 0 ≤ i) (i1 : i < wd) (j0 : 0 ≤ j) (j1 : j < wd) (nij : i ≠ j)
    (q : ∀ (H' : Hp) (p : Addr) (rows : List Rec), Same H H' → Dx H' (.ref p) (.tuple ((srtN (rows.map (fun r : Rec => r.nm))).map .str)) → rows.map (ptR i j) = hullP ((firsts i j rs).map (ptR i j)) → (∀ r ∈ rows, r ∈ firsts i j rs) → Q (.ref p) H') : spHN RA C [v, .int i, .int j] H Q E := by
  have ok := h.rsok w1 w4 l60
  refine ⟨v, _, .int i, .int i, .int j, .int j, rfl, hd, rsp_sm h l60, .int i, .int j, (fun z => by rw [rsok_true ok] at z; cases z), fun ss e _ => ?_⟩
  obtain rfl := recs_inj e
  rw [widthI_of h ne]
  exact col_e i0 i1 j0 j1 nij q
end I1

set_option maxRecDepth 100000
set_option maxHeartbeats 4000000
namespace I1
open PySem PySem.Spec PyProof.Rows L2 KX
def Stp (p : Int × Int) : Prop := -2000000000 ≤ p.1 ∧ p.1 ≤ 2000000000 ∧ -2000000000 ≤ p.2 ∧ p.2 ≤ 2000000000
theorem Hc.stp {i j : Int} {r e : Rec} (h : Hc i j r) (h2 : Hc i j e) : Stp (stpR i j r e) := by
  obtain ⟨a1, a2, a3, a4⟩ := h.sml
  obtain ⟨c1, c2, c3, c4⟩ := h2.sml
  have d1 : (stpR i j r e).1 = (ptR i j e).1 - (ptR i j r).1 := rfl
  have d2 : (stpR i j r e).2 = (ptR i j e).2 - (ptR i j r).2 := rfl
  exact ⟨by omega, by omega, by omega, by omega⟩
/-! ### _law_two_columns -/
abbrev s2c : Stmt := topS 57
theorem sc2c : FnScope ["stream", "wide", "one"] ["stream", "wide"] (defScope s2c) := ⟨rfl, rfl, rfl, by decide +kernel, rfl, by decide +kernel, by decide +kernel⟩
def sp2c : Sp := fun vs H Q _ => ∃ (l : Addr) (w : Int), vs = [.ref l, .int w] ∧ StO H l ∧ 2 ≤ w ∧ w ≤ 4 ∧ ∀ H' p a b, Keep l H H' → StO H' l → p ≠ l → H' p = some (.tup [.int a, .int b]) → 0 ≤ a → a < w → 0 ≤ b → b < w → a ≠ b → Q (.ref p) H'
section
variable {P : Program} {w : World} {K : PySem.W.Frag} {mg : Str → Option Value} {base : Heap}
theorem ok_2c {k : Nat} {f fD : Addr} {fd fdD : FuncData} (D : Df K mg "_law_two_columns" s2c ["stream", "wide"] f fd) (DD : Df K mg "_law_draw" sDraw ["stream", "total"] fD fdD) (GDr : FnOk P w K mg base CX0 k fD fdD ["stream", "total"] spDraw) :
    FnOk P w K mg base CX0 (k + 1) f fd ["stream", "wide"] sp2c := by
  refine D.F.ok sc2c (fun vs H Q E h => ?_) (fun cdv A outer s H vs Q E hr h => ?_)
  · obtain ⟨l, w, rfl, _⟩ := h
    rfl
  · obtain ⟨l, w, rfl, st, w2, w4, q⟩ := h
    have nd := sc2c.nd
    refine ⟨_, pss_cons (ps_set (i := 2) nd rfl (.inl rfl) (pe_call GDr hr (by rfl) DD.g DD.F.kp DD.b .nil pass0 (pa_cons (pv 0) (pa_cons (pv 1) pa_nil))))
      (pss_one (ps_ret (pe_tup (pa_cons (pv 2) (pa_cons (pe_op op_mod (pe_op op_add (pe_op op_add (pv 2) pe_int) (pe_call GDr hr (by rfl) DD.g DD.F.kp DD.b .nil pass0 (pa_cons (pv 0) (pa_cons (pe_op op_sub (pv 1) pe_int) pa_nil)))) (pv 1)) pa_nil))))), ?_⟩
    refine ⟨.ref l, rfl, .int w, rfl, l, w, rfl, st, by omega, by omega, fun H1 a k1 st1 a0 a1 => ?_⟩
    refine ⟨.int a, rfl, .int a, rfl, a, 1, rfl, rfl, .ref l, rfl, .int w, rfl, w, 1, rfl, rfl, l, w - 1, rfl, st1, by omega, by omega, fun H2 b k2 st2 b0 b1 => ?_⟩
    refine ⟨_, _, rfl, rfl, .int w, rfl, _, w, rfl, rfl, by omega, by show 2 ≤ sizeLine; decide, fun p np => ?_⟩
    have m0 := Int.emod_nonneg (a + 1 + b) (show w ≠ 0 by omega)
    have m1 := Int.emod_lt_of_pos (a + 1 + b) (show 0 < w by omega)
    refine q _ p a _ ((k1.trans k2).new np) (st2.new np) (st2.ne np) upd_same a0 a1 m0 m1 ?_
    rcases (show w = 2 ∨ w = 3 ∨ w = 4 by omega) with rfl | rfl | rfl <;> omega
end
/-! ### _law_remove, _law_expected -/
theorem amg_mem {ns : List Str} {x : Str} : amg ns (.str x) = decide (x ∈ ns) := by
  unfold amg
  by_cases h : x ∈ ns
  · rw [decide_eq_true h, List.any_eq_true]
    exact ⟨x, h, decide_eq_true rfl⟩
  · rw [decide_eq_false h, List.any_eq_false]
    intro n hn z
    have := isSt_is z
    cases this
    exact h hn
section
variable {P : Program} {w : World} {K : PySem.W.Frag} {mg : Str → Option Value} {base : Heap}
end
end I1

set_option maxRecDepth 100000
set_option maxHeartbeats 4000000
namespace I1
open PySem PySem.Spec PyProof.Rows L2 KX
def TK (G G' : Hp) : Prop := ∀ b xs, G b = some (.tup xs) → G' b = some (.tup xs)
theorem TK.same {G G' : Hp} (s : Same G G') : TK G G' := fun b xs e => s _ _ e
theorem TK.at {G : Hp} {b : Addr} {o u : HO} (e : G b = some u) (n : ∀ xs, u ≠ .tup xs) : TK G (upd G b o) := fun c xs z => by
  rw [upd_ne (ne_of z e (fun y => n xs y.symm))]
  exact z
theorem TK.trans {G G1 G2 : Hp} (a : TK G G1) (b : TK G1 G2) : TK G G2 := fun c xs z => b _ _ (a _ _ z)
mutual
def noL : PyData → Bool
  | .none => true
  | .bool _ => true
  | .int _ => true
  | .str _ => true
  | .tuple ds => noLs ds
  | _ => false
def noLs : List PyData → Bool
  | [] => true
  | d :: ds => noL d && noLs ds
end
theorem noL_ints : ∀ ns : List Int, noLs (ns.map PyData.int) = true
  | [] => by simp [noLs]
  | n :: ns => by simp [noLs, noL, noL_ints ns]
theorem noL_recs : ∀ rs : List Rec, noLs (rs.map encR) = true
  | [] => by simp [noLs]
  | r :: rs => by simp [noLs, noL, encR, noL_ints, noL_recs rs]
mutual
theorem dx_tk {G G' : Hp} (k : TK G G') : ∀ (d : PyData) (v : V), noL d = true → Dx G v d → Dx G' v d
  | .none, _, _, h => by cases h; exact .non
  | .bool b, _, _, h => by cases h; exact .bl b
  | .int i, _, _, h => by cases h; exact .int i
  | .str x, _, _, h => by cases h; exact .str x
  | .list ds, _, n, _ => by simp [noL] at n
  | .dict ks, _, n, _ => by simp [noL] at n
  | .tuple ds, _, n, h => by
    cases h with
    | @tup a xs _ ea h => exact .tup (k _ _ ea) (dxs_tk k ds xs (by simpa [noL] using n) h)
theorem dxs_tk {G G' : Hp} (k : TK G G') : ∀ (ds : List PyData) (vs : List V), noLs ds = true → Dxs G vs ds → Dxs G' vs ds
  | [], _, _, h => by cases h; exact .nil
  | d :: ds, _, n, h => by
    simp only [noLs, Bool.and_eq_true] at n
    cases h with
    | cons h t => exact .cons (dx_tk k d _ n.1 h) (dxs_tk k ds _ n.2 t)
end
/-! ### _law_point_rowset -/
abbrev sPr : Stmt := topS 58
abbrev NPr : List Str := ["stream", "many", "wide", "data", "way", "far", "rows", "step", "row", "at", "narrow", "worths"]
theorem scPr : FnScope NPr ["stream", "many", "wide"] (defScope sPr) := ⟨rfl, rfl, rfl, by decide +kernel, rfl, by decide +kernel, by decide +kernel⟩
/-- rows that are the old ones but for their values -/
def Nw (wd : Nat) : List Rec → List Rec → Prop := Paired fun e r => e.nm = r.nm ∧ e.cost = r.cost ∧ e.exp = r.exp ∧ e.vals.length = wd ∧ ∀ v ∈ e.vals, -1000000000 ≤ v ∧ v ≤ 1000000000
theorem nw_snoc {wd : Nat} {e r : Rec} (h : e.nm = r.nm ∧ e.cost = r.cost ∧ e.exp = r.exp ∧ e.vals.length = wd ∧ ∀ v ∈ e.vals, -1000000000 ≤ v ∧ v ≤ 1000000000) : ∀ {es rs : List Rec}, Nw wd es rs → Nw wd (es ++ [e]) (rs ++ [r])
  | [], [], .nil => .cons h .nil
  | _ :: _, _ :: _, .cons a t => .cons a (nw_snoc h t)
theorem nw_names {wd : Nat} : ∀ {es rs : List Rec}, Nw wd es rs → es.map (fun r : Rec => r.nm) = rs.map (fun r : Rec => r.nm)
  | [], [], .nil => rfl
  | _ :: _, _ :: _, .cons a t => by rw [List.map_cons, List.map_cons, a.1, nw_names t]
theorem nw_ok {wd : Nat} : ∀ {es rs : List Rec}, Nw wd es rs → (∀ r ∈ rs, ROk wd r) → ∀ e ∈ es, ROk wd e
  | [], [], .nil, _, e, he => nomatch he
  | e :: es, r :: rs, .cons a t, h, x, hx => by
    rcases List.mem_cons.mp hx with rfl | hx
    · obtain ⟨n, hn, o⟩ := h r (by simp)
      obtain ⟨a1, a2, a3, a4, a5⟩ := a
      exact ⟨n, hn, ⟨by rw [a1]; exact o.nm, by rw [a2]; exact o.c0, by rw [a2]; exact o.c1, a4, a5, by rw [a3]; exact o.e0, by rw [a3]; exact o.e1⟩⟩
    · exact nw_ok t (fun y hy => h y (by simp [hy])) x hx
theorem nw_rsp {wd : Nat} {es rs : List Rec} (h : Nw wd es rs) (sp : RsP wd rs) : RsP wd es := ⟨by rw [nw_names h]; exact sp.pw, by rw [nw_names h]; exact sp.nd, nw_ok h sp.ok⟩
theorem noL_rec (r : Rec) : noL (encR r) = true := by simp [encR, noL, noLs, noL_ints]
def spPr : Sp := fun vs H Q _ => ∃ (l : Addr) (n wd : Nat), vs = [.ref l, .int (n : Int), .int (wd : Int)] ∧ StO H l ∧ n ≤ 61 ∧ 2 ≤ wd ∧ wd ≤ 4 ∧
  ∀ H' p rs, Keep l H H' → StO H' l → RsP wd rs → rs.length = n → Dx (hid l H') (.ref p) (.tuple (rs.map encR)) → Q (.ref p) H'
section
variable {P : Program} {w : World} {K : PySem.W.Frag} {mg : Str → Option Value} {base : Heap}
theorem ok_pr {k : Nat} {f fD fR : Addr} {fd gD gR : FuncData} (B : Bl mg) (D : Df K mg "_law_point_rowset" sPr ["stream", "many", "wide"] f fd) (DD : Df K mg "_law_draw" sDraw ["stream", "total"] fD gD) (DR : Df K mg "_law_rowset" sRs ["stream", "total", "wide"] fR gR)
    (GD : FnOk P w K mg base CX0 k fD gD ["stream", "total"] spDraw) (GR : FnOk P w K mg base CX0 k fR gR ["stream", "total", "wide"] spRs) : FnOk P w K mg base CX0 (k + 1) f fd ["stream", "many", "wide"] spPr := by
  refine D.F.ok scPr (fun vs H Q E h => ?_) (fun cdv A outer s H vs Q E hr h => ?_)
  · obtain ⟨l, n, wd, rfl, _⟩ := h
    rfl
  · obtain ⟨l, n, wd, rfl, st, hn, w2, w4, q⟩ := h
    have nd := scPr.nd
    have big : (1000 : Nat) < sizeLine := by decide
    refine ⟨_, pss_cons (ps_set (i := 3) nd rfl (.inl rfl) (pe_call GR hr (by rfl) DR.g DR.F.kp DR.b .nil pass0 (pa_cons (pv 0) (pa_cons (pv 1) (pa_cons (pv 2) pa_nil)))))
      (pss_cons (ps_par (i := 4) (j := 5) rfl nd rfl rfl (by decide) rfl rfl (pa_cons (pe_call GD hr (by rfl) DD.g DD.F.kp DD.b .nil pass0 (pa_cons (pv 0) (pa_cons pe_int pa_nil))) (pa_cons (pe_op op_sub (pe_op op_pow pe_int pe_int) (pe_call GD hr (by rfl) DD.g DD.F.kp DD.b .nil pass0 (pa_cons (pv 0) (pa_cons pe_int pa_nil)))) pa_nil)) (by rfl))
      (pss_cons (ps_if (pt_cmpR op_gt (pv 4) pe_int (nomark _)) (pss_one (ps_ret (pv 3))) pss_nil)
      (pss_cons (ps_set (i := 6) nd rfl (.inl rfl) (pe_lst pa_nil))
      (pss_cons (ps_set (i := 7) nd rfl (.inl rfl) (pe_tup (pa_cons (pe_op op_sub (pe_call GD hr (by rfl) DD.g DD.F.kp DD.b .nil pass0 (pa_cons (pv 0) (pa_cons pe_int pa_nil))) pe_int) (pa_cons (pe_op op_sub (pe_call GD hr (by rfl) DD.g DD.F.kp DD.b .nil pass0 (pa_cons (pv 0) (pa_cons pe_int pa_nil))) pe_int) pa_nil))))
      (pss_cons (ps_for PassesOwn.never rfl (pi_tup (pv 3)) (pg_name (i := 8) nd rfl (.inl rfl))
        (pss_cons (ps_set (i := 9) nd rfl (.inl rfl) (pe_op op_sub (pe_call GD hr (by rfl) DD.g DD.F.kp DD.b .nil pass0 (pa_cons (pv 0) (pa_cons pe_int pa_nil))) pe_int))
        (pss_cons (ps_set (i := 10) nd rfl (.inl rfl) (pe_ix ix_list (pe_lst (pa_cons (pe_tup (pa_cons pe_int (pa_cons pe_int pa_nil))) (pa_cons (pe_tup (pa_cons (pv 5) (pa_cons (pe_op op_sub (pv 5) pe_int) pa_nil))) (pa_cons (pe_tup (pa_cons (pe_op op_sub pe_int (pv 5)) (pa_cons (pe_op op_sub pe_int (pv 5)) pa_nil))) pa_nil)))) (pe_op op_mod (pv 9) pe_int) (fun _ _ => rfl)))
        (pss_cons (ps_set (i := 11) nd rfl (.inl rfl) (pe_ix ix_list (pe_lst (pa_cons (pe_tup (pa_cons (pe_op op_mul (pv 9) (pe_ix ix_tup (pv 7) pe_int (fun _ _ => rfl))) (pa_cons (pe_op op_mul (pv 9) (pe_ix ix_tup (pv 7) pe_int (fun _ _ => rfl))) pa_nil)))
            (pa_cons (pe_tup (pa_cons (pv 9) (pa_cons (pe_call GD hr (by rfl) DD.g DD.F.kp DD.b .nil pass0 (pa_cons (pv 0) (pa_cons pe_int pa_nil))) pa_nil))) (pa_cons (pe_tup (pa_cons (pe_op op_add (pe_op op_sub (pe_op op_pow pe_int pe_int) pe_int) (pe_op op_mod (pv 9) pe_int)) (pa_cons (pv 9) pa_nil))) (pa_cons (pv 10) pa_nil))))) (pv 4) (fun _ _ => rfl)))
        (pss_one (ps_expr (pe_bm PySem.F.plainAttrs_list PySem.F.slot_list_append PySem.F.type_list_append mt_append (pv 6) (pa_cons (pe_tup (pa_cons (pe_ix ix_tup (pv 8) pe_int (fun _ _ => rfl)) (pa_cons (pe_ix ix_tup (pv 8) pe_int (fun _ _ => rfl))
            (pa_cons (pe_slice sl_tupA (pe_op op_catA (pv 11) (pe_tup (pa_cons pe_int (pa_cons pe_int pa_nil)))) po_none (po_some (pv 2))) (pa_cons (pe_ix ix_tup (pv 8) pe_int (fun _ _ => rfl)) pa_nil))))) pa_nil))))))))
      (pss_one (ps_ret (pe_callTy call_tuple_of (by rfl) B.tuple (by decide +kernel) (pa_cons (pv 6) pa_nil))))))))), ?_⟩
    refine ⟨.ref l, rfl, .int (n : Int), rfl, .int (wd : Int), rfl, l, n, wd, rfl, st, hn, by omega, w4, fun H1 pr recs k1 st1 hlen hmade hR => ?_⟩
    have sp := made_rsp hmade (by omega)
    have lrs : (sortR recs).length = n := by rw [← hlen]; exact List.length_mergeSort _
    generalize sortR recs = rs at hR sp lrs
    clear hmade hlen
    change tSeq _ _ _ ([some (.ref l), some (.int (n : Int)), some (.int (wd : Int)), some (.ref pr), none, none, none, none, none, none, none, none] : L2.St) H1
    refine ⟨.ref l, rfl, l, 6, rfl, st1, by decide, by decide, fun H2 way k2 st2 way0 way6 => ?_⟩
    refine ⟨10, 9, rfl, rfl, ⟨by decide, by decide, by decide⟩, .ref l, rfl, l, 4, rfl, st2, by decide, by decide, fun H3 fm k3 st3 fm0 fm4 => ⟨_, _, rfl, rfl, _, _, rfl, ?_⟩⟩
    have e9 : (10 : Int) ^ (9 : Int).toNat = 1000000000 := by decide +kernel
    obtain ⟨far, efar, far0, far1⟩ : ∃ far : Int, (10 : Int) ^ (9 : Int).toNat - fm = far ∧ 1000000000 - 3 ≤ far ∧ far ≤ 1000000000 := ⟨_, rfl, by omega, by omega⟩
    change tSeq _ _ _ ([some (.ref l), some (.int (n : Int)), some (.int (wd : Int)), some (.ref pr), some (.int way), some (.int ((10 : Int) ^ (9 : Int).toNat - fm)), none, none, none, none, none, none] : L2.St) H3
    rw [efar]
    have k13 := k2.trans k3
    have k03 := k1.trans k13
    have hR3 := hR.up k13.same
    refine ⟨.int way, rfl, way, 3, rfl, rfl, _, rfl, ite2 (fun hgt => ?_) fun hgt => ?_⟩
    · exact ⟨.ref pr, rfl, q H3 pr rs k03 st3 sp lrs hR3⟩
    have way3 : way ≤ 3 := by
      by_cases z : 3 < way
      · exact absurd (decide_eq_true z) hgt
      · omega
    refine ⟨by show 0 ≤ sizeLine; omega, fun L nL => ?_⟩
    have hLl : L ≠ l := st3.ne nL
    have stL := st3.new (o := .lst []) nL
    have hHL : H L = none := by
      cases e : H L with
      | none => rfl
      | some o =>
        have := k03 L o hLl e
        rw [nL] at this
        cases this
    have eL0 : (upd H3 L (.lst [])) L = some (.lst []) := upd_same
    have k3L : Keep l H3 (upd H3 L (.lst [])) := (Keep.refl l H3).new nL
    generalize upd H3 L (.lst []) = H4 at stL eL0 k3L
    refine ⟨.ref l, rfl, l, 7, rfl, stL, by decide, by decide, fun H5 s0 k5 st5 s00 s07 => ⟨s0, 3, rfl, rfl, .ref l, rfl, l, 7, rfl, st5, by decide, by decide, fun H6 s1 k6 st6 s10 s17 => ⟨s1, 3, rfl, rfl, by show 2 ≤ sizeLine; omega, fun ts nts => ?_⟩⟩⟩
    have hts : ts ≠ l := st6.ne nts
    have st7 := st6.new (o := .tup [.int (s0 - 3), .int (s1 - 3)]) nts
    have k47 : Keep l H4 (upd H6 ts (.tup [.int (s0 - 3), .int (s1 - 3)])) := (k5.trans k6).new nts
    have ets : (upd H6 ts (.tup [.int (s0 - 3), .int (s1 - 3)])) ts = some (.tup [.int (s0 - 3), .int (s1 - 3)]) := upd_same
    generalize upd H6 ts (.tup [.int (s0 - 3), .int (s1 - 3)]) = H7 at st7 k47 ets
    have eL7 := k47 _ _ hLl eL0
    have k37 := k3L.trans k47
    have k07 := k03.trans k37
    have hR7 := hR3.up k37.same
    obtain ⟨ta, xs, e0, nta, eta, hx⟩ := dx_tupOf hR7
    cases e0
    have lx := hx.len
    rw [List.length_map] at lx
    refine ⟨.ref pr, rfl, pr, rfl, ⟨_, .inl (.inl eta)⟩, ?_⟩
    refine for_tup (K := K) (xs := xs) (fun m σ G => Keep l H G ∧ StO G l ∧ (∀ b zs, b ≠ l → H7 b = some (.tup zs) → G b = some (.tup zs)) ∧ ∃ (vs : List V) (news : List Rec) (o8 o9 o10 o11 : Option V), σ = [some (.ref l), some (.int (n : Int)), some (.int (wd : Int)), some (.ref pr), some (.int way), some (.int far), some (.ref L), some (.ref ts), o8, o9, o10, o11] ∧
        G L = some (.lst vs) ∧ Dxs (hid l G) vs (news.map encR) ∧ Nw wd news (rs.take m))
      ⟨k07, st7, fun b zs _ e => e, [], [], none, none, none, none, rfl, eL7, .nil, .nil⟩ (fun m σ G _ hG => .inl (.inl (hG.2.2.1 _ _ nta eta))) (fun m x σ G hxm hG => ?_) (fun σ G hG => ?_)
    · obtain ⟨kG, stG, tk, vs, news, o8, o9, o10, o11, rfl, eL, hvs, hnw⟩ := hG
      obtain ⟨dd, ed, hdx⟩ := hx.get' hxm
      rw [List.getElem?_map] at ed
      obtain ⟨r, er, rfl⟩ := Option.map_eq_some_iff.mp ed
      have ml : m < rs.length := (List.getElem?_eq_some_iff.mp er).1
      have tkh : TK (hid l H7) (hid l G) := fun b zs e => by
        obtain ⟨nb, e⟩ := hid_some e
        rw [hid_at nb]
        exact tk _ _ nb e
      have hxG := dx_tk tkh _ _ (noL_rec r) hdx
      have etsG := tk _ _ hts ets
      -- at
      refine ⟨.ref l, rfl, l, 5, rfl, stG, by decide, by decide, fun G1 a0 g1 s1' a00 a05 => ⟨a0, 2, rfl, rfl, ?_⟩⟩
      obtain ⟨at_, eat, at0, at1⟩ : ∃ at_ : Int, a0 - 2 = at_ ∧ -2 ≤ at_ ∧ at_ ≤ 2 := ⟨_, rfl, by omega, by omega⟩
      refine gn_to (v := V.int (a0 - 2)) (σ' := ([some (.ref l), some (.int (n : Int)), some (.int (wd : Int)), some (.ref pr), some (.int way), some (.int far), some (.ref L), some (.ref ts), some x, some (.int at_), o10, o11] : L2.St)) (by rw [eat]; rfl) ?_
      dsimp only
      -- narrow
      refine ⟨by show 2 ≤ sizeLine; omega, fun t0 n0 => ⟨.int far, rfl, .int far, rfl, far, 1, rfl, rfl, by show 2 ≤ sizeLine; omega, fun t1 n1 => ⟨.int far, rfl, 1, far, rfl, rfl, .int far, rfl, 2, far, rfl, rfl, by show 2 ≤ sizeLine; omega, fun t2 n2 => ⟨by show 3 ≤ sizeLine; omega, fun pn npn => ?_⟩⟩⟩⟩
      have u0 := same_new (o := .tup [.int 0, .int 0]) n0
      have u1 := same_new (o := .tup [.int far, .int (far - 1)]) n1
      have u2 := same_new (o := .tup [.int (1 - far), .int (2 - far)]) n2
      have u3 := same_new (o := .lst [.ref t0, .ref t1, .ref t2]) npn
      have f0 := u3 _ _ (u2 _ _ (u1 _ _ (upd_same (H := G1) (a := t0) (o := .tup [.int 0, .int 0]))))
      have f1 := u3 _ _ (u2 _ _ (upd_same (H := upd G1 t0 (.tup [.int 0, .int 0])) (a := t1) (o := .tup [.int far, .int (far - 1)])))
      have f2 := u3 _ _ (upd_same (H := upd (upd G1 t0 (.tup [.int 0, .int 0])) t1 (.tup [.int far, .int (far - 1)])) (a := t2) (o := .tup [.int (1 - far), .int (2 - far)]))
      have uA := ((u0.trans u1).trans u2).trans u3
      have ep : (upd (upd (upd (upd G1 t0 (.tup [.int 0, .int 0])) t1 (.tup [.int far, .int (far - 1)])) t2 (.tup [.int (1 - far), .int (2 - far)])) pn (.lst [.ref t0, .ref t1, .ref t2])) pn = some (.lst [.ref t0, .ref t1, .ref t2]) := upd_same
      generalize upd (upd (upd (upd G1 t0 (.tup [.int 0, .int 0])) t1 (.tup [.int far, .int (far - 1)])) t2 (.tup [.int (1 - far), .int (2 - far)])) pn (.lst [.ref t0, .ref t1, .ref t2]) = G2 at f0 f1 f2 uA ep
      obtain ⟨tn, qn, hat, en, bn⟩ : ∃ (t : Addr) (qn : Int × Int), atI [V.ref t0, .ref t1, .ref t2] (at_ % 3) = some (.ref t) ∧ G2 t = some (.tup [.int qn.1, .int qn.2]) ∧ Sml qn := by
        rcases (show at_ % 3 = 0 ∨ at_ % 3 = 1 ∨ at_ % 3 = 2 by omega) with z | z | z
        · rw [z]; exact ⟨t0, (0, 0), rfl, f0, by unfold Sml; omega⟩
        · rw [z]; exact ⟨t1, (far, far - 1), rfl, f1, by unfold Sml; omega⟩
        · rw [z]; exact ⟨t2, (1 - far, 2 - far), rfl, f2, by unfold Sml; omega⟩
      refine ⟨.int at_, rfl, at_, 3, rfl, rfl, (show (0 : Int) < 3 by decide), pn, _, at_ % 3, .ref tn, rfl, rfl, .inl (.inl ep), hat, ?_⟩
      refine gn_to (σ' := ([some (.ref l), some (.int (n : Int)), some (.int (wd : Int)), some (.ref pr), some (.int way), some (.int far), some (.ref L), some (.ref ts), some x, some (.int at_), some (.ref tn), o11] : L2.St)) rfl ?_
      dsimp only
      have g2 := g1.trans (Keep.of uA)
      have st2' := s1'.same uA
      have ets2 := g2 _ _ hts etsG
      clear f0 f1 f2 n0 n1 n2 npn u0 u1 u2 u3 ep hat
      -- worths
      refine ⟨.int at_, rfl, .ref ts, rfl, ts, _, 0, .int (s0 - 3), rfl, rfl, .inl (.inl ets2), rfl, _, _, rfl, rfl, .inl ⟨by omega, by omega⟩, .int at_, rfl, .ref ts, rfl, ts, _, 1, .int (s1 - 3), rfl, rfl, .inl (.inl ets2), rfl, _, _, rfl, rfl, .inl ⟨by omega, by omega⟩, by show 2 ≤ sizeLine; omega, fun t3 n3 => ?_⟩
      refine ⟨.int at_, rfl, .ref l, rfl, l, 3, rfl, st2'.new n3, by decide, by decide, fun G3 d3 g3 st3' d30 d33 => ⟨by show 2 ≤ sizeLine; omega, fun t4 n4 => ?_⟩⟩
      refine ⟨10, 9, rfl, rfl, ⟨by decide, by decide, by decide⟩, _, 1, rfl, rfl, .int at_, rfl, at_, 2, rfl, rfl, (show (0 : Int) < 2 by decide), _, _, rfl, rfl, .int at_, rfl, by show 2 ≤ sizeLine; omega, fun t5 n5 => ?_⟩
      have h3l : t3 ≠ l := st2'.ne n3
      have e3 := g3 _ _ h3l (upd_same (H := G2) (a := t3) (o := .tup [.int (at_ * (s0 - 3)), .int (at_ * (s1 - 3))]))
      refine ⟨.ref tn, rfl, by show 4 ≤ sizeLine; omega, fun pw npw => ?_⟩
      have v4 := same_new (o := .tup [.int at_, .int d3]) n4
      have v5 := same_new (o := .tup [.int ((10 : Int) ^ (9 : Int).toNat - 1 + at_ % 2), .int at_]) n5
      have v6 := same_new (o := .lst [.ref t3, .ref t4, .ref t5, .ref tn]) npw
      have vA := (v4.trans v5).trans v6
      have q3 := vA _ _ e3
      have q4 := v6 _ _ (v5 _ _ (upd_same (H := G3) (a := t4) (o := .tup [.int at_, .int d3])))
      have q5 := v6 _ _ (upd_same (H := upd G3 t4 (.tup [.int at_, .int d3])) (a := t5) (o := .tup [.int ((10 : Int) ^ (9 : Int).toNat - 1 + at_ % 2), .int at_]))
      have epw : (upd (upd (upd G3 t4 (.tup [.int at_, .int d3])) t5 (.tup [.int ((10 : Int) ^ (9 : Int).toNat - 1 + at_ % 2), .int at_])) pw (.lst [.ref t3, .ref t4, .ref t5, .ref tn])) pw = some (.lst [.ref t3, .ref t4, .ref t5, .ref tn]) := upd_same
      have g2t : Keep l G2 (upd G2 t3 (.tup [.int (at_ * (s0 - 3)), .int (at_ * (s1 - 3))])) := (Keep.refl l G2).new n3
      have st4' := st3'.same vA
      have htn : tn ≠ l := fun z => by
        obtain ⟨b1, b2, b3, e⟩ := st2'
        rw [z, e] at en
        cases en
      have g24 := (g2t.trans g3).trans (Keep.of vA)
      have qn' := g24 _ _ htn en
      generalize upd (upd (upd G3 t4 (.tup [.int at_, .int d3])) t5 (.tup [.int ((10 : Int) ^ (9 : Int).toNat - 1 + at_ % 2), .int at_])) pw (.lst [.ref t3, .ref t4, .ref t5, .ref tn]) = G4 at vA q3 q4 q5 epw st4' g24 qn'
      obtain ⟨tw, qw, hatw, ew, bw⟩ : ∃ (t : Addr) (qw : Int × Int), atI [V.ref t3, .ref t4, .ref t5, .ref tn] way = some (.ref t) ∧ G4 t = some (.tup [.int qw.1, .int qw.2]) ∧ Sml qw := by
        rcases (show way = 0 ∨ way = 1 ∨ way = 2 ∨ way = 3 by omega) with rfl | rfl | rfl | rfl
        · refine ⟨t3, (at_ * (s0 - 3), at_ * (s1 - 3)), rfl, q3, ?_⟩
          unfold Sml
          rcases (show at_ = -2 ∨ at_ = -1 ∨ at_ = 0 ∨ at_ = 1 ∨ at_ = 2 by omega) with rfl | rfl | rfl | rfl | rfl <;> dsimp only <;> omega
        · exact ⟨t4, (at_, d3), rfl, q4, by unfold Sml; dsimp only; omega⟩
        · exact ⟨t5, ((10 : Int) ^ (9 : Int).toNat - 1 + at_ % 2, at_), rfl, q5, by unfold Sml; dsimp only; omega⟩
        · exact ⟨tn, qn, rfl, qn', bn⟩
      refine ⟨.int way, rfl, pw, _, way, .ref tw, rfl, rfl, .inl (.inl epw), hatw, ?_⟩
      refine gn_to (σ' := ([some (.ref l), some (.int (n : Int)), some (.int (wd : Int)), some (.ref pr), some (.int way), some (.int far), some (.ref L), some (.ref ts), some x, some (.int at_), some (.ref tn), some (.ref tw)] : L2.St)) rfl ?_
      dsimp only
      have gA := g2.trans g24
      have eL4 := gA _ _ hLl eL
      have htw : tw ≠ l := fun z => by
        obtain ⟨b1, b2, b3, e⟩ := st4'
        rw [z, e] at ew
        cases ew
      clear q3 q4 q5 epw hatw v4 v5 v6 e3 n3 n4 n5 npw vA qn' en
      -- the row
      have hxa := hxG.up gA.same
      obtain ⟨b, z, zs, rfl, eb, ez, ev⟩ := row_dx hxa
      obtain ⟨nbl, eb⟩ := hid_some eb
      have xw : Dx (hid l G4) (.ref tw) (.tuple [.int qw.1, .int qw.2]) := .tup (by rw [hid_at htw]; exact ew) (.cons (.int _) (.cons (.int _) .nil))
      refine ⟨.ref L, rfl, .inl ⟨rfl, _, .inl (.inl eL4)⟩, .ref b, rfl, b, _, 0, .str r.nm, rfl, rfl, .inl (.inl eb), rfl, .ref b, rfl, b, _, 1, .int r.cost, rfl, rfl, .inl (.inl eb), rfl, .ref tw, rfl, by show 2 ≤ sizeLine; omega, fun t6 n6 => ?_⟩
      have h6l : t6 ≠ l := st4'.ne n6
      have w6 := same_new (o := .tup [.int 0, .int 0]) n6
      have x6 : Dx (hid l (upd G4 t6 (.tup [.int 0, .int 0]))) (.ref t6) (.tuple [.int 0, .int 0]) := .tup (by rw [hid_at h6l]; exact upd_same) (.cons (.int _) (.cons (.int _) .nil))
      refine cat_of (xw.up (Keep.of (l := l) w6).same) x6 (st4'.same w6) (by show 2 + 2 ≤ sizeLine; omega) fun G5 p5 g5 st5' x5 => ⟨.int (wd : Int), rfl, (wd : Int), rfl, sl_of x5 st5' fun G6' p6 g6 st6' x6' => ?_⟩
      rw [cutD_to] at x6'
      have g46 : Keep l G4 G6' := ((Keep.of w6).trans g5).trans g6
      have eb6 := g46 _ _ nbl eb
      refine ⟨.ref b, rfl, b, _, 3, .int r.exp, rfl, rfl, .inl (.inl eb6), rfl, by show 4 ≤ sizeLine; omega, fun t7 n7 => ?_⟩
      have h7l : t7 ≠ l := st6'.ne n7
      have w7 := same_new (o := .tup [.str r.nm, .int r.cost, .ref p6, .int r.exp]) n7
      have g47 : Keep l G4 (upd G6' t7 (.tup [.str r.nm, .int r.cost, .ref p6, .int r.exp])) := g46.trans (Keep.of w7)
      have st7' := st6'.same w7
      obtain ⟨e, hen, hev⟩ : ∃ e : Rec, (e.nm = r.nm ∧ e.cost = r.cost ∧ e.exp = r.exp ∧ e.vals.length = wd ∧ ∀ v ∈ e.vals, -1000000000 ≤ v ∧ v ≤ 1000000000) ∧ e = ⟨r.nm, r.cost, [qw.1, qw.2, 0, 0].take wd, r.exp⟩ := by
        refine ⟨⟨r.nm, r.cost, [qw.1, qw.2, 0, 0].take wd, r.exp⟩, ⟨rfl, rfl, rfl, by show ([qw.1, qw.2, 0, 0].take wd).length = wd; rw [List.length_take]; simp; omega, fun v hv => ?_⟩, rfl⟩
        have hv := List.mem_of_mem_take hv
        obtain ⟨b1, b2, b3, b4⟩ := bw
        simp only [List.mem_cons, List.not_mem_nil, or_false] at hv
        rcases hv with rfl | rfl | rfl | rfl <;> omega
      have xe : Dx (hid l (upd G6' t7 (.tup [.str r.nm, .int r.cost, .ref p6, .int r.exp]))) (.ref t7) (encR e) := by
        rw [hev]
        refine .tup (by rw [hid_at h7l]; exact upd_same) (.cons (.str _) (.cons (.int _) (.cons ?_ (.cons (.int _) .nil))))
        have h := x6'.up (Keep.of (l := l) w7).same
        have et : ([PyData.int qw.1, PyData.int qw.2] ++ [PyData.int 0, PyData.int 0]).take wd = ([qw.1, qw.2, 0, 0].take wd).map PyData.int := by rw [List.map_take]; rfl
        rw [et] at h
        exact h
      generalize upd G6' t7 (.tup [.str r.nm, .int r.cost, .ref p6, .int r.exp]) = G8 at g47 st7' xe
      have gZ := gA.trans g47
      have eL8 := g47 _ _ hLl eL4
      have lvs := hvs.len
      have lnw := Paired.length hnw
      rw [List.length_map] at lvs
      rw [List.length_take] at lnw
      refine ⟨L, vs, .ref t7, rfl, rfl, eL8, by omega, ?_⟩
      have tkF : TK (hid l G8) (hid l (upd G8 L (.lst (vs ++ [.ref t7])))) := fun b zs e => by
        obtain ⟨nb, e⟩ := hid_some e
        have : b ≠ L := fun y => by rw [y, eL8] at e; cases e
        rw [hid_at nb, upd_ne this]
        exact e
      refine ⟨fun b o nb e => ?_, ?_, fun b zs nb e => ?_, vs ++ [.ref t7], news ++ [e], _, _, _, _, rfl, upd_same, ?_, ?_⟩
      · rw [upd_ne (ne_of_none e hHL)]
        exact gZ _ _ nb (kG _ _ nb e)
      · obtain ⟨b1, b2, b3, e⟩ := st7'
        exact ⟨b1, b2, b3, by rw [upd_ne hLl.symm]; exact e⟩
      · have e8 := gZ _ _ nb (tk _ _ nb e)
        have : b ≠ L := fun y => by rw [y, eL8] at e8; cases e8
        rw [upd_ne this]
        exact e8
      · rw [List.map_append]
        refine Dxs.app ?_ (.cons (dx_tk tkF _ _ (noL_rec e) xe) .nil)
        exact dxs_tk tkF _ _ (noL_recs news) (hvs.up gZ.same)
      · rw [List.take_add_one, er]
        exact nw_snoc hen hnw
    · obtain ⟨kG, stG, tk, vs, news, o8, o9, o10, o11, rfl, eL, hvs, hnw⟩ := hG
      rw [List.take_of_length_le (by omega)] at hnw
      have lnw := Paired.length hnw
      refine ⟨.ref L, rfl, L, vs, rfl, .inl ⟨.inl (.inl eL), fun p np => ?_⟩⟩
      have hpl : p ≠ l := stG.ne np
      have kp : Keep l G (upd G p (.tup vs)) := (Keep.refl l G).new np
      exact q _ p news (kG.trans kp) (stG.new np) (nw_rsp hnw sp) (by omega) (.tup (by rw [hid_at hpl]; exact upd_same) (hvs.up kp.same))
end
end I1

set_option maxRecDepth 100000
set_option maxHeartbeats 4000000
namespace I1
open PySem PySem.Spec PyProof.Rows L2 KX
/-! ### steps, and what lies on one side -/
def cr (u v : Int × Int) : Int := u.1 * v.2 - u.2 * v.1
def dt (u v : Int × Int) : Int := u.1 * v.1 + u.2 * v.2
def vc (p a : Int × Int) : Int × Int := (a.1 - p.1, a.2 - p.2)
theorem turn_vc (p a b : Int × Int) : turnI p a b = cr (vc p a) (vc p b) := rfl
theorem turn4 (a t r x : Int × Int) : turnI a r x = turnI a t x - turnI a t r + turnI t r x := by
  unfold turnI
  grind
theorem turn_vv (a b c : Int × Int) : turnI a b c = cr (vc a b) (vc b c) := by
  unfold turnI cr vc
  grind
theorem turn_self (a r : Int × Int) : turnI a r a = 0 ∧ turnI a r r = 0 ∧ turnI a a r = 0 := by
  unfold turnI
  grind
theorem tr1 (u1 u2 v1 v2 w1 w2 : Int) : w1 * (u1 * v2 - u2 * v1) + u1 * (v1 * w2 - v2 * w1) = v1 * (u1 * w2 - u2 * w1) := by grind
/-- the half plane before or behind -/
structure Half (HP : Int × Int → Prop) : Prop where
  tr : ∀ {u v w}, HP u → HP v → HP w → 0 ≤ cr u v → 0 ≤ cr v w → 0 ≤ cr u w
  dt : ∀ {u v}, HP u → HP v → cr u v = 0 → 0 < dt u v
  add : ∀ {u v w : Int × Int}, HP u → HP v → w.1 = u.1 + v.1 → w.2 = u.2 + v.2 → HP w
  tot : ∀ u, u = (0, 0) ∨ HP u ∨ HP (-u.1, -u.2)
  irr : ¬ HP (0, 0)
def LexP (u : Int × Int) : Prop := 0 < u.1 ∨ (u.1 = 0 ∧ 0 < u.2)
def LexN (u : Int × Int) : Prop := LexP (-u.1, -u.2)
theorem lex_half : Half LexP := by
  refine ⟨fun {u v w} hu hv hw h1 h2 => ?_, fun {u v} hu hv h => ?_, fun {u v w} hu hv e1 e2 => ?_, fun u => ?_, fun h => ?_⟩
  · obtain ⟨u1, u2⟩ := u
    obtain ⟨v1, v2⟩ := v
    obtain ⟨w1, w2⟩ := w
    replace hu : 0 < u1 ∨ (u1 = 0 ∧ 0 < u2) := hu
    replace hv : 0 < v1 ∨ (v1 = 0 ∧ 0 < v2) := hv
    replace hw : 0 < w1 ∨ (w1 = 0 ∧ 0 < w2) := hw
    have h1 : 0 ≤ u1 * v2 - u2 * v1 := h1
    have h2 : 0 ≤ v1 * w2 - v2 * w1 := h2
    show 0 ≤ u1 * w2 - u2 * w1
    have id := tr1 u1 u2 v1 v2 w1 w2
    rcases hv with kv | ⟨rfl, kv⟩
    · have a : 0 ≤ w1 * (u1 * v2 - u2 * v1) := Int.mul_nonneg (by omega) h1
      have b : 0 ≤ u1 * (v1 * w2 - v2 * w1) := Int.mul_nonneg (by omega) h2
      have c : 0 ≤ v1 * (u1 * w2 - u2 * w1) := by omega
      exact Int.le_of_mul_le_mul_left (by simpa using c) kv
    · have w0 : w1 = 0 := by
        rcases hw with hw | hw
        · have := Int.mul_pos kv hw
          omega
        · exact hw.1
      subst w0
      rw [Int.mul_zero, Int.sub_zero]
      exact Int.mul_nonneg (by omega) (by omega)
  · obtain ⟨u1, u2⟩ := u
    obtain ⟨v1, v2⟩ := v
    replace hu : 0 < u1 ∨ (u1 = 0 ∧ 0 < u2) := hu
    replace hv : 0 < v1 ∨ (v1 = 0 ∧ 0 < v2) := hv
    replace h : u1 * v2 - u2 * v1 = 0 := h
    show 0 < u1 * v1 + u2 * v2
    rcases hu with ku | ⟨rfl, ku⟩
    · rcases hv with kv | ⟨rfl, kv⟩
      · have a := Int.mul_pos ku kv
        have e : u1 * (u2 * v2) = v1 * (u2 * u2) := by grind
        have b : 0 ≤ v1 * (u2 * u2) := Int.mul_nonneg (by omega) (by
          rcases Int.le_total 0 u2 with z | z
          · exact Int.mul_nonneg z z
          · exact Int.mul_nonneg_of_nonpos_of_nonpos z z)
        have c : 0 ≤ u2 * v2 := Int.le_of_mul_le_mul_left (by simpa [e] using b) ku
        omega
      · have := Int.mul_pos ku kv
        omega
    · rcases hv with kv | ⟨rfl, kv⟩
      · have := Int.mul_pos ku kv
        omega
      · have := Int.mul_pos ku kv
        omega
  · unfold LexP at *
    omega
  · obtain ⟨u1, u2⟩ := u
    by_cases z : u1 = 0 ∧ u2 = 0
    · exact .inl (by rw [z.1, z.2])
    · unfold LexP
      dsimp only
      omega
  · unfold LexP at h
    dsimp only at h
    omega
theorem lexn_half : Half LexN := by
  have L := lex_half
  have cn : ∀ u v : Int × Int, cr (-u.1, -u.2) (-v.1, -v.2) = cr u v := fun u v => by unfold cr; grind
  have dn : ∀ u v : Int × Int, I1.dt (-u.1, -u.2) (-v.1, -v.2) = I1.dt u v := fun u v => by unfold I1.dt; grind
  refine ⟨fun {u v w} hu hv hw h1 h2 => ?_, fun {u v} hu hv h => ?_, fun {u v w} hu hv e1 e2 => ?_, fun u => ?_, fun h => ?_⟩
  · have := L.tr hu hv hw (by rw [cn]; exact h1) (by rw [cn]; exact h2)
    rwa [cn] at this
  · have := L.dt hu hv (by rw [cn]; exact h)
    rw [← dn]
    exact this
  · exact L.add (w := (-w.1, -w.2)) hu hv (by dsimp only; omega) (by dsimp only; omega)
  · rcases L.tot (-u.1, -u.2) with h | h | h
    · refine .inl ?_
      simp only [Prod.mk.injEq] at h
      exact Prod.ext (by show u.1 = 0; omega) (by show u.2 = 0; omega)
    · exact .inr (.inl h)
    · exact .inr (.inr h)
  · exact L.irr (by simpa [LexN] using h)
/-! ### what a half of the hull is -/
section
variable {HP : Int × Int → Prop} (L : Half HP)
include L
theorem Half.trans {a b c : Int × Int} (h1 : HP (vc a b)) (h2 : HP (vc b c)) : HP (vc a c) := L.add h1 h2 (by simp only [vc]; omega) (by simp only [vc]; omega)
theorem Half.cases (a b : Int × Int) : a = b ∨ HP (vc a b) ∨ HP (vc b a) := by
  rcases L.tot (vc a b) with h | h | h
  · simp only [vc, Prod.mk.injEq] at h
    exact .inl (Prod.ext (by omega) (by omega))
  · exact .inr (.inl h)
  · refine .inr (.inr ?_)
    have e : ((-(vc a b).1, -(vc a b).2) : Int × Int) = vc b a := by
      simp only [vc, Prod.mk.injEq]
      omega
    rw [← e]
    exact h
theorem Half.ne {a : Int × Int} (h : HP (vc a a)) : False := L.irr (by simpa [vc] using h)
end
/-- all lie to the left of each edge, and the edges turn left -/
def Cv (Q : List (Int × Int)) : List (Int × Int) → Prop
  | c :: b :: rest => (∀ x ∈ Q, 0 ≤ turnI b c x) ∧ (∀ a, rest.head? = some a → 0 < turnI a b c) ∧ Cv Q (b :: rest)
  | _ => True
section
variable {HP : Int × Int → Prop} (L : Half HP)
include L
theorem cv_ext {Q : List (Int × Int)} {r : Int × Int} : ∀ {rest : List (Int × Int)} {c : Int × Int}, (c :: rest).Pairwise (fun x y => HP (vc y x)) → HP (vc c r) → Cv Q (c :: rest) → (∀ a, rest.head? = some a → 0 ≤ turnI a c r) → Cv (r :: Q) (c :: rest)
  | [], c, _, _, _, _ => trivial
  | b :: rest, c, pw, hr, cv, ht => by
    obtain ⟨h1, h2, h3⟩ := cv
    have t0 := ht b rfl
    have hbc : HP (vc b c) := (List.pairwise_cons.mp pw).1 b (by simp)
    refine ⟨fun x hx => ?_, h2, cv_ext (List.pairwise_cons.mp pw).2 (L.trans hbc hr) h3 fun a ea => ?_⟩
    · rcases List.mem_cons.mp hx with rfl | hx
      · exact t0
      · exact h1 x hx
    · have hab : HP (vc a b) := by
        cases rest with
        | nil => cases ea
        | cons d rest =>
          cases ea
          exact (List.pairwise_cons.mp (List.pairwise_cons.mp pw).2).1 _ (by simp)
      have t1 := h2 a ea
      rw [turn_vv] at t1 t0
      have t3 : cr (vc a b) (vc b r) = cr (vc a b) (vc b r) := rfl
      rw [turn_vv]
      have t0' : 0 ≤ cr (vc b c) (vc b r) := by
        have e : cr (vc b c) (vc b r) = cr (vc b c) (vc c r) := by unfold cr vc; grind
        rw [e]
        exact t0
      exact L.tr hab hbc (L.trans hbc hr) (by omega) t0'
theorem pop_ok {Q : List (Int × Int)} {r : Int × Int} : ∀ {rest : List (Int × Int)} {c : Int × Int}, (c :: rest).Pairwise (fun x y => HP (vc y x)) → HP (vc c r) → Cv Q (c :: rest) → (∀ b, (c :: rest).getLast? = some b → ∀ x ∈ Q, x = b ∨ HP (vc b x)) → (∀ x ∈ Q, x = c ∨ HP (vc c x) → 0 ≤ turnI c r x) →
    ∃ c' rest', popP r (c :: rest) = c' :: rest' ∧ Cv Q (c' :: rest') ∧ (∀ x ∈ Q, 0 ≤ turnI c' r x) ∧ (∀ a, rest'.head? = some a → 0 < turnI a c' r) ∧ (c' :: rest').getLast? = (c :: rest).getLast?
  | [], c, _, _, _, hb, hq => ⟨c, [], rfl, trivial, fun x hx => hq x hx (hb c rfl x hx), (fun a h => nomatch h), rfl⟩
  | a :: rest, c, pw, hr, cv, hb, hq => by
    obtain ⟨h1, h2, h3⟩ := cv
    have hac : HP (vc a c) := (List.pairwise_cons.mp pw).1 a (by simp)
    have pw2 := (List.pairwise_cons.mp pw).2
    unfold popP
    by_cases z : turnI a c r ≤ 0
    · rw [if_pos z]
      have hbl : ∀ b, (a :: rest).getLast? = some b → ∀ x ∈ Q, x = b ∨ HP (vc b x) := fun b e => hb b (by rw [List.getLast?_cons_cons]; exact e)
      obtain ⟨c', rest', e1, e2, e3, e4, e5⟩ := pop_ok (r := r) pw2 (L.trans hac hr) h3 hbl fun x hx hax => by
        have g1 := h1 x hx
        rcases L.cases c x with e | hcx | hxc
        · have := hq x hx (.inl e.symm)
          rw [turn4 a c r x]
          omega
        · have := hq x hx (.inr hcx)
          rw [turn4 a c r x]
          omega
        · rcases hax with rfl | hax
          · rw [(turn_self _ _).1]
            exact Int.le_refl _
          · have k := L.tr (u := vc c r) (v := vc a c) (w := vc a x) hr hac hax (by
              have e : cr (vc c r) (vc a c) = - turnI a c r := by unfold cr vc turnI; grind
              rw [e]; omega) (by rw [turn_vc] at g1; exact g1)
            have e : turnI a r x = turnI a c x + cr (vc c r) (vc a x) := by unfold cr vc turnI; grind
            rw [e]
            omega
      exact ⟨c', rest', e1, e2, e3, e4, by rw [e5, List.getLast?_cons_cons]⟩
    · rw [if_neg z]
      refine ⟨c, a :: rest, rfl, ⟨h1, h2, h3⟩, fun x hx => ?_, fun b eb => ?_, rfl⟩
      · rcases L.cases c x with e | hcx | hxc
        · exact hq x hx (.inl e.symm)
        · exact hq x hx (.inr hcx)
        · have g1 := h1 x hx
          have k := L.tr (u := vc x c) (v := vc a c) (w := vc c r) hxc hac hr (by
            have e : cr (vc x c) (vc a c) = turnI a c x := by unfold cr vc turnI; grind
            rw [e]; exact g1) (by rw [← turn_vv]; omega)
          have e : turnI c r x = cr (vc x c) (vc c r) := by unfold cr vc turnI; grind
          rw [e]
          exact k
      · cases eb
        omega
theorem half_ok : ∀ {l st Q : List (Int × Int)}, (∀ x, x ∈ Q → x ∈ st ∨ x ∉ l) → st.Pairwise (fun x y => HP (vc y x)) → l.Pairwise (fun x y => HP (vc x y)) → (∀ x ∈ Q, ∀ y ∈ l, HP (vc x y)) → (∀ x ∈ st, x ∈ Q) → Cv Q st → (∀ b, st.getLast? = some b → ∀ x ∈ Q, x = b ∨ HP (vc b x)) → (∀ c, st.head? = some c → ∀ x ∈ Q, x = c ∨ HP (vc x c)) → (st = [] → Q = []) →
    ∃ st', halfS st l = st' ∧ st'.Pairwise (fun x y => HP (vc y x)) ∧ Cv (l.reverse ++ Q) st' ∧ (∀ b, st'.getLast? = some b → ∀ x ∈ l.reverse ++ Q, x = b ∨ HP (vc b x)) ∧ (∀ c, st'.head? = some c → ∀ x ∈ l.reverse ++ Q, x = c ∨ HP (vc x c))
  | [], st, Q, _, pw, _, _, _, cv, hb, ht, _ => ⟨st, rfl, pw, cv, hb, ht⟩
  | r :: l, st, Q, hQ, pw, pl, hql, hs, cv, hb, ht, hn => by
    have pl2 := List.pairwise_cons.mp pl
    have key : ∃ p, popP r st = p ∧ p.Sublist st ∧ Cv (r :: Q) (r :: p) ∧ p.getLast? = st.getLast? ∧ (p = [] → st = []) := by
      cases st with
      | nil => exact ⟨[], rfl, List.Sublist.refl _, trivial, rfl, fun h => h⟩
      | cons c rest =>
        have hcr : HP (vc c r) := hql c (hs c (by simp)) r (by simp)
        obtain ⟨c', rest', e1, e2, e3, e4, e5⟩ := pop_ok L (r := r) pw hcr cv hb fun x hx hc => by
          rcases ht c rfl x hx with rfl | h
          · rw [(turn_self _ _).1]
            exact Int.le_refl _
          · rcases hc with rfl | hc
            · rw [(turn_self _ _).1]
              exact Int.le_refl _
            · exact absurd (L.trans h hc) fun z => L.ne z
        have sb : (c' :: rest').Sublist (c :: rest) := by
          rw [← e1]
          exact popP_sub
        have hc'r : HP (vc c' r) := hql c' (hs c' (sb.subset (by simp))) r (by simp)
        refine ⟨c' :: rest', e1, sb, ⟨fun x hx => ?_, e4, cv_ext L (pw.sublist sb) hc'r e2 fun a ea => Int.le_of_lt (e4 a ea)⟩, e5, fun z => nomatch z⟩
        rcases List.mem_cons.mp hx with rfl | hx
        · rw [(turn_self _ _).2.1]
          exact Int.le_refl _
        · exact e3 x hx
    obtain ⟨p, ep, sb, cv2, gl, pn⟩ := key
    have hs2 : ∀ x ∈ p, x ∈ Q := fun x hx => hs x (sb.subset hx)
    have step := half_ok (l := l) (st := r :: p) (Q := r :: Q) (fun x hx => ?_) (List.pairwise_cons.mpr ⟨fun x hx => hql x (hs2 x hx) r (by simp), pw.sublist sb⟩) pl2.2 (fun x hx y hy => ?_) (fun x hx => ?_) cv2 (fun b eb x hx => ?_) (fun c ec x hx => ?_) (fun z => nomatch z)
    · obtain ⟨st', e1, e2, e3, e4, e5⟩ := step
      have eq : (r :: l).reverse ++ Q = l.reverse ++ (r :: Q) := by simp
      rw [eq]
      refine ⟨st', ?_, e2, e3, e4, e5⟩
      show halfS (r :: popP r st) l = st'
      rw [ep]
      exact e1
    · rcases List.mem_cons.mp hx with rfl | hx
      · exact .inl (by simp)
      · refine .inr fun hl => ?_
        exact L.ne (hql x hx x (by simp [hl]))
    · rcases List.mem_cons.mp hx with rfl | hx
      · exact pl2.1 y hy
      · exact hql x hx y (by simp [hy])
    · rcases List.mem_cons.mp hx with rfl | hx
      · simp
      · simp [hs2 x hx]
    · cases p with
      | nil =>
        have eb : r = b := by simpa using eb
        subst eb
        rcases List.mem_cons.mp hx with rfl | hx
        · exact .inl rfl
        · rw [hn (pn rfl)] at hx
          cases hx
      | cons c p =>
        rw [List.getLast?_cons_cons, gl] at eb
        rcases List.mem_cons.mp hx with rfl | hx
        · exact .inr (hql b (hs b (List.mem_of_getLast? eb)) x (by simp))
        · exact hb b eb x hx
    · have ec : r = c := by simpa using ec
      subst ec
      rcases List.mem_cons.mp hx with rfl | hx
      · exact .inl rfl
      · exact .inr (hql x hx r (by simp))
end
end I1

set_option maxRecDepth 100000
set_option maxHeartbeats 4000000
namespace I1
open PySem PySem.Spec PyProof.Rows L2 KX
/-! ### in a segment or a triangle of others -/
def alI (h a b : Int × Int) : Int := (a.1 - h.1) * (b.1 - h.1) + (a.2 - h.2) * (b.2 - h.2)
def inC (h : Int × Int) (a b : Int × Int) (c : Int × Int) : Bool := decide (0 < turnI h a b) && (decide (0 < turnI h b c) && decide (0 < turnI h c a))
def inB (h : Int × Int) (ps : List (Int × Int)) (a b : Int × Int) : Bool := (decide (turnI h a b = 0) && decide (alI h a b ≤ 0)) || ps.any fun c => inC h a b c
def inH (h : Int × Int) (ps : List (Int × Int)) : Bool := ps.any fun a => ps.any fun b => inB h ps a b
theorem inH_iff {h : Int × Int} {ps : List (Int × Int)} : inH h ps = false ↔ (∀ a ∈ ps, ∀ b ∈ ps, ¬ (turnI h a b = 0 ∧ alI h a b ≤ 0)) ∧ ∀ a ∈ ps, ∀ b ∈ ps, ∀ c ∈ ps, ¬ (0 < turnI h a b ∧ 0 < turnI h b c ∧ 0 < turnI h c a) := by
  unfold inH
  rw [List.any_eq_false]
  constructor
  · intro k
    refine ⟨fun a ha b hb z => k a ha (List.any_eq_true.mpr ⟨b, hb, ?_⟩), fun a ha b hb c hc z => k a ha (List.any_eq_true.mpr ⟨b, hb, ?_⟩)⟩
    · unfold inB
      rw [decide_eq_true z.1, decide_eq_true z.2]
      rfl
    · unfold inB
      rw [Bool.or_eq_true]
      refine .inr (List.any_eq_true.mpr ⟨c, hc, ?_⟩)
      unfold inC
      rw [decide_eq_true z.1, decide_eq_true z.2.1, decide_eq_true z.2.2]
      rfl
  · intro k a ha z
    obtain ⟨b, hb, z⟩ := List.any_eq_true.mp z
    unfold inB at z
    rw [Bool.or_eq_true, Bool.and_eq_true] at z
    rcases z with z | z
    · exact k.1 a ha b hb ⟨of_decide_eq_true z.1, of_decide_eq_true z.2⟩
    · obtain ⟨c, hc, z⟩ := List.any_eq_true.mp z
      unfold inC at z
      rw [Bool.and_eq_true, Bool.and_eq_true] at z
      exact k.2 a ha b hb c hc ⟨of_decide_eq_true z.1, of_decide_eq_true z.2.1, of_decide_eq_true z.2.2⟩
theorem cone_out {HP : Int × Int → Prop} (L : Half HP) {p : Int × Int} {os : List (Int × Int)} (g : Int × Int → Int × Int) (ec : ∀ a b, turnI p a b = cr (g a) (g b)) (ed : ∀ a b, alI p a b = dt (g a) (g b)) (h : ∀ x ∈ os, HP (g x)) : inH p os = false := by
  rw [inH_iff]
  refine ⟨fun a ha b hb z => ?_, fun a ha b hb c hc z => ?_⟩
  · rw [ec, ed] at z
    have := L.dt (h a ha) (h b hb) z.1
    omega
  · rw [ec, ec, ec] at z
    have k := L.tr (h a ha) (h b hb) (h c hc) (by omega) (by omega)
    have e : cr (g c) (g a) = - cr (g a) (g c) := by unfold cr; grind
    omega
theorem dir_out {p d : Int × Int} {os : List (Int × Int)} (h : ∀ x ∈ os, 0 < dt d (vc p x)) : inH p os = false := by
  rw [inH_iff]
  refine ⟨fun a ha b hb z => ?_, fun a ha b hb c hc z => ?_⟩
  · have h1 := h a ha
    have h2 := h b hb
    have e : dt d (vc p a) * dt (vc p b) (vc p b) = dt d (vc p b) * alI p a b + turnI p a b * dt (-d.2, d.1) (vc p b) := by unfold dt vc alI turnI; grind
    rw [z.1, Int.zero_mul, Int.add_zero] at e
    have l : dt d (vc p b) * alI p a b ≤ 0 := Int.mul_nonpos_of_nonneg_of_nonpos (by omega) z.2
    have sq : ∀ t : Int, 0 ≤ t * t := fun t => by
      rcases Int.le_total 0 t with y | y
      · exact Int.mul_nonneg y y
      · exact Int.mul_nonneg_of_nonpos_of_nonpos y y
    have q1 := sq (vc p b).1
    have q2 := sq (vc p b).2
    have n : dt (vc p b) (vc p b) = (vc p b).1 * (vc p b).1 + (vc p b).2 * (vc p b).2 := rfl
    by_cases y : 0 < dt (vc p b) (vc p b)
    · have := Int.mul_pos h1 y
      omega
    · have y1 : (vc p b).1 * (vc p b).1 = 0 := by omega
      have y2 : (vc p b).2 * (vc p b).2 = 0 := by omega
      have z1 : (vc p b).1 = 0 := by
        rcases Int.mul_eq_zero.mp y1 with x | x <;> exact x
      have z2 : (vc p b).2 = 0 := by
        rcases Int.mul_eq_zero.mp y2 with x | x <;> exact x
      unfold dt at h2
      rw [z1, z2, Int.mul_zero, Int.mul_zero] at h2
      omega
  · have h1 := h a ha
    have h2 := h b hb
    have h3 := h c hc
    have e : turnI p a b * dt d (vc p c) + turnI p b c * dt d (vc p a) + turnI p c a * dt d (vc p b) = 0 := by unfold dt vc turnI; grind
    have a1 := Int.mul_pos z.1 h3
    have a2 := Int.mul_pos z.2.1 h1
    have a3 := Int.mul_pos z.2.2 h2
    omega
theorem cv_mem {Q : List (Int × Int)} {p : Int × Int} : ∀ {st : List (Int × Int)}, Cv Q st → p ∈ st → st.head? = some p ∨ st.getLast? = some p ∨ ∃ a c, (∀ x ∈ Q, 0 ≤ turnI p c x ∧ 0 ≤ turnI a p x) ∧ 0 < turnI a p c
  | [], _, h => nomatch h
  | [c], _, h => .inl (by rw [List.mem_singleton.mp h]; rfl)
  | c :: b :: rest, cv, h => by
    obtain ⟨h1, h2, h3⟩ := cv
    rcases List.mem_cons.mp h with rfl | h
    · exact .inl rfl
    · rcases cv_mem h3 h with k | k | k
      · cases k
        cases rest with
        | nil => exact .inr (.inl rfl)
        | cons a rest => exact .inr (.inr ⟨a, c, fun x hx => ⟨h1 x hx, h3.1 x hx⟩, h2 a rfl⟩)
      · exact .inr (.inl (by rw [List.getLast?_cons_cons]; exact k))
      · exact .inr (.inr k)
theorem half_out {HP : Int × Int → Prop} (L : Half HP) {l os : List (Int × Int)} {p : Int × Int} (pl : l.Pairwise (fun x y => HP (vc x y))) (hp : p ∈ halfS [] l) (ho : ∀ x ∈ os, x ∈ l ∧ x ≠ p) : inH p os = false := by
  obtain ⟨st, e1, e2, e3, e4, e5⟩ := half_ok L (l := l) (st := []) (Q := []) (fun x hx => nomatch hx) .nil pl (fun x hx => nomatch hx) (fun x hx => nomatch hx) trivial (fun b h => nomatch h) (fun b h => nomatch h) (fun _ => rfl)
  rw [e1] at hp
  have hm : ∀ x ∈ os, x ∈ l.reverse ++ [] := fun x hx => by simpa using (ho x hx).1
  rcases cv_mem e3 hp with k | k | ⟨a, c, k, t⟩
  · refine cone_out L (fun x => vc x p) (fun a b => by unfold turnI cr vc; grind) (fun a b => by unfold alI dt vc; grind) fun x hx => ?_
    exact (e5 p k x (hm x hx)).resolve_left (ho x hx).2
  · refine cone_out L (fun x => vc p x) (fun a b => rfl) (fun a b => rfl) fun x hx => ?_
    exact (e4 p k x (hm x hx)).resolve_left (ho x hx).2
  · refine dir_out (d := (-((vc a p).2 + (vc p c).2), (vc a p).1 + (vc p c).1)) fun x hx => ?_
    obtain ⟨g1, g2⟩ := k x (hm x hx)
    have e : dt (-((vc a p).2 + (vc p c).2), (vc a p).1 + (vc p c).1) (vc p x) = turnI p c x + turnI a p x := by unfold dt vc turnI; grind
    rw [e]
    by_cases z : turnI p c x = 0 ∧ turnI a p x = 0
    · exfalso
      have i1 : turnI a p c * (vc p x).1 = turnI a p x * (vc p c).1 - turnI p c x * (vc a p).1 := by unfold vc turnI; grind
      have i2 : turnI a p c * (vc p x).2 = turnI a p x * (vc p c).2 - turnI p c x * (vc a p).2 := by unfold vc turnI; grind
      rw [z.1, z.2, Int.zero_mul, Int.zero_mul] at i1 i2
      have x1 : (vc p x).1 = 0 := by
        rcases Int.mul_eq_zero.mp (i1.trans (Int.sub_zero 0)) with y | y
        · omega
        · exact y
      have x2 : (vc p x).2 = 0 := by
        rcases Int.mul_eq_zero.mp (i2.trans (Int.sub_zero 0)) with y | y
        · omega
        · exact y
      simp only [vc] at x1 x2
      exact (ho x hx).2 (Prod.ext (by omega) (by omega))
    · omega
/-! ### what is in no segment and no triangle of others is alone the farthest in a direction -/
theorem par_id (u v x : Int × Int) : cr x v * dt u u = dt u v * cr x u + cr u v * dt x u := by
  unfold cr dt
  grind
theorem sq_nn (u : Int × Int) : 0 ≤ dt u u := by
  have sq : ∀ t : Int, 0 ≤ t * t := fun t => by
    rcases Int.le_total 0 t with y | y
    · exact Int.mul_nonneg y y
    · exact Int.mul_nonneg_of_nonpos_of_nonpos y y
  have := sq u.1
  have := sq u.2
  unfold dt
  omega
theorem par {u v x : Int × Int} (h1 : cr u v = 0) (h2 : 0 < dt u v) (h3 : 0 < cr x u) : 0 < cr x v := by
  have e := par_id u v x
  rw [h1, Int.zero_mul, Int.add_zero] at e
  have a := Int.mul_pos h2 h3
  have b := sq_nn u
  by_cases z : 0 < cr x v
  · exact z
  · have : cr x v * dt u u ≤ 0 := Int.mul_nonpos_of_nonpos_of_nonneg (by omega) b
    omega
theorem cr_neg (u v : Int × Int) : cr u v = - cr v u := by unfold cr; grind
theorem ext : ∀ (W : List (Int × Int)), W ≠ [] → (∀ u ∈ W, ∀ v ∈ W, ¬ (cr u v = 0 ∧ dt u v ≤ 0)) → (∀ u ∈ W, ∀ v ∈ W, ∀ w ∈ W, ¬ (0 < cr u v ∧ 0 < cr v w ∧ 0 < cr w u)) → ∃ u ∈ W, ∃ w ∈ W, ∀ v ∈ W, 0 ≤ cr u v ∧ 0 ≤ cr v w
  | [], n, _, _ => absurd rfl n
  | [x], _, _, _ => ⟨x, by simp, x, by simp, fun v hv => by
    rw [List.mem_singleton.mp hv]
    have : cr x x = 0 := by unfold cr; grind
    omega⟩
  | x :: y :: W, _, h1, h2 => by
    obtain ⟨u, hu, w, hw, k⟩ := ext (y :: W) (by simp) (fun a ha b hb => h1 a (List.mem_cons_of_mem _ ha) b (List.mem_cons_of_mem _ hb)) (fun a ha b hb c hc => h2 a (List.mem_cons_of_mem _ ha) b (List.mem_cons_of_mem _ hb) c (List.mem_cons_of_mem _ hc))
    generalize y :: W = V at *
    have hx : x ∈ x :: V := by simp
    have hin : ∀ v ∈ V, v ∈ x :: V := fun v hv => List.mem_cons_of_mem _ hv
    have xx : cr x x = 0 := by unfold cr; grind
    by_cases z1 : cr u x < 0
    · have n1 := cr_neg u x
      have key : ∀ v ∈ V, 0 ≤ cr x v := fun v hv => by
        by_cases y : 0 ≤ cr x v
        · exact y
        · exfalso
          have n2 := cr_neg v x
          have g := (k v hv).1
          by_cases z : cr u v = 0
          · have d := h1 u (hin u hu) v (hin v hv)
            have := par z (by omega) (show 0 < cr x u by omega)
            omega
          · exact h2 u (hin u hu) v (hin v hv) x hx ⟨by omega, by omega, by omega⟩
      refine ⟨x, hx, w, hin w hw, fun v hv => ?_⟩
      rcases List.mem_cons.mp hv with rfl | hv
      · exact ⟨by omega, key w hw⟩
      · exact ⟨key v hv, (k v hv).2⟩
    · by_cases z2 : cr x w < 0
      · have n1 := cr_neg w x
        have key : ∀ v ∈ V, 0 ≤ cr v x := fun v hv => by
          by_cases y : 0 ≤ cr v x
          · exact y
          · exfalso
            have n2 := cr_neg v x
            have g := (k v hv).2
            by_cases z : cr v w = 0
            · have d := h1 v (hin v hv) w (hin w hw)
              have := par z (by omega) (show 0 < cr x v by omega)
              omega
            · exact h2 v (hin v hv) w (hin w hw) x hx ⟨by omega, by omega, by omega⟩
        refine ⟨u, hin u hu, x, hx, fun v hv => ?_⟩
        rcases List.mem_cons.mp hv with rfl | hv
        · exact ⟨by omega, by omega⟩
        · exact ⟨(k v hv).1, key v hv⟩
      · refine ⟨u, hin u hu, w, hin w hw, fun v hv => ?_⟩
        rcases List.mem_cons.mp hv with rfl | hv
        · exact ⟨by omega, by omega⟩
        · exact k v hv
theorem far_dir {W : List (Int × Int)} (h1 : ∀ u ∈ W, ∀ v ∈ W, ¬ (cr u v = 0 ∧ dt u v ≤ 0)) (h2 : ∀ u ∈ W, ∀ v ∈ W, ∀ w ∈ W, ¬ (0 < cr u v ∧ 0 < cr v w ∧ 0 < cr w u)) : ∃ d, ∀ v ∈ W, 0 < dt d v := by
  by_cases n : W = []
  · exact ⟨(0, 0), fun v hv => by rw [n] at hv; cases hv⟩
  · obtain ⟨u, hu, w, hw, k⟩ := ext W n h1 h2
    by_cases z : cr u w = 0
    · refine ⟨u, fun v hv => ?_⟩
      have d := h1 u hu w hw
      have kv := k v hv
      have d2 := h1 u hu v hv
      by_cases y : cr u v = 0
      · omega
      · exfalso
        have e := par_id u w v
        rw [z, Int.zero_mul, Int.add_zero] at e
        have n2 := cr_neg v u
        have a : 0 < dt u w * cr u v := Int.mul_pos (by omega) (by omega)
        have b : 0 ≤ cr v w * dt u u := Int.mul_nonneg kv.2 (sq_nn u)
        rw [n2, Int.mul_neg] at e
        omega
    · refine ⟨(-(u.2 - w.2), u.1 - w.1), fun v hv => ?_⟩
      have kv := k v hv
      have kw := (k w hw).1
      have e : dt (-(u.2 - w.2), u.1 - w.1) v = cr u v + cr v w := by unfold dt cr; grind
      rw [e]
      by_cases y : cr u v = 0 ∧ cr v w = 0
      · exfalso
        have i1 : cr u w * v.1 = cr u v * w.1 + cr v w * u.1 := by unfold cr; grind
        have i2 : cr u w * v.2 = cr u v * w.2 + cr v w * u.2 := by unfold cr; grind
        rw [y.1, y.2, Int.zero_mul, Int.zero_mul, Int.add_zero] at i1 i2
        have x1 : v.1 = 0 := (Int.mul_eq_zero.mp i1).resolve_left z
        have x2 : v.2 = 0 := (Int.mul_eq_zero.mp i2).resolve_left z
        refine h1 v hv v hv ?_
        unfold cr dt
        rw [x1, x2]
        exact ⟨rfl, Int.le_refl _⟩
      · omega
theorem hull_iff {pts os : List (Int × Int)} {p : Int × Int} (nd : pts.Nodup) (hp : p ∈ pts) (ho : ∀ x, x ∈ os ↔ x ∈ pts ∧ x ≠ p) : p ∈ hullP pts ↔ inH p os = false := by
  constructor
  · intro h
    have pw := srt_lx nd
    have hs : ∀ q, q ∈ pts.mergeSort leP ↔ q ∈ pts := fun q => List.mem_mergeSort
    unfold hullP at h
    generalize pts.mergeSort leP = l at pw hs h
    have lx : ∀ {a b : Int × Int}, Lx a b → LexP (vc a b) := fun {a b} h => by
      unfold Lx at h
      unfold LexP vc
      dsimp only
      omega
    have ln : ∀ {a b : Int × Int}, Lx b a → LexN (vc a b) := fun {a b} h => by
      unfold Lx at h
      unfold LexN LexP vc
      dsimp only
      omega
    unfold cornP at h
    rcases List.mem_append.mp h with h | h
    · exact half_out lex_half (pw.imp lx) (List.mem_reverse.mp h) fun x hx => ⟨(hs x).mpr ((ho x).mp hx).1, ((ho x).mp hx).2⟩
    · exact half_out lexn_half ((List.pairwise_reverse.mpr pw).imp ln) (List.mem_reverse.mp (List.mem_filter.mp h).1) fun x hx => ⟨List.mem_reverse.mpr ((hs x).mpr ((ho x).mp hx).1), ((ho x).mp hx).2⟩
  · intro h
    rw [inH_iff] at h
    obtain ⟨d, hd⟩ := far_dir (W := os.map (vc p)) (fun u hu v hv z => by
      obtain ⟨a, ha, rfl⟩ := List.mem_map.mp hu
      obtain ⟨b, hb, rfl⟩ := List.mem_map.mp hv
      exact h.1 a ha b hb z) (fun u hu v hv t ht z => by
      obtain ⟨a, ha, rfl⟩ := List.mem_map.mp hu
      obtain ⟨b, hb, rfl⟩ := List.mem_map.mp hv
      obtain ⟨c, hc, rfl⟩ := List.mem_map.mp ht
      exact h.2 a ha b hb c hc z)
    refine hull_has (d := (-d.1, -d.2)) nd hp fun q hq ne => ?_
    have := hd (vc p q) (List.mem_map.mpr ⟨q, (ho q).mpr ⟨hq, ne⟩, rfl⟩)
    have e : dt d (vc p q) = dot (-d.1, -d.2) p - dot (-d.1, -d.2) q := by unfold dt vc dot; grind
    omega
end I1

set_option maxRecDepth 100000
set_option maxHeartbeats 4000000
namespace I1
open PySem PySem.Spec PyProof.Rows L2 KX
theorem PtAt.tk {H G : Hp} {v : V} {p : Int × Int} (h : PtAt H v p) (k : TK H G) : PtAt G v p := by
  obtain ⟨t, rfl, e⟩ := h
  exact ⟨t, rfl, k _ _ e⟩
theorem fmap_at {α β : Type} (f : α → Option β) {as : List α} {i : Nat} {a : α} (h : as[i]? = some a) : (as.take (i + 1)).filterMap f = (as.take i).filterMap f ++ (f a).toList := by
  rw [List.take_add_one, h, List.filterMap_append]
  cases e : f a <;> simp [e]
theorem pair_tk {β : Type} {Rel : Hp → V → β → Prop} (up : ∀ (H G : Hp) (y : V) (b : β), TK H G → Rel H y b → Rel G y b) {H G : Hp} (k : TK H G) : ∀ {ys : List V} {bs : List β}, Paired (Rel H) ys bs → Paired (Rel G) ys bs
  | [], [], .nil => .nil
  | _ :: _, _ :: _, .cons h t => .cons (up _ _ _ _ k h) (pair_tk up k t)
theorem pair_snoc {α β : Type} {R : α → β → Prop} {a : α} {b : β} (h : R a b) : ∀ {as : List α} {bs : List β}, Paired R as bs → Paired R (as ++ [a]) (bs ++ [b])
  | [], [], .nil => .cons h .nil
  | _ :: _, _ :: _, .cons x t => .cons x (pair_snoc h t)
theorem pair_at {α β : Type} {R : α → β → Prop} : ∀ {as : List α} {bs : List β} {i : Nat} {a : α}, Paired R as bs → as[i]? = some a → ∃ b, bs[i]? = some b ∧ R a b
  | [], [], i, a, .nil, h => by simp at h
  | _ :: _, _ :: _, 0, a, .cons x t, h => by
    cases h
    exact ⟨_, rfl, x⟩
  | _ :: _, _ :: _, i + 1, a, .cons x t, h => by
    obtain ⟨b, e, r⟩ := pair_at t (by simpa using h)
    exact ⟨b, by simpa using e, r⟩
theorem lc_gen {α β : Type} {J : It} {Gd : Hp → Prop} {D : Addr} {xs : List V} {as : List α} {g : TG} {tt : TT} {te : TE} {vs : List Nat} {σ : L2.St} {H1 : Hp} {Qd : Hp → Prop} (f : α → Option β) (Rel : Hp → V → β → Prop) (up : ∀ (H G : Hp) (y : V) (b : β), TK H G → Rel H y b → Rel G y b)
    (wk : Walk J xs.length Gd (YAt xs)) (nD : H1 D = none) (hG : ∀ G, Same H1 G → Gd G) (hl : as.length = xs.length) (h1000 : as.length ≤ 1000)
    (hs : ∀ (i : Nat) (x : V) (a : α) (G : Hp), xs[i]? = some x → as[i]? = some a → Same H1 G → ∀ (Pt : V → Hp → Prop) (Pf : Hp → Prop), (∀ b, f a = some b → ∀ y G', Same G G' → Rel G' y b → Pt y G') → (f a = none → ∀ G', Same G G' → Pf G') →
      g x (wipe σ vs) G fun σ2 H2 => wipe σ2 vs = wipe σ vs ∧ tt σ2 H2 fun b H3 => if b = true then te σ2 H3 Pt else Pf H3)
    (hd : ∀ G ys, Same H1 G → G D = some (.lst ys) → Paired (Rel G) ys (as.filterMap f) → ys.length ≤ as.length → Qd G) :
    ∃ W : Nat → Nat → Hp → Prop, (∃ m, W 0 m (upd H1 D (.lst []))) ∧ ∀ i m H, W i m H →
      (J.stop i H ∧ Qd H) ∨ (J.go i H ∧ ∃ Nx : Hp → Prop, (∀ H', Nx H' → ∃ m', m' < m ∧ W (i + 1) m' H') ∧ ∀ x H', J.yld i H x H' → g x (wipe σ vs) H' fun σ2 H2 => wipe σ2 vs = wipe σ vs ∧ tt σ2 H2 fun b H3 =>
        if b = true then te σ2 H3 fun y H4 => ∃ acc, H4 D = some (.lst acc) ∧ acc.length < sizeLine ∧ Nx (upd H4 D (.lst (acc ++ [y]))) else Nx H3) := by
  have hb : (1000 : Nat) < sizeLine := by decide
  refine lc_it wk (fun i G => Same H1 G ∧ ∃ ys, G D = some (.lst ys) ∧ Paired (Rel G) ys ((as.take i).filterMap f)) ⟨same_new nD, [], upd_same, .nil⟩ (fun i G _ hP => hG G hP.1) (fun i x G G' hi hP hy => ?_) (fun G hP => ?_)
  · obtain ⟨sG, ys, eD, hp⟩ := hP
    obtain ⟨rfl, hxi⟩ := hy
    have ia : i < as.length := by omega
    have ea : as[i]? = some as[i] := List.getElem?_eq_getElem ia
    have el := fmap_at f ea
    have ly : ys.length ≤ i := by
      rw [Paired.length hp]
      exact Nat.le_trans (List.length_filterMap_le _ _) (by rw [List.length_take]; omega)
    refine hs i x as[i] G' hxi ea sG _ _ (fun b eb y G2 s2 hr => ?_) (fun en G2 s2 => ?_)
    · have eD2 := s2 _ _ eD
      refine ⟨ys, eD2, by omega, same_at (sG.trans s2) nD, ys ++ [y], upd_same, ?_⟩
      rw [el, eb]
      have tk : TK G2 (upd G2 D (.lst (ys ++ [y]))) := TK.at eD2 fun xs z => by cases z
      exact pair_snoc (up _ _ _ _ tk hr) (pair_tk up ((TK.same s2).trans tk) hp)
    · rw [en] at el
      refine ⟨sG.trans s2, ys, s2 _ _ eD, ?_⟩
      rw [el]
      simpa using pair_tk up (TK.same s2) hp
  · obtain ⟨sG, ys, eD, hp⟩ := hP
    rw [List.take_of_length_le (by omega)] at hp
    exact hd G ys sG eD hp (by rw [Paired.length hp]; exact List.length_filterMap_le _ _)
theorem lc_genZ {α β : Type} {J : It} {Gd : Hp → Prop} {D : Addr} {fx fy : Nat → Option V} {as : List α} {g : TG} {tt : TT} {te : TE} {vs : List Nat} {σ : L2.St} {H1 : Hp} {Qd : Hp → Prop} (f : α → Option β) (Rel : Hp → V → β → Prop) (up : ∀ (H G : Hp) (y : V) (b : β), TK H G → Rel H y b → Rel G y b)
    (wk : Walk J as.length Gd (YPair fx fy)) (nD : H1 D = none) (hG : ∀ G, Same H1 G → Gd G) (h1000 : as.length ≤ 1000)
    (hs : ∀ (i : Nat) (x z : V) (a : α) (T : Addr) (G : Hp), fx i = some x → fy i = some z → as[i]? = some a → Same H1 G → G T = some (.tup [x, z]) → ∀ (Pt : V → Hp → Prop) (Pf : Hp → Prop), (∀ b, f a = some b → ∀ y G', Same G G' → Rel G' y b → Pt y G') → (f a = none → ∀ G', Same G G' → Pf G') →
      g (.ref T) (wipe σ vs) G fun σ2 H2 => wipe σ2 vs = wipe σ vs ∧ tt σ2 H2 fun b H3 => if b = true then te σ2 H3 Pt else Pf H3)
    (hd : ∀ G ys, Same H1 G → G D = some (.lst ys) → Paired (Rel G) ys (as.filterMap f) → ys.length ≤ as.length → Qd G) :
    ∃ W : Nat → Nat → Hp → Prop, (∃ m, W 0 m (upd H1 D (.lst []))) ∧ ∀ i m H, W i m H →
      (J.stop i H ∧ Qd H) ∨ (J.go i H ∧ ∃ Nx : Hp → Prop, (∀ H', Nx H' → ∃ m', m' < m ∧ W (i + 1) m' H') ∧ ∀ x H', J.yld i H x H' → g x (wipe σ vs) H' fun σ2 H2 => wipe σ2 vs = wipe σ vs ∧ tt σ2 H2 fun b H3 =>
        if b = true then te σ2 H3 fun y H4 => ∃ acc, H4 D = some (.lst acc) ∧ acc.length < sizeLine ∧ Nx (upd H4 D (.lst (acc ++ [y]))) else Nx H3) := by
  have hb : (1000 : Nat) < sizeLine := by decide
  refine lc_it wk (fun i G => Same H1 G ∧ ∃ ys, G D = some (.lst ys) ∧ Paired (Rel G) ys ((as.take i).filterMap f)) ⟨same_new nD, [], upd_same, .nil⟩ (fun i G _ hP => hG G hP.1) (fun i x G G' hi hP hy => ?_) (fun G hP => ?_)
  · obtain ⟨sG, ys, eD, hp⟩ := hP
    obtain ⟨T, x, z, rfl, nT, rfl, ex, ez⟩ := hy
    have ea : as[i]? = some as[i] := List.getElem?_eq_getElem hi
    have el := fmap_at f ea
    have s1 : Same G (upd G T (.tup [x, z])) := same_new nT
    have ly : ys.length ≤ i := by
      rw [Paired.length hp]
      exact Nat.le_trans (List.length_filterMap_le _ _) (by rw [List.length_take]; omega)
    refine hs i x z as[i] T _ ex ez ea (sG.trans s1) upd_same _ _ (fun b eb y G2 s2 hr => ?_) (fun en G2 s2 => ?_)
    · have s2 := s1.trans s2
      have eD2 := s2 _ _ eD
      refine ⟨ys, eD2, by omega, same_at (sG.trans s2) nD, ys ++ [y], upd_same, ?_⟩
      rw [el, eb]
      have tk : TK G2 (upd G2 D (.lst (ys ++ [y]))) := TK.at eD2 fun xs z => by cases z
      exact pair_snoc (up _ _ _ _ tk hr) (pair_tk up ((TK.same s2).trans tk) hp)
    · have s2 := s1.trans s2
      rw [en] at el
      refine ⟨sG.trans s2, ys, s2 _ _ eD, ?_⟩
      rw [el]
      simpa using pair_tk up (TK.same s2) hp
  · obtain ⟨sG, ys, eD, hp⟩ := hP
    rw [List.take_of_length_le (Nat.le_refl _)] at hp
    exact hd G ys sG eD hp (by rw [Paired.length hp]; exact List.length_filterMap_le _ _)
theorem ite_to {b : Bool} {A L : Prop} (h : b = true) (k : A) : if b = true then A else L := by
  rw [h]
  exact iteT k
theorem ite_not {b : Bool} {A L : Prop} (h : b = false) (k : L) : if b = true then A else L := by
  rw [h]
  exact iteF k
theorem fm_if {α β : Type} (c : α → Bool) (g : α → β) : ∀ as : List α, as.filterMap (fun a => if c a = true then some (g a) else none) = (as.filter c).map g
  | [] => rfl
  | a :: as => by
    cases e : c a with
    | true => rw [List.filterMap_cons, List.filter_cons]; simp only [e, if_true]; rw [fm_if c g as]; rfl
    | false => rw [List.filterMap_cons, List.filter_cons]; simp only [e]; rw [fm_if c g as]; rfl
theorem pair_zip {α β : Type} {R : α → β → Prop} : ∀ {as : List α} {bs : List β}, Paired R as bs → (as.zip bs).map (·.1) = as ∧ (as.zip bs).map (·.2) = bs ∧ ∀ q ∈ as.zip bs, R q.1 q.2
  | [], [], .nil => ⟨rfl, rfl, fun q h => nomatch h⟩
  | a :: as, b :: bs, .cons h t => by
    obtain ⟨e1, e2, e3⟩ := pair_zip t
    refine ⟨by simp [e1], by simp [e2], fun q hq => ?_⟩
    rw [List.zip_cons_cons] at hq
    rcases List.mem_cons.mp hq with rfl | hq
    · exact h
    · exact e3 q hq
theorem dxs_pair {H : Hp} {α : Type} {f : α → PyData} : ∀ {ys : List V} {as : List α}, Paired (fun y a => Dx H y (f a)) ys as → Dxs H ys (as.map f)
  | [], [], .nil => .nil
  | _ :: _, _ :: _, .cons h t => .cons h (dxs_pair t)
theorem pair_up {G F : Hp} (s : Same G F) : ∀ {ys : List V} {qs : List (Int × Int)}, Paired (PtAt G) ys qs → Paired (PtAt F) ys qs
  | [], [], .nil => .nil
  | _ :: _, _ :: _, .cons h t => .cons (h.up s) (pair_up s t)
theorem eqv_nil : ∀ es : List Rec, id (PyData.eqv (.list (es.map encR)) (.list [])) = es.isEmpty
  | [] => rfl
  | _ :: _ => rfl
/-! ### _law_hull -/
def lessR (i j : Int) (r e : Rec) : Bool := decide (ptR i j e = ptR i j r) && ltS e.nm r.nm
def othsR (i j : Int) (rs : List Rec) (r : Rec) : List (Int × Int) := (rs.filter fun e => !decide (ptR i j e = ptR i j r)).map (ptR i j)
def lawT (i j : Int) (rs : List Rec) (r : Rec) : Bool := (rs.filter (lessR i j r)).isEmpty && !inH (ptR i j r) (othsR i j rs r)
section
variable {P : Program} {w : World} {K : PySem.W.Frag} {mg : Str → Option Value} {base : Heap}
end
end I1

set_option maxRecDepth 100000
set_option maxHeartbeats 4000000
namespace I1
open PySem PySem.Spec PyProof.Rows L2 KX
/-! ### the law's rows are the hull's rows -/
theorem srtN_leN (ns : List Str) : srtN ns = ns.mergeSort leN := by
  unfold srtN
  have e : PySem.W.dataLe false PyData.str = leN := PySem.W.dataLe_str (fun b : Str => b)
  rw [e]
theorem leN_anti {a b : Str} (h1 : leN a b = true) (h2 : leN b a = true) : a = b := by
  have := List.le_antisymm (of_decide_eq_true h1) (of_decide_eq_true h2)
  cases a
  cases b
  exact congrArg _ (Array.toList_inj.mp this)
theorem srtN_perm {as bs : List Str} (h : as.Perm bs) : srtN as = srtN bs := by
  rw [srtN_leN, srtN_leN]
  exact List.Perm.eq_of_pairwise (le := fun a b => leN a b = true) (fun a b _ _ h1 h2 => leN_anti h1 h2) (List.pairwise_mergeSort le_tr le_tot _) (List.pairwise_mergeSort le_tr le_tot _) ((List.mergeSort_perm _ _).trans (h.trans (List.mergeSort_perm _ _).symm))
theorem asc_tail : ∀ {pre : List Str} {l : List Str}, ascS (pre ++ l) = true → ascS l = true
  | [], l, h => h
  | c :: pre, l, h => asc_tail (asc_cons h).1
theorem fold_has {i j : Int} {e : Rec} : ∀ (rs acc : List Rec), e ∈ rs → ∃ x ∈ rs.foldl (firstR i j) acc, ptR i j x = ptR i j e
  | [], acc, h => nomatch h
  | r :: rs, acc, h => by
    rcases List.mem_cons.mp h with rfl | h
    · have : ∃ x ∈ firstR i j acc e, ptR i j x = ptR i j e := by
        unfold firstR
        split
        · rename_i z
          obtain ⟨x, hx, ex⟩ := List.any_eq_true.mp z
          exact ⟨x, hx, of_decide_eq_true ex⟩
        · exact ⟨e, by simp, rfl⟩
      obtain ⟨x, hx, ex⟩ := this
      exact ⟨x, fold_keep rs _ hx, ex⟩
    · exact fold_has rs _ h
theorem first_iff {i j : Int} {rs : List Rec} {r : Rec} (hasc : ascS (rs.map (fun r : Rec => r.nm)) = true) (nd : (rs.map (fun r : Rec => r.nm)).Nodup) (hr : r ∈ rs) : r ∈ firsts i j rs ↔ (rs.filter (lessR i j r)).isEmpty = true := by
  obtain ⟨pre, post, rfl⟩ := List.append_of_mem hr
  rw [List.map_append, List.map_cons] at hasc nd
  rw [List.isEmpty_iff, List.filter_eq_nil_iff]
  constructor
  · intro h e he z
    unfold lessR at z
    rw [Bool.and_eq_true] at z
    have ze := of_decide_eq_true z.1
    have hpre : e ∈ pre := by
      rcases List.mem_append.mp he with he | he
      · exact he
      · exfalso
        rcases List.mem_cons.mp he with rfl | he
        · rw [lt_irr] at z
          exact absurd z.2 (by decide)
        · have hp := (asc_cons (l := post.map (fun r : Rec => r.nm)) (a := r.nm) (asc_tail hasc)).2 e.nm (List.mem_map.mpr ⟨e, he, rfl⟩)
          have := lt_trs hp z.2
          rw [lt_irr] at this
          cases this
    obtain ⟨x, hx, ex⟩ := fold_has (i := i) (j := j) pre [] hpre
    have hxf : x ∈ firsts i j (pre ++ r :: post) := by
      unfold firsts
      rw [List.foldl_append]
      exact fold_keep _ _ hx
    have ndf : ((firsts i j (pre ++ r :: post)).map (ptR i j)).Nodup := fold_nodup _ [] .nil
    have exr : x = r := nodup_one ndf hxf h (ex.trans ze)
    subst exr
    rcases fold_sub pre [] hx with h2 | h2
    · cases h2
    · exact (List.nodup_append.mp nd).2.2 x.nm (List.mem_map.mpr ⟨x, h2, rfl⟩) x.nm (by simp) rfl
  · intro h
    refine first_of fun e he ze => ?_
    refine h e (List.mem_append.mpr (.inl he)) ?_
    unfold lessR
    rw [decide_eq_true ze, asc_mid hasc e.nm (List.mem_map.mpr ⟨e, he, rfl⟩)]
    rfl
theorem nodup_of {α β : Type} {f : α → β} : ∀ {l : List α}, (l.map f).Nodup → l.Nodup
  | [], _ => .nil
  | a :: l, h => by
    rw [List.map_cons, List.nodup_cons] at h
    exact List.nodup_cons.mpr ⟨fun z => h.1 (List.mem_map.mpr ⟨a, z, rfl⟩), nodup_of h.2⟩
theorem corn_nodup {l : List (Int × Int)} (nd : l.Nodup) : (cornP l).Nodup := by
  have hs : ∀ l : List (Int × Int), (halfP l).Sublist l := fun l => by
    have : ∀ (l st : List (Int × Int)), (halfS st l).reverse.Sublist (st.reverse ++ l) := fun l => by
      induction l with
      | nil => intro st; simp [halfS]
      | cons b l ih =>
        intro st
        have h := ih (b :: popP b st)
        refine h.trans ?_
        rw [List.reverse_cons, List.append_assoc]
        exact (popP_sub.reverse).append (List.Sublist.refl _)
    unfold halfP
    simpa using this l []
  unfold cornP
  rw [List.nodup_append]
  refine ⟨nd.sublist (hs l), (((List.reverse_perm l).nodup_iff.mpr nd).sublist (hs _)).sublist List.filter_sublist, fun a ha b hb e => ?_⟩
  subst e
  have := (List.mem_filter.mp hb).2
  rw [decide_eq_true ha] at this
  cases this
theorem hull_names_lawG {i j : Int} {rs rows : List Rec} (hasc : ascS (rs.map (fun r : Rec => r.nm)) = true) (hnd : (rs.map (fun r : Rec => r.nm)).Nodup) (e1 : rows.map (ptR i j) = hullP ((firsts i j rs).map (ptR i j))) (e2 : ∀ x ∈ rows, x ∈ firsts i j rs) : srtN (rows.map (fun r : Rec => r.nm)) = srtN ((rs.filter (lawT i j rs)).map (fun r : Rec => r.nm)) := by
  have ndf : ((firsts i j rs).map (ptR i j)).Nodup := fold_nodup _ [] .nil
  have ndr : rows.Nodup := by
    have : (rows.map (ptR i j)).Nodup := by
      rw [e1]
      exact corn_nodup ((List.mergeSort_perm _ _).nodup_iff.mpr ndf)
    exact nodup_of this
  have ndl : (rs.filter (lawT i j rs)).Nodup := (nodup_of hnd).sublist List.filter_sublist
  have sub : ∀ x, x ∈ firsts i j rs → x ∈ rs := fun x hx => by
    rcases fold_sub rs [] hx with h | h
    · cases h
    · exact h
  have ho : ∀ r x, x ∈ othsR i j rs r ↔ x ∈ (firsts i j rs).map (ptR i j) ∧ x ≠ ptR i j r := fun r x => by
    unfold othsR
    constructor
    · intro hx
      obtain ⟨e, he, rfl⟩ := List.mem_map.mp hx
      obtain ⟨h1, h2⟩ := List.mem_filter.mp he
      obtain ⟨y, hy, ey⟩ := fold_has (i := i) (j := j) rs [] h1
      refine ⟨List.mem_map.mpr ⟨y, hy, ey⟩, fun z => ?_⟩
      rw [decide_eq_true z] at h2
      cases h2
    · intro hx
      obtain ⟨e, he, rfl⟩ := List.mem_map.mp hx.1
      refine List.mem_map.mpr ⟨e, List.mem_filter.mpr ⟨sub e he, ?_⟩, rfl⟩
      rw [decide_eq_false hx.2]
      rfl
  have key : ∀ r, r ∈ rows ↔ r ∈ rs.filter (lawT i j rs) := fun r => by
    rw [List.mem_filter]
    constructor
    · intro hr
      have hf := e2 r hr
      have hrs := sub r hf
      refine ⟨hrs, ?_⟩
      have hp : ptR i j r ∈ hullP ((firsts i j rs).map (ptR i j)) := by
        rw [← e1]
        exact List.mem_map.mpr ⟨r, hr, rfl⟩
      rw [hull_iff ndf (List.mem_map.mpr ⟨r, hf, rfl⟩) (ho r)] at hp
      unfold lawT
      rw [(first_iff hasc hnd hrs).mp hf, hp]
      rfl
    · intro hr
      obtain ⟨hrs, ht⟩ := hr
      unfold lawT at ht
      rw [Bool.and_eq_true] at ht
      have hf := (first_iff (i := i) (j := j) hasc hnd hrs).mpr ht.1
      have hi : inH (ptR i j r) (othsR i j rs r) = false := by
        cases z : inH (ptR i j r) (othsR i j rs r) with
        | false => rfl
        | true => rw [z] at ht; cases ht.2
      rw [← hull_iff ndf (List.mem_map.mpr ⟨r, hf, rfl⟩) (ho r), ← e1] at hi
      obtain ⟨x, hx, ex⟩ := List.mem_map.mp hi
      rw [← nodup_one ndf (e2 x hx) hf ex]
      exact hx
  exact srtN_perm (((List.perm_ext_iff_of_nodup ndr ndl).mpr key).map _)
theorem hull_names_law {wd : Nat} {i j : Int} {rs rows : List Rec} (h : RsP wd rs) (e1 : rows.map (ptR i j) = hullP ((firsts i j rs).map (ptR i j))) (e2 : ∀ x ∈ rows, x ∈ firsts i j rs) : srtN (rows.map (fun r : Rec => r.nm)) = srtN ((rs.filter (lawT i j rs)).map (fun r : Rec => r.nm)) := hull_names_lawG h.asc h.nd e1 e2
/-! ### columns the other way round -/
def sw (p : Int × Int) : Int × Int := (p.2, p.1)
theorem inH_swap {h : Int × Int} {ps : List (Int × Int)} : inH (sw h) (ps.map sw) = false ↔ inH h ps = false := by
  have t : ∀ p a b : Int × Int, turnI (sw p) (sw a) (sw b) = - turnI p a b := fun p a b => by unfold turnI sw; grind
  have d : ∀ p a b : Int × Int, alI (sw p) (sw a) (sw b) = alI p a b := fun p a b => by unfold alI sw; grind
  have c : ∀ p a b : Int × Int, turnI p a b = - turnI p b a := fun p a b => by unfold turnI; grind
  rw [inH_iff, inH_iff]
  constructor
  · intro k
    refine ⟨fun a ha b hb z => k.1 _ (List.mem_map.mpr ⟨a, ha, rfl⟩) _ (List.mem_map.mpr ⟨b, hb, rfl⟩) ?_, fun a ha b hb e he z => k.2 _ (List.mem_map.mpr ⟨b, hb, rfl⟩) _ (List.mem_map.mpr ⟨a, ha, rfl⟩) _ (List.mem_map.mpr ⟨e, he, rfl⟩) ?_⟩
    · rw [t, d]
      omega
    · rw [t, t, t, c h b a, c h a e, c h e b]
      omega
  · intro k
    refine ⟨fun a' ha b' hb z => ?_, fun a' ha b' hb e' he z => ?_⟩
    · obtain ⟨a, ka, rfl⟩ := List.mem_map.mp ha
      obtain ⟨b, kb, rfl⟩ := List.mem_map.mp hb
      rw [t, d] at z
      exact k.1 a ka b kb (by omega)
    · obtain ⟨a, ka, rfl⟩ := List.mem_map.mp ha
      obtain ⟨b, kb, rfl⟩ := List.mem_map.mp hb
      obtain ⟨e, ke, rfl⟩ := List.mem_map.mp he
      rw [t, t, t, c h a b, c h b e, c h e a] at z
      exact k.2 b kb a ka e ke (by omega)
theorem lawT_swap {i j : Int} {rs : List Rec} {r : Rec} : lawT j i rs r = lawT i j rs r := by
  have pe : ∀ e : Rec, decide (ptR j i e = ptR j i r) = decide (ptR i j e = ptR i j r) := fun e => decide_eq_decide.mpr (by
    unfold ptR
    simp only [Prod.mk.injEq]
    exact And.comm)
  have l : lessR j i r = lessR i j r := funext fun e => by
    unfold lessR
    rw [pe]
  have o : othsR j i rs r = (othsR i j rs r).map sw := by
    unfold othsR
    rw [List.map_map]
    rw [show (fun e => !decide (ptR j i e = ptR j i r)) = (fun e => !decide (ptR i j e = ptR i j r)) from funext fun e => by rw [pe]]
    rfl
  unfold lawT
  rw [l, o]
  have s : inH (ptR j i r) ((othsR i j rs r).map sw) = inH (ptR i j r) (othsR i j rs r) := by
    have := inH_swap (h := ptR i j r) (ps := othsR i j rs r)
    rw [show sw (ptR i j r) = ptR j i r from rfl] at this
    cases a : inH (ptR i j r) (othsR i j rs r) with
    | false => exact this.mpr a
    | true =>
      cases b : inH (ptR j i r) ((othsR i j rs r).map sw) with
      | true => rfl
      | false =>
        rw [this.mp b] at a
        cases a
  rw [s]
theorem law_swap {i j : Int} {rs : List Rec} : rs.filter (lawT j i rs) = rs.filter (lawT i j rs) := List.filter_congr fun e _ => lawT_swap
end I1

set_option maxRecDepth 100000
set_option maxHeartbeats 4000000
namespace KX
open PySem PySem.Spec PyProof.Rows L2 PySem.W
section
variable {X : Cx}
/-- min(l), l a list of alike data: the least item -/
def rMinX {β : Type} (K : PySem.W.Frag) (enc : β → PyData) : List V → Hp → VK → Prop := fun vs H Q => ∃ (a : Addr) (bs : List (V × β)), vs = [.ref a] ∧ SqL K H a (bs.map (·.1)) ∧ bs ≠ [] ∧ (∀ b ∈ bs, Dp K H b.1 (enc b.2)) ∧ (∀ b ∈ bs, (enc b.2).depth ≤ 50) ∧
  (∀ x ∈ bs, ∀ y ∈ bs, alike (enc x.2) (enc y.2) = true) ∧ (∀ x ∈ bs, enc x.2 ≠ .none) ∧ ∀ b ∈ bs, (∃ b0 rest, bs = b0 :: rest ∧ enc b.2 = minD (enc b0.2) (rest.map fun b => enc b.2)) → Q b.1 H
theorem call_minX {β : Type} {enc : β → PyData} {k : Nat} (hcalm : X.calm = true) (hr : Room k X.A) : CallR X (.builtin "min") (rMinX X.K enc) := by
  intro pins s σ H vs us Q I r h
  obtain ⟨a, bs, e, hS, hne, hd, hdp, hal, hnn, q⟩ := h
  subst e
  obtain ⟨u, rfl, ru⟩ := vals1 r
  cases ru
  obtain ⟨its, rv, pl, hz⟩ := I.list hS
  have hlen := rv.length
  rw [List.length_map] at hlen hz
  have hun := hr.un
  have er : EachIs (fun v (b : V × β) => ∃ as, Reads s.heap v (enc b.2) as) its bs := each_pairs (by omega) fun i u b e f => by
    obtain ⟨u', e', ru⟩ := rv.get (i := i) (x := b.1) (by rw [List.getElem?_map, f]; rfl)
    rw [e] at e'
    cases e'
    exact Dp.reads I (enc b.2) b.1 u (hd b (List.mem_of_getElem? f)) ru
  obtain ⟨as, ra⟩ := each_readsAll (fun b : V × β => enc b.2) er
  have fin : ∀ (i : Nat) (v : Value) (h' : PySem.Heap) (tk : Tok) (m : PyData) (cs : List Addr), (∃ b0 rest, bs = b0 :: rest ∧ m = minD (enc b0.2) (rest.map fun b => enc b.2)) → Reads h' v m cs → its.toArray[i]? = some v → (∀ b o, s.heap.get? b = some o → h'.get? b = some o) → EP X pins σ Q v { s with heap := h', toks := tk } := fun i v h' tk m cs hm hrd hv kp => by
    have hv : its[i]? = some v := by simpa using hv
    have hi : i < bs.length := by
      have := (List.getElem?_eq_some_iff.mp hv).1
      omega
    obtain ⟨u', e', ru⟩ := rv.get (i := i) (x := bs[i].1) (by rw [List.getElem?_map, List.getElem?_eq_getElem hi]; rfl)
    rw [hv] at e'
    cases e'
    obtain ⟨as2, r2⟩ := Dp.reads (I.kept (t' := tk) kp) (enc bs[i].2) bs[i].1 v (hd _ (List.getElem_mem hi)) ru
    have eu := (Reads.unique r2 _ _ hrd).1
    obtain ⟨b0, rest, e1, e2⟩ := hm
    exact ⟨bs[i].1, H, I.kept kp, ru, q _ (List.getElem_mem hi) ⟨b0, rest, e1, eu.trans e2⟩⟩
  cases bs with
  | nil => exact absurd rfl hne
  | cons b0 bs =>
    have hdl : PyData.depthAll (enc b0.2 :: bs.map fun b => enc b.2) ≤ 50 := by
      have gen : ∀ es : List PyData, (∀ e ∈ es, e.depth ≤ 50) → PyData.depthAll es ≤ 50 := by
        intro es
        induction es with
        | nil => intro _; simp [PyData.depthAll]
        | cons e es ih =>
          intro h
          have h1 := h e (by simp)
          have h2 := ih fun x hx => h x (by simp [hx])
          simp only [PyData.depthAll]
          omega
      refine gen _ fun e he => ?_
      rcases List.mem_cons.mp he with rfl | he
      · exact hdp b0 (by simp)
      · obtain ⟨b, hb, rfl⟩ := List.mem_map.mp he
        exact hdp b (by simp [hb])
    have mem : ∀ e ∈ enc b0.2 :: bs.map (fun b => enc b.2), ∃ b ∈ b0 :: bs, e = enc b.2 := fun e he => by
      rcases List.mem_cons.mp he with rfl | he
      · exact ⟨b0, by simp, rfl⟩
      · obtain ⟨b, hb, rfl⟩ := List.mem_map.mp he
        exact ⟨b, by simp [hb], rfl⟩
    refine min_list_data (I.ok.hd hcalm) pl.isList (vs := its.toArray) (x := enc b0.2) (xs := bs.map fun b => enc b.2) (as := as) (by simpa using ra) ⟨fun x hx y hy => ?_, fun x hx => ?_⟩ (by omega) fun i v h' tk bs' hv rd kp => fin i v h' tk _ bs' ⟨b0, bs, rfl, rfl⟩ rd hv kp
    · obtain ⟨b, hb, rfl⟩ := mem x hx
      obtain ⟨c, hc, rfl⟩ := mem y hy
      exact hal b hb c hc
    · obtain ⟨b, hb, rfl⟩ := mem x hx
      exact hnn b hb
end
end KX

set_option maxRecDepth 100000
set_option maxHeartbeats 4000000
namespace I1
open PySem PySem.Spec PyProof.Rows L2 KX
/-! ### cost_of a list -/
abbrev sCO : Stmt := topS 32
theorem scCO : FnScope ["rows", "row"] ["rows"] (defScope sCO) := ⟨rfl, rfl, rfl, by decide +kernel, rfl, by decide +kernel, by decide +kernel⟩
def spCOL : Sp := fun vs H Q _ => ∃ (a : Addr) (xs : List V) (rs : List Rec), vs = [.ref a] ∧ H a = some (.lst xs) ∧ Dxs H xs (rs.map encR) ∧ rs.length ≤ 1000 ∧ ∀ H', Same H H' → Q (.int ((rs.map (·.cost)).sum)) H'
theorem ints_of {H : Hp} : ∀ {ys : List V} {ns : List Int}, Paired (fun (y : V) (n : Int) => y = .int n) ys ns → ys = ns.map V.int
  | [], [], .nil => rfl
  | _ :: _, _ :: _, .cons h t => by rw [List.map_cons, h, ints_of (H := H) t]
section
variable {P : Program} {w : World} {K : PySem.W.Frag} {mg : Str → Option Value} {base : Heap}
theorem ok_col {f : Addr} {fd : FuncData} (B : Bl mg) (cc : ∃ t, mg "COST" = some (.int 1 t)) (D : Df K mg "cost_of" sCO ["rows"] f fd) : FnOk P w K mg base CX0 2 f fd ["rows"] spCOL := by
  obtain ⟨tn, mn⟩ := cc
  refine D.F.ok scCO (fun vs H Q E h => ?_) (fun cdv A outer s H vs Q E hr h => ?_)
  · obtain ⟨a, xs, rs, rfl, _⟩ := h
    rfl
  · obtain ⟨a, xs, rs, rfl, ea, hx, hl, q⟩ := h
    have nd := scCO.nd
    have lx := hx.len
    rw [List.length_map] at lx
    refine ⟨_, pss_one (ps_ret (pe_callB (cr_sum rfl) (by rfl) B.sum (by decide +kernel) (pa_cons (pe_lc (own := [("row", 1)]) (g := gName 1) rfl nd (pi_list (pv 0))
        (blkOk_by (N := ["rows", "row"]) (sc := defScope sCO) (by decide +kernel)) (fun _ _ _ _ _ => pg_name (i := 1) nd rfl (Or.inl rfl)) (fun _ _ _ _ _ => pts_nil)
        (fun _ _ _ _ _ => pe_ix (r := rIxT K) ix_tup (pv 1) (pe_glob (v := .int 1) (by rfl) mn ⟨_, rfl⟩) (fun _ _ => rfl))) pa_nil))), ?_⟩
    refine ⟨.ref a, rfl, a, rfl, ⟨_, .inl (.inl ea)⟩, fun D0 nD => ?_⟩
    refine lc_gen (as := rs) (fun r : Rec => some r.cost) (fun _ y n => y = .int n) (fun _ _ _ _ _ h => h) (walk_list (K := K)) nD (fun G sG => .inl (.inl (sG _ _ ea))) lx.symm hl (fun i x r G hxi hri sG Pt Pf kt kf => ?_) (fun G ys sG eD hp _ => ?_)
    · obtain ⟨d, ed, hdx⟩ := hx.get' hxi
      rw [List.getElem?_map, hri] at ed
      cases ed
      obtain ⟨b, z, zs, rfl, eb, _⟩ := row_dx (hdx.up sG)
      exact ⟨rfl, .ref b, rfl, b, _, 1, .int r.cost, rfl, rfl, .inl (.inl eb), rfl, kt _ rfl _ _ (Same.refl G) rfl⟩
    · have e := ints_of (H := G) hp
      rw [e] at eD
      refine ⟨D0, _, rfl, .inl (.inl eD), ?_⟩
      rw [show rs.filterMap (fun r : Rec => some r.cost) = rs.map (·.cost) from List.filterMap_eq_map ▸ rfl]
      exact q G sG
end
end I1

set_option maxRecDepth 100000
set_option maxHeartbeats 4000000
namespace I1
open PySem PySem.Spec PyProof.Rows L2 KX
/-! ### cost_ahead, tilted_directions -/
abbrev sCa : Stmt := topS 49
abbrev sTd : Stmt := topS 50
abbrev NCa : List Str := ["steps", "direction", "u", "v", "across", "up", "cost"]
abbrev NTd : List Str := ["steps", "across", "up"]
theorem scCa : FnScope NCa ["steps", "direction"] (defScope sCa) := ⟨rfl, rfl, rfl, by decide +kernel, rfl, by decide +kernel, by decide +kernel⟩
theorem scTd : FnScope NTd ["steps"] (defScope sTd) := ⟨rfl, rfl, rfl, by decide +kernel, rfl, by decide +kernel, by decide +kernel⟩
def ScAt (H : Hp) (y : V) (s : (Int × Int) × Int) : Prop := ∃ t u, y = .ref t ∧ H t = some (.tup [.ref u, .int s.2]) ∧ H u = some (.tup [.int s.1.1, .int s.1.2])
theorem ScAt.tk {H G : Hp} {y : V} {s : (Int × Int) × Int} (k : TK H G) (h : ScAt H y s) : ScAt G y s := by
  obtain ⟨t, u, rfl, e1, e2⟩ := h
  exact ⟨t, u, rfl, k _ _ e1, k _ _ e2⟩
def aheadI (p : Int × Int) (ss : List ((Int × Int) × Int)) : Int := (ss.filterMap fun s => if p.1 * s.1.1 + p.2 * s.1.2 ≥ 0 then some s.2 else none).sum
def TLT : Int := 100000000000000000000
def tiltP (p : Int × Int) : Int × Int := (-p.2 * TLT - p.1, p.1 * TLT - p.2)
def spCa : Sp := fun vs H Q _ => ∃ (a : Addr) (xs : List V) (ss : List ((Int × Int) × Int)) (dv : V) (p : Int × Int), vs = [.ref a, dv] ∧ H a = some (.lst xs) ∧ Paired (ScAt H) xs ss ∧ ss.length ≤ 1000 ∧ (∀ s ∈ ss, Stp s.1) ∧ PtAt H dv p ∧ ∀ H', Same H H' → Q (.int (aheadI p ss)) H'
def spTd : Sp := fun vs H Q _ => ∃ (a : Addr) (xs : List V) (ps : List (Int × Int)), vs = [.ref a] ∧ H a = some (.lst xs) ∧ Paired (PtAt H) xs ps ∧ ps.length ≤ 1000 ∧ (∀ p ∈ ps, Stp p) ∧
  ∀ H' q ys, Same H H' → H q = none → H' q = some (.lst ys) → Paired (PtAt H') ys ((1, 0) :: ps.map tiltP) → Q (.ref q) H'
theorem pair_us {H G : Hp} (s : Same H G) : ∀ {xs : List V} {ps : List (Int × Int)}, Paired (PtAt H) xs ps → Paired (PtAt G) xs ps
  | [], [], .nil => .nil
  | _ :: _, _ :: _, .cons h t => .cons (h.up s) (pair_us s t)
section
variable {P : Program} {w : World} {K : PySem.W.Frag} {mg : Str → Option Value} {base : Heap}
theorem ok_ca {f : Addr} {fd : FuncData} (B : Bl mg) (D : Df K mg "cost_ahead" sCa ["steps", "direction"] f fd) : FnOk P w K mg base CX0 1 f fd ["steps", "direction"] spCa := by
  refine D.F.ok scCa (fun vs H Q E h => ?_) (fun cdv A outer s H vs Q E hr h => ?_)
  · obtain ⟨a, xs, ss, dv, p, rfl, _⟩ := h
    rfl
  · obtain ⟨a, xs, ss, dv, p, rfl, ea, hp, hl, hst, hd, q⟩ := h
    have nd := scCa.nd
    refine ⟨_, pss_cons (ps_asg (pv 1) (pg_tup (by rfl) (pgs_cons (pg_name (i := 2) nd rfl (.inr rfl)) (pgs_cons (pg_name (i := 3) nd rfl (.inr rfl)) pgs_nil))))
      (pss_one (ps_ret (pe_callB (cr_sum rfl) (by rfl) B.sum (by decide +kernel) (pa_cons (pe_lc (own := [("across", 4), ("up", 5), ("cost", 6)]) (g := gTup K 2 (gCons (gTup K 2 (gCons (gName 4) (gCons (gName 5) gNil))) (gCons (gName 6) gNil))) rfl nd (pi_list (pv 0))
        (blkOk_by (N := NCa) (sc := defScope sCa) (by decide +kernel)) (fun _ _ _ _ _ => pg_tup (by rfl) (pgs_cons (pg_tup (by rfl) (pgs_cons (pg_name (i := 4) nd rfl (Or.inl rfl)) (pgs_cons (pg_name (i := 5) nd rfl (Or.inl rfl)) pgs_nil))) (pgs_cons (pg_name (i := 6) nd rfl (Or.inl rfl)) pgs_nil)))
        (fun _ _ _ _ _ => pts_one (pt_cmpR op_ge (pe_op op_add (pe_op op_mul (pv 2) (pv 4)) (pe_op op_mul (pv 3) (pv 5))) pe_int (by rfl))) (fun _ _ _ _ _ => pv 6)) pa_nil)))), ?_⟩
    obtain ⟨t, rfl, et⟩ := hd
    refine ⟨.ref t, rfl, t, _, rfl, .inl (.inl et), rfl, _, _, rfl, _, _, rfl, rfl, ?_⟩
    refine ⟨.ref a, rfl, a, rfl, ⟨_, .inl (.inl ea)⟩, fun D0 nD => ?_⟩
    have lx := Paired.length hp
    refine lc_gen (as := ss) (fun s : (Int × Int) × Int => if p.1 * s.1.1 + p.2 * s.1.2 ≥ 0 then some s.2 else none) (fun _ y n => y = .int n) (fun _ _ _ _ _ h => h) (walk_list (K := K)) nD (fun G sG => .inl (.inl (sG _ _ ea))) lx.symm hl (fun i x s G hxi hsi sG Pt Pf kt kf => ?_) (fun G ys sG eD hp _ => ?_)
    · obtain ⟨s', es, hsc⟩ := pair_at hp hxi
      rw [hsi] at es
      cases es
      obtain ⟨t2, u2, rfl, e1, e2⟩ := hsc
      obtain ⟨b1, b2, b3, b4⟩ := hst s (List.mem_of_getElem? hsi)
      refine ⟨t2, _, rfl, .inl (.inl (sG _ _ e1)), rfl, _, _, rfl, ⟨u2, _, rfl, .inl (.inl (sG _ _ e2)), rfl, _, _, rfl, _, _, rfl, rfl, _, _, rfl, rfl, ?_⟩⟩
      refine ⟨rfl, .int p.1, rfl, .int s.1.1, rfl, _, _, rfl, rfl, .inr ⟨by omega, by omega⟩, .int p.2, rfl, .int s.1.2, rfl, _, _, rfl, rfl, .inr ⟨by omega, by omega⟩, _, _, rfl, rfl, _, 0, rfl, rfl, _, rfl, ?_⟩
      by_cases z : p.1 * s.1.1 + p.2 * s.1.2 ≥ 0
      · rw [decide_eq_true z]
        exact iteT ⟨.int s.2, rfl, kt s.2 (by rw [if_pos z]) _ _ (Same.refl G) rfl⟩
      · rw [decide_eq_false z]
        exact iteF (kf (by rw [if_neg z]) _ (Same.refl G))
    · have e := ints_of (H := G) hp
      rw [e] at eD
      exact ⟨D0, _, rfl, .inl (.inl eD), q G sG⟩
theorem ok_td {f : Addr} {fd : FuncData} (mt : ∃ t, mg "TILT" = some (.int 100000000000000000000 t)) (D : Df K mg "tilted_directions" sTd ["steps"] f fd) : FnOk P w K mg base CX0 1 f fd ["steps"] spTd := by
  obtain ⟨tt, mt⟩ := mt
  refine D.F.ok scTd (fun vs H Q E h => ?_) (fun cdv A outer s H vs Q E hr h => ?_)
  · obtain ⟨a, xs, ps, rfl, _⟩ := h
    rfl
  · obtain ⟨a, xs, ps, rfl, ea, hp, hl, hst, q⟩ := h
    have nd := scTd.nd
    have hb : (1000 : Nat) < sizeLine := by decide
    refine ⟨_, pss_one (ps_ret (pe_op op_cat (pe_lst (pa_cons (pe_tup (pa_cons pe_int (pa_cons pe_int pa_nil))) pa_nil)) (pe_lc (own := [("across", 1), ("up", 2)]) (g := gTup K 2 (gCons (gName 1) (gCons (gName 2) gNil))) rfl nd (pi_list (pv 0))
      (blkOk_by (N := NTd) (sc := defScope sTd) (by decide +kernel)) (fun _ _ _ _ _ => pg_tup (by rfl) (pgs_cons (pg_name (i := 1) nd rfl (Or.inl rfl)) (pgs_cons (pg_name (i := 2) nd rfl (Or.inl rfl)) pgs_nil))) (fun _ _ _ _ _ => pts_nil)
      (fun _ _ _ _ _ => pe_tup (pa_cons (pe_op op_sub (pe_op op_mul (pe_un un_neg (pv 2)) (pe_glob (v := .int 100000000000000000000) (by rfl) mt ⟨_, rfl⟩)) (pv 1)) (pa_cons (pe_op op_sub (pe_op op_mul (pv 1) (pe_glob (v := .int 100000000000000000000) (by rfl) mt ⟨_, rfl⟩)) (pv 2)) pa_nil)))))), ?_⟩
    refine ⟨by show 2 ≤ sizeLine; decide, fun t0 n0 => ⟨by show 1 ≤ sizeLine; decide, fun l0 nl0 => ?_⟩⟩
    have s0 := (same_new (o := .tup [.int 1, .int 0]) n0).trans (same_new (o := .lst [.ref t0]) nl0)
    have e0 : (upd (upd H t0 (.tup [.int 1, .int 0])) l0 (.lst [.ref t0])) t0 = some (.tup [.int 1, .int 0]) := same_new (o := .lst [.ref t0]) nl0 _ _ upd_same
    have el0 : (upd (upd H t0 (.tup [.int 1, .int 0])) l0 (.lst [.ref t0])) l0 = some (.lst [.ref t0]) := upd_same
    generalize upd (upd H t0 (.tup [.int 1, .int 0])) l0 (.lst [.ref t0]) = H1 at s0 e0 el0
    refine ⟨.ref a, rfl, a, rfl, ⟨_, .inl (.inl (s0 _ _ ea))⟩, fun D0 nD => ?_⟩
    have lx := Paired.length hp
    refine lc_gen (as := ps) (fun p : Int × Int => some (tiltP p)) PtAt (fun _ _ _ _ k h => PtAt.tk h k) (walk_list (K := K)) nD (fun G sG => .inl (.inl (sG _ _ (s0 _ _ ea)))) lx.symm hl (fun i x p G hxi hpi sG Pt Pf kt kf => ?_) (fun G ys sG eD hp2 ly => ?_)
    · obtain ⟨p', es, hsc⟩ := pair_at hp hxi
      rw [hpi] at es
      cases es
      obtain ⟨t2, rfl, e2⟩ := hsc
      have e2 := sG _ _ (s0 _ _ e2)
      obtain ⟨b1, b2, b3, b4⟩ := hst p (List.mem_of_getElem? hpi)
      refine ⟨t2, _, rfl, .inl (.inl e2), rfl, _, _, rfl, _, _, rfl, rfl, rfl, .int p.2, rfl, p.2, rfl, _, _, rfl, rfl, .inl ⟨by omega, by omega⟩, .int p.1, rfl, _, _, rfl, rfl, ?_⟩
      refine ⟨.int p.1, rfl, _, _, rfl, rfl, .inl ⟨by omega, by omega⟩, .int p.2, rfl, _, _, rfl, rfl, by show 2 ≤ sizeLine; decide, fun z nz => ?_⟩
      exact kt _ rfl _ _ (same_new nz) ⟨z, rfl, upd_same⟩
    · refine ⟨l0, D0, _, _, rfl, rfl, sG _ _ el0, eD, by show 1 + ys.length ≤ sizeLine; omega, fun c nc => ?_⟩
      have sc := same_new (o := .lst ([.ref t0] ++ ys)) nc
      have sA := (s0.trans sG).trans sc
      refine q _ c _ sA (none_same (s0.trans sG) nc) upd_same ?_
      rw [show ps.map tiltP = ps.filterMap (fun p : Int × Int => some (tiltP p)) from List.filterMap_eq_map ▸ rfl]
      exact .cons ⟨t0, rfl, sc _ _ (sG _ _ e0)⟩ (pair_us sc hp2)
end
end I1

set_option maxRecDepth 100000
set_option maxHeartbeats 4000000
namespace I1
open PySem PySem.Spec PyProof.Rows L2 KX
/-! ### best_direction, cheapest_direction -/
abbrev sBd : Stmt := topS 48
abbrev sCd : Stmt := topS 47
abbrev NBd : List Str := ["rowset", "x", "y", "row", "twins", "least", "steps", "directions", "other", "step", "_", "direction"]
theorem scBd : FnScope NBd ["rowset", "x", "y", "row"] (defScope sBd) := ⟨rfl, rfl, rfl, by decide +kernel, rfl, by decide +kernel, by decide +kernel⟩
theorem scCd : FnScope ["rowset", "x", "y", "name"] ["rowset", "x", "y", "name"] (defScope sCd) := ⟨rfl, rfl, rfl, by decide +kernel, rfl, by decide +kernel, by decide +kernel⟩
def twinR (i j : Int) (r : Rec) (rs : List Rec) : List Rec := rs.filter fun e => decide (ptR i j e = ptR i j r)
def stepF (i j : Int) (r : Rec) (tw : List Rec) (e : Rec) : Option ((Int × Int) × Int) := if ((tw.map encR).any fun z => PyData.eqv z (encR e)) = true then none else some (stpR i j r e, e.cost)
def leastI (i j : Int) (r : Rec) (rs : List Rec) : Int := ((((twinR i j r rs).filter fun e : Rec => ltS e.nm r.nm)).map (·.cost)).sum
def stsR (i j : Int) (r : Rec) (rs : List Rec) : List ((Int × Int) × Int) := rs.filterMap (stepF i j r (twinR i j r rs))
def dirsR (i j : Int) (r : Rec) (rs : List Rec) : List (Int × Int) := (1, 0) :: ((stsR i j r rs).map (·.1)).map tiltP
/-- a cheapest one of the directions that are tried -/
def BestD (i j : Int) (r : Rec) (rs : List Rec) (m : Int × (Int × Int)) : Prop := m.2 ∈ dirsR i j r rs ∧ m.1 = leastI i j r rs + aheadI m.2 (stsR i j r rs) ∧ ∀ p ∈ dirsR i j r rs, m.1 ≤ leastI i j r rs + aheadI p (stsR i j r rs)
def encM (m : Int × (Int × Int)) : PyData := .tuple [.int m.1, encP m.2]
/-- a number and a pair -/
def MnAt (H : Hp) (y : V) (m : Int × (Int × Int)) : Prop := ∃ t u, y = .ref t ∧ H t = some (.tup [.int m.1, .ref u]) ∧ H u = some (.tup [.int m.2.1, .int m.2.2])
theorem MnAt.tk {H G : Hp} {y : V} {m : Int × (Int × Int)} (k : TK H G) (h : MnAt H y m) : MnAt G y m := by
  obtain ⟨t, u, rfl, e1, e2⟩ := h
  exact ⟨t, u, rfl, k _ _ e1, k _ _ e2⟩
theorem MnAt.dx {H : Hp} {y : V} {m : Int × (Int × Int)} (h : MnAt H y m) : Dx H y (encM m) := by
  obtain ⟨t, u, rfl, e1, e2⟩ := h
  exact .tup e1 (.cons (.int _) (.cons (.tup e2 (.cons (.int _) (.cons (.int _) .nil))) .nil))
theorem plain_mn (m : Int × (Int × Int)) : (encM m).plain = true := by simp [encM, encP, PyData.plain, PyData.plainAll]
theorem depth_mn (m : Int × (Int × Int)) : (encM m).depth ≤ 50 := by simp [encM, encP, PyData.depth, PyData.depthAll]
theorem lt_M (y a : Int × (Int × Int)) : (PySem.W.dataLt (encM y) (encM a) = true → y.1 ≤ a.1) ∧ (PySem.W.dataLt (encM y) (encM a) = false → a.1 ≤ y.1) := by
  unfold encM
  rw [PySem.W.dataLt_pair (by simp [PySem.W.alike]) (by simp [encP, PySem.W.alike, PySem.W.alikeAll])]
  by_cases z : y.1 = a.1
  · exact ⟨fun _ => by omega, fun _ => by omega⟩
  · rw [if_neg (by simp [PyData.eqv, z]), PySem.W.dataLt_int]
    exact ⟨fun h => by have := of_decide_eq_true h; omega, fun h => by have := of_decide_eq_false h; omega⟩
theorem encM_inj {a b : Int × (Int × Int)} (h : encM a = encM b) : a = b := by
  obtain ⟨a1, a2, a3⟩ := a
  obtain ⟨b1, b2, b3⟩ := b
  simp [encM, encP] at h
  simp [h]
theorem min_M : ∀ {l : List (Int × (Int × Int))} {a b : Int × (Int × Int)}, encM b = PySem.W.minD (encM a) (l.map encM) → b ∈ a :: l ∧ ∀ c ∈ a :: l, b.1 ≤ c.1
  | [], a, b, h => by
    have e := encM_inj h
    subst e
    refine ⟨by simp, fun c hc => ?_⟩
    rw [List.mem_singleton.mp hc]
    exact Int.le_refl _
  | y :: l, a, b, h => by
    have lt := lt_M y a
    have h : encM b = PySem.W.minD (if PySem.W.dataLt (encM y) (encM a) = true then encM y else encM a) (l.map encM) := h
    cases z : PySem.W.dataLt (encM y) (encM a) with
    | true =>
      rw [z, if_pos rfl] at h
      obtain ⟨k1, k2⟩ := min_M h
      refine ⟨List.mem_cons_of_mem _ k1, fun c hc => ?_⟩
      rcases List.mem_cons.mp hc with rfl | hc
      · exact Int.le_trans (k2 y (by simp)) (lt.1 z)
      · exact k2 c hc
    | false =>
      rw [z, if_neg (by decide)] at h
      obtain ⟨k1, k2⟩ := min_M h
      refine ⟨?_, fun c hc => ?_⟩
      · rcases List.mem_cons.mp k1 with rfl | k1
        · simp
        · simp [k1]
      · rcases List.mem_cons.mp hc with rfl | hc
        · exact k2 c (by simp)
        · rcases List.mem_cons.mp hc with rfl | hc
          · exact Int.le_trans (k2 a (by simp)) (lt.2 z)
          · exact k2 c (by simp [hc])
theorem zip_of {β : Type} {R : V → β → Prop} : ∀ {ys : List V} {bs : List β}, Paired R ys bs → ∃ zs : List (V × β), zs.map (·.1) = ys ∧ zs.map (·.2) = bs ∧ ∀ z ∈ zs, R z.1 z.2
  | [], [], .nil => ⟨[], rfl, rfl, fun z h => nomatch h⟩
  | y :: ys, b :: bs, .cons h t => by
    obtain ⟨zs, e1, e2, e3⟩ := zip_of t
    refine ⟨(y, b) :: zs, by rw [List.map_cons, e1], by rw [List.map_cons, e2], fun z hz => ?_⟩
    rcases List.mem_cons.mp hz with rfl | hz
    · exact h
    · exact e3 z hz
theorem sc_up {H G : Hp} (s : Same H G) {xs : List V} {ss : List ((Int × Int) × Int)} (h : Paired (ScAt H) xs ss) : Paired (ScAt G) xs ss := pair_tk (Rel := ScAt) (fun _ _ _ _ k h => ScAt.tk k h) (TK.same s) h
theorem dp_rows {K : PySem.W.Frag} {H : Hp} {a : Addr} {xs : List V} {rs : List Rec} (e : H a = some (.lst xs)) (h : Dxs H xs (rs.map encR)) : Dp K H (.ref a) (.list (rs.map encR)) := .lst (.inl (.inl e)) (dps_dx _ _ (plain_rows rs) h)
def spBd : Sp := fun vs H Q _ => ∃ (v : V) (rs : List Rec) (rv : V) (r : Rec) (i j : Int), vs = [v, .int i, .int j, rv] ∧ Dx H v (.tuple (rs.map encR)) ∧ rs.length ≤ 60 ∧ (∀ e ∈ rs, Hc i j e) ∧ Dx H rv (encR r) ∧ Hc i j r ∧ ∀ H' x m, Same H H' → MnAt H' x m → BestD i j r rs m → Q x H'
section
variable {P : Program} {w : World} {K : PySem.W.Frag} {mg : Str → Option Value} {base : Heap}
theorem ok_bd {k : Nat} {f fP fO fS fT fA : Addr} {fd fdP fdO fdS fdT fdA : FuncData} (B : Bl mg) (cn : ∃ t, mg "NAME" = some (.int 0 t)) (cc : ∃ t, mg "COST" = some (.int 1 t)) (D : Df K mg "best_direction" sBd ["rowset", "x", "y", "row"] f fd)
    (DP : Df K mg "point_of" sPt ["row", "x", "y"] fP fdP) (DO : Df K mg "cost_of" sCO ["rows"] fO fdO) (DS : Df K mg "step_between" sSb ["row", "other", "x", "y"] fS fdS) (DT : Df K mg "tilted_directions" sTd ["steps"] fT fdT) (DA : Df K mg "cost_ahead" sCa ["steps", "direction"] fA fdA)
    (GP : FnOk P w K mg base CX0 k fP fdP ["row", "x", "y"] spPt) (GO : FnOk P w K mg base CX0 k fO fdO ["rows"] spCOL) (GS : FnOk P w K mg base CX0 k fS fdS ["row", "other", "x", "y"] spSb) (GT : FnOk P w K mg base CX0 k fT fdT ["steps"] spTd) (GA : FnOk P w K mg base CX0 k fA fdA ["steps", "direction"] spCa) :
    FnOk P w K mg base CX0 (k + 1) f fd ["rowset", "x", "y", "row"] spBd := by
  obtain ⟨tn, mn⟩ := cn
  obtain ⟨tc, mc⟩ := cc
  refine D.F.ok scBd (fun vs H Q E h => ?_) (fun cdv A outer s H vs Q E hr h => ?_)
  · obtain ⟨v, rs, rv, r, i, j, rfl, _⟩ := h
    rfl
  · obtain ⟨v, rs, rv, r, i, j, rfl, hd, hl, hc, hrv, cr, q⟩ := h
    have nd := scBd.nd
    have hb : (1000 : Nat) < sizeLine := by decide
    refine ⟨_, pss_cons (ps_set (i := 4) nd rfl (.inr rfl) (pe_lc (own := [("other", 8)]) (g := gName 8) rfl nd (pi_tup (pv 0)) (blkOk_by (N := NBd) (sc := defScope sBd) (by decide +kernel)) (fun _ _ _ _ _ => pg_name (i := 8) nd rfl (Or.inl rfl))
          (fun _ _ _ _ _ => pts_one (pt_cmpR (r := rEqP K id) (op_eqP hr.units) (pe_call GP hr (by rfl) DP.g DP.F.kp DP.b .nil pass0 (pa_cons (pv 8) (pa_cons (pv 1) (pa_cons (pv 2) pa_nil)))) (pe_call GP hr (by rfl) DP.g DP.F.kp DP.b .nil pass0 (pa_cons (pv 3) (pa_cons (pv 1) (pa_cons (pv 2) pa_nil)))) (by rfl))) (fun _ _ _ _ _ => pv 8)))
      (pss_cons (ps_set (i := 5) nd rfl (.inr rfl) (pe_call GO hr (by rfl) DO.g DO.F.kp DO.b .nil pass0 (pa_cons (pe_lc (own := [("other", 8)]) (g := gName 8) rfl nd (pi_list (pv 4)) (blkOk_by (N := NBd) (sc := defScope sBd) (by decide +kernel)) (fun _ _ _ _ _ => pg_name (i := 8) nd rfl (Or.inl rfl))
          (fun _ _ _ _ _ => pts_one (pt_cmpR op_lt_str (pe_ix (r := rIxT K) ix_tup (pv 8) (pe_glob (v := .int 0) (by rfl) mn ⟨_, rfl⟩) (fun _ _ => rfl)) (pe_ix (r := rIxT K) ix_tup (pv 3) (pe_glob (v := .int 0) (by rfl) mn ⟨_, rfl⟩) (fun _ _ => rfl)) (by rfl))) (fun _ _ _ _ _ => pv 8)) pa_nil)))
      (pss_cons (ps_set (i := 6) nd rfl (.inr rfl) (pe_lc (own := [("other", 8)]) (g := gName 8) rfl nd (pi_tup (pv 0)) (blkOk_by (N := NBd) (sc := defScope sBd) (by decide +kernel)) (fun _ _ _ _ _ => pg_name (i := 8) nd rfl (Or.inl rfl))
          (fun _ _ _ _ _ => pts_one (pt_cmpR (r := rInLD K not) (op_ninLD hr.units) (pv 8) (pv 4) (by rfl)))
          (fun _ _ _ _ _ => pe_tup (pa_cons (pe_call GS hr (by rfl) DS.g DS.F.kp DS.b .nil pass0 (pa_cons (pv 3) (pa_cons (pv 8) (pa_cons (pv 1) (pa_cons (pv 2) pa_nil))))) (pa_cons (pe_ix (r := rIxT K) ix_tup (pv 8) (pe_glob (v := .int 1) (by rfl) mc ⟨_, rfl⟩) (fun _ _ => rfl)) pa_nil)))))
      (pss_cons (ps_set (i := 7) nd rfl (.inl rfl) (pe_call GT hr (by rfl) DT.g DT.F.kp DT.b .nil pass0 (pa_cons (pe_lc (own := [("step", 9), ("_", 10)]) (g := gTup K 2 (gCons (gName 9) (gCons (gName 10) gNil))) rfl nd (pi_list (pv 6)) (blkOk_by (N := NBd) (sc := defScope sBd) (by decide +kernel))
          (fun _ _ _ _ _ => pg_tup (by rfl) (pgs_cons (pg_name (i := 9) nd rfl (Or.inl rfl)) (pgs_cons (pg_name (i := 10) nd rfl (Or.inl rfl)) pgs_nil))) (fun _ _ _ _ _ => pts_nil) (fun _ _ _ _ _ => pv 9)) pa_nil)))
      (pss_one (ps_ret (pe_callB (call_minX (enc := encM) rfl hr) (by rfl) B.min (by decide +kernel) (pa_cons (pe_lc (own := [("direction", 11)]) (g := gName 11) rfl nd (pi_list (pv 7)) (blkOk_by (N := NBd) (sc := defScope sBd) (by decide +kernel)) (fun _ _ _ _ _ => pg_name (i := 11) nd rfl (Or.inl rfl)) (fun _ _ _ _ _ => pts_nil)
          (fun _ _ _ _ _ => pe_tup (pa_cons (pe_op op_add (pv 5) (pe_call GA hr (by rfl) DA.g DA.F.kp DA.b .nil pass0 (pa_cons (pv 6) (pa_cons (pv 11) pa_nil)))) (pa_cons (pv 11) pa_nil)))) pa_nil))))))), ?_⟩
    obtain ⟨a, xs, rfl, ea, hx⟩ := dx_tup' hd
    have lx := hx.len
    rw [List.length_map] at lx
    -- twins
    refine ⟨.ref a, rfl, a, rfl, ⟨_, .inl (.inl ea)⟩, fun La1 nL1 => ?_⟩
    refine lc_filterW (fun e => decide (ptR i j e = ptR i j r)) (walk_tup (K := K)) nL1 (fun G sG => .inl (.inl (sG _ _ ea))) hx (by omega) (fun e x G he sG hxe Pt Pf k => ?_) (fun G1 tw s1 e1 h1 => ?_)
    · refine ⟨rfl, x, rfl, .int i, rfl, .int j, rfl, x, e, i, j, rfl, hxe.up sG, hc e he, fun G2 p s2 _ ep => ?_⟩
      refine ⟨rv, rfl, .int i, rfl, .int j, rfl, rv, r, i, j, rfl, hrv.up (sG.trans s2), cr, fun G3 p3 s3 _ ep3 => ?_⟩
      have h2 : PtAt G3 (.ref p) (ptR i j e) := ⟨p, rfl, s3 _ _ ep⟩
      have h3 : PtAt G3 (.ref p3) (ptR i j r) := ⟨p3, rfl, ep3⟩
      refine ⟨_, _, dp_dx _ _ (plain_pt _) h2.dx, dp_dx _ _ (plain_pt _) h3.dx, plain_pt _, plain_pt _, by have := depth_pt (ptR i j e); omega, _, rfl, ?_⟩
      rw [eqv_pt]
      have := k G3 (s2.trans s3)
      cases ez : decide (ptR i j e = ptR i j r) with
      | true =>
        rw [ez, if_pos rfl] at this
        exact iteT ⟨x, rfl, this⟩
      | false =>
        rw [ez, if_neg (by decide)] at this
        exact iteF this
    have htw : rs.filter (fun e => decide (ptR i j e = ptR i j r)) = twinR i j r rs := rfl
    rw [htw] at h1
    have ltw : (twinR i j r rs).length ≤ rs.length := List.length_filter_le _ _
    have h1 := h1.up s1
    obtain ⟨tws, etw⟩ : ∃ t, twinR i j r rs = t := ⟨_, rfl⟩
    rw [etw] at h1 ltw htw
    -- least
    change tSeq _ _ _ ([some (.ref a), some (.int i), some (.int j), some rv, some (.ref La1), none, none, none, none, none, none, none] : L2.St) G1
    refine ⟨.ref La1, rfl, La1, rfl, ⟨_, .inl (.inl e1)⟩, fun La2 nL2 => ?_⟩
    have ltx := h1.len
    rw [List.length_map] at ltx
    refine lc_filterW (fun e => ltS e.nm r.nm) (walk_list (K := K)) nL2 (fun G sG => .inl (.inl (sG _ _ e1))) h1 (by omega) (fun e x G he sG hxe Pt Pf k => ?_) (fun G2 le s2 e2 h2 => ?_)
    · obtain ⟨b, z, zs, rfl, eb, _⟩ := row_dx (hxe.up sG)
      obtain ⟨c, y, ys, rfl, ec, _⟩ := row_dx (hrv.up (s1.trans sG))
      refine ⟨rfl, .ref b, rfl, b, _, 0, .str e.nm, rfl, rfl, .inl (.inl eb), rfl, .ref c, rfl, c, _, 0, .str r.nm, rfl, rfl, .inl (.inl ec), rfl, e.nm, r.nm, rfl, rfl, _, rfl, ?_⟩
      have := k G (Same.refl G)
      change (if ltS e.nm r.nm = true then _ else _) at this
      cases ez : ltS e.nm r.nm with
      | true =>
        rw [ez, if_pos rfl] at this
        rw [show decide (e.nm.cps.toList < r.nm.cps.toList) = true from ez]
        exact iteT ⟨.ref b, rfl, this⟩
      | false =>
        rw [ez, if_neg (by decide)] at this
        rw [show decide (e.nm.cps.toList < r.nm.cps.toList) = false from ez]
        exact iteF this
    have lle := List.length_filter_le (fun e : Rec => ltS e.nm r.nm) tws
    refine ⟨La2, le, _, rfl, e2, h2.up s2, by omega, fun G3 s3 => ?_⟩
    obtain ⟨least, ele⟩ : ∃ t, ((tws.filter fun e : Rec => ltS e.nm r.nm).map (·.cost)).sum = t := ⟨_, rfl⟩
    rw [ele]
    have s13 : Same G1 G3 := s2.trans s3
    have s03 := s1.trans s13
    have e1 := s13 _ _ e1
    have h1 := h1.up s13
    change tSeq _ _ _ ([some (.ref a), some (.int i), some (.int j), some rv, some (.ref La1), some (.int least), none, none, none, none, none, none] : L2.St) G3
    clear h2 e2 lle
    -- steps
    refine ⟨.ref a, rfl, a, rfl, ⟨_, .inl (.inl (s03 _ _ ea))⟩, fun La3 nL3 => ?_⟩
    have hx3 := hx.up s03
    refine lc_gen (as := rs) (stepF i j r tws) ScAt (fun _ _ _ _ k h => ScAt.tk k h) (walk_tup (K := K)) nL3 (fun G sG => .inl (.inl (sG _ _ (s03 _ _ ea)))) lx.symm (by omega) (fun n x e G hxn hen sG Pt Pf kt kf => ?_) (fun G4 ss s4 e4 h4 ls => ?_)
    · obtain ⟨d, ed, hdx⟩ := hx3.get' hxn
      rw [List.getElem?_map, hen] at ed
      cases ed
      have hce := hc e (List.mem_of_getElem? hen)
      refine ⟨rfl, x, rfl, .ref La1, rfl, encR e, tws.map encR, dp_dx _ _ (plain_rec e) (hdx.up sG), dp_rows (sG _ _ e1) (h1.up sG), plain_rec e, plain_rows tws, Nat.le_trans (deep_rows tws) (by decide), _, rfl, ?_⟩
      cases ez : ((tws.map encR).any fun z => PyData.eqv z (encR e)) with
      | true => exact iteF (kf (by unfold stepF; rw [if_pos ez]) _ (Same.refl G))
      | false =>
        refine iteT ⟨rv, rfl, x, rfl, .int i, rfl, .int j, rfl, rv, x, r, e, i, j, rfl, hrv.up (s03.trans sG), hdx.up sG, cr, hce, fun G5 p s5 _ ep => ?_⟩
        obtain ⟨b, z, zs, rfl, eb, _⟩ := row_dx (hdx.up (sG.trans s5))
        refine ⟨.ref b, rfl, b, _, 1, .int e.cost, rfl, rfl, .inl (.inl eb), rfl, by show 2 ≤ sizeLine; omega, fun t nt => ?_⟩
        refine kt (stpR i j r e, e.cost) (by unfold stepF; rw [if_neg (by rw [ez]; decide)]) _ _ (s5.trans (same_new nt)) ⟨t, p, rfl, upd_same, same_new nt _ _ ep⟩
    have hst : ∀ s ∈ rs.filterMap (stepF i j r tws), Stp s.1 := fun s hs => by
      obtain ⟨e, he, es⟩ := List.mem_filterMap.mp hs
      unfold stepF at es
      split at es
      · cases es
      · cases es
        exact cr.stp (hc e he)
    have l4 := Paired.length h4
    obtain ⟨sts, est⟩ : ∃ t, rs.filterMap (stepF i j r tws) = t := ⟨_, rfl⟩
    rw [est] at h4 hst l4
    change tSeq _ _ _ ([some (.ref a), some (.int i), some (.int j), some rv, some (.ref La1), some (.int least), some (.ref La3), none, none, none, none, none] : L2.St) G4
    -- directions
    refine ⟨.ref La3, rfl, La3, rfl, ⟨_, .inl (.inl e4)⟩, fun La4 nL4 => ?_⟩
    refine lc_gen (as := sts) (fun s : (Int × Int) × Int => some s.1) PtAt (fun _ _ _ _ k h => PtAt.tk h k) (walk_list (K := K)) nL4 (fun G sG => .inl (.inl (sG _ _ e4))) l4.symm (by omega) (fun n x s G hxn hsn sG Pt Pf kt kf => ?_) (fun G5 ps s5 e5 h5 lp => ?_)
    · obtain ⟨s', es, t, u, rfl, et, eu⟩ := pair_at h4 hxn
      rw [hsn] at es
      cases es
      exact ⟨t, _, rfl, .inl (.inl (sG _ _ et)), rfl, _, _, rfl, _, _, rfl, rfl, rfl, .ref u, rfl, kt s.1 rfl _ _ (Same.refl G) ⟨u, rfl, sG _ _ eu⟩⟩
    have eps : sts.filterMap (fun s : (Int × Int) × Int => some s.1) = sts.map (·.1) := List.filterMap_eq_map ▸ rfl
    rw [eps] at h5
    refine ⟨La4, ps, sts.map (·.1), rfl, e5, h5, by rw [List.length_map]; omega, fun p hp => ?_, fun G6 La6 ds s6 _ e6 h6 => ?_⟩
    · obtain ⟨s, hs, rfl⟩ := List.mem_map.mp hp
      exact hst s hs
    have e4 := (s5.trans s6) _ _ e4
    have h4 := sc_up (s5.trans s6) h4
    have ld := Paired.length h6
    refine gn_to (σ' := ([some (.ref a), some (.int i), some (.int j), some rv, some (.ref La1), some (.int least), some (.ref La3), some (.ref La6), none, none, none, none] : L2.St)) rfl ?_
    dsimp only
    refine ⟨.ref La6, rfl, La6, rfl, ⟨_, .inl (.inl e6)⟩, fun La5 nL5 => ?_⟩
    rw [List.length_cons, List.length_map, List.length_map] at ld
    refine lc_gen (as := (1, 0) :: (sts.map (·.1)).map tiltP) (fun p : Int × Int => some (least + aheadI p sts, p)) MnAt (fun _ _ _ _ k h => MnAt.tk k h) (walk_list (K := K)) nL5 (fun G sG => .inl (.inl (sG _ _ e6))) (by rw [ld]; simp) (by rw [List.length_cons, List.length_map, List.length_map]; omega) (fun n x p G hxn hpn sG Pt Pf kt kf => ?_) (fun G7 ys s7 e7 h7 ly => ?_)
    · obtain ⟨p', es, hpt⟩ := pair_at h6 hxn
      rw [hpn] at es
      cases es
      have hpt := hpt.up sG
      refine ⟨rfl, .int least, rfl, .ref La3, rfl, x, rfl, La3, ss, sts, x, p, rfl, sG _ _ e4, sc_up sG h4, by omega, hst, hpt, fun G8 s8 => ⟨_, _, rfl, rfl, ?_⟩⟩
      obtain ⟨t, rfl, et⟩ := hpt
      refine ⟨.ref t, rfl, by show 2 ≤ sizeLine; omega, fun u nu => ?_⟩
      exact kt _ rfl _ _ (s8.trans (same_new nu)) ⟨u, t, rfl, upd_same, same_new nu _ _ (s8 _ _ et)⟩
    · obtain ⟨zs, z1, z2, z3⟩ := zip_of h7
      refine ⟨La5, zs, rfl, .inl (.inl (by rw [z1]; exact e7)), fun z => ?_, fun b hb => dp_dx _ _ (plain_mn _) (z3 b hb).dx, fun b _ => depth_mn _, fun x _ y _ => by simp [encM, encP, PySem.W.alike, PySem.W.alikeAll], fun x _ => by simp [encM], fun b hb hmin => ?_⟩
      · subst z
        simp at z2
      · have e1 : leastI i j r rs = least := by
          unfold leastI
          rw [etw]
          exact ele
        have e2 : stsR i j r rs = sts := by
          unfold stsR
          rw [etw]
          exact est
        refine q G7 b.1 b.2 ((((s03.trans s4).trans s5).trans s6).trans s7) (z3 b hb) ?_
        obtain ⟨b0, rest, ez, em⟩ := hmin
        have k := min_M (a := b0.2) (l := rest.map (·.2)) (b := b.2) (by rw [List.map_map]; exact em)
        rw [show b0.2 :: rest.map (·.2) = zs.map (·.2) by rw [ez]; rfl, z2] at k
        unfold BestD dirsR
        rw [e1, e2]
        rw [show ((1, 0) :: (sts.map (·.1)).map tiltP).filterMap (fun p : Int × Int => some (least + aheadI p sts, p)) = ((1, 0) :: (sts.map (·.1)).map tiltP).map (fun p : Int × Int => (least + aheadI p sts, p)) from congrFun (List.filterMap_eq_map (f := fun p : Int × Int => (least + aheadI p sts, p))) _] at k
        obtain ⟨k1, k2⟩ := k
        obtain ⟨p, hp, ep⟩ := List.mem_map.mp k1
        rw [← ep]
        refine ⟨hp, rfl, fun p2 hp2 => ?_⟩
        have := k2 _ (List.mem_map.mpr ⟨p2, hp2, rfl⟩)
        rw [← ep] at this
        exact this
end
end I1

set_option maxRecDepth 100000
set_option maxHeartbeats 4000000
namespace I1
open PySem PySem.Spec PyProof.Rows L2 KX
/-! ### cheapest_direction -/
def spCd (RA UA C : Addr) : Sp := fun vs H Q E => ∃ (v : V) (d : PyData) (v1 : V) (d1 : PyData) (v2 : V) (d2 : PyData) (nv : V) (dn : PyData), vs = [v, v1, v2, nv] ∧ Dx H v d ∧ SmR d ∧ Dx H v1 d1 ∧ Dx H v2 d2 ∧ Dx H nv dn ∧ (rowsetD d = false → ∀ H', Same H H' → E (.ref RA) none H') ∧
  ∀ rs, d = .tuple (rs.map encR) → RsOk rs → ColE C (widthI rs) E v1 d1 v2 d2 H fun i j => (amg (rs.map (·.nm)) dn = false → ErV UA "name" E nv H) ∧ (amg (rs.map (·.nm)) dn = true → ∀ r, r ∈ rs → nv = .str r.nm → ∀ H' x m, Same H H' → MnAt H' x m → BestD i j r rs m → Q x H')
section
variable {P : Program} {w : World} {K : PySem.W.Frag} {mg : Str → Option Value} {base : Heap} {C RA UA : Addr}
theorem ok_cd {k : Nat} {f fC fF fB : Addr} {fd fdC fdF fdB : FuncData} (D : Df K mg "cheapest_direction" sCd ["rowset", "x", "y", "name"] f fd) (DC : Df K mg "check_hull" sCH ["rowset", "x", "y"] fC fdC) (DF : Df K mg "find_row" sFR ["rowset", "name"] fF fdF) (DB : Df K mg "best_direction" sBd ["rowset", "x", "y", "row"] fB fdB)
    (GC : FnOk P w K mg base (L2.CX P w) k fC fdC ["rowset", "x", "y"] (spCH RA C)) (GF : FnOk P w K mg base (L2.CX P w) k fF fdF ["rowset", "name"] (spFR RA UA)) (GB : FnOk P w K mg base CX0 k fB fdB ["rowset", "x", "y", "row"] spBd) : FnOk P w K mg base (L2.CX P w) (k + 1) f fd ["rowset", "x", "y", "name"] (spCd RA UA C) := by
  refine D.F.okX scCd (fun vs H Q E h => ?_) (fun cdv A outer s H vs Q E hr h => ?_)
  · obtain ⟨v, d, v1, d1, v2, d2, nv, dn, rfl, _⟩ := h
    rfl
  · obtain ⟨v, d, v1, d1, v2, d2, nv, dn, rfl, hd, sm, h1, h2, hn, qr, q⟩ := h
    refine ⟨_, pss_cons (ps_expr (pe_callS GC hr (by rfl) DC.g DC.F.kp DC.b (fun σ => passAt (takes_of rfl rfl rfl rfl) σ) (pa_cons (pv 0) (pa_cons (pv 1) (pa_cons (pv 2) pa_nil)))))
      (pss_one (ps_ret (pe_call GB hr (by rfl) DB.g DB.F.kp DB.b .nil pass0 (pa_cons (pv 0) (pa_cons (pv 1) (pa_cons (pv 2) (pa_cons (pe_callS GF hr (by rfl) DF.g DF.F.kp DF.b (fun σ => passAt (takes_of rfl rfl rfl rfl) σ) (pa_cons (pv 0) (pa_cons (pv 3) pa_nil))) pa_nil))))))), ?_⟩
    refine ⟨v, rfl, v1, rfl, v2, rfl, v, d, v1, d1, v2, d2, rfl, hd, sm, h1, h2, qr, fun rs e ok => (q rs e ok).up (Same.refl H) fun i j e1 e2 i0 i1 j0 j1 kk G sG => ?_⟩
    subst e e1 e2
    cases h1
    cases h2
    obtain ⟨kn, ky⟩ := kk
    refine ⟨v, rfl, .int i, rfl, .int j, rfl, v, rfl, nv, rfl, v, nv, _, rfl, hd.up sG, sm, ⟨dn, hn.up sG⟩, fun ez G2 s2 => qr ez G2 (sG.trans s2), fun rs2 er ok2 => ?_⟩
    obtain rfl := recs_inj er
    have hcs := hc_of ok i0 i1 j0 j1
    cases ea : amg (rs.map (·.nm)) dn with
    | false => exact .inl ⟨dn, hn.up sG, ea, (kn ea).up sG⟩
    | true =>
      obtain ⟨n, r, er, rfl, first⟩ := amg_first ea hn
      have hmr := List.mem_of_getElem? er
      refine .inr ⟨n, r, er, rfl, first, fun G2 x s2 hx => ?_⟩
      exact ⟨v, rs, x, r, i, j, rfl, hd.up (sG.trans s2), ok.le, hcs, hx, hcs r hmr, fun G3 y m s3 hm hb => ky ea r hmr rfl G3 y m ((sG.trans s2).trans s3) hm hb⟩
end
theorem asc_pw : ∀ {l : List Str}, ascS l = true → l.Pairwise (fun a b => ltS a b = true)
  | [], _ => .nil
  | a :: l, h => List.pairwise_cons.mpr ⟨(asc_cons h).2, asc_pw (asc_cons h).1⟩
theorem ok_nd {rs : List Rec} (ok : RsOk rs) : (rs.map (fun r : Rec => r.nm)).Nodup := (asc_pw ok.asc).imp fun {a b} h e => by
  subst e
  rw [lt_irr] at h
  cases h
theorem ok_pw {rs : List Rec} (ok : RsOk rs) : (rs.map (fun r : Rec => r.nm)).Pairwise (fun a b => leN a b = true) := (asc_pw ok.asc).imp fun {a b} h => decide_eq_true (List.le_of_lt (of_decide_eq_true h))
theorem ok_small {rs : List Rec} (ok : RsOk rs) : SmR (.tuple (rs.map encR)) := smR_rows (by rw [List.length_map]; have := ok.le; omega) fun e he => by
  obtain ⟨x, hx, rfl⟩ := List.mem_map.mp he
  have h2 := List.all_eq_true.mp ok.row _ he
  have h3 : (nameD (.str x.nm) && betw 1 1000000 (.int x.cost) && (valsD (.tuple (x.vals.map .int)) && betw 1 1000000000 (.int x.exp))) = true := h2
  simp only [Bool.and_eq_true] at h3
  have h4 := h3.1.1
  intro d hd
  simp at hd
  rcases hd with rfl | rfl | rfl | rfl
  · show x.nm.length ≤ sizeLine
    have hb : (8 : Nat) ≤ sizeLine := by decide
    have h5 : ((decide (1 ≤ (x.nm.length : Int)) && decide ((x.nm.length : Int) ≤ 8)) && letD x.nm) = true := h4
    simp only [Bool.and_eq_true] at h5
    have h6 := of_decide_eq_true h5.1.2
    omega
  all_goals trivial

theorem ok_one {rs : List Rec} (ok : RsOk rs) {a b : Rec} (ha : a ∈ rs) (hb : b ∈ rs) (e : a.nm = b.nm) : a = b := nodup_one (f := fun r : Rec => r.nm) (ok_nd ok) ha hb e
theorem cd_call {RA UA C : Addr} {H : Hp} {v : V} {rs : List Rec} {r : Rec} {i j : Int} {Q : VK} {E : XK} (ok : RsOk rs) (hr : r ∈ rs) (hd : Dx H v (.tuple (rs.map encR))) (i0 : 0 ≤ i) (i1 : i < widthI rs) (j0 : 0 ≤ j) (j1 : j < widthI rs) (nij : i ≠ j)
    (q : ∀ (H' : Hp) (x : V) (m : Int × (Int × Int)), Same H H' → MnAt H' x m → BestD i j r rs m → Q x H') : spCd RA UA C [v, .int i, .int j, .str r.nm] H Q E := by
  refine ⟨v, _, .int i, .int i, .int j, .int j, .str r.nm, .str r.nm, rfl, hd, ok_small ok, .int i, .int j, .str _, (fun z => by rw [rsok_true ok] at z; cases z), fun ss e _ => ?_⟩
  obtain rfl := recs_inj e
  refine col_e i0 i1 j0 j1 nij ⟨fun z => ?_, fun _ x hx en H' y m s hm hb => ?_⟩
  · rw [amg_of hr] at z; cases z
  · obtain rfl := ok_one ok hr hx (V.str.inj en)
    exact q H' y m s hm hb
end I1

set_option maxRecDepth 100000
set_option maxHeartbeats 4000000
namespace I1
open PySem PySem.Spec PyProof.Rows L2 KX
theorem names_fine {wd : Nat} {rs ss : List Rec} (h : RsP wd rs) (w4 : wd ≤ 4) (l60 : rs.length ≤ 60) (hs : ∀ e ∈ ss, e ∈ rs) (hl : ss.length ≤ 60) :
    (PyData.tuple ((ss.map (fun e : Rec => e.nm)).map .str)).showable = true ∧ (PyData.tuple ((ss.map (fun e : Rec => e.nm)).map .str)).depth ≤ 100 ∧ (PyData.tuple ((ss.map (fun e : Rec => e.nm)).map .str)).shown.length ≤ sizeLine := by
  have hm : ∀ d ∈ (ss.map (fun e : Rec => e.nm)).map PyData.str, fine (10 ^ 40) d = true ∧ wt d ≤ 20 ∧ d.depth ≤ 50 := fun d hd => by
    obtain ⟨n, hn, rfl⟩ := List.mem_map.mp hd
    obtain ⟨e, he, rfl⟩ := List.mem_map.mp hn
    obtain ⟨m, hm, o⟩ := h.ok e (hs e he)
    have rf := rec_fine ⟨m, hm, o⟩ w4
    have h1 := rf.1
    simp only [encR, fine, fineAll, Bool.and_eq_true] at h1
    have l8 := (name_ok hm o.nm).2
    refine ⟨by simpa only [fine] using h1.1, by simp only [wt]; omega, by simp [PyData.depth]⟩
  have fr := fineAll_mem.mpr fun e he => (hm e he).1
  have gr := wtAll_le fun e he => (hm e he).2.1
  have kr := depthAll_le fun e he => (hm e he).2.2
  rw [List.length_map, List.length_map] at gr
  refine big_show ?_ ?_ ?_
  · simpa only [fine] using fr
  · simp only [wt]
    omega
  · simp only [PyData.depth]
    omega
theorem strs_of {H : Hp} : ∀ {ys : List V} {ns : List Str}, Paired (fun (y : V) (n : Str) => y = .str n) ys ns → ys = ns.map V.str
  | [], [], .nil => rfl
  | _ :: _, _ :: _, .cons h t => by rw [List.map_cons, h, strs_of (H := H) t]
theorem srt_self {wd : Nat} {rs : List Rec} (h : RsP wd rs) (f : Rec → Bool) : srtN ((rs.filter f).map (fun r : Rec => r.nm)) = (rs.filter f).map (fun r : Rec => r.nm) := by
  rw [srtN_leN]
  exact List.mergeSort_of_pairwise (h.pw.sublist (List.filter_sublist.map _))
def namesL (i j : Int) (rs : List Rec) : List Str := (rs.filter (lawT i j rs)).map (fun r : Rec => r.nm)
theorem hn_law {RA C : Addr} {wd : Nat} {H : Hp} {v : V} {rs : List Rec} {i j : Int} {Q : VK} {E : XK} (h : RsP wd rs) (w1 : 1 ≤ wd) (w4 : wd ≤ 4) (l60 : rs.length ≤ 60) (hd : Dx H v (.tuple (rs.map encR))) (i0 : 0 ≤ i) (i1 : i < wd) (j0 : 0 ≤ j) (j1 : j < wd) (nij : i ≠ j)
    (q : ∀ (H' : Hp) (p : Addr), Same H H' → Dx H' (.ref p) (.tuple ((namesL i j rs).map .str)) → Q (.ref p) H') : spHN RA C [v, .int i, .int j] H Q E := by
  have q2 : ∀ (H' : Hp) (p : Addr) (rows : List Rec), Same H H' → Dx H' (.ref p) (.tuple ((srtN (rows.map (fun r : Rec => r.nm))).map .str)) → rows.map (ptR i j) = hullP ((firsts i j rs).map (ptR i j)) → (∀ r ∈ rows, r ∈ firsts i j rs) → Q (.ref p) H' := fun H' p rows s hr e1 e2 => by
    rw [hull_names_law h e1 e2, srt_self h] at hr
    exact q H' p s hr
  by_cases ne : rs = []
  · subst ne
    have ok := h.rsok w1 w4 l60
    refine ⟨v, _, .int i, .int i, .int j, .int j, rfl, hd, rsp_sm h l60, .int i, .int j, (fun z => by rw [rsok_true ok] at z; cases z), fun ss e _ => ?_⟩
    obtain rfl := recs_inj e
    exact col_e i0 (show i < 4 by omega) j0 (show j < 4 by omega) nij q2
  · exact hn_call h w1 w4 l60 ne hd i0 i1 j0 j1 nij q2
theorem hc_rsp {wd : Nat} {rs : List Rec} {i j : Int} (h : RsP wd rs) (w1 : 1 ≤ wd) (w4 : wd ≤ 4) (l60 : rs.length ≤ 60) (i0 : 0 ≤ i) (i1 : i < wd) (j0 : 0 ≤ j) (j1 : j < wd) : ∀ r ∈ rs, Hc i j r := fun r hr => by
  have e := widthI_of h (List.ne_nil_of_mem hr)
  exact hc_of (h.rsok w1 w4 l60) i0 (by rw [e]; exact i1) j0 (by rw [e]; exact j1) r hr
theorem hn_lawG {RA C : Addr} {H : Hp} {v : V} {rs : List Rec} {i j : Int} {Q : VK} {E : XK} (ok : RsOk rs) (hd : Dx H v (.tuple (rs.map encR))) (i0 : 0 ≤ i) (i1 : i < widthI rs) (j0 : 0 ≤ j) (j1 : j < widthI rs) (nij : i ≠ j)
    (q : ∀ (H' : Hp) (p : Addr), Same H H' → Dx H' (.ref p) (.tuple ((namesL i j rs).map .str)) → Q (.ref p) H') : spHN RA C [v, .int i, .int j] H Q E := by
  refine ⟨v, _, .int i, .int i, .int j, .int j, rfl, hd, ok_small ok, .int i, .int j, (fun z => by rw [rsok_true ok] at z; cases z), fun ss e _ => ?_⟩
  obtain rfl := recs_inj e
  refine col_e i0 i1 j0 j1 nij fun H' p rows s hr e1 e2 => ?_
  rw [hull_names_lawG ok.asc (ok_nd ok) e1 e2, srtN_leN, List.mergeSort_of_pairwise ((ok_pw ok).sublist (List.filter_sublist.map _))] at hr
  exact q H' p s hr
end I1

set_option maxRecDepth 100000
set_option maxHeartbeats 4000000
namespace I1
open PySem PySem.Spec PyProof.Rows L2 KX
/-! ### a tried direction blocks no more than any direction -/
theorem eqv_vals {a e : Rec} (h : PyData.eqv (encR a) (encR e) = true) : a.vals = e.vals := by
  unfold encR at h
  simp only [PyData.eqv, PyData.eqvAll, eqv_ints, Bool.and_eq_true, decide_eq_true_eq] at h
  exact h.2.2.1
theorem twin_any {i j : Int} {r e : Rec} {rs : List Rec} (he : e ∈ rs) : (((twinR i j r rs).map encR).any fun z => PyData.eqv z (encR e)) = decide (ptR i j e = ptR i j r) := by
  by_cases h : ptR i j e = ptR i j r
  · rw [decide_eq_true h]
    exact any_self (List.mem_filter.mpr ⟨he, decide_eq_true h⟩)
  · rw [decide_eq_false h, List.any_eq_false]
    intro z hz k
    obtain ⟨a, ha, rfl⟩ := List.mem_map.mp hz
    have ea := of_decide_eq_true (List.mem_filter.mp ha).2
    refine h ?_
    rw [← ea]
    unfold ptR vat
    rw [eqv_vals k]
theorem fm_congr {α β : Type} {f g : α → Option β} : ∀ {l : List α}, (∀ e ∈ l, f e = g e) → l.filterMap f = l.filterMap g
  | [], _ => rfl
  | e :: l, h => by rw [List.filterMap_cons, List.filterMap_cons, h e (by simp), fm_congr fun x hx => h x (List.mem_cons_of_mem _ hx)]
theorem steps_eq {i j : Int} {r : Rec} {rs : List Rec} : stsR i j r rs = (rs.filter fun e => !decide (ptR i j e = ptR i j r)).map fun e => (stpR i j r e, e.cost) := by
  unfold stsR
  rw [← fm_if (fun e => !decide (ptR i j e = ptR i j r)) (fun e => (stpR i j r e, e.cost)) rs]
  refine fm_congr fun e he => ?_
  unfold stepF
  rw [twin_any he]
  by_cases h : ptR i j e = ptR i j r
  · rw [decide_eq_true h]
    rfl
  · rw [decide_eq_false h]
    rfl
def costB (i j : Int) (d : Int × Int) (r : Rec) (rs : List Rec) : Int := ((rs.filter (blkR i j d r)).map (fun e : Rec => e.cost)).sum
theorem cost_split {i j : Int} {d : Int × Int} {r : Rec} : ∀ l : List Rec, ((l.filter (blkR i j d r)).map (fun e : Rec => e.cost)).sum = (((l.filter fun e => decide (ptR i j e = ptR i j r)).filter fun e : Rec => ltS e.nm r.nm).map (fun e : Rec => e.cost)).sum + aheadI d ((l.filter fun e => !decide (ptR i j e = ptR i j r)).map fun e => (stpR i j r e, e.cost))
  | [] => rfl
  | e :: l => by
    have ih := cost_split (i := i) (j := j) (d := d) (r := r) l
    unfold aheadI at ih ⊢
    by_cases h : ptR i j e = ptR i j r
    · have b : blkR i j d r e = ltS e.nm r.nm := by
        unfold blkR
        rw [if_pos (stp_zero.mpr h)]
      rw [List.filter_cons_of_pos (p := fun e => decide (ptR i j e = ptR i j r)) (decide_eq_true h), List.filter_cons_of_neg (p := fun e => !decide (ptR i j e = ptR i j r)) (show ¬ ((!decide (ptR i j e = ptR i j r)) = true) by rw [decide_eq_true h]; decide)]
      cases z : ltS e.nm r.nm with
      | true =>
        rw [List.filter_cons_of_pos (b.trans z), List.filter_cons_of_pos (p := fun e : Rec => ltS e.nm r.nm) z]
        simp only [List.map_cons, List.sum_cons]
        omega
      | false =>
        rw [List.filter_cons_of_neg (by rw [b, z]; decide), List.filter_cons_of_neg (p := fun e : Rec => ltS e.nm r.nm) (show ¬ (ltS e.nm r.nm = true) by rw [z]; decide)]
        exact ih
    · have b : blkR i j d r e = decide (d.1 * (stpR i j r e).1 + d.2 * (stpR i j r e).2 ≥ 0) := by
        unfold blkR
        rw [if_neg (fun z => h (stp_zero.mp z))]
      rw [List.filter_cons_of_neg (p := fun e => decide (ptR i j e = ptR i j r)) (show ¬ (decide (ptR i j e = ptR i j r) = true) by rw [decide_eq_false h]; decide), List.filter_cons_of_pos (p := fun e => !decide (ptR i j e = ptR i j r)) (show (!decide (ptR i j e = ptR i j r)) = true by rw [decide_eq_false h]; rfl), List.map_cons, List.filterMap_cons]
      by_cases z : d.1 * (stpR i j r e).1 + d.2 * (stpR i j r e).2 ≥ 0
      · rw [List.filter_cons_of_pos (b.trans (decide_eq_true z))]
        simp only [if_pos z, List.map_cons, List.sum_cons]
        omega
      · rw [List.filter_cons_of_neg (by rw [b, decide_eq_false z]; decide)]
        simp only [if_neg z]
        exact ih
theorem cost_dir {i j : Int} {d : Int × Int} {r : Rec} {rs : List Rec} : leastI i j r rs + aheadI d (stsR i j r rs) = costB i j d r rs := by
  unfold costB leastI twinR
  rw [steps_eq, cost_split]
theorem ext_left {d : Int × Int} {N : List (Int × Int)} (ne : N ≠ []) (h : ∀ v ∈ N, 0 < dt d v) : ∃ w ∈ N, ∀ v ∈ N, 0 ≤ cr v w ∧ (cr v w = 0 → 0 < dt v w) := by
  have t : ∀ a b : Int × Int, turnI (0, 0) a b = cr a b := fun a b => by unfold turnI cr; grind
  have al : ∀ a b : Int × Int, alI (0, 0) a b = dt a b := fun a b => by unfold alI dt; grind
  have k := dir_out (p := (0, 0)) (d := d) (os := N) fun x hx => by
    have := h x hx
    have e : vc (0, 0) x = x := by unfold vc; exact Prod.ext (by dsimp only; omega) (by dsimp only; omega)
    rw [e]
    exact this
  rw [inH_iff] at k
  obtain ⟨u, hu, w, hw, z⟩ := ext N ne (fun a ha b hb z => k.1 a ha b hb (by rw [t, al]; exact z)) (fun a ha b hb c hc z => k.2 a ha b hb c hc (by rw [t, t, t]; exact z))
  refine ⟨w, hw, fun v hv => ⟨(z v hv).2, fun y => ?_⟩⟩
  have := k.1 v hv w hw
  rw [t, al] at this
  omega
theorem mul_bd {a b : Int} (h1 : -2000000000 ≤ a) (h2 : a ≤ 2000000000) (h3 : -2000000000 ≤ b) (h4 : b ≤ 2000000000) : -4000000000000000000 ≤ a * b := by
  have : 0 ≤ (2000000000 - a) * (2000000000 + b) := Int.mul_nonneg (by omega) (by omega)
  have : 0 ≤ (2000000000 + a) * (2000000000 - b) := Int.mul_nonneg (by omega) (by omega)
  have : 0 ≤ (2000000000 + a) * (2000000000 + b) := Int.mul_nonneg (by omega) (by omega)
  have : 0 ≤ (2000000000 - a) * (2000000000 - b) := Int.mul_nonneg (by omega) (by omega)
  grind
theorem tilt_neg {v w : Int × Int} (hv : Stp v) (hw : Stp w) (h1 : 0 ≤ cr v w) (h2 : cr v w = 0 → 0 < dt v w) : (tiltP w).1 * v.1 + (tiltP w).2 * v.2 < 0 := by
  have e : (tiltP w).1 * v.1 + (tiltP w).2 * v.2 = -(TLT * cr v w) - dt v w := by unfold tiltP cr dt; grind
  rw [e]
  by_cases z : cr v w = 0
  · have := h2 z
    rw [z, Int.mul_zero]
    omega
  · obtain ⟨a1, a2, a3, a4⟩ := hv
    obtain ⟨b1, b2, b3, b4⟩ := hw
    have m1 := mul_bd a1 a2 b1 b2
    have m2 := mul_bd a3 a4 b3 b4
    have d : dt v w = v.1 * w.1 + v.2 * w.2 := rfl
    have t : TLT = 100000000000000000000 := rfl
    rw [t]
    omega
theorem dirs_best {i j : Int} {r : Rec} {rs : List Rec} (hs : ∀ e ∈ rs, Stp (stpR i j r e)) (d : Int × Int) : ∃ t ∈ dirsR i j r rs, ∀ e ∈ rs, blkR i j t r e = true → blkR i j d r e = true := by
  have tw : ∀ (t : Int × Int) (e : Rec), ptR i j e = ptR i j r → blkR i j t r e = true → blkR i j d r e = true := fun t e h k => by
    unfold blkR at k ⊢
    rw [if_pos (stp_zero.mpr h)] at k ⊢
    exact k
  have no : ∀ (t : Int × Int) (e : Rec), ptR i j e ≠ ptR i j r → blkR i j t r e = decide (t.1 * (stpR i j r e).1 + t.2 * (stpR i j r e).2 ≥ 0) := fun t e h => by
    unfold blkR
    rw [if_neg (fun z => h (stp_zero.mp z))]
  obtain ⟨N, eN⟩ : ∃ N, ((stsR i j r rs).map (·.1)).filter (fun s => decide (d.1 * s.1 + d.2 * s.2 < 0)) = N := ⟨_, rfl⟩
  have inN : ∀ e ∈ rs, ptR i j e ≠ ptR i j r → d.1 * (stpR i j r e).1 + d.2 * (stpR i j r e).2 < 0 → stpR i j r e ∈ N := fun e he h z => by
    rw [← eN, steps_eq]
    exact List.mem_filter.mpr ⟨List.mem_map.mpr ⟨(stpR i j r e, e.cost), List.mem_map.mpr ⟨e, List.mem_filter.mpr ⟨he, by rw [decide_eq_false h]; rfl⟩, rfl⟩, rfl⟩, decide_eq_true z⟩
  by_cases ne : N = []
  · refine ⟨(1, 0), by unfold dirsR; simp, fun e he k => ?_⟩
    by_cases h : ptR i j e = ptR i j r
    · exact tw _ e h k
    · rw [no _ e h]
      refine decide_eq_true ?_
      by_cases z : d.1 * (stpR i j r e).1 + d.2 * (stpR i j r e).2 < 0
      · have := inN e he h z
        rw [ne] at this
        cases this
      · omega
  · have hN : ∀ v ∈ N, v ∈ (stsR i j r rs).map (·.1) ∧ d.1 * v.1 + d.2 * v.2 < 0 := fun v hv => by
      rw [← eN] at hv
      obtain ⟨h1, h2⟩ := List.mem_filter.mp hv
      exact ⟨h1, of_decide_eq_true h2⟩
    obtain ⟨w, hw, kw⟩ := ext_left (d := (-d.1, -d.2)) ne fun v hv => by
      have := (hN v hv).2
      unfold dt
      dsimp only
      rw [Int.neg_mul, Int.neg_mul]
      omega
    have sN : ∀ v ∈ N, Stp v := fun v hv => by
      have h := (hN v hv).1
      rw [steps_eq] at h
      obtain ⟨s, h1, rfl⟩ := List.mem_map.mp h
      obtain ⟨e, h2, rfl⟩ := List.mem_map.mp h1
      exact hs e (List.mem_filter.mp h2).1
    refine ⟨tiltP w, by unfold dirsR; exact List.mem_cons_of_mem _ (List.mem_map.mpr ⟨w, (hN w hw).1, rfl⟩), fun e he k => ?_⟩
    by_cases h : ptR i j e = ptR i j r
    · exact tw _ e h k
    · rw [no _ e h] at k ⊢
      have k := of_decide_eq_true k
      refine decide_eq_true ?_
      by_cases z : d.1 * (stpR i j r e).1 + d.2 * (stpR i j r e).2 < 0
      · have m := inN e he h z
        have := tilt_neg (sN _ m) (sN _ hw) (kw _ m).1 (kw _ m).2
        omega
      · omega
/-! ### a corner of what is left -/
theorem corner_dir {i j : Int} {r : Rec} {L : List Rec} (h : lawT i j L r = true) : ∃ d : Int × Int, ∀ e ∈ L, blkR i j d r e = false := by
  unfold lawT at h
  rw [Bool.and_eq_true] at h
  have hi : inH (ptR i j r) (othsR i j L r) = false := by
    cases z : inH (ptR i j r) (othsR i j L r) with
    | false => rfl
    | true => rw [z] at h; cases h.2
  rw [inH_iff] at hi
  obtain ⟨d, hd⟩ := far_dir (W := (othsR i j L r).map (vc (ptR i j r))) (fun u hu v hv z => by
    obtain ⟨a, ha, rfl⟩ := List.mem_map.mp hu
    obtain ⟨b, hb, rfl⟩ := List.mem_map.mp hv
    exact hi.1 a ha b hb z) (fun u hu v hv t ht z => by
    obtain ⟨a, ha, rfl⟩ := List.mem_map.mp hu
    obtain ⟨b, hb, rfl⟩ := List.mem_map.mp hv
    obtain ⟨c, hc, rfl⟩ := List.mem_map.mp ht
    exact hi.2 a ha b hb c hc z)
  refine ⟨(-d.1, -d.2), fun e he => ?_⟩
  unfold blkR
  by_cases z : ptR i j e = ptR i j r
  · rw [if_pos (stp_zero.mpr z)]
    have l := List.filter_eq_nil_iff.mp (List.isEmpty_iff.mp h.1) e he
    unfold lessR at l
    rw [decide_eq_true z, Bool.true_and] at l
    cases y : ltS e.nm r.nm with
    | false => rfl
    | true => exact absurd y l
  · rw [if_neg (fun y => z (stp_zero.mp y))]
    refine decide_eq_false fun y => ?_
    have := hd (vc (ptR i j r) (ptR i j e)) (List.mem_map.mpr ⟨ptR i j e, List.mem_map.mpr ⟨e, List.mem_filter.mpr ⟨he, by rw [decide_eq_false z]; rfl⟩, rfl⟩, rfl⟩)
    have e1 : dt d (vc (ptR i j r) (ptR i j e)) = d.1 * (stpR i j r e).1 + d.2 * (stpR i j r e).2 := rfl
    rw [e1] at this
    rw [Int.neg_mul, Int.neg_mul] at y
    omega
theorem dir_corner {i j : Int} {r : Rec} {L : List Rec} {d : Int × Int} (h : ∀ e ∈ L, blkR i j d r e = false) : lawT i j L r = true := by
  unfold lawT
  rw [Bool.and_eq_true]
  refine ⟨?_, ?_⟩
  · rw [List.isEmpty_iff, List.filter_eq_nil_iff]
    intro e he z
    unfold lessR at z
    rw [Bool.and_eq_true] at z
    have k := h e he
    unfold blkR at k
    rw [if_pos (stp_zero.mpr (of_decide_eq_true z.1)), z.2] at k
    cases k
  · rw [dir_out (p := ptR i j r) (d := (-d.1, -d.2)) fun x hx => ?_]
    · rfl
    obtain ⟨e, he, rfl⟩ := List.mem_map.mp hx
    obtain ⟨h1, h2⟩ := List.mem_filter.mp he
    have ne : ptR i j e ≠ ptR i j r := fun z => by
      rw [decide_eq_true z] at h2
      cases h2
    have k := h e h1
    unfold blkR at k
    rw [if_neg (fun y => ne (stp_zero.mp y))] at k
    have k := of_decide_eq_false k
    have e1 : dt (-d.1, -d.2) (vc (ptR i j r) (ptR i j e)) = (-d.1) * (stpR i j r e).1 + (-d.2) * (stpR i j r e).2 := rfl
    rw [e1, Int.neg_mul, Int.neg_mul]
    omega
theorem sum_mono {f g : Rec → Bool} : ∀ {l : List Rec}, (∀ e ∈ l, 0 ≤ e.cost) → (∀ e ∈ l, f e = true → g e = true) → ((l.filter f).map (fun e : Rec => e.cost)).sum ≤ ((l.filter g).map (fun e : Rec => e.cost)).sum
  | [], _, _ => Int.le_refl _
  | e :: l, h, k => by
    have ih := sum_mono (l := l) (fun e he => h e (List.mem_cons_of_mem _ he)) (fun e he => k e (List.mem_cons_of_mem _ he))
    have h0 := h e (by simp)
    have k0 := k e (by simp)
    rw [List.filter_cons, List.filter_cons]
    cases a : f e with
    | true =>
      rw [k0 a]
      simp only [if_true, List.map_cons, List.sum_cons]
      omega
    | false =>
      cases b : g e with
      | true =>
        simp only [if_true, if_neg (show ¬ (false = true) by decide), List.map_cons, List.sum_cons]
        omega
      | false =>
        simp only [if_neg (show ¬ (false = true) by decide)]
        exact ih
def goneC (rs : List Rec) (gone : List Str) : Int := ((rs.filter fun e => decide (e.nm ∈ gone)).map (fun e : Rec => e.cost)).sum
def leftR (rs : List Rec) (gone : List Str) : List Rec := rs.filter fun e => !decide (e.nm ∈ gone)
/-- no set that makes the row a corner is cheaper -/
theorem best_low {i j : Int} {r : Rec} {rs : List Rec} {m : Int × (Int × Int)} {gone : List Str} (hs : ∀ e ∈ rs, Stp (stpR i j r e)) (hc : ∀ e ∈ rs, 0 ≤ e.cost) (hm : BestD i j r rs m) (h : lawT i j (leftR rs gone) r = true) : m.1 ≤ goneC rs gone := by
  obtain ⟨d, hd⟩ := corner_dir h
  obtain ⟨t, ht, kt⟩ := dirs_best hs d
  have h1 := hm.2.2 t ht
  rw [cost_dir] at h1
  refine Int.le_trans h1 (sum_mono hc fun e he k => ?_)
  have k := kt e he k
  by_cases z : e.nm ∈ gone
  · exact decide_eq_true z
  · have := hd e (List.mem_filter.mpr ⟨he, by rw [decide_eq_false z]; rfl⟩)
    rw [this] at k
    cases k
end I1

set_option maxRecDepth 100000
set_option maxHeartbeats 4000000
namespace I1
open PySem PySem.Spec PyProof.Rows L2 KX
/-! ### the cheapest cost of a row -/
theorem best_some {i j : Int} {r : Rec} {rs : List Rec} {m : Int × (Int × Int)} (hm : BestD i j r rs m) : ∃ d, m.1 = costB i j d r rs := ⟨m.2, by rw [hm.2.1, cost_dir]⟩
theorem best_le {i j : Int} {r : Rec} {rs : List Rec} {m : Int × (Int × Int)} (hs : ∀ e ∈ rs, Stp (stpR i j r e)) (hc : ∀ e ∈ rs, 0 ≤ e.cost) (hm : BestD i j r rs m) (d : Int × Int) : m.1 ≤ costB i j d r rs := by
  obtain ⟨t, ht, kt⟩ := dirs_best hs d
  have h1 := hm.2.2 t ht
  rw [cost_dir] at h1
  exact Int.le_trans h1 (sum_mono hc kt)
theorem blk_lin {a b c e i j i2 j2 : Int} {r r2 x x2 : Rec} (hD : a * e - b * c ≠ 0) (hn : x2.nm = x.nm) (hr : r2.nm = r.nm) (h1 : (stpR i2 j2 r2 x2).1 = a * (stpR i j r x).1 + b * (stpR i j r x).2) (h2 : (stpR i2 j2 r2 x2).2 = c * (stpR i j r x).1 + e * (stpR i j r x).2) (d : Int × Int) :
    blkR i2 j2 d r2 x2 = blkR i j (a * d.1 + c * d.2, b * d.1 + e * d.2) r x := by
  have z : stpR i2 j2 r2 x2 = (0, 0) ↔ stpR i j r x = (0, 0) := by
    constructor
    · intro k
      rw [k] at h1 h2
      dsimp only at h1 h2
      have e1 : (a * e - b * c) * (stpR i j r x).1 = e * (a * (stpR i j r x).1 + b * (stpR i j r x).2) - b * (c * (stpR i j r x).1 + e * (stpR i j r x).2) := by grind
      have e2 : (a * e - b * c) * (stpR i j r x).2 = a * (c * (stpR i j r x).1 + e * (stpR i j r x).2) - c * (a * (stpR i j r x).1 + b * (stpR i j r x).2) := by grind
      rw [← h1, ← h2, Int.mul_zero, Int.mul_zero] at e1 e2
      rcases Int.mul_eq_zero.mp (e1.trans (Int.sub_self 0)) with k1 | k1
      · exact absurd k1 hD
      rcases Int.mul_eq_zero.mp (e2.trans (Int.sub_self 0)) with k2 | k2
      · exact absurd k2 hD
      exact Prod.ext k1 k2
    · intro k
      rw [k] at h1 h2
      dsimp only at h1 h2
      exact Prod.ext (by rw [h1, Int.mul_zero, Int.mul_zero]; rfl) (by rw [h2, Int.mul_zero, Int.mul_zero]; rfl)
  unfold blkR
  rw [hn, hr]
  by_cases y : stpR i j r x = (0, 0)
  · rw [if_pos y, if_pos (z.mpr y)]
  · rw [if_neg y, if_neg (fun k => y (z.mp k)), h1, h2]
    rw [show d.1 * (a * (stpR i j r x).1 + b * (stpR i j r x).2) + d.2 * (c * (stpR i j r x).1 + e * (stpR i j r x).2) = (a * d.1 + c * d.2, b * d.1 + e * d.2).1 * (stpR i j r x).1 + (a * d.1 + c * d.2, b * d.1 + e * d.2).2 * (stpR i j r x).2 by dsimp only; grind]
theorem blk_scale {i j q : Int} {d : Int × Int} {r x : Rec} (hq : 0 < q) : blkR i j (q * d.1, q * d.2) r x = blkR i j d r x := by
  unfold blkR
  rw [show (q * d.1, q * d.2).1 * (stpR i j r x).1 + (q * d.1, q * d.2).2 * (stpR i j r x).2 = q * (d.1 * (stpR i j r x).1 + d.2 * (stpR i j r x).2) by dsimp only; grind]
  generalize d.1 * (stpR i j r x).1 + d.2 * (stpR i j r x).2 = t
  rw [show decide (q * t ≥ 0) = decide (t ≥ 0) from decide_eq_decide.mpr ⟨fun h => by
    by_cases k : t ≥ 0
    · exact k
    · exfalso
      have : 0 < q * (-t) := Int.mul_pos hq (by omega)
      rw [Int.mul_neg] at this
      omega, fun h => Int.mul_nonneg (by omega) h⟩]
theorem sum_pair {g h : Rec → Bool} : ∀ {es rs : List Rec}, Paired (fun e r => e.cost = r.cost ∧ g e = h r) es rs → ((es.filter g).map (fun e : Rec => e.cost)).sum = ((rs.filter h).map (fun e : Rec => e.cost)).sum
  | [], [], .nil => rfl
  | e :: es, r :: rs, .cons a t => by
    have ih := sum_pair t
    rw [List.filter_cons, List.filter_cons, a.2]
    cases h r with
    | true => simp only [if_true, List.map_cons, List.sum_cons, ih, a.1]
    | false => simpa using ih
theorem pair_imp {α β : Type} {R S : α → β → Prop} (h : ∀ a b, R a b → S a b) : ∀ {as : List α} {bs : List β}, Paired R as bs → Paired S as bs
  | [], [], .nil => .nil
  | _ :: _, _ :: _, .cons x t => .cons (h _ _ x) (pair_imp h t)
theorem pair_refl {α : Type} {R : α → α → Prop} (h : ∀ a, R a a) : ∀ l : List α, Paired R l l
  | [] => .nil
  | a :: l => .cons (h a) (pair_refl h l)
/-- a row whose point is the other row's point after a map -/
def Tr (a b c e t u i j i2 j2 : Int) (x2 x : Rec) : Prop := x2.nm = x.nm ∧ x2.cost = x.cost ∧ (ptR i2 j2 x2).1 = a * (ptR i j x).1 + b * (ptR i j x).2 + t ∧ (ptR i2 j2 x2).2 = c * (ptR i j x).1 + e * (ptR i j x).2 + u
theorem tr_stp {a b c e t u i j i2 j2 : Int} {x2 x r2 r : Rec} (hx : Tr a b c e t u i j i2 j2 x2 x) (hr : Tr a b c e t u i j i2 j2 r2 r) :
    (stpR i2 j2 r2 x2).1 = a * (stpR i j r x).1 + b * (stpR i j r x).2 ∧ (stpR i2 j2 r2 x2).2 = c * (stpR i j r x).1 + e * (stpR i j r x).2 := by
  obtain ⟨_, _, x1, x2'⟩ := hx
  obtain ⟨_, _, r1, r2'⟩ := hr
  unfold ptR at x1 x2' r1 r2'
  unfold stpR
  dsimp only at x1 x2' r1 r2' ⊢
  rw [x1, x2', r1, r2']
  constructor <;> grind
theorem best_lin {a b c e t u i j i2 j2 : Int} {es rs : List Rec} {r2 r : Rec} {m2 m : Int × (Int × Int)} (hD : a * e - b * c ≠ 0) (h : Paired (Tr a b c e t u i j i2 j2) es rs) (hr : Tr a b c e t u i j i2 j2 r2 r)
    (s2 : ∀ x ∈ es, Stp (stpR i2 j2 r2 x)) (c2 : ∀ x ∈ es, 0 ≤ x.cost) (s1 : ∀ x ∈ rs, Stp (stpR i j r x)) (c1 : ∀ x ∈ rs, 0 ≤ x.cost) (h2 : BestD i2 j2 r2 es m2) (h1 : BestD i j r rs m) : m2.1 = m.1 := by
  have key : ∀ d : Int × Int, costB i2 j2 d r2 es = costB i j (a * d.1 + c * d.2, b * d.1 + e * d.2) r rs := fun d => sum_pair (pair_imp (fun x2 x hx => ⟨hx.2.1, blk_lin hD hx.1 hr.1 (tr_stp hx hr).1 (tr_stp hx hr).2 d⟩) h)
  obtain ⟨d2, e2⟩ := best_some h2
  obtain ⟨d1, e1⟩ := best_some h1
  have l1 := best_le s1 c1 h1 (a * d2.1 + c * d2.2, b * d2.1 + e * d2.2)
  rw [← key, ← e2] at l1
  have l2 := best_le s2 c2 h2 ((a * e - b * c) * (e * d1.1 - c * d1.2), (a * e - b * c) * (a * d1.2 - b * d1.1))
  rw [key] at l2
  have q0 : 0 < (a * e - b * c) * (a * e - b * c) := by
    rcases (show a * e - b * c < 0 ∨ 0 < a * e - b * c by omega) with k | k
    · exact Int.mul_pos_of_neg_of_neg k k
    · exact Int.mul_pos k k
  have eb : blkR i j (a * ((a * e - b * c) * (e * d1.1 - c * d1.2)) + c * ((a * e - b * c) * (a * d1.2 - b * d1.1)), b * ((a * e - b * c) * (e * d1.1 - c * d1.2)) + e * ((a * e - b * c) * (a * d1.2 - b * d1.1))) r = blkR i j d1 r := funext fun x => by
    rw [← blk_scale (d := d1) q0]
    congr 1
    exact Prod.ext (by dsimp only; grind) (by dsimp only; grind)
  have ec : costB i j (a * ((a * e - b * c) * (e * d1.1 - c * d1.2)) + c * ((a * e - b * c) * (a * d1.2 - b * d1.1)), b * ((a * e - b * c) * (e * d1.1 - c * d1.2)) + e * ((a * e - b * c) * (a * d1.2 - b * d1.1))) r rs = costB i j d1 r rs := by
    unfold costB
    rw [eb]
  rw [ec, ← e1] at l2
  omega
theorem sum_nn {f : Rec → Bool} : ∀ {l : List Rec}, (∀ e ∈ l, 0 ≤ e.cost) → 0 ≤ ((l.filter f).map (fun e : Rec => e.cost)).sum
  | [], _ => by simp
  | e :: l, h => by
    have ih := sum_nn (f := f) (l := l) fun x hx => h x (List.mem_cons_of_mem _ hx)
    have h0 := h e (by simp)
    rw [List.filter_cons]
    cases f e with
    | true =>
      simp only [if_true, List.map_cons, List.sum_cons]
      omega
    | false => simpa using ih
theorem sum_has {f : Rec → Bool} {x : Rec} : ∀ {l : List Rec}, (∀ e ∈ l, 0 ≤ e.cost) → x ∈ l → f x = true → x.cost ≤ ((l.filter f).map (fun e : Rec => e.cost)).sum
  | [], _, h, _ => nomatch h
  | e :: l, h, hx, k => by
    have nn := sum_nn (f := f) (l := l) fun x hx => h x (List.mem_cons_of_mem _ hx)
    have h0 := h e (by simp)
    rw [List.filter_cons]
    rcases List.mem_cons.mp hx with rfl | hx
    · rw [k]
      simp only [if_true, List.map_cons, List.sum_cons]
      omega
    · have ih := sum_has (fun x hx => h x (List.mem_cons_of_mem _ hx)) hx k
      cases f e with
      | true =>
        simp only [if_true, List.map_cons, List.sum_cons]
        omega
      | false => simpa using ih
theorem best_nn {i j : Int} {r : Rec} {rs : List Rec} {m : Int × (Int × Int)} (hc : ∀ e ∈ rs, 0 ≤ e.cost) (hm : BestD i j r rs m) : 0 ≤ m.1 := by
  obtain ⟨d, e⟩ := best_some hm
  rw [e]
  exact sum_nn hc
theorem best_zero {i j : Int} {r : Rec} {rs : List Rec} {m : Int × (Int × Int)} (hs : ∀ e ∈ rs, Stp (stpR i j r e)) (hc : ∀ e ∈ rs, 1 ≤ e.cost) (hm : BestD i j r rs m) : decide (m.1 = 0) = lawT i j rs r := by
  have hc0 : ∀ e ∈ rs, 0 ≤ e.cost := fun e he => by have := hc e he; omega
  have nn := best_nn hc0 hm
  cases z : lawT i j rs r with
  | true =>
    obtain ⟨d, hd⟩ := corner_dir z
    have l := best_le hs hc0 hm d
    have : rs.filter (blkR i j d r) = [] := List.filter_eq_nil_iff.mpr fun e he => by rw [hd e he]; decide
    unfold costB at l
    rw [this] at l
    simp at l
    exact decide_eq_true (by omega)
  | false =>
    refine decide_eq_false fun k => ?_
    obtain ⟨d, e⟩ := best_some hm
    have : lawT i j rs r = true := dir_corner (d := d) fun x hx => by
      cases y : blkR i j d r x with
      | false => rfl
      | true =>
        have h1 := sum_has hc0 hx y
        have h2 := hc x hx
        unfold costB at e
        omega
    rw [z] at this
    cases this
theorem sum_sub {f : Rec → Bool} {ss rs : List Rec} (h : ss.Sublist rs) : (∀ e ∈ rs, 0 ≤ e.cost) → ((ss.filter f).map (fun e : Rec => e.cost)).sum ≤ ((rs.filter f).map (fun e : Rec => e.cost)).sum := by
  induction h with
  | slnil => exact fun _ => Int.le_refl _
  | @cons l1 l2 a _ ih =>
    intro hc
    have ih := ih fun x hx => hc x (List.mem_cons_of_mem _ hx)
    have h0 := hc a (by simp)
    rw [List.filter_cons (xs := l2)]
    cases f a with
    | true =>
      simp only [if_true, List.map_cons, List.sum_cons]
      omega
    | false => simpa using ih
  | @cons_cons l1 l2 a _ ih =>
    intro hc
    have ih := ih fun x hx => hc x (List.mem_cons_of_mem _ hx)
    rw [List.filter_cons, List.filter_cons]
    cases f a with
    | true =>
      simp only [if_true, List.map_cons, List.sum_cons]
      omega
    | false => simpa using ih
theorem best_sub {i j : Int} {r : Rec} {ss rs : List Rec} {m2 m : Int × (Int × Int)} (h : ss.Sublist rs) (hs : ∀ e ∈ rs, Stp (stpR i j r e)) (hc : ∀ e ∈ rs, 0 ≤ e.cost) (h2 : BestD i j r ss m2) (h1 : BestD i j r rs m) : m2.1 ≤ m.1 := by
  obtain ⟨d, e⟩ := best_some h1
  rw [e]
  exact Int.le_trans (best_le (fun x hx => hs x (h.subset hx)) (fun x hx => hc x (h.subset hx)) h2 d) (sum_sub h hc)
/-- the row at the price that it has when these are gone -/
def prR (gone : List Str) (e : Rec) : Rec := ⟨e.nm, if e.nm ∈ gone then 1 else 1000000, e.vals, e.exp⟩
theorem sum_len {f : Rec → Bool} : ∀ {l : List Rec}, (∀ e ∈ l, f e = true → e.cost ≤ 1) → ((l.filter f).map (fun e : Rec => e.cost)).sum ≤ (l.length : Int)
  | [], _ => by simp
  | e :: l, h => by
    have ih := sum_len (f := f) (l := l) fun x hx => h x (List.mem_cons_of_mem _ hx)
    have h0 := h e (by simp)
    rw [List.filter_cons, List.length_cons]
    cases k : f e with
    | true =>
      have h0 := h0 k
      simp only [if_true, List.map_cons, List.sum_cons]
      omega
    | false =>
      simp only [if_neg (show ¬ (false = true) by decide)]
      omega
theorem pr_cost {gone : List Str} {rs : List Rec} : ∀ e ∈ rs.map (prR gone), 1 ≤ e.cost ∧ e.cost ≤ 1000000 := fun e he => by
  obtain ⟨x, _, rfl⟩ := List.mem_map.mp he
  show 1 ≤ (if x.nm ∈ gone then (1 : Int) else 1000000) ∧ (if x.nm ∈ gone then (1 : Int) else 1000000) ≤ 1000000
  split <;> omega
theorem best_prices {i j : Int} {r : Rec} {rs : List Rec} {gone : List Str} {m : Int × (Int × Int)} (hl : rs.length ≤ 9) (hs : ∀ e ∈ rs, Stp (stpR i j r e)) (hm : BestD i j (prR gone r) (rs.map (prR gone)) m) : decide (m.1 < 1000000) = lawT i j (leftR rs gone) r := by
  have hs2 : ∀ e ∈ rs.map (prR gone), Stp (stpR i j (prR gone r) e) := fun e he => by
    obtain ⟨x, hx, rfl⟩ := List.mem_map.mp he
    exact hs x hx
  have hc0 : ∀ e ∈ rs.map (prR gone), 0 ≤ e.cost := fun e he => by have := pr_cost e he; omega
  cases z : lawT i j (leftR rs gone) r with
  | true =>
    obtain ⟨d, hd⟩ := corner_dir z
    have l := best_le hs2 hc0 hm d
    have l2 : costB i j d (prR gone r) (rs.map (prR gone)) ≤ ((rs.map (prR gone)).length : Int) := sum_len fun e he k => by
      obtain ⟨x, hx, rfl⟩ := List.mem_map.mp he
      have k : blkR i j d r x = true := k
      show (if x.nm ∈ gone then (1 : Int) else 1000000) ≤ 1
      by_cases y : x.nm ∈ gone
      · rw [if_pos y]
        exact Int.le_refl _
      · have := hd x (List.mem_filter.mpr ⟨hx, by rw [decide_eq_false y]; rfl⟩)
        rw [this] at k
        cases k
    rw [List.length_map] at l2
    exact decide_eq_true (by omega)
  | false =>
    refine decide_eq_false fun k => ?_
    obtain ⟨d, e⟩ := best_some hm
    have : lawT i j (leftR rs gone) r = true := dir_corner (d := d) fun x hx => by
      obtain ⟨h1, h2⟩ := List.mem_filter.mp hx
      cases y : blkR i j d r x with
      | false => rfl
      | true =>
        have h3 := sum_has (f := blkR i j d (prR gone r)) hc0 (List.mem_map.mpr ⟨x, h1, rfl⟩) y
        have h4 : (prR gone x).cost = 1000000 := by
          show (if x.nm ∈ gone then (1 : Int) else 1000000) = 1000000
          by_cases y : x.nm ∈ gone
          · rw [decide_eq_true y] at h2
            cases h2
          · rw [if_neg y]
        rw [h4] at h3
        unfold costB at e
        omega
    rw [z] at this
    cases this
/-! ### the cheapest cost, as a number -/
def minL : Int → List Int → Int
  | a, [] => a
  | a, b :: l => minL (if b < a then b else a) l
theorem minL_mem : ∀ (l : List Int) (a : Int), minL a l ∈ a :: l
  | [], a => by simp [minL]
  | b :: l, a => by
    unfold minL
    have h := minL_mem l (if b < a then b else a)
    rcases List.mem_cons.mp h with h | h
    · rw [h]
      split <;> simp
    · simp [h]
theorem minL_le : ∀ (l : List Int) (a : Int), ∀ x ∈ a :: l, minL a l ≤ x
  | [], a, x, h => by
    rw [List.mem_singleton.mp h]
    exact Int.le_refl _
  | b :: l, a, x, h => by
    unfold minL
    have k := minL_le l (if b < a then b else a)
    have k0 := k _ (by simp : (if b < a then b else a) ∈ (if b < a then b else a) :: l)
    have k1 : (if b < a then b else a) ≤ a ∧ (if b < a then b else a) ≤ b := by split <;> omega
    rcases List.mem_cons.mp h with rfl | h
    · omega
    · rcases List.mem_cons.mp h with rfl | h
      · omega
      · exact k x (List.mem_cons_of_mem _ h)
def minC (i j : Int) (rs : List Rec) (r : Rec) : Int := minL (leastI i j r rs + aheadI (1, 0) (stsR i j r rs)) ((((stsR i j r rs).map (·.1)).map tiltP).map fun p => leastI i j r rs + aheadI p (stsR i j r rs))
theorem minC_has (i j : Int) (rs : List Rec) (r : Rec) : ∃ m, BestD i j r rs m ∧ m.1 = minC i j rs r := by
  have h1 := minL_mem ((((stsR i j r rs).map (·.1)).map tiltP).map fun p => leastI i j r rs + aheadI p (stsR i j r rs)) (leastI i j r rs + aheadI (1, 0) (stsR i j r rs))
  have h2 := minL_le ((((stsR i j r rs).map (·.1)).map tiltP).map fun p => leastI i j r rs + aheadI p (stsR i j r rs)) (leastI i j r rs + aheadI (1, 0) (stsR i j r rs))
  have e : (leastI i j r rs + aheadI (1, 0) (stsR i j r rs)) :: ((((stsR i j r rs).map (·.1)).map tiltP).map fun p => leastI i j r rs + aheadI p (stsR i j r rs)) = (dirsR i j r rs).map fun p => leastI i j r rs + aheadI p (stsR i j r rs) := rfl
  rw [e] at h1 h2
  obtain ⟨p, hp, ep⟩ := List.mem_map.mp h1
  exact ⟨(minC i j rs r, p), ⟨hp, ep.symm, fun q hq => h2 _ (List.mem_map.mpr ⟨q, hq, rfl⟩)⟩, rfl⟩
theorem minC_of {i j : Int} {rs : List Rec} {r : Rec} {m : Int × (Int × Int)} (h : BestD i j r rs m) : m.1 = minC i j rs r := by
  obtain ⟨m2, h2, e⟩ := minC_has i j rs r
  rw [← e]
  have l1 := h.2.2 _ h2.1
  have l2 := h2.2.2 _ h.1
  rw [← h2.2.1] at l1
  rw [← h.2.1] at l2
  omega
theorem minC_lin {a b c e t u i j i2 j2 : Int} {es rs : List Rec} {r2 r : Rec} (hD : a * e - b * c ≠ 0) (h : Paired (Tr a b c e t u i j i2 j2) es rs) (hr : Tr a b c e t u i j i2 j2 r2 r)
    (s2 : ∀ x ∈ es, Stp (stpR i2 j2 r2 x)) (c2 : ∀ x ∈ es, 0 ≤ x.cost) (s1 : ∀ x ∈ rs, Stp (stpR i j r x)) (c1 : ∀ x ∈ rs, 0 ≤ x.cost) : minC i2 j2 es r2 = minC i j rs r := by
  obtain ⟨m2, h2, e2⟩ := minC_has i2 j2 es r2
  obtain ⟨m, h1, e1⟩ := minC_has i j rs r
  rw [← e2, ← e1]
  exact best_lin hD h hr s2 c2 s1 c1 h2 h1
theorem pair_map {α β γ : Type} {R : α → β → Prop} {f : α → γ} {g : β → γ} : ∀ {as : List α} {bs : List β}, Paired R as bs → (∀ a ∈ as, ∀ b ∈ bs, R a b → f a = g b) → as.map f = bs.map g
  | [], [], .nil, _ => rfl
  | a :: as, b :: bs, .cons x t, h => by
    rw [List.map_cons, List.map_cons, h a (by simp) b (by simp) x, pair_map t fun p hp q hq => h p (List.mem_cons_of_mem _ hp) q (List.mem_cons_of_mem _ hq)]
/-- rows with good columns: what the steps and the costs need -/
def GdR (i j : Int) (rs : List Rec) : Prop := (∀ e ∈ rs, Hc i j e) ∧ ∀ e ∈ rs, 1 ≤ e.cost ∧ e.cost ≤ 1000000
theorem GdR.stp {i j : Int} {rs : List Rec} (h : GdR i j rs) {r : Rec} (hr : r ∈ rs) : ∀ e ∈ rs, Stp (stpR i j r e) := fun e he => (h.1 r hr).stp (h.1 e he)
theorem GdR.c0 {i j : Int} {rs : List Rec} (h : GdR i j rs) : ∀ e ∈ rs, 0 ≤ e.cost := fun e he => by have := (h.2 e he).1; omega
theorem GdR.of {wd : Nat} {i j : Int} {rs : List Rec} (sp : RsP wd rs) (w1 : 1 ≤ wd) (w4 : wd ≤ 4) (l60 : rs.length ≤ 60) (i0 : 0 ≤ i) (i1 : i < wd) (j0 : 0 ≤ j) (j1 : j < wd) : GdR i j rs :=
  ⟨hc_rsp sp w1 w4 l60 i0 i1 j0 j1, fun e he => by
    obtain ⟨n, hn, o⟩ := sp.ok e he
    exact ⟨o.c0, o.c1⟩⟩
/-- the costs of the rows and of the rows after a map are the same -/
theorem costs_lin {a b c e t u i j i2 j2 : Int} {es rs : List Rec} (hD : a * e - b * c ≠ 0) (h : Paired (Tr a b c e t u i j i2 j2) es rs) (g2 : GdR i2 j2 es) (g1 : GdR i j rs) : es.map (minC i2 j2 es) = rs.map (minC i j rs) :=
  pair_map h fun x hx y hy k => minC_lin hD h k (g2.stp hx) g2.c0 (g1.stp hy) g1.c0
theorem costs_swap {i j : Int} {rs : List Rec} (g2 : GdR j i rs) (g1 : GdR i j rs) : rs.map (minC j i rs) = rs.map (minC i j rs) :=
  costs_lin (a := 0) (b := 1) (c := 1) (e := 0) (t := 0) (u := 0) (by decide) (pair_refl (fun x => ⟨rfl, rfl, by unfold ptR; dsimp only; omega, by unfold ptR; dsimp only; omega⟩) rs) g2 g1
theorem minC_zero {i j : Int} {rs : List Rec} (g : GdR i j rs) {r : Rec} (hr : r ∈ rs) : decide (minC i j rs r = 0) = lawT i j rs r := by
  obtain ⟨m, h1, e1⟩ := minC_has i j rs r
  rw [← e1]
  exact best_zero (g.stp hr) (fun e he => (g.2 e he).1) h1
theorem minC_sub {i j : Int} {ss rs : List Rec} (g : GdR i j rs) (h : ss.Sublist rs) {r : Rec} (hr : r ∈ rs) : minC i j ss r ≤ minC i j rs r := by
  obtain ⟨m2, h2, e2⟩ := minC_has i j ss r
  obtain ⟨m, h1, e1⟩ := minC_has i j rs r
  rw [← e1, ← e2]
  exact best_sub h (g.stp hr) g.c0 h2 h1
theorem minC_prices {i j : Int} {rs : List Rec} {gone : List Str} (g : GdR i j rs) (hl : rs.length ≤ 9) {r : Rec} (hr : r ∈ rs) : decide (minC i j (rs.map (prR gone)) (prR gone r) < 1000000) = lawT i j (leftR rs gone) r := by
  obtain ⟨m, h1, e1⟩ := minC_has i j (rs.map (prR gone)) (prR gone r)
  rw [← e1]
  exact best_prices hl (g.stp hr) h1
end I1

set_option maxRecDepth 100000
set_option maxHeartbeats 4000000
namespace I1
open PySem PySem.Spec PyProof.Rows L2 KX
theorem eqv_strs : ∀ ns : List Str, PyData.eqvAll (ns.map .str) (ns.map .str) = true
  | [] => rfl
  | n :: ns => by
    rw [List.map_cons]
    unfold PyData.eqvAll
    rw [eqv_strs ns, Bool.and_true]
    simp [PyData.eqv]
theorem plain_strs : ∀ ns : List Str, PyData.plainAll (ns.map .str) = true
  | [] => rfl
  | n :: ns => by simp [PyData.plainAll, PyData.plain, plain_strs ns]
theorem deep_strs (ns : List Str) : PyData.depthAll (ns.map .str) ≤ 50 := depthAll_le fun e he => by
  obtain ⟨n, _, rfl⟩ := List.mem_map.mp he
  simp [PyData.depth]
/-! ### _law_costs -/
abbrev sCs : Stmt := topS 59
theorem scCs : FnScope ["data", "one", "other", "row"] ["data", "one", "other"] (defScope sCs) := ⟨rfl, rfl, rfl, by decide +kernel, rfl, by decide +kernel, by decide +kernel⟩
def spCs : Sp := fun vs H Q _ => ∃ (v : V) (wd : Nat) (rs : List Rec) (i j : Int), vs = [v, .int i, .int j] ∧ Dx H v (.tuple (rs.map encR)) ∧ RsP wd rs ∧ 1 ≤ wd ∧ wd ≤ 4 ∧ rs.length ≤ 60 ∧
  0 ≤ i ∧ i < (wd : Int) ∧ 0 ≤ j ∧ j < (wd : Int) ∧ i ≠ j ∧ ∀ H' p, Same H H' → H p = none → H' p = some (.lst ((rs.map (minC i j rs)).map V.int)) → Q (.ref p) H'
section
variable {P : Program} {w : World} {K : PySem.W.Frag} {mg : Str → Option Value} {base : Heap} {RA UA C : Addr}
theorem ok_cs {k : Nat} {f fD : Addr} {fd gD : FuncData} (D : Df K mg "_law_costs" sCs ["data", "one", "other"] f fd) (DD : Df K mg "cheapest_direction" sCd ["rowset", "x", "y", "name"] fD gD) (GD : FnOk P w K mg base (L2.CX P w) k fD gD ["rowset", "x", "y", "name"] (spCd RA UA C)) :
    FnOk P w K mg base CX0 (k + 1) f fd ["data", "one", "other"] spCs := by
  refine D.F.ok scCs (fun vs H Q E h => ?_) (fun cdv A outer s H vs Q E hr h => ?_)
  · obtain ⟨v, wd, rs, i, j, rfl, _⟩ := h
    rfl
  · obtain ⟨v, wd, rs, i, j, rfl, hd, sp, w1, w4, l60, i0, i1, j0, j1, nij, q⟩ := h
    have nd := scCs.nd
    have ok := sp.rsok w1 w4 l60
    refine ⟨_, pss_one (ps_ret (pe_lc (own := [("row", 3)]) (g := gName 3) rfl nd (pi_tup (pv 0)) (blkOk_by (N := ["data", "one", "other", "row"]) (sc := defScope sCs) (by decide +kernel)) (fun _ _ _ _ _ => pg_name (i := 3) nd rfl (Or.inl rfl)) (fun _ _ _ _ _ => pts_nil)
      (fun _ _ _ _ _ => pe_ix (r := rIxT K) ix_tup (pe_call GD hr (by rfl) DD.g DD.F.kp DD.b .nil passL (pa_cons (pv 0) (pa_cons (pv 1) (pa_cons (pv 2) (pa_cons (pe_ix (r := rIxT K) ix_tup (pv 3) pe_int (fun _ _ => rfl)) pa_nil))))) pe_int (fun _ _ => rfl)))), ?_⟩
    obtain ⟨a, xs, rfl, ea, hx⟩ := dx_tup' hd
    have lx := hx.len
    rw [List.length_map] at lx
    refine ⟨.ref a, rfl, a, rfl, ⟨_, .inl (.inl ea)⟩, fun L nL => ?_⟩
    refine lc_gen (as := rs) (fun r => some (minC i j rs r)) (fun _ y n => y = .int n) (fun _ _ _ _ _ h => h) (walk_tup (K := K)) nL (fun G sG => .inl (.inl (sG _ _ ea))) lx.symm (by omega) (fun m x r G hxm hrm sG Pt Pf kt kf => ?_) (fun G ys sG eD hp _ => ?_)
    · obtain ⟨d, ed, hdx⟩ := hx.get' hxm
      rw [List.getElem?_map, hrm] at ed
      cases ed
      have hmr := List.mem_of_getElem? hrm
      have ew := widthI_of sp (List.ne_nil_of_mem hmr)
      obtain ⟨b, z, zs, rfl, eb, _⟩ := row_dx (hdx.up sG)
      refine ⟨rfl, .ref a, rfl, .int i, rfl, .int j, rfl, .ref b, rfl, b, _, 0, .str r.nm, rfl, rfl, .inl (.inl eb), rfl, ?_⟩
      dsimp only [tNil]
      rw [List.append_nil]
      refine cd_call ok hmr (hd.up sG) i0 (by rw [ew]; exact i1) j0 (by rw [ew]; exact j1) nij fun G2 y m s2 hm hb => ?_
      obtain ⟨t, u, rfl, et, eu⟩ := hm
      exact ⟨t, _, 0, .int m.1, rfl, rfl, .inl (.inl et), rfl, kt _ rfl _ _ s2 (by rw [minC_of hb])⟩
    · have e := ints_of (H := G) hp
      rw [e, show rs.filterMap (fun r => some (minC i j rs r)) = rs.map (minC i j rs) from List.filterMap_eq_map ▸ rfl] at eD
      exact q G L sG nL eD
end
/-! ### _law_remove, gone a list -/
abbrev sRv : Stmt := topS 56
theorem scRv : FnScope ["world", "gone", "row"] ["world", "gone"] (defScope sRv) := ⟨rfl, rfl, rfl, by decide +kernel, rfl, by decide +kernel, by decide +kernel⟩
def spRv : Sp := fun vs H Q _ => ∃ (v : V) (g : Addr) (rs : List Rec) (ns : List Str), vs = [v, .ref g] ∧ Dx H v (.tuple (rs.map encR)) ∧ H g = some (.lst (ns.map V.str)) ∧ rs.length ≤ 60 ∧
  ∀ H' p ys, Same H H' → H' p = some (.lst ys) → Dxs H' ys ((leftR rs ns).map encR) → Q (.ref p) H'
theorem any_strs {ns : List Str} {n : Str} : ((ns.map PyData.str).any fun z => PyData.eqv z (.str n)) = decide (n ∈ ns) := by
  induction ns with
  | nil => simp
  | cons m ns ih =>
    rw [List.map_cons, List.any_cons, ih]
    simp only [PyData.eqv, List.mem_cons, Bool.decide_or]
    congr 1
    exact decide_eq_decide.mpr eq_comm
theorem dp_strs {K : PySem.W.Frag} {H : Hp} {g : Addr} {ns : List Str} (e : H g = some (.lst (ns.map V.str))) : Dp K H (.ref g) (.list (ns.map PyData.str)) := .lst (.inl (.inl e)) (dps_dx _ _ (plain_strs ns) (dxs_strs ns))
theorem in_strs {K : PySem.W.Frag} {f : Bool → Bool} {H : Hp} {g : Addr} {ns : List Str} {n : Str} {Q : VK} (e : H g = some (.lst (ns.map V.str))) (q : Q (.bl (f (decide (n ∈ ns)))) H) : rInLD K f (.str n) (.ref g) H Q :=
  ⟨.str n, ns.map .str, .str _, dp_strs e, by simp [PyData.plain], plain_strs ns, by have := deep_strs ns; omega, by rw [any_strs]; exact q⟩
theorem op_inLD {X : Cx} (hu : X.A.units + 64 < cLine) : OpR X (compareOp .In) (rInLD X.K id) := by
  intro pins s σ H x y v u Q I rx ry h
  obtain ⟨d, ds, hd, he, pd, pe, hm, q⟩ := h
  obtain ⟨as, r1⟩ := Dp.reads I d x v hd rx
  obtain ⟨bs, r2⟩ := Dp.reads I (.list ds) y u he ry
  exact SeqAt.in_list_data r2 r1 pe pd (by omega) ⟨.bl _, H, I, rfl, q⟩
section
variable {P : Program} {w : World} {K : PySem.W.Frag} {mg : Str → Option Value} {base : Heap}
theorem ok_rv {f : Addr} {fd : FuncData} (D : Df K mg "_law_remove" sRv ["world", "gone"] f fd) : FnOk P w K mg base CX0 1 f fd ["world", "gone"] spRv := by
  refine D.F.ok scRv (fun vs H Q E h => ?_) (fun cdv A outer s H vs Q E hr h => ?_)
  · obtain ⟨v, g, rs, ns, rfl, _⟩ := h
    rfl
  · obtain ⟨v, g, rs, ns, rfl, hd, hg, hl, q⟩ := h
    have nd := scRv.nd
    refine ⟨_, pss_one (ps_ret (pe_lc (own := [("row", 2)]) (g := gName 2) rfl nd (pi_tup (pv 0)) (blkOk_by (N := ["world", "gone", "row"]) (sc := defScope sRv) (by decide +kernel)) (fun _ _ _ _ _ => pg_name (i := 2) nd rfl (Or.inl rfl))
      (fun _ _ _ _ _ => pts_one (pt_cmpR (r := rInLD K not) (op_ninLD hr.units) (pe_ix (r := rIxT K) ix_tup (pv 2) pe_int (fun _ _ => rfl)) (pv 1) (by rfl))) (fun _ _ _ _ _ => pv 2))), ?_⟩
    obtain ⟨a, xs, rfl, ea, hx⟩ := dx_tup' hd
    refine ⟨.ref a, rfl, a, rfl, ⟨_, .inl (.inl ea)⟩, fun L nL => ?_⟩
    refine lc_filterW (fun r : Rec => !decide (r.nm ∈ ns)) (walk_tup (K := K)) nL (fun G sG => .inl (.inl (sG _ _ ea))) hx (by omega) (fun e x G he sG hxe Pt Pf k => ?_) (fun G ys sG eL hy => q G L ys sG eL (hy.up sG))
    obtain ⟨b, z, zs, rfl, eb, _⟩ := row_dx (hxe.up sG)
    refine ⟨rfl, .ref b, rfl, b, _, 0, .str e.nm, rfl, rfl, .inl (.inl eb), rfl, .ref g, rfl, in_strs (sG _ _ hg) ⟨_, rfl, ?_⟩⟩
    have := k G (Same.refl G)
    cases ez : decide (e.nm ∈ ns) with
    | true =>
      rw [ez, if_neg (by decide)] at this
      exact iteF this
    | false =>
      rw [ez, if_pos (show (!false) = true from rfl)] at this
      exact iteT ⟨.ref b, rfl, this⟩
end
/-! ### _law_random_part -/
abbrev sRp : Stmt := topS 61
abbrev NRp : List Str := ["stream", "rows", "chance", "found", "row"]
theorem scRp : FnScope NRp ["stream", "rows", "chance"] (defScope sRp) := ⟨rfl, rfl, rfl, by decide +kernel, rfl, by decide +kernel, by decide +kernel⟩
def spRp : Sp := fun vs H Q _ => ∃ (l : Addr) (v : V) (rs : List Rec) (c : Int), vs = [.ref l, v, .int c] ∧ StO H l ∧ Dx (hid l H) v (.tuple (rs.map encR)) ∧ rs.length ≤ 60 ∧ 1 ≤ c ∧ c ≤ 9 ∧
  ∀ (H' : Hp) (p : Addr) (ys : List V) (ss : List Rec), Keep l H H' → StO H' l → p ≠ l → H p = none → ss.Sublist rs → H' p = some (.lst ys) → Dxs (hid l H') ys (ss.map encR) → Q (.ref p) H'
section
variable {P : Program} {w : World} {K : PySem.W.Frag} {mg : Str → Option Value} {base : Heap}
theorem ok_rp {k : Nat} {f fD : Addr} {fd gD : FuncData} (D : Df K mg "_law_random_part" sRp ["stream", "rows", "chance"] f fd) (DD : Df K mg "_law_draw" sDraw ["stream", "total"] fD gD) (GD : FnOk P w K mg base CX0 k fD gD ["stream", "total"] spDraw) : FnOk P w K mg base CX0 (k + 1) f fd ["stream", "rows", "chance"] spRp := by
  refine D.F.ok scRp (fun vs H Q E h => ?_) (fun cdv A outer s H vs Q E hr h => ?_)
  · obtain ⟨l, v, rs, c, rfl, _⟩ := h
    rfl
  · obtain ⟨l, v, rs, c, rfl, st, hR, l60, c1, c9, q⟩ := h
    have nd := scRp.nd
    have big : (1000 : Nat) < sizeLine := by decide
    refine ⟨_, pss_cons (ps_set (i := 3) nd rfl (.inl rfl) (pe_lst pa_nil))
      (pss_cons (ps_for PassesOwn.never rfl (pi_tup (pv 1)) (pg_name (i := 4) nd rfl (.inl rfl))
        (pss_one (ps_if (pt_cmpR op_gt (pe_call GD hr (by rfl) DD.g DD.F.kp DD.b .nil pass0 (pa_cons (pv 0) (pa_cons (pv 2) pa_nil))) pe_int (nomark _))
          (pss_one (ps_expr (pe_bm PySem.F.plainAttrs_list PySem.F.slot_list_append PySem.F.type_list_append mt_append (pv 3) (pa_cons (pv 4) pa_nil)))) pss_nil)))
      (pss_one (ps_ret (pv 3)))), ?_⟩
    refine ⟨by show 0 ≤ sizeLine; omega, fun L nL => ?_⟩
    have hLl : L ≠ l := st.ne nL
    have st4 := st.new (o := .lst []) nL
    have eL4 : (upd H L (.lst [])) L = some (.lst []) := upd_same
    have k04 : Keep l H (upd H L (.lst [])) := (Keep.refl l H).new nL
    generalize upd H L (.lst []) = H4 at st4 eL4 k04
    have hR4 := hR.up k04.same
    obtain ⟨ta, xs, e0, nta, eta, hx⟩ := dx_tupOf hR4
    subst e0
    have lx := hx.len
    rw [List.length_map] at lx
    refine ⟨.ref ta, rfl, ta, rfl, ⟨_, .inl (.inl eta)⟩, ?_⟩
    refine for_tup (K := K) (xs := xs) (fun m σ G => Keep l H G ∧ StO G l ∧ (∀ b zs, b ≠ l → H4 b = some (.tup zs) → G b = some (.tup zs)) ∧ ∃ (vs : List V) (ss : List Rec) (o4 : Option V), σ = [some (.ref l), some (.ref ta), some (.int c), some (.ref L), o4] ∧
        G L = some (.lst vs) ∧ Dxs (hid l G) vs (ss.map encR) ∧ ss.Sublist (rs.take m))
      ⟨k04, st4, fun b zs _ e => e, [], [], none, rfl, eL4, .nil, .slnil⟩ (fun m σ G _ hG => .inl (.inl (hG.2.2.1 _ _ nta eta))) (fun m x σ G hxm hG => ?_) (fun σ G hG => ?_)
    · obtain ⟨kG, stG, tk, vs, ss, o4, rfl, eL, hvs, hss⟩ := hG
      obtain ⟨dd, ed, hdx⟩ := hx.get' hxm
      rw [List.getElem?_map] at ed
      obtain ⟨r, er, rfl⟩ := Option.map_eq_some_iff.mp ed
      have ml : m < rs.length := (List.getElem?_eq_some_iff.mp er).1
      have tkh : TK (hid l H4) (hid l G) := fun b zs e => by
        obtain ⟨nb, e⟩ := hid_some e
        rw [hid_at nb]
        exact tk _ _ nb e
      have hxG := dx_tk tkh _ _ (noL_rec r) hdx
      refine ⟨.ref l, rfl, .int c, rfl, l, c, rfl, stG, by omega, by omega, fun G1 d g1 st1 d0 d1 => ⟨d, 0, rfl, rfl, _, rfl, ite2 (fun hgt => ?_) fun hgt => ?_⟩⟩
      · have eL1 := g1 _ _ hLl eL
        have lvs := hvs.len
        rw [List.length_map] at lvs
        have lss := hss.length_le
        rw [List.length_take] at lss
        refine ⟨.ref L, rfl, .inl ⟨rfl, _, .inl (.inl eL1)⟩, x, rfl, L, vs, x, rfl, rfl, eL1, by omega, ?_⟩
        have tkF : TK (hid l G1) (hid l (upd G1 L (.lst (vs ++ [x])))) := fun b zs e => by
          obtain ⟨nb, e⟩ := hid_some e
          have : b ≠ L := fun y => by rw [y, eL1] at e; cases e
          rw [hid_at nb, upd_ne this]
          exact e
        refine ⟨fun b o nb e => ?_, ?_, fun b zs nb e => ?_, vs ++ [x], ss ++ [r], _, rfl, upd_same, ?_, ?_⟩
        · rw [upd_ne (ne_of_none e nL)]
          exact g1 _ _ nb (kG _ _ nb e)
        · obtain ⟨b1, b2, b3, e⟩ := st1
          exact ⟨b1, b2, b3, by rw [upd_ne hLl.symm]; exact e⟩
        · have e8 := g1 _ _ nb (tk _ _ nb e)
          have : b ≠ L := fun y => by rw [y, eL1] at e8; cases e8
          rw [upd_ne this]
          exact e8
        · rw [List.map_append]
          exact Dxs.app (dxs_tk tkF _ _ (noL_recs ss) (hvs.up g1.same)) (.cons (dx_tk tkF _ _ (noL_rec r) (hxG.up g1.same)) .nil)
        · rw [List.take_add_one, er]
          exact hss.append (List.Sublist.refl _)
      · refine ⟨kG.trans g1, st1, fun b zs nb e => g1 _ _ nb (tk _ _ nb e), vs, ss, _, rfl, g1 _ _ hLl eL, hvs.up g1.same, ?_⟩
        rw [List.take_add_one, er]
        exact hss.trans (List.sublist_append_left _ _)
    · obtain ⟨kG, stG, tk, vs, ss, o4, rfl, eL, hvs, hss⟩ := hG
      rw [List.take_of_length_le (by omega)] at hss
      exact ⟨.ref L, rfl, q G L vs ss kG stG hLl nL hss eL hvs⟩
end
end I1

set_option maxRecDepth 100000
set_option maxHeartbeats 4000000
namespace I1
open PySem PySem.Spec PyProof.Rows L2 KX
/-! ### _law_transformed -/
abbrev sTf : Stmt := topS 60
abbrev NTf : List Str := ["stream", "data", "way", "far", "near", "rows", "row", "x", "y", "worths", "worth"]
theorem scTf : FnScope NTf ["stream", "data"] (defScope sTf) := ⟨rfl, rfl, rfl, by decide +kernel, rfl, by decide +kernel, by decide +kernel⟩
def tfP (way far : Int) (near : Bool) (p : Int × Int) : Int × Int :=
  if way = 0 then (p.2, p.1) else if way = 1 then (0 - p.1, p.2) else if way = 2 then (p.1, 0 - p.2) else if way = 3 then (if near = true then (2 * p.1 + far * p.2, 5 * p.2 - far) else p) else if way = 4 then (0 - p.2, p.1) else (0 - p.1, 0 - p.2)
theorem tfP_lin (way far : Int) (near : Bool) : ∃ a b c e t u : Int, a * e - b * c ≠ 0 ∧ ∀ p, (tfP way far near p).1 = a * p.1 + b * p.2 + t ∧ (tfP way far near p).2 = c * p.1 + e * p.2 + u := by
  unfold tfP
  by_cases h0 : way = 0
  · exact ⟨0, 1, 1, 0, 0, 0, by decide, fun p => by rw [if_pos h0]; dsimp only; constructor <;> omega⟩
  by_cases h1 : way = 1
  · exact ⟨-1, 0, 0, 1, 0, 0, by decide, fun p => by rw [if_neg h0, if_pos h1]; dsimp only; constructor <;> omega⟩
  by_cases h2 : way = 2
  · exact ⟨1, 0, 0, -1, 0, 0, by decide, fun p => by rw [if_neg h0, if_neg h1, if_pos h2]; dsimp only; constructor <;> omega⟩
  by_cases h3 : way = 3
  · cases near with
    | true => exact ⟨2, far, 0, 5, 0, -far, by omega, fun p => by rw [if_neg h0, if_neg h1, if_neg h2, if_pos h3, if_pos rfl]; dsimp only; constructor <;> omega⟩
    | false => exact ⟨1, 0, 0, 1, 0, 0, by decide, fun p => by rw [if_neg h0, if_neg h1, if_neg h2, if_pos h3, if_neg (by decide)]; constructor <;> omega⟩
  by_cases h4 : way = 4
  · exact ⟨0, -1, 1, 0, 0, 0, by decide, fun p => by rw [if_neg h0, if_neg h1, if_neg h2, if_neg h3, if_pos h4]; dsimp only; constructor <;> omega⟩
  · exact ⟨-1, 0, 0, -1, 0, 0, by decide, fun p => by rw [if_neg h0, if_neg h1, if_neg h2, if_neg h3, if_neg h4]; dsimp only; constructor <;> omega⟩
theorem tfP_bd {way far : Int} {near : Bool} {p : Int × Int} (hs : Sml p) (f0 : -4 ≤ far) (f1 : far ≤ 4) (hn : near = true → -100000000 ≤ p.1 ∧ p.1 ≤ 100000000 ∧ -100000000 ≤ p.2 ∧ p.2 ≤ 100000000) : Sml (tfP way far near p) := by
  unfold Sml at *
  unfold tfP
  obtain ⟨a1, a2, a3, a4⟩ := hs
  by_cases h0 : way = 0
  · rw [if_pos h0]; dsimp only; omega
  by_cases h1 : way = 1
  · rw [if_neg h0, if_pos h1]; dsimp only; omega
  by_cases h2 : way = 2
  · rw [if_neg h0, if_neg h1, if_pos h2]; dsimp only; omega
  by_cases h3 : way = 3
  · rw [if_neg h0, if_neg h1, if_neg h2, if_pos h3]
    cases near with
    | true =>
      rw [if_pos rfl]
      obtain ⟨b1, b2, b3, b4⟩ := hn rfl
      dsimp only
      rcases (show far = -4 ∨ far = -3 ∨ far = -2 ∨ far = -1 ∨ far = 0 ∨ far = 1 ∨ far = 2 ∨ far = 3 ∨ far = 4 by omega) with rfl | rfl | rfl | rfl | rfl | rfl | rfl | rfl | rfl <;> omega
    | false =>
      rw [if_neg (by decide)]
      omega
  by_cases h4 : way = 4
  · rw [if_neg h0, if_neg h1, if_neg h2, if_neg h3, if_pos h4]; dsimp only; omega
  · rw [if_neg h0, if_neg h1, if_neg h2, if_neg h3, if_neg h4]; dsimp only; omega
def nearSc : Scope := match defBody sTf with
  | _ :: .Assign _ (.Compare (.Call _ [.ListComp _ _ sc _] _ _) _ _ _) _ :: _ => sc
  | _ => default
theorem ints_ex {R : Int → Rec → Prop} : ∀ {ys : List V} {rs : List Rec}, Paired (fun y r => ∃ n : Int, y = .int n ∧ R n r) ys rs → ∃ ns : List Int, ys = ns.map V.int ∧ Paired R ns rs
  | [], [], .nil => ⟨[], rfl, .nil⟩
  | _ :: _, _ :: _, .cons h t => by
    obtain ⟨n, rfl, h⟩ := h
    obtain ⟨ns, rfl, k⟩ := ints_ex t
    exact ⟨n :: ns, rfl, .cons h k⟩
theorem pair_mem {α β : Type} {R : α → β → Prop} : ∀ {as : List α} {bs : List β}, Paired R as bs → ∀ b ∈ bs, ∃ a ∈ as, R a b
  | [], [], .nil, b, h => nomatch h
  | a :: as, b :: bs, .cons x t, c, h => by
    rcases List.mem_cons.mp h with rfl | h
    · exact ⟨a, by simp, x⟩
    · obtain ⟨a2, h1, h2⟩ := pair_mem t c h
      exact ⟨a2, by simp [h1], h2⟩
theorem tail_if {c : TT} {a u : L2.TS} {D : Ends} {σ : L2.St} {H : Hp} {ι : Type} (C : ι → Prop) (S : ι → L2.St) (G : ι → Hp) (tl : ∀ i, C i → u D (S i) (G i)) (h : (∀ i, C i → u D (S i) (G i)) → tSeq (tIfS c a tNext) u D σ H) : tSeq (tIfS c a tNext) u D σ H := h tl
def spTf : Sp := fun vs H Q _ => ∃ (l : Addr) (v : V) (wd : Nat) (rs : List Rec), vs = [.ref l, v] ∧ StO H l ∧ Dx (hid l H) v (.tuple (rs.map encR)) ∧ RsP wd rs ∧ 2 ≤ wd ∧ wd ≤ 4 ∧ rs ≠ [] ∧ rs.length ≤ 9 ∧
  ∀ (H' : Hp) (p : Addr) (es : List Rec) (a b c e t u : Int), Keep l H H' → StO H' l → a * e - b * c ≠ 0 → Paired (Tr a b c e t u 0 1 0 1) es rs → RsP wd es → Dx (hid l H') (.ref p) (.tuple (es.map encR)) → Q (.ref p) H'
section
variable {P : Program} {w : World} {K : PySem.W.Frag} {mg : Str → Option Value} {base : Heap}
theorem ok_tf {k : Nat} {f fD : Addr} {fd gD : FuncData} (B : Bl mg) (D : Df K mg "_law_transformed" sTf ["stream", "data"] f fd) (DD : Df K mg "_law_draw" sDraw ["stream", "total"] fD gD) (GD : FnOk P w K mg base CX0 k fD gD ["stream", "total"] spDraw) : FnOk P w K mg base CX0 (k + 1) f fd ["stream", "data"] spTf := by
  refine D.F.ok scTf (fun vs H Q E h => ?_) (fun cdv A outer s H vs Q E hr h => ?_)
  · obtain ⟨l, v, wd, rs, rfl, _⟩ := h
    rfl
  · obtain ⟨l, v, wd, rs, rfl, st, hR, sp, w2, w4, ne, l9, q⟩ := h
    have nd := scTf.nd
    have big : (1000 : Nat) < sizeLine := by decide
    refine ⟨_, pss_cons (ps_par (i := 2) (j := 3) rfl nd rfl rfl (by decide) rfl rfl (pa_cons (pe_call GD hr (by rfl) DD.g DD.F.kp DD.b .nil pass0 (pa_cons (pv 0) (pa_cons pe_int pa_nil))) (pa_cons (pe_op op_sub (pe_call GD hr (by rfl) DD.g DD.F.kp DD.b .nil pass0 (pa_cons (pv 0) (pa_cons pe_int pa_nil))) pe_int) pa_nil)) (by rfl))
      (pss_cons (ps_set (i := 4) nd rfl (.inl rfl) (pe_cmpR op_lt (pe_callB (cr_max rfl) (by rfl) B.max (by decide +kernel) (pa_cons (pe_lc (te := tCB (rMax K) (tCons (tLc (iTup K (tOp (rIxT K) (tVar 6) (tC (V.int 2)))) (gName 10) tYes (tCB (fun xs H Q => ∃ i, xs = [V.int i] ∧ Q (V.int (if i < 0 then -i else i)) H) (tCons (tVar 10) tNil)) [10]) tNil)) (own := [("row", 6)]) (g := gName 6) rfl nd (pi_tup (pv 1)) (blkOk_by (N := NTf) (sc := defScope sTf) (by decide +kernel)) (fun _ _ _ _ _ => pg_name (i := 6) nd rfl (Or.inl rfl)) (fun _ _ _ _ _ => pts_nil)
            (fun _ _ _ _ _ => pe_callB (r := rMax K) (cr_max rfl) (by rfl) B.max (by decide +kernel) (pa_cons (pe_lc (own := [("worth", 10)]) (g := gName 10) rfl nd (pi_tup (pe_ix (r := rIxT K) ix_tup (pv 6) pe_int (fun _ _ => rfl))) (blkOk_by (N := NTf) (sc := nearSc) (by decide +kernel)) (fun _ _ _ _ _ => pg_name (i := 10) nd rfl (Or.inl rfl)) (fun _ _ _ _ _ => pts_nil)
              (fun _ _ _ _ _ => pe_callB call_abs (by rfl) B.abs (by decide +kernel) (pa_cons (pv 10) pa_nil))) pa_nil))) pa_nil)) (pe_op op_pow pe_int pe_int) (nomark _)))
      (pss_cons (ps_set (i := 5) nd rfl (.inl rfl) (pe_lst pa_nil))
      (pss_cons (ps_for PassesOwn.never rfl (pi_tup (pv 1)) (pg_name (i := 6) nd rfl (.inl rfl))
        (pss_cons (ps_asg (pe_slice sl_tupA (pe_ix (r := rIxT K) ix_tup (pv 6) pe_int (fun _ _ => rfl)) po_none (po_some pe_int)) (pg_tup (by rfl) (pgs_cons (pg_name (i := 7) nd rfl (.inl rfl)) (pgs_cons (pg_name (i := 8) nd rfl (.inl rfl)) pgs_nil))))
        (pss_cons (ps_set (i := 9) nd rfl (.inl rfl) (pe_ix ix_list (pe_lst (pa_cons (pe_tup (pa_cons (pv 8) (pa_cons (pv 7) pa_nil))) (pa_cons (pe_tup (pa_cons (pe_op op_sub pe_int (pv 7)) (pa_cons (pv 8) pa_nil))) (pa_cons (pe_tup (pa_cons (pv 7) (pa_cons (pe_op op_sub pe_int (pv 8)) pa_nil)))
            (pa_cons (pe_tup (pa_cons (pe_op op_fdiv (pv 7) pe_int) (pa_cons (pv 8) pa_nil))) (pa_cons (pe_tup (pa_cons (pe_op op_sub pe_int (pv 8)) (pa_cons (pv 7) pa_nil))) (pa_cons (pe_tup (pa_cons (pe_op op_sub pe_int (pv 7)) (pa_cons (pe_op op_sub pe_int (pv 8)) pa_nil))) pa_nil))))))) (pv 2) (fun _ _ => rfl)))
        (pss_cons (ps_if (PW.pt (pw_and (pt_cmpR op_eq (pv 2) pe_int (nomark _)) (pw_and1 (pt_val (pv 4))))) (pss_one (ps_set (i := 9) nd rfl (.inl rfl) (pe_tup (pa_cons (pe_op op_add (pe_op op_mul pe_int (pv 7)) (pe_op op_mul (pv 3) (pv 8))) (pa_cons (pe_op op_sub (pe_op op_mul pe_int (pv 8)) (pv 3)) pa_nil))))) pss_nil)
        (pss_one (ps_expr (pe_bm PySem.F.plainAttrs_list PySem.F.slot_list_append PySem.F.type_list_append mt_append (pv 5) (pa_cons (pe_tup (pa_cons (pe_ix ix_tup (pv 6) pe_int (fun _ _ => rfl)) (pa_cons (pe_ix ix_tup (pv 6) pe_int (fun _ _ => rfl))
            (pa_cons (pe_op op_catA (pv 9) (pe_slice sl_tupA (pe_ix (r := rIxT K) ix_tup (pv 6) pe_int (fun _ _ => rfl)) (po_some pe_int) po_none)) (pa_cons (pe_op op_add pe_int (pe_call GD hr (by rfl) DD.g DD.F.kp DD.b .nil pass0 (pa_cons (pv 0) (pa_cons pe_int pa_nil)))) pa_nil))))) pa_nil))))))))
      (pss_one (ps_ret (pe_callTy call_tuple_of (by rfl) B.tuple (by decide +kernel) (pa_cons (pv 5) pa_nil))))))), ?_⟩
    refine ⟨.ref l, rfl, l, 6, rfl, st, by decide, by decide, fun H1 way k1 st1 way0 way6 => ?_⟩
    refine ⟨.ref l, rfl, l, 9, rfl, st1, by decide, by decide, fun H2 fm k2 st2 fm0 fm9 => ⟨fm, 4, rfl, rfl, _, _, rfl, ?_⟩⟩
    obtain ⟨far, efar, far0, far1⟩ : ∃ far : Int, fm - 4 = far ∧ -4 ≤ far ∧ far ≤ 4 := ⟨_, rfl, by omega, by omega⟩
    have k02 := k1.trans k2
    have hR2 := hR.up k02.same
    obtain ⟨ta, xs, e0, nta, eta, hx⟩ := dx_tupOf hR2
    subst e0
    have lx := hx.len
    rw [List.length_map] at lx
    change tSeq _ _ _ ([some (.ref l), some (.ref ta), some (.int way), some (.int (fm - 4)), none, none, none, none, none, none, none] : L2.St) H2
    rw [efar]
    -- near
    refine ⟨.ref ta, rfl, ta, rfl, ⟨_, .inl (.inl eta)⟩, fun L nL => ?_⟩
    refine lc_gen (as := rs) (fun r => some r) (fun _ y (r : Rec) => ∃ n : Int, y = .int n ∧ ∀ v ∈ r.vals, -n ≤ v ∧ v ≤ n) (fun _ _ _ _ _ h => h) (walk_tup (K := K)) nL (fun G sG => .inl (.inl (sG _ _ eta))) lx.symm (by omega) (fun m x r G hxm hrm sG Pt Pf kt kf => ?_) (fun G ys sG eL hp ly => ?_)
    · obtain ⟨d, ed, hdx⟩ := hx.get' hxm
      rw [List.getElem?_map, hrm] at ed
      cases ed
      obtain ⟨n0, hn0, o⟩ := sp.ok r (List.mem_of_getElem? hrm)
      have lv := o.len
      obtain ⟨b, z, zs, rfl, eb, ez, ev⟩ := row_dx hdx
      obtain ⟨nb, eb⟩ := hid_some eb
      obtain ⟨nz, ez⟩ := hid_some ez
      subst ev
      have eb := sG _ _ eb
      have ez := sG _ _ ez
      refine ⟨rfl, .ref b, rfl, b, _, 2, .ref z, rfl, rfl, .inl (.inl eb), rfl, z, rfl, ⟨_, .inl (.inl ez)⟩, fun Li nLi => ?_⟩
      refine lc_gen (as := r.vals) (fun n => some (if n < 0 then -n else n)) (fun _ y n => y = .int n) (fun _ _ _ _ _ h => h) (walk_tup (K := K)) nLi (fun F sF => .inl (.inl (sF _ _ ez))) (by rw [List.length_map]) (by omega) (fun m2 x2 n F hx2 hn2 sF Pt2 Pf2 kt2 kf2 => ?_) (fun F us sF eF hp2 _ => ?_)
      · rw [List.getElem?_map, hn2] at hx2
        cases hx2
        exact ⟨rfl, .int n, rfl, n, rfl, kt2 _ rfl _ _ (Same.refl F) rfl⟩
      · have e := ints_of (H := F) hp2
        rw [e, show r.vals.filterMap (fun n => some (if n < 0 then -n else n)) = r.vals.map (fun n : Int => if n < 0 then -n else n) from List.filterMap_eq_map ▸ rfl] at eF
        refine ⟨Li, _, rfl, .inl (.inl eF), by rw [List.length_map]; omega, fun mx hm hle => ?_⟩
        refine kt _ rfl _ _ sF ⟨mx, rfl, fun v hv => ?_⟩
        have h := hle _ (List.mem_map.mpr ⟨v, hv, rfl⟩)
        split at h <;> omega
    have hp : Paired (fun (y : V) (r : Rec) => ∃ n : Int, y = .int n ∧ ∀ v ∈ r.vals, -n ≤ v ∧ v ≤ n) ys rs := by simpa using hp
    obtain ⟨ns, rfl, hns⟩ := ints_ex hp
    have lns : ns.length = rs.length := Paired.length hns
    refine ⟨L, ns, rfl, .inl (.inl eL), by have := List.length_pos_iff.mpr ne; omega, fun mx hm hle => ?_⟩
    refine ⟨10, 8, rfl, rfl, ⟨by decide, by decide, by decide⟩, mx, _, rfl, rfl, ?_⟩
    obtain ⟨near, enear, hnear⟩ : ∃ near : Bool, decide (mx < 10 ^ (8 : Int).toNat) = near ∧ (near = true → ∀ r ∈ rs, ∀ v ∈ r.vals, -100000000 ≤ v ∧ v ≤ 100000000) := ⟨_, rfl, fun h r hr v hv => by
      have h := of_decide_eq_true h
      have e8 : (10 : Int) ^ (8 : Int).toNat = 100000000 := by decide +kernel
      rw [e8] at h
      obtain ⟨n, hn, hb⟩ := pair_mem hns r hr
      have h1 := hle n hn
      have h2 := hb v hv
      omega⟩
    refine gn_to (σ' := ([some (.ref l), some (.ref ta), some (.int way), some (.int far), some (.bl near), none, none, none, none, none, none] : L2.St)) (by rw [← enear]; rfl) ?_
    try dsimp only
    have k2G : Keep l H2 G := Keep.of sG
    have stG := st2.same sG
    have k0G := k02.trans k2G
    clear hp lns hns hle hm enear eL ly
    have etaG := sG _ _ eta
    have hxG := hx.up (Keep.of (l := l) sG).same
    refine ⟨by show 0 ≤ sizeLine; omega, fun R nR => ?_⟩
    have hRl : R ≠ l := stG.ne nR
    have stR := stG.new (o := .lst []) nR
    have hRn : H R = none := by
      cases e : H R with
      | none => rfl
      | some o =>
        have := k0G R o hRl e
        rw [nR] at this
        cases this
    have eR0 : (upd G R (.lst [])) R = some (.lst []) := upd_same
    have kGR : Keep l G (upd G R (.lst [])) := (Keep.refl l G).new nR
    have eta4 := (same_new (o := .lst []) nR) _ _ etaG
    have hx4 := hxG.up kGR.same
    have k04 := k0G.trans kGR
    generalize upd G R (.lst []) = H4 at stR eR0 kGR eta4 hx4 k04
    refine ⟨.ref ta, rfl, ta, rfl, ⟨_, .inl (.inl eta4)⟩, ?_⟩
    refine for_tup (K := K) (xs := xs) (fun m σ F => Keep l H F ∧ StO F l ∧ (∀ b zs, b ≠ l → H4 b = some (.tup zs) → F b = some (.tup zs)) ∧ ∃ (vs : List V) (news : List Rec) (o6 o7 o8 o9 : Option V), σ = [some (.ref l), some (.ref ta), some (.int way), some (.int far), some (.bl near), some (.ref R), o6, o7, o8, o9, none] ∧
        F R = some (.lst vs) ∧ Dxs (hid l F) vs (news.map encR) ∧ Paired (fun e r => e.nm = r.nm ∧ e.cost = r.cost ∧ ptR 0 1 e = tfP way far near (ptR 0 1 r)) news (rs.take m) ∧ ∀ e ∈ news, ∃ r ∈ rs, e.nm = r.nm ∧ e.cost = r.cost ∧ e.vals.length = wd ∧ (∀ v ∈ e.vals, -1000000000 ≤ v ∧ v ≤ 1000000000) ∧ 1 ≤ e.exp ∧ e.exp ≤ 9)
      ⟨k04, stR, fun b zs _ e => e, [], [], none, none, none, none, rfl, eR0, .nil, .nil, fun e he => nomatch he⟩ (fun m σ F _ hF => .inl (.inl (hF.2.2.1 _ _ nta eta4))) (fun m x σ F hxm hF => ?_) (fun σ F hF => ?_)
    · obtain ⟨kF, stF, tk, vs, news, o6, o7, o8, o9, rfl, eR, hvs, hpn, hgn⟩ := hF
      obtain ⟨dd, ed, hdx⟩ := hx4.get' hxm
      rw [List.getElem?_map] at ed
      obtain ⟨r, er, rfl⟩ := Option.map_eq_some_iff.mp ed
      have ml : m < rs.length := (List.getElem?_eq_some_iff.mp er).1
      have hmr := List.mem_of_getElem? er
      have tkh : TK (hid l H4) (hid l F) := fun b zs e => by
        obtain ⟨nb, e⟩ := hid_some e
        rw [hid_at nb]
        exact tk _ _ nb e
      have hxF := dx_tk tkh _ _ (noL_rec r) hdx
      obtain ⟨n0, hn0, o⟩ := sp.ok r hmr
      have lv := o.len
      have hvb := o.vs
      obtain ⟨b, z, zs, rfl, eb, ez, ev⟩ := row_dx hxF
      obtain ⟨nb, eb⟩ := hid_some eb
      obtain ⟨nz, ez0⟩ := hid_some ez
      have hvals : Dx (hid l F) (.ref z) (.tuple (r.vals.map .int)) := .tup (by rw [hid_at nz]; exact ez0) (by rw [ev]; exact dxs_ints _)
      obtain ⟨x, y, tl, evl⟩ : ∃ x y tl, r.vals = x :: y :: tl := by
        match h : r.vals with
        | [] => rw [h] at lv; simp at lv; omega
        | [_] => rw [h] at lv; simp at lv; omega
        | x :: y :: tl => exact ⟨x, y, tl, rfl⟩
      have hbx := hvb x (by rw [evl]; simp)
      have hby := hvb y (by rw [evl]; simp)
      refine ⟨.ref b, rfl, b, _, 2, .ref z, rfl, rfl, .inl (.inl eb), rfl, ?_⟩
      refine ⟨2, rfl, sl_of (lo := none) (hi := some 2) hvals stF fun F1 p1 g1 sF1 x1 => ?_⟩
      rw [show cutD (r.vals.map PyData.int) none (some 2) = [.int x, .int y] from (cutD_to _ 2).trans (by rw [evl]; rfl)] at x1
      obtain ⟨p1', ws, e0, np1, ep1, hw⟩ := dx_tupOf x1
      cases e0
      obtain rfl : ws = [.int x, .int y] := by
        cases hw with
        | cons h1 hw =>
          cases hw with
          | cons h2 hw =>
            cases hw
            cases h1
            cases h2
            rfl
      refine ⟨p1, _, rfl, .inl (.inl ep1), rfl, _, _, rfl, _, _, rfl, rfl, ?_⟩
      change tSeq _ _ _ ([some (.ref l), some (.ref ta), some (.int way), some (.int far), some (.bl near), some (.ref R), some (.ref b), some (.int x), some (.int y), o9, none] : L2.St) F1
      -- worths
      refine ⟨.int y, rfl, .int x, rfl, by show 2 ≤ sizeLine; omega, fun t0 n0 => ?_⟩
      have u0 := same_new (o := .tup [.int y, .int x]) n0
      have f0 : (upd F1 t0 (.tup [.int y, .int x])) t0 = some (.tup [.int y, .int x]) := upd_same
      generalize upd F1 t0 (.tup [.int y, .int x]) = G0 at u0 f0 ⊢
      refine ⟨.int x, rfl, 0, x, rfl, rfl, .int y, rfl, by show 2 ≤ sizeLine; omega, fun t1 n1 => ?_⟩
      have u1 := same_new (o := .tup [.int (0 - x), .int y]) n1
      have f1 : (upd G0 t1 (.tup [.int (0 - x), .int y])) t1 = some (.tup [.int (0 - x), .int y]) := upd_same
      generalize upd G0 t1 (.tup [.int (0 - x), .int y]) = G1 at u1 f1 ⊢
      refine ⟨.int x, rfl, .int y, rfl, 0, y, rfl, rfl, by show 2 ≤ sizeLine; omega, fun t2 n2 => ?_⟩
      have u2 := same_new (o := .tup [.int x, .int (0 - y)]) n2
      have f2 : (upd G1 t2 (.tup [.int x, .int (0 - y)])) t2 = some (.tup [.int x, .int (0 - y)]) := upd_same
      generalize upd G1 t2 (.tup [.int x, .int (0 - y)]) = G2 at u2 f2 ⊢
      refine ⟨.int x, rfl, x, 1, rfl, rfl, ⟨by decide, by decide⟩, .int y, rfl, by show 2 ≤ sizeLine; omega, fun t3 n3 => ?_⟩
      have u3 := same_new (o := .tup [.int (x / 1), .int y]) n3
      have f3 : (upd G2 t3 (.tup [.int (x / 1), .int y])) t3 = some (.tup [.int x, .int y]) := by rw [Int.ediv_one]; exact upd_same
      generalize upd G2 t3 (.tup [.int (x / 1), .int y]) = G3 at u3 f3 ⊢
      refine ⟨.int y, rfl, 0, y, rfl, rfl, .int x, rfl, by show 2 ≤ sizeLine; omega, fun t4 n4 => ?_⟩
      have u4 := same_new (o := .tup [.int (0 - y), .int x]) n4
      have f4 : (upd G3 t4 (.tup [.int (0 - y), .int x])) t4 = some (.tup [.int (0 - y), .int x]) := upd_same
      generalize upd G3 t4 (.tup [.int (0 - y), .int x]) = G4 at u4 f4 ⊢
      refine ⟨.int x, rfl, 0, x, rfl, rfl, .int y, rfl, 0, y, rfl, rfl, by show 2 ≤ sizeLine; omega, fun t5 n5 => ?_⟩
      have u5 := same_new (o := .tup [.int (0 - x), .int (0 - y)]) n5
      have f5 : (upd G4 t5 (.tup [.int (0 - x), .int (0 - y)])) t5 = some (.tup [.int (0 - x), .int (0 - y)]) := upd_same
      generalize upd G4 t5 (.tup [.int (0 - x), .int (0 - y)]) = G5 at u5 f5 ⊢
      refine ⟨by show 6 ≤ sizeLine; omega, fun pw npw => ?_⟩
      have u6 := same_new (o := .lst [.ref t0, .ref t1, .ref t2, .ref t3, .ref t4, .ref t5]) npw
      have epw : (upd G5 pw (.lst [.ref t0, .ref t1, .ref t2, .ref t3, .ref t4, .ref t5])) pw = some (.lst [.ref t0, .ref t1, .ref t2, .ref t3, .ref t4, .ref t5]) := upd_same
      generalize upd G5 pw (.lst [.ref t0, .ref t1, .ref t2, .ref t3, .ref t4, .ref t5]) = G6 at u6 epw ⊢
      have uA := (((((u0.trans u1).trans u2).trans u3).trans u4).trans u5).trans u6
      obtain ⟨tw, qw, hatw, ew, hqw⟩ : ∃ (t : Addr) (qw : Int × Int), atI [V.ref t0, .ref t1, .ref t2, .ref t3, .ref t4, .ref t5] way = some (.ref t) ∧ G6 t = some (.tup [.int qw.1, .int qw.2]) ∧ qw = tfP way far false (x, y) := by
        rcases (show way = 0 ∨ way = 1 ∨ way = 2 ∨ way = 3 ∨ way = 4 ∨ way = 5 by omega) with rfl | rfl | rfl | rfl | rfl | rfl
        · exact ⟨t0, (y, x), rfl, ((((((u1.trans u2).trans u3).trans u4).trans u5).trans u6)) _ _ f0, rfl⟩
        · exact ⟨t1, (0 - x, y), rfl, (((((u2.trans u3).trans u4).trans u5).trans u6)) _ _ f1, rfl⟩
        · exact ⟨t2, (x, 0 - y), rfl, ((((u3.trans u4).trans u5).trans u6)) _ _ f2, rfl⟩
        · exact ⟨t3, (x, y), rfl, (((u4.trans u5).trans u6)) _ _ f3, rfl⟩
        · exact ⟨t4, (0 - y, x), rfl, ((u5.trans u6)) _ _ f4, rfl⟩
        · exact ⟨t5, (0 - x, 0 - y), rfl, u6 _ _ f5, rfl⟩
      refine ⟨.int way, rfl, pw, _, way, .ref tw, rfl, rfl, .inl (.inl epw), hatw, ?_⟩
      refine gn_to (σ' := ([some (.ref l), some (.ref ta), some (.int way), some (.int far), some (.bl near), some (.ref R), some (.ref b), some (.int x), some (.int y), some (.ref tw), none] : L2.St)) rfl ?_
      try dsimp only
      clear f0 f1 f2 f3 f4 f5 n0 n1 n2 n3 n4 n5 npw u0 u1 u2 u3 u4 u5 u6 epw hatw
      have g6 : Keep l F G6 := g1.trans (Keep.of uA)
      have sG6 := sF1.same uA
      have eqp : ptR 0 1 r = (x, y) := by
        unfold ptR vat
        rw [evl]
        rfl
      have etl : ∀ v ∈ tl, -1000000000 ≤ v ∧ v ≤ 1000000000 := fun v hv => hvb v (by rw [evl]; simp [hv])
      have hnr : near = true → -100000000 ≤ x ∧ x ≤ 100000000 ∧ -100000000 ≤ y ∧ y ≤ 100000000 := fun z => by
        have h1 := hnear z r hmr x (by rw [evl]; simp)
        have h2 := hnear z r hmr y (by rw [evl]; simp)
        omega
      have bnd := tfP_bd (way := way) (far := far) (near := near) (p := (x, y)) (by unfold Sml; dsimp only; omega) far0 far1 hnr
      refine tail_if (ι := Addr × Hp) (fun i => Keep l F i.2 ∧ StO i.2 l ∧ i.2 i.1 = some (.tup [.int (tfP way far near (x, y)).1, .int (tfP way far near (x, y)).2]))
        (fun i => [some (.ref l), some (.ref ta), some (.int way), some (.int far), some (.bl near), some (.ref R), some (.ref b), some (.int x), some (.int y), some (.ref i.1), none]) (fun i => i.2) (fun i hi => ?_) (fun tl9 => ?_)
      · obtain ⟨tw, G7⟩ := i
        obtain ⟨g7, s7, ew⟩ := hi
        dsimp only at g7 s7 ew ⊢
        obtain ⟨qw, eqw⟩ : ∃ qw, tfP way far near (x, y) = qw := ⟨_, rfl⟩
        rw [eqw] at ew bnd
        have htw : tw ≠ l := fun z => by
          obtain ⟨b1, b2, b3, e⟩ := s7
          rw [z, e] at ew
          cases ew
        have eR7 := g7 _ _ hRl eR
        have eb7 := g7 _ _ nb eb
        have hv7 := hvals.up g7.same
        have xw : Dx (hid l G7) (.ref tw) (.tuple [.int qw.1, .int qw.2]) := .tup (by rw [hid_at htw]; exact ew) (.cons (.int _) (.cons (.int _) .nil))
        refine ⟨.ref R, rfl, .inl ⟨rfl, _, .inl (.inl eR7)⟩, .ref b, rfl, b, _, 0, .str r.nm, rfl, rfl, .inl (.inl eb7), rfl, .ref b, rfl, b, _, 1, .int r.cost, rfl, rfl, .inl (.inl eb7), rfl, .ref tw, rfl, .ref b, rfl, b, _, 2, .ref z, rfl, rfl, .inl (.inl eb7), rfl, 2, rfl, ?_⟩
        dsimp only [tNoPart]
        refine sl_of (lo := some 2) (hi := none) hv7 s7 fun G8 p8 g8 s8 x8 => ?_
        rw [show cutD (r.vals.map PyData.int) (some 2) none = tl.map PyData.int from (cutD_from _ 2).trans (by rw [evl]; rfl)] at x8
        have ltl : tl.length ≤ 2 := by
          rw [evl] at lv
          simp at lv
          omega
        refine cat_of (xw.up g8.same) x8 s8 (by rw [List.length_map]; simp; omega) fun G9 p9 g9 s9 x9 => ?_
        have g79 := g8.trans g9
        refine ⟨.ref l, rfl, l, 9, rfl, s9, by decide, by decide, fun GA d gA sA d0 d9 => ⟨1, d, rfl, rfl, by show 4 ≤ sizeLine; omega, fun tn ntn => ?_⟩⟩
        have htn : tn ≠ l := sA.ne ntn
        have wn := same_new (o := .tup [.str r.nm, .int r.cost, .ref p9, .int (1 + d)]) ntn
        have sB := sA.same wn
        have gB : Keep l G7 (upd GA tn (.tup [.str r.nm, .int r.cost, .ref p9, .int (1 + d)])) := (g79.trans gA).trans (Keep.of wn)
        obtain ⟨e, ee⟩ : ∃ e : Rec, e = ⟨r.nm, r.cost, qw.1 :: qw.2 :: tl, 1 + d⟩ := ⟨_, rfl⟩
        have xe : Dx (hid l (upd GA tn (.tup [.str r.nm, .int r.cost, .ref p9, .int (1 + d)]))) (.ref tn) (encR e) := by
          rw [ee]
          refine .tup (by rw [hid_at htn]; exact upd_same) (.cons (.str _) (.cons (.int _) (.cons ?_ (.cons (.int _) .nil))))
          exact x9.up (gA.trans (Keep.of wn)).same
        generalize upd GA tn (.tup [.str r.nm, .int r.cost, .ref p9, .int (1 + d)]) = GB at sB gB xe ⊢
        have eRB := gB _ _ hRl eR7
        have lvs := hvs.len
        have lpn := Paired.length hpn
        rw [List.length_map] at lvs
        rw [List.length_take] at lpn
        refine ⟨R, vs, .ref tn, rfl, rfl, eRB, by omega, ?_⟩
        have tkF : TK (hid l GB) (hid l (upd GB R (.lst (vs ++ [.ref tn])))) := fun b zs e => by
          obtain ⟨nb, e⟩ := hid_some e
          have : b ≠ R := fun y => by rw [y, eRB] at e; cases e
          rw [hid_at nb, upd_ne this]
          exact e
        have gZ := g7.trans gB
        refine ⟨fun b o nb e => ?_, ?_, fun b zs nb e => ?_, vs ++ [.ref tn], news ++ [e], _, _, _, _, rfl, upd_same, ?_, ?_, fun e2 he2 => ?_⟩
        · rw [upd_ne (ne_of_none e hRn)]
          exact gZ _ _ nb (kF _ _ nb e)
        · obtain ⟨b1, b2, b3, e⟩ := sB
          exact ⟨b1, b2, b3, by rw [upd_ne hRl.symm]; exact e⟩
        · have e8 := gZ _ _ nb (tk _ _ nb e)
          have : b ≠ R := fun y => by rw [y, eRB] at e8; cases e8
          rw [upd_ne this]
          exact e8
        · rw [List.map_append]
          refine Dxs.app ?_ (.cons (dx_tk tkF _ _ (noL_rec e) xe) .nil)
          exact dxs_tk tkF _ _ (noL_recs news) (hvs.up gZ.same)
        · rw [List.take_add_one, er]
          refine pair_snoc ?_ hpn
          rw [ee, eqp, eqw]
          exact ⟨rfl, rfl, rfl⟩
        · rcases List.mem_append.mp he2 with h | h
          · exact hgn e2 h
          · rw [List.mem_singleton.mp h, ee]
            refine ⟨r, hmr, rfl, rfl, ?_, fun v hv => ?_, by show 1 ≤ 1 + d; omega, by show 1 + d ≤ 9; omega⟩
            · rw [evl] at lv
              simpa using lv
            · obtain ⟨b1, b2, b3, b4⟩ := bnd
              simp only [List.mem_cons] at hv
              rcases hv with rfl | rfl | hv
              · omega
              · omega
              · exact etl v hv
      · refine ⟨.int way, rfl, rfl, _, rfl, ite2 (fun h3 => ⟨.bl near, rfl, near, rfl, ite2 (fun hn => ?_) fun hn => ?_⟩) fun h3 => iteF ?_⟩
        · have h3 : way = 3 := by
            have := of_decide_eq_true h3
            cases this
            rfl
          refine ⟨.int x, rfl, 2, x, rfl, rfl, .inl ⟨by decide, by decide⟩, .int far, rfl, .int y, rfl, far, y, rfl, rfl, .inl ⟨by omega, by omega⟩, 2 * x, far * y, rfl, rfl, .int y, rfl, 5, y, rfl, rfl, .inl ⟨by decide, by decide⟩, .int far, rfl, 5 * y, far, rfl, rfl, by show 2 ≤ sizeLine; omega, fun t7 n7 => ?_⟩
          have w7 := same_new (o := .tup [.int (2 * x + far * y), .int (5 * y - far)]) n7
          refine tl9 (t7, upd G6 t7 (.tup [.int (2 * x + far * y), .int (5 * y - far)])) ⟨g6.trans (Keep.of w7), sG6.same w7, ?_⟩
          rw [show tfP way far near (x, y) = (2 * x + far * y, 5 * y - far) by rw [h3, hn]; rfl]
          exact upd_same
        · refine tl9 (tw, G6) ⟨g6, sG6, ?_⟩
          have : near = false := by cases near <;> simp_all
          rw [this, ← hqw]
          exact ew
        · refine tl9 (tw, G6) ⟨g6, sG6, ?_⟩
          have h3 : way ≠ 3 := fun z => h3 (by rw [z]; rfl)
          have : tfP way far near (x, y) = tfP way far false (x, y) := by
            unfold tfP
            rw [if_neg h3, if_neg h3]
          rw [this, ← hqw]
          exact ew
    · obtain ⟨kF, stF, tk, vs, news, o6, o7, o8, o9, rfl, eR, hvs, hpn, hgn⟩ := hF
      rw [List.take_of_length_le (by omega)] at hpn
      refine ⟨.ref R, rfl, R, vs, rfl, .inl ⟨.inl (.inl eR), fun p np => ?_⟩⟩
      have hpl : p ≠ l := stF.ne np
      have kp : Keep l F (upd F p (.tup vs)) := (Keep.refl l F).new np
      obtain ⟨a, b, c, e, t, u, hD, hT⟩ := tfP_lin way far near
      have enm : news.map (fun r : Rec => r.nm) = rs.map (fun r : Rec => r.nm) := pair_map hpn fun _ _ _ _ k => k.1
      refine q _ p news a b c e t u (kF.trans kp) (stF.new np) hD (pair_imp (fun e2 r k => ⟨k.1, k.2.1, by rw [k.2.2]; exact (hT _).1, by rw [k.2.2]; exact (hT _).2⟩) hpn) ⟨by rw [enm]; exact sp.pw, by rw [enm]; exact sp.nd, fun e2 he2 => ?_⟩ (.tup (by rw [hid_at hpl]; exact upd_same) (hvs.up kp.same))
      obtain ⟨r, hr, h1, h2, h3, h4, h5, h6⟩ := hgn e2 he2
      obtain ⟨n, hn, o⟩ := sp.ok r hr
      exact ⟨n, hn, ⟨by rw [h1]; exact o.nm, by rw [h2]; exact o.c0, by rw [h2]; exact o.c1, h3, h4, h5, by omega⟩⟩
end
end I1

set_option maxRecDepth 100000
set_option maxHeartbeats 4000000
namespace KX
open PySem PySem.Spec PyProof.Rows L2
/-- a walk over zip of a tuple and a list -/
theorem walk_zipN {K : PySem.W.Frag} {p q : Addr} {us vs : List V} {n : Nat} (e : us.length = n) (e2 : vs.length = n) : Walk (ItN K p q) n (fun G => SqT K G p us ∧ SqL K G q vs) (YPair (fun m => us[m]?) (fun m => vs[m]?)) :=
  ⟨fun m G lt k => ⟨us, vs, us[m]'(by omega), vs[m]'(by omega), k.1, k.2, List.getElem?_eq_getElem _, List.getElem?_eq_getElem _⟩, fun G k => ⟨us, vs, k.1, k.2, e, e2⟩, fun m G r G2 _ k w => by
    obtain ⟨c, u, v, w1, w2, w3, w4, w5⟩ := w
    exact ⟨c, u, v, w1, w2, w3, w4 us k.1, w5 vs k.2⟩⟩
end KX

set_option maxRecDepth 100000
set_option maxHeartbeats 4000000
namespace I1
open PySem PySem.Spec PyProof.Rows L2 KX
/-! ### slices and sums of tuples, no stream -/
theorem hid_same {l : Addr} {H : Hp} : Same (hid l H) H := fun b o e => (hid_some e).2
theorem slS {K : PySem.W.Frag} {H : Hp} {ds : List PyData} {Q : VK} {lo hi : Option Int} {v : V} (hd : Dx H v (.tuple ds)) (q : ∀ H' p, Same H H' → Dx H' (.ref p) (.tuple (KX.cutD ds lo hi)) → Q (.ref p) H') : rSlA K v lo hi H Q := by
  obtain ⟨t, xs, rfl, et, hx⟩ := dx_tup' hd
  refine ⟨t, xs, rfl, .inl (.inl et), fun whole => q H t (Same.refl H) ?_, fun _ p np => q _ p (same_new np) (.tup upd_same ((dxs_cut hx lo hi).up (same_new np)))⟩
  have e : KX.cutD ds lo hi = ds := by
    unfold KX.cutD
    rw [← hx.len, whole.1, whole.2, List.drop_zero, Nat.sub_zero, List.take_of_length_le (Nat.le_of_eq hx.len.symm)]
  rw [e]
  exact hd
theorem catS {K : PySem.W.Frag} {H : Hp} {ds es : List PyData} {Q : VK} {v u : V} (hd : Dx H v (.tuple ds)) (he : Dx H u (.tuple es)) (hz : ds.length + es.length ≤ sizeLine) (q : ∀ H' p, Same H H' → Dx H' (.ref p) (.tuple (ds ++ es)) → Q (.ref p) H') : rCatA K v u H Q := by
  obtain ⟨t, xs, rfl, et, hx⟩ := dx_tup' hd
  obtain ⟨c, ys, rfl, ec, hy⟩ := dx_tup' he
  have l1 := hx.len
  have l2 := hy.len
  refine ⟨t, c, xs, ys, rfl, rfl, .inl (.inl et), .inl (.inl ec), by omega, fun z => ?_, fun _ z => ?_, fun _ _ p np => q _ p (same_new np) (.tup upd_same ((hx.app hy).up (same_new np)))⟩
  · subst z
    have e : ds = [] := List.eq_nil_of_length_eq_zero l1.symm
    subst e
    exact q H c (Same.refl H) he
  · subst z
    have e : es = [] := List.eq_nil_of_length_eq_zero l2.symm
    subst e
    rw [List.append_nil] at q
    exact q H t (Same.refl H) hd
theorem hn_args {sp : Sp} {v : V} {i j : Int} {σ : L2.St} {H : Hp} {Q : VK} {E : XK} (h : sp [v, .int i, .int j] H Q E) : tCons (tC (.int i)) (tCons (tC (.int j)) tNil) σ H (fun xs H2 => sp (v :: xs ++ []) H2 Q E) := h
theorem cd_args {sp : Sp} {v : V} {i j : Int} {n : Str} {σ : L2.St} {H : Hp} {Q : VK} {E : XK} (e : σ[2]? = some (some (.str n))) (h : sp [v, .int i, .int j, .str n] H Q E) : tCons (tC (.int i)) (tCons (tC (.int j)) (tCons (tVar 2) tNil)) σ H (fun xs H2 => sp (v :: xs ++ []) H2 Q E) := ⟨.str n, e, h⟩
/-! ### _law_check_deletions -/
abbrev sDe : Stmt := topS 62
abbrev NDe : List Str := ["stream", "data", "name", "removed", "prices", "priced", "left", "row", "price"]
theorem scDe : FnScope NDe ["stream", "data", "name"] (defScope sDe) := ⟨rfl, rfl, rfl, by decide +kernel, rfl, by decide +kernel, by decide +kernel⟩
def spDe : Sp := fun vs H Q _ => ∃ (l : Addr) (v : V) (wd : Nat) (rs : List Rec) (r : Rec), vs = [.ref l, v, .str r.nm] ∧ StO H l ∧ Dx (hid l H) v (.tuple (rs.map encR)) ∧ RsP wd rs ∧ 2 ≤ wd ∧ wd ≤ 4 ∧ r ∈ rs ∧ rs.length ≤ 9 ∧
  ∀ H', Keep l H H' → StO H' l → Q (.bl true) H'
theorem pr_rsp {wd : Nat} {rs : List Rec} (gone : List Str) (h : RsP wd rs) : RsP wd (rs.map (prR gone)) := by
  have e : (rs.map (prR gone)).map (fun r : Rec => r.nm) = rs.map (fun r : Rec => r.nm) := by rw [List.map_map]; rfl
  refine ⟨by rw [e]; exact h.pw, by rw [e]; exact h.nd, fun x hx => ?_⟩
  have hc := pr_cost x hx
  obtain ⟨y, hy, rfl⟩ := List.mem_map.mp hx
  obtain ⟨n, hn, o⟩ := h.ok y hy
  exact ⟨n, hn, ⟨o.nm, hc.1, hc.2, o.len, o.vs, o.e0, o.e1⟩⟩
theorem in_corner {wd : Nat} {rs : List Rec} {r : Rec} {gone : List Str} (sp : RsP wd rs) (hr : r ∈ rs) (hg : r.nm ∉ gone) : decide (r.nm ∈ namesL 0 1 (leftR rs gone)) = lawT 0 1 (leftR rs gone) r := by
  have hl : r ∈ leftR rs gone := List.mem_filter.mpr ⟨hr, by rw [decide_eq_false hg]; rfl⟩
  cases z : lawT 0 1 (leftR rs gone) r with
  | true => exact decide_eq_true (List.mem_map.mpr ⟨r, List.mem_filter.mpr ⟨hl, z⟩, rfl⟩)
  | false =>
    refine decide_eq_false fun k => ?_
    obtain ⟨x, hx, ex⟩ := List.mem_map.mp k
    obtain ⟨h1, h2⟩ := List.mem_filter.mp hx
    have e : x = r := nodup_one (f := fun r : Rec => r.nm) sp.nd (List.mem_filter.mp h1).1 hr ex
    rw [e, z] at h2
    cases h2
section
variable {P : Program} {w : World} {K : PySem.W.Frag} {mg : Str → Option Value} {base : Heap} {RA UA C : Addr}
theorem ok_de {k : Nat} {f fP fR fH fC : Addr} {fd gP gR gH gC : FuncData} (B : Bl mg) (D : Df K mg "_law_check_deletions" sDe ["stream", "data", "name"] f fd) (DP : Df K mg "_law_random_part" sRp ["stream", "rows", "chance"] fP gP) (DR : Df K mg "_law_remove" sRv ["world", "gone"] fR gR) (DH : Df K mg "hull_names" sHN ["rowset", "x", "y"] fH gH) (DC : Df K mg "cheapest_direction" sCd ["rowset", "x", "y", "name"] fC gC)
    (GP : FnOk P w K mg base CX0 k fP gP ["stream", "rows", "chance"] spRp) (GR : FnOk P w K mg base CX0 k fR gR ["world", "gone"] spRv) (GH : FnOk P w K mg base (L2.CX P w) k fH gH ["rowset", "x", "y"] (spHN RA C)) (GC : FnOk P w K mg base (L2.CX P w) k fC gC ["rowset", "x", "y", "name"] (spCd RA UA C)) :
    FnOk P w K mg base CX0 (k + 1) f fd ["stream", "data", "name"] spDe := by
  refine D.F.ok scDe (fun vs H Q E h => ?_) (fun cdv A outer s H vs Q E hr h => ?_)
  · obtain ⟨l, v, wd, rs, r, rfl, _⟩ := h
    rfl
  · obtain ⟨l, v, wd, rs, r, rfl, st, hR, sp, w2, w4, hmr, l9, q⟩ := h
    have nd := scDe.nd
    have big : (1000 : Nat) < sizeLine := by decide
    refine ⟨_, pss_cons (ps_set (i := 3) nd rfl (.inr rfl) (pe_lc (own := [("row", 7)]) (g := gName 7) rfl nd (pi_list (pe_call GP hr (by rfl) DP.g DP.F.kp DP.b .nil pass0 (pa_cons (pv 0) (pa_cons (pv 1) (pa_cons pe_int pa_nil))))) (blkOk_by (N := NDe) (sc := defScope sDe) (by decide +kernel)) (fun _ _ _ _ _ => pg_name (i := 7) nd rfl (Or.inl rfl))
          (fun _ _ _ _ _ => pts_one (pt_cmpR op_ne (pe_ix (r := rIxT K) ix_tup (pv 7) pe_int (fun _ _ => rfl)) (pv 2) (by rfl))) (fun _ _ _ _ _ => pe_ix (r := rIxT K) ix_tup (pv 7) pe_int (fun _ _ => rfl))))
      (pss_cons (ps_setLc (i := 4) (own := [("row", 7)]) (g := gName 7) (by rfl) nd rfl rfl (sw_true rfl rfl rfl (by decide +kernel)) (pi_tup (pv 1)) (blkOk_by (N := NDe) (sc := defScope sDe) (by decide +kernel)) (fun _ _ _ _ _ => pg_name (i := 7) nd rfl (Or.inl rfl)) (fun _ _ _ _ _ => pts_nil)
          (fun _ _ _ _ _ => pe_ifExp (pt_cmpR (r := rInLD K id) (op_inLD hr.units) (pe_ix (r := rIxT K) ix_tup (pv 7) pe_int (fun _ _ => rfl)) (pv 3) (by rfl)) pe_int (pe_op op_pow pe_int pe_int)))
      (pss_cons (ps_set (i := 5) nd rfl (.inl rfl) (pe_callTy call_tuple_of (by rfl) B.tuple (by decide +kernel) (pa_cons (pe_lc (own := [("row", 7), ("price", 8)]) (g := gTup K 2 (gCons (gName 7) (gCons (gName 8) gNil))) rfl nd (pi_zipN (by rfl) B.zip (pa_cons (pv 1) (pa_cons (pv 4) pa_nil))) (blkOk_by (N := NDe) (sc := defScope sDe) (by decide +kernel))
          (fun _ _ _ _ _ => pg_tup (by rfl) (pgs_cons (pg_name (i := 7) nd rfl (Or.inl rfl)) (pgs_cons (pg_name (i := 8) nd rfl (Or.inl rfl)) pgs_nil))) (fun _ _ _ _ _ => pts_nil)
          (fun _ _ _ _ _ => pe_op (r := rCatA K) op_catA (pe_tup (pa_cons (pe_ix (r := rIxT K) ix_tup (pv 7) pe_int (fun _ _ => rfl)) (pa_cons (pv 8) pa_nil))) (pe_slice (r := rSlA K) sl_tupA (pv 7) (po_some pe_int) po_none))) pa_nil)))
      (pss_cons (ps_set (i := 6) nd rfl (.inl rfl) (pe_callTy call_tuple_of (by rfl) B.tuple (by decide +kernel) (pa_cons (pe_call GR hr (by rfl) DR.g DR.F.kp DR.b .nil pass0 (pa_cons (pv 1) (pa_cons (pv 3) pa_nil))) pa_nil)))
      (pss_one (ps_ret (pe_cmpR op_eq (pe_cmpR (r := rInA K id) (op_inA hr.units) (pv 2) (pe_call GH hr (by rfl) DH.g DH.F.kp DH.b .nil passL (pa_cons (pv 6) (pa_cons pe_int (pa_cons pe_int pa_nil)))) (by rfl))
          (pe_cmpR op_lt (pe_ix (r := rIxT K) ix_tup (pe_call GC hr (by rfl) DC.g DC.F.kp DC.b .nil passL (pa_cons (pv 5) (pa_cons pe_int (pa_cons pe_int (pa_cons (pv 2) pa_nil))))) pe_int (fun _ _ => rfl)) (pe_op op_pow pe_int pe_int) (nomark _)) (by rfl))))))), ?_⟩
    refine ⟨.ref l, rfl, v, rfl, l, v, rs, 3, rfl, st, hR, by omega, by decide, by decide, fun H1 p ys ss k1 st1 pl pn hss ep hys => ?_⟩
    have hR1 := (hR.up k1.same).up hid_same
    have hys := hys.up hid_same
    obtain ⟨ta, xs, rfl, eta, hx⟩ := dx_tup' hR1
    have lx := hx.len
    rw [List.length_map] at lx
    have lss := hss.length_le
    have lys := hys.len
    rw [List.length_map] at lys
    -- removed
    refine ⟨p, rfl, ⟨_, .inl (.inl ep)⟩, fun L nL => ?_⟩
    refine lc_gen (as := ss) (fun e => if (!decide (e.nm = r.nm)) = true then some e.nm else none) (fun _ y n => y = .str n) (fun _ _ _ _ _ h => h) (walk_list (K := K)) nL (fun G sG => .inl (.inl (sG _ _ ep))) lys.symm (by omega) (fun m x e G hxm hem sG Pt Pf kt kf => ?_) (fun G us sG eL hp _ => ?_)
    · obtain ⟨d, ed, hdx⟩ := hys.get' hxm
      rw [List.getElem?_map, hem] at ed
      cases ed
      obtain ⟨b, z, zs, rfl, eb, _⟩ := row_dx (hdx.up sG)
      refine ⟨rfl, .ref b, rfl, b, _, 0, .str e.nm, rfl, rfl, .inl (.inl eb), rfl, .str r.nm, rfl, rfl, _, rfl, ?_⟩
      by_cases y : e.nm = r.nm
      · exact ite_not (by rw [y]; simp) (kf (by rw [y]; simp) _ (Same.refl G))
      · exact ite_to (by simp [y]) ⟨.ref b, rfl, b, _, 0, .str e.nm, rfl, rfl, .inl (.inl eb), rfl, kt _ (by rw [if_pos (by simp [y])]) _ _ (Same.refl G) rfl⟩
    obtain ⟨ns, ens⟩ : ∃ ns, ss.filterMap (fun e => if (!decide (e.nm = r.nm)) = true then some e.nm else none) = ns := ⟨_, rfl⟩
    have hns : r.nm ∉ ns := fun z => by
      rw [← ens] at z
      obtain ⟨e, he, h⟩ := List.mem_filterMap.mp z
      by_cases y : e.nm = r.nm
      · rw [y] at h
        simp at h
      · rw [if_pos (by simp [y])] at h
        exact y (Option.some.inj h)
    rw [ens] at hp
    have eus := strs_of (H := G) hp
    subst eus
    clear hp ens
    refine gn_to (σ' := ([some (.ref l), some (.ref ta), some (.str r.nm), some (.ref L), none, none, none, none, none] : L2.St)) rfl ?_
    try dsimp only
    have s1 := sG
    -- prices
    refine ⟨.ref ta, rfl, ta, rfl, ⟨_, .inl (.inl (s1 _ _ eta))⟩, fun M nM => ?_⟩
    refine lc_gen (as := rs) (fun e => some (if e.nm ∈ ns then (1 : Int) else 1000000)) (fun _ y n => y = .int n) (fun _ _ _ _ _ h => h) (walk_tup (K := K)) nM (fun F sF => .inl (.inl (sF _ _ (s1 _ _ eta)))) lx.symm (by omega) (fun m x e F hxm hem sF Pt Pf kt kf => ?_) (fun F us sF eM hp _ => ?_)
    · obtain ⟨d, ed, hdx⟩ := hx.get' hxm
      rw [List.getElem?_map, hem] at ed
      cases ed
      obtain ⟨b, z, zs, rfl, eb, _⟩ := row_dx ((hdx.up s1).up sF)
      refine ⟨rfl, .ref b, rfl, b, _, 0, .str e.nm, rfl, rfl, .inl (.inl eb), rfl, .ref L, rfl, in_strs (sF _ _ eL) ⟨_, rfl, ?_⟩⟩
      by_cases y : e.nm ∈ ns
      · exact ite_to (decide_eq_true y) (kt _ rfl _ _ (Same.refl F) (by rw [if_pos y]))
      · exact ite_not (decide_eq_false y) ⟨10, 6, rfl, rfl, ⟨by decide, by decide, by decide⟩, kt _ rfl _ _ (Same.refl F) (by rw [if_neg y]; rfl)⟩
    have eus := ints_of (H := F) hp
    subst eus
    clear hp
    rw [show rs.filterMap (fun e => some (if e.nm ∈ ns then (1 : Int) else 1000000)) = rs.map (fun e : Rec => if e.nm ∈ ns then (1 : Int) else 1000000) from List.filterMap_eq_map ▸ rfl] at eM
    refine gn_to (σ' := ([some (.ref l), some (.ref ta), some (.str r.nm), some (.ref L), some (.ref M), none, none, none, none] : L2.St)) rfl ?_
    try dsimp only
    have s2 := s1.trans sF
    -- priced
    refine ⟨.ref ta, rfl, .ref M, rfl, ta, M, xs, _, rfl, .inl (.inl (s2 _ _ eta)), .inl (.inl eM), fun N nN => ?_⟩
    refine lc_genZ (as := rs) (fun e => some (prR ns e)) (fun H y e => Dx H y (encR e)) (fun _ _ _ e k h => dx_tk k _ _ (noL_rec e) h) (walk_zipN (K := K) lx (by rw [List.length_map, List.length_map])) nN (fun G2 sG2 => ⟨.inl (.inl (sG2 _ _ (s2 _ _ eta))), .inl (.inl (sG2 _ _ eM))⟩) (by omega) (fun m x y e T G2 hxm hym hem sG2 eT Pt Pf kt kf => ?_) (fun G2 us sG2 eN hp _ => ?_)
    · obtain ⟨d, ed, hdx⟩ := hx.get' hxm
      rw [List.getElem?_map, hem] at ed
      cases ed
      have hdx := (hdx.up s2).up sG2
      rw [List.getElem?_map, List.getElem?_map, hem] at hym
      cases hym
      have hdx0 := hdx
      obtain ⟨b, z, zs, rfl, eb, _⟩ := row_dx hdx
      refine ⟨T, _, rfl, .inl (.inl eT), rfl, _, _, rfl, _, _, rfl, rfl, ?_⟩
      refine ⟨rfl, .ref b, rfl, b, _, 0, .str e.nm, rfl, rfl, .inl (.inl eb), rfl, .int (if e.nm ∈ ns then (1 : Int) else 1000000), rfl, by show 2 ≤ sizeLine; omega, fun c nc => ?_⟩
      have sc := same_new (o := .tup [.str e.nm, .int (if e.nm ∈ ns then (1 : Int) else 1000000)]) nc
      have xc : Dx (upd G2 c (.tup [.str e.nm, .int (if e.nm ∈ ns then (1 : Int) else 1000000)])) (.ref c) (.tuple [.str e.nm, .int (if e.nm ∈ ns then (1 : Int) else 1000000)]) := .tup upd_same (.cons (.str _) (.cons (.int _) .nil))
      refine ⟨.ref b, rfl, 2, rfl, ?_⟩
      dsimp only [tNoPart]
      refine slS (lo := some 2) (hi := none) (hdx0.up sc) fun G3 p3 s3 h3 => ?_
      rw [show KX.cutD [PyData.str e.nm, .int e.cost, .tuple (e.vals.map .int), .int e.exp] (some 2) none = [.tuple (e.vals.map .int), .int e.exp] from cutD_from _ 2] at h3
      refine catS (xc.up s3) h3 (by show 2 + 2 ≤ sizeLine; omega) fun G4 p4 s4 h4 => ?_
      exact kt _ rfl _ _ ((sc.trans s3).trans s4) h4
    rw [show rs.filterMap (fun e => some (prR ns e)) = rs.map (prR ns) from List.filterMap_eq_map ▸ rfl] at hp
    have s3 := s2.trans sG2
    refine ⟨N, us, rfl, .inl ⟨.inl (.inl eN), fun pp npp => ?_⟩⟩
    have s4 := s3.trans (same_new (o := .tup us) npp)
    have hpp : Dx (upd G2 pp (.tup us)) (.ref pp) (.tuple ((rs.map (prR ns)).map encR)) := .tup upd_same ((dxs_pair hp).up (same_new npp))
    have eL4 := (same_new (o := .tup us) npp) _ _ (sG2 _ _ (sF _ _ eL))
    clear hp eN
    generalize upd G2 pp (.tup us) = H4 at s4 hpp eL4 ⊢
    refine gn_to (σ' := ([some (.ref l), some (.ref ta), some (.str r.nm), some (.ref L), some (.ref M), some (.ref pp), none, none, none] : L2.St)) rfl ?_
    try dsimp only
    -- left
    refine ⟨.ref ta, rfl, .ref L, rfl, .ref ta, L, rs, ns, rfl, hR1.up s4, eL4, by omega, fun H5 p5 ys5 s5 e5 h5 => ⟨p5, ys5, rfl, .inl ⟨.inl (.inl e5), fun p6 n6 => ?_⟩⟩⟩
    have s6 := s5.trans (same_new (o := .tup ys5) n6)
    have h6 : Dx (upd H5 p6 (.tup ys5)) (.ref p6) (.tuple ((leftR rs ns).map encR)) := .tup upd_same (h5.up (same_new n6))
    generalize upd H5 p6 (.tup ys5) = H6 at s6 h6 ⊢
    refine gn_to (σ' := ([some (.ref l), some (.ref ta), some (.str r.nm), some (.ref L), some (.ref M), some (.ref pp), some (.ref p6), none, none] : L2.St)) rfl ?_
    try dsimp only
    refine ⟨.str r.nm, rfl, .ref p6, rfl, ?_⟩
    refine hn_args (sp := spHN RA C) (v := V.ref p6) (i := 0) (j := 1) ?_
    have lle : (leftR rs ns).length ≤ rs.length := List.length_filter_le _ _
    have spl : RsP wd (leftR rs ns) := sp.sub List.filter_sublist
    refine hn_law spl (by omega) w4 (by omega) h6 (by decide) (by omega) (by decide) (by omega) (by decide) fun H7 p7 s7 h7 => ?_
    obtain ⟨a7, ks, e7, ea7, hk⟩ := dx_tup' h7
    cases e7
    have ek := vals_strsD hk
    refine ⟨.str r.nm, p7, namesL 0 1 (leftR rs ns), .str _, rfl, .inl (.inl (by rw [← ek]; exact ea7)), .ref pp, rfl, ?_⟩
    refine cd_args (sp := spCd RA UA C) (v := V.ref pp) (i := 0) (j := 1) (n := r.nm) rfl ?_
    have spp := pr_rsp ns sp
    have ew := widthI_of spp (List.ne_nil_of_mem (List.mem_map.mpr ⟨r, hmr, rfl⟩))
    refine cd_call (r := prR ns r) (spp.rsok (by omega) w4 (by rw [List.length_map]; omega)) (List.mem_map.mpr ⟨r, hmr, rfl⟩) ((hpp.up s6).up s7) (by decide) (by rw [ew]; omega) (by decide) (by rw [ew]; omega) (by decide) fun H8 y m s8 hm hb => ?_
    obtain ⟨t, u, rfl, et, eu⟩ := hm
    refine ⟨t, _, 0, .int m.1, rfl, rfl, .inl (.inl et), rfl, 10, 6, rfl, rfl, ⟨by decide, by decide, by decide⟩, m.1, _, rfl, rfl, rfl, ?_⟩
    have gd := GdR.of (i := 0) (j := 1) sp (by omega) w4 (by omega) (by decide) (by omega) (by decide) (by omega)
    have key := minC_prices (gone := ns) gd l9 hmr
    rw [← minC_of hb] at key
    have key2 := in_corner sp hmr hns
    rw [show id ((namesL 0 1 (leftR rs ns)).any fun n => isSt n (PyData.str r.nm)) = decide (r.nm ∈ namesL 0 1 (leftR rs ns)) from amg_mem, key2, ← key]
    have sZ := ((s4.trans s6).trans s7).trans s8
    rw [show decide (V.bl (decide (m.1 < 1000000)) = V.bl (decide (m.1 < 10 ^ (6 : Int).toNat))) = true from decide_eq_true rfl]
    exact q H8 (k1.trans (Keep.of sZ)) (st1.same sZ)
end
end I1

set_option maxRecDepth 100000
set_option maxHeartbeats 4000000
namespace I1
open PySem PySem.Spec PyProof.Rows L2 KX
theorem same_strs {K : PySem.W.Frag} {f : Bool → Bool} {H : Hp} {x y : V} {ns : List Str} {Q : VK} (h1 : Dx H x (.tuple (ns.map .str))) (h2 : Dx H y (.tuple (ns.map .str))) (q : Q (.bl (f true)) H) : rEqP K f x y H Q := by
  have pl : (PyData.tuple (ns.map .str)).plain = true := by simpa [PyData.plain] using plain_strs ns
  refine ⟨_, _, dp_dx _ _ pl h1, dp_dx _ _ pl h2, pl, pl, ?_, ?_⟩
  · have := deep_strs ns
    simp only [PyData.depth]
    omega
  · rw [show PyData.eqv (.tuple (ns.map .str)) (.tuple (ns.map .str)) = true by simpa [PyData.eqv] using eqv_strs ns]
    exact q
def GtAt (H : Hp) (y : V) (g : List Str) : Prop := Dx H y (.tuple (g.map .str))
theorem gt_mk {H : Hp} {a : Addr} {g : List Str} (h : H a = some (.tup (g.map V.str))) : GtAt H (.ref a) g := .tup h (dxs_strs g)
/-! ### _law_check -/
abbrev sLk : Stmt := topS 63
abbrev NLk : List Str := ["stream", "data", "prices", "corners_v", "smaller", "dear", "row", "turn_v", "price"]
theorem scLk : FnScope NLk ["stream", "data"] (defScope sLk) := ⟨rfl, rfl, rfl, by decide +kernel, rfl, by decide +kernel, by decide +kernel⟩
def spLk : Sp := fun vs H Q _ => ∃ (l : Addr) (v : V) (wd : Nat) (rs : List Rec), vs = [.ref l, v] ∧ StO H l ∧ Dx (hid l H) v (.tuple (rs.map encR)) ∧ RsP wd rs ∧ 2 ≤ wd ∧ wd ≤ 4 ∧ rs ≠ [] ∧ rs.length ≤ 9 ∧ ∀ H', Keep l H H' → StO H' l → Q (.bl true) H'
theorem eqv_intl (xs : List Int) : PyData.eqv (.list (xs.map .int)) (.list (xs.map .int)) = true := by
  simp only [PyData.eqv]
  rw [eqv_ints]
  exact decide_eq_true rfl
theorem plain_ints : ∀ xs : List Int, PyData.plainAll (xs.map .int) = true
  | [] => rfl
  | n :: ns => by simp [PyData.plainAll, PyData.plain, plain_ints ns]
theorem deep_ints (xs : List Int) : PyData.depthAll (xs.map .int) ≤ 50 := depthAll_le fun e he => by
  obtain ⟨n, _, rfl⟩ := List.mem_map.mp he
  simp [PyData.depth]
theorem same_ints {K : PySem.W.Frag} {f : Bool → Bool} {H : Hp} {p q : Addr} {xs : List Int} {Q : VK} (e1 : H p = some (.lst (xs.map V.int))) (e2 : H q = some (.lst (xs.map V.int))) (k : Q (.bl (f true)) H) : rEqP K f (.ref p) (.ref q) H Q := by
  refine ⟨.list (xs.map .int), .list (xs.map .int), .lst (.inl (.inl e1)) (dps_dx _ _ (plain_ints xs) (dxs_ints xs)), .lst (.inl (.inl e2)) (dps_dx _ _ (plain_ints xs) (dxs_ints xs)), by simpa [PyData.plain] using plain_ints xs, by simpa [PyData.plain] using plain_ints xs, ?_, ?_⟩
  · have := deep_ints xs
    simp only [PyData.depth]
    omega
  · rw [eqv_intl]
    exact k
/-- the dict of the costs -/
theorem merge_val {f : Rec → V} : ∀ (rs : List Rec) (acc : List (L2.Key × V)), (rs.map fun e : Rec => e.nm).Nodup → ∀ r ∈ rs, valV ((rs.map fun e : Rec => ((Sum.inr e.nm : L2.Key), f e)).foldl (fun acc kv => putK acc kv.1 kv.2) acc) (Sum.inr r.nm) = some (f r)
  | [], _, _, r, h => nomatch h
  | e :: rs, acc, nd, r, h => by
    rw [List.map_cons, List.nodup_cons] at nd
    rw [List.map_cons, List.foldl_cons]
    rcases List.mem_cons.mp h with rfl | h
    · have keep : ∀ (ss : List Rec) (acc : List (L2.Key × V)), (∀ x ∈ ss, x.nm ≠ r.nm) → valV ((ss.map fun e : Rec => ((Sum.inr e.nm : L2.Key), f e)).foldl (fun acc kv => putK acc kv.1 kv.2) acc) (Sum.inr r.nm) = valV acc (Sum.inr r.nm) := fun ss => by
        induction ss with
        | nil => exact fun _ _ => rfl
        | cons x ss ih =>
          intro acc hx
          rw [List.map_cons, List.foldl_cons, ih _ fun y hy => hx y (List.mem_cons_of_mem _ hy), valV_put, if_neg (fun z => hx x (by simp) (Sum.inr.inj z).symm)]
      rw [keep rs _ fun x hx z => nd.1 (List.mem_map.mpr ⟨x, hx, z⟩), valV_put, if_pos rfl]
    · exact merge_val rs _ nd.2 r h
theorem refs_ex {K : PySem.W.Frag} {H : Hp} {g : Rec → Int} : ∀ {ys : List V} {rs : List Rec}, Paired (fun y e => ∃ t, y = .ref t ∧ H t = some (.tup [.str e.nm, .int (g e)])) ys rs → ∃ ps : List Addr, ys = ps.map V.ref ∧ Paired (fun p (kv : L2.Key × V) => SqT K H p [kV kv.1, kv.2]) ps (rs.map fun e : Rec => ((Sum.inr e.nm : L2.Key), V.int (g e)))
  | [], [], .nil => ⟨[], rfl, .nil⟩
  | _ :: _, _ :: _, .cons h t => by
    obtain ⟨c, rfl, e⟩ := h
    obtain ⟨ps, rfl, k⟩ := refs_ex (K := K) t
    exact ⟨c :: ps, rfl, .cons (.inl (.inl e)) k⟩
section
variable {P : Program} {w : World} {K : PySem.W.Frag} {mg : Str → Option Value} {base : Heap} {RA UA C : Addr}
theorem ok_lk {k : Nat} {f fC fT fP fH fE : Addr} {fd gC gT gP gH gE : FuncData} (B : Bl mg) (D : Df K mg "_law_check" sLk ["stream", "data"] f fd) (DC : Df K mg "_law_costs" sCs ["data", "one", "other"] fC gC) (DT : Df K mg "_law_transformed" sTf ["stream", "data"] fT gT) (DP : Df K mg "_law_random_part" sRp ["stream", "rows", "chance"] fP gP)
    (DH : Df K mg "hull_names" sHN ["rowset", "x", "y"] fH gH) (DE : Df K mg "_law_check_deletions" sDe ["stream", "data", "name"] fE gE) (GC : FnOk P w K mg base CX0 k fC gC ["data", "one", "other"] spCs) (GT : FnOk P w K mg base CX0 k fT gT ["stream", "data"] spTf) (GP : FnOk P w K mg base CX0 k fP gP ["stream", "rows", "chance"] spRp)
    (GH : FnOk P w K mg base (L2.CX P w) k fH gH ["rowset", "x", "y"] (spHN RA C)) (GE : FnOk P w K mg base CX0 k fE gE ["stream", "data", "name"] spDe) : FnOk P w K mg base CX0 (k + 1) f fd ["stream", "data"] spLk := by
  refine D.F.ok scLk (fun vs H Q E h => ?_) (fun cdv A outer s H vs Q E hr h => ?_)
  · obtain ⟨l, v, wd, rs, rfl, _⟩ := h
    rfl
  · obtain ⟨l, v, wd, rs, rfl, st, hR, sp, w2, w4, ne, l9, q⟩ := h
    have nd := scLk.nd
    have big : (1000 : Nat) < sizeLine := by decide
    have hu : (A.deeper (envOfC (Str.ofString "_law_check") (defScope sLk) s.heap.objs.size f cdv)).units + 1 < cLine := by
      have h := hr.units
      omega
    refine ⟨_, pss_cons (ps_par (i := 2) (j := 3) rfl nd rfl rfl (by decide) rfl rfl (pa_cons (pe_call GC hr (by rfl) DC.g DC.F.kp DC.b .nil pass0 (pa_cons (pv 1) (pa_cons pe_int (pa_cons pe_int pa_nil)))) (pa_cons (pe_call GH hr (by rfl) DH.g DH.F.kp DH.b .nil passL (pa_cons (pv 1) (pa_cons pe_int (pa_cons pe_int pa_nil)))) pa_nil)) (by rfl))
      (pss_cons (ps_if (PW.pt (pw_or (pt_cmpR (r := rEqP K not) (op_neP hr.units) (pv 2) (pe_call GC hr (by rfl) DC.g DC.F.kp DC.b .nil pass0 (pa_cons (pe_call GT hr (by rfl) DT.g DT.F.kp DT.b .nil pass0 (pa_cons (pv 0) (pa_cons (pv 1) pa_nil))) (pa_cons pe_int (pa_cons pe_int pa_nil)))) (by rfl))
          (pw_or1 (pt_cmpR (r := rEqP K not) (op_neP hr.units) (pv 2) (pe_call GC hr (by rfl) DC.g DC.F.kp DC.b .nil pass0 (pa_cons (pv 1) (pa_cons pe_int (pa_cons pe_int pa_nil)))) (by rfl))))) (pss_one (ps_ret pe_bl)) pss_nil)
      (pss_cons (ps_if (pt_cmpR (r := rEqP K not) (op_neP hr.units) (pe_callTy call_tuple_of (by rfl) B.tuple (by decide +kernel) (pa_cons (pe_lc (own := [("row", 6), ("price", 8)]) (g := gTup K 2 (gCons (gName 6) (gCons (gName 8) gNil))) rfl nd (pi_zipN (by rfl) B.zip (pa_cons (pv 1) (pa_cons (pv 2) pa_nil))) (blkOk_by (N := NLk) (sc := defScope sLk) (by decide +kernel))
            (fun _ _ _ _ _ => pg_tup (by rfl) (pgs_cons (pg_name (i := 6) nd rfl (Or.inl rfl)) (pgs_cons (pg_name (i := 8) nd rfl (Or.inl rfl)) pgs_nil))) (fun _ _ _ _ _ => pts_one (pt_cmpR op_eq (pv 8) pe_int (nomark _))) (fun _ _ _ _ _ => pe_ix (r := rIxT K) ix_tup (pv 6) pe_int (fun _ _ => rfl))) pa_nil)) (pv 3) (by rfl)) (pss_one (ps_ret pe_bl)) pss_nil)
      (pss_cons (ps_set (i := 4) nd rfl (.inl rfl) (pe_callTy call_tuple_of (by rfl) B.tuple (by decide +kernel) (pa_cons (pe_call GP hr (by rfl) DP.g DP.F.kp DP.b .nil pass0 (pa_cons (pv 0) (pa_cons (pv 1) (pa_cons pe_int pa_nil)))) pa_nil)))
      (pss_cons (ps_set (i := 5) nd rfl (.inr rfl) (pe_callTy (call_dictP rfl) (by rfl) B.dict (by decide +kernel) (pa_cons (pe_lc (own := [("row", 6), ("price", 8)]) (g := gTup K 2 (gCons (gName 6) (gCons (gName 8) gNil))) rfl nd (pi_zipN (by rfl) B.zip (pa_cons (pv 1) (pa_cons (pv 2) pa_nil))) (blkOk_by (N := NLk) (sc := defScope sLk) (by decide +kernel))
            (fun _ _ _ _ _ => pg_tup (by rfl) (pgs_cons (pg_name (i := 6) nd rfl (Or.inl rfl)) (pgs_cons (pg_name (i := 8) nd rfl (Or.inl rfl)) pgs_nil))) (fun _ _ _ _ _ => pts_nil) (fun _ _ _ _ _ => pe_tup (pa_cons (pe_ix (r := rIxT K) ix_tup (pv 6) pe_int (fun _ _ => rfl)) (pa_cons (pv 8) pa_nil)))) pa_nil)))
      (pss_cons (ps_if (pt_cmpR (r := rEqP K not) (op_neP hr.units) (pe_lc (own := [("row", 6), ("price", 8)]) (g := gTup K 2 (gCons (gName 6) (gCons (gName 8) gNil))) rfl nd (pi_zipN (by rfl) B.zip (pa_cons (pv 4) (pa_cons (pe_call GC hr (by rfl) DC.g DC.F.kp DC.b .nil pass0 (pa_cons (pv 4) (pa_cons pe_int (pa_cons pe_int pa_nil)))) pa_nil))) (blkOk_by (N := NLk) (sc := defScope sLk) (by decide +kernel))
            (fun _ _ _ _ _ => pg_tup (by rfl) (pgs_cons (pg_name (i := 6) nd rfl (Or.inl rfl)) (pgs_cons (pg_name (i := 8) nd rfl (Or.inl rfl)) pgs_nil))) (fun _ _ _ _ _ => pts_one (pt_cmpR op_gt (pv 8) (pe_dget hu (pv 5) (pe_ix (r := rIxT K) ix_tup (pv 6) pe_int (fun _ _ => rfl)) (fun _ _ => rfl)) (by rfl))) (fun _ _ _ _ _ => pe_int)) (pe_lst pa_nil) (nomark _)) (pss_one (ps_ret pe_bl)) pss_nil)
      (pss_cons (ps_for PassesOwn.never rfl (pi_tup (pv 1)) (pg_name (i := 6) nd rfl (.inl rfl))
        (pss_one (ps_for PassesOwn.never rfl (pi_range1 (by rfl) B.range (pa_cons pe_int pa_nil)) (pg_name (i := 7) nd rfl (.inl rfl))
          (pss_one (ps_if (pt_not (pt_val (pe_call GE hr (by rfl) DE.g DE.F.kp DE.b .nil pass0 (pa_cons (pv 0) (pa_cons (pv 1) (pa_cons (pe_ix (r := rIxT K) ix_tup (pv 6) pe_int (fun _ _ => rfl)) pa_nil)))))) (pss_one (ps_ret pe_bl)) pss_nil)))))
      (pss_one (ps_ret pe_bl)))))))), ?_⟩
    have w1 : 1 ≤ wd := by omega
    have l60 : rs.length ≤ 60 := by omega
    have gd := GdR.of (i := 0) (j := 1) sp w1 w4 l60 (by decide) (by omega) (by decide) (by omega)
    have gd2 := GdR.of (i := 1) (j := 0) sp w1 w4 l60 (by decide) (by omega) (by decide) (by omega)
    obtain ⟨ta, xs, rfl, nta, eta, hx⟩ := dx_tupOf hR
    have lx := hx.len
    rw [List.length_map] at lx
    have hR0 := hR.up hid_same
    -- the costs and the corners
    refine ⟨.ref ta, rfl, .ref ta, wd, rs, 0, 1, rfl, hR0, sp, w1, w4, l60, by decide, by omega, by decide, by omega, by decide, fun H1 p1 s1 n1 e1 => ⟨.ref ta, rfl, ?_⟩⟩
    refine hn_args (sp := spHN RA C) (v := V.ref ta) (i := 0) (j := 1) ?_
    refine hn_law sp w1 w4 l60 (hR0.up s1) (by decide) (by omega) (by decide) (by omega) (by decide) fun H2 p2 s2 h2 => ⟨_, _, rfl, ?_⟩
    change tSeq _ _ _ ([some (.ref l), some (.ref ta), some (.ref p1), some (.ref p2), none, none, none, none, none] : L2.St) H2
    have s02 := s1.trans s2
    have st2 := st.same s02
    have k02 : Keep l H H2 := Keep.of s02
    have hR2 := hR.up k02.same
    have e12 := s2 _ _ e1
    have np1 : p1 ≠ l := st.ne n1
    obtain ⟨a2, ks, e0, ep2, hk⟩ := dx_tup' h2
    cases e0
    have ek := vals_strsD hk
    subst ek
    have np2 : p2 ≠ l := fun z => by
      obtain ⟨b1, b2, b3, e⟩ := st2
      rw [z, e] at ep2
      cases ep2
    -- the transformed rows
    refine ⟨.ref p1, rfl, .ref l, rfl, .ref ta, rfl, l, .ref ta, wd, rs, rfl, st2, hR2, sp, w2, w4, ne, l9, fun H3 p3 es a b c e t u k3 st3 hD hT spe he => ?_⟩
    have le : es.length = rs.length := Paired.length hT
    have gde := GdR.of (i := 0) (j := 1) spe w1 w4 (by omega) (by decide) (by omega) (by decide) (by omega)
    refine ⟨.ref p3, wd, es, 0, 1, rfl, he.up hid_same, spe, w1, w4, by omega, by decide, by omega, by decide, by omega, by decide, fun H4 p4 s4 _ e4 => ?_⟩
    have e14 := s4 _ _ (k3 _ _ np1 e12)
    rw [costs_lin hD hT gde gd] at e4
    refine same_ints (f := not) e14 e4 ⟨_, rfl, iteF ?_⟩
    have k04 := (k02.trans k3).trans (Keep.of s4)
    have st4 := st3.same s4
    have hR4 := (hR.up k04.same).up hid_same
    refine ⟨.ref p1, rfl, .ref ta, rfl, .ref ta, wd, rs, 1, 0, rfl, hR4, sp, w1, w4, l60, by decide, by omega, by decide, by omega, by decide, fun H5 p5 s5 _ e5 => ?_⟩
    rw [costs_swap gd2 gd] at e5
    have e15 := s5 _ _ e14
    refine same_ints (f := not) e15 e5 ⟨_, rfl, iteF ?_⟩
    have k05 := k04.trans (Keep.of s5)
    have st5 := st4.same s5
    have ep25 := (Keep.of s5) _ _ np2 (s4 _ _ (k3 _ _ np2 ep2))
    have hx5 := (hx.up k05.same).up hid_same
    have eta5 := k05 _ _ nta eta
    clear hT hD he spe gde e4 e5 le h2 hk
    -- the rows of cost 0
    refine ⟨.ref ta, rfl, .ref p1, rfl, ta, p1, xs, _, rfl, .inl (.inl eta5), .inl (.inl e15), fun L nL => ?_⟩
    refine lc_genZ (as := rs) (fun e => if decide (minC 0 1 rs e = 0) = true then some e.nm else none) (fun _ y n => y = .str n) (fun _ _ _ _ _ h => h) (walk_zipN (K := K) lx (by rw [List.length_map, List.length_map])) nL (fun G sG => ⟨.inl (.inl (sG _ _ eta5)), .inl (.inl (sG _ _ e15))⟩) (by omega) (fun m x y e T G hxm hym hem sG eT Pt Pf kt kf => ?_) (fun G us sG eL hp _ => ?_)
    · obtain ⟨d, ed, hdx⟩ := hx5.get' hxm
      rw [List.getElem?_map, hem] at ed
      cases ed
      rw [List.getElem?_map, List.getElem?_map, hem] at hym
      cases hym
      obtain ⟨b, z, zs, rfl, eb, _⟩ := row_dx (hdx.up sG)
      refine ⟨T, _, rfl, .inl (.inl eT), rfl, _, _, rfl, _, _, rfl, rfl, ?_⟩
      refine ⟨rfl, .int (minC 0 1 rs e), rfl, rfl, _, rfl, ?_⟩
      by_cases y : minC 0 1 rs e = 0
      · exact ite_to (by rw [y]; rfl) ⟨.ref b, rfl, b, _, 0, .str e.nm, rfl, rfl, .inl (.inl eb), rfl, kt _ (by rw [if_pos (decide_eq_true y)]) _ _ (Same.refl G) rfl⟩
      · exact ite_not (decide_eq_false fun z => y (V.int.inj z)) (kf (by rw [if_neg (by simp [y])]) _ (Same.refl G))
    rw [fm_if, List.filter_congr (q := lawT 0 1 rs) (fun e he => minC_zero gd he)] at hp
    have eus := strs_of (H := G) hp
    subst eus
    clear hp
    refine ⟨L, _, rfl, .inl ⟨.inl (.inl eL), fun p6 n6 => ?_⟩⟩
    have s6 := sG.trans (same_new (o := .tup (((rs.filter (lawT 0 1 rs)).map (fun r : Rec => r.nm)).map V.str)) n6)
    have e6 : (upd G p6 (.tup (((rs.filter (lawT 0 1 rs)).map (fun r : Rec => r.nm)).map V.str))) p6 = some (.tup (((rs.filter (lawT 0 1 rs)).map (fun r : Rec => r.nm)).map V.str)) := upd_same
    generalize upd G p6 (.tup (((rs.filter (lawT 0 1 rs)).map (fun r : Rec => r.nm)).map V.str)) = H6 at s6 e6 ⊢
    refine ⟨.ref p2, rfl, same_strs (f := not) (ns := namesL 0 1 rs) (gt_mk e6) (gt_mk (s6 _ _ ep25)) ⟨_, rfl, iteF ?_⟩⟩
    clear eL nL n6 e6
    -- smaller
    have k06 := k05.trans (Keep.of s6)
    have st6 := st5.same s6
    have e16 := s6 _ _ e15
    refine ⟨.ref l, rfl, .ref ta, rfl, l, .ref ta, rs, 4, rfl, st6, hR.up k06.same, l60, by decide, by decide, fun H7 p7 ys ss k7 st7 np7 _ hss e7 h7 => ⟨p7, ys, rfl, .inl ⟨.inl (.inl e7), fun p8 n8 => ?_⟩⟩⟩
    have s8 := same_new (o := .tup ys) n8
    have h8 : Dx (upd H7 p8 (.tup ys)) (.ref p8) (.tuple (ss.map encR)) := .tup upd_same ((h7.up hid_same).up s8)
    have np8 : p8 ≠ l := st7.ne n8
    have k08 := (k06.trans k7).trans (Keep.of s8)
    have st8 := st7.same s8
    have e18 := s8 _ _ (k7 _ _ np1 e16)
    generalize upd H7 p8 (.tup ys) = H8 at s8 h8 k08 st8 e18 ⊢
    refine gn_to (σ' := ([some (.ref l), some (.ref ta), some (.ref p1), some (.ref p2), some (.ref p8), none, none, none, none] : L2.St)) rfl ?_
    try dsimp only
    have hx8 := (hx.up k08.same).up hid_same
    have eta8 := k08 _ _ nta eta
    -- dear
    refine ⟨.ref ta, rfl, .ref p1, rfl, ta, p1, xs, _, rfl, .inl (.inl eta8), .inl (.inl e18), fun M nM => ?_⟩
    refine lc_genZ (as := rs) (fun e => some e) (fun H y e => ∃ t, y = .ref t ∧ H t = some (.tup [.str e.nm, .int (minC 0 1 rs e)])) (fun _ _ _ _ k h => by obtain ⟨t, e1, e2⟩ := h; exact ⟨t, e1, k _ _ e2⟩) (walk_zipN (K := K) lx (by rw [List.length_map, List.length_map])) nM (fun G sG => ⟨.inl (.inl (sG _ _ eta8)), .inl (.inl (sG _ _ e18))⟩) (by omega) (fun m x y e T G hxm hym hem sG eT Pt Pf kt kf => ?_) (fun G us sG eM hp _ => ?_)
    · obtain ⟨d, ed, hdx⟩ := hx8.get' hxm
      rw [List.getElem?_map, hem] at ed
      cases ed
      rw [List.getElem?_map, List.getElem?_map, hem] at hym
      cases hym
      obtain ⟨b, z, zs, rfl, eb, _⟩ := row_dx (hdx.up sG)
      refine ⟨T, _, rfl, .inl (.inl eT), rfl, _, _, rfl, _, _, rfl, rfl, ?_⟩
      refine ⟨rfl, .ref b, rfl, b, _, 0, .str e.nm, rfl, rfl, .inl (.inl eb), rfl, .int (minC 0 1 rs e), rfl, by show 2 ≤ sizeLine; omega, fun c nc => ?_⟩
      exact kt _ rfl _ _ (same_new nc) ⟨c, rfl, upd_same⟩
    rw [show rs.filterMap (fun e => some e) = rs by simp] at hp
    obtain ⟨ps, rfl, hps⟩ := refs_ex (K := K) hp
    refine ⟨M, ps, _, rfl, .inl (.inl eM), hps, fun pd npd => ?_⟩
    have s9 := sG.trans (same_new (o := .dK (mergeK [] (rs.map fun e : Rec => ((Sum.inr e.nm : L2.Key), V.int (minC 0 1 rs e))))) npd)
    have eD : (upd G pd (.dK (mergeK [] (rs.map fun e : Rec => ((Sum.inr e.nm : L2.Key), V.int (minC 0 1 rs e)))))) pd = some (.dK (mergeK [] (rs.map fun e : Rec => ((Sum.inr e.nm : L2.Key), V.int (minC 0 1 rs e))))) := upd_same
    have tab : ∀ e ∈ rs, valV (mergeK [] (rs.map fun e : Rec => ((Sum.inr e.nm : L2.Key), V.int (minC 0 1 rs e)))) (Sum.inr e.nm) = some (.int (minC 0 1 rs e)) := fun e he => merge_val (f := fun e => V.int (minC 0 1 rs e)) rs [] sp.nd e he
    generalize mergeK [] (rs.map fun e : Rec => ((Sum.inr e.nm : L2.Key), V.int (minC 0 1 rs e))) = kvs at s9 eD tab ⊢
    generalize upd G pd (.dK kvs) = H9 at s9 eD ⊢
    clear hp hps eM nM npd
    refine gn_to (σ' := ([some (.ref l), some (.ref ta), some (.ref p1), some (.ref p2), some (.ref p8), some (.ref pd), none, none, none] : L2.St)) rfl ?_
    try dsimp only
    have h9 := h8.up s9
    have sps : RsP wd ss := sp.sub hss
    have lss := hss.length_le
    refine ⟨.ref p8, rfl, .ref p8, rfl, .ref p8, wd, ss, 0, 1, rfl, h9, sps, w1, w4, by omega, by decide, by omega, by decide, by omega, by decide, fun HA pa sA _ eA => ?_⟩
    obtain ⟨c8, xs8, e0, ec8, hx9⟩ := dx_tup' (h9.up sA)
    cases e0
    have lx8 := hx9.len
    rw [List.length_map] at lx8
    refine ⟨p8, pa, xs8, _, rfl, .inl (.inl ec8), .inl (.inl eA), fun N nN => ?_⟩
    refine lc_genZ (as := ss) (fun _ => (none : Option Int)) (fun _ y n => y = .int n) (fun _ _ _ _ _ h => h) (walk_zipN (K := K) lx8 (by rw [List.length_map, List.length_map])) nN (fun G sG => ⟨.inl (.inl (sG _ _ ec8)), .inl (.inl (sG _ _ eA))⟩) (by omega) (fun m x y e T G hxm hym hem sG eT Pt Pf kt kf => ?_) (fun G us sG eN hp _ => ?_)
    · obtain ⟨d, ed, hdx⟩ := hx9.get' hxm
      rw [List.getElem?_map, hem] at ed
      cases ed
      rw [List.getElem?_map, List.getElem?_map, hem] at hym
      cases hym
      have her := hss.subset (List.mem_of_getElem? hem)
      obtain ⟨b, z, zs, rfl, eb, _⟩ := row_dx (hdx.up sG)
      refine ⟨T, _, rfl, .inl (.inl eT), rfl, _, _, rfl, _, _, rfl, rfl, ?_⟩
      refine ⟨rfl, .int (minC 0 1 ss e), rfl, .ref pd, rfl, .ref b, rfl, b, _, 0, .str e.nm, rfl, rfl, .inl (.inl eb), rfl, pd, .int (minC 0 1 rs e), rfl, by rw [← tab e her]; exact DGet.k (k := (Sum.inr e.nm : L2.Key)) (sG _ _ (sA _ _ eD)), _, _, rfl, rfl, _, rfl, ?_⟩
      have := minC_sub gd hss her
      exact ite_not (decide_eq_false (by omega)) (kf rfl _ (Same.refl G))
    have eus : us = [] := by
      rw [show ss.filterMap (fun _ => (none : Option Int)) = [] by simp] at hp
      cases hp
      rfl
    subst eus
    clear hp
    refine ⟨by show 0 ≤ sizeLine; omega, fun pz npz => ?_⟩
    have sz := same_new (o := .lst []) npz
    refine same_ints (f := not) (xs := []) (sz _ _ eN) upd_same ⟨_, rfl, iteF ?_⟩
    have k0Z := ((k08.trans (Keep.of s9)).trans (Keep.of sA)).trans (Keep.of (sG.trans sz))
    have stZ := ((st8.same s9).same sA).same (sG.trans sz)
    generalize upd G pz (.lst []) = HZ at k0Z stZ ⊢
    clear sz eN nN npz
    -- the deletions
    have hRZ := hR.up k0Z.same
    have hxZ := hx.up k0Z.same
    have etaZ := k0Z _ _ nta eta
    refine ⟨.ref ta, rfl, ta, rfl, ⟨_, .inl (.inl etaZ)⟩, ?_⟩
    refine for_tup (K := K) (xs := xs) (fun m σ F => Keep l HZ F ∧ StO F l ∧ ∃ o6 o7 : Option V, σ = [some (.ref l), some (.ref ta), some (.ref p1), some (.ref p2), some (.ref p8), some (.ref pd), o6, o7, none])
      ⟨Keep.refl l HZ, stZ, none, none, rfl⟩ (fun m σ F _ hF => .inl (.inl (hF.1 _ _ nta etaZ))) (fun m x σ F hxm hF => ?_) (fun σ F hF => ?_)
    · obtain ⟨kF, stF, o6, o7, rfl⟩ := hF
      obtain ⟨d, ed, hdx⟩ := hxZ.get' hxm
      rw [List.getElem?_map] at ed
      obtain ⟨r, er, rfl⟩ := Option.map_eq_some_iff.mp ed
      have hmr := List.mem_of_getElem? er
      refine ⟨_, rfl, by decide, by decide, ?_⟩
      refine for_range (lo := 0) (n := Int.toNat _) (fun i σ G => Keep l HZ G ∧ StO G l ∧ ∃ o7, σ = [some (.ref l), some (.ref ta), some (.ref p1), some (.ref p2), some (.ref p8), some (.ref pd), some x, o7, none]) ⟨kF, stF, o7, rfl⟩ (fun i σ G hi hp => ?_) (fun σ G hp => ?_)
      · obtain ⟨kG, stG, o7, rfl⟩ := hp
        have hxG := hdx.up kG.same
        obtain ⟨b, z, zs, rfl, eb, _⟩ := row_dx hxG
        obtain ⟨nb, eb⟩ := hid_some eb
        refine ⟨.ref l, rfl, .ref ta, rfl, .ref b, rfl, b, _, 0, .str r.nm, rfl, rfl, .inl (.inl eb), rfl, l, .ref ta, wd, rs, r, rfl, stG, hRZ.up kG.same, sp, w2, w4, hmr, l9, fun F2 k2 st2 => ⟨_, rfl, iteF ?_⟩⟩
        exact ⟨kG.trans k2, st2, _, rfl⟩
      · obtain ⟨kG, stG, o7, rfl⟩ := hp
        exact ⟨kG, stG, _, _, rfl⟩
    · obtain ⟨kF, stF, o6, o7, rfl⟩ := hF
      exact q F (k0Z.trans kF) stF
end
end I1

set_option maxRecDepth 100000
set_option maxHeartbeats 4000000
namespace I1
open PySem PySem.Spec PyProof.Rows L2 KX
/-! ### law -/
abbrev sLaw : Stmt := topS 64
abbrev NLw : List Str := ["script", "k", "stream", "turn_v"]
theorem scLaw : FnScope NLw ["script"] (defScope sLaw) := ⟨rfl, rfl, rfl, by decide +kernel, rfl, by decide +kernel, by decide +kernel⟩
def spLaw (K : PySem.W.Frag) : Sp := fun vs H Q _ => ∃ (a : Addr) (ns : List Int), vs = [.ref a] ∧ SqL K H a (ns.map V.int) ∧ ns.length ≤ 63 ∧ ∀ H', Q (.bl true) H'
section
variable {P : Program} {w : World} {K : PySem.W.Frag} {mg : Str → Option Value} {base : Heap}
theorem ok_law {k : Nat} {f fS fD fP fC : Addr} {fd gS gD gP gC : FuncData} (B : Bl mg) (F : Fun K "law" "law" sLaw f fd) (DS : Df K mg "_law_stream" sStream ["script", "at"] fS gS) (DD : Df K mg "_law_draw" sDraw ["stream", "total"] fD gD) (DP : Df K mg "_law_point_rowset" sPr ["stream", "many", "wide"] fP gP)
    (DC : Df K mg "_law_check" sLk ["stream", "data"] fC gC) (GS : FnOk P w K mg base CX0 k fS gS ["script", "at"] (spStream K)) (GD : FnOk P w K mg base CX0 k fD gD ["stream", "total"] spDraw)
    (GP : FnOk P w K mg base CX0 k fP gP ["stream", "many", "wide"] spPr) (GC : FnOk P w K mg base CX0 k fC gC ["stream", "data"] spLk) : FnG P w K mg base CX0 (k + 1) f fd ["script"] (spLaw K) := by
  refine okG F scLaw (fun vs H Q E h => ?_) (fun cdv A outer s H vs Q E hgd hr h => ?_)
  · obtain ⟨a, ns, rfl, _⟩ := h
    rfl
  · obtain ⟨a, ns, rfl, hS, hl, q⟩ := h
    have nd := scLaw.nd
    have big : (1000 : Nat) < sizeLine := by decide
    refine ⟨_, pss_cons (ps_for PassesOwn.never rfl (pi_range1 (by rfl) B.range (pa_cons (pe_callB (call_max2 rfl) (by rfl) B.max (by decide +kernel) (pa_cons pe_int (pa_cons (pe_callB (call_min2 rfl) (by rfl) B.min (by decide +kernel)
          (pa_cons pe_int (pa_cons (pe_callB call_len_seq (by rfl) B.len PySem.boot_len (pa_cons (pv 0) pa_nil)) pa_nil))) pa_nil))) pa_nil)) (pg_name (i := 1) nd rfl (.inl rfl))
        (pss_cons (ps_set (i := 2) nd rfl (.inl rfl) (pe_call GS hr (by rfl) DS.g DS.F.kp DS.b .nil pass0 (pa_cons (pv 0) (pa_cons (pv 1) pa_nil))))
        (pss_one (ps_for PassesOwn.never rfl (pi_range1 (by rfl) B.range (pa_cons pe_int pa_nil)) (pg_name (i := 3) nd rfl (.inl rfl))
          (pss_one (ps_if (pt_not (pt_val (pe_call GC hr (by rfl) DC.g DC.F.kp DC.b .nil pass0 (pa_cons (pv 2) (pa_cons (pe_call GP hr (by rfl) DP.g DP.F.kp DP.b .nil pass0 (pa_cons (pv 2) (pa_cons (pe_op op_add pe_int (pe_call GD hr (by rfl) DD.g DD.F.kp DD.b .nil pass0 (pa_cons (pv 2) (pa_cons pe_int pa_nil))))
            (pa_cons (pe_op op_add pe_int (pe_call GD hr (by rfl) DD.g DD.F.kp DD.b .nil pass0 (pa_cons (pv 2) (pa_cons pe_int pa_nil)))) pa_nil)))) pa_nil))))) (pss_one (ps_ret pe_bl)) pss_nil))))))
      (pss_one (ps_ret pe_bl)), ?_⟩
    refine ⟨.ref a, rfl, a, _, rfl, .inl hS, 3, _, rfl, 1, _, rfl, ?_⟩
    have hj : ∃ j : Nat, j ≤ 1000 ∧ (if (if ((ns.map V.int).length : Int) < 3 then ((ns.map V.int).length : Int) else 3) > 1 then (if ((ns.map V.int).length : Int) < 3 then ((ns.map V.int).length : Int) else 3) else 1) = (j : Int) := by
      rw [List.length_map]
      by_cases h1 : (ns.length : Int) < 3
      · rw [if_pos h1]
        by_cases h2 : (ns.length : Int) > 1
        · rw [if_pos h2]
          exact ⟨ns.length, by omega, rfl⟩
        · rw [if_neg h2]
          exact ⟨1, by decide, rfl⟩
      · rw [if_neg h1]
        exact ⟨3, by decide, rfl⟩
    obtain ⟨j, hj1, ej⟩ := hj
    refine ⟨_, rfl, ?_, ?_, ?_⟩
    · show (-(2 ^ 62) : Int) ≤ _
      rw [ej]
      omega
    · show (_ : Int) < 2 ^ 62
      rw [ej]
      omega
    refine for_range (lo := 0) (n := Int.toNat _) (fun i σ G => Same H G ∧ ∃ o1 o2 o3, σ = [some (.ref a), o1, o2, o3]) ⟨Same.refl H, none, none, none, rfl⟩ (fun i σ G hi hp => ?_) (fun σ G hp => ?_)
    · obtain ⟨sG, o1, o2, o3, rfl⟩ := hp
      have hi3 : i < j := by
        have h := hi
        rw [show Int.toNat _ = j from congrArg Int.toNat ej] at h
        exact h
      refine ⟨.ref a, rfl, .int (0 + (i : Int)), rfl, a, ns, 0 + (i : Int), rfl, sG.seq hS, by omega, by omega, fun H1 l s1 nl st1 => ?_⟩
      refine gn_to (σ' := ([some (.ref a), some (.int (0 + (i : Int))), some (.ref l), o3] : L2.St)) rfl ?_
      try dsimp only
      refine ⟨_, rfl, by decide, by decide, ?_⟩
      refine for_range (lo := 0) (n := Int.toNat _) (fun i2 σ F => Keep l H1 F ∧ StO F l ∧ ∃ o3, σ = [some (.ref a), some (.int (0 + (i : Int))), some (.ref l), o3]) ⟨Keep.refl l H1, st1, o3, rfl⟩ (fun i2 σ F hi2 hp => ?_) (fun σ F hp => ?_)
      · obtain ⟨kF, stF, o3, rfl⟩ := hp
        refine ⟨.ref l, rfl, .ref l, rfl, .ref l, rfl, l, 9, rfl, stF, by decide, by decide, fun H2 m k2 st2 m0 m9 => ⟨1, m, rfl, rfl, .ref l, rfl, l, 3, rfl, st2, by decide, by decide, fun H3 d k3 st3 d0 d3 => ⟨2, d, rfl, rfl, ?_⟩⟩⟩
        obtain ⟨nr, enr⟩ : ∃ nr : Nat, 1 + m = (nr : Int) := ⟨(1 + m).toNat, by omega⟩
        obtain ⟨wd, ewd⟩ : ∃ wd : Nat, 2 + d = (wd : Int) := ⟨(2 + d).toNat, by omega⟩
        refine ⟨l, nr, wd, by show [V.ref l, V.int (1 + m), V.int (2 + d)] = _; rw [enr, ewd], st3, by omega, by omega, by omega, fun H5 pd rs k5 st5 sp lrs hR => ?_⟩
        refine ⟨l, .ref pd, wd, rs, rfl, st5, hR, sp, by omega, by omega, ?_, by omega, fun F2 k6 st6 => ⟨_, rfl, iteF ?_⟩⟩
        · intro z
          rw [z] at lrs
          simp at lrs
          omega
        · exact ⟨(((kF.trans k2).trans k3).trans k5).trans k6, st6, _, rfl⟩
      · obtain ⟨kF, stF, o3, rfl⟩ := hp
        refine ⟨fun b o hb => ?_, _, _, _, rfl⟩
        have nb : b ≠ l := ne_of_none (sG b o hb) nl
        exact kF _ _ nb (s1 b o (sG b o hb))
    · obtain ⟨sG, o1, o2, o3, rfl⟩ := hp
      exact q G
end
end I1

set_option maxRecDepth 100000
set_option maxHeartbeats 8000000
namespace I1
open PySem PySem.Spec PyProof.Rows L2 KX
/-! ### what the top has written -/
theorem df_mk {K : PySem.W.Frag} {h : Heap} {mg : Str → Option Value} {x : String} {st : Stmt} {ps : List Str} {f : Addr} {oc : Value} {od an : Option Addr} {sl : Array (Option Value)} {kV doc pm cd ct : Value} (X : K.In h) (G : h.Ns mainGlobals mg)
    (a : PySem.W.nsIn K mainGlobals x = some (some (.ref f))) (l : K.lookup f = some ⟨oc, od, .func (PySem.W.fnOf x x (defArgs st) (defBody st) (defScope st) .none kV doc pm an cd ct), sl⟩) (c : PySem.W.codeIn K cd x = true)
    (k : PySem.W.keepIn K (.ref f) = true) (hb : ∀ (kV doc pm : Value) (an : Option Addr) (cdv ct : Value) (us : List Value), us.length = ps.length → bindArgs (PySem.W.fnOf x x (defArgs st) (defBody st) (defScope st) .none kV doc pm an cdv ct) ⟨us, []⟩ = pure (ps.zip us)) :
    Df K mg x st ps f (PySem.W.fnOf x x (defArgs st) (defBody st) (defScope st) .none kV doc pm an cd ct) :=
  ⟨fun_mk l c k, (fun_mk l c k).binds hb, PySem.W.mg_of X G a⟩
theorem all_mk {l : PySem.W.OpenLaw} {w : World} {K : PySem.W.Frag} {h : Heap} {mg : Str → Option Value} {fa : Addr} {C fI : Addr} {ocI : Value} {odI anI : Option Addr} {slI : Array (Option Value)} {kVI docI pmI cdI ctI : Value} {R U fU : Addr} {ocU : Value} {odU anU : Option Addr} {slU : Array (Option Value)} {kVU docU pmU cdU ctU : Value} (X : K.In h) (G : h.Ns mainGlobals mg) (hfa : mg "law" = some (.ref fa))
    {f0 : Addr} {oc0 : Value} {od0 an0 : Option Addr} {sl0 : Array (Option Value)} {kV0 doc0 pm0 cd0 ct0 : Value} (a0 : PySem.W.nsIn K mainGlobals "is_between" = some (some (.ref f0))) (l0 : K.lookup f0 = some ⟨oc0, od0, .func (PySem.W.fnOf "is_between" "is_between" (defArgs sBetween) (defBody sBetween) (defScope sBetween) .none kV0 doc0 pm0 an0 cd0 ct0), sl0⟩) (c0 : PySem.W.codeIn K cd0 "is_between" = true) (k0 : PySem.W.keepIn K (.ref f0) = true)
    {f1 : Addr} {oc1 : Value} {od1 an1 : Option Addr} {sl1 : Array (Option Value)} {kV1 doc1 pm1 cd1 ct1 : Value} (a1 : PySem.W.nsIn K mainGlobals "check_between" = some (some (.ref f1))) (l1 : K.lookup f1 = some ⟨oc1, od1, .func (PySem.W.fnOf "check_between" "check_between" (defArgs sCk) (defBody sCk) (defScope sCk) .none kV1 doc1 pm1 an1 cd1 ct1), sl1⟩) (c1 : PySem.W.codeIn K cd1 "check_between" = true) (k1 : PySem.W.keepIn K (.ref f1) = true)
    {f2 : Addr} {oc2 : Value} {od2 an2 : Option Addr} {sl2 : Array (Option Value)} {kV2 doc2 pm2 cd2 ct2 : Value} (a2 : PySem.W.nsIn K mainGlobals "check_columns" = some (some (.ref f2))) (l2 : K.lookup f2 = some ⟨oc2, od2, .func (PySem.W.fnOf "check_columns" "check_columns" (defArgs sCC) (defBody sCC) (defScope sCC) .none kV2 doc2 pm2 an2 cd2 ct2), sl2⟩) (c2 : PySem.W.codeIn K cd2 "check_columns" = true) (k2 : PySem.W.keepIn K (.ref f2) = true)
    {f3 : Addr} {oc3 : Value} {od3 an3 : Option Addr} {sl3 : Array (Option Value)} {kV3 doc3 pm3 cd3 ct3 : Value} (a3 : PySem.W.nsIn K mainGlobals "is_tuple_between" = some (some (.ref f3))) (l3 : K.lookup f3 = some ⟨oc3, od3, .func (PySem.W.fnOf "is_tuple_between" "is_tuple_between" (defArgs sTupB) (defBody sTupB) (defScope sTupB) .none kV3 doc3 pm3 an3 cd3 ct3), sl3⟩) (c3 : PySem.W.codeIn K cd3 "is_tuple_between" = true) (k3 : PySem.W.keepIn K (.ref f3) = true)
    {f4 : Addr} {oc4 : Value} {od4 an4 : Option Addr} {sl4 : Array (Option Value)} {kV4 doc4 pm4 cd4 ct4 : Value} (a4 : PySem.W.nsIn K mainGlobals "is_ascending" = some (some (.ref f4))) (l4 : K.lookup f4 = some ⟨oc4, od4, .func (PySem.W.fnOf "is_ascending" "is_ascending" (defArgs sAsc) (defBody sAsc) (defScope sAsc) .none kV4 doc4 pm4 an4 cd4 ct4), sl4⟩) (c4 : PySem.W.codeIn K cd4 "is_ascending" = true) (k4 : PySem.W.keepIn K (.ref f4) = true)
    {f5 : Addr} {oc5 : Value} {od5 an5 : Option Addr} {sl5 : Array (Option Value)} {kV5 doc5 pm5 cd5 ct5 : Value} (a5 : PySem.W.nsIn K mainGlobals "check_among" = some (some (.ref f5))) (l5 : K.lookup f5 = some ⟨oc5, od5, .func (PySem.W.fnOf "check_among" "check_among" (defArgs sAmg) (defBody sAmg) (defScope sAmg) .none kV5 doc5 pm5 an5 cd5 ct5), sl5⟩) (c5 : PySem.W.codeIn K cd5 "check_among" = true) (k5 : PySem.W.keepIn K (.ref f5) = true)
    {f6 : Addr} {oc6 : Value} {od6 an6 : Option Addr} {sl6 : Array (Option Value)} {kV6 doc6 pm6 cd6 ct6 : Value} (a6 : PySem.W.nsIn K mainGlobals "is_name" = some (some (.ref f6))) (l6 : K.lookup f6 = some ⟨oc6, od6, .func (PySem.W.fnOf "is_name" "is_name" (defArgs sName) (defBody sName) (defScope sName) .none kV6 doc6 pm6 an6 cd6 ct6), sl6⟩) (c6 : PySem.W.codeIn K cd6 "is_name" = true) (k6 : PySem.W.keepIn K (.ref f6) = true)
    {f7 : Addr} {oc7 : Value} {od7 an7 : Option Addr} {sl7 : Array (Option Value)} {kV7 doc7 pm7 cd7 ct7 : Value} (a7 : PySem.W.nsIn K mainGlobals "is_row" = some (some (.ref f7))) (l7 : K.lookup f7 = some ⟨oc7, od7, .func (PySem.W.fnOf "is_row" "is_row" (defArgs sRow) (defBody sRow) (defScope sRow) .none kV7 doc7 pm7 an7 cd7 ct7), sl7⟩) (c7 : PySem.W.codeIn K cd7 "is_row" = true) (k7 : PySem.W.keepIn K (.ref f7) = true)
    {f8 : Addr} {oc8 : Value} {od8 an8 : Option Addr} {sl8 : Array (Option Value)} {kV8 doc8 pm8 cd8 ct8 : Value} (a8 : PySem.W.nsIn K mainGlobals "are_row_values" = some (some (.ref f8))) (l8 : K.lookup f8 = some ⟨oc8, od8, .func (PySem.W.fnOf "are_row_values" "are_row_values" (defArgs sVals) (defBody sVals) (defScope sVals) .none kV8 doc8 pm8 an8 cd8 ct8), sl8⟩) (c8 : PySem.W.codeIn K cd8 "are_row_values" = true) (k8 : PySem.W.keepIn K (.ref f8) = true)
    {f9 : Addr} {oc9 : Value} {od9 an9 : Option Addr} {sl9 : Array (Option Value)} {kV9 doc9 pm9 cd9 ct9 : Value} (a9 : PySem.W.nsIn K mainGlobals "are_rows_of_one_width" = some (some (.ref f9))) (l9 : K.lookup f9 = some ⟨oc9, od9, .func (PySem.W.fnOf "are_rows_of_one_width" "are_rows_of_one_width" (defArgs sOW) (defBody sOW) (defScope sOW) .none kV9 doc9 pm9 an9 cd9 ct9), sl9⟩) (c9 : PySem.W.codeIn K cd9 "are_rows_of_one_width" = true) (k9 : PySem.W.keepIn K (.ref f9) = true)
    {f10 : Addr} {oc10 : Value} {od10 an10 : Option Addr} {sl10 : Array (Option Value)} {kV10 doc10 pm10 cd10 ct10 : Value} (a10 : PySem.W.nsIn K mainGlobals "have_one_width" = some (some (.ref f10))) (l10 : K.lookup f10 = some ⟨oc10, od10, .func (PySem.W.fnOf "have_one_width" "have_one_width" (defArgs sHW) (defBody sHW) (defScope sHW) .none kV10 doc10 pm10 an10 cd10 ct10), sl10⟩) (c10 : PySem.W.codeIn K cd10 "have_one_width" = true) (k10 : PySem.W.keepIn K (.ref f10) = true)
    {f11 : Addr} {oc11 : Value} {od11 an11 : Option Addr} {sl11 : Array (Option Value)} {kV11 doc11 pm11 cd11 ct11 : Value} (a11 : PySem.W.nsIn K mainGlobals "width_of" = some (some (.ref f11))) (l11 : K.lookup f11 = some ⟨oc11, od11, .func (PySem.W.fnOf "width_of" "width_of" (defArgs sWO) (defBody sWO) (defScope sWO) .none kV11 doc11 pm11 an11 cd11 ct11), sl11⟩) (c11 : PySem.W.codeIn K cd11 "width_of" = true) (k11 : PySem.W.keepIn K (.ref f11) = true)
    {f12 : Addr} {oc12 : Value} {od12 an12 : Option Addr} {sl12 : Array (Option Value)} {kV12 doc12 pm12 cd12 ct12 : Value} (a12 : PySem.W.nsIn K mainGlobals "is_rowset" = some (some (.ref f12))) (l12 : K.lookup f12 = some ⟨oc12, od12, .func (PySem.W.fnOf "is_rowset" "is_rowset" (defArgs sIR) (defBody sIR) (defScope sIR) .none kV12 doc12 pm12 an12 cd12 ct12), sl12⟩) (c12 : PySem.W.codeIn K cd12 "is_rowset" = true) (k12 : PySem.W.keepIn K (.ref f12) = true)
    {f13 : Addr} {oc13 : Value} {od13 an13 : Option Addr} {sl13 : Array (Option Value)} {kV13 doc13 pm13 cd13 ct13 : Value} (a13 : PySem.W.nsIn K mainGlobals "names_of" = some (some (.ref f13))) (l13 : K.lookup f13 = some ⟨oc13, od13, .func (PySem.W.fnOf "names_of" "names_of" (defArgs sNO) (defBody sNO) (defScope sNO) .none kV13 doc13 pm13 an13 cd13 ct13), sl13⟩) (c13 : PySem.W.codeIn K cd13 "names_of" = true) (k13 : PySem.W.keepIn K (.ref f13) = true)
    {f14 : Addr} {oc14 : Value} {od14 an14 : Option Addr} {sl14 : Array (Option Value)} {kV14 doc14 pm14 cd14 ct14 : Value} (a14 : PySem.W.nsIn K mainGlobals "sorted_names_of" = some (some (.ref f14))) (l14 : K.lookup f14 = some ⟨oc14, od14, .func (PySem.W.fnOf "sorted_names_of" "sorted_names_of" (defArgs sSNO) (defBody sSNO) (defScope sSNO) .none kV14 doc14 pm14 an14 cd14 ct14), sl14⟩) (c14 : PySem.W.codeIn K cd14 "sorted_names_of" = true) (k14 : PySem.W.keepIn K (.ref f14) = true)
    {f15 : Addr} {oc15 : Value} {od15 an15 : Option Addr} {sl15 : Array (Option Value)} {kV15 doc15 pm15 cd15 ct15 : Value} (a15 : PySem.W.nsIn K mainGlobals "cost_of" = some (some (.ref f15))) (l15 : K.lookup f15 = some ⟨oc15, od15, .func (PySem.W.fnOf "cost_of" "cost_of" (defArgs sCO) (defBody sCO) (defScope sCO) .none kV15 doc15 pm15 an15 cd15 ct15), sl15⟩) (c15 : PySem.W.codeIn K cd15 "cost_of" = true) (k15 : PySem.W.keepIn K (.ref f15) = true)
    {f16 : Addr} {oc16 : Value} {od16 an16 : Option Addr} {sl16 : Array (Option Value)} {kV16 doc16 pm16 cd16 ct16 : Value} (a16 : PySem.W.nsIn K mainGlobals "check_rowset" = some (some (.ref f16))) (l16 : K.lookup f16 = some ⟨oc16, od16, .func (PySem.W.fnOf "check_rowset" "check_rowset" (defArgs sCR) (defBody sCR) (defScope sCR) .none kV16 doc16 pm16 an16 cd16 ct16), sl16⟩) (c16 : PySem.W.codeIn K cd16 "check_rowset" = true) (k16 : PySem.W.keepIn K (.ref f16) = true)
    {f17 : Addr} {oc17 : Value} {od17 an17 : Option Addr} {sl17 : Array (Option Value)} {kV17 doc17 pm17 cd17 ct17 : Value} (a17 : PySem.W.nsIn K mainGlobals "check_names" = some (some (.ref f17))) (l17 : K.lookup f17 = some ⟨oc17, od17, .func (PySem.W.fnOf "check_names" "check_names" (defArgs sCN) (defBody sCN) (defScope sCN) .none kV17 doc17 pm17 an17 cd17 ct17), sl17⟩) (c17 : PySem.W.codeIn K cd17 "check_names" = true) (k17 : PySem.W.keepIn K (.ref f17) = true)
    {f18 : Addr} {oc18 : Value} {od18 an18 : Option Addr} {sl18 : Array (Option Value)} {kV18 doc18 pm18 cd18 ct18 : Value} (a18 : PySem.W.nsIn K mainGlobals "rowset_width" = some (some (.ref f18))) (l18 : K.lookup f18 = some ⟨oc18, od18, .func (PySem.W.fnOf "rowset_width" "rowset_width" (defArgs sRW) (defBody sRW) (defScope sRW) .none kV18 doc18 pm18 an18 cd18 ct18), sl18⟩) (c18 : PySem.W.codeIn K cd18 "rowset_width" = true) (k18 : PySem.W.keepIn K (.ref f18) = true)
    {f19 : Addr} {oc19 : Value} {od19 an19 : Option Addr} {sl19 : Array (Option Value)} {kV19 doc19 pm19 cd19 ct19 : Value} (a19 : PySem.W.nsIn K mainGlobals "find_row" = some (some (.ref f19))) (l19 : K.lookup f19 = some ⟨oc19, od19, .func (PySem.W.fnOf "find_row" "find_row" (defArgs sFR) (defBody sFR) (defScope sFR) .none kV19 doc19 pm19 an19 cd19 ct19), sl19⟩) (c19 : PySem.W.codeIn K cd19 "find_row" = true) (k19 : PySem.W.keepIn K (.ref f19) = true)
    {f20 : Addr} {oc20 : Value} {od20 an20 : Option Addr} {sl20 : Array (Option Value)} {kV20 doc20 pm20 cd20 ct20 : Value} (a20 : PySem.W.nsIn K mainGlobals "check_hull" = some (some (.ref f20))) (l20 : K.lookup f20 = some ⟨oc20, od20, .func (PySem.W.fnOf "check_hull" "check_hull" (defArgs sCH) (defBody sCH) (defScope sCH) .none kV20 doc20 pm20 an20 cd20 ct20), sl20⟩) (c20 : PySem.W.codeIn K cd20 "check_hull" = true) (k20 : PySem.W.keepIn K (.ref f20) = true)
    {f21 : Addr} {oc21 : Value} {od21 an21 : Option Addr} {sl21 : Array (Option Value)} {kV21 doc21 pm21 cd21 ct21 : Value} (a21 : PySem.W.nsIn K mainGlobals "point_of" = some (some (.ref f21))) (l21 : K.lookup f21 = some ⟨oc21, od21, .func (PySem.W.fnOf "point_of" "point_of" (defArgs sPt) (defBody sPt) (defScope sPt) .none kV21 doc21 pm21 an21 cd21 ct21), sl21⟩) (c21 : PySem.W.codeIn K cd21 "point_of" = true) (k21 : PySem.W.keepIn K (.ref f21) = true)
    {f22 : Addr} {oc22 : Value} {od22 an22 : Option Addr} {sl22 : Array (Option Value)} {kV22 doc22 pm22 cd22 ct22 : Value} (a22 : PySem.W.nsIn K mainGlobals "hull_names" = some (some (.ref f22))) (l22 : K.lookup f22 = some ⟨oc22, od22, .func (PySem.W.fnOf "hull_names" "hull_names" (defArgs sHN) (defBody sHN) (defScope sHN) .none kV22 doc22 pm22 an22 cd22 ct22), sl22⟩) (c22 : PySem.W.codeIn K cd22 "hull_names" = true) (k22 : PySem.W.keepIn K (.ref f22) = true)
    {f23 : Addr} {oc23 : Value} {od23 an23 : Option Addr} {sl23 : Array (Option Value)} {kV23 doc23 pm23 cd23 ct23 : Value} (a23 : PySem.W.nsIn K mainGlobals "hull_rows" = some (some (.ref f23))) (l23 : K.lookup f23 = some ⟨oc23, od23, .func (PySem.W.fnOf "hull_rows" "hull_rows" (defArgs sHR) (defBody sHR) (defScope sHR) .none kV23 doc23 pm23 an23 cd23 ct23), sl23⟩) (c23 : PySem.W.codeIn K cd23 "hull_rows" = true) (k23 : PySem.W.keepIn K (.ref f23) = true)
    {f24 : Addr} {oc24 : Value} {od24 an24 : Option Addr} {sl24 : Array (Option Value)} {kV24 doc24 pm24 cd24 ct24 : Value} (a24 : PySem.W.nsIn K mainGlobals "corners" = some (some (.ref f24))) (l24 : K.lookup f24 = some ⟨oc24, od24, .func (PySem.W.fnOf "corners" "corners" (defArgs sCo) (defBody sCo) (defScope sCo) .none kV24 doc24 pm24 an24 cd24 ct24), sl24⟩) (c24 : PySem.W.codeIn K cd24 "corners" = true) (k24 : PySem.W.keepIn K (.ref f24) = true)
    {f25 : Addr} {oc25 : Value} {od25 an25 : Option Addr} {sl25 : Array (Option Value)} {kV25 doc25 pm25 cd25 ct25 : Value} (a25 : PySem.W.nsIn K mainGlobals "half_hull" = some (some (.ref f25))) (l25 : K.lookup f25 = some ⟨oc25, od25, .func (PySem.W.fnOf "half_hull" "half_hull" (defArgs sHH) (defBody sHH) (defScope sHH) .none kV25 doc25 pm25 an25 cd25 ct25), sl25⟩) (c25 : PySem.W.codeIn K cd25 "half_hull" = true) (k25 : PySem.W.keepIn K (.ref f25) = true)
    {f26 : Addr} {oc26 : Value} {od26 an26 : Option Addr} {sl26 : Array (Option Value)} {kV26 doc26 pm26 cd26 ct26 : Value} (a26 : PySem.W.nsIn K mainGlobals "turn" = some (some (.ref f26))) (l26 : K.lookup f26 = some ⟨oc26, od26, .func (PySem.W.fnOf "turn" "turn" (defArgs sTu) (defBody sTu) (defScope sTu) .none kV26 doc26 pm26 an26 cd26 ct26), sl26⟩) (c26 : PySem.W.codeIn K cd26 "turn" = true) (k26 : PySem.W.keepIn K (.ref f26) = true)
    {f27 : Addr} {oc27 : Value} {od27 an27 : Option Addr} {sl27 : Array (Option Value)} {kV27 doc27 pm27 cd27 ct27 : Value} (a27 : PySem.W.nsIn K mainGlobals "step_between" = some (some (.ref f27))) (l27 : K.lookup f27 = some ⟨oc27, od27, .func (PySem.W.fnOf "step_between" "step_between" (defArgs sSb) (defBody sSb) (defScope sSb) .none kV27 doc27 pm27 an27 cd27 ct27), sl27⟩) (c27 : PySem.W.codeIn K cd27 "step_between" = true) (k27 : PySem.W.keepIn K (.ref f27) = true)
    {f28 : Addr} {oc28 : Value} {od28 an28 : Option Addr} {sl28 : Array (Option Value)} {kV28 doc28 pm28 cd28 ct28 : Value} (a28 : PySem.W.nsIn K mainGlobals "cheapest_direction" = some (some (.ref f28))) (l28 : K.lookup f28 = some ⟨oc28, od28, .func (PySem.W.fnOf "cheapest_direction" "cheapest_direction" (defArgs sCd) (defBody sCd) (defScope sCd) .none kV28 doc28 pm28 an28 cd28 ct28), sl28⟩) (c28 : PySem.W.codeIn K cd28 "cheapest_direction" = true) (k28 : PySem.W.keepIn K (.ref f28) = true)
    {f29 : Addr} {oc29 : Value} {od29 an29 : Option Addr} {sl29 : Array (Option Value)} {kV29 doc29 pm29 cd29 ct29 : Value} (a29 : PySem.W.nsIn K mainGlobals "best_direction" = some (some (.ref f29))) (l29 : K.lookup f29 = some ⟨oc29, od29, .func (PySem.W.fnOf "best_direction" "best_direction" (defArgs sBd) (defBody sBd) (defScope sBd) .none kV29 doc29 pm29 an29 cd29 ct29), sl29⟩) (c29 : PySem.W.codeIn K cd29 "best_direction" = true) (k29 : PySem.W.keepIn K (.ref f29) = true)
    {f30 : Addr} {oc30 : Value} {od30 an30 : Option Addr} {sl30 : Array (Option Value)} {kV30 doc30 pm30 cd30 ct30 : Value} (a30 : PySem.W.nsIn K mainGlobals "cost_ahead" = some (some (.ref f30))) (l30 : K.lookup f30 = some ⟨oc30, od30, .func (PySem.W.fnOf "cost_ahead" "cost_ahead" (defArgs sCa) (defBody sCa) (defScope sCa) .none kV30 doc30 pm30 an30 cd30 ct30), sl30⟩) (c30 : PySem.W.codeIn K cd30 "cost_ahead" = true) (k30 : PySem.W.keepIn K (.ref f30) = true)
    {f31 : Addr} {oc31 : Value} {od31 an31 : Option Addr} {sl31 : Array (Option Value)} {kV31 doc31 pm31 cd31 ct31 : Value} (a31 : PySem.W.nsIn K mainGlobals "tilted_directions" = some (some (.ref f31))) (l31 : K.lookup f31 = some ⟨oc31, od31, .func (PySem.W.fnOf "tilted_directions" "tilted_directions" (defArgs sTd) (defBody sTd) (defScope sTd) .none kV31 doc31 pm31 an31 cd31 ct31), sl31⟩) (c31 : PySem.W.codeIn K cd31 "tilted_directions" = true) (k31 : PySem.W.keepIn K (.ref f31) = true)
    {f32 : Addr} {oc32 : Value} {od32 an32 : Option Addr} {sl32 : Array (Option Value)} {kV32 doc32 pm32 cd32 ct32 : Value} (a32 : PySem.W.nsIn K mainGlobals "_law_stream" = some (some (.ref f32))) (l32 : K.lookup f32 = some ⟨oc32, od32, .func (PySem.W.fnOf "_law_stream" "_law_stream" (defArgs sStream) (defBody sStream) (defScope sStream) .none kV32 doc32 pm32 an32 cd32 ct32), sl32⟩) (c32 : PySem.W.codeIn K cd32 "_law_stream" = true) (k32 : PySem.W.keepIn K (.ref f32) = true)
    {f33 : Addr} {oc33 : Value} {od33 an33 : Option Addr} {sl33 : Array (Option Value)} {kV33 doc33 pm33 cd33 ct33 : Value} (a33 : PySem.W.nsIn K mainGlobals "_law_draw" = some (some (.ref f33))) (l33 : K.lookup f33 = some ⟨oc33, od33, .func (PySem.W.fnOf "_law_draw" "_law_draw" (defArgs sDraw) (defBody sDraw) (defScope sDraw) .none kV33 doc33 pm33 an33 cd33 ct33), sl33⟩) (c33 : PySem.W.codeIn K cd33 "_law_draw" = true) (k33 : PySem.W.keepIn K (.ref f33) = true)
    {f34 : Addr} {oc34 : Value} {od34 an34 : Option Addr} {sl34 : Array (Option Value)} {kV34 doc34 pm34 cd34 ct34 : Value} (a34 : PySem.W.nsIn K mainGlobals "_law_name" = some (some (.ref f34))) (l34 : K.lookup f34 = some ⟨oc34, od34, .func (PySem.W.fnOf "_law_name" "_law_name" (defArgs sNm) (defBody sNm) (defScope sNm) .none kV34 doc34 pm34 an34 cd34 ct34), sl34⟩) (c34 : PySem.W.codeIn K cd34 "_law_name" = true) (k34 : PySem.W.keepIn K (.ref f34) = true)
    {f35 : Addr} {oc35 : Value} {od35 an35 : Option Addr} {sl35 : Array (Option Value)} {kV35 doc35 pm35 cd35 ct35 : Value} (a35 : PySem.W.nsIn K mainGlobals "_law_rowset" = some (some (.ref f35))) (l35 : K.lookup f35 = some ⟨oc35, od35, .func (PySem.W.fnOf "_law_rowset" "_law_rowset" (defArgs sRs) (defBody sRs) (defScope sRs) .none kV35 doc35 pm35 an35 cd35 ct35), sl35⟩) (c35 : PySem.W.codeIn K cd35 "_law_rowset" = true) (k35 : PySem.W.keepIn K (.ref f35) = true)
    {f36 : Addr} {oc36 : Value} {od36 an36 : Option Addr} {sl36 : Array (Option Value)} {kV36 doc36 pm36 cd36 ct36 : Value} (a36 : PySem.W.nsIn K mainGlobals "_law_remove" = some (some (.ref f36))) (l36 : K.lookup f36 = some ⟨oc36, od36, .func (PySem.W.fnOf "_law_remove" "_law_remove" (defArgs sRv) (defBody sRv) (defScope sRv) .none kV36 doc36 pm36 an36 cd36 ct36), sl36⟩) (c36 : PySem.W.codeIn K cd36 "_law_remove" = true) (k36 : PySem.W.keepIn K (.ref f36) = true)
    {f37 : Addr} {oc37 : Value} {od37 an37 : Option Addr} {sl37 : Array (Option Value)} {kV37 doc37 pm37 cd37 ct37 : Value} (a37 : PySem.W.nsIn K mainGlobals "_law_point_rowset" = some (some (.ref f37))) (l37 : K.lookup f37 = some ⟨oc37, od37, .func (PySem.W.fnOf "_law_point_rowset" "_law_point_rowset" (defArgs sPr) (defBody sPr) (defScope sPr) .none kV37 doc37 pm37 an37 cd37 ct37), sl37⟩) (c37 : PySem.W.codeIn K cd37 "_law_point_rowset" = true) (k37 : PySem.W.keepIn K (.ref f37) = true)
    {f38 : Addr} {oc38 : Value} {od38 an38 : Option Addr} {sl38 : Array (Option Value)} {kV38 doc38 pm38 cd38 ct38 : Value} (a38 : PySem.W.nsIn K mainGlobals "_law_costs" = some (some (.ref f38))) (l38 : K.lookup f38 = some ⟨oc38, od38, .func (PySem.W.fnOf "_law_costs" "_law_costs" (defArgs sCs) (defBody sCs) (defScope sCs) .none kV38 doc38 pm38 an38 cd38 ct38), sl38⟩) (c38 : PySem.W.codeIn K cd38 "_law_costs" = true) (k38 : PySem.W.keepIn K (.ref f38) = true)
    {f39 : Addr} {oc39 : Value} {od39 an39 : Option Addr} {sl39 : Array (Option Value)} {kV39 doc39 pm39 cd39 ct39 : Value} (a39 : PySem.W.nsIn K mainGlobals "_law_transformed" = some (some (.ref f39))) (l39 : K.lookup f39 = some ⟨oc39, od39, .func (PySem.W.fnOf "_law_transformed" "_law_transformed" (defArgs sTf) (defBody sTf) (defScope sTf) .none kV39 doc39 pm39 an39 cd39 ct39), sl39⟩) (c39 : PySem.W.codeIn K cd39 "_law_transformed" = true) (k39 : PySem.W.keepIn K (.ref f39) = true)
    {f40 : Addr} {oc40 : Value} {od40 an40 : Option Addr} {sl40 : Array (Option Value)} {kV40 doc40 pm40 cd40 ct40 : Value} (a40 : PySem.W.nsIn K mainGlobals "_law_random_part" = some (some (.ref f40))) (l40 : K.lookup f40 = some ⟨oc40, od40, .func (PySem.W.fnOf "_law_random_part" "_law_random_part" (defArgs sRp) (defBody sRp) (defScope sRp) .none kV40 doc40 pm40 an40 cd40 ct40), sl40⟩) (c40 : PySem.W.codeIn K cd40 "_law_random_part" = true) (k40 : PySem.W.keepIn K (.ref f40) = true)
    {f41 : Addr} {oc41 : Value} {od41 an41 : Option Addr} {sl41 : Array (Option Value)} {kV41 doc41 pm41 cd41 ct41 : Value} (a41 : PySem.W.nsIn K mainGlobals "_law_check_deletions" = some (some (.ref f41))) (l41 : K.lookup f41 = some ⟨oc41, od41, .func (PySem.W.fnOf "_law_check_deletions" "_law_check_deletions" (defArgs sDe) (defBody sDe) (defScope sDe) .none kV41 doc41 pm41 an41 cd41 ct41), sl41⟩) (c41 : PySem.W.codeIn K cd41 "_law_check_deletions" = true) (k41 : PySem.W.keepIn K (.ref f41) = true)
    {f42 : Addr} {oc42 : Value} {od42 an42 : Option Addr} {sl42 : Array (Option Value)} {kV42 doc42 pm42 cd42 ct42 : Value} (a42 : PySem.W.nsIn K mainGlobals "_law_check" = some (some (.ref f42))) (l42 : K.lookup f42 = some ⟨oc42, od42, .func (PySem.W.fnOf "_law_check" "_law_check" (defArgs sLk) (defBody sLk) (defScope sLk) .none kV42 doc42 pm42 an42 cd42 ct42), sl42⟩) (c42 : PySem.W.codeIn K cd42 "_law_check" = true) (k42 : PySem.W.keepIn K (.ref f42) = true)
    {f43 : Addr} {oc43 : Value} {od43 an43 : Option Addr} {sl43 : Array (Option Value)} {kV43 doc43 pm43 cd43 ct43 : Value} (a43 : PySem.W.nsIn K mainGlobals "law" = some (some (.ref f43))) (l43 : K.lookup f43 = some ⟨oc43, od43, .func (PySem.W.fnOf "law" "law" (defArgs sLaw) (defBody sLaw) (defScope sLaw) .none kV43 doc43 pm43 an43 cd43 ct43), sl43⟩) (c43 : PySem.W.codeIn K cd43 "law" = true) (k43 : PySem.W.keepIn K (.ref f43) = true)
    (b0 : PySem.W.nsIn K mainGlobals "isinstance" = some none)
    (b1 : PySem.W.nsIn K mainGlobals "bool" = some none)
    (b2 : PySem.W.nsIn K mainGlobals "int" = some none)
    (b3 : PySem.W.nsIn K mainGlobals "str" = some none)
    (b4 : PySem.W.nsIn K mainGlobals "tuple" = some none)
    (b5 : PySem.W.nsIn K mainGlobals "list" = some none)
    (b6 : PySem.W.nsIn K mainGlobals "len" = some none)
    (b7 : PySem.W.nsIn K mainGlobals "all" = some none)
    (b8 : PySem.W.nsIn K mainGlobals "range" = some none)
    (b9 : PySem.W.nsIn K mainGlobals "max" = some none)
    (b10 : PySem.W.nsIn K mainGlobals "min" = some none)
    (b11 : PySem.W.nsIn K mainGlobals "abs" = some none)
    (b12 : PySem.W.nsIn K mainGlobals "repr" = some none)
    (b13 : PySem.W.nsIn K mainGlobals "sorted" = some none)
    (b14 : PySem.W.nsIn K mainGlobals "IndexError" = some none)
    (b15 : PySem.W.nsIn K mainGlobals "ValueError" = some none)
    (b16 : PySem.W.nsIn K mainGlobals "zip" = some none)
    (b17 : PySem.W.nsIn K mainGlobals "any" = some none)
    (b18 : PySem.W.nsIn K mainGlobals "KeyError" = some none)
    (b19 : PySem.W.nsIn K mainGlobals "sum" = some none)
    (b20 : PySem.W.nsIn K mainGlobals "dict" = some none)
    {t0 : Tok} (v0 : PySem.W.nsIn K mainGlobals "MAX_WIDTH" = some (some (.int 4 t0)))
    {t1 : Tok} (v1 : PySem.W.nsIn K mainGlobals "MAX_COST" = some (some (.int 1000000 t1)))
    {t2 : Tok} (v2 : PySem.W.nsIn K mainGlobals "MAX_VALUE" = some (some (.int 1000000000 t2)))
    {t3 : Tok} (v3 : PySem.W.nsIn K mainGlobals "MAX_EXPIRY" = some (some (.int 1000000000 t3)))
    {t4 : Tok} (v4 : PySem.W.nsIn K mainGlobals "MAX_LETTERS" = some (some (.int 8 t4)))
    {t5 : Tok} (v5 : PySem.W.nsIn K mainGlobals "LETTERS" = some (some (.str "abcdefghijklmnopqrstuvwxyz" t5)))
    {t6 : Tok} (v6 : PySem.W.nsIn K mainGlobals "VALUES" = some (some (.int 2 t6)))
    {t7 : Tok} (v7 : PySem.W.nsIn K mainGlobals "NAME" = some (some (.int 0 t7)))
    {t8 : Tok} (v8 : PySem.W.nsIn K mainGlobals "MAX_ROWS" = some (some (.int 60 t8)))
    {t9 : Tok} (v9 : PySem.W.nsIn K mainGlobals "COST" = some (some (.int 1 t9)))
    {t10 : Tok} (v10 : PySem.W.nsIn K mainGlobals "TILT" = some (some (.int 100000000000000000000 t10)))
    (aC : PySem.W.nsIn K mainGlobals "InvalidNumber" = some (some (.ref C)))
    (x1 : PySem.W.excInitIn K C ixTl "IndexError.__new__" = true)
    (x2 : PySem.W.excOver K C ixTl = true)
    (x3 : PySem.W.findIn K (.ref C) "__setattr__" = some (some (.builtin "object.__setattr__")))
    (x4 : PySem.W.hasDictIn K C = true)
    (x5 : PySem.W.subIn K (.ref C) (.type "BaseException") = some true)
    (x6 : PySem.W.typeIn K (.ref C) = some (.type "type"))
    (x7 : PySem.W.keepIn K (.ref C) = true)
    (y1 : PySem.W.findIn K (.ref C) "__getattribute__" = some (some (.builtin "BaseException.__getattribute__")))
    (y2 : PySem.W.findIn K (.ref C) "__getattr__" = some none)
    (y3 : PySem.W.findIn K (.ref C) "__class__" = some (some (.builtin "object.__class__")))
    (y4 : PySem.W.specialIn K (.builtin "object.__class__") "__get__" = some (some (.builtin "getset_descriptor.__get__")))
    (y5 : PySem.W.takesIn K (.builtin "object.__class__") = some true)
    (y6 : PySem.W.mroIn K C (.type "object") = some true)
    (z1 : PySem.W.findIn K (.ref C) "value" = some none)
    (z2 : PySem.W.findIn K (.ref C) "__init__" = some (some (.ref fI)))
    (z3 : PySem.W.typeIn K (.ref fI) = some (.type "function"))
    (z4 : PySem.W.findCls K (.type "IndexError") (.type "type") "__init__" = some (.val (.builtin "IndexError.__init__")))
    (z5 : K.lookup fI = some ⟨ocI, odI, .func (PySem.W.fnOf "__init__" "InvalidNumber.__init__" (defArgs sInit) (defBody sInit) (defScope sInit) .none kVI docI pmI anI cdI ctI), slI⟩)
    (z6 : PySem.W.codeIn K cdI "InvalidNumber.__init__" = true)
    (z7 : PySem.W.keepIn K (.ref fI) = true)
    (aR : PySem.W.nsIn K mainGlobals "InvalidRowset" = some (some (.ref R)))
    (q1 : PySem.W.excIn K R [.type "ValueError", .type "Exception", .type "BaseException", .type "object"] "ValueError.__new__" = true)
    (q2 : PySem.W.keepIn K (.ref R) = true)
    (q3 : PySem.W.subIn K (.ref R) (.type "BaseException") = some true)
    (q4 : PySem.W.typeIn K (.ref R) = some (.type "type"))
    (aU : PySem.W.nsIn K mainGlobals "UnknownName" = some (some (.ref U)))
    (u1 : PySem.W.excInitIn K U kyTl "LookupError.__new__" = true)
    (u2 : PySem.W.excOver K U kyTl = true)
    (u3 : PySem.W.findIn K (.ref U) "__setattr__" = some (some (.builtin "object.__setattr__")))
    (u4 : PySem.W.hasDictIn K U = true)
    (u5 : PySem.W.subIn K (.ref U) (.type "BaseException") = some true)
    (u6 : PySem.W.typeIn K (.ref U) = some (.type "type"))
    (u7 : PySem.W.keepIn K (.ref U) = true)
    (j1 : PySem.W.findIn K (.ref U) "__getattribute__" = some (some (.builtin "BaseException.__getattribute__")))
    (j2 : PySem.W.findIn K (.ref U) "__getattr__" = some none)
    (j3 : PySem.W.findIn K (.ref U) "__class__" = some (some (.builtin "object.__class__")))
    (j6 : PySem.W.mroIn K U (.type "object") = some true)
    (w1 : PySem.W.findIn K (.ref U) "name" = some none)
    (w2 : PySem.W.findIn K (.ref U) "__init__" = some (some (.ref fU)))
    (w3 : PySem.W.typeIn K (.ref fU) = some (.type "function"))
    (w4 : PySem.W.findCls K (.type "KeyError") (.type "type") "__init__" = some (.val (.builtin "KeyError.__init__")))
    (w5 : K.lookup fU = some ⟨ocU, odU, .func (PySem.W.fnOf "__init__" "UnknownName.__init__" (defArgs sIniU) (defBody sIniU) (defScope sIniU) .none kVU docU pmU anU cdU ctU), slU⟩)
    (w6 : PySem.W.codeIn K cdU "UnknownName.__init__" = true)
    (w7 : PySem.W.keepIn K (.ref fU) = true)
    : ∃ fd : FuncData, (∀ (s : Shared) (v : Value), BindsTo s fd ⟨[v], []⟩ [("script", v)]) ∧ ∀ base : Heap, K.In base → base.Ns mainGlobals mg → FnG l.prog w K mg base CX0 12 fa fd ["script"] (spLaw K) := by
  have e := hfa.symm.trans (PySem.W.mg_of X G a43)
  cases e
  have E0 := df_mk (ps := ["value", "low", "high"]) X G a0 l0 c0 k0 (fun _ _ _ _ _ _ us hl => match us, hl with | [_, _, _], _ => rfl)
  have E1 := df_mk (ps := ["value", "low", "high"]) X G a1 l1 c1 k1 (fun _ _ _ _ _ _ us hl => match us, hl with | [_, _, _], _ => rfl)
  have E2 := df_mk (ps := ["width", "first", "second"]) X G a2 l2 c2 k2 (fun _ _ _ _ _ _ us hl => match us, hl with | [_, _, _], _ => rfl)
  have E3 := df_mk (ps := ["value", "low", "high"]) X G a3 l3 c3 k3 (fun _ _ _ _ _ _ us hl => match us, hl with | [_, _, _], _ => rfl)
  have E4 := df_mk (ps := ["names"]) X G a4 l4 c4 k4 (fun _ _ _ _ _ _ us hl => match us, hl with | [_], _ => rfl)
  have E5 := df_mk (ps := ["known", "names"]) X G a5 l5 c5 k5 (fun _ _ _ _ _ _ us hl => match us, hl with | [_, _], _ => rfl)
  have E6 := df_mk (ps := ["value"]) X G a6 l6 c6 k6 (fun _ _ _ _ _ _ us hl => match us, hl with | [_], _ => rfl)
  have E7 := df_mk (ps := ["value"]) X G a7 l7 c7 k7 (fun _ _ _ _ _ _ us hl => match us, hl with | [_], _ => rfl)
  have E8 := df_mk (ps := ["value"]) X G a8 l8 c8 k8 (fun _ _ _ _ _ _ us hl => match us, hl with | [_], _ => rfl)
  have E9 := df_mk (ps := ["value"]) X G a9 l9 c9 k9 (fun _ _ _ _ _ _ us hl => match us, hl with | [_], _ => rfl)
  have E10 := df_mk (ps := ["rows"]) X G a10 l10 c10 k10 (fun _ _ _ _ _ _ us hl => match us, hl with | [_], _ => rfl)
  have E11 := df_mk (ps := ["rows"]) X G a11 l11 c11 k11 (fun _ _ _ _ _ _ us hl => match us, hl with | [_], _ => rfl)
  have E12 := df_mk (ps := ["value"]) X G a12 l12 c12 k12 (fun _ _ _ _ _ _ us hl => match us, hl with | [_], _ => rfl)
  have E13 := df_mk (ps := ["rows"]) X G a13 l13 c13 k13 (fun _ _ _ _ _ _ us hl => match us, hl with | [_], _ => rfl)
  have E14 := df_mk (ps := ["rows"]) X G a14 l14 c14 k14 (fun _ _ _ _ _ _ us hl => match us, hl with | [_], _ => rfl)
  have E15 := df_mk (ps := ["rows"]) X G a15 l15 c15 k15 (fun _ _ _ _ _ _ us hl => match us, hl with | [_], _ => rfl)
  have E16 := df_mk (ps := ["rowset"]) X G a16 l16 c16 k16 (fun _ _ _ _ _ _ us hl => match us, hl with | [_], _ => rfl)
  have E17 := df_mk (ps := ["rowset", "names"]) X G a17 l17 c17 k17 (fun _ _ _ _ _ _ us hl => match us, hl with | [_, _], _ => rfl)
  have E18 := df_mk (ps := ["rowset"]) X G a18 l18 c18 k18 (fun _ _ _ _ _ _ us hl => match us, hl with | [_], _ => rfl)
  have E19 := df_mk (ps := ["rowset", "name"]) X G a19 l19 c19 k19 (fun _ _ _ _ _ _ us hl => match us, hl with | [_, _], _ => rfl)
  have E20 := df_mk (ps := ["rowset", "x", "y"]) X G a20 l20 c20 k20 (fun _ _ _ _ _ _ us hl => match us, hl with | [_, _, _], _ => rfl)
  have E21 := df_mk (ps := ["row", "x", "y"]) X G a21 l21 c21 k21 (fun _ _ _ _ _ _ us hl => match us, hl with | [_, _, _], _ => rfl)
  have E22 := df_mk (ps := ["rowset", "x", "y"]) X G a22 l22 c22 k22 (fun _ _ _ _ _ _ us hl => match us, hl with | [_, _, _], _ => rfl)
  have E23 := df_mk (ps := ["rowset", "x", "y"]) X G a23 l23 c23 k23 (fun _ _ _ _ _ _ us hl => match us, hl with | [_, _, _], _ => rfl)
  have E24 := df_mk (ps := ["points"]) X G a24 l24 c24 k24 (fun _ _ _ _ _ _ us hl => match us, hl with | [_], _ => rfl)
  have E25 := df_mk (ps := ["points"]) X G a25 l25 c25 k25 (fun _ _ _ _ _ _ us hl => match us, hl with | [_], _ => rfl)
  have E26 := df_mk (ps := ["start", "middle", "end"]) X G a26 l26 c26 k26 (fun _ _ _ _ _ _ us hl => match us, hl with | [_, _, _], _ => rfl)
  have E27 := df_mk (ps := ["row", "other", "x", "y"]) X G a27 l27 c27 k27 (fun _ _ _ _ _ _ us hl => match us, hl with | [_, _, _, _], _ => rfl)
  have E28 := df_mk (ps := ["rowset", "x", "y", "name"]) X G a28 l28 c28 k28 (fun _ _ _ _ _ _ us hl => match us, hl with | [_, _, _, _], _ => rfl)
  have E29 := df_mk (ps := ["rowset", "x", "y", "row"]) X G a29 l29 c29 k29 (fun _ _ _ _ _ _ us hl => match us, hl with | [_, _, _, _], _ => rfl)
  have E30 := df_mk (ps := ["steps", "direction"]) X G a30 l30 c30 k30 (fun _ _ _ _ _ _ us hl => match us, hl with | [_, _], _ => rfl)
  have E31 := df_mk (ps := ["steps"]) X G a31 l31 c31 k31 (fun _ _ _ _ _ _ us hl => match us, hl with | [_], _ => rfl)
  have E32 := df_mk (ps := ["script", "at"]) X G a32 l32 c32 k32 (fun _ _ _ _ _ _ us hl => match us, hl with | [_, _], _ => rfl)
  have E33 := df_mk (ps := ["stream", "total"]) X G a33 l33 c33 k33 (fun _ _ _ _ _ _ us hl => match us, hl with | [_, _], _ => rfl)
  have E34 := df_mk (ps := ["stream", "at"]) X G a34 l34 c34 k34 (fun _ _ _ _ _ _ us hl => match us, hl with | [_, _], _ => rfl)
  have E35 := df_mk (ps := ["stream", "total", "wide"]) X G a35 l35 c35 k35 (fun _ _ _ _ _ _ us hl => match us, hl with | [_, _, _], _ => rfl)
  have E36 := df_mk (ps := ["world", "gone"]) X G a36 l36 c36 k36 (fun _ _ _ _ _ _ us hl => match us, hl with | [_, _], _ => rfl)
  have E37 := df_mk (ps := ["stream", "many", "wide"]) X G a37 l37 c37 k37 (fun _ _ _ _ _ _ us hl => match us, hl with | [_, _, _], _ => rfl)
  have E38 := df_mk (ps := ["data", "one", "other"]) X G a38 l38 c38 k38 (fun _ _ _ _ _ _ us hl => match us, hl with | [_, _, _], _ => rfl)
  have E39 := df_mk (ps := ["stream", "data"]) X G a39 l39 c39 k39 (fun _ _ _ _ _ _ us hl => match us, hl with | [_, _], _ => rfl)
  have E40 := df_mk (ps := ["stream", "rows", "chance"]) X G a40 l40 c40 k40 (fun _ _ _ _ _ _ us hl => match us, hl with | [_, _, _], _ => rfl)
  have E41 := df_mk (ps := ["stream", "data", "name"]) X G a41 l41 c41 k41 (fun _ _ _ _ _ _ us hl => match us, hl with | [_, _, _], _ => rfl)
  have E42 := df_mk (ps := ["stream", "data"]) X G a42 l42 c42 k42 (fun _ _ _ _ _ _ us hl => match us, hl with | [_, _], _ => rfl)
  have B : Bl mg := ⟨PySem.W.mg_none_of X G b0, PySem.W.mg_none_of X G b1, PySem.W.mg_none_of X G b2, PySem.W.mg_none_of X G b3, PySem.W.mg_none_of X G b4, PySem.W.mg_none_of X G b5, PySem.W.mg_none_of X G b6, PySem.W.mg_none_of X G b7, PySem.W.mg_none_of X G b8, PySem.W.mg_none_of X G b9, PySem.W.mg_none_of X G b10, PySem.W.mg_none_of X G b11, PySem.W.mg_none_of X G b12, PySem.W.mg_none_of X G b13, PySem.W.mg_none_of X G b14, PySem.W.mg_none_of X G b15, PySem.W.mg_none_of X G b16, PySem.W.mg_none_of X G b17, PySem.W.mg_none_of X G b18, PySem.W.mg_none_of X G b19, PySem.W.mg_none_of X G b20⟩
  have Ck : Cs mg := ⟨⟨_, PySem.W.mg_of X G v0⟩, ⟨_, PySem.W.mg_of X G v1⟩, ⟨_, PySem.W.mg_of X G v2⟩, ⟨_, PySem.W.mg_of X G v3⟩, ⟨_, PySem.W.mg_of X G v4⟩, ⟨_, PySem.W.mg_of X G v5⟩⟩
  have cv : ∃ t, mg "VALUES" = some (.int 2 t) := ⟨_, PySem.W.mg_of X G v6⟩
  have cn : ∃ t, mg "NAME" = some (.int 0 t) := ⟨_, PySem.W.mg_of X G v7⟩
  have cw : ∃ t, mg "MAX_WIDTH" = some (.int 4 t) := ⟨_, PySem.W.mg_of X G v0⟩
  have cr : ∃ t, mg "MAX_ROWS" = some (.int 60 t) := ⟨_, PySem.W.mg_of X G v8⟩
  have cc : ∃ t, mg "COST" = some (.int 1 t) := ⟨_, PySem.W.mg_of X G v9⟩
  have mt : ∃ t, mg "TILT" = some (.int 100000000000000000000 t) := ⟨_, PySem.W.mg_of X G v10⟩
  have FI := fun_mk (st := sInit) z5 z6 z7
  have FU := fun_mk (st := sIniU) w5 w6 w7
  have T : IN K mg C fI _ := ⟨PySem.W.mg_of X G aC, ⟨ixB, x1, x2, x3, x4, x5, x6, x7⟩, ⟨y1, y2, x5, x4, y3, y4, y5, y6⟩, z1, z2, z3, z4, FI, FI.binds (ps := ["self", "value"]) fun _ _ _ _ _ _ us hl => match us, hl with | [_, _], _ => rfl⟩
  have TU : UN K mg U fU _ := ⟨PySem.W.mg_of X G aU, ⟨KY.kyB, u1, u2, u3, u4, u5, u6, u7⟩, ⟨j1, j2, u5, u4, j3, y4, y5, j6⟩, w1, w2, w3, w4, FU, FU.binds (ps := ["self", "name"]) fun _ _ _ _ _ _ us hl => match us, hl with | [_, _], _ => rfl⟩
  have OR : OC K mg "InvalidRowset" R := ⟨PySem.W.mg_of X G aR, q1, q2, q3, q4⟩
  refine ⟨PySem.W.fnOf "law" "law" (defArgs sLaw) (defBody sLaw) (defScope sLaw) .none kV43 doc43 pm43 an43 cd43 ct43, fun s v => .of_eq rfl, fun base _ _ => ?_⟩
  have oRow := ok_row (P := l.prog) (w := w) (base := base) B Ck E7 E0 E3 E6 E8
  have oOW := ok_ow (P := l.prog) (w := w) (base := base) (k := 3) B E9 E7 E10 (oRow.mono (by decide)) ((ok_hw B cv E10).mono (by decide))
  have oIR := ok_ir (P := l.prog) (w := w) (base := base) (k := 4) B cr E12 E3 E9 E4 E13 ((ok_tupB B E3).mono (by decide)) oOW ((ok_asc B E4).mono (by decide)) ((ok_no B cn E13).mono (by decide))
  have oCR := ok_cr (P := l.prog) (w := w) (base := base) OR E16 E12 oIR
  have oCN := ok_cn (P := l.prog) (w := w) (base := base) B cn TU E17 E5 E13
  have oRW := ok_rw (P := l.prog) (w := w) (base := base) (k := 6) E18 E16 E11 oCR ((ok_wo B cv cw E11).mono (by decide))
  have oFR := ok_fr (P := l.prog) (w := w) (base := base) (k := 6) B E19 E16 E17 E13 oCR (oCN.mono (by decide)) ((ok_nof B cn E13).mono (by decide))
  have oCk := ok_ck (P := l.prog) (w := w) (base := base) B T E1 E0
  have oCC := ok_cc (P := l.prog) (w := w) (base := base) B T E2 E1 oCk
  have oCH := ok_ch (P := l.prog) (w := w) (base := base) (k := 7) E20 E2 E18 (oCC.mono (by decide)) oRW
  have oPt := ok_pt (P := l.prog) (w := w) (base := base) cv E21
  have oSb := ok_sb (P := l.prog) (w := w) (base := base) cv E27
  have oTu := ok_tu (P := l.prog) (w := w) (base := base) E26
  have oHH := ok_hh (P := l.prog) (w := w) (base := base) (k := 1) B E25 E26 oTu
  have oCo0 := ok_co (P := l.prog) (w := w) (base := base) (k := 2) B E24 E25 oHH
  have oHR := ok_hr (P := l.prog) (w := w) (base := base) (k := 3) B E23 E24 E21 oCo0 (oPt.mono (by decide))
  have oNL := ok_nol (P := l.prog) (w := w) (base := base) B cn E13
  have oSN := ok_sno (P := l.prog) (w := w) (base := base) (k := 1) B E14 E13 oNL
  have oHN := ok_hn (P := l.prog) (w := w) (base := base) (k := 8) E22 E20 E14 E23 oCH (oSN.mono (by decide)) (oHR.mono (by decide))
  have oCo := ok_col (P := l.prog) (w := w) (base := base) B cc E15
  have oCa := ok_ca (P := l.prog) (w := w) (base := base) B E30
  have oTd := ok_td (P := l.prog) (w := w) (base := base) mt E31
  have oBd := ok_bd (P := l.prog) (w := w) (base := base) (k := 2) B cn cc E29 E21 E15 E27 E31 E30 (oPt.mono (by decide)) oCo (oSb.mono (by decide)) (oTd.mono (by decide)) (oCa.mono (by decide))
  have oCd := ok_cd (P := l.prog) (w := w) (base := base) (k := 8) E28 E20 E19 E29 oCH (oFR.mono (by decide)) (oBd.mono (by decide))
  have oD := ok_draw (P := l.prog) (w := w) (base := base) B E33
  have oRv := ok_rv (P := l.prog) (w := w) (base := base) E36
  have oPr := ok_pr (P := l.prog) (w := w) (base := base) (k := 3) B E37 E33 E35 (oD.mono (by decide)) (ok_rs B E35 E33 E34)
  have oCs := ok_cs (P := l.prog) (w := w) (base := base) (k := 9) E38 E28 oCd
  have oTf := ok_tf (P := l.prog) (w := w) (base := base) (k := 1) B E39 E33 oD
  have oRp := ok_rp (P := l.prog) (w := w) (base := base) (k := 1) E40 E33 oD
  have oDe := ok_de (P := l.prog) (w := w) (base := base) (k := 9) B E41 E40 E36 E22 E28 (oRp.mono (by decide)) (oRv.mono (by decide)) oHN oCd
  have oLk := ok_lk (P := l.prog) (w := w) (base := base) (k := 10) B E42 E38 E39 E40 E22 E41 oCs (oTf.mono (by decide)) (oRp.mono (by decide)) (oHN.mono (by decide)) oDe
  exact ok_law (P := l.prog) (w := w) (base := base) (k := 11) B (fun_mk l43 c43 k43) E32 E33 E37 E42 ((ok_stream B E32).mono (by decide)) (oD.mono (by decide)) (oPr.mono (by decide)) oLk
end I1
open PySem PySem.W PyProof.Rows
set_option maxHeartbeats 0 in
theorem PySem.Challenge.cw_spareskept_k23_whole_half_planes_decide_holds : PySem.Challenge.rw_spareskept_k23_whole_half_planes_decide.Holds := by
  w_on; o_law; k_head; (case hw => w_witness2)
  k_fill
  refine KX.walkG (l := PySem.Challenge.rw_spareskept_k23_whole_half_planes_decide) (n := 63) (k := 12) (x := "script") (sp := I1.spLaw) rfl (by decide) rfl ⟨rfl, by decide, by decide⟩ (fun w h Y => PySem.W.kIn_of Y) ?F (fun _ _ a ns hl hS _ => ⟨a, ns, rfl, hS, hl, fun _ => rfl⟩)
  case F =>
    intro w mg fa h KX G hmg
    refine' I1.all_mk KX G hmg ?a0 ?l0 ?c0 ?k0 ?a1 ?l1 ?c1 ?k1 ?a2 ?l2 ?c2 ?k2 ?a3 ?l3 ?c3 ?k3 ?a4 ?l4 ?c4 ?k4 ?a5 ?l5 ?c5 ?k5 ?a6 ?l6 ?c6 ?k6 ?a7 ?l7 ?c7 ?k7 ?a8 ?l8 ?c8 ?k8 ?a9 ?l9 ?c9 ?k9 ?a10 ?l10 ?c10 ?k10 ?a11 ?l11 ?c11 ?k11 ?a12 ?l12 ?c12 ?k12 ?a13 ?l13 ?c13 ?k13 ?a14 ?l14 ?c14 ?k14 ?a15 ?l15 ?c15 ?k15 ?a16 ?l16 ?c16 ?k16 ?a17 ?l17 ?c17 ?k17 ?a18 ?l18 ?c18 ?k18 ?a19 ?l19 ?c19 ?k19 ?a20 ?l20 ?c20 ?k20 ?a21 ?l21 ?c21 ?k21 ?a22 ?l22 ?c22 ?k22 ?a23 ?l23 ?c23 ?k23 ?a24 ?l24 ?c24 ?k24 ?a25 ?l25 ?c25 ?k25 ?a26 ?l26 ?c26 ?k26 ?a27 ?l27 ?c27 ?k27 ?a28 ?l28 ?c28 ?k28 ?a29 ?l29 ?c29 ?k29 ?a30 ?l30 ?c30 ?k30 ?a31 ?l31 ?c31 ?k31 ?a32 ?l32 ?c32 ?k32 ?a33 ?l33 ?c33 ?k33 ?a34 ?l34 ?c34 ?k34 ?a35 ?l35 ?c35 ?k35 ?a36 ?l36 ?c36 ?k36 ?a37 ?l37 ?c37 ?k37 ?a38 ?l38 ?c38 ?k38 ?a39 ?l39 ?c39 ?k39 ?a40 ?l40 ?c40 ?k40 ?a41 ?l41 ?c41 ?k41 ?a42 ?l42 ?c42 ?k42 ?a43 ?l43 ?c43 ?k43 ?b0 ?b1 ?b2 ?b3 ?b4 ?b5 ?b6 ?b7 ?b8 ?b9 ?b10 ?b11 ?b12 ?b13 ?b14 ?b15 ?b16 ?b17 ?b18 ?b19 ?b20 ?v0 ?v1 ?v2 ?v3 ?v4 ?v5 ?v6 ?v7 ?v8 ?v9 ?v10 ?aC ?x1 ?x2 ?x3 ?x4 ?x5 ?x6 ?x7 ?y1 ?y2 ?y3 ?y4 ?y5 ?y6 ?z1 ?z2 ?z3 ?z4 ?z5 ?z6 ?z7 ?aR ?q1 ?q2 ?q3 ?q4 ?aU ?u1 ?u2 ?u3 ?u4 ?u5 ?u6 ?u7 ?j1 ?j2 ?j3 ?j6 ?w1 ?w2 ?w3 ?w4 ?w5 ?w6 ?w7
    (case a0 => k_is); (case l0 => k_is); (case c0 => k_is); (case k0 => k_is)
    (case a1 => k_is); (case l1 => k_is); (case c1 => k_is); (case k1 => k_is)
    (case a2 => k_is); (case l2 => k_is); (case c2 => k_is); (case k2 => k_is)
    (case a3 => k_is); (case l3 => k_is); (case c3 => k_is); (case k3 => k_is)
    (case a4 => k_is); (case l4 => k_is); (case c4 => k_is); (case k4 => k_is)
    (case a5 => k_is); (case l5 => k_is); (case c5 => k_is); (case k5 => k_is)
    (case a6 => k_is); (case l6 => k_is); (case c6 => k_is); (case k6 => k_is)
    (case a7 => k_is); (case l7 => k_is); (case c7 => k_is); (case k7 => k_is)
    (case a8 => k_is); (case l8 => k_is); (case c8 => k_is); (case k8 => k_is)
    (case a9 => k_is); (case l9 => k_is); (case c9 => k_is); (case k9 => k_is)
    (case a10 => k_is); (case l10 => k_is); (case c10 => k_is); (case k10 => k_is)
    (case a11 => k_is); (case l11 => k_is); (case c11 => k_is); (case k11 => k_is)
    (case a12 => k_is); (case l12 => k_is); (case c12 => k_is); (case k12 => k_is)
    (case a13 => k_is); (case l13 => k_is); (case c13 => k_is); (case k13 => k_is)
    (case a14 => k_is); (case l14 => k_is); (case c14 => k_is); (case k14 => k_is)
    (case a15 => k_is); (case l15 => k_is); (case c15 => k_is); (case k15 => k_is)
    (case a16 => k_is); (case l16 => k_is); (case c16 => k_is); (case k16 => k_is)
    (case a17 => k_is); (case l17 => k_is); (case c17 => k_is); (case k17 => k_is)
    (case a18 => k_is); (case l18 => k_is); (case c18 => k_is); (case k18 => k_is)
    (case a19 => k_is); (case l19 => k_is); (case c19 => k_is); (case k19 => k_is)
    (case a20 => k_is); (case l20 => k_is); (case c20 => k_is); (case k20 => k_is)
    (case a21 => k_is); (case l21 => k_is); (case c21 => k_is); (case k21 => k_is)
    (case a22 => k_is); (case l22 => k_is); (case c22 => k_is); (case k22 => k_is)
    (case a23 => k_is); (case l23 => k_is); (case c23 => k_is); (case k23 => k_is)
    (case a24 => k_is); (case l24 => k_is); (case c24 => k_is); (case k24 => k_is)
    (case a25 => k_is); (case l25 => k_is); (case c25 => k_is); (case k25 => k_is)
    (case a26 => k_is); (case l26 => k_is); (case c26 => k_is); (case k26 => k_is)
    (case a27 => k_is); (case l27 => k_is); (case c27 => k_is); (case k27 => k_is)
    (case a28 => k_is); (case l28 => k_is); (case c28 => k_is); (case k28 => k_is)
    (case a29 => k_is); (case l29 => k_is); (case c29 => k_is); (case k29 => k_is)
    (case a30 => k_is); (case l30 => k_is); (case c30 => k_is); (case k30 => k_is)
    (case a31 => k_is); (case l31 => k_is); (case c31 => k_is); (case k31 => k_is)
    (case a32 => k_is); (case l32 => k_is); (case c32 => k_is); (case k32 => k_is)
    (case a33 => k_is); (case l33 => k_is); (case c33 => k_is); (case k33 => k_is)
    (case a34 => k_is); (case l34 => k_is); (case c34 => k_is); (case k34 => k_is)
    (case a35 => k_is); (case l35 => k_is); (case c35 => k_is); (case k35 => k_is)
    (case a36 => k_is); (case l36 => k_is); (case c36 => k_is); (case k36 => k_is)
    (case a37 => k_is); (case l37 => k_is); (case c37 => k_is); (case k37 => k_is)
    (case a38 => k_is); (case l38 => k_is); (case c38 => k_is); (case k38 => k_is)
    (case a39 => k_is); (case l39 => k_is); (case c39 => k_is); (case k39 => k_is)
    (case a40 => k_is); (case l40 => k_is); (case c40 => k_is); (case k40 => k_is)
    (case a41 => k_is); (case l41 => k_is); (case c41 => k_is); (case k41 => k_is)
    (case a42 => k_is); (case l42 => k_is); (case c42 => k_is); (case k42 => k_is)
    (case a43 => k_is); (case l43 => k_is); (case c43 => k_is); (case k43 => k_is)
    (case b0 => k_is); (case b1 => k_is); (case b2 => k_is); (case b3 => k_is); (case b4 => k_is); (case b5 => k_is); (case b6 => k_is); (case b7 => k_is); (case b8 => k_is); (case b9 => k_is); (case b10 => k_is); (case b11 => k_is); (case b12 => k_is); (case b13 => k_is); (case b14 => k_is); (case b15 => k_is); (case b16 => k_is); (case b17 => k_is); (case b18 => k_is); (case b19 => k_is); (case b20 => k_is)
    (case v0 => k_is); (case v1 => k_is); (case v2 => k_is); (case v3 => k_is); (case v4 => k_is); (case v5 => k_is); (case v6 => k_is); (case v7 => k_is); (case v8 => k_is); (case v9 => k_is); (case v10 => k_is)
    (case aC => first | k_is | rfl | k_exc)
    (case z2 => first | k_is | rfl | k_exc)
    (case aR => first | k_is | rfl | k_exc)
    (case aU => first | k_is | rfl | k_exc)
    (case w2 => first | k_is | rfl | k_exc)
    (case x1 => first | k_is | rfl | k_exc)
    (case x2 => first | k_is | rfl | k_exc)
    (case x3 => first | k_is | rfl | k_exc)
    (case x4 => first | k_is | rfl | k_exc)
    (case x5 => first | k_is | rfl | k_exc)
    (case x6 => first | k_is | rfl | k_exc)
    (case x7 => first | k_is | rfl | k_exc)
    (case y1 => first | k_is | rfl | k_exc)
    (case y2 => first | k_is | rfl | k_exc)
    (case y3 => first | k_is | rfl | k_exc)
    (case y4 => first | k_is | rfl | k_exc)
    (case y5 => first | k_is | rfl | k_exc)
    (case y6 => first | k_is | rfl | k_exc)
    (case z1 => first | k_is | rfl | k_exc)
    (case z3 => first | k_is | rfl | k_exc)
    (case z4 => first | k_is | rfl | k_exc)
    (case z5 => first | k_is | rfl | k_exc)
    (case z6 => first | k_is | rfl | k_exc)
    (case z7 => first | k_is | rfl | k_exc)
    (case q1 => first | k_is | rfl | k_exc)
    (case q2 => first | k_is | rfl | k_exc)
    (case q3 => first | k_is | rfl | k_exc)
    (case q4 => first | k_is | rfl | k_exc)
    (case u1 => first | k_is | rfl | k_exc)
    (case u2 => first | k_is | rfl | k_exc)
    (case u3 => first | k_is | rfl | k_exc)
    (case u4 => first | k_is | rfl | k_exc)
    (case u5 => first | k_is | rfl | k_exc)
    (case u6 => first | k_is | rfl | k_exc)
    (case u7 => first | k_is | rfl | k_exc)
    (case j1 => first | k_is | rfl | k_exc)
    (case j2 => first | k_is | rfl | k_exc)
    (case j3 => first | k_is | rfl | k_exc)
    (case j6 => first | k_is | rfl | k_exc)
    (case w1 => first | k_is | rfl | k_exc)
    (case w3 => first | k_is | rfl | k_exc)
    (case w4 => first | k_is | rfl | k_exc)
    (case w5 => first | k_is | rfl | k_exc)
    (case w6 => first | k_is | rfl | k_exc)
    (case w7 => first | k_is | rfl | k_exc)
