import PyProof.Rows.All
import Wide.All
import OpenK.AllK
import Wide.FinOn
import HandS.ForMost
import HandS.Wide
import HandS.TupAny
import HandS.TupMul
import HandS.IsInst
import HandS.Style
import PyProof.ReprRoads
import KE.DataEq
import HandS.Walk
import PyProof.StrLawsRepr
import PyProof.FitsInt
import KE.SortData
import KE.KExcInit
import KE.KExcIs
import KE.KIsAll
import HandS.ExcInit
import HandS.ExcField
import HandS.TryOnly
import HandS.Strs
import HandS.SetBool
import HandS.Conv
import HandS.Dict
import HandS.SetFor
import HandS.Zip
import KE.GoesZip
import KE.GoesMore
import KE.KEqDict
import KE.DataCmp
import HandS.Lambda
import HandS.Nested
import HandS.EndTab
import HandS.EndOwn
import HandS.TryMany
import HandS.CallLocal
import PyProof.RulesRaise
import PyProof.FactsTree
import PyProof.ExcClass
import PyProof.ExcBaseAll.LookupError
import HandS.ExcIs
import KE.GoesEnum
import PyProof.DictMoreH
import HandS.SetKeys
import KE.DataMinMax
import PyProof.Claim2Refuses
import PyProof.NeKinds
import HandS.ForExc
import HandS.Small
import KE.OsArith
import KE.BitLaws
import HandS.Iter
import KE.KStrOpen
import HandS.Text
import HandS.TupLe
import HandS.Set
import KE.KNestM
import PySem.Challenge.RW_spareskept_k31_tables_validated
set_option Elab.async false
set_option linter.all false
set_option maxRecDepth 100000
set_option maxHeartbeats 2000000
namespace KX
open PySem PySem.Spec PyProof.Rows L2

/-! ### data: what a value holds, through the tracked heap -/
mutual
inductive Dx (H : Hp) : V → PyData → Prop
  | non : Dx H .non .none
  | bl (b : Bool) : Dx H (.bl b) (.bool b)
  | int (i : Int) : Dx H (.int i) (.int i)
  | str (x : Str) : Dx H (.str x) (.str x)
  | lst {a : Addr} {xs : List V} {ds : List PyData} (e : H a = some (.lst xs)) (n : a ≠ sysModules) (h : Dxs H xs ds) : Dx H (.ref a) (.list ds)
  | tup {a : Addr} {xs : List V} {ds : List PyData} (e : H a = some (.tup xs)) (h : Dxs H xs ds) : Dx H (.ref a) (.tuple ds)
  | dic {a : Addr} (e : H a = some (.dK [])) : Dx H (.ref a) (.dict [])
  | dic1 {a : Addr} {x : Str} {i : Int} (e : H a = some (.dK [(.inr x, .int i)])) : Dx H (.ref a) (.dict [(.str x, .int i)])
inductive Dxs (H : Hp) : List V → List PyData → Prop
  | nil : Dxs H [] []
  | cons {v : V} {vs : List V} {d : PyData} {ds : List PyData} (h : Dx H v d) (t : Dxs H vs ds) : Dxs H (v :: vs) (d :: ds)
end

mutual
theorem Dx.mono {H H' : Hp} (s : Same H H') : ∀ (d : PyData) (v : V), Dx H v d → Dx H' v d
  | .none, _, h => by cases h; exact .non
  | .bool b, _, h => by cases h; exact .bl b
  | .int i, _, h => by cases h; exact .int i
  | .str x, _, h => by cases h; exact .str x
  | .list ds, _, h => by
    cases h with
    | lst e n h => exact .lst (s _ _ e) n (Dxs.mono s ds _ h)
  | .tuple ds, _, h => by
    cases h with
    | tup e h => exact .tup (s _ _ e) (Dxs.mono s ds _ h)
  | .dict ks, _, h => by
    cases h with
    | dic e => exact .dic (s _ _ e)
    | dic1 e => exact .dic1 (s _ _ e)
theorem Dxs.mono {H H' : Hp} (s : Same H H') : ∀ (ds : List PyData) (vs : List V), Dxs H vs ds → Dxs H' vs ds
  | [], _, h => by cases h; exact .nil
  | d :: ds, _, h => by
    cases h with
    | cons h t => exact .cons (Dx.mono s d _ h) (Dxs.mono s ds _ t)
end
theorem Dx.up {H H' : Hp} {v : V} {d : PyData} (h : Dx H v d) (s : Same H H') : Dx H' v d := Dx.mono s d v h
theorem Dxs.up {H H' : Hp} {v : List V} {d : List PyData} (h : Dxs H v d) (s : Same H H') : Dxs H' v d := Dxs.mono s d v h
theorem Dxs.len {H : Hp} : ∀ {vs : List V} {ds : List PyData}, Dxs H vs ds → vs.length = ds.length
  | _, _, .nil => rfl
  | _, _, .cons _ t => by simp [Dxs.len t]
theorem Dxs.get {H : Hp} : ∀ {vs : List V} {ds : List PyData} {i : Nat} {d : PyData}, Dxs H vs ds → ds[i]? = some d → ∃ v, vs[i]? = some v ∧ Dx H v d
  | _, _, i, d, .nil, e => by simp at e
  | _, _, 0, d, .cons h _, e => by simp at e; subst e; exact ⟨_, rfl, h⟩
  | _, _, i + 1, d, .cons _ t, e => by
    obtain ⟨v, e1, h⟩ := Dxs.get (i := i) t (by simpa using e)
    exact ⟨v, by simpa using e1, h⟩
theorem Dxs.get' {H : Hp} : ∀ {vs : List V} {ds : List PyData} {i : Nat} {v : V}, Dxs H vs ds → vs[i]? = some v → ∃ d, ds[i]? = some d ∧ Dx H v d
  | _, _, i, d, .nil, e => by simp at e
  | _, _, 0, d, .cons h _, e => by simp at e; subst e; exact ⟨_, rfl, h⟩
  | _, _, i + 1, d, .cons _ t, e => by
    obtain ⟨v, e1, h⟩ := Dxs.get' (i := i) t (by simpa using e)
    exact ⟨v, by simpa using e1, h⟩
theorem Dxs.app {H : Hp} : ∀ {vs : List V} {ds : List PyData} {ws : List V} {es : List PyData}, Dxs H vs ds → Dxs H ws es → Dxs H (vs ++ ws) (ds ++ es)
  | _, _, _, _, .nil, h => h
  | _, _, _, _, .cons h t, k => .cons h (Dxs.app t k)
theorem Dxs.take {H : Hp} : ∀ {vs : List V} {ds : List PyData} (n : Nat), Dxs H vs ds → Dxs H (vs.take n) (ds.take n)
  | _, _, 0, _ => .nil
  | _, _, _ + 1, .nil => .nil
  | _, _, n + 1, .cons h t => .cons h (Dxs.take n t)
theorem Dxs.drop {H : Hp} : ∀ {vs : List V} {ds : List PyData} (n : Nat), Dxs H vs ds → Dxs H (vs.drop n) (ds.drop n)
  | _, _, 0, h => h
  | _, _, _ + 1, .nil => .nil
  | _, _, n + 1, .cons _ t => Dxs.drop n t
theorem Dxs.rev {H : Hp} : ∀ {vs : List V} {ds : List PyData}, Dxs H vs ds → Dxs H vs.reverse ds.reverse
  | _, _, .nil => .nil
  | _, _, .cons h t => by
    rw [List.reverse_cons, List.reverse_cons]
    exact (Dxs.rev t).app (.cons h .nil)

section
variable {X : Cx} {pins : List (Addr × Obj)} {σ : L2.St} {H : Hp} {s : Shared}
mutual
theorem Dx.reads (I : Inv X pins σ H s) : ∀ (d : PyData) (v : V) (u : Value), Dx H v d → RelV v u → ∃ as, Reads s.heap u d as ∧ sysModules ∉ as
  | .none, _, _, h, r => by
    cases h
    cases r
    exact ⟨_, Reads.none, by simp⟩
  | .bool b, _, _, h, r => by
    cases h
    cases r
    exact ⟨_, Reads.bool b, by simp⟩
  | .int i, _, _, h, r => by
    cases h
    obtain ⟨t, rfl⟩ := r
    exact ⟨_, Reads.int i t, by simp⟩
  | .str x, _, _, h, r => by
    cases h
    obtain ⟨t, rfl⟩ := r
    exact ⟨_, Reads.str x t, by simp⟩
  | .list ds, _, _, h, r => by
    cases h with
    | @lst a xs _ e ne h =>
      cases r
      have hs : SqL X.K H a xs := .inl (.inl e)
      obtain ⟨its, rv, ⟨o, n, ho, hc, _, hd⟩, _⟩ := I.list hs
      obtain ⟨as, hr, hn⟩ := Dxs.reads I ds _ its h rv
      refine ⟨_, Reads.list ho hc hd hr, fun z => ?_⟩
      rcases List.mem_cons.mp z with z | z
      · exact ne z.symm
      · exact hn z
  | .tuple ds, _, _, h, r => by
    cases h with
    | @tup a xs _ e h =>
      cases r
      have hs : SqT X.K H a xs := .inl (.inl e)
      obtain ⟨its, rv, ⟨o, ho, hc, n, hd⟩, _⟩ := I.tuple hs
      obtain ⟨as, hr, hn⟩ := Dxs.reads I ds _ its h rv
      exact ⟨_, Reads.tuple ho hc hd hr, hn⟩
  | .dict ks, _, _, h, r => by
    cases h with
    | @dic a e =>
      cases r
      obtain ⟨z, y, vs, r, o, es, ep, e1, ex, ed, hm⟩ := (show ObjOk X.prog X.w H s.heap a (.dK []) from I.hok a _ e)
      cases r
      have hes : es = #[] := by
        obtain ⟨es⟩ := es
        have hl := hm.2.1.length
        cases es with
        | nil => rfl
        | cons x l => simp at hl
      subst hes
      refine ⟨_, Reads.dict (kvs := []) e1 ex.1 ed .nil .nil, fun z => ?_⟩
      have z : sysModules = a := by simpa using z
      rw [z] at y
      simp at y
    | @dic1 a x i e =>
      cases r
      obtain ⟨z, y, vs, r, o, es, ep, e1, ex, ed, hm⟩ := (show ObjOk X.prog X.w H s.heap a (.dK [(.inr x, .int i)]) from I.hok a _ e)
      obtain ⟨es⟩ := es
      obtain ⟨_, hp, _⟩ := hm
      match vs, r, hp with
      | [(k, u)], .cons ⟨hk, tk, hu⟩ .nil, hp =>
        dsimp only at hk hu
        subst hk hu
        match es, hp, ed with
        | [en], .cons a1 a2 .nil, ed =>
          have a1' : keyIs (Sum.inr x) en.key = true := a1
          obtain ⟨q, t, hq1, hq2⟩ := (keyIs_shape a1').resolve_left (fun z => by obtain ⟨_, _, z, _⟩ := z; cases z)
          cases hq1
          refine ⟨_, Reads.dict (kvs := [(.str x, .int i)]) (as := []) (bs := []) e1 ex.1 ed ?_ ?_, fun z => ?_⟩
          · show ReadsAll s.heap [en.key] [PyData.str x] _
            rw [hq2]
            exact ReadsAll.cons (as := []) (bs := []) (.str x t) .nil
          · show ReadsAll s.heap [en.val] [PyData.int i] _
            rw [a2]
            exact ReadsAll.cons (as := []) (bs := []) (.int i tk) .nil
          · have z : sysModules = a := by simpa using z
            rw [z] at y
            simp at y
theorem Dxs.reads (I : Inv X pins σ H s) : ∀ (ds : List PyData) (vs : List V) (us : List Value), Dxs H vs ds → Vals vs us → ∃ as, ReadsAll s.heap us ds as ∧ sysModules ∉ as
  | [], _, _, h, r => by
    cases h
    cases r
    exact ⟨_, ReadsAll.nil, by simp⟩
  | d :: ds, _, _, h, r => by
    cases h with
    | cons h1 h2 =>
      cases r with
      | cons r1 r2 =>
        obtain ⟨as, q1, n1⟩ := Dx.reads I d _ _ h1 r1
        obtain ⟨bs, q2, n2⟩ := Dxs.reads I ds _ _ h2 r2
        exact ⟨_, ReadsAll.cons q1 q2, by simp [n1, n2]⟩
end
/-- a new address is none of the first ones -/
theorem new_big (I : Inv X pins σ H s) {p : Addr} (h : s.heap.objs.size ≤ p) : p ≠ sysModules := by
  intro z
  have h1 : mainGlobals < X.base.objs.size := I.ok.mod.glob.lt
  have h2 := I.ok.bsz
  have h3 := I.sz
  have h4 : sysModules < mainGlobals := by decide
  rw [z] at h
  exact absurd (Nat.lt_of_lt_of_le h4 (Nat.le_trans (Nat.le_of_lt h1) (Nat.le_trans h2 (Nat.le_trans h3 h)))) (Nat.lt_irrefl _)
end

section
variable {X : Cx}
/-- a list that is written, its address none of the first -/
def tLstS (t : TA) : TE := fun σ H Q => t σ H fun xs H1 => xs.length ≤ sizeLine ∧ ∀ p, H1 p = none → p ≠ sysModules → Q (.ref p) (upd H1 p (.lst xs))
theorem pe_lstS {es : List Expr} {t : TA} {pos : Pos} (ha : PA X es t) : PE X (.List es pos) (tLstS t) := by
  constructor
  intro pins s σ H Q I hq
  refine wpAny_List_spliced (thn (ha.run pos pins s σ H _ I hq) fun us s1 hh => ?_)
  obtain ⟨xs, H1, I1, r, z, q⟩ := hh
  have nf : H1 s1.heap.objs.size = none := I1.hok.fresh (Nat.le_refl _)
  refine ⟨by rw [← r.length]; exact z, .ref s1.heap.objs.size, upd H1 s1.heap.objs.size (.lst xs), ?_, rfl, q _ nf (new_big I1 (Nat.le_refl _))⟩
  exact I1.laid (t' := s1.toks) (fun b u e => Heap.get?_push_of_some _ e) (Nat.le_refl _) ⟨z, us, 0, r, Heap.get?_push_size _ rfl⟩
/-- list(t), t a tuple or a list of data -/
theorem call_listS : CallR X (.type "list") (fun xs H Q => ∃ p ys, xs = [.ref p] ∧ (SqL X.K H p ys ∨ SqT X.K H p ys) ∧ ∀ l, H l = none → l ≠ sysModules → Q (.ref l) (upd H l (.lst ys))) := by
  intro pins s σ H xs us Q I r h
  obtain ⟨p, ys, e, hq, q⟩ := h
  subst e
  obtain ⟨u, rfl, rx⟩ := vals1 r
  cases rx
  have nf : H s.heap.objs.size = none := I.hok.fresh (Nat.le_refl _)
  have fin : ∀ (its : List Value), Vals ys its → ys.length ≤ sizeLine → ∀ (g : Heap) (c : Nat), (∀ b o', s.heap.get? b = some o' → g.get? b = some o') →
      g.get? s.heap.objs.size = some { cls := .type "list", dict := none, data := .seq its.toArray c, slots := #[] } → EP X pins σ Q (.ref s.heap.objs.size) { s with heap := g } := by
    intro its rv hz g c kp e
    refine ⟨.ref s.heap.objs.size, _, I.laid (t' := s.toks) kp (Nat.le_refl _) (o := .lst ys) ⟨hz, its, c, rv, e⟩, rfl, q _ nf (new_big I (Nat.le_refl _))⟩
  rcases hq with hq | hq
  · obtain ⟨its, rv, pl, hz⟩ := I.list hq
    have hlen := rv.length
    obtain ⟨o, ho, hc, n, hd⟩ := pl.isList
    exact call_list_seq p (.inl rfl) ho hc hd (fun g c kp e => fin its rv hz g c kp e) (by simp only [List.size_toArray] <;> omega)
  · obtain ⟨its, rv, pl, hz⟩ := I.tuple hq
    have hlen := rv.length
    obtain ⟨o, ho, hc, n, hd⟩ := pl
    exact call_list_seq p (.inr rfl) ho hc hd (fun g c kp e => fin its rv hz g c kp e) (by simp only [List.size_toArray] <;> omega)
/-- repr(x), x data -/
def rReprD : List V → Hp → VK → Prop := fun xs H Q => ∃ x d, xs = [x] ∧ Dx H x d ∧ d.showable = true ∧ d.depth ≤ 100 ∧ d.shown.length ≤ sizeLine ∧ Q (.str d.shown) H
theorem call_reprD {k : Nat} (hr : Room k X.A) (hg : X.A.guards = some []) : CallR X (.builtin "repr") rReprD := by
  intro pins s σ H xs us Q I r h
  obtain ⟨x, d, e, hd, hs, hdp, hz, q⟩ := h
  subst e
  obtain ⟨u, rfl, rx⟩ := vals1 r
  obtain ⟨as, hrd, hn⟩ := Dx.reads I d x u hd rx
  have hu := hr.un
  have fin : ∀ h' u' tk, (∀ b o, s.heap.get? b = some o → h'.get? b = some o) → EP X pins σ Q (.str d.shown u') { s with heap := h', toks := tk } := fun h' u' tk hk =>
    ⟨.str d.shown, H, I.kept (t' := tk) hk, ⟨_, rfl⟩, q⟩
  cases hd with
  | non =>
    cases (show u = Value.none from rx)
    simp only [PyData.shown] at fin
    exact PySem.P.repr_of_none (fin _ _ _ fun _ _ e => e)
  | bl b =>
    cases (show u = Value.bool b from rx)
    simp only [PyData.shown] at fin
    exact PySem.P.repr_of_bool (fin _ _ _ fun _ _ e => e)
  | int i =>
    obtain ⟨t, z⟩ := (show ∃ t, u = Value.int i t from rx)
    cases z
    simp only [PyData.shown] at fin
    exact PySem.P.repr_of_int (by simpa [PyData.showable] using hs) (fin _ _ _ fun _ _ e => e)
  | str y =>
    obtain ⟨t, z⟩ := (show ∃ t, u = Value.str y t from rx)
    cases z
    simp only [PyData.shown] at fin hz
    exact PySem.P.repr_of_str (fin _ _ _ fun _ _ e => e) hz
  | lst e n h =>
    cases (show u = Value.ref _ from rx)
    exact repr_of_reads' hrd hs (fun _ => hn) hg (by omega) (fun _ _ e => e) fin hz
  | tup e h =>
    cases (show u = Value.ref _ from rx)
    exact repr_of_reads' hrd hs (fun _ => hn) hg (by omega) (fun _ _ e => e) fin hz
  | dic e =>
    cases (show u = Value.ref _ from rx)
    exact repr_of_reads' hrd hs (fun _ => hn) hg (by omega) (fun _ _ e => e) fin hz
  | dic1 e =>
    cases (show u = Value.ref _ from rx)
    exact repr_of_reads' hrd hs (fun _ => hn) hg (by omega) (fun _ _ e => e) fin hz
end
end KX

set_option maxRecDepth 100000
set_option maxHeartbeats 4000000
namespace KX
open PySem PySem.Spec PyProof.Rows L2 HT
section
variable {prog : Program} {w : World} {A : Around} {E : Value → Shared → Prop} {s : Shared}
theorem rev_adjust (n : Nat) : Builtin.Slice.sliceAdjust none none (-1) (n : Int) = ((n : Int) - 1, -1) := by
  unfold Builtin.Slice.sliceAdjust
  simp
theorem rev_places (n : Nat) : Builtin.Slice.slicePlaces ((n : Int) - 1) (-1) (-1) = n := by
  unfold Builtin.Slice.slicePlaces
  rw [if_neg (by decide)]
  by_cases h : (n : Int) - 1 > -1
  · rw [if_pos h]
    have : ((n : Int) - 1 - -1 - 1) / (- -1) + 1 = (n : Int) := by
      rw [show (- -1 : Int) = 1 by decide, Int.ediv_one]
      omega
    rw [this, Int.toNat_natCast]
  · rw [if_neg h]
    have : n = 0 := by omega
    subst this
    rfl
theorem rev_pick (xs : Array Value) : ((List.range xs.size).filterMap fun (k : Nat) => xs[(((xs.size : Nat) : Int) - 1 + (k : Int) * (-1)).toNat]?).toArray = xs.toList.reverse.toArray := by
  have e : (fun (k : Nat) => xs[(((xs.size : Nat) : Int) - 1 + (k : Int) * (-1)).toNat]?) = fun (k : Nat) => xs[xs.size - 1 - k]? := by
    funext k
    have : (((xs.size : Nat) : Int) - 1 + (k : Int) * (-1)).toNat = xs.size - 1 - k := by omega
    rw [this]
  rw [e]
  have e2 : (fun (k : Nat) => xs[xs.size - 1 - k]?) = (fun i => xs[i]?) ∘ fun k => xs.size - 1 - k := rfl
  rw [e2, ← List.filterMap_map, PySem.W.krv_range, List.filterMap_reverse, PySem.W.krv_all]
theorem applied_rev {sl : Addr} {vs : Value} {n : Nat} {Q : Int × Int × Nat → Shared → Prop} (hs : s.heap.IsSliceOf sl .none .none vs) (ps : IsPart vs (some (-1)))
    (h : Q ((n : Int) - 1, -1, n) s) : wpAny (model prog w) A (Builtin.Slice.sliceApplied (.ref sl) (pure (n : Int))) Q E s := by
  obtain ⟨os, hos, hcs, hds⟩ := id hs
  unfold Builtin.Slice.sliceApplied Builtin.Slice.sliceFields
  refine wpAny_bind (wpAny_bind (wpAny_field hos hds (x := .none) rfl (wpAny_bind (wpAny_field hos hds (x := .none) rfl (wpAny_bind (wpAny_field hos hds (x := vs) rfl (wpAny_pure ?_)))))))
  refine wpAny_bind (slicePart_ ps ?_)
  show wpAny _ _ (if ((-1 : Int) == 0) = true then _ else _) _ _ s
  rw [if_neg (by decide)]
  refine wpAny_bind (slicePart_none (wpAny_bind (slicePart_none (wpAny_bind (wpAny_pure ?_)))))
  show wpAny _ _ (match Builtin.Slice.sliceAdjust none none (-1) (n : Int) with | (lo, hi) => pure (lo, (-1 : Int), Builtin.Slice.slicePlaces lo hi (-1))) _ _ s
  rw [rev_adjust n]
  show wpAny _ _ (pure ((n : Int) - 1, (-1 : Int), Builtin.Slice.slicePlaces ((n : Int) - 1) (-1) (-1))) _ _ s
  rw [rev_places]
  exact wpAny_pure h
theorem getItem_tuple_rev {t sl : Addr} {items : Array Value} {vs : Value} {Q : Value → Shared → Prop} (ht : IsTup s.heap t items) (hs : s.heap.IsSliceOf sl .none .none vs) (ps : IsPart vs (some (-1)))
    (h : Q (.ref s.heap.objs.size) { s with heap := s.heap.push { cls := .type "tuple", data := .seq items.toList.reverse.toArray } })
    (hsz : items.size ≤ sizeLine) : wpAny (model prog w) A (getItem (.ref t) (.ref sl)) Q E s := by
  have htk : sizeOk (.seq items.toList.reverse.toArray) := by
    show items.toList.reverse.toArray.size ≤ sizeLine
    rw [List.size_toArray, List.length_reverse, Array.length_toList]
    exact hsz
  obtain ⟨os, hos, hcs, hds⟩ := id hs
  have hTs : s.TypeIs (.ref sl) "slice" := ⟨os, hos, hcs⟩
  unfold getItem
  try with_reducible refine wpAny_holding ?_
  first | refine wpAny_bind (wpAny_pure ?_) | skip
  refine wpAny_bind (wpAny_sequenceKey ht.typeIs (by decide) ?_)
  refine wpAny_bind (wpAny_callSpecial?_slot (name := Str.ofString "__getitem__") ht.typeIs PyProof.Rows.slot_tuple_getitem
    (wpAny_call_entry PyProof.Rows.slot_tuple_getitem ht.typeIs entry_tuple_getitem ?_ (args_tuple_getitem _ _)))
  show wpAny _ _ (Builtin.Tuple.tupleItemsOf (.ref t) >>= _) _ _ s
  refine wpAny_bind (tupleItemsOf_ ht ?_)
  refine wpAny_bind (wpAny_typeOf hTs ?_)
  rw [if_pos (by decide)]
  refine wpAny_bind (applied_rev hs ps ?_)
  have hno : ¬ ((((items.size : Nat) : Int) - 1 == 0 && (-1 : Int) == 1 && items.size == items.size) = true) := by
    intro q
    rw [Bool.and_eq_true, Bool.and_eq_true] at q
    exact absurd q.1.2 (by decide)
  show wpAny _ _ (if (((items.size : Nat) : Int) - 1 == 0 && (-1 : Int) == 1 && items.size == items.size) = true then _ else _) _ _ s
  rw [if_neg hno, rev_pick]
  first
    | exact wpAny_bind (m := Builtin.Tuple.tupleExact _) (wpAny_newObj_type (wpAny_pure ⟨_, rfl, wpAny_pure h⟩) htk)
    | exact wpAny_bind (m := Builtin.Tuple.tupleExact _) (wpAny_newObj_type (wpAny_bind (wpAny_pure (wpAny_pure ⟨_, rfl, wpAny_pure h⟩))) htk)
    | exact wpAny_bind (wpAny_bind (m := Builtin.Tuple.tupleExact _) (wpAny_newObj_type (wpAny_pure (wpAny_pure ⟨_, rfl, wpAny_pure h⟩)) htk))
    | exact wpAny_bind (wpAny_bind (m := Builtin.Tuple.tupleExact _) (wpAny_newObj_type (wpAny_pure ⟨_, rfl, wpAny_pure h⟩) htk))
end
section
variable {X : Cx}
/-- t[::-1], t a tuple: a new tuple -/
def tRevT (K : PySem.W.Frag) (te : TE) : TE := fun σ H Q => te σ H fun x H1 => ∃ a xs, x = .ref a ∧ SqT K H1 a xs ∧ ∀ p, H1 p = none → Q (.ref p) (upd H1 p (.tup xs.reverse))
theorem pe_revT {e : Expr} {te : TE} {k : Nat} {p1 p2 p3 pos : Pos} (he : PE X e te) : PE X (.Subscript e (.Slice none none (some (.UnaryOp .USub (.Constant (.int 1) k p1) p2)) p3) pos) (tRevT X.K te) := by
  constructor
  intro pins s σ H Q I h
  refine Subscript_ (thn (he.run pins s σ H _ I h) fun v s1 hh => ?_)
  obtain ⟨x, H1, I1, r1, a, xs, ex, hx, q⟩ := hh
  subst ex
  cases r1
  have hst : PO X (some (.UnaryOp .USub (.Constant (.int 1) k p1) p2)) (tPart (tUn (rU fun i => .int (-i)) (tC (.int 1)))) := po_some (pe_un un_neg pe_int)
  refine wpAny_Slice (thn (po_none.run pins s1 σ H1 (fun o H2 => o = none ∧ H2 = H1) I1 ⟨rfl, rfl⟩) fun vl s2 hh2 => ?_)
  obtain ⟨l, H2, I2, pl, el, e2⟩ := hh2
  subst el e2
  refine thn (po_none.run pins s2 σ H2 (fun o H3 => o = none ∧ H3 = H2) I2 ⟨rfl, rfl⟩) fun vu s3 hh3 => ?_
  obtain ⟨u, H3, I3, pu, eu, e3⟩ := hh3
  subst eu e3
  refine thn (hst.run pins s3 σ H3 (fun o H4 => o = some (-1) ∧ H4 = H3) I3 ⟨1, rfl, -1, rfl, rfl, rfl⟩) fun vs s4 hh4 => ?_
  obtain ⟨o, H4, I4, ps, eo, e4⟩ := hh4
  subst eo e4
  cases pl
  cases pu
  have I5 : Inv X pins σ H4 { s4 with heap := s4.heap.push { cls := .type "slice", data := .fields #[.none, .none, vs] } } := I4.kept (t' := s4.toks) fun b ob q => Heap.get?_push_of_some _ q
  obtain ⟨its, r, ht, hz⟩ := I5.tuple hx
  have hlen := r.length
  show wpAny (model X.prog X.w) X.A (subscriptTail e (.Slice none none (some (.UnaryOp .USub (.Constant (.int 1) k p1) p2)) p3) (.ref a) (.ref s4.heap.objs.size)) (EP X pins σ Q) X.xe { s4 with heap := s4.heap.push { cls := .type "slice", data := .fields #[.none, .none, vs] } }
  refine tail_any (ops := [.ref a, .ref s4.heap.objs.size]) ht.typeIs (PyProof.Rows.slot_tuple_getitem.lookup) ?_ (by with_unfolding_all rfl)
  refine getItem_tuple_rev ht (Heap.IsSliceOf.new _ .none .none vs) ps ?_ (by rw [List.size_toArray]; omega)
  refine ⟨.ref _, _, I5.laid (t' := s4.toks) (o := .tup xs.reverse) (fun b ob q => Heap.get?_push_of_some _ q) (Nat.le_refl _) ?_, rfl, q _ (I5.hok.fresh (Nat.le_refl _))⟩
  exact ⟨by rw [List.length_reverse]; exact hz, _, r.reverse, IsTup.new _ _⟩
/-- a power, great -/
theorem op_powW : OpR X (binaryOp .Pow) (rI (fun i j => 0 ≤ j ∧ (Builtin.Int.intBits i : Int) * j ≤ 2 ^ 27) fun i j => .int (i ^ j.toNat)) := opI fun _ _ _ _ _ _ _ hc q => pow_int hc.1 hc.2 q
end
end KX

set_option maxRecDepth 100000
set_option maxHeartbeats 4000000
namespace KX
open PySem PySem.Spec PyProof.Rows L2
/-! ### a def that shows data (repr): its promise where no repr runs around it -/
structure FnG (P : Program) (w : World) (K : PySem.W.Frag) (mg : Str → Option Value) (base : Heap) (CX : CXT) (k : Nat) (f : Addr) (fd : FuncData) (ps : List Str) (sp : Sp) : Prop where
  len : ∀ vs H Q E, sp vs H Q E → vs.length = ps.length
  run : ∀ (B : Around) (outs : List Env) (t : Shared) (H : Hp) (given : Args) (us : List Value) (vs : List V) (Q : VK) (E : XK), B.guards = some [] → Room k B → Env0 P w K mg base B outs t H →
    BindsTo t fd given (ps.zip us) → Vals vs us → sp vs H Q E → codeAny (model P w) B (.call (.ref f) given) (CR CX outs P w H t Q E) t
theorem FnG.mono {P : Program} {w : World} {K : PySem.W.Frag} {mg : Str → Option Value} {base : Heap} {CX : CXT} {j k : Nat} {f : Addr} {fd : FuncData} {ps : List Str} {sp : Sp} (F : FnG P w K mg base CX j f fd ps sp) (h : j ≤ k) :
    FnG P w K mg base CX k f fd ps sp := ⟨F.len, fun B outs t H given us vs Q E hg hr => F.run B outs t H given us vs Q E hg (hr.mono h)⟩
section
variable {X : Cx} {CX : CXT} {k : Nat} {f : Addr} {fd : FuncData} {ps : List Str} {sp : Sp} {dvs : List V} {ds : List Value} {E : XK} {x : Str} {p pos : Pos} {e : Expr} {es : List Expr} {t : TA}
theorem run_fnG {pins : List (Addr × Obj)} {σ : L2.St} {H : Hp} {s : Shared} {Q : VK} {us : List Value} {vs : List V} (F : FnG X.prog X.w X.K X.mg X.base CX k f fd ps sp) (hg : X.A.guards = some []) (hr : Room k X.A) (hb : Binds X.K fd ps ds)
    (hd : Vals dvs ds) (hx : Passes CX X E) (I : Inv X pins σ H s) (r : Vals vs us) (h : sp (vs ++ dvs) H Q E) : wpAny (model X.prog X.w) X.A (call (.ref f) us) (EP X pins σ Q) X.xe s := by
  have r2 : Vals (vs ++ dvs) (us ++ ds) := r.append hd
  have hl : (us ++ ds).length = ps.length := by
    rw [← r2.length]
    exact F.len _ _ _ _ h
  refine wpAny_call (codeAny_mono (F.run X.A X.stack s H ⟨us, []⟩ (us ++ ds) (vs ++ dvs) Q E hg hr I.env0 (hb s us I.kIn hl) r2 h) fun r s' hq => ?_)
  match r, hq with
  | .error e, hq => exact hx pins σ H s e s' I hq
  | .ok (.ret u), hq => exact I.after hq
theorem pe_callG (F : FnG X.prog X.w X.K X.mg X.base CX k f fd ps sp) (hgd : X.A.guards = some []) (hr : Room k X.A) (hg : Gl X x) (hm : X.mg x = some (.ref f)) (hk : PySem.W.keepIn X.K (.ref f) = true) (hb : Binds X.K fd ps ds)
    (hd : Vals dvs ds) (hx : Passes CX X E) (ha : PA X (e :: es) t) (hdb : (x == ("__debug__" : Str)) = false := by decide) (he : starEach (e :: es) X.env = (false, eval e X.env) :: starEach es X.env := by rfl)
    (hpl : (backTo pos (starEach es X.env)).any (·.1) = false := by rfl) : PE X (.Call (.Name x p) (e :: es) [] pos) (tCall sp dvs E t) := by
  constructor
  intro pins s σ H Q I h
  refine wpAny_Call_Name_kw (ld_glob I hg hm ?_ hdb)
  refine PySem.W.callWith_K (h₀ := X.base) I.ok.mod.kin hk (thn (ha.run pos pins s σ H _ I h) fun us s1 hh => ?_) he hpl
  obtain ⟨vs, H1, I1, r, q⟩ := hh
  exact ⟨I1.kIn, run_fnG F hgd hr hb hd hx I1 r q⟩
end
/-- a def of the text, where no repr runs around it -/
theorem fn_ofG {CX : CXT} {P : Program} {w : World} {K : PySem.W.Frag} {mg : Str → Option Value} {base : Heap} {k : Nat} {f : Addr} {name qual : Str} {params : Arguments} {body : List Stmt} {scope : Scope} {dV kV doc pm cdv ct oc : Value}
    {an od : Option Addr} {osl : Array (Option Value)} {N ps : List Str} {sp : Sp} (lk : K.lookup f = some ⟨oc, od, .func (PySem.W.fnOf name qual params body scope dV kV doc pm an cdv ct), osl⟩) (hcd : PySem.W.codeIn K cdv qual = true)
    (S : FnScope N ps scope) (len : ∀ vs H Q E, sp vs H Q E → vs.length = ps.length)
    (hbody : ∀ (B : Around) (outs : List Env) (s : Shared) (H : Hp) (vs : List V) (Q : VK) (E : XK), (B.deeper (envOfC qual scope s.heap.objs.size f cdv)).guards = some [] → Room k (B.deeper (envOfC qual scope s.heap.objs.size f cdv)) → sp vs H Q E →
      ∃ t, PSs (cxOf CX P w K mg base N qual scope f cdv B outs s H E) body t ∧ t { nx := fun _ H' => Q .non H', rt := Q } (start N vs) H) :
    FnG P w K mg base CX (k + 1) f (PySem.W.fnOf name qual params body scope dV kV doc pm an cdv ct) ps sp := by
  refine ⟨len, fun B outs s H given us vs Q E hg hr e0 hb r hsp => ?_⟩
  have hl := len _ _ _ _ hsp
  have KX : K.In s.heap := e0.mod.kin.keeps fun b o e => (e0.bs b o e).1
  have lim : s.heap.NoLimit := e0.mod.nolimit.keeps fun b o e => (e0.bs b o e).1
  have hkind : ∀ y ∈ ps.zip us, scope.names.lookup y.1 = some .local ∨ (scope.names.lookup y.1 = some .cell ∧ ((cellsFrom (s.heap.objs.size + 1) scope.names []).lookup y.1).isSome = true) := by
    rintro ⟨n, v⟩ hy
    rcases S.par n (List.of_mem_zip hy).1 with q | q
    · exact .inl q
    · exact .inr ⟨q, PySem.W.cellsFrom_some _ _ _ (.inl q)⟩
  refine codeAny_call_function hr.depth (KX _ _ lk) rfl S.co S.gen rfl (PySem.W.codeRec_of KX hcd) (hb _ _ _ _ ?_)
  refine wpAny_newFunctionEnv_cells S.kind hkind fun env he s1 x => ?_
  subst he
  refine ⟨lim.keeps x.toInCall.keep, codeAny_func ?_⟩
  obtain ⟨t, ht, hq⟩ := hbody B outs s H vs Q E hg (hr.deeper _) hsp
  have I : Inv (cxOf CX P w K mg base N qual scope f cdv B outs s H E) [] (start N vs) H s1 := inv_start S hr.hd e0 hl r x
  refine wpAny_mono (ht.run [] s1 (start N vs) H _ I hq) (fun fl s' hs => ?_) fun e s' hs => hs
  match fl, hs with
  | .ret u, hs =>
    obtain ⟨v, σ', H', J, rv, q⟩ := hs
    exact ⟨v, H', J.os, J.bare, J.base, J.hok, rv, q⟩
  | .next, hs =>
    obtain ⟨σ', H', J, q⟩ := hs
    exact ⟨V.non, H', J.os, J.bare, J.base, J.hok, rfl, q⟩
  | .brk, hs =>
    obtain ⟨_, _, _, q⟩ := hs
    exact False.elim q
  | .cont, hs =>
    obtain ⟨_, _, _, q⟩ := hs
    exact False.elim q
theorem okG {P : Program} {w : World} {K : PySem.W.Frag} {mg : Str → Option Value} {base : Heap} {x qual : Str} {st : Stmt} {f : Addr} {fd : FuncData} {N ps : List Str} {k : Nat} {sp : Sp} (F : Fun K x qual st f fd) (S : FnScope N ps (defScope st))
    (len : ∀ vs H Q E, sp vs H Q E → vs.length = ps.length)
    (hbody : ∀ (cdv : Value) (B : Around) (outs : List Env) (s : Shared) (H : Hp) (vs : List V) (Q : VK) (E : XK), (B.deeper (envOfC qual (defScope st) s.heap.objs.size f cdv)).guards = some [] → Room k (B.deeper (envOfC qual (defScope st) s.heap.objs.size f cdv)) →
      sp vs H Q E → ∃ t, PSs (cxOf CX0 P w K mg base N qual (defScope st) f cdv B outs s H E).nox (defBody st) t ∧ t { nx := fun _ H' => Q .non H', rt := Q } (start N vs) H) : FnG P w K mg base CX0 (k + 1) f fd ps sp := by
  obtain ⟨oc, od, kV, doc, pm, an, cdv, ct, osl, rfl, lk, hcd⟩ := F.ex
  refine fn_ofG lk hcd S len fun B outs s H vs Q E hg hr hsp => ?_
  obtain ⟨t, h, q⟩ := hbody cdv B outs s H vs Q E hg hr hsp
  exact ⟨t, h.nox, q⟩

/-! ### the law's call -/
theorem lawG {P : Program} {w : World} {K : PySem.W.Frag} {mg mb : Str → Option Value} {k : Nat} {fa a : Addr} {fd : FuncData} {x : Str} {sp : Sp} {s1 : Shared} {vs : List Value} {ns : List Int}
    (KX : K.In s1.heap) (hns : s1.heap.Ns mainGlobals mg) (hb : s1.heap.Ns builtinsNs mb) (hbb : ∀ x : Str, x ≠ "__name__" → mb x = bootBuiltins x) (hlim : s1.heap.NoLimit) (hg : s1.gens = #[])
    (ha : s1.heap.get? a = some { cls := .type "list", data := .seq vs.toArray }) (hi : IntsAre vs ns) (hl : ns.length ≤ sizeLine) (hr : Room k callerA)
    (F : ∀ base : Heap, K.In base → base.Ns mainGlobals mg → FnG P w K mg base CX0 k fa fd [x] sp) (hbind : ∀ (s : Shared) (u : Value), BindsTo s fd ⟨[u], []⟩ [(x, u)])
    (hsp : ∀ H : Hp, SqL K H a (ns.map V.int) → (∀ b o, H b = some o → ∃ ob u, o = .frz ob u) → sp [.ref a] H (fun v _ => v = .bl true) fun _ _ _ => False) :
    codeAny (model P w) callerA (.call (.ref fa) ⟨[.ref a], []⟩) (fun r s' => r = .ok (.ret (.bool true)) ∧ OldK s1.heap s'.heap ∧ s'.os = s1.os ∧ AllBare s'.gens) s1 := by
  have rv := vals_ints hi
  have lenV := hi.length
  -- the script at a, known to the object, where it is no object of the module; nothing else
  have main : ∀ H : Hp, (∀ b o, H b = some o → b = a ∧ K.lookup a = none ∧ o = .frz { cls := .type "list", data := .seq vs.toArray } (.lst (ns.map V.int))) → SqL K H a (ns.map V.int) →
      codeAny (model P w) callerA (.call (.ref fa) ⟨[.ref a], []⟩) (fun r s' => r = .ok (.ret (.bool true)) ∧ OldK s1.heap s'.heap ∧ s'.os = s1.os ∧ AllBare s'.gens) s1 := by
    intro H hO hS
    have hok : HOk P w H s1.heap := fun b o e => by
      obtain ⟨e1, _, e2⟩ := hO b o e
      subst e1 e2
      exact ⟨ha, by rw [List.length_map]; exact hl, vs, _, rv, ha⟩
    have keep : ∀ {b : Addr} {o : Obj}, s1.heap.get? b = some o → (b = a → False) → (hidT s1.heap H).get? b = some o := fun {b o} e n => hidT_get e (by
      cases q : H b with
      | none => rfl
      | some u => exact (n (hO b u q).1).elim)
    have nsK : ∀ {b : Addr} {m : Str → Option Value}, s1.heap.Ns b m → (hidT s1.heap H).Ns b m := fun {b m} hn => by
      obtain ⟨o, es, ep, e, d, r⟩ := hn
      refine ⟨o, es, ep, keep e fun z => ?_, d, r⟩
      subst z
      rw [ha] at e
      cases e
      cases d
    have hKb : K.In (hidT s1.heap H) := fun b o e => hidT_get (KX b o e) (by
      cases q : H b with
      | none => rfl
      | some u =>
        obtain ⟨e1, e2, _⟩ := hO b u q
        rw [e1, e2] at e
        cases e)
    have hM : Mod K mg (hidT s1.heap H) := ⟨hKb, nsK hns, ⟨mb, nsK hb, hbb⟩, let ⟨mc, h1, h2⟩ := hlim; ⟨mc, nsK h1, h2⟩⟩
    have e0 : Env0 P w K mg (hidT s1.heap H) callerA [] s1 H := ⟨rfl, hM, fun b o e => of_hidT e, Nat.le_of_eq (hidT_size _ _), trivial, fun b hb => absurd (show b ∈ ([] : List Addr) from hb) (by simp), hok, .of_eq hg⟩
    have fr : ∀ b o, H b = some o → ∃ ob u, o = .frz ob u := fun b o e => ⟨_, _, (hO b o e).2.2⟩
    refine codeAny_mono ((F _ hKb (nsK hns)).run callerA [] s1 H ⟨[.ref a], []⟩ [.ref a] [.ref a] _ _ rfl hr e0 (hbind s1 (.ref a)) (.cons rfl .nil) (hsp H hS fr)) fun r s' h => ?_
    match r, h with
    | .error e, h => exact h.elim
    | .ok (.ret u), h =>
      obtain ⟨v, H', os, bare, un, hok', r', q⟩ := h
      have q' : v = .bl true := q
      subst q'
      obtain rfl : u = Value.bool true := r'
      refine ⟨rfl, OldK.of_keep fun b o e => ?_, os, bare⟩
      cases q : H b with
      | none => exact un.keep b o e q (fun z => absurd (show b ∈ ([] : List Addr) from z) (by simp)) (by simp)
      | some u =>
        obtain ⟨e1, _, e2⟩ := hO b u q
        rw [e2] at q
        obtain ⟨f1, _⟩ := hok b _ q
        obtain ⟨f2, _⟩ := hok' b _ (un.frzs b _ _ q)
        rw [e] at f1
        cases f1
        exact f2
  cases hk : K.lookup a with
  | some o =>
    have e := KX a o hk
    rw [ha] at e
    cases e
    exact main (fun _ => none) (fun b u z => by cases (show (none : Option HO) = some u from z)) (.inr ⟨_, vs.toArray, _, hk, rfl, rfl, rfl, by rw [List.size_toArray, lenV]; exact hl, by simpa using rv⟩)
  | none =>
    refine main (fun b => if b = a then some (.frz { cls := .type "list", data := .seq vs.toArray } (.lst (ns.map V.int))) else none) (fun b u z => ?_) (.inl (.inr ⟨_, if_pos rfl⟩))
    by_cases hb : b = a
    · have z' := (if_pos hb).symm.trans z
      cases z'
      exact ⟨hb, hk, rfl⟩
    · have z' := (if_neg hb).symm.trans z
      cases z'
theorem walkG {l : PySem.W.OpenLaw} {n k : Nat} {q : Program} {loose : List Str} {XP : (Str → Option Value) → Heap → Prop} {YP : World → Heap → Prop} {d : DefRec} {K : Params → PySem.W.Frag} {sp : PySem.W.Frag → Sp} {x : Str}
    (hn : l.most = some n) (hn2 : n ≤ sizeLine) (hdf : d.params.defaults = []) (hr : Room k callerA) (hY : ∀ (w : World) (h : Heap), YP w h → (K w.params).In h)
    (F : ∀ (w : World) (mg : Str → Option Value) (fa : Addr) (h : Heap), (K w.params).In h → h.Ns mainGlobals mg → mg d.name = some (.ref fa) →
      ∃ fd : FuncData, (∀ (s : Shared) (u : Value), BindsTo s fd ⟨[u], []⟩ [(x, u)]) ∧ ∀ base : Heap, (K w.params).In base → base.Ns mainGlobals mg → FnG l.prog w (K w.params) mg base CX0 k fa fd [x] (sp (K w.params)))
    (hsp : ∀ (K : PySem.W.Frag) (H : Hp) (a : Addr) (ns : List Int), ns.length ≤ n → SqL K H a (ns.map V.int) → (∀ b o, H b = some o → ∃ ob u, o = .frz ob u) → sp K [.ref a] H (fun v _ => v = .bl true) fun _ _ _ => False) :
    PySem.W.WalkO q loose XP YP l.row.toRowW d [] (fun f vs => PySem.call f vs) := by
  refine Att.attach_call hn hdf fun w s₀ s1 mg mb fa o pm cd doc a vs ns G Y ho hd hcd hmg hobj hints hlen hg => ?_
  have KX := hY w _ Y
  obtain ⟨fd, hb, hF⟩ := F w mg fa _ KX G.T.g hmg
  exact lawG KX G.T.g G.T.b G.T.builtins G.T.nolimit hg hobj hints (Nat.le_trans hlen hn2) hr hF hb fun H hS hO => hsp (K w.params) H a ns hlen hS hO
end KX

set_option maxRecDepth 100000
set_option maxHeartbeats 4000000
namespace KX
open PySem PySem.Spec PyProof.Rows L2
section
variable {X : Cx}
/-- == and != of data without dicts -/
def rEqP (K : PySem.W.Frag) (f : Bool → Bool) : R2 := fun x y H Q => ∃ d e, Dp K H x d ∧ Dp K H y e ∧ d.plain = true ∧ e.plain = true ∧ min d.depth e.depth ≤ 64 ∧ Q (.bl (f (PyData.eqv d e))) H
theorem op_eqP (hu : X.A.units + 64 < cLine) : OpR X (compareOp .Eq) (rEqP X.K id) := by
  intro pins s σ H x y v u Q I rx ry h
  obtain ⟨d, e, hd, he, pd, pe, hm, q⟩ := h
  obtain ⟨as, r1⟩ := Dp.reads I d x v hd rx
  obtain ⟨bs, r2⟩ := Dp.reads I e y u he ry
  exact SeqAt.eq_plain r1 r2 pd pe (by omega) ⟨.bl _, H, I, rfl, q⟩
theorem op_neP (hu : X.A.units + 64 < cLine) : OpR X (compareOp .NotEq) (rEqP X.K not) := by
  intro pins s σ H x y v u Q I rx ry h
  obtain ⟨d, e, hd, he, pd, pe, hm, q⟩ := h
  obtain ⟨as, r1⟩ := Dp.reads I d x v hd rx
  obtain ⟨bs, r2⟩ := Dp.reads I e y u he ry
  exact SeqAt.ne_plain r1 r2 pd pe (by omega) ⟨.bl _, H, I, rfl, q⟩
end
/-- a list of ones against the empty list -/
theorem dp_ints {K : PySem.W.Frag} {H : Hp} : ∀ (ns : List Int), DpAll K H (ns.map V.int) (ns.map PyData.int)
  | [] => .nil
  | n :: ns => .cons (.int n) (dp_ints ns)
theorem dp_strs {K : PySem.W.Frag} {H : Hp} : ∀ (ns : List Str), DpAll K H (ns.map V.str) (ns.map PyData.str)
  | [] => .nil
  | n :: ns => .cons (.str n) (dp_strs ns)
theorem pl_ints : ∀ ns : List Int, PyData.plainAll (ns.map PyData.int) = true
  | [] => rfl
  | n :: ns => by simp [PyData.plainAll, PyData.plain, pl_ints ns]
theorem pl_strs : ∀ ns : List Str, PyData.plainAll (ns.map PyData.str) = true
  | [] => rfl
  | n :: ns => by simp [PyData.plainAll, PyData.plain, pl_strs ns]
theorem eqv_nil (ds : List PyData) : PyData.eqv (.list ds) (.list []) = ds.isEmpty := by
  cases ds <;> simp [PyData.eqv, PyData.eqvAll]
theorem min_nil (d : PyData) : min d.depth (PyData.list []).depth ≤ 64 := by
  have : (PyData.list []).depth ≤ 64 := by decide
  omega
end KX

set_option maxRecDepth 100000
set_option maxHeartbeats 4000000
namespace KX
open PySem PySem.Spec PyProof.Rows L2
/-! ### how great data are -/
/-- {} and {text: int} -/
def fineK (B : Nat) : List (PyData × PyData) → Bool
  | [] => true
  | [(.str x, .int i)] => (x.cps.toList.all fun c => decide (c < 128)) && decide (x.length ≤ 20) && decide (i.natAbs ≤ B)
  | _ => false
theorem fineK_is {B : Nat} {kvs : List (PyData × PyData)} (h : fineK B kvs = true) : kvs = [] ∨ ∃ x i, kvs = [(.str x, .int i)] ∧ (∀ c ∈ x.cps.toList, c < 128) ∧ x.length ≤ 20 ∧ i.natAbs ≤ B := by
  unfold fineK at h
  split at h
  · exact .inl rfl
  · rename_i x i
    simp only [Bool.and_eq_true, decide_eq_true_eq, List.all_eq_true] at h
    exact .inr ⟨x, i, rfl, h.1.1, h.1.2, h.2⟩
  · cases h
mutual
/-- ints within B, texts of plain signs, no dict but {} and {text: int} -/
def fine (B : Nat) : PyData → Bool
  | .none => true
  | .bool _ => true
  | .int i => decide (i.natAbs ≤ B)
  | .str x => x.cps.toList.all fun c => decide (c < 128)
  | .list xs => fineAll B xs
  | .tuple xs => fineAll B xs
  | .dict kvs => fineK B kvs
def fineAll (B : Nat) : List PyData → Bool
  | [] => true
  | x :: xs => fine B x && fineAll B xs
end
mutual
def wt : PyData → Nat
  | .str x => x.length + 1
  | .list xs => wtAll xs + 1
  | .tuple xs => wtAll xs + 1
  | _ => 1
def wtAll : List PyData → Nat
  | [] => 0
  | x :: xs => wt x + wtAll xs
end
theorem fineAll_app (B : Nat) : ∀ xs ys, fineAll B (xs ++ ys) = (fineAll B xs && fineAll B ys)
  | [], ys => by simp [fineAll]
  | x :: xs, ys => by simp [fineAll, fineAll_app B xs ys, Bool.and_assoc]
theorem wtAll_app : ∀ xs ys, wtAll (xs ++ ys) = wtAll xs + wtAll ys
  | [], ys => by simp [wtAll]
  | x :: xs, ys => by simp [wtAll, wtAll_app xs ys, Nat.add_assoc]
theorem fineAll_mem {B : Nat} : ∀ {xs : List PyData}, fineAll B xs = true ↔ ∀ x ∈ xs, fine B x = true
  | [] => by simp [fineAll]
  | x :: xs => by simp [fineAll, fineAll_mem (xs := xs)]
theorem wt_mem : ∀ {xs : List PyData} {x : PyData}, x ∈ xs → wt x ≤ wtAll xs
  | y :: xs, x, h => by
    rcases List.mem_cons.mp h with rfl | h
    · simp [wtAll]
    · have := wt_mem h
      simp [wtAll]
      omega
theorem wtAll_take (n : Nat) : ∀ xs, wtAll (xs.take n) + wtAll (xs.drop n) = wtAll xs := fun xs => by
  rw [← wtAll_app, List.take_append_drop]
theorem wtAll_rev : ∀ xs, wtAll xs.reverse = wtAll xs
  | [] => rfl
  | x :: xs => by
    rw [List.reverse_cons, wtAll_app, wtAll_rev xs]
    simp [wtAll]
    omega
theorem len_wt : ∀ xs : List PyData, xs.length ≤ wtAll xs
  | [] => Nat.zero_le _
  | x :: xs => by
    have := len_wt xs
    have h : 1 ≤ wt x := by cases x <;> simp [wt]
    simp [wtAll]
    omega
mutual
theorem fine_le {B C : Nat} (h : B ≤ C) : ∀ d : PyData, fine B d = true → fine C d = true
  | .none, _ => by simp [fine]
  | .bool _, _ => by simp [fine]
  | .int i, q => by simp [fine] at q ⊢; omega
  | .str x, q => by simpa [fine] using q
  | .list xs, q => by simp only [fine] at q ⊢; exact fineAll_le h xs q
  | .tuple xs, q => by simp only [fine] at q ⊢; exact fineAll_le h xs q
  | .dict kvs, q => by
    rcases fineK_is (show fineK B kvs = true from q) with rfl | ⟨x, i, rfl, h1, h2, h3⟩
    · rfl
    · show fineK C [(.str x, .int i)] = true
      simp only [fineK, Bool.and_eq_true, decide_eq_true_eq, List.all_eq_true]
      exact ⟨⟨h1, h2⟩, by omega⟩
theorem fineAll_le {B C : Nat} (h : B ≤ C) : ∀ ds : List PyData, fineAll B ds = true → fineAll C ds = true
  | [], _ => by simp [fineAll]
  | x :: xs, q => by
    simp only [fineAll, Bool.and_eq_true] at q ⊢
    exact ⟨fine_le h x q.1, fineAll_le h xs q.2⟩
end
theorem piled_cons' (t : Str) (r : List Str) : piled (t :: r) = t.length + 2 + piled r := by
  rw [piled_cons]
theorem listText_le (ts : List Str) : (listText ts).length ≤ piled ts + 2 := by
  unfold listText
  rw [strLen_append]
  cases ts with
  | nil => show 1 + 1 ≤ _; simp [piled]
  | cons t r =>
    show (textFrom 1 ((("[" : Str) ++ ("" : Str)) ++ t) r).length + 1 ≤ _
    rw [textFrom_length_pos _ _ _ (by decide), strLen_append, strLen_append, piled_cons']
    show 1 + 0 + t.length + piled r + 1 ≤ _
    omega
theorem tupleText_le (ts : List Str) : (tupleText ts).length ≤ piled ts + 3 := by
  unfold tupleText
  rw [strLen_append, strLen_append]
  have h2 : ((if ts.length == 1 then ",)" else ")" : String) : Str).length ≤ 2 := by
    split <;> decide
  have h1 : (("(" : Str)).length = 1 := rfl
  by_cases h : ts = []
  · subst h
    have : (Str.join ", " ([] : List Str)).length = 0 := rfl
    omega
  · have := join_length_add ts h
    omega
mutual
theorem shown_le {B : Nat} (hB : B < 10 ^ 400) : ∀ d : PyData, fine B d = true → d.shown.length + 10 ≤ 1000 * wt d
  | .none, _ => by simp only [PyData.shown]; show 4 + 10 ≤ 1000 * 1; decide
  | .bool b, _ => by cases b <;> simp only [PyData.shown] <;> decide
  | .int i, q => by
    have q : i.natAbs ≤ B := by simpa [fine] using q
    have h : (toString i).length ≤ 400 + 1 := PySem.int_text_length_le10 (a := i) (k := 400) (by decide) (by omega)
    simp only [PyData.shown, wt]
    have e : (Str.ofString (toString i)).length = (toString i).length := PySem.ofString_length _
    show (Str.ofString (toString i)).length + 10 ≤ _
    omega
  | .str x, q => by
    have q : ∀ c ∈ x.cps.toList, c < 128 := by
      have q : (x.cps.toList.all fun c => decide (c < 128)) = true := q
      intro c hc
      exact of_decide_eq_true (List.all_eq_true.mp q c hc)
    have h := PySem.StrLaws.reprText_len x fun c hc => Nat.lt_trans (q c hc) (by decide)
    simp only [PyData.shown, wt]
    omega
  | .list xs, q => by
    have q : fineAll B xs = true := by simpa only [fine] using q
    have h1 := listText_le (PyData.shownAll xs)
    have h2 := shownAll_le hB xs q
    simp only [PyData.shown, wt]
    omega
  | .tuple xs, q => by
    have q : fineAll B xs = true := by simpa only [fine] using q
    have h1 := tupleText_le (PyData.shownAll xs)
    have h2 := shownAll_le hB xs q
    simp only [PyData.shown, wt]
    omega
  | .dict kvs, q => by
    rcases fineK_is (show fineK B kvs = true from q) with rfl | ⟨x, i, rfl, h1, h2, h3⟩
    · simp only [PyData.shown, PyData.shownKv]
      show (2 : Nat) + 10 ≤ 1000 * 1
      decide
    · have h := PySem.StrLaws.reprText_len x fun c hc => Nat.lt_trans (h1 c hc) (by decide)
      have h5 : (toString i).length ≤ 400 + 1 := PySem.int_text_length_le10 (a := i) (k := 400) (by decide) (by omega)
      have e : (Str.ofString (toString i)).length = (toString i).length := PySem.ofString_length _
      have h6 := dictText_len_le (PyData.shownKv [(.str x, .int i)])
      simp only [PyData.shown, PyData.shownKv, wt, List.map_cons, List.map_nil, List.sum_cons, List.sum_nil, List.length_cons, List.length_nil, strLen_append] at h6 ⊢
      have e2 : ((": " : Str)).length = 2 := rfl
      have e3 : (Str.ofString (toString i)).length ≤ 401 := by omega
      change _ ≤ (reprText x).length + (": " : Str).length + (Str.ofString (toString i)).length + 0 + 2 * (0 + 1) + 3 at h6
      omega
theorem shownAll_le {B : Nat} (hB : B < 10 ^ 400) : ∀ ds : List PyData, fineAll B ds = true → piled (PyData.shownAll ds) ≤ 1000 * wtAll ds
  | [], _ => by simp [PyData.shownAll, piled]
  | x :: xs, q => by
    simp only [fineAll, Bool.and_eq_true] at q
    have h1 := shown_le hB x q.1
    have h2 := shownAll_le hB xs q.2
    simp only [PyData.shownAll, wtAll]
    rw [piled_cons']
    have h : 1 ≤ wt x := by cases x <;> simp [wt]
    omega
end
end KX
namespace KX
open PySem PySem.Spec PyProof.Rows L2
theorem log_of_fine {B : Nat} (hB : B < 10 ^ 400) {i : Int} (h : i.natAbs ≤ B) : i.natAbs.log2 < 1920 := by
  by_cases z : i.natAbs = 0
  · rw [z]; decide
  · refine (Nat.log2_lt z).mpr ?_
    have : (10 : Nat) ^ 400 < 2 ^ 1920 := by decide +kernel
    omega
mutual
theorem showable_fine {B : Nat} (hB : B < 10 ^ 400) : ∀ d : PyData, fine B d = true → d.showable = true
  | .none, _ => by simp only [PyData.showable]
  | .bool b, _ => by simp only [PyData.showable]
  | .int i, q => by
    have q : i.natAbs ≤ B := by simpa [fine] using q
    simp only [PyData.showable]
    exact decide_eq_true (log_of_fine hB q)
  | .str x, _ => by simp only [PyData.showable]
  | .list xs, q => by
    simp only [PyData.showable]
    exact showableAll_fine hB xs (by simpa only [fine] using q)
  | .tuple xs, q => by
    simp only [PyData.showable]
    exact showableAll_fine hB xs (by simpa only [fine] using q)
  | .dict kvs, q => by
    rcases fineK_is (show fineK B kvs = true from q) with rfl | ⟨x, i, rfl, h1, h2, h3⟩
    · simp only [PyData.showable, PyData.showableKv]
    · simp only [PyData.showable, PyData.showableKv, Bool.and_true, Bool.true_and]
      exact decide_eq_true (log_of_fine hB h3)
theorem showableAll_fine {B : Nat} (hB : B < 10 ^ 400) : ∀ ds : List PyData, fineAll B ds = true → PyData.showableAll ds = true
  | [], _ => by simp only [PyData.showableAll]
  | x :: xs, q => by
    simp only [fineAll, Bool.and_eq_true] at q
    simp only [PyData.showableAll, showable_fine hB x q.1, showableAll_fine hB xs q.2, Bool.and_self]
end
mutual
theorem depth_wt {B : Nat} : ∀ d : PyData, fine B d = true → d.depth ≤ wt d
  | .none, _ => by simp [PyData.depth]
  | .bool b, _ => by simp [PyData.depth]
  | .int i, _ => by simp [PyData.depth]
  | .str x, _ => by simp [PyData.depth]
  | .list xs, q => by
    have := depthAll_wt xs (B := B) (by simpa only [fine] using q)
    simp only [PyData.depth, wt]
    omega
  | .tuple xs, q => by
    have := depthAll_wt xs (B := B) (by simpa only [fine] using q)
    simp only [PyData.depth, wt]
    omega
  | .dict kvs, q => by
    rcases fineK_is (show fineK B kvs = true from q) with rfl | ⟨x, i, rfl, h1, h2, h3⟩ <;> simp [PyData.depth, PyData.depthKv, wt]
theorem depthAll_wt {B : Nat} : ∀ ds : List PyData, fineAll B ds = true → PyData.depthAll ds ≤ wtAll ds
  | [], _ => by simp [PyData.depthAll]
  | x :: xs, q => by
    simp only [fineAll, Bool.and_eq_true] at q
    have h1 := depth_wt x q.1
    have h2 := depthAll_wt xs q.2
    simp only [PyData.depthAll, wtAll]
    omega
end
/-- data that can be shown -/
structure Good (B n : Nat) (d : PyData) : Prop where
  f : fine B d = true
  w : wt d ≤ n
theorem Good.show {B n : Nat} {d : PyData} (g : Good B n d) (hB : B < 10 ^ 400) (hn : n ≤ 100) : d.showable = true ∧ d.depth ≤ 100 ∧ d.shown.length ≤ sizeLine := by
  have h1 := depth_wt d g.f
  have h2 := shown_le hB d g.f
  have h3 := g.w
  refine ⟨showable_fine hB d g.f, by omega, ?_⟩
  rw [sizeLine_eq]
  omega
theorem Good.mono {B n B' n' : Nat} {d : PyData} (g : Good B n d) (h : B ≤ B') (h' : n ≤ n') : Good B' n' d := ⟨fine_le h d g.f, Nat.le_trans g.w h'⟩
/-- new objects beside a stream -/
def hid (l : Addr) (H : Hp) : Hp := fun b => if b = l then none else H b
theorem hid_at {l b : Addr} {H : Hp} (h : b ≠ l) : hid l H b = H b := if_neg h
theorem hid_some {l b : Addr} {H : Hp} {o : HO} (h : hid l H b = some o) : b ≠ l ∧ H b = some o := by
  unfold hid at h
  split at h
  · cases h
  · exact ⟨by assumption, h⟩
/-- all but what stands at l is as it was -/
def Keep (l : Addr) (H H' : Hp) : Prop := ∀ b o, b ≠ l → H b = some o → H' b = some o
theorem Keep.same {l : Addr} {H H' : Hp} (k : Keep l H H') : Same (hid l H) (hid l H') := fun b o e => by
  obtain ⟨n, e⟩ := hid_some e
  rw [hid_at n]
  exact k b o n e
theorem Keep.refl (l : Addr) (H : Hp) : Keep l H H := fun _ _ _ e => e
theorem Keep.trans {l : Addr} {H H1 H2 : Hp} (a : Keep l H H1) (b : Keep l H1 H2) : Keep l H H2 := fun c o n e => b c o n (a c o n e)
theorem Keep.of {l : Addr} {H H' : Hp} (s : Same H H') : Keep l H H' := fun b o _ e => s b o e
theorem Keep.at {l : Addr} {H : Hp} {o : HO} : Keep l H (upd H l o) := fun b u n e => by rw [upd_ne n]; exact e
theorem Keep.new {l p : Addr} {H H' : Hp} {o : HO} (k : Keep l H H') (n : H' p = none) : Keep l H (upd H' p o) := k.trans (Keep.of fun b u e => by rw [upd_ne (ne_of_none e n)]; exact e)
theorem Keep.upd {l : Addr} {H H' : Hp} {o : HO} (k : Keep l H H') : Keep l H (upd H' l o) := k.trans Keep.at
theorem hid_same (l : Addr) (H : Hp) : Same (hid l H) H := fun b o e => (hid_some e).2
/-- a stream stands at l -/
def StO (H : Hp) (l : Addr) : Prop := ∃ a b c : Int, H l = some (.lst [.int a, .int b, .int c])
theorem StO.ne {l p : Addr} {H : Hp} (h : StO H l) (n : H p = none) : p ≠ l := by
  obtain ⟨a, b, c, e⟩ := h
  exact (ne_of_none e n).symm
theorem StO.new {l p : Addr} {H : Hp} {o : HO} (h : StO H l) (n : H p = none) : StO (upd H p o) l := by
  obtain ⟨a, b, c, e⟩ := id h
  exact ⟨a, b, c, by rw [upd_ne (h.ne n).symm]; exact e⟩
theorem StO.same {l : Addr} {H H' : Hp} (h : StO H l) (s : Same H H') : StO H' l := by
  obtain ⟨a, b, c, e⟩ := h
  exact ⟨a, b, c, s _ _ e⟩
theorem hnew {l p : Addr} {H : Hp} {o : HO} (n : H p = none) : Same (hid l H) (hid l (L2.upd H p o)) := ((Keep.refl l H).new n).same
theorem dx_tup {l p : Addr} {H : Hp} {xs : List V} {ds : List PyData} (n : H p = none) (st : StO H l) (h : Dxs (hid l H) xs ds) : Dx (hid l (L2.upd H p (.tup xs))) (.ref p) (.tuple ds) :=
  .tup (by rw [hid_at (st.ne n)]; exact upd_same) (h.up (hnew n))
theorem dx_lst {l p : Addr} {H : Hp} {xs : List V} {ds : List PyData} (n : H p = none) (z : p ≠ sysModules) (st : StO H l) (h : Dxs (hid l H) xs ds) : Dx (hid l (L2.upd H p (.lst xs))) (.ref p) (.list ds) :=
  .lst (by rw [hid_at (st.ne n)]; exact upd_same) z (h.up (hnew n))
theorem dx_dic1 {l p : Addr} {H : Hp} {x : Str} {i : Int} (n : H p = none) (st : StO H l) : Dx (hid l (L2.upd H p (.dK [(.inr x, .int i)]))) (.ref p) (.dict [(.str x, .int i)]) :=
  .dic1 (by rw [hid_at (st.ne n)]; exact upd_same)
theorem dx_dic {l p : Addr} {H : Hp} (n : H p = none) (st : StO H l) : Dx (hid l (L2.upd H p (.dK []))) (.ref p) (.dict []) :=
  .dic (by rw [hid_at (st.ne n)]; exact upd_same)
end KX

set_option maxRecDepth 100000
set_option maxHeartbeats 4000000
namespace KX
open PySem PySem.Spec PyProof.Rows L2
open PySem.W (AllAlike Sortable EachIs dataLe)
theorem each_pairs {β : Type} {R : Value → β → Prop} : ∀ {us : List Value} {bs : List β}, (us.length = bs.length) → (∀ (i : Nat) u b, us[i]? = some u → bs[i]? = some b → R u b) → EachIs R us bs
  | [], [], _, _ => .nil
  | u :: us, b :: bs, hl, h => .cons (h 0 u b rfl rfl) (each_pairs (by simpa using hl) fun i u b e f => h (i + 1) u b (by simpa using e) (by simpa using f))
  | [], _ :: _, hl, _ => by simp at hl
  | _ :: _, [], hl, _ => by simp at hl
section
variable {X : Cx}
/-- sorted(xs), xs alike data -/
def rSortE {β : Type} (K : PySem.W.Frag) (enc : β → PyData) : List V → Hp → VK → Prop := fun vs H Q => ∃ (a : Addr) (bs : List (V × β)), vs = [.ref a] ∧ SqL K H a (bs.map (·.1)) ∧ (∀ b ∈ bs, Dp K H b.1 (enc b.2)) ∧ AllAlike (bs.map fun b => enc b.2) ∧ Sortable (bs.map fun b => enc b.2) ∧
  (∀ b ∈ bs, (enc b.2).depth ≤ 50) ∧ ∀ p, H p = none → Q (.ref p) (L2.upd H p (.lst ((bs.mergeSort (dataLe false fun b => enc b.2)).map (·.1))))
theorem cr_sortE {β : Type} {enc : β → PyData} {k : Nat} (hr : Room k X.A) : CallR X (.builtin "sorted") (rSortE X.K enc) := by
  intro pins s σ H vs us Q I r h
  obtain ⟨a, bs, e, hS, hd, hal, hk, hu, q⟩ := h
  subst e
  obtain ⟨u, rfl, ru⟩ := vals1 r
  cases ru
  obtain ⟨its, rv, pl, hz⟩ := I.list hS
  have hlen := rv.length
  rw [List.length_map] at hlen hz
  have er : EachIs (fun v (b : V × β) => ∃ as, Reads s.heap v (enc b.2) as) its bs := each_pairs (by omega) fun i u b e f => by
    obtain ⟨u', e', ru⟩ := rv.get (i := i) (x := b.1) (by rw [List.getElem?_map, f]; rfl)
    rw [e] at e'
    cases e'
    exact Dp.reads I (enc b.2) b.1 u (hd b (List.mem_of_getElem? f)) ru
  have eR : EachIs (fun v (b : V × β) => RelV b.1 v) its bs := each_pairs (by omega) fun i u b e f => by
    obtain ⟨u', e', ru⟩ := rv.get (i := i) (x := b.1) (by rw [List.getElem?_map, f]; rfl)
    rw [e] at e'
    cases e'
    exact ru
  have hun := hr.un
  refine PySem.W.sorted_data (enc := fun b : V × β => enc b.2) pl.isList eR er hal hk (by omega) (fun b hb => by have := hu b hb; omega) fun out hl he => ?_
  obtain ⟨c, hc⟩ := PyProof.Rows.sortedAll_at s.heap its out.toArray
  have rel : ∀ {ws : List Value} {ps : List (V × β)}, EachIs (fun v (b : V × β) => RelV b.1 v) ws ps → Vals (ps.map (·.1)) ws := by
    intro ws ps e
    induction e with
    | nil => exact .nil
    | cons h t ih => exact .cons h ih
  have keep : ∀ b o, s.heap.get? b = some o → (PyProof.Rows.sortedAll s.heap its out.toArray).get? b = some o := fun _ _ => PyProof.Rows.sortedAll_old
  refine ⟨.ref (s.heap.objs.size + 1), _, I.laid (t' := s.toks) keep (Nat.le_succ _) (o := .lst ((bs.mergeSort (dataLe false fun b => enc b.2)).map (·.1))) ⟨?_, out, c, rel he, hc⟩, rfl, q _ (I.hok.fresh (Nat.le_succ _))⟩
  rw [List.length_map, List.length_mergeSort]
  omega
end
mutual
/-- without dicts: the layer's own data -/
theorem dp_dx {K : PySem.W.Frag} {H : Hp} : ∀ (d : PyData) (v : V), d.plain = true → Dx H v d → Dp K H v d
  | .none, _, _, h => by cases h; exact .non
  | .bool b, _, _, h => by cases h; exact .bl b
  | .int i, _, _, h => by cases h; exact .int i
  | .str x, _, _, h => by cases h; exact .str x
  | .list ds, _, p, h => by
    cases h with
    | lst e n h => exact .lst (.inl (.inl e)) (dps_dx ds _ (by simpa [PyData.plain] using p) h)
  | .tuple ds, _, p, h => by
    cases h with
    | tup e h => exact .tup (.inl (.inl e)) (dps_dx ds _ (by simpa [PyData.plain] using p) h)
  | .dict ks, _, p, _ => by simp [PyData.plain] at p
theorem dps_dx {K : PySem.W.Frag} {H : Hp} : ∀ (ds : List PyData) (vs : List V), PyData.plainAll ds = true → Dxs H vs ds → DpAll K H vs ds
  | [], _, _, h => by cases h; exact .nil
  | d :: ds, _, p, h => by
    have p' : d.plain = true ∧ PyData.plainAll ds = true := by simpa [PyData.plainAll] using p
    cases h with
    | cons h t => exact .cons (dp_dx d _ p'.1 h) (dps_dx ds _ p'.2 t)
end
end KX

set_option maxRecDepth 100000
set_option maxHeartbeats 4000000
namespace KX
open PySem PySem.Spec PyProof.Rows L2
section
variable {X : Cx}
/-- text * 0, text * 1 -/
theorem op_mul_s : OpR X (binaryOp .Mult) (fun x y H Q => ∃ (z : Str) (n : Int), x = .str z ∧ y = .int n ∧ (n = 0 ∨ n = 1) ∧ Q (.str (if n = 1 then z else "")) H) := by
  intro pins s σ H x y v u Q I rx ry h
  obtain ⟨z, n, rfl, rfl, hn, q⟩ := h
  obtain ⟨t, rfl⟩ := rx
  obtain ⟨t', rfl⟩ := ry
  have ok : MulOk z n := by
    rcases hn with rfl | rfl
    · exact ⟨by decide, fun h => absurd (by decide) h, fun h => absurd (by decide) h⟩
    · exact ⟨by decide, fun _ h => by simp at h, fun _ h => by simp at h⟩
  have e : Txt.mul z n = (if n = 1 then z else "") := by
    rcases hn with rfl | rfl
    · rfl
    · simp [Txt.mul]
  refine SB.mul ok fun t1 k => ?_
  rw [e]
  exact ⟨.str _, H, I.tok _, ⟨_, rfl⟩, q⟩
end
end KX

set_option maxRecDepth 100000
set_option maxHeartbeats 4000000
namespace KX
open PySem PySem.Spec PyProof.Rows L2
section
variable {X : Cx}
/-- t != (), t any tuple -/
def rNe0 (K : PySem.W.Frag) : R2 := fun x y H Q => ∃ a b xs, x = .ref a ∧ y = .ref b ∧ SqT K H a xs ∧ SqT K H b [] ∧ Q (.bl (!xs.isEmpty)) H
theorem op_ne0 (hu : X.A.units < cLine) : OpR X (compareOp .NotEq) (rNe0 X.K) := by
  intro pins s σ H x y v u Q I rx ry h
  obtain ⟨a, b, xs, rfl, rfl, ha, hb, q⟩ := h
  cases rx
  cases ry
  obtain ⟨its, r1, p1, _⟩ := I.tuple ha
  obtain ⟨its2, r2, p2, _⟩ := I.tuple hb
  cases r2
  have e : (!((List.range (min its.toArray.size ([] : List Value).toArray.size)).all (fun _ => true) && its.toArray.size == ([] : List Value).toArray.size)) = !xs.isEmpty := by
    have := r1.length
    cases xs with
    | nil =>
      cases its with
      | nil => rfl
      | cons _ _ => simp at this
    | cons _ _ =>
      cases its with
      | nil => simp at this
      | cons _ _ => simp
  refine SeqAt.RcNeAt.tuples (e := fun _ => true) p1 p2 hu (fun j h1 h2 => absurd h2 (by simp)) X.prog X.w X.xe (EP X pins σ Q) ?_
  rw [e]
  exact ⟨.bl _, H, I, rfl, q⟩
end
/-! ### tuples of data, whatever object holds them -/
def cutD (ds : List PyData) (lo hi : Option Int) : List PyData := (ds.drop (HT.sIx ds.length 0 lo)).take (HT.sIx ds.length ds.length hi - HT.sIx ds.length 0 lo)
theorem cutD_to (ds : List PyData) (k : Nat) : cutD ds none (some (k : Int)) = ds.take k := by
  unfold cutD
  rw [HT.sIx_none, HT.sIx_nat, List.drop_zero, Nat.sub_zero]
  by_cases h : k ≤ ds.length
  · rw [Nat.min_eq_left h]
  · rw [Nat.min_eq_right (by omega), List.take_length, List.take_of_length_le (by omega)]
theorem cutD_from (ds : List PyData) (k : Nat) : cutD ds (some (k : Int)) none = ds.drop k := by
  unfold cutD
  rw [HT.sIx_none, HT.sIx_nat]
  by_cases h : k ≤ ds.length
  · rw [Nat.min_eq_left h]
    exact List.take_of_length_le (by rw [List.length_drop]; exact Nat.le_refl _)
  · rw [Nat.min_eq_right (by omega), Nat.sub_self, List.take_zero, List.drop_of_length_le (by omega)]
theorem cutD_one (ds : List PyData) (k : Nat) : cutD ds (some (k : Int)) (some ((k : Int) + 1)) = (ds.drop k).take 1 := by
  unfold cutD
  rw [show ((k : Int) + 1) = ((k + 1 : Nat) : Int) by omega, HT.sIx_nat, HT.sIx_nat]
  by_cases h : k < ds.length
  · rw [Nat.min_eq_left (by omega), Nat.min_eq_left (by omega), Nat.add_sub_cancel_left]
  · rw [Nat.min_eq_right (by omega), Nat.min_eq_right (by omega), Nat.sub_self, List.take_zero, List.drop_of_length_le (by omega)]
    rfl
theorem dxs_cut {H : Hp} {xs : List V} {ds : List PyData} (h : Dxs H xs ds) (lo hi : Option Int) : Dxs H (cutV xs lo hi) (cutD ds lo hi) := by
  unfold cutV cutD
  rw [h.len]
  exact (h.drop _).take _
theorem dx_sqT {K : PySem.W.Frag} {H : Hp} {l a : Addr} {ds : List PyData} (h : Dx (hid l H) (.ref a) (.tuple ds)) : ∃ xs, SqT K H a xs ∧ Dxs (hid l H) xs ds := by
  cases h with
  | @tup a xs _ e h => exact ⟨xs, .inl (.inl (hid_some e).2), h⟩
theorem dx_tupOf {H : Hp} {l : Addr} {v : V} {ds : List PyData} (h : Dx (hid l H) v (.tuple ds)) : ∃ a xs, v = .ref a ∧ a ≠ l ∧ H a = some (.tup xs) ∧ Dxs (hid l H) xs ds := by
  cases h with
  | @tup a xs _ e h => exact ⟨a, xs, rfl, (hid_some e).1, (hid_some e).2, h⟩
section
variable {K : PySem.W.Frag} {H : Hp} {l a b : Addr} {ds es : List PyData} {Q : VK}
theorem sl_of {lo hi : Option Int} {v : V} (hd : Dx (hid l H) v (.tuple ds)) (st : StO H l) (q : ∀ H' p, Keep l H H' → StO H' l → Dx (hid l H') (.ref p) (.tuple (cutD ds lo hi)) → Q (.ref p) H') : rSlA K v lo hi H Q := by
  obtain ⟨a, xs, rfl, na, ea, h⟩ := dx_tupOf hd
  refine ⟨a, xs, rfl, .inl (.inl ea), fun hw => q H a (Keep.refl l H) st ?_, fun _ p np => q _ p ((Keep.refl l H).new np) (st.new np) (dx_tup np st (dxs_cut h lo hi))⟩
  have : cutD ds lo hi = ds := by
    unfold cutD
    rw [← h.len, hw.1, hw.2, List.drop_zero, Nat.sub_zero, List.take_of_length_le (by rw [h.len]; exact Nat.le_refl _)]
  rw [this]
  exact hd
theorem cat_of {v u : V} (hd : Dx (hid l H) v (.tuple ds)) (he : Dx (hid l H) u (.tuple es)) (st : StO H l) (hz : ds.length + es.length ≤ sizeLine)
    (q : ∀ H' p, Keep l H H' → StO H' l → Dx (hid l H') (.ref p) (.tuple (ds ++ es)) → Q (.ref p) H') : rCatA K v u H Q := by
  obtain ⟨a, xs, rfl, na, ea, h⟩ := dx_tupOf hd
  obtain ⟨b, ys, rfl, nb, eb, h2⟩ := dx_tupOf he
  have l1 := h.len
  have l2 := h2.len
  refine ⟨a, b, xs, ys, rfl, rfl, .inl (.inl ea), .inl (.inl eb), by omega, fun z => ?_, fun _ z => ?_, fun _ _ p np => q _ p ((Keep.refl l H).new np) (st.new np) (dx_tup np st (h.app h2))⟩
  · subst z
    have : ds = [] := List.eq_nil_of_length_eq_zero (by simpa using l1.symm)
    subst this
    exact q H b (Keep.refl l H) st he
  · subst z
    have : es = [] := List.eq_nil_of_length_eq_zero (by simpa using l2.symm)
    subst this
    rw [List.append_nil] at q
    exact q H a (Keep.refl l H) st hd
end
end KX

set_option maxRecDepth 100000
set_option maxHeartbeats 4000000
namespace KX
open PySem PySem.Spec PyProof.Rows L2
/-! ### expressions that make data -/
def tD (d : PyData) : TE := fun _ H Q => ∀ H' v, Same H H' → Dx H' v d → Q v H'
def tDs (ds : List PyData) : TA := fun _ H Q => ∀ H' vs, Same H H' → Dxs H' vs ds → Q vs H'
/-- a new list of data -/
def tL (ds : List PyData) : TE := fun _ H Q => ∀ H' p xs, Same H H' → H p = none → H' p = some (.lst xs) → Dxs H' xs ds → Q (.ref p) H'
section
variable {X : Cx} {e : Expr} {es : List Expr} {pos : Pos} {d : PyData} {ds : List PyData}
theorem PE.imp {t t' : TE} (h : PE X e t) (i : ∀ σ H Q, t' σ H Q → t σ H Q) : PE X e t' := ⟨fun pins s σ H Q I q => h.run pins s σ H Q I (i σ H Q q)⟩
theorem PA.imp {t t' : TA} (h : PA X es t) (i : ∀ σ H Q, t' σ H Q → t σ H Q) : PA X es t' := ⟨fun pos pins s σ H Q I q => h.run pos pins s σ H Q I (i σ H Q q)⟩
theorem pd_int {i : Int} {j} : PE X (.Constant (.int i) j pos) (tD (.int i)) := PE.imp pe_int fun _ H Q q => q H _ (Same.refl H) (.int i)
theorem pd_str {x : Str} {j} : PE X (.Constant (.str x) j pos) (tD (.str x)) := PE.imp pe_str fun _ H Q q => q H _ (Same.refl H) (.str x)
theorem pd_bl {b : Bool} {j} : PE X (.Constant (.bool b) j pos) (tD (.bool b)) := PE.imp pe_bl fun _ H Q q => q H _ (Same.refl H) (.bl b)
theorem pd_val {t : TE} {i : Int} (h : PE X e t) (hv : ∀ (σ : L2.St) (H : Hp) (Q : VK), Q (.int i) H → t σ H Q) : PE X e (tD (.int i)) := PE.imp h fun σ H Q q => hv σ H Q (q H _ (Same.refl H) (.int i))
theorem pd_nil : PA X [] (tDs []) := PA.imp pa_nil fun _ H Q q => q H _ (Same.refl H) .nil
theorem pd_cons (h : PE X e (tD d)) (t : PA X es (tDs ds)) (hs : starEach (e :: es) X.env = (false, eval e X.env) :: starEach es X.env := by rfl) : PA X (e :: es) (tDs (d :: ds)) :=
  PA.imp (pa_cons h t hs) fun _ H Q q H1 v s1 dv H2 vs s2 dvs => q H2 (v :: vs) (s1.trans s2) (.cons (dv.up s2) dvs)
theorem pd_tup {x1} (h : PA X es (tDs ds)) (hz : ds.length ≤ sizeLine := by decide) : PE X (.Tuple es x1 pos) (tD (.tuple ds)) :=
  PE.imp (pe_tup h) fun _ H Q q H1 vs s1 dvs => ⟨by rw [dvs.len]; exact hz, fun p np => q _ _ (s1.trans fun b x e => by rw [upd_ne (ne_of_none e np)]; exact e) (.tup upd_same (dvs.up fun b x e => by rw [upd_ne (ne_of_none e np)]; exact e))⟩
theorem pd_lstS (h : PA X es (tDs ds)) (hz : ds.length ≤ sizeLine := by decide) : PE X (.List es pos) (tD (.list ds)) :=
  PE.imp (pe_lstS h) fun _ H Q q H1 vs s1 dvs => ⟨by rw [dvs.len]; exact hz, fun p np zp => q _ _ (s1.trans fun b x e => by rw [upd_ne (ne_of_none e np)]; exact e) (.lst upd_same zp (dvs.up fun b x e => by rw [upd_ne (ne_of_none e np)]; exact e))⟩
theorem pd_lst (h : PA X es (tDs ds)) (hz : ds.length ≤ sizeLine := by decide) : PE X (.List es pos) (tL ds) :=
  PE.imp (pe_lst h) fun _ H Q q H1 vs s1 dvs => ⟨by rw [dvs.len]; exact hz, fun p np => q _ p vs (s1.trans fun b x e => by rw [upd_ne (ne_of_none e np)]; exact e) (s1.free np) upd_same (dvs.up fun b x e => by rw [upd_ne (ne_of_none e np)]; exact e)⟩
theorem dxs_rep {H : Hp} {xs : List V} {es : List PyData} (h : Dxs H xs es) : ∀ n : Nat, Dxs H (List.replicate n xs).flatten (List.replicate n es).flatten
  | 0 => .nil
  | n + 1 => by
    rw [List.replicate_succ, List.replicate_succ, List.flatten_cons, List.flatten_cons]
    exact h.app (dxs_rep h n)
/-- t * k -/
theorem pd_rep {b : Expr} {k : Int} {tb : TE} (h : PE X e (tD (.tuple ds))) (hb : PE X b tb) (hk : ∀ (σ : L2.St) (H : Hp) (Q : VK), Q (.int k) H → tb σ H Q) (k2 : 2 ≤ k) (k1 : k ≤ 1000) (hn : ds ≠ []) (hz : ds.length ≤ 1000) :
    PE X (.BinOp e .Mult b pos) (tD (.tuple (List.replicate k.toNat ds).flatten)) :=
  PE.imp (pe_op op_repT h hb) fun σ H Q q H1 v s1 dv => hk σ H1 _ (by
    cases dv with
    | @tup a xs _ ea hx =>
      have hl := hx.len
      refine ⟨a, k, xs, rfl, rfl, .inl (.inl ea), ?_, k2, k1, by omega, fun p np => q _ _ (s1.trans fun b x e => by rw [upd_ne (ne_of_none e np)]; exact e) (.tup upd_same ((dxs_rep hx k.toNat).up fun b x e => by rw [upd_ne (ne_of_none e np)]; exact e))⟩
      intro z
      subst z
      exact hn (List.eq_nil_of_length_eq_zero (by simpa using hl.symm)))
end
end KX

set_option maxRecDepth 100000
set_option maxHeartbeats 4000000
/-! an own exception class right over a built-in one, whose __init__ says B.__init__(self, x) and then stores -/
namespace KX
open PySem PySem.Spec PyProof.Rows L2
/-- what the library knows of the built-in class B -/
structure XB (B newI iniI : String) (tl : List Value) : Prop where
  fb : PySem.ExcBaseFacts B newI iniI tl
  sf : PySem.StoreFacts B tl "object.__setattr__" "object"
/-- what the written part says of the class at C -/
structure XC (K : PySem.W.Frag) (B newI iniI : String) (tl : List Value) (C : Addr) : Prop where
  b : XB B newI iniI tl
  ini : PySem.W.excInitIn K C tl newI = true
  ovr : PySem.W.excOver K C tl = true
  sa : PySem.W.findIn K (.ref C) "__setattr__" = some (some (.builtin "object.__setattr__"))
  hd : PySem.W.hasDictIn K C = true
  sub : PySem.W.subIn K (.ref C) (.type "BaseException") = some true
  ty : PySem.W.typeIn K (.ref C) = some (.type "type")
  kp : PySem.W.keepIn K (.ref C) = true
section
open PySem.W PySem.Calls PySem.HandSPX Builtin Builtin.ObjectAttr
variable {prog : Program} {w : World} {A : Around} {E : Value → Shared → Prop} {R : Result → Shared → Prop} {hp : Heap} {g : Array GenState} {d : Drawn} {t : Nat} {os : OsState}
/-- the first store into such an exception -/
theorem osa_first {K : PySem.W.Frag} {nm : Str} {tk : Tok} {v : Value} {x C : Addr} {fv : Array Value} {B newI iniI : String} {tl : List Value} (T : XC K B newI iniI tl C)
    (X : K.In hp) (hx : hp.get? x = some { cls := .ref C, data := .fields fv }) (ha : PySem.W.findIn K (.ref C) nm = some none)
    (done : ∀ h2 tk2 dx, (∀ b o, b ≠ x → hp.get? b = some o → h2.get? b = some o) → hp.objs.size ≤ dx → dx ≠ x → h2.get? x = some { cls := .ref C, dict := some dx, data := .fields fv } →
      h2.Ns1 dx (fun y => if y = nm then some v else none) → R (.ok (.ret .none)) ⟨h2, g, d, tk2, os⟩) :
    codeAny (model prog w) A (.call (.builtin "object.__setattr__") ⟨[.ref x, .str nm tk, v], []⟩) R ⟨hp, g, d, t, os⟩ := by
  have tkr : PySem.W.takerIn K C nm = some none := by unfold PySem.W.takerIn; rw [ha]; rfl
  refine PySem.W.osa_openX (s := ⟨hp, g, d, t, os⟩) (od := none) T.b.sf X ⟨hx, rfl, rfl, trivial⟩ T.ovr tkr fun b => ?_
  obtain ⟨cd, hc, hdd⟩ := PySem.W.any_some T.hd
  have hcls : PySem.W.Looks (model prog w) hp (classData C) cd := PySem.W.looks_clsIn X hc
  have far : x ≠ hp.objs.size := Nat.ne_of_lt (Heap.lt_size hx)
  obtain ⟨nm', bs, mro, ns, qn, hd', sn, sb, ab, col, del⟩ := cd
  dsimp only at hdd
  subst hdd
  dsimp only
  unfold storeInOwnDict ownDictForStores
  repeat (first | with_reducible refine store_in_new ?_ ?_ | with_reducible refine wpAny_loadPart_at hx ?_ | with_reducible refine hcls.at ?_ | wp_step)
  · exact ⟨_, #[], _, (Heap.get?_update_ne _ _ _ _ far.symm).trans (Heap.get?_push_at rfl rfl), rfl, fun e he => absurd he (by simp), fun _ => rfl⟩
  · intro h2 tk2 hn2 hs
    have hx1 : (hp.push { cls := .type "dict", data := .dict #[] }).get? x = some { cls := .ref C, data := .fields fv } := Heap.get?_push_of_some _ hx
    refine done h2 tk2 hp.objs.size (fun b o hb ho => ?_) (Nat.le_refl _) far.symm ?_ hn2
    · have z := Heap.get?_push_of_some { cls := .type "dict", data := .dict #[] } ho
      exact (hs.2 b (Nat.ne_of_lt (Heap.lt_size ho))).trans ((Heap.get?_update_ne _ _ _ _ hb).trans z)
    · have z := Heap.get?_update_self (fun o => { o with dict := some hp.objs.size }) hx1 rfl
      exact (hs.2 x far).trans z
end
section
variable {X : Cx} {pins : List (Addr × Obj)} {σ : L2.St} {H : Hp} {s : Shared} {a C dx : Addr} {f : Str} {y : V} {u : Value} {E : Value → Shared → Prop} {A : Around} {B newI iniI : String} {tl : List Value}
/-- self.f = y, the first store -/
theorem store_first {Q : Unit → Shared → Prop} (T : XC X.K B newI iniI tl C) (I : Inv X pins σ H s) (e : H a = some (exo a C none)) (hno : PySem.W.findIn X.K (.ref C) f = some none) (ry : RelV y u)
    (go : ∀ dx s2, H dx = none → dx ≠ a → Inv X pins σ (upd (upd H dx (exd dx [(f, y)])) a (exo a C (some dx))) s2 → Q () s2) :
    wpAny (model X.prog X.w) A (setAttr (.ref a) f u) Q E s := by
  obtain ⟨t1, ho⟩ := exo_at I.hok e
  obtain ⟨hp, g, d, t, os⟩ := s
  refine PySem.W.set_plain I.kIn (ox := { cls := .ref C, dict := none, data := .fields #[.ref t1, .none, .none, .none, .bool false, .none] })
    (od := none) ⟨ho, rfl, rfl, trivial⟩ T.sa (osa_first T I.kIn ho hno (fun h2 tk2 dx k dn dne hx hn => ?_))
  have hnd : H dx = none := I.hok.fresh dn
  have new : ∀ {b : Addr} {o : Obj}, hp.get? b = some o → b ≠ dx := fun {b o} q => Nat.ne_of_lt (Nat.lt_of_lt_of_le (Heap.lt_size q) dn)
  have notA : ∀ {b : Addr}, H b = none → b ≠ a := fun {b} n z => by
    rw [z, e] at n
    cases n
  have U : Un X.fs [] H (upd (upd H dx (exd dx [(f, y)])) a (exo a C (some dx))) hp h2 := {
    keep := fun b o q n _ _ => k b o (notA n) q
    slot := fun b o q n _ _ => ⟨o.slots, k b o (notA n) q⟩
    free := fun b o q n _ => by rw [upd_ne (notA n), upd_ne (new q)]; exact n
    there := fun b o q _ => by
      by_cases hb : b = a
      · exact ⟨_, by rw [hb]; exact hx⟩
      · exact ⟨o, k b o hb q⟩
    tups := fun b xs q => by rw [upd_ne (at_ne e q exo_tup), upd_ne (ne_of_none q hnd)]; exact q
    frzs := fun b o v q => by rw [upd_ne (at_ne e q exo_frz), upd_ne (ne_of_none q hnd)]; exact q
    tbls := fun b ps q => ⟨#[], by rw [upd_ne (at_ne e q exo_tbl), upd_ne (ne_of_none q hnd), q]; simp⟩ }
  refine go dx _ hnd dne (I.un (t' := tk2) U fun b o q => ?_)
  by_cases hb : b = a
  · subst hb
    rw [upd_same] at q
    cases q
    exact exo_ok hx
  · rw [upd_ne hb] at q
    by_cases hd : b = dx
    · subst hd
      rw [upd_same] at q
      cases q
      exact exd_ok hn (relO_put (fs := []) ry fun g => True.intro)
    · rw [upd_ne hd] at q
      refine (I.hok b o q).stay (fun c v hc z => k c v ?_ z) (fun c hc => ?_) (fun c xs hc => ?_)
      · rcases hc with hc | hc
        · rw [hc]
          exact hb
        · exact at_ne e hc exo_own
      · rw [upd_ne (at_ne e hc exo_own), upd_ne (ne_of_none hc hnd)]
        exact hc
      · rw [upd_ne (at_ne e hc exo_tup), upd_ne (ne_of_none hc hnd)]
        exact hc
/-- B.__init__(self, ..): nothing of it is told -/
theorem init_told {us : List Value} {Q : Value → Shared → Prop} (T : XC X.K B newI iniI tl C) (I : Inv X pins σ H s) (e : H a = some (exo a C none)) (hl : us.length ≤ sizeLine) (go : ∀ s2, Inv X pins σ H s2 → Q .none s2) :
    wpAny (model X.prog X.w) A (call (.builtin iniI) (.ref a :: us)) Q E s := by
  obtain ⟨nm, N, qn, bs, bm, hdct, sn, sub, ab, col, dd, k0, k1, k2, k3, k5, hC, hT⟩ := PySem.W.excInit_of I.kIn T.ini
  obtain ⟨t1, ho⟩ := exo_at I.hok e
  obtain ⟨hp, g, d, t, os⟩ := s
  refine wpAny_call (PySem.HandSPX.init_base T.b.fb hT hC ho hl fun h2 t2 k hx => go _ ?_)
  have J := I.write (t' := t) (x := a) (e := a) (o := exo a C none) (by rw [e]; exact True.intro) (.inl rfl) k ⟨_, hx⟩ (exo_ok hx)
  have same : upd H a (exo a C none) = H := by
    funext b
    by_cases hb : b = a
    · rw [hb, upd_same, e]
    · rw [upd_ne hb]
  rw [same] at J
  exact J
end
/-- B.__init__(self, ..) -/
def tBini (K : PySem.W.Frag) (B newI iniI : String) (tl : List Value) (ta : TA) : TE := fun σ H Q => ta σ H fun vs H1 =>
  ∃ (a C : Addr) (ws : List V), vs = .ref a :: ws ∧ ws.length ≤ 1000 ∧ XC K B newI iniI tl C ∧ H1 a = some (exo a C none) ∧ Q .non H1
/-- self.f = e, the first store -/
def tFst (K : PySem.W.Frag) (B newI iniI : String) (tl : List Value) (f : Str) (to te : TE) : TS := fun D σ H => te σ H fun y H1 => to σ H1 fun x H2 =>
  ∃ a C : Addr, x = .ref a ∧ XC K B newI iniI tl C ∧ PySem.W.findIn K (.ref C) f = some none ∧ H2 a = some (exo a C none) ∧
    ∀ dx, H2 dx = none → dx ≠ a → D.nx σ (upd (upd H2 dx (exd dx [(f, y)])) a (exo a C (some dx)))
section
variable {X : Cx} {o e : Expr} {es : List Expr} {to te : TE} {ta : TA} {f : Str} {p p' p1 p2 pos : Pos} {B newI iniI : String} {tl : List Value}
theorem ps_fst (ho : PE X o to) (he : PE X e te) (hs : swapsWith e (some (.Attribute o f p')) pos.line X.env = pure false := by rfl) : PS X (.Assign [.Attribute o f p'] e pos) (tFst X.K B newI iniI tl f to te) := by
  refine ⟨fun pins s σ H D I h => ?_⟩
  refine plainObj_wpAny_Assign_Attribute (thn (he.run pins s σ H _ I h) fun v s1 z1 => ?_) hs
  obtain ⟨y, H1, I1, r1, q1⟩ := z1
  refine thn (ho.run pins s1 σ H1 _ I1 q1) fun u s2 z2 => ?_
  obtain ⟨x, H2, I2, r2, a, C, ex, T, hno, ea, q⟩ := z2
  subst ex
  obtain rfl : u = Value.ref a := r2
  exact store_first T I2 ea hno r1 fun dx s3 n ne J => ⟨σ, _, J, q dx n ne⟩
theorem pe_bini {pl : Sem Bool} (hg : Gl X "IndexError") (hm : X.mg "IndexError" = none) (vV : PySem.W.findCls X.K (.type "IndexError") (.type "type") "__init__" = some (.val (.builtin "IndexError.__init__"))) (ha : PA X (e :: es) ta)
    (hc : eval (.Call (.Attribute (.Name "IndexError" p1) "__init__" p2) (e :: es) [] pos) X.env = (do
      let cv ← eval (.Name "IndexError" p1) X.env
      standAt p2.atName
      let (fn, ahead) ← holding [cv] (getMethod cv "__init__" pl)
      callWith pos fn ahead (backTo pos (starEach (e :: es) X.env)) (backToKw pos (keywordEach [] X.env))) := by rfl)
    (he : starEach (e :: es) X.env = (false, eval e X.env) :: starEach es X.env := by rfl) (hpl : (backTo pos (starEach es X.env)).any (·.1) = false := by rfl) :
    PE X (.Call (.Attribute (.Name "IndexError" p1) "__init__" p2) (e :: es) [] pos) (tBini X.K "IndexError" newI "IndexError.__init__" tl ta) := by
  refine ⟨fun pins s σ H Q I h => ?_⟩
  have ty : typeOf (.type "IndexError") = pure (.type "type") := by kernel_rfl
  refine PySem.W.methodCall_KW (ld_blt I hg hm PyProof.Rows.Boot.«IndexError» ?_ (by decide) (by decide)) hc
  obtain ⟨m, fr⟩ := I.fr
  refine PySem.W.method_type fr I.ok.mod.kin ty (by decide +kernel) vV (by decide +kernel) ?_
  show wpAny _ _ (callWith pos (Value.builtin "IndexError.__init__") [] (backTo pos (starEach (e :: es) X.env)) []) _ _ _
  refine PyProof.Rows.callWith_method1 (thn (ha.run pos pins _ σ H _ (I.tok _) h) fun us s1 z => ?_) he hpl
  obtain ⟨vs, H1, I1, r1, a, C, ws, ev, hl, T, ea, q⟩ := z
  subst ev
  cases r1 with
  | @cons _ u0 _ ur ra rw' =>
    obtain rfl : u0 = Value.ref a := ra
    have hlen : ur.length ≤ sizeLine := by
      rw [← Paired.length rw', sizeLine_eq]
      omega
    exact init_told T I1 ea hlen fun s2 J => ⟨.non, H1, J, rfl, q⟩
/-- C(e, ..) -/
theorem pmk_x {CX : CXT} {x : Str} {C fI : Addr} {k : Nat} {fd : FuncData} {ps : List Str} {sp : Sp} (T : XC X.K B newI iniI tl C) (iC : PySem.W.findIn X.K (.ref C) "__init__" = some (some (.ref fI)))
    (tI : PySem.W.typeIn X.K (.ref fI) = some (.type "function")) (F1 : FnOk X.prog X.w X.K X.mg X.base CX k fI fd ps sp) (hr : Room (k + 1) X.A) (hb : Binds X.K fd ps []) (hx : Passes CX X (fun _ _ _ => False)) (hg : Gl X x)
    (hm : X.mg x = some (.ref C)) (ha : PA X (e :: es) ta) (hdb : (x == ("__debug__" : Str)) = false := by decide) (he : starEach (e :: es) X.env = (false, eval e X.env) :: starEach es X.env := by rfl)
    (hpl : (backTo pos (starEach es X.env)).any (·.1) = false := by rfl) : PMk X (.Call (.Name x p) (e :: es) [] pos) (tMkO C sp [] ta) := by
  intro pins s σ H Q I h
  obtain ⟨nm, N, qn, bs, bm, hdct, sn, sub, ab, col, dd, k0, k1, k2, k3, k5, hC, hT⟩ := PySem.W.excInit_of I.kIn T.ini
  refine wpAny_Call_Name_kw (ld_glob I hg hm ?_ hdb)
  refine PySem.W.callWith_K (h₀ := X.base) I.ok.mod.kin T.kp (thn (ha.run pos pins s σ H _ I h) fun us s1 z => ?_) he hpl
  obtain ⟨vs, H1, I1, r1, hz, q1⟩ := z
  have X1 := I1.kIn
  refine ⟨X1, ?_⟩
  obtain ⟨nm, N, qn, bs, bm, hdct, sn, sub, ab, col, dd, k0, k1, k2, k3, k5, hC, hT⟩ := PySem.W.excInit_of X1 T.ini
  show wpAny _ _ (call (.ref C) us) _ _ _
  obtain ⟨hp, g, dr, tk, os⟩ := s1
  have up : hp.objs.size ≤ hp.objs.size + 1 := Nat.le_succ _
  have hq := q1 (hp.objs.size + 1) (I1.hok.fresh up)
  have kk : ∀ b o, hp.get? b = some o → ((hp.push (PySem.W.kdv_tup us)).push (PySem.HandSPX.excO C hp.objs.size)).get? b = some o :=
    fun b o e => Heap.get?_push_of_some _ (Heap.get?_push_of_some _ e)
  have hget : ((hp.push (PySem.W.kdv_tup us)).push (PySem.HandSPX.excO C hp.objs.size)).get? (hp.objs.size + 1) = some (PySem.HandSPX.excO C hp.objs.size) := by heap_get
  have I2 : Inv X pins σ (upd H1 (hp.objs.size + 1) (exo (hp.objs.size + 1) C none)) ⟨(hp.push (PySem.W.kdv_tup us)).push (PySem.HandSPX.excO C hp.objs.size), g, dr, tk, os⟩ :=
    I1.laid (t' := tk) (a := hp.objs.size + 1) (o := exo (hp.objs.size + 1) C none) (h' := (hp.push (PySem.W.kdv_tup us)).push (PySem.HandSPX.excO C hp.objs.size)) kk up (exo_ok hget)
  have r2 : Vals (V.ref (hp.objs.size + 1) :: (vs ++ [])) (Value.ref (hp.objs.size + 1) :: us) := .cons rfl (by rw [List.append_nil]; exact r1)
  have hl : (Value.ref (hp.objs.size + 1) :: us).length = ps.length := by
    rw [← r2.length]
    exact F1.len _ _ _ _ hq
  have hus : us.length ≤ sizeLine := by
    rw [← Paired.length r1, sizeLine_eq]
    omega
  have hbd := hb ⟨(hp.push (PySem.W.kdv_tup us)).push (PySem.HandSPX.excO C hp.objs.size), g, dr, tk, os⟩ (Value.ref (hp.objs.size + 1) :: us) I2.kIn (by rw [List.append_nil]; exact hl)
  rw [List.append_nil] at hbd
  have go := F1.run _ X.stack _ _ ⟨Value.ref (hp.objs.size + 1) :: us, []⟩ (Value.ref (hp.objs.size + 1) :: us) _ _ (fun _ _ _ => False) (hr.make C us []) (I2.env0.make C us []) hbd r2 hq
  refine wpAny_call (PySem.HandSPX.call_own T.b.fb hT hC (PySem.W.looks_findIn X1 iC) (fun self => PySem.W.bind_fn X1 self tI) hus (codeAny_mono go fun r s2 z => ?_))
  cases r with
  | error er => exact hx pins σ _ _ er s2 I2 z
  | ok fl =>
    cases fl with
    | ret u =>
      obtain ⟨v, H2, os2, bare2, un2, hok2, rv, ev, d, fs, ea, ed, hd1, q2⟩ := z
      subst ev
      obtain ⟨h2, g2, d2, t2, os'⟩ := s2
      exact ⟨rv, mk_end (raises_own T.sub T.ty) I1 up kk un2 hok2 os2 bare2 ea ed hd1 q2⟩
    | next => exact False.elim z
    | brk => exact False.elim z
    | cont => exact False.elim z
end
end KX

set_option maxRecDepth 100000
set_option maxHeartbeats 4000000
namespace KX
open PySem PySem.Spec PyProof.Rows L2
/-- isinstance(e, T), isinstance(e, (T, U)): e the exception that the suite holds, an instance of a class of the program with fields of its own -/
structure XI (K : PySem.W.Frag) (C : Addr) : Prop where
  ga : PySem.W.findIn K (.ref C) "__getattribute__" = some (some (.builtin "BaseException.__getattribute__"))
  gg : PySem.W.findIn K (.ref C) "__getattr__" = some none
  sub : PySem.W.subIn K (.ref C) (.type "BaseException") = some true
  hd : PySem.W.hasDictIn K C = true
  hcl : PySem.W.findIn K (.ref C) "__class__" = some (some (.builtin "object.__class__"))
  sp : PySem.W.specialIn K (.builtin "object.__class__") "__get__" = some (some (.builtin "getset_descriptor.__get__"))
  tk : PySem.W.takesIn K (.builtin "object.__class__") = some true
  mro : PySem.W.mroIn K C (.type "object") = some true
theorem XI.xf {K : PySem.W.Frag} {C : Addr} (T : XI K C) : XfC K C := ⟨T.ga, T.gg, T.sub, T.hd⟩
def rIsX (K : PySem.W.Frag) (a : Addr) (cls : Value) (d : Option Addr) : List V → Hp → VK → Prop := fun xs H Q =>
  ∃ (C dd : Addr) (fs : List (Str × V)) (c : V) (b : Bool), XI K C ∧ cls = .ref C ∧ d = some dd ∧ H dd = some (.xd fs) ∧ xs = [.ref a, c] ∧
    ((∃ cv, (∀ u, RelV c u → u = cv) ∧ PySem.W.kitOne K (.ref C) cv = some b) ∨
      ∃ (tp : Addr) (ys : List V) (its : List Value), c = .ref tp ∧ H tp = some (.tup ys) ∧ (∀ us, Vals ys us → us = its) ∧ PySem.W.kitAny K (.ref C) its = some b) ∧ Q (.bl b) H
theorem call_isX {X : Cx} {a : Addr} {oe : Obj} {cls : Value} {d : Option Addr} {pn : List (Addr × Obj)} (hz : Zc cls d oe) (hf : ∃ vs, oe.data = .fields vs) :
    CallR (X.suite a ((a, oe) :: pn)) (.builtin "isinstance") (rIsX X.K a cls d) := by
  intro pins s σ H xs us Q I r h
  obtain ⟨C, dd, fs, c, b, T, ec, ed, eH, rfl, hc, q⟩ := h
  subst ec ed
  obtain ⟨hget, _⟩ := I.pin (a, oe) (List.mem_append.mpr (.inl List.mem_cons_self))
  obtain ⟨vs, hv⟩ := hf
  have hx : ObjOk X.prog X.w H s.heap dd (.xd fs) := I.hok dd _ eH
  obtain ⟨mA, hns, _⟩ := hx
  obtain ⟨od, ho, _⟩ := lookIn_ns hns
  have J : PySem.W.InstAt s.heap a oe C (some od) := ⟨hget, hz.1, by unfold PySem.W.notCls; rw [hv] <;> rfl, by rw [hz.2]; exact ho⟩
  have hcl : (PySem.W.clsIn X.K C).isSome = true := by
    obtain ⟨cd, hc, _⟩ := PySem.W.any_some T.hd
    rw [hc]; rfl
  have Z : PySem.W.KitX X.K (.ref a) (.ref C) (fun h => PySem.W.InstAt h a oe C (some od)) := PySem.W.kitx_exc hcl T.ga T.gg T.sub T.hcl T.sp T.tk T.mro
  obtain ⟨u, rfl, ru, uc, rc⟩ : ∃ u2, us = [.ref a, u2] ∧ RelV c u2 ∧ True ∧ True := by
    cases r with
    | cons r1 r2 =>
      cases r2 with
      | cons r3 r4 =>
        cases r4
        cases r1
        exact ⟨_, rfl, r3, trivial, trivial⟩
  rcases hc with ⟨cv, hcv, e⟩ | ⟨tp, ys, its, rfl, hH, hits, e⟩
  · have eu := hcv _ ru
    subst eu
    exact PySem.W.kia_one Z I.kIn J e (fun z => nomatch z) fun tk => ⟨.bl b, H, I.kept (t' := tk) fun _ _ z => z, rfl, q⟩
  · obtain rfl : u = Value.ref tp := ru
    obtain ⟨_, us2, r2, o, h1, h2, n, h3⟩ := (show ObjOk X.prog X.w H s.heap tp (.tup ys) from I.hok tp _ hH)
    have eu := hits us2 r2
    subst eu
    obtain ⟨oc, od2, oda, osl⟩ := o
    dsimp only at h2 h3
    subst h2 h3
    exact PySem.W.kia_tup Z I.kIn J h1 e (fun z => nomatch z) fun tk => ⟨.bl b, H, I.kept (t' := tk) fun _ _ z => z, rfl, q⟩
end KX

set_option maxRecDepth 100000
set_option maxHeartbeats 4000000
namespace KX
open PySem PySem.Spec PyProof.Rows L2
section
variable {X : Cx}
/-- x in t, x not in t: t a tuple of data, x data, no dicts -/
def rInT (K : PySem.W.Frag) (f : Bool → Bool) : R2 := fun x y H Q => ∃ d ds, Dp K H x d ∧ Dp K H y (.tuple ds) ∧ d.plain = true ∧ PyData.plainAll ds = true ∧ PyData.depthAll ds ≤ 60 ∧ Q (.bl (f (ds.any fun z => PyData.eqv z d))) H
theorem op_inTD (hu : X.A.units + 64 < cLine) : OpR X (compareOp .In) (rInT X.K id) := by
  intro pins s σ H x y v u Q I rx ry h
  obtain ⟨d, ds, hd, he, pd, pe, hm, q⟩ := h
  obtain ⟨as, r1⟩ := Dp.reads I d x v hd rx
  obtain ⟨bs, r2⟩ := Dp.reads I (.tuple ds) y u he ry
  exact SeqAt.in_tuple_data r2 r1 pe pd (by omega) ⟨.bl _, H, I, rfl, q⟩
theorem op_ninTD (hu : X.A.units + 64 < cLine) : OpR X (compareOp .NotIn) (rInT X.K not) := by
  intro pins s σ H x y v u Q I rx ry h
  obtain ⟨d, ds, hd, he, pd, pe, hm, q⟩ := h
  obtain ⟨as, r1⟩ := Dp.reads I d x v hd rx
  obtain ⟨bs, r2⟩ := Dp.reads I (.tuple ds) y u he ry
  exact SeqAt.notIn_tuple_data r2 r1 pe pd (by omega) ⟨.bl _, H, I, rfl, q⟩
/-- len(s), s a set of numbers -/
theorem call_lenZ : CallR X (.builtin "len") (fun xs H Q => ∃ (a : Addr) (S : Int → Bool) (n : Nat), xs = [.ref a] ∧ H a = some (SetO X.w a S n) ∧ Q (.int n) H) := by
  intro pins s σ H xs us Q I r h
  obtain ⟨a, S, n, rfl, ha, q⟩ := h
  obtain ⟨u, rfl, ru⟩ := vals1 r
  obtain rfl : u = Value.ref a := ru
  obtain ⟨o, es, ep, t, ho, hex, hd, _, _, _, hb, hf, hn, _⟩ := setO_get I ha
  have hb' : (scanBound : Nat) < 2 ^ 63 := by decide
  exact call_len_set ho hex hd hf (by omega) ⟨.int n, H, I.tok _, ⟨_, by rw [hn]⟩, q⟩
/-- what a turn of {k for x in t} leaves -/
def addS (w : World) (D : Addr) (S : Int → Bool) (n : Nat) (k : Int) (H : Hp) : Hp := upd H D (SetO w D (fun j => S j || decide (j = k)) (if S k = true then n else n + 1))
theorem into_set {pins : List (Addr × Obj)} {σ : L2.St} {H : Hp} {s : Shared} {E : Value → Shared → Prop} {D : Addr} {S : Int → Bool} {n : Nat} {k : Int} {tk : Tok} {Q : Value → Shared → Prop} (I : Inv X pins σ H s)
    (hD : H D = some (SetO X.w D S n)) (room : n + 1 < scanBound) (go : ∀ s2, Inv X pins σ (addS X.w D S n k H) s2 → Q .none s2) : wpAny (model X.prog X.w) X.A (call (.builtin "set.add") [.ref D, .int k tk]) Q E s := by
  refine setR_add (setO_get I hD) room fun h2 sb new => go _ ?_
  have ex : ∃ u, h2.get? D = some u := by
    obtain ⟨o, _, _, _, ho, _⟩ := new
    exact ⟨o, ho⟩
  exact I.write (e := D) (t' := s.toks + 1) (by rw [hD]; trivial) (.inl rfl) (fun b u hb hu => (sb.2 b hb).trans hu) ex (setO_new new)
/-- {e for x in t}, no ifs, e a number: D the new set -/
def tSetI (w : World) (wi : TI) (g : TG) (te : TE) (vs : List Nat) : TE := fun σ H Q => wi σ H fun J H1 => ∀ D, H1 D = none → ∃ W : Nat → Nat → Hp → Prop, (∃ m, W 0 m (upd H1 D (SetO w D (fun _ => false) 0))) ∧
  ∀ i m G, W i m G → (J.stop i G ∧ Q (.ref D) G) ∨ (J.go i G ∧ ∀ x G1, J.yld i G x G1 → g x (wipe σ vs) G1 fun σ2 G2 => wipe σ2 vs = wipe σ vs ∧
    te σ2 G2 fun y G3 => ∃ (k : Int) (S : Int → Bool) (n : Nat), y = .int k ∧ G3 D = some (SetO w D S n) ∧ n + 1 < scanBound ∧ ∃ m2, m2 < m ∧ W (i + 1) m2 (addS w D S n k G3))
abbrev freshSet (w : World) : Obj := { cls := .type "set", dict := none, data := .set #[] 0 (.fresh 0 0 (!w.params.followText "set-order")) }
theorem pe_setI {elt tg iter : Expr} {scope : Scope} {own : List (PySem.Str × Nat)} {pos : Pos} {wi : TI} {g : TG} {te : TE} (hc : X.calm = true) (hN : X.N.Nodup) (hi : PI X tg iter wi) (ok : BlkOk X.N X.env.scope scope own)
    (hg : ∀ (s : Shared) (H : Hp) (C : Addr) (cl : List (PySem.Str × Addr)) (fp : List Addr), PG (X.blk s H scope (compEnvC scope cl C X.env) fp) tg g)
    (he : ∀ (s : Shared) (H : Hp) (C : Addr) (cl : List (PySem.Str × Addr)) (fp : List Addr), PE (X.blk s H scope (compEnvC scope cl C X.env) fp) elt te)
    (hs : ∀ x, foldedSetIterable iter X.env x = pure x := by intro _; rfl) :
    PE X (.SetComp elt [⟨tg, iter, [], 0⟩] scope pos) (tSetI X.w wi g te (own.map (·.2))) := by
  refine ⟨fun pins s σ H Q I h => ?_⟩
  rw [PpSet.eval_SetComp]
  have cap : ∀ y ∈ scope.names, y.2 = .free → ∃ c, X.env.cells.lookup y.1 = some c := fun y hy e => (ok.free y hy e).elim (fun k => I.ok.has _ (.inl k)) fun k => I.ok.has _ (.inr k)
  refine wpAny_comprehension_free rfl hs (closure_ok cap) ok.kind (fun y hy e => by rw [ok.uniq y hy, e]) (thn (hi.run pins s σ H _ I h) fun xv s1 hx => thn hx fun itv s2 z => ?_)
  obtain ⟨it, fp, tn, J, H2, rfl, I2, T, at0, own2, q⟩ := z
  refine PpSet.newSet_ok (newEnv_comp ?_)
  obtain ⟨D, hD⟩ : ∃ D, D = s2.heap.objs.size := ⟨_, rfl⟩
  rw [← hD]
  obtain ⟨W, ⟨m0, w0⟩, turn⟩ := q D (I2.hok.fresh (Nat.le_of_eq hD.symm))
  obtain ⟨s3, es3⟩ : ∃ s3 : Shared, s3 = { s2 with heap := s2.heap.push (freshSet X.w) } := ⟨_, rfl⟩
  obtain ⟨H3, eH3⟩ : ∃ H3, H3 = upd H2 D (SetO X.w D (fun _ => false) 0) := ⟨_, rfl⟩
  have I3 : Inv X pins σ H3 s3 := by
    rw [es3, eH3]
    refine I2.laid (t' := s2.toks) (fun b o e => Heap.get?_push_of_some _ e) (Nat.le_of_eq hD.symm) ?_
    rw [hD]
    exact setO_new (setR_fresh X.w)
  have kp3 : ∀ b o, s2.heap.get? b = some o → s3.heap.get? b = some o := fun b o e => by rw [es3]; exact Heap.get?_push_of_some _ e
  have own3 : ∀ b ∈ fp, FpOk X pins H3 b ∧ b < s3.heap.objs.size := fun b hb => by
    obtain ⟨o, eo, _⟩ := T.obj _ _ at0 b hb
    have lt := Heap.lt_size eo
    refine ⟨⟨?_, (own2 b hb).2⟩, Heap.lt_size (kp3 b o eo)⟩
    rw [eH3, upd_ne (by rw [hD]; exact Nat.ne_of_lt lt)]
    exact (own2 b hb).1
  have I4 := block_start I3 ok hN own3
  obtain ⟨C, eC⟩ : ∃ C, C = s3.heap.objs.size := ⟨_, rfl⟩
  obtain ⟨cl, ecl⟩ : ∃ cl, cl = cellsFrom (s3.heap.objs.size + 1) scope.names (cloFrom X.env.cells scope.names []) := ⟨_, rfl⟩
  have at3 : tn 0 s3.heap := T.keep _ _ _ at0 fun b _ o e => kp3 b o e
  rw [← es3, ← ecl, ← eC]
  rw [← ecl, ← eC] at I4
  obtain ⟨s4, es4⟩ : ∃ s4 : Shared, s4 = { s3 with heap := pushCells (s3.heap.push { cls := .type "dict", data := .dict #[] }) scope.names } := ⟨_, rfl⟩
  rw [← es4] at I4 ⊢
  have at4 : tn 0 s4.heap := T.keep _ _ _ at3 fun b _ o e => by rw [es4]; exact pushCells_keeps _ _ _ _ (Heap.get?_push_of_some _ e)
  obtain ⟨Y, eY⟩ : ∃ Y, Y = X.blk s3 H3 scope (compEnvC scope cl C X.env) fp := ⟨_, rfl⟩
  have pg := hg s3 H3 C cl fp
  have pe := he s3 H3 C cl fp
  rw [← eY] at pg pe I4
  have calmY : Y.calm = true := by rw [eY]; exact hc
  have still : ∀ {σ' : L2.St} {H' : Hp} {s' : Shared}, Inv Y [] σ' H' s' → (∀ b ∈ fp, H' b = none) → ∀ b ∈ fp, FpOk Y [] H' b := fun {σ' H' s'} I' hn b hb => by
    subst eY
    exact ⟨hn b hb, (I'.ok.exf b hb).1, I'.ok.exfs b hb, .inl hb, fun x c e => (I'.ok.exf b hb).2 x c e, fun p hp => absurd (show p ∈ ([] : List (Addr × Obj)) ++ [] from hp) (by simp)⟩
  have loop : codeAny (model X.prog X.w) X.A (.compLoop (.SetComp elt [⟨tg, iter, [], 0⟩] scope pos) 0 (.ref it) (.ref D) (compEnvC scope cl C X.env)) (compPost (model X.prog X.w) X.A X.xe none (EP X pins σ Q) (.ref D) C) s4 := by
    refine PpSet.compLoopS_any (fun m s' => ∃ i G, Inv Y [] (wipe σ (own.map (·.2))) G s' ∧ tn i s'.heap ∧ (∀ b ∈ fp, G b = none) ∧ W i m G) ?_ m0
      ⟨0, H3, I4, at4, fun b hb => (own3 b hb).1.1, by rw [eH3]; exact w0⟩
    rintro m s5 ⟨i, G, I5, at5, n5, w5⟩
    rcases turn i m G w5 with ⟨stop, qq⟩ | ⟨go, step⟩
    · have td := T.done Y (by rw [eY]) (by rw [eY]) (by rw [eY]) calmY i [] s5 _ G (fun _ _ => False) I5 (still I5 n5) at5 stop
      have cL : (compEnvC scope cl C X.env).locals = C := rfl
      subst eY
      refine thnF td fun r s6 z => ?_
      obtain ⟨hr, I6⟩ := z
      subst hr
      have back : ∀ b ∈ fp, (b ∈ X.ex ∨ X.s_0.heap.objs.size ≤ b) ∧ b ≠ X.env.locals ∧ (∀ x c, X.env.cells.lookup x = some c → c ≠ b) ∧ ∀ p ∈ X.pn ++ pins, p.1 ≠ b := fun b hb => by
        obtain ⟨_, a1, _, a3, a4, a5⟩ := (own3 b hb).1
        exact ⟨a3, a1, a4, a5⟩
      have I7 : Inv X pins σ G s6 := I3.call' (ch := fp) I6.os I6.base I6.hok I6.bare back
      have nC : G C = none := I6.free
      obtain ⟨mm, hn, _⟩ := I6.loc
      refine ⟨mm, hn, fun h2 sb => ?_⟩
      obtain ⟨f0, f1, f2, f3, f4, f5⟩ := I3.fpOk (Nat.le_of_eq eC.symm) nC
      exact ⟨.ref D, G, I7.turned (t' := s6.toks) (fun b o hb e => (sb.2 b hb).trans e) f0 f1 f3 f4 f5, rfl, qq⟩
    · have ti := T.item Y (by rw [eY]) (by rw [eY]) (by rw [eY]) calmY i [] s5 _ G (fun _ _ => False) I5 (still I5 n5) at5 go
      have xeY : Y.xe = fun _ _ => False := by rw [eY]
      have AY : Y.A = X.A := by rw [eY]
      have pY : Y.prog = X.prog := by rw [eY]
      have wY : Y.w = X.w := by rw [eY]
      subst eY
      refine thnF ti fun r s6 z => ?_
      obtain ⟨u, hr, h6⟩ := z
      subst hr
      refine thnF h6 fun _ s7 z => ?_
      obtain ⟨x, G7, I7, r7, y7, at7, n7⟩ := z
      have I7p := I7.pinned (still I7 n7) (T.obj _ _ at7)
      refine thnF (pg.run _ s7 _ G7 x u _ I7p r7 (step x G7 y7)) fun _ s8 z => ?_
      obtain ⟨σ8, G8, I8, hw8, q8⟩ := z
      show wpAny _ _ (forIn [] true _) _ _ s8
      refine wpAny_pure ?_
      rw [if_pos rfl]
      refine thnF (pe.run _ s8 σ8 G8 _ I8 q8) fun v s9 z => ?_
      obtain ⟨yv, G9, I9, r9, k, S, n, ey, hD9, room, m2, lt2, w2⟩ := z
      subst ey
      obtain ⟨tk, rfl⟩ := r9
      refine into_set (X := X.blk s3 H3 scope (compEnvC scope cl C X.env) fp) I9 hD9 room fun s10 I10 => ?_
      have pinned : ∀ b ∈ fp, ∀ o, s7.heap.get? b = some o → s10.heap.get? b = some o ∧ addS X.w D S n k G9 b = none := fun b hb o e =>
        have z := I10.pin (b, o) (List.mem_append_right _ (List.mem_append_right _ (mem_pinsAt hb e)))
        ⟨z.1, z.2.1⟩
      have hl : (wipe σ (own.map (·.2))).length = σ8.length := by rw [← hw8, wipe_length]
      refine ⟨m2, lt2, i + 1, _, (I10.unpinned (pins := [])).weak hl (fun j v e => ?_), T.keep _ _ _ at7 fun b hb o e => (pinned b hb o e).1, fun b hb => ?_, w2⟩
      · rw [← hw8] at e
        exact (wipe_some e).1
      · obtain ⟨o, e, _⟩ := T.obj _ _ at7 b hb
        exact (pinned b hb o e).2
  exact PpSet.codeAny_compStart_set loop (T.self X.A 0 _ _ _ at4 loop)
end
end KX
namespace KX
open PySem PySem.Spec PyProof.Rows L2
/-- {e for x in t}, t a tuple that stays -/
theorem setI_tup {w : World} {K : PySem.W.Frag} {a D : Addr} {xs : List V} {g : TG} {te : TE} {vs : List Nat} {σ : L2.St} {H1 : Hp} {Qd : Hp → Prop} (Pv : Nat → Hp → Prop) (h0 : Pv 0 (upd H1 D (SetO w D (fun _ => false) 0)))
    (hl : ∀ i G, i ≤ xs.length → Pv i G → SqT K G a xs)
    (hs : ∀ i x G, xs[i]? = some x → Pv i G → g x (wipe σ vs) G fun σ2 G2 => wipe σ2 vs = wipe σ vs ∧ te σ2 G2 fun y G3 => ∃ (k : Int) (S : Int → Bool) (n : Nat), y = .int k ∧ G3 D = some (SetO w D S n) ∧ n + 1 < scanBound ∧ Pv (i + 1) (addS w D S n k G3))
    (hd : ∀ G, Pv xs.length G → Qd G) :
    ∃ W : Nat → Nat → Hp → Prop, (∃ m, W 0 m (upd H1 D (SetO w D (fun _ => false) 0))) ∧ ∀ i m G, W i m G → ((Itt K a).stop i G ∧ Qd G) ∨ ((Itt K a).go i G ∧ ∀ x G1, (Itt K a).yld i G x G1 → g x (wipe σ vs) G1 fun σ2 G2 => wipe σ2 vs = wipe σ vs ∧
      te σ2 G2 fun y G3 => ∃ (k : Int) (S : Int → Bool) (n : Nat), y = .int k ∧ G3 D = some (SetO w D S n) ∧ n + 1 < scanBound ∧ ∃ m2, m2 < m ∧ W (i + 1) m2 (addS w D S n k G3)) := by
  refine ⟨fun i m G => m = xs.length - i ∧ i ≤ xs.length ∧ Pv i G, ⟨xs.length, by simp, Nat.zero_le _, h0⟩, fun i m G hw => ?_⟩
  obtain ⟨rfl, hi, p⟩ := hw
  have q := hl i G hi p
  by_cases lt : i < xs.length
  · refine .inr ⟨⟨xs, xs[i], q, List.getElem?_eq_getElem lt⟩, fun x G1 y => ?_⟩
    obtain ⟨rfl, y⟩ := y
    have z := hs i x G1 (y xs q) p
    have mono : ∀ {σ2 : L2.St} {G2 : Hp} {y : V} {G3 : Hp}, (∃ (k : Int) (S : Int → Bool) (n : Nat), y = .int k ∧ G3 D = some (SetO w D S n) ∧ n + 1 < scanBound ∧ Pv (i + 1) (addS w D S n k G3)) →
        ∃ (k : Int) (S : Int → Bool) (n : Nat), y = .int k ∧ G3 D = some (SetO w D S n) ∧ n + 1 < scanBound ∧ ∃ m2, m2 < xs.length - i ∧ m2 = xs.length - (i + 1) ∧ i + 1 ≤ xs.length ∧ Pv (i + 1) (addS w D S n k G3) :=
      fun {σ2 G2 y G3} h => by
        obtain ⟨k, S, n, e1, e2, e3, e4⟩ := h
        exact ⟨k, S, n, e1, e2, e3, _, by omega, rfl, by omega, e4⟩
    have key : (fun (y : V) (G3 : Hp) => ∃ (k : Int) (S : Int → Bool) (n : Nat), y = .int k ∧ G3 D = some (SetO w D S n) ∧ n + 1 < scanBound ∧ ∃ m2, m2 < xs.length - i ∧ m2 = xs.length - (i + 1) ∧ i + 1 ≤ xs.length ∧ Pv (i + 1) (addS w D S n k G3)) =
        fun (y : V) (G3 : Hp) => ∃ (k : Int) (S : Int → Bool) (n : Nat), y = .int k ∧ G3 D = some (SetO w D S n) ∧ n + 1 < scanBound ∧ Pv (i + 1) (addS w D S n k G3) := by
      funext y G3
      refine propext ⟨fun h => ?_, fun h => mono (σ2 := []) (G2 := G3) h⟩
      obtain ⟨k, S, n, e1, e2, e3, m2, _, _, _, e4⟩ := h
      exact ⟨k, S, n, e1, e2, e3, e4⟩
    rw [key]
    exact z
  · have e : i = xs.length := by omega
    subst e
    exact .inl ⟨⟨xs, q, Nat.le_refl _⟩, hd G p⟩
end KX

set_option maxRecDepth 100000
set_option maxHeartbeats 4000000
namespace KX
open PySem PySem.Spec PyProof.Rows L2
/-! ### what an expression of a law's generator makes, its stream at l: S is what is known of the data, P of the names -/
abbrev PSt := L2.St → Hp → Prop
def Kp (l : Addr) (P : PSt) : Prop := ∀ σ H H', Keep l H H' → StO H' l → P σ H → P σ H'
def GD (l : Addr) (P : PSt) (S : PyData → Prop) (t : TE) : Prop := ∀ σ H Q, StO H l → P σ H → (∀ H' v d, S d → Keep l H H' → StO H' l → Dx (hid l H') v d → Q v H') → t σ H Q
def GDs (l : Addr) (P : PSt) (S : List PyData → Prop) (t : TA) : Prop := ∀ σ H Q, StO H l → P σ H → (∀ H' vs ds, S ds → Keep l H H' → StO H' l → Dxs (hid l H') vs ds → Q vs H') → t σ H Q
def GI (l : Addr) (P : PSt) (S : Int → Prop) (t : TE) : Prop := ∀ σ H Q, StO H l → P σ H → (∀ H' i, S i → Keep l H H' → StO H' l → Q (.int i) H') → t σ H Q
/-- a new list, read by its items only -/
def GM (l : Addr) (P : PSt) (S : List PyData → Prop) (t : TE) : Prop := ∀ σ H Q, StO H l → P σ H → (∀ H' p xs ds, S ds → Keep l H H' → StO H' l → p ≠ l → H' p = some (.lst xs) → Dxs (hid l H') xs ds → Q (.ref p) H') → t σ H Q
def GO (l : Addr) (P : PSt) (o : Option Int) (t : TO) : Prop := ∀ σ H Q, StO H l → P σ H → (∀ H', Keep l H H' → StO H' l → Q o H') → t σ H Q
section
variable {l : Addr} {P : PSt} {K : PySem.W.Frag} {S S2 : PyData → Prop} {Ss Ss2 : List PyData → Prop} {N : Int → Prop} {t ta tb : TE} {ts : TA} {d : PyData} {ds : List PyData}
theorem GD.imp (h : GD l P S t) (i : ∀ d, S d → S2 d) : GD l P S2 t := fun σ H Q st p q => h σ H Q st p fun H' v d s => q H' v d (i d s)
theorem GDs.imp (h : GDs l P Ss ts) (i : ∀ d, Ss d → Ss2 d) : GDs l P Ss2 ts := fun σ H Q st p q => h σ H Q st p fun H' v d s => q H' v d (i d s)
theorem GM.imp (h : GM l P Ss t) (i : ∀ d, Ss d → Ss2 d) : GM l P Ss2 t := fun σ H Q st p q => h σ H Q st p fun H' v xs d s => q H' v xs d (i d s)
theorem gd_var {i : Nat} (h : ∀ σ H, P σ H → ∃ v d, σ[i]? = some (some v) ∧ S d ∧ Dx (hid l H) v d) : GD l P S (tVar i) := fun σ H Q st p q => by
  obtain ⟨v, d, e, s, x⟩ := h σ H p
  exact ⟨v, e, q H v d s (Keep.refl l H) st x⟩
theorem gd_c {v : V} (h : ∀ H, Dx H v d) : GD l P (· = d) (tC v) := fun σ H Q st p q => q H v d rfl (Keep.refl l H) st (h _)
theorem gi_val {n : Int} (h : ∀ (σ : L2.St) (H : Hp) (Q : VK), Q (.int n) H → t σ H Q) : GI l P (· = n) t := fun σ H Q st p q => h σ H Q (q H n rfl (Keep.refl l H) st)
theorem gi_var {i : Nat} (h : ∀ σ H, P σ H → ∃ n, σ[i]? = some (some (.int n)) ∧ N n) : GI l P N (tVar i) := fun σ H Q st p q => by
  obtain ⟨n, e, s⟩ := h σ H p
  exact ⟨.int n, e, q H n s (Keep.refl l H) st⟩
theorem gd_int (h : GI l P N t) : GD l P (fun d => ∃ i, N i ∧ d = .int i) t := fun σ H Q st p q => h σ H Q st p fun H' i s k st' => q H' _ _ ⟨i, s, rfl⟩ k st' (.int i)
theorem gds_nil : GDs l P (· = []) tNil := fun σ H Q st p q => q H _ _ rfl (Keep.refl l H) st .nil
theorem gds_cons (kp : Kp l P) (h : GD l P S t) (hs : GDs l P Ss ts) : GDs l P (fun x => ∃ d ds, x = d :: ds ∧ S d ∧ Ss ds) (tCons t ts) := fun σ H Q st p q =>
  h σ H _ st p fun H1 v d s k st1 x => hs σ H1 _ st1 (kp _ _ _ k st1 p) fun H2 vs ds ss k2 st2 xs => q H2 _ _ ⟨d, ds, rfl, s, ss⟩ (k.trans k2) st2 (.cons (x.up k2.same) xs)
theorem gd_tup (h : GDs l P Ss ts) (hz : ∀ ds, Ss ds → ds.length ≤ sizeLine) : GD l P (fun d => ∃ ds, d = .tuple ds ∧ Ss ds) (tTup ts) := fun σ H Q st p q =>
  h σ H _ st p fun H1 vs ds s k st1 x => ⟨by rw [x.len]; exact hz ds s, fun a na => q _ _ _ ⟨ds, rfl, s⟩ (k.new na) (st1.new na) (dx_tup na st1 x)⟩
theorem gd_lst (h : GDs l P Ss ts) (hz : ∀ ds, Ss ds → ds.length ≤ sizeLine) : GD l P (fun d => ∃ ds, d = .list ds ∧ Ss ds) (tLstS ts) := fun σ H Q st p q =>
  h σ H _ st p fun H1 vs ds s k st1 x => ⟨by rw [x.len]; exact hz ds s, fun a na za => q _ _ _ ⟨ds, rfl, s⟩ (k.new na) (st1.new na) (dx_lst na za st1 x)⟩
theorem gm_lst (h : GDs l P Ss ts) (hz : ∀ ds, Ss ds → ds.length ≤ sizeLine) : GM l P Ss (tLst ts) := fun σ H Q st p q =>
  h σ H _ st p fun H1 vs ds s k st1 x => ⟨by rw [x.len]; exact hz ds s, fun a na => q _ a vs ds s (k.new na) (st1.new na) (st1.ne na) upd_same (x.up (hnew na))⟩
theorem gm_var {i : Nat} (h : ∀ σ H, P σ H → ∃ p xs ds, σ[i]? = some (some (.ref p)) ∧ Ss ds ∧ p ≠ l ∧ H p = some (.lst xs) ∧ Dxs (hid l H) xs ds) : GM l P Ss (tVar i) := fun σ H Q st p q => by
  obtain ⟨a, xs, ds, e, s, na, ea, x⟩ := h σ H p
  exact ⟨.ref a, e, q H a xs ds s (Keep.refl l H) st na ea x⟩
theorem gm_cat (kp : Kp l P) (h : GM l P Ss ta) (h2 : GM l P Ss2 tb) (hz : ∀ x y, Ss x → Ss2 y → x.length + y.length ≤ sizeLine) : GM l P (fun z => ∃ x y, z = x ++ y ∧ Ss x ∧ Ss2 y) (tOp rCat ta tb) := fun σ H Q st p q =>
  h σ H _ st p fun H1 a xs ds s k st1 na ea x => h2 σ H1 _ st1 (kp _ _ _ k st1 p) fun H2 b ys es s2 k2 st2 nb eb y =>
    ⟨a, b, xs, ys, rfl, rfl, k2 _ _ na ea, eb, by rw [x.len, y.len]; exact hz _ _ s s2, fun c nc => q _ c _ _ ⟨ds, es, rfl, s, s2⟩ ((k.trans k2).new nc) (st2.new nc) (st2.ne nc) upd_same (((x.up k2.same).app y).up (hnew nc))⟩
theorem gd_ixM {n : Int} (kp : Kp l P) (h : GM l P Ss ta) (hi : GI l P (fun k => 0 ≤ k ∧ k < n) tb) (hn : ∀ ds, Ss ds → (ds.length : Int) = n) : GD l P (fun d => ∃ ds, Ss ds ∧ d ∈ ds) (tOp (rIxL K) ta tb) := fun σ H Q st p q =>
  h σ H _ st p fun H1 a xs ds s k st1 na ea x => hi σ H1 _ st1 (kp _ _ _ k st1 p) fun H2 i hb k2 st2 => by
    have hl := hn ds s
    have hx := x.len
    have lt : i.toNat < xs.length := by omega
    obtain ⟨d, ed, hd⟩ := x.get' (List.getElem?_eq_getElem lt)
    have ix : atI xs i = some xs[i.toNat] := by
      have z := atI_nat (xs := xs) (j := i.toNat) (List.getElem?_eq_getElem lt)
      rwa [show ((i.toNat : Nat) : Int) = i by omega] at z
    exact ⟨a, xs, i, _, rfl, rfl, .inl (.inl (k2 _ _ na ea)), ix, q H2 _ d ⟨ds, s, List.mem_of_getElem? ed⟩ (k.trans k2) st2 (hd.up k2.same)⟩
/-- t[k], t a tuple that is known -/
theorem gd_ixT {k : Nat} (kp : Kp l P) (h : GD l P (· = .tuple ds) ta) (hi : GI l P (· = (k : Int)) tb) (hk : ds[k]? = some d) : GD l P (· = d) (tOp (rIxT K) ta tb) := fun σ H Q st p q =>
  h σ H _ st p fun H1 v e s k1 st1 x => hi σ H1 _ st1 (kp _ _ _ k1 st1 p) fun H2 i hb k2 st2 => by
    subst s hb
    obtain ⟨a, xs, rfl, na, ea, hx⟩ := dx_tupOf x
    have lt : k < ds.length := by
      rcases Nat.lt_or_ge k ds.length with z | z
      · exact z
      · rw [List.getElem?_eq_none z] at hk; cases hk
    have lt2 : k < xs.length := by rw [hx.len]; exact lt
    obtain ⟨d2, ed, hd⟩ := hx.get' (List.getElem?_eq_getElem lt2)
    rw [hk] at ed
    cases ed
    exact ⟨a, xs, k, _, rfl, rfl, .inl (.inl (k2 _ _ na ea)), atI_nat (List.getElem?_eq_getElem lt2), q H2 _ d rfl (k1.trans k2) st2 (hd.up k2.same)⟩
theorem go_none : GO l P none tNoPart := fun σ H Q st p q => q H (Keep.refl l H) st
theorem go_some {n : Int} (h : GI l P (· = n) t) : GO l P (some n) (tPart t) := fun σ H Q st p q => h σ H _ st p fun H' i s k st' => ⟨i, rfl, by subst s; exact q H' k st'⟩
theorem gd_slice {lo hi : Option Int} {tl th : TO} (kp : Kp l P) (h : GD l P (· = .tuple ds) ta) (hl : GO l P lo tl) (hh : GO l P hi th) : GD l P (· = .tuple (cutD ds lo hi)) (L2.tSl (rSlA K) ta tl th) := fun σ H Q st p q =>
  h σ H _ st p fun H1 v e s k1 st1 x => hl σ H1 _ st1 (kp _ _ _ k1 st1 p) fun H2 k2 st2 => hh σ H2 _ st2 (kp _ _ _ (k1.trans k2) st2 p) fun H3 k3 st3 => by
    subst s
    exact sl_of ((x.up k2.same).up k3.same) st3 fun H4 a k4 st4 y => q H4 _ _ rfl (((k1.trans k2).trans k3).trans k4) st4 y
theorem gd_cat (kp : Kp l P) (h : GD l P S ta) (h2 : GD l P S2 tb) (t1 : ∀ d, S d → ∃ ds, d = .tuple ds ∧ ds.length ≤ 1000) (t2 : ∀ d, S2 d → ∃ ds, d = .tuple ds ∧ ds.length ≤ 1000) :
    GD l P (fun d => ∃ x y, S (.tuple x) ∧ S2 (.tuple y) ∧ d = .tuple (x ++ y)) (tOp (rCatA K) ta tb) := fun σ H Q st p q =>
  h σ H _ st p fun H1 v e s k1 st1 x => h2 σ H1 _ st1 (kp _ _ _ k1 st1 p) fun H2 u e2 s2 k2 st2 y => by
    obtain ⟨ds, rfl, z1⟩ := t1 e s
    obtain ⟨es, rfl, z2⟩ := t2 e2 s2
    have hb : (2000 : Nat) ≤ sizeLine := by decide
    exact cat_of (x.up k2.same) y st2 (by omega) fun H3 a k3 st3 z => q H3 _ _ ⟨ds, es, s, s2, rfl⟩ ((k1.trans k2).trans k3) st3 z
def rLst2 (K : PySem.W.Frag) : List V → Hp → VK → Prop := fun xs H Q => ∃ p ys, xs = [.ref p] ∧ (SqL K H p ys ∨ SqT K H p ys) ∧ ∀ l, H l = none → l ≠ sysModules → Q (.ref l) (upd H l (.lst ys))
theorem call_lst2 {X : Cx} : CallR X (.type "list") (rLst2 X.K) := call_listS
theorem gd_listOf (h : GD l P (· = .tuple ds) t) : GD l P (· = .list ds) (tCB (rLst2 K) (tCons t tNil)) := fun σ H Q st p q =>
  h σ H _ st p fun H1 v e s k1 st1 x => by
    subst s
    obtain ⟨a, xs, rfl, na, ea, hx⟩ := dx_tupOf x
    exact ⟨a, xs, rfl, .inr (.inl (.inl ea)), fun b nb zb => q _ _ _ rfl (k1.new nb) (st1.new nb) (dx_lst nb zb st1 hx)⟩
theorem gd_rep {k : Int} (kp : Kp l P) (h : GD l P (· = .tuple ds) ta) (hb : GI l P (· = k) tb) (k2 : 2 ≤ k) (k1 : k ≤ 1000) (hn : ds ≠ []) (hz : ds.length ≤ 1000) :
    GD l P (· = .tuple (List.replicate k.toNat ds).flatten) (tOp (rRepT K) ta tb) := fun σ H Q st p q =>
  h σ H _ st p fun H1 v e s k1' st1 x => hb σ H1 _ st1 (kp _ _ _ k1' st1 p) fun H2 i hb k2' st2 => by
    subst s hb
    obtain ⟨a, xs, rfl, na, ea, hx⟩ := dx_tupOf (x.up k2'.same)
    have hl := hx.len
    refine ⟨a, i, xs, rfl, rfl, .inl (.inl ea), fun z => ?_, k2, k1, by omega, fun b nb => q _ _ _ rfl ((k1'.trans k2').new nb) (st2.new nb) (dx_tup nb st2 (dxs_rep hx _))⟩
    subst z
    exact hn (List.eq_nil_of_length_eq_zero (by simpa using hl.symm))
theorem gd_dict : GD l P (· = .dict []) tDNewK := fun σ H Q st p q b nb => q _ _ _ rfl ((Keep.refl l H).new nb) (st.new nb) (dx_dic nb st)
end
end KX

set_option maxRecDepth 100000
set_option maxHeartbeats 4000000
namespace KX
open PySem PySem.Spec PyProof.Rows L2
/-! ### known names, and data of a bounded weight -/
def Env (l : Addr) (σ0 : L2.St) (L : List (V × PyData)) (M : List (Addr × List V × List PyData)) : PSt := fun σ H =>
  σ = σ0 ∧ (∀ p ∈ L, Dx (hid l H) p.1 p.2) ∧ ∀ m ∈ M, m.1 ≠ l ∧ H m.1 = some (.lst m.2.1) ∧ Dxs (hid l H) m.2.1 m.2.2
theorem kp_env {l : Addr} {σ0 : L2.St} {L : List (V × PyData)} {M : List (Addr × List V × List PyData)} : Kp l (Env l σ0 L M) := fun σ H H' k st h =>
  ⟨h.1, fun p hp => (h.2.1 p hp).up k.same, fun m hm => by
    obtain ⟨h1, h2, h3⟩ := h.2.2 m hm
    exact ⟨h1, k _ _ h1 h2, h3.up k.same⟩⟩
def Gp (n : Nat) (d : PyData) : Prop := fine (10 ^ 40) d = true ∧ wt d ≤ n ∧ d.plain = true
def Lp (n : Nat) (ds : List PyData) : Prop := fineAll (10 ^ 40) ds = true ∧ wtAll ds ≤ n ∧ PyData.plainAll ds = true
def TpS (n : Nat) (d : PyData) : Prop := ∃ ds, d = .tuple ds ∧ Lp n ds
def Al (S : PyData → Prop) (n : Nat) (ds : List PyData) : Prop := ds.length = n ∧ ∀ d ∈ ds, S d
theorem plainAll_app : ∀ xs ys : List PyData, PyData.plainAll (xs ++ ys) = (PyData.plainAll xs && PyData.plainAll ys)
  | [], ys => by simp [PyData.plainAll]
  | x :: xs, ys => by simp [PyData.plainAll, plainAll_app xs ys, Bool.and_assoc]
theorem Lp.nil : Lp 0 [] := ⟨rfl, Nat.le_refl _, rfl⟩
theorem Lp.cons {a b : Nat} {d : PyData} {ds : List PyData} (h : Gp a d) (t : Lp b ds) : Lp (a + b) (d :: ds) := by
  refine ⟨by simp [fineAll, h.1, t.1], ?_, by simp [PyData.plainAll, h.2.2, t.2.2]⟩
  have h1 := h.2.1
  have h2 := t.2.1
  simp [wtAll]
  omega
theorem Lp.app {a b : Nat} {x y : List PyData} (h : Lp a x) (t : Lp b y) : Lp (a + b) (x ++ y) := by
  refine ⟨by rw [fineAll_app, h.1, t.1]; rfl, ?_, by rw [plainAll_app, h.2.2, t.2.2]; rfl⟩
  have h1 := h.2.1
  have h2 := t.2.1
  rw [wtAll_app]
  omega
theorem Lp.mono {a b : Nat} {x : List PyData} (h : Lp a x) (le : a ≤ b) : Lp b x := ⟨h.1, Nat.le_trans h.2.1 le, h.2.2⟩
theorem Gp.mono {a b : Nat} {x : PyData} (h : Gp a x) (le : a ≤ b) : Gp b x := ⟨h.1, Nat.le_trans h.2.1 le, h.2.2⟩
theorem Lp.split {n k : Nat} {x : List PyData} (h : Lp n x) : Lp n (x.take k) ∧ Lp n (x.drop k) := by
  obtain ⟨h1, h2, h3⟩ := h
  rw [← List.take_append_drop k x, fineAll_app, Bool.and_eq_true] at h1
  rw [← List.take_append_drop k x, wtAll_app] at h2
  rw [← List.take_append_drop k x, plainAll_app, Bool.and_eq_true] at h3
  exact ⟨⟨h1.1, by omega, h3.1⟩, ⟨h1.2, by omega, h3.2⟩⟩
theorem Lp.cut {n : Nat} {x : List PyData} (h : Lp n x) (lo hi : Option Int) : Lp n (cutD x lo hi) := (h.split.2).split.1
theorem Lp.len {n : Nat} {x : List PyData} (h : Lp n x) : x.length ≤ n := Nat.le_trans (len_wt x) h.2.1
theorem Lp.tup {n : Nat} {x : List PyData} (h : Lp n x) : Gp (n + 1) (.tuple x) := ⟨by simpa [fine] using h.1, by have := h.2.1; simp [wt]; omega, by simpa [PyData.plain] using h.2.2⟩
theorem Lp.lst {n : Nat} {x : List PyData} (h : Lp n x) : Gp (n + 1) (.list x) := ⟨by simpa [fine] using h.1, by have := h.2.1; simp [wt]; omega, by simpa [PyData.plain] using h.2.2⟩
theorem TpS.gp {n : Nat} {d : PyData} (h : TpS n d) : Gp (n + 1) d := by
  obtain ⟨ds, rfl, h⟩ := h
  exact h.tup
theorem TpS.mono {a b : Nat} {d : PyData} (h : TpS a d) (le : a ≤ b) : TpS b d := by
  obtain ⟨ds, rfl, h⟩ := h
  exact ⟨ds, rfl, h.mono le⟩
theorem big_line : (1000 : Nat) ≤ sizeLine := by decide
section
variable {l : Addr} {P : PSt} {K : PySem.W.Frag} {S : PyData → Prop} {t ta tb : TE} {ts : TA} {ds : List PyData} {a b n : Nat} {σ0 : L2.St} {L : List (V × PyData)} {M : List (Addr × List V × List PyData)}
theorem gd_env {i : Nat} {v : V} {d : PyData} (h : σ0[i]? = some (some v)) (hm : (v, d) ∈ L) : GD l (Env l σ0 L M) (· = d) (tVar i) :=
  gd_var fun σ H p => ⟨v, d, by rw [p.1]; exact h, rfl, p.2.1 _ hm⟩
theorem gi_env {i : Nat} {k : Int} (h : σ0[i]? = some (some (.int k))) : GI l (Env l σ0 L M) (· = k) (tVar i) := gi_var fun σ H p => ⟨k, by rw [p.1]; exact h, rfl⟩
theorem gm_env {i : Nat} {p : Addr} {xs : List V} (h : σ0[i]? = some (some (.ref p))) (hm : (p, xs, ds) ∈ M) : GM l (Env l σ0 L M) (· = ds) (tVar i) :=
  gm_var fun σ H q => ⟨p, xs, ds, by rw [q.1]; exact h, rfl, (q.2.2 _ hm).1, (q.2.2 _ hm).2.1, (q.2.2 _ hm).2.2⟩
theorem gl_nil : GDs l P (Lp 0) tNil := gds_nil.imp fun _ e => by subst e; exact Lp.nil
theorem gl_cons (kp : Kp l P) (h : GD l P (Gp a) t) (hs : GDs l P (Lp b) ts) : GDs l P (Lp (a + b)) (tCons t ts) := (gds_cons kp h hs).imp fun _ z => by
  obtain ⟨d, ds, rfl, z1, z2⟩ := z
  exact Lp.cons z1 z2
theorem gl_tup (h : GDs l P (Lp n) ts) (hn : n ≤ 1000) : GD l P (TpS n) (tTup ts) := (gd_tup h fun ds z => Nat.le_trans z.len (Nat.le_trans hn big_line)).imp fun _ z => by
  obtain ⟨ds, rfl, z⟩ := z
  exact ⟨ds, rfl, z⟩
theorem gl_cat (kp : Kp l P) (h : GD l P (TpS a) ta) (h2 : GD l P (TpS b) tb) (ha : a ≤ 1000) (hb : b ≤ 1000) : GD l P (TpS (a + b)) (tOp (rCatA K) ta tb) :=
  (gd_cat kp h h2 (fun d z => by obtain ⟨ds, rfl, z⟩ := z; exact ⟨ds, rfl, Nat.le_trans z.len ha⟩) fun d z => by obtain ⟨ds, rfl, z⟩ := z; exact ⟨ds, rfl, Nat.le_trans z.len hb⟩).imp fun d z => by
    obtain ⟨x, y, ⟨x', e1, h1⟩, ⟨y', e2, h2⟩, rfl⟩ := z
    cases e1
    cases e2
    exact ⟨_, rfl, h1.app h2⟩
theorem gl_slice {lo hi : Option Int} {tl th : TO} (kp : Kp l P) (h : GD l P (· = .tuple ds) ta) (z : Lp n ds) (hl : GO l P lo tl) (hh : GO l P hi th) : GD l P (TpS n) (L2.tSl (rSlA K) ta tl th) :=
  (gd_slice kp h hl hh).imp fun d e => ⟨_, e, z.cut lo hi⟩
theorem al_nil : GDs l P (Al S 0) tNil := gds_nil.imp fun _ e => by subst e; exact ⟨rfl, fun d h => by cases h⟩
theorem al_cons (kp : Kp l P) (h : GD l P S t) (hs : GDs l P (Al S n) ts) : GDs l P (Al S (n + 1)) (tCons t ts) := (gds_cons kp h hs).imp fun _ z => by
  obtain ⟨d, ds, rfl, z1, z2, z3⟩ := z
  refine ⟨by simp [z2], fun x hx => ?_⟩
  rcases List.mem_cons.mp hx with e | hx
  · rw [e]; exact z1
  · exact z3 x hx
theorem al_lst (h : GDs l P (Al S n) ts) (hn : n ≤ 1000) : GM l P (Al S n) (tLst ts) := gm_lst h fun ds z => by rw [z.1]; exact Nat.le_trans hn big_line
theorem al_cat {m : Nat} (kp : Kp l P) (h : GM l P (Al S n) ta) (h2 : GM l P (Al S m) tb) (hn : n + m ≤ 1000) : GM l P (Al S (n + m)) (tOp rCat ta tb) :=
  (gm_cat kp h h2 fun x y z1 z2 => by rw [z1.1, z2.1]; exact Nat.le_trans hn big_line).imp fun z w => by
    obtain ⟨x, y, rfl, w1, w2⟩ := w
    refine ⟨by rw [List.length_append, w1.1, w2.1], fun d hd => ?_⟩
    rcases List.mem_append.mp hd with q | q
    · exact w1.2 d q
    · exact w2.2 d q
/-- one of a list, by a number within it -/
theorem al_ix {m : Int} (kp : Kp l P) (h : GM l P (Al S n) ta) (hi : GI l P (fun k => 0 ≤ k ∧ k < m) tb) (hn : (n : Int) = m) : GD l P S (tOp (rIxL K) ta tb) :=
  (gd_ixM kp h hi fun ds z => by rw [z.1]; exact hn).imp fun d z => by
    obtain ⟨ds, z1, z2⟩ := z
    exact z1.2 d z2
end
theorem GI.imp {l : Addr} {P : PSt} {N N2 : Int → Prop} {t : TE} (h : GI l P N t) (i : ∀ d, N d → N2 d) : GI l P N2 t := fun σ H Q st p q => h σ H Q st p fun H' v s => q H' v (i v s)
theorem gp_int {i : Int} (h : i.natAbs ≤ 10 ^ 40) {n : Nat} (hn : 1 ≤ n) : Gp n (.int i) := ⟨by simpa [fine] using h, by simpa [wt] using hn, rfl⟩
theorem gcn {l : Addr} {P : PSt} {n : Nat} {v : V} {d : PyData} (h : ∀ H, Dx H v d) (g : Gp n d) : GD l P (Gp n) (tC v) := (gd_c h).imp fun _ e => by subst e; exact g
theorem gin {l : Addr} {P : PSt} {n : Nat} {k : Int} {t : TE} (h : GI l P (· = k) t) (hk : k.natAbs ≤ 10 ^ 40) (hn : 1 ≤ n) : GD l P (Gp n) t := (gd_int h).imp fun d e => by
  obtain ⟨i, rfl, rfl⟩ := e
  exact gp_int hk hn
theorem alld_nil {l : Addr} {H : Hp} : ∀ p ∈ ([] : List (V × PyData)), Dx (hid l H) p.1 p.2 := fun p h => by cases h
theorem alld_cons {l : Addr} {H : Hp} {v : V} {d : PyData} {L : List (V × PyData)} (h : Dx (hid l H) v d) (t : ∀ p ∈ L, Dx (hid l H) p.1 p.2) : ∀ p ∈ (v, d) :: L, Dx (hid l H) p.1 p.2 := fun p hp => by
  rcases List.mem_cons.mp hp with e | hp
  · rw [e]; exact h
  · exact t p hp
theorem alld_up {l : Addr} {H H' : Hp} {L : List (V × PyData)} (k : Keep l H H') (t : ∀ p ∈ L, Dx (hid l H) p.1 p.2) : ∀ p ∈ L, Dx (hid l H') p.1 p.2 := fun p hp => (t p hp).up k.same
theorem allm_nil {l : Addr} {H : Hp} : ∀ m ∈ ([] : List (Addr × List V × List PyData)), m.1 ≠ l ∧ H m.1 = some (.lst m.2.1) ∧ Dxs (hid l H) m.2.1 m.2.2 := fun p h => by cases h
theorem allm_one {l : Addr} {H : Hp} {p : Addr} {xs : List V} {ds : List PyData} (n : p ≠ l) (e : H p = some (.lst xs)) (x : Dxs (hid l H) xs ds) :
    ∀ m ∈ [(p, xs, ds)], m.1 ≠ l ∧ H m.1 = some (.lst m.2.1) ∧ Dxs (hid l H) m.2.1 m.2.2 := fun q h => by
  obtain rfl := List.mem_singleton.mp h
  exact ⟨n, e, x⟩
/-- a name gets data; a name gets a list -/
theorem gd_seq {l : Addr} {P : PSt} {S : PyData → Prop} {t : TE} {u : TS} {i : Nat} {D : Ends} {σ : L2.St} {H : Hp} (h : GD l P S t) (st : StO H l) (p : P σ H) (k : ∀ H' v d, S d → Keep l H H' → StO H' l → Dx (hid l H') v d → u D (σ.set i (some v)) H') :
    tSeq (tAsg t (gName i)) u D σ H := h σ H _ st p fun H' v d s k1 st1 x => k H' v d s k1 st1 x
theorem gm_seq {l : Addr} {P : PSt} {S : List PyData → Prop} {t : TE} {u : TS} {i : Nat} {D : Ends} {σ : L2.St} {H : Hp} (h : GM l P S t) (st : StO H l) (p : P σ H)
    (k : ∀ H' a xs ds, S ds → Keep l H H' → StO H' l → a ≠ l → H' a = some (.lst xs) → Dxs (hid l H') xs ds → u D (σ.set i (some (.ref a))) H') :
    tSeq (tAsg t (gName i)) u D σ H := h σ H _ st p fun H' a xs ds s k1 st1 n e x => k H' a xs ds s k1 st1 n e x
end KX

set_option maxRecDepth 100000
set_option maxHeartbeats 4000000
namespace KX
open PySem PySem.Spec PyProof.Rows L2
theorem countP_eqU {x : V} : ∀ {xs : List V} {us : List Value}, Vals xs us → xs.all flatV = true → us.countP (eqU x) = xs.countP fun y => eqV y x
  | _, _, .nil, _ => rfl
  | y :: xs, u :: us, .cons r t, f => by
    rw [List.all_cons, Bool.and_eq_true] at f
    rw [List.countP_cons, List.countP_cons, eqU_of r f.1, countP_eqU t f.2]
section
variable {X : Cx}
/-- xs.count(y), flat items -/
def rCntF (K : PySem.W.Frag) : V → List V → Hp → VK → Prop := fun x xs H Q => ∃ (p : Addr) (ys : List V) (y : V), x = .ref p ∧ xs = [y] ∧ SqL K H p ys ∧ flatV y = true ∧ ys.all flatV = true ∧ Q (.int (ys.countP fun z => eqV z y : Nat)) H
theorem mt_countF : MtR X "list.count" (rCntF X.K) := by
  intro pins s σ H x xs v us Q I rx rxs h
  obtain ⟨p, ys, y, rfl, rfl, hs, fy, fs, q⟩ := h
  cases rx
  obtain ⟨u, rfl, ru⟩ := rxs.one
  obtain ⟨its, rv, ⟨⟨cls, dd, data, sl⟩, n, ho, hc, hdn, hd⟩, hlen⟩ := I.list hs
  dsimp only at hc hd
  subst hc hd
  have same : its.toArray.toList.countP (eqU y) = ys.countP fun z => eqV z y := countP_eqU rv fs
  refine call_meets PySem.F.slot_list_count ⟨_, ho, rfl⟩ PySem.F.entry_list_count (PySem.F.args_list_count_2 _ _) (SeqAt.list_countAt p its.toArray n dd sl u (eqU y)) ⟨ho, fun z hz => mem_eqAt ru fy rv fs z (by simpa using hz), ?_⟩
  refine ⟨.int (ys.countP fun z => eqV z y : Nat), H, I.tok _, ⟨s.toks, ?_⟩, q⟩
  rw [same]
end
/-- isinstance(e, T), isinstance(e, (T, ..)): e a caught error without fields of its own -/
def rIsN (K : PySem.W.Frag) (a : Addr) (cls : Value) (d : Option Addr) : List V → Hp → VK → Prop := fun xs H Q =>
  ∃ (C : Addr) (c : V) (b : Bool), XI K C ∧ cls = .ref C ∧ d = none ∧ xs = [.ref a, c] ∧
    ((∃ cv, (∀ u, RelV c u → u = cv) ∧ PySem.W.kitOne K (.ref C) cv = some b) ∨
      ∃ (tp : Addr) (ys : List V) (its : List Value), c = .ref tp ∧ H tp = some (.tup ys) ∧ (∀ us, Vals ys us → us = its) ∧ PySem.W.kitAny K (.ref C) its = some b) ∧ Q (.bl b) H
theorem call_isN {X : Cx} {a : Addr} {oe : Obj} {cls : Value} {d : Option Addr} {pn : List (Addr × Obj)} (hz : Zc cls d oe) (hf : ∃ vs, oe.data = .fields vs) :
    CallR (X.suite a ((a, oe) :: pn)) (.builtin "isinstance") (rIsN X.K a cls d) := by
  intro pins s σ H xs us Q I r h
  obtain ⟨C, c, b, T, ec, ed, rfl, hc, q⟩ := h
  subst ec ed
  obtain ⟨hget, _⟩ := I.pin (a, oe) (List.mem_append.mpr (.inl List.mem_cons_self))
  obtain ⟨vs, hv⟩ := hf
  have J : PySem.W.InstAt s.heap a oe C none := ⟨hget, hz.1, by unfold PySem.W.notCls; rw [hv] <;> rfl, by rw [hz.2]; trivial⟩
  have hcl : (PySem.W.clsIn X.K C).isSome = true := by
    obtain ⟨cd, hc, _⟩ := PySem.W.any_some T.hd
    rw [hc]; rfl
  have Z : PySem.W.KitX X.K (.ref a) (.ref C) (fun h => PySem.W.InstAt h a oe C none) := PySem.W.kitx_exc hcl T.ga T.gg T.sub T.hcl T.sp T.tk T.mro
  obtain ⟨u, rfl, ru⟩ : ∃ u2, us = [.ref a, u2] ∧ RelV c u2 := by
    cases r with
    | cons r1 r2 =>
      cases r2 with
      | cons r3 r4 =>
        cases r4
        cases r1
        exact ⟨_, rfl, r3⟩
  rcases hc with ⟨cv, hcv, e⟩ | ⟨tp, ys, its, rfl, hH, hits, e⟩
  · have eu := hcv _ ru
    subst eu
    exact PySem.W.kia_one Z I.kIn J e (fun z => nomatch z) fun tk => ⟨.bl b, H, I.kept (t' := tk) fun _ _ z => z, rfl, q⟩
  · obtain rfl : u = Value.ref tp := ru
    obtain ⟨_, us2, r2, o, h1, h2, n, h3⟩ := (show ObjOk X.prog X.w H s.heap tp (.tup ys) from I.hok tp _ hH)
    have eu := hits us2 r2
    subst eu
    obtain ⟨oc, od2, oda, osl⟩ := o
    dsimp only at h2 h3
    subst h2 h3
    exact PySem.W.kia_tup Z I.kIn J h1 e (fun z => nomatch z) fun tk => ⟨.bl b, H, I.kept (t' := tk) fun _ _ z => z, rfl, q⟩
end KX

set_option maxRecDepth 100000
set_option maxHeartbeats 4000000
/-! zip of a list and a tuple -/
namespace KX
open PySem PySem.Spec PyProof.Rows L2
def ItM (K : PySem.W.Frag) (a b : Addr) : It :=
  ⟨fun i H => ∃ (xs ys : List V) (x y : V), SqL K H a xs ∧ SqT K H b ys ∧ xs[i]? = some x ∧ ys[i]? = some y,
    fun i H v G => ∃ T x y, v = .ref T ∧ H T = none ∧ G = upd H T (.tup [x, y]) ∧ (∀ xs, SqL K H a xs → xs[i]? = some x) ∧ ∀ ys, SqT K H b ys → ys[i]? = some y,
    fun i H => ∃ xs ys : List V, SqL K H a xs ∧ SqT K H b ys ∧ xs.length = i ∧ ys.length = i⟩
theorem sep_of {z TI TO i1 i2 a b : Addr} (D : ZipApart z TI TO i1 i2 a b) : ZipSep2 z TI TO i1 i2 [i1, a] [i2, b] := by
  have e1 := D.TIz
  refine ⟨D.TIz, D.TOz, D.TITO, D.TIi1, by simp, ?_, ?_, D.TIi2, by simp, ?_, ?_, ?_, ?_⟩
  · simp [D.i1z.symm, D.l1z.symm]
  · simp [D.TOi1, D.l1TO.symm]
  · simp [D.i2z.symm, D.l2z.symm]
  · simp [D.TOi2, D.l2TO.symm]
  · simp [D.i12, D.l2i1.symm]
  · simp [D.i12.symm, D.l1i2.symm]
theorem turn_m {P : Program} {w : World} {K : PySem.W.Frag} {elts : List Expr} {kk : Nat} {tpos : Pos} {a b z TI TO i1 i2 : Addr} (D : ZipApart z TI TO i1 i2 a b) :
    Turn P w K (.Tuple elts kk tpos) (ItM K a b) [z, TI, TO, i1, i2] z (fun i h => IsZip h z TI TO .none ∧ IsPair h TI (.ref i1) (.ref i2) ∧ (∃ x y, IsPair h TO x y) ∧ h.IsListIter i1 a i ∧ h.IsTupleIter i2 b i) where
  mem := by simp
  obj := fun i h st c hc => by
    obtain ⟨hz, hTI, ⟨x, y, hTO⟩, ⟨o1, e1, _, d1⟩, ⟨o2, e2, _, d2⟩⟩ := st
    simp only [List.mem_cons, List.not_mem_nil, or_false] at hc
    rcases hc with rfl | rfl | rfl | rfl | rfl
    · exact ⟨_, hz, fun v q => nomatch q⟩
    · exact ⟨_, hTI, fun v q => nomatch q⟩
    · exact ⟨_, hTO, fun v q => nomatch q⟩
    · exact ⟨o1, e1, fun v q => by rw [d1] at q; cases q⟩
    · exact ⟨o2, e2, fun v q => by rw [d2] at q; cases q⟩
  keep := fun i h h' st k => by
    obtain ⟨hz, hTI, ⟨x, y, hTO⟩, t1, t2⟩ := st
    exact ⟨k z (by simp) _ hz, k TI (by simp) _ hTI, ⟨x, y, k TO (by simp) _ hTO⟩, t1.at fun o q => k i1 (by simp) o q, t2.at fun o q => k i2 (by simp) o q⟩
  item := by
    intro X hP hw hK hc i pins s σ H E I hf st hg
    subst hP hw hK
    obtain ⟨hz, hTI, ⟨x0, y0, hTO⟩, t1, t2⟩ := st
    obtain ⟨xs, ys, x, y, hqx, hqy, hx, hy⟩ := hg
    obtain ⟨its, rv, pl, _⟩ := I.list hqx
    obtain ⟨its2, rv2, pt, _⟩ := I.tuple hqy
    obtain ⟨u, hu, ru⟩ := rv.get hx
    obtain ⟨u2, hu2, ru2⟩ := rv2.get hy
    have zl : z < s.heap.objs.size := Heap.lt_size hz
    have hh : X.A.in1.handled = none := I.ok.hd hc
    have li : i < its.toArray.size := by simpa using (List.getElem?_eq_some_iff.mp hu).1
    have li2 : i < its2.toArray.size := by simpa using (List.getElem?_eq_some_iff.mp hu2).1
    refine wpAny_pyNext_zipD2_item (sep_of D) (Draws.list hh i1 a D.l1i1 its.toArray) (Draws.tuple hh i2 b D.l2i2 its2.toArray) hz hTI hTO ⟨t1, pl.isList⟩ ⟨t2, pt⟩ li li2 fun x1 x2 h' tk q1 q2 z' TO' s1' s2' hT hsz hk => ?_
    have e1 : x1 = u := Option.some.inj (q1.symm.trans (by simpa using hu))
    have e2 : x2 = u2 := Option.some.inj (q2.symm.trans (by simpa using hu2))
    subst e1 e2
    refine ⟨_, rfl, wpAny_letOwnedTupleGo_zip (s := { s with heap := h', toks := tk }) z' fun h'' z'' sb => ?_⟩
    have hT2 : h''.get? s.heap.objs.size = some { cls := .type "tuple", data := .seq #[x1, x2] } := (sb.2 _ (Nat.ne_of_gt zl)).trans hT
    have new : ObjOk X.prog X.w (upd H s.heap.objs.size (.tup [x, y])) h'' s.heap.objs.size (.tup [x, y]) := ⟨by show 2 ≤ sizeLine; decide, [x1, x2], .cons ru (.cons ru2 .nil), ⟨_, hT2, rfl, _, rfl⟩⟩
    have moved : ∀ c o, c ∉ [z, TI, TO, i1, i2] → s.heap.get? c = some o → h''.get? c = some o := fun c o hb q => by
      simp only [List.mem_cons, List.not_mem_nil, or_false, not_or] at hb
      exact (sb.2 c hb.1).trans (hk c o hb.1 hb.2.2.1 hb.2.2.2.1 hb.2.2.2.2 q)
    have I1 : Inv X pins σ (upd H s.heap.objs.size (.tup [x, y])) { s with heap := h'', toks := tk } := I.turnedNew (t' := tk) (ch := [z, TI, TO, i1, i2]) moved hf (Nat.le_refl _) new
    refine ⟨.ref s.heap.objs.size, _, I1, rfl, ⟨_, x, y, rfl, I.hok.fresh (Nat.le_refl _), rfl, fun l hl => by rw [I.list_inj hl hqx]; exact hx, fun l hl => by rw [I.tuple_inj hl hqy]; exact hy⟩,
      ⟨z'', (sb.2 _ D.TIz).trans (hk _ _ D.TIz D.TITO D.TIi1 D.TIi2 hTI), ⟨x1, x2, (sb.2 _ D.TOz).trans TO'⟩, s1'.1.at fun o q => (sb.2 _ D.i1z).trans q, s2'.1.at fun o q => (sb.2 _ D.i2z).trans q⟩, fun c hcm => ?_⟩
    have lt : c < s.heap.objs.size := by
      simp only [List.mem_cons, List.not_mem_nil, or_false] at hcm
      rcases hcm with rfl | rfl | rfl | rfl | rfl
      · exact zl
      · exact Heap.lt_size hTI
      · exact Heap.lt_size hTO
      · obtain ⟨_, q, _⟩ := t1; exact Heap.lt_size q
      · obtain ⟨_, q, _⟩ := t2; exact Heap.lt_size q
    rw [upd_ne (Nat.ne_of_lt lt)]
    exact (hf c hcm).1
  done := by
    intro X hP hw hK hc i pins s σ H E I hf st hg
    subst hP hw hK
    obtain ⟨hz, hTI, ⟨x0, y0, hTO⟩, t1, t2⟩ := st
    obtain ⟨xs, ys, hqx, hqy, e1, e2⟩ := hg
    obtain ⟨its, rv, pl, _⟩ := I.list hqx
    obtain ⟨its2, rv2, pt, _⟩ := I.tuple hqy
    have l1 := rv.length
    have l2 := rv2.length
    have hh : X.A.in1.handled = none := I.ok.hd hc
    have s1 : its.toArray.size = i := by simp; omega
    have s2 : its2.toArray.size = i := by simp; omega
    refine wpAny_pyNext_zipD2_end (sep_of D) (Draws.list hh i1 a D.l1i1 its.toArray) (Draws.tuple hh i2 b D.l2i2 its2.toArray) hz hTI hTO ⟨t1, pl.isList⟩ ⟨t2, pt⟩ (by omega) (by omega) (.inl s1.symm) fun h' tk hk => ⟨rfl, ?_⟩
    refine I.turnedL (t' := tk) (ch := [z, TI, TO, i1, i2]) (fun c o hb q => ?_) hf
    simp only [List.mem_cons, List.not_mem_nil, or_false, not_or] at hb
    exact hk c o hb.1 hb.2.2.1 hb.2.2.2.1 hb.2.2.2.2 q
  self := fun A i s Q E st h => wpAny_pyIter_zip st.1 h
/-! the call -/
abbrev zm1 (h : Heap) (a : Addr) : Heap := h.push { cls := .type "list_iterator", data := .fields #[.ref a, .int 0 0] }
abbrev zm2 (h : Heap) (a b : Addr) : Heap := (zm1 h a).push { cls := .type "tuple_iterator", data := .fields #[.ref b, .int 0 0] }
abbrev zm3 (h : Heap) (a b : Addr) : Heap := (zm2 h a b).push { cls := .type "tuple", data := .seq #[.ref h.objs.size, .ref (zm1 h a).objs.size] }
abbrev zm4 (h : Heap) (a b : Addr) : Heap := (zm3 h a b).push { cls := .type "tuple", data := .seq #[.none, .none] }
abbrev zm5 (h : Heap) (a b : Addr) : Heap := (zm4 h a b).push { cls := .type "zip", data := .fields #[.none, .bool false, .bool false, .ref (zm2 h a b).objs.size, .ref (zm3 h a b).objs.size] }
theorem meets_zm (a b : Addr) (xs ys : Array Value) :
    Meets (Builtin.«zip.__new__» ⟨[.type "zip", .ref a, .ref b], []⟩) (fun _ R s => s.heap.IsList a xs ∧ s.heap.IsTuple b ys ∧ R (.ok (.ret (.ref (zm4 s.heap a b).objs.size))) { s with heap := zm5 s.heap a b }) :=
  .of_wp fun prog w A R s h => by
    obtain ⟨hp, g, d, tk, os⟩ := s
    obtain ⟨ha, hb, h⟩ := h
    have hsub := sub_zip
    have La : Heap.IsList (Shared.heap ⟨hp, g, d, tk, os⟩) a xs := ha
    have Lb : Heap.IsTuple (Shared.heap ⟨hp.push { cls := .type "list_iterator", data := .fields #[.ref a, .int 0 0] }, g, d, tk, os⟩) b ys := Heap.IsTuple.push hb _
    wp_walk using wpAny_pyIter_list La, wpAny_pyIter_tuple Lb
    exact ⟨_, rfl, h⟩
section
variable {prog : Program} {w : World} {A : Around} {E : Value → Shared → Prop} {s : Shared}
theorem call_zm {a b : Addr} {xs ys : Array Value} {Q : Value → Shared → Prop} (ha : s.heap.IsList a xs) (hb : s.heap.IsTuple b ys)
    (go : ∀ h', IsZip h' (s.heap.objs.size + 4) (s.heap.objs.size + 2) (s.heap.objs.size + 3) .none → IsPair h' (s.heap.objs.size + 2) (.ref s.heap.objs.size) (.ref (s.heap.objs.size + 1)) → IsPair h' (s.heap.objs.size + 3) .none .none →
      h'.IsListIter s.heap.objs.size a 0 → h'.IsTupleIter (s.heap.objs.size + 1) b 0 → (∀ c o, s.heap.get? c = some o → h'.get? c = some o) → Q (.ref (s.heap.objs.size + 4)) { s with heap := h' }) :
    wpAny (model prog w) A (call (.type "zip") [.ref a, .ref b]) Q E s := by
  refine callType_new F.called_zip (by decide) (F.typeCall_zip_2 _ _) (F.newCall_zip_2 _ _) (fun obj => F.args_object_init_3 obj _ _) F.entry_zip_new (meets_zm a b xs ys) ⟨ha, hb, ?_⟩
  have n1 : (zm1 s.heap a).objs.size = s.heap.objs.size + 1 := by rw [Heap.size_push]
  have n2 : (zm2 s.heap a b).objs.size = s.heap.objs.size + 2 := by rw [Heap.size_push, n1]
  have n3 : (zm3 s.heap a b).objs.size = s.heap.objs.size + 3 := by rw [Heap.size_push, n2]
  have n4 : (zm4 s.heap a b).objs.size = s.heap.objs.size + 4 := by rw [Heap.size_push, n3]
  have k45 : ∀ {c o}, (zm4 s.heap a b).get? c = some o → (zm5 s.heap a b).get? c = some o := fun e => Heap.get?_push_of_some _ e
  have k35 : ∀ {c o}, (zm3 s.heap a b).get? c = some o → (zm5 s.heap a b).get? c = some o := fun e => k45 (Heap.get?_push_of_some _ e)
  have k25 : ∀ {c o}, (zm2 s.heap a b).get? c = some o → (zm5 s.heap a b).get? c = some o := fun e => k35 (Heap.get?_push_of_some _ e)
  have k15 : ∀ {c o}, (zm1 s.heap a).get? c = some o → (zm5 s.heap a b).get? c = some o := fun e => k25 (Heap.get?_push_of_some _ e)
  have o5 : (zm5 s.heap a b).get? (zm4 s.heap a b).objs.size = some _ := Heap.get?_push_size _ rfl
  have o4 := k45 (c := (zm3 s.heap a b).objs.size) (Heap.get?_push_size _ rfl)
  have o3 := k35 (c := (zm2 s.heap a b).objs.size) (Heap.get?_push_size _ rfl)
  have o2 := k25 (c := (zm1 s.heap a).objs.size) (Heap.get?_push_size _ rfl)
  have o1 := k15 (c := s.heap.objs.size) (Heap.get?_push_size _ rfl)
  show _ ∧ _
  rw [n2, n3, n4] at o5
  rw [n3] at o4
  rw [n1, n2] at o3
  rw [n1] at o2
  rw [n4]
  exact ⟨⟨_, o5, rfl⟩, go _ o5 o3 o4 ⟨_, o1, rfl, rfl⟩ ⟨_, o2, rfl, rfl⟩ fun c o x => k15 (Heap.get?_push_of_some _ x)⟩
end
def iZipM (K : PySem.W.Frag) (ta : TA) : TI := fun σ H R => ta σ H fun vs H1 => ∃ a b xs ys, vs = [.ref a, .ref b] ∧ SqL K H1 a xs ∧ SqT K H1 b ys ∧ R (ItM K a b) H1
theorem pi_zipM {X : Cx} {e e2 : Expr} {ta : TA} {p pos tpos : Pos} {elts : List Expr} {kk : Nat} (hg : Gl X "zip") (hm : X.mg "zip" = none) (ha : PA X [e, e2] ta)
    (hs : starEach [e, e2] X.env = (false, eval e X.env) :: starEach [e2] X.env := by rfl) (hpl : (backTo pos (starEach [e2] X.env)).any (·.1) = false := by rfl) :
    PI X (.Tuple elts kk tpos) (.Call (.Name "zip" p) [e, e2] [] pos) (iZipM X.K ta) := by
  refine ⟨fun pins s σ H R I h => ?_⟩
  refine Call_ (ld_blt I hg hm PyProof.Rows.boot_zip (PyProof.Rows.callWith_type1 (thn (ha.run pos pins s σ H _ I h) fun us s1 z => ?_) hs hpl))
  obtain ⟨vs, H1, I1, r1, a, b, xs, ys, ex, hqx, hqy, q⟩ := z
  subst ex
  obtain rfl : us = [.ref a, .ref b] := by
    cases r1 with
    | cons r rr =>
      cases rr with
      | cons r' rr =>
        cases rr
        cases r
        cases r'
        rfl
  obtain ⟨its, rv, pl, _⟩ := I1.list hqx
  obtain ⟨its2, rv2, pt, _⟩ := I1.tuple hqy
  have ltb : b < s1.heap.objs.size := by
    obtain ⟨o, ho, _⟩ := id pt
    exact Heap.lt_size ho
  refine call_zm pl.isList (show s1.heap.IsTuple b its2.toArray from pt) fun h' hz hTI hTO t1 t2 hk => wpAny_pyIter_zip hz ?_
  have I2 : Inv X pins σ H1 { s1 with heap := h' } := I1.kept (t' := s1.toks) hk
  refine ⟨s1.heap.objs.size + 4, [s1.heap.objs.size + 4, s1.heap.objs.size + 2, s1.heap.objs.size + 3, s1.heap.objs.size, s1.heap.objs.size + 1], _, _, H1, rfl, I2, turn_m (PySem.W.ktu_apart s1.heap.objs.size a b pl.lt ltb), ⟨hz, hTI, ⟨_, _, hTO⟩, t1, t2⟩, fun c hcm => ?_, q⟩
  have le : s1.heap.objs.size ≤ c := by
    simp only [List.mem_cons, List.not_mem_nil, or_false] at hcm
    rcases hcm with rfl | rfl | rfl | rfl | rfl <;> omega
  exact I1.fpOk le (I1.hok.fresh le)
/-- [e for x, y in zip(l, t)] -/
theorem lc_zipM {K : PySem.W.Frag} {a b : Addr} {xs ys : List V} {g : TG} {tt : TT} {te : TE} {vs : List Nat} {σ : L2.St} {H1 : Hp} {D : Addr} {Qd : Hp → Prop} (hl : xs.length = ys.length) (Pv : Nat → Hp → Prop) (h0 : Pv 0 (upd H1 D (.lst [])))
    (hq : ∀ i G, i ≤ xs.length → Pv i G → SqL K G a xs ∧ SqT K G b ys)
    (hs : ∀ (i : Nat) (x y : V) (T : Addr) (G : Hp), xs[i]? = some x → ys[i]? = some y → Pv i G → G T = none → g (.ref T) (wipe σ vs) (upd G T (.tup [x, y])) fun σ2 H2 => wipe σ2 vs = wipe σ vs ∧ tt σ2 H2 fun b H3 =>
      if b = true then te σ2 H3 fun y H4 => ∃ zs, H4 D = some (.lst zs) ∧ zs.length < sizeLine ∧ Pv (i + 1) (upd H4 D (.lst (zs ++ [y]))) else Pv (i + 1) H3) (hd : ∀ G, Pv xs.length G → Qd G) :
    ∃ W : Nat → Nat → Hp → Prop, (∃ m, W 0 m (upd H1 D (.lst []))) ∧ ∀ i m H, W i m H → ((ItM K a b).stop i H ∧ Qd H) ∨ ((ItM K a b).go i H ∧ ∃ Nx : Hp → Prop, (∀ H', Nx H' → ∃ m', m' < m ∧ W (i + 1) m' H') ∧ ∀ x H', (ItM K a b).yld i H x H' →
      g x (wipe σ vs) H' fun σ2 H2 => wipe σ2 vs = wipe σ vs ∧ tt σ2 H2 fun b H3 => if b = true then te σ2 H3 fun y H4 => ∃ zs, H4 D = some (.lst zs) ∧ zs.length < sizeLine ∧ Nx (upd H4 D (.lst (zs ++ [y]))) else Nx H3) := by
  refine ⟨fun i m H => m = xs.length - i ∧ i ≤ xs.length ∧ Pv i H, ⟨xs.length, by simp, Nat.zero_le _, h0⟩, fun i m H hw => ?_⟩
  obtain ⟨rfl, hi, p⟩ := hw
  obtain ⟨qx, qy⟩ := hq i H hi p
  by_cases lt : i < xs.length
  · refine .inr ⟨⟨xs, ys, xs[i], ys[i], qx, qy, List.getElem?_eq_getElem lt, List.getElem?_eq_getElem (by omega)⟩, Pv (i + 1), fun H' p' => ⟨xs.length - (i + 1), by omega, rfl, lt, p'⟩, fun v H' y => ?_⟩
    obtain ⟨T, x, y, rfl, nT, rfl, e1, e2⟩ := y
    exact hs i x y T H (e1 xs qx) (e2 ys qy) p nT
  · have e : i = xs.length := by omega
    subst e
    exact .inl ⟨⟨xs, ys, qx, qy, rfl, hl.symm⟩, hd H p⟩
end KX

set_option maxRecDepth 100000
set_option maxHeartbeats 4000000
/-! == of a text and a dict; x in t where x may be a dict -/
namespace KX
open PySem PySem.Spec PyProof.Rows L2
theorem str_eq_declines_dict (b : Str) (u : Tok) (l : Addr) (es : Array DictEntry) (ep : Nat) (dd : Option Addr) (sl : Array (Option Value)) :
    Meets (Builtin.«str.__eq__» ⟨[.str b u, .ref l], []⟩) (fun _ R s => s.heap.get? l = some { cls := .type "dict", dict := dd, data := .dict es ep, slots := sl } ∧ R (.ok (.ret .notImplemented)) s) :=
  .of_wp fun prog w A R s h => by obtain ⟨hp, g, d, tk, os⟩ := s; obtain ⟨hl, h⟩ := h; wp_walk using AutoSeq1.wpAny_loadPart' hl, wpAny_load hl; exact ⟨_, rfl, h⟩
theorem dict_eq_declines_str (b : Str) (u : Tok) (l : Addr) (es : Array DictEntry) (ep : Nat) (dd : Option Addr) (sl : Array (Option Value)) :
    Meets (Builtin.«dict.__eq__» ⟨[.ref l, .str b u], []⟩) (fun _ R s => s.heap.get? l = some { cls := .type "dict", dict := dd, data := .dict es ep, slots := sl } ∧ R (.ok (.ret .notImplemented)) s) :=
  .of_wp fun prog w A R s h => by obtain ⟨hp, g, d, tk, os⟩ := s; obtain ⟨hl, h⟩ := h; have f1 : isSubtype (.type "str") (.type "dict") = pure false := by rw [isSubtype_type]; kernel_rfl
                                  wp_walk using AutoSeq1.wpAny_loadPart' hl, wpAny_load hl; exact ⟨_, rfl, h⟩
section
open MeetsSeq MeetsSeq2 MeetsSeq3 SeqRoads2 SeqAt
variable {A : Around} {s : Shared}
theorem rc_str_dict {l : Addr} {o : Obj} {es : Array DictEntry} {ep : Nat} (b : Str) (u : Tok) (ho : s.heap.get? l = some o) (hc : o.cls = .type "dict") (hd : o.data = .dict es ep) (hu : A.units < cLine) : SeqAt.RcAt A s (.str b u) (.ref l) false := fun prog w E Q h => by
  obtain ⟨cls, dd, data, sl⟩ := o
  simp only at hc hd
  subst hc hd
  exact rc_eq_decline_or (k := false) (typeIs_str s b u) ⟨_, ho, rfl⟩ (by decide) PySem.F.sub_dict_str PySem.F.slot_str_eq PySem.F.slot_dict_eq_refl
    (fun _ hq => call_meets PySem.F.slot_str_eq (typeIs_str s b u) PySem.F.entry_str_eq (PySem.F.args_str_eq_2 _ _) (str_eq_declines_dict b u l es ep dd sl) ⟨ho, hq⟩)
    (fun _ hq => call_meets PySem.F.slot_dict_eq_refl ⟨_, ho, rfl⟩ PySem.F.entry_dict_eq (PySem.F.args_dict_eq_2 _ _) (dict_eq_declines_str b u l es ep dd sl) ⟨ho, hq⟩)
    (fun _ hq => wpAny_of_eq (rfl : isSame (.str b u) (.ref l) = pure false) hq) (.inr hu) h
theorem eq_str_dict {l : Addr} {o : Obj} {es : Array DictEntry} {ep : Nat} (b : Str) (u : Tok) (ho : s.heap.get? l = some o) (hc : o.cls = .type "dict") (hd : o.data = .dict es ep) (hu : A.units < cLine) : SeqAt.EqAt A s (.str b u) (.ref l) false := fun prog w E Q h => by
  unfold eqBool
  refine wpAny_holding ?_
  refine wpAny_ite_split (fun hab => absurd (eq_of_beq hab) nofun) (fun _ => ?_)
  exact wpAny_bind (rc_str_dict b u ho hc hd hu prog w E _ (wpAny_truthy_bool h))
end
/-- data without dicts, or a dict -/
def okP (d : PyData) : Prop := d.plain = true ∨ ∃ kvs, d = .dict kvs
section
variable {X : Cx}
/-- x in t: t a tuple of texts, x data, or a dict -/
def rInX (K : PySem.W.Frag) (f : Bool → Bool) : R2 := fun x y H Q => ∃ (d : PyData) (t : Addr) (ns : List Str), Dx H x d ∧ okP d ∧ y = .ref t ∧ SqT K H t (ns.map V.str) ∧ Q (.bl (f ((ns.map PyData.str).any fun z => PyData.eqv z d))) H
theorem dp_strsX {K : PySem.W.Frag} {H : Hp} : ∀ ns : List Str, DpAll K H (ns.map V.str) (ns.map PyData.str)
  | [] => .nil
  | n :: ns => .cons (.str n) (dp_strsX ns)
theorem strs_plain : ∀ ns : List Str, PyData.plainAll (ns.map PyData.str) = true ∧ PyData.depthAll (ns.map PyData.str) = 0
  | [] => ⟨rfl, by simp [PyData.depthAll]⟩
  | n :: ns => by
    obtain ⟨h1, h2⟩ := strs_plain ns
    exact ⟨by simp [PyData.plainAll, PyData.plain, h1], by simp [PyData.depthAll, PyData.depth, h2]⟩
theorem op_inX (hu : X.A.units + 64 < cLine) : OpR X (compareOp .In) (rInX X.K id) := by
  intro pins s σ H x y v u Q I rx ry h
  obtain ⟨d, t, ns, hd, od, rfl, ht, q⟩ := h
  rcases od with pd | ⟨kvs, rfl⟩
  · exact op_inTD hu pins s σ H x (.ref t) v u Q I rx ry ⟨d, ns.map PyData.str, dp_dx d x pd hd, .tup ht (dp_strsX ns), pd, (strs_plain ns).1, by rw [(strs_plain ns).2]; omega, q⟩
  · have hq : ((ns.map PyData.str).any fun z => PyData.eqv z (.dict kvs)) = false := List.any_eq_false.mpr fun z hz => by
      obtain ⟨n, _, rfl⟩ := List.mem_map.mp hz
      simp [PyData.eqv]
    rw [hq] at q
    obtain ⟨a, rfl⟩ : ∃ a, x = .ref a := by
      cases hd with
      | dic e => exact ⟨_, rfl⟩
      | dic1 e => exact ⟨_, rfl⟩
    cases ry
    cases rx
    obtain ⟨its, rv, ⟨o, ho, hc, n, hdat⟩, _⟩ := I.tuple ht
    have hdic : ∃ o es ep, s.heap.get? a = some o ∧ o.cls = .type "dict" ∧ o.data = .dict es ep := by
      cases hd with
      | dic e =>
        obtain ⟨_, _, _, _, o, es, ep, e1, ex, ed, _⟩ := (show ObjOk X.prog X.w H s.heap a (.dK []) from I.hok a _ e)
        exact ⟨o, es, ep, e1, ex.1, ed⟩
      | dic1 e =>
        obtain ⟨_, _, _, _, o, es, ep, e1, ex, ed, _⟩ := (show ObjOk X.prog X.w H s.heap a (.dK _) from I.hok a _ e)
        exact ⟨o, es, ep, e1, ex.1, ed⟩
    obtain ⟨o2, es, ep, h1, h2, h3⟩ := hdic
    refine SeqAt.in_tupleAt (e := fun _ => false) (hl := ⟨o, ho, hc, n, hdat⟩) (he := fun y hy => ?_) (h := ?_)
    · have hm : ∃ n t, y = Value.str n t := by
        have : ∀ (ns : List Str) (us : List Value), Vals (ns.map V.str) us → ∀ z ∈ us, ∃ n t, z = Value.str n t := fun ns => by
          induction ns with
          | nil => intro us r z hz; cases r; cases hz
          | cons n ns ih =>
            intro us r z hz
            cases r with
            | cons r1 r2 =>
              rcases List.mem_cons.mp hz with rfl | hz
              · obtain ⟨t, rfl⟩ := r1
                exact ⟨n, t, rfl⟩
              · exact ih _ r2 z hz
        exact this ns its rv y (by simpa using hy)
      obtain ⟨n, t, rfl⟩ := hm
      exact eq_str_dict n t h1 h2 h3 (by have : X.A.units + 64 < cLine := hu; show X.A.in1.units < cLine; exact Nat.lt_of_le_of_lt (by show X.A.units + 1 ≤ X.A.units + 64; omega) this)
    · have : (its.toArray.any fun _ => false) = false := by
        rw [← Array.any_toList]
        exact List.any_eq_false.mpr fun _ _ => by simp
      rw [this]
      exact ⟨.bl false, H, I, rfl, q⟩
end
end KX

set_option maxRecDepth 100000
set_option maxHeartbeats 4000000
/-! < of data that are alike -/
namespace KX
open PySem PySem.Spec PyProof.Rows L2
section
variable {X : Cx}
def rLtD (K : PySem.W.Frag) : R2 := fun x y H Q => ∃ d e, Dp K H x d ∧ Dp K H y e ∧ PySem.W.alike d e = true ∧ d ≠ .none ∧ min d.depth e.depth ≤ 60 ∧ Q (.bl (PySem.W.dataLt d e)) H
theorem op_ltD (hu : X.A.units + 64 < cLine) : OpR X (compareOp .Lt) (rLtD X.K) := by
  intro pins s σ H x y v u Q I rx ry h
  obtain ⟨d, e, hd, he, ha, hn, hm, q⟩ := h
  obtain ⟨as, r1⟩ := Dp.reads I d x v hd rx
  obtain ⟨bs, r2⟩ := Dp.reads I e y u he ry
  exact PySem.W.lt_data r1 r2 ha hn (by omega) ⟨.bl _, H, I, rfl, q⟩
end
end KX

set_option maxRecDepth 100000
set_option maxHeartbeats 4000000
/-! l != [], l any list -/
namespace KX
open PySem PySem.Spec PyProof.Rows L2
section
variable {X : Cx}
def rNeL0 (K : PySem.W.Frag) : R2 := fun x y H Q => ∃ a b xs, x = .ref a ∧ y = .ref b ∧ SqL K H a xs ∧ SqL K H b [] ∧ Q (.bl (!xs.isEmpty)) H
theorem op_neL0 (hu : X.A.units < cLine) : OpR X (compareOp .NotEq) (rNeL0 X.K) := by
  intro pins s σ H x y v u Q I rx ry h
  obtain ⟨a, b, xs, rfl, rfl, ha, hb, q⟩ := h
  cases rx
  cases ry
  obtain ⟨its, r1, p1, _⟩ := I.list ha
  obtain ⟨its2, r2, p2, _⟩ := I.list hb
  cases r2
  cases xs with
  | nil =>
    cases r1
    refine SeqAt.RcNeAt.lists (e := fun _ => true) p1.isList p2.isList rfl hu (fun j h1 h2 => absurd h2 (by simp)) X.prog X.w X.xe (EP X pins σ Q) ?_
    exact ⟨.bl _, H, I, rfl, q⟩
  | cons x xs =>
    cases r1
    exact SeqAt.RcNeAt.lists_lengths p1.isList p2.isList (by simp) hu X.prog X.w X.xe (EP X pins σ Q) ⟨.bl _, H, I, rfl, q⟩
end
end KX

set_option maxRecDepth 100000
set_option maxHeartbeats 400000
namespace KX
open PySem PySem.Spec PyProof.Rows L2 LamX NdefX
/-! ### a lambda with one parameter, captured names, handed to a def and called there -/
abbrev lamF (q : Str) (params : Arguments) (scope : Scope) (cl : List (Str × Addr)) (c : Addr) : NF := ⟨"<lambda>", q, params, [], scope, cl, c⟩
theorem cells_later {cl : List (Str × Addr)} {fr : List Str} {ws : List (Option V)} {fs : List Addr} {h h2 : Heap} {H H2 : Hp} (C : CellsAt cl fr ws h H) (un : Un fs [] H H2 h h2) : CellsAt cl fr ws h2 H2 := by
  have kp : ∀ y c, cl.lookup y = some c → ∀ v, h.IsCell c v → h2.IsCell c v := fun y c e v ⟨o, ho, hd⟩ => by
    obtain ⟨sl, q⟩ := un.any ho (C.all y c e).1 (by simp)
    exact ⟨_, q, hd⟩
  refine ⟨C.len, fun y c e => ?_, C.inj, fun i y e => ?_⟩
  · obtain ⟨n, v, z⟩ := C.all y c e
    refine ⟨?_, v, kp y c e v z⟩
    obtain ⟨o, ho, _⟩ := z
    exact un.free c o ho n (by simp)
  · obtain ⟨c, hc, hv⟩ := C.has i y e
    refine ⟨c, hc, fun v ev => ?_⟩
    obtain ⟨u, r, z⟩ := hv v ev
    exact ⟨u, r, kp y c hc _ z⟩
theorem vals_one {v : V} {us : List Value} (r : Vals [v] us) : ∃ u0, us = [u0] := by
  cases r with
  | cons r0 rr =>
    cases rr
    exact ⟨_, rfl⟩
/-- it runs -/
theorem lam_run {CX : CXT} {P : Program} {w : World} {K : PySem.W.Frag} {mg : Str → Option Value} {base : Heap} {N ps fr : List Str} {q : Str} {params : Arguments} {scope : Scope} {cl : List (Str × Addr)} {c' f : Addr} {body : Expr} {k : Nat} {A : Around} {outer : List PySem.Env} {s : Shared} {H : Hp}
    {us : List Value} {vs : List V} {ws : List (Option V)} {Q : VK} {E : XK} {pm ctv : Value} {t : TE} (S : NScope N ps fr scope) (hb : bindArgs (PySem.W.kla_fn "<lambda>" q params body scope cl pm (.ref c') ctv) ⟨us, []⟩ = pure (ps.zip us)) (hr : Room (k + 1) A)
    (e0 : Env0 P w K mg base A outer s H) (ho : s.heap.get? f = some (PySem.W.kla_obj "<lambda>" q params body scope cl pm c' ctv)) (hc : H c' = some (CodeO c' q)) (C : CellsAt cl fr ws s.heap H) (r : Vals vs us) (hl : vs.length = ps.length)
    (hbody : Room k (A.deeper (envF (lamF q params scope cl c') f s.heap.objs.size)) → PE (ncx CX P w K mg base N (lamF q params scope cl c') f A outer s H E) body t) (ht : t (startF N vs ws) H Q) : codeAny (model P w) A (.call (.ref f) ⟨us, []⟩) (CR CX outer P w H s Q E) s := by
  have lim : s.heap.NoLimit := e0.mod.nolimit.keeps fun b o e => (e0.bs b o e).1
  refine PySem.W.kla_callFunE hr.depth ho rfl S.co S.gen rfl (codeO_at e0.hok hc) ?_
  rw [hb]
  refine wpAny_pure (wpAny_newFunctionEnv S.nocell (fun ⟨n, _⟩ hy => S.par n (List.of_mem_zip hy).1) (fun h₁ hns hsb => ⟨lim.fresh _ hsb, ?_⟩) S.kind)
  show codeAny _ _ (.expr body (envF (lamF q params scope cl c') f s.heap.objs.size)) _ _
  have kp : ∀ b o, s.heap.get? b = some o → h₁.get? b = some o := fun b o e => hsb.extBut b o (Nat.ne_of_lt (Heap.lt_size e)) (Heap.get?_push_of_some _ e)
  have I : Inv (ncx CX P w K mg base N (lamF q params scope cl c') f A outer s H E) [] (startF N vs ws) H { s with heap := h₁, toks := s.toks + (ps.zip us).length } := inv_startN S hr.hd e0 hl r C hns kp
  refine PySem.W.kla_codeExpr (wpAny_mono ((hbody (hr.deeper _)).run [] _ _ H Q I ht) (fun v s' hq => ?_) fun e s' hq => hq)
  obtain ⟨w', H', J', rv, q⟩ := hq
  exact ⟨w', H', J'.os, J'.bare, J'.base, J'.hok, rv, q⟩
section
variable {X : Cx} {pins : List (Addr × Obj)} {σ : L2.St} {H : Hp} {s : Shared}
/-- a(e), in the def that got the lambda as a -/
theorem pe_act1 {CXg : CXT} {Eg : XK} {Ng : List Str} {qg : Str} {sg : Scope} {g f c' : Addr} {cdg pm ctv : Value} {q : Str} {params : Arguments} {body : Expr} {scope : Scope} {cl : List (Str × Addr)} {k i : Nat} {a p : Str} {pn : List (Addr × Obj)} {xe : Value → Shared → Prop} {W : WX} {tb : XK → TE} {te : TE} {e : Expr} {p1 p2 : Pos} {N fr : List Str} {ws : List (Option V)}
    (S : NScope N [p] fr scope) (C : CellsAt cl fr ws s.heap H) (hf : s.heap.get? f = some (PySem.W.kla_obj "<lambda>" q params body scope cl pm c' ctv)) (hfn : H f = none) (hfr : f ∉ frs X.stack)
    (hbind : ∀ u, bindArgs (PySem.W.kla_fn "<lambda>" q params body scope cl pm (.ref c') ctv) ⟨[u], []⟩ = pure [(p, u)])
    (tk : Takes ((cxOf CXg X.prog X.w X.K X.mg X.base Ng qg sg g cdg X.A X.stack s H Eg).tr pn xe) W) (hr : Room (k + 1) (X.A.deeper (envOfC qg sg s.heap.objs.size g cdg)))
    (hbody : ∀ (A : Around) (outer : List PySem.Env) (s : Shared) (H : Hp) (E : XK), Room k (A.deeper (envF (lamF q params scope cl c') f s.heap.objs.size)) → PE (ncx (L2.CX X.prog X.w) X.prog X.w X.K X.mg X.base N (lamF q params scope cl c') f A outer s H E) body (tb E))
    (ha : PE ((cxOf CXg X.prog X.w X.K X.mg X.base Ng qg sg g cdg X.A X.stack s H Eg).tr pn xe) e te) (he : ∀ env, starEach [e] env = (false, eval e env) :: starEach [] env)
    (hN : Ng[i]? = some a) (hv : Vis sg a) (hd : (a == ("__debug__" : Str)) = false := by decide) (hcd : (a == ("__classdict__" : Str)) = false := by decide) :
    PE ((cxOf CXg X.prog X.w X.K X.mg X.base Ng qg sg g cdg X.A X.stack s H Eg).tr pn xe) (.Call (.Name a p1) [e] [] p2)
      (fun σZ HZ Q => σZ[i]? = some (some (.ref f)) ∧ te σZ HZ fun v H1 => H1 c' = some (CodeO c' q) ∧ tb (fun cls d H' => W cls d σZ H') (startF N [v] ws) H1 Q) := by
  refine ⟨fun pinsZ sZ σZ HZ Q IZ h => ?_⟩
  obtain ⟨hs, ht⟩ := h
  refine wpAny_Call_Name_kw (thn ((pe_var (pos := p1) (i := i) hN hv hd hcd).run pinsZ sZ σZ HZ (fun v H1 => v = .ref f ∧ H1 = HZ) IZ ⟨.ref f, hs, rfl, rfl⟩) fun u s1 ⟨v, H1, I1, r1, q1⟩ => ?_)
  obtain ⟨ev, eH⟩ := q1
  subst ev
  rw [eH] at I1
  obtain rfl : u = Value.ref f := r1
  have of1 : s1.heap.get? f = some (PySem.W.kla_obj "<lambda>" q params body scope cl pm c' ctv) := I1.base.keep f _ hf hfn hfr (fun z => nomatch (show f ∈ ([] : List Addr) from z))
  refine PySem.W.callWith_F (first := []) ⟨_, _, _, _, of1⟩ (thn ((pa_cons ha pa_nil (he _)).run p2 pinsZ s1 σZ HZ (fun vs H' => ∃ v, vs = [v] ∧ H' c' = some (CodeO c' q) ∧ tb (fun cls d H' => W cls d σZ H') (startF N [v] ws) H' Q) I1 ?_) fun us s2 ⟨vs, H2, I2, r, q2⟩ => ?_) (he _) (by rfl)
  · show te σZ HZ fun v H1 => _
    have : (fun v H1 => H1 c' = some (CodeO c' q) ∧ tb (fun cls d H' => W cls d σZ H') (startF N [v] ws) H1 Q) = (fun v H1 => ∃ v', [v] = [v'] ∧ H1 c' = some (CodeO c' q) ∧ tb (fun cls d H' => W cls d σZ H') (startF N [v'] ws) H1 Q) := by
      funext v H1
      refine propext ⟨fun h => ⟨v, rfl, h⟩, fun ⟨v', e, h⟩ => ?_⟩
      cases e
      exact h
    rw [this] at ht
    exact ht
  obtain ⟨v, ev, hc, hb⟩ := q2
  subst ev
  have of2 : s2.heap.get? f = some (PySem.W.kla_obj "<lambda>" q params body scope cl pm c' ctv) := I2.base.keep f _ hf hfn hfr (fun z => nomatch (show f ∈ ([] : List Addr) from z))
  refine ⟨⟨_, _, _, _, of2⟩, ?_⟩
  show wpAny _ _ (call (.ref f) us) _ _ _
  have un : Un (frs X.stack) [] H H2 s.heap s2.heap := I2.base
  obtain ⟨u0, eu⟩ := vals_one r
  subst eu
  have rc : codeAny (model X.prog X.w) (X.A.deeper (envOfC qg sg s.heap.objs.size g cdg)) (.call (.ref f) ⟨[u0], []⟩) (CR (L2.CX X.prog X.w) (envOfC qg sg s.heap.objs.size g cdg :: X.stack) X.prog X.w H2 s2 Q (fun cls d H' => W cls d σZ H')) s2 :=
    lam_run (k := k) S (hbind u0) hr I2.env0 of2 hc (cells_later C un) r rfl (fun hr2 => hbody _ _ _ _ _ hr2) hb
  refine wpAny_call (codeAny_mono rc fun r s' hq => ?_)
  cases r with
  | error e => exact tk e s' (XE.of_call I2 (fun cls d H' h => h) hq)
  | ok fl =>
    cases fl with
    | ret u => exact I2.after hq
    | next => exact False.elim hq
    | brk => exact False.elim hq
    | cont => exact False.elim hq
end
/-- the def g (two parameters, the second is called): TT is what it makes of the lambda's reading -/
def GivesTo1 (X : Cx) (k : Nat) (Ng : List Str) (x : Str) (sg : Scope) (g : Addr) (cdg : Value) (bg : List Stmt) (a : Str) (q : Str) (TT : (XK → V → Hp → VK → Prop) → V → Hp → VK → Prop) : Prop :=
  ∀ (f c' : Addr) (s : Shared) (H : Hp) (v0 : V) (Q : VK) (tl : XK → V → Hp → VK → Prop), Room k (X.A.deeper (envOfC x sg s.heap.objs.size g cdg)) →
    (∀ (W : WX) (pn : List (Addr × Obj)) (xe : Value → Shared → Prop) (e : Expr) (te : TE) (p1 p2 : Pos), Takes ((cxOf C8.CX0 X.prog X.w X.K X.mg X.base Ng x sg g cdg X.A X.stack s H C8.E0).tr pn xe) W →
      PE ((cxOf C8.CX0 X.prog X.w X.K X.mg X.base Ng x sg g cdg X.A X.stack s H C8.E0).tr pn xe) e te → (∀ env, starEach [e] env = (false, eval e env) :: starEach [] env) →
      PE ((cxOf C8.CX0 X.prog X.w X.K X.mg X.base Ng x sg g cdg X.A X.stack s H C8.E0).tr pn xe) (.Call (.Name a p1) [e] [] p2) (fun σZ HZ Q => σZ[1]? = some (some (.ref f)) ∧ te σZ HZ fun v H1 => H1 c' = some (CodeO c' q) ∧ tl (fun cls d H' => W cls d σZ H') v H1 Q)) →
    H c' = some (CodeO c' q) → TT tl v0 H Q →
    ∃ t, PSs (cxOf C8.CX0 X.prog X.w X.K X.mg X.base Ng x sg g cdg X.A X.stack s H C8.E0).nox bg t ∧ t { nx := fun _ H' => Q .non H', rt := Q } (L2.start Ng [v0, .ref f]) H
def tLam1 (T : List (Addr × Str)) (TT : (XK → V → Hp → VK → Prop) → V → Hp → VK → Prop) (t0 : TE) (t : XK → L2.St → V → Hp → VK → Prop) : TE := fun σ H Q => t0 σ H fun v0 H0 => Tabs T H0 ∧ ∀ H1, ExtN H0 H1 → Tabs T H1 → TT (fun E v H' Q' => t E σ v H' Q') v0 H1 Q
section
variable {X : Cx}
/-- x(e, lambda p: body) -/
theorem pe_lamcall1 {T : List (Addr × Str)} {TT : (XK → V → Hp → VK → Prop) → V → Hp → VK → Prop} {x a a0 p : Str} {g c P : Addr} {k : Nat} {pg : Arguments} {bg : List Stmt} {sg : Scope} {dV kV doc pm cdv ct oc : Value} {an od : Option Addr} {osl : Array (Option Value)} {Ng N fr : List Str} {js : List Nat}
    {params : Arguments} {body e : Expr} {scope : Scope} {t : XK → TE} {t0 : TE} {pp lpos pos : Pos} (hg : Gl X x) (hm : X.mg x = some (.ref g)) (hk : PySem.W.keepIn X.K (.ref g) = true)
    (lk : X.K.lookup g = some ⟨oc, od, .func (PySem.W.fnOf x x pg bg sg dV kV doc pm an cdv ct), osl⟩) (hcg : PySem.W.codeIn X.K cdv x = true) (hb : L2.Binds X.K (PySem.W.fnOf x x pg bg sg dV kV doc pm an cdv ct) [a0, a] []) (Sg : FnScope Ng [a0, a] sg) (hNg : Ng[1]? = some a) (hva : Vis sg a)
    (hG : GivesTo1 X (k + 1) Ng x sg g cdv bg a (X.env.qual ++ "<lambda>") TT)
    (TB : TabB X.base X.mg c P) (hcode : X.env.code = .ref c) (hmT : (P, X.env.qual ++ "<lambda>") ∈ T) (hu : ∀ p ∈ T, p.1 = P → p.2 = X.env.qual ++ "<lambda>") (hr : Room (k + 2) X.A) (S : NScope N [p] fr scope)
    (hfree : ∀ y ∈ scope.names, y.2 = .free → X.env.scope.names.lookup y.1 = some .cell ∨ X.env.scope.names.lookup y.1 = some .free) (hfr : ∀ y ∈ fr, (y, NameKind.free) ∈ scope.names) (hjs : js.map (fun j => X.N[j]?) = fr.map some)
    (hdef : defaultsOf params X.env = ([], []))
    (hbind : ∀ (q : Str) (cl : List (Str × Addr)) (pm cv ctv u : Value), bindArgs (PySem.W.kla_fn "<lambda>" q params body scope cl pm cv ctv) ⟨[u], []⟩ = pure [(p, u)])
    (hbody : ∀ (A : Around) (outer : List PySem.Env) (s : Shared) (H : Hp) (E : XK) (f c' : Addr), Room k (A.deeper (envF (lamF (X.env.qual ++ "<lambda>") params scope (cloFrom X.env.cells scope.names []) c') f s.heap.objs.size)) →
      PE (ncx (L2.CX X.prog X.w) X.prog X.w X.K X.mg X.base N (lamF (X.env.qual ++ "<lambda>") params scope (cloFrom X.env.cells scope.names []) c') f A outer s H E) body (t E))
    (he : PE X e t0) (hse : ∀ env, starEach [e, .Lambda params body scope lpos] env = (false, eval e env) :: starEach [.Lambda params body scope lpos] env)
    (hdb : (x == ("__debug__" : Str)) = false := by decide) (hd : (a == ("__debug__" : Str)) = false := by decide) (hcd : (a == ("__classdict__" : Str)) = false := by decide) :
    PE X (.Call (.Name x pp) [e, .Lambda params body scope lpos] [] pos) (tLam1 T TT t0 fun E σ v H Q => t E (startF N [v] (js.map (slotAt σ))) H Q) := by
  refine ⟨fun pins s σ H Q I h => ?_⟩
  refine wpAny_Call_Name_kw (ld_glob I hg hm ?_ hdb)
  refine PySem.W.callWith_K (h₀ := X.base) I.ok.mod.kin hk ?_ (hse _) (by rfl)
  rw [hse]
  show wpAny _ _ (spliced ((false, eval e X.env) :: (false, eval (.Lambda params body scope lpos) X.env) :: backTo pos (starEach [] X.env))) _ _ s
  refine Calls.spliced_cons (thn (he.run pins s σ H _ I h) fun u0 s0 ⟨v0, H0, I0, r0, q0⟩ => ?_)
  obtain ⟨hT, h⟩ := q0
  have hfr2 : ∀ y ∈ scope.names, y.2 = .free → ∃ c, X.env.cells.lookup y.1 = some c := fun y hy e => (hfree y hy e).elim (fun z => I0.ok.has _ (.inl z)) fun z => I0.ok.has _ (.inr z)
  refine Calls.spliced_cons (lam_make2 I0 TB hcode hmT hu hT hdef hfr2 fun f c' pm' ctv H1 s' I1 eN T1 hf hfn hfr' hco => ?_)
  refine Calls.spliced_nil ⟨I1.kIn, ?_⟩
  have cp := cells_of I1 (Caps.made I1.ok hfree hfr hjs)
  have rc : codeAny (model X.prog X.w) X.A (.call (.ref g) ⟨[u0, .ref f], []⟩) (CR C8.CX0 X.stack X.prog X.w H1 s' Q C8.E0) s' := by
    refine run_ofS (N := Ng) (ps := [a0, a]) (us := [u0, .ref f]) (vs := [v0, .ref f]) lk hcg Sg hr I1.env0 (hb s' [u0, .ref f] I1.kIn rfl) (.cons r0 (.cons rfl .nil)) rfl fun hr' => ?_
    obtain ⟨t', ht', hq'⟩ := hG f c' s' H1 v0 Q (fun E v H' Q' => t E (startF N [v] (js.map (slotAt σ))) H' Q') hr' (fun W pn xe e te p1 p2 tk ha he => pe_act1 (i := 1) S cp hf hfn hfr' (hbind _ _ _ _ _) tk hr' (fun A outer s H E hr2 => hbody A outer s H E f c' hr2) ha he hNg hva hd hcd) hco (h H1 eN T1)
    exact ⟨t', ht'.nox, hq'⟩
  refine wpAny_call (codeAny_mono rc fun r s2 hq => ?_)
  cases r with
  | error e => exact (show False from hq).elim
  | ok fl =>
    cases fl with
    | ret u => exact I1.after hq
    | next => exact False.elim hq
    | brk => exact False.elim hq
    | cont => exact False.elim hq
end
end KX

set_option maxRecDepth 100000
set_option maxHeartbeats 1000000
namespace KX
open PySem PySem.Spec PyProof.Rows L2 LamX
/-! ### the law's call where defs make lambdas, and repr shows data -/
theorem lawGT {P : Program} {w : World} {K : PySem.W.Frag} {mg mb : Str → Option Value} {k : Nat} {fa a : Addr} {cs : List (Addr × Addr)} {fd : FuncData} {x : Str} {sp : Sp} {s1 : Shared} {vs : List Value} {ns : List Int}
    (KX : K.In s1.heap) (hns : s1.heap.Ns mainGlobals mg) (hb : s1.heap.Ns builtinsNs mb) (hbb : ∀ x : Str, x ≠ "__name__" → mb x = bootBuiltins x) (hlim : s1.heap.NoLimit) (hg : s1.gens = #[])
    (hT : ∀ p ∈ cs, s1.heap.get? p.2 = some { cls := .none, data := .fields #[] }) (nT : ∀ p ∈ cs, K.lookup p.2 = none) (C : ∀ p ∈ cs, PySem.W.CodeHd s1.heap p.1 p.2)
    (hbm : ∃ (bm : Addr) (ob : Obj), mg "__builtins__" = some (.ref bm) ∧ bm ≠ builtinsNs ∧ s1.heap.get? bm = some ob ∧ ob.cls = .type "module" ∧ ob.dict = some builtinsNs ∧ ob.data = .plain)
    (ha : s1.heap.get? a = some { cls := .type "list", data := .seq vs.toArray }) (hi : IntsAre vs ns) (hl : ns.length ≤ sizeLine) (hr : Room k callerA)
    (F : ∀ base : Heap, K.In base → base.Ns mainGlobals mg → (∀ p ∈ cs, TabB base mg p.1 p.2) → FnG P w K mg base CX0 k fa fd [x] sp) (hbind : ∀ (s : Shared) (u : Value), BindsTo s fd ⟨[u], []⟩ [(x, u)])
    (hsp : ∀ H : Hp, (∀ p ∈ cs, H p.2 = some (.tbl #[])) → SqL K H a (ns.map V.int) → sp [.ref a] H (fun v _ => v = .bl true) fun _ _ _ => False) :
    codeAny (model P w) callerA (.call (.ref fa) ⟨[.ref a], []⟩) (fun r s' => r = .ok (.ret (.bool true)) ∧ OldK s1.heap s'.heap ∧ s'.os = s1.os ∧ AllBare s'.gens) s1 := by
  have rv := vals_ints hi
  have lenV := hi.length
  have neA : ∀ p ∈ cs, p.2 ≠ a := fun p hp z => by
    have e := hT p hp
    rw [z, ha] at e
    cases e
  have main : ∀ H : Hp, (∀ b o, H b = some o → (b = a ∧ K.lookup a = none ∧ o = .frz { cls := .type "list", data := .seq vs.toArray } (.lst (ns.map V.int))) ∨ ∃ p ∈ cs, b = p.2 ∧ o = .tbl #[]) → (∀ p ∈ cs, H p.2 = some (.tbl #[])) → SqL K H a (ns.map V.int) →
      codeAny (model P w) callerA (.call (.ref fa) ⟨[.ref a], []⟩) (fun r s' => r = .ok (.ret (.bool true)) ∧ OldK s1.heap s'.heap ∧ s'.os = s1.os ∧ AllBare s'.gens) s1 := by
    intro H hO hH hS
    have hok : HOk P w H s1.heap := fun b o e => by
      rcases hO b o e with ⟨e1, _, e2⟩ | ⟨p, hp, e1, e2⟩
      · subst e1 e2
        exact ⟨ha, by rw [List.length_map]; exact hl, vs, _, rv, ha⟩
      · subst e1 e2
        exact hT p hp
    have none_of : ∀ {b : Addr} {o : Obj}, s1.heap.get? b = some o → (∀ vs n, o.data ≠ .seq vs n) → o.data ≠ .fields #[] → H b = none := fun {b o} e n1 n2 => by
      cases q : H b with
      | none => rfl
      | some u =>
        rcases hO b u q with ⟨e1, _, _⟩ | ⟨p, hp, e1, _⟩
        · rw [e1, ha] at e
          cases e
          exact (n1 _ _ rfl).elim
        · rw [e1, hT p hp] at e
          cases e
          exact (n2 rfl).elim
    have keep : ∀ {b : Addr} {o : Obj}, s1.heap.get? b = some o → (∀ vs n, o.data ≠ .seq vs n) → o.data ≠ .fields #[] → (hidT s1.heap H).get? b = some o := fun e n1 n2 => hidT_get e (none_of e n1 n2)
    have nsK : ∀ {b : Addr} {m : Str → Option Value}, s1.heap.Ns b m → (hidT s1.heap H).Ns b m := fun {b m} hn => by
      obtain ⟨o, es, ep, e, d, r⟩ := hn
      exact ⟨o, es, ep, keep e (fun vs n z => by rw [d] at z; cases z) (fun z => by rw [d] at z; cases z), d, r⟩
    have hKb : K.In (hidT s1.heap H) := fun b o e => hidT_get (KX b o e) (by
      cases q : H b with
      | none => rfl
      | some u =>
        rcases hO b u q with ⟨e1, e2, _⟩ | ⟨p, hp, e1, _⟩
        · rw [e1, e2] at e
          cases e
        · rw [e1, nT p hp] at e
          cases e)
    have hM : Mod K mg (hidT s1.heap H) := ⟨hKb, nsK hns, ⟨mb, nsK hb, hbb⟩, let ⟨mc, h1, h2⟩ := hlim; ⟨mc, nsK h1, h2⟩⟩
    have e0 : Env0 P w K mg (hidT s1.heap H) callerA [] s1 H := ⟨rfl, hM, fun b o e => of_hidT e, Nat.le_of_eq (hidT_size _ _), trivial, fun b hb => absurd (show b ∈ ([] : List Addr) from hb) (by simp), hok, .of_eq hg⟩
    have TB : ∀ p ∈ cs, TabB (hidT s1.heap H) mg p.1 p.2 := fun p hp => by
      refine ⟨?_, ?_, fun z => ?_⟩
      · obtain ⟨o, us, file, tf, flags, tg, inF, text, tt, e1, r1, r2, r3, rest⟩ := C p hp
        refine ⟨o, us, file, tf, flags, tg, inF, text, tt, keep e1 (fun vs n z => by rw [r2] at z; cases z) (fun z => ?_), r1, r2, r3, rest⟩
        rw [r2] at z
        cases z
        simp at r3
      · obtain ⟨bm, ob, b1, b2, b3, b4, b5, b6⟩ := hbm
        have n1 : ∀ vs n, ob.data ≠ .seq vs n := fun vs n z => by rw [b6] at z; cases z
        have n2 : ob.data ≠ .fields #[] := fun z => by rw [b6] at z; cases z
        refine ⟨bm, ob, b1, b2, fun q => ?_, fun q => ?_, keep b3 n1 n2, b4, b5, b6⟩
        · obtain ⟨o, es, ep, e, hd, _⟩ := hns
          rw [q, e] at b3
          cases b3
          rw [hd] at b6
          cases b6
        · rw [q, hT p hp] at b3
          cases b3
          cases b6
      · obtain ⟨o, es, ep, e, hd, _⟩ := hns
        rw [z, hT p hp] at e
        cases e
        cases hd
    refine codeAny_mono ((F _ hKb (nsK hns) TB).run callerA [] s1 H ⟨[.ref a], []⟩ [.ref a] [.ref a] _ _ rfl hr e0 (hbind s1 (.ref a)) (.cons rfl .nil) (hsp H hH hS)) fun r s' h => ?_
    match r, h with
    | .error e, h => exact h.elim
    | .ok (.ret u), h =>
      obtain ⟨v, H', os, bare, un, hok', r', q⟩ := h
      have q' : v = .bl true := q
      subst q'
      obtain rfl : u = Value.bool true := r'
      have key : ∀ b o, (∀ p ∈ cs, b ≠ p.2) → s1.heap.get? b = some o → s'.heap.get? b = some o := fun b o nb e => by
        cases q : H b with
        | none => exact un.keep b o e q (fun z => absurd (show b ∈ ([] : List Addr) from z) (by simp)) (by simp)
        | some u =>
          rcases hO b u q with ⟨e1, _, e2⟩ | ⟨p, hp, e1, _⟩
          · rw [e2] at q
            obtain ⟨f1, _⟩ := hok b _ q
            obtain ⟨f2, _⟩ := hok' b _ (un.frzs b _ _ q)
            rw [e] at f1
            cases f1
            exact f2
          · exact (nb p hp e1).elim
      have grown : ∀ p ∈ cs, ∃ more : Array Value, s'.heap.get? p.2 = some { cls := .none, data := .fields more } := fun p hp => by
        obtain ⟨more, z⟩ := un.tbls p.2 #[] (hH p hp)
        exact ⟨_, hok' p.2 _ z⟩
      refine ⟨rfl, ⟨fun b o e => ?_, fun b o e => ?_⟩, os, bare⟩
      · by_cases hb : ∃ p ∈ cs, b = p.2
        · obtain ⟨p, hp, ep⟩ := hb
          obtain ⟨more, hm⟩ := grown p hp
          rw [ep] at e ⊢
          rw [hT p hp] at e
          cases e
          exact .inr (.inl ⟨((C p hp).tab (hT p hp)).isCodeTable, rfl, #[], more, rfl, by rw [Array.empty_append]; exact hm⟩)
        · exact .inl (key b o (fun p hp z => hb ⟨p, hp, z⟩) e)
      · by_cases hb : ∃ p ∈ cs, b = p.2
        · obtain ⟨p, hp, ep⟩ := hb
          obtain ⟨more, hm⟩ := grown p hp
          rw [ep]
          exact ⟨_, hm⟩
        · exact ⟨o, key b o (fun p hp z => hb ⟨p, hp, z⟩) e⟩
  cases hk : K.lookup a with
  | some o =>
    have e := KX a o hk
    rw [ha] at e
    cases e
    refine main (fun b => if ∃ p ∈ cs, b = p.2 then some (.tbl #[]) else none) (fun b u z => ?_) (fun p hp => if_pos ⟨p, hp, rfl⟩) (.inr ⟨_, vs.toArray, _, hk, rfl, rfl, rfl, by rw [List.size_toArray, lenV]; exact hl, by simpa using rv⟩)
    by_cases hb : ∃ p ∈ cs, b = p.2
    · have z' := (if_pos hb).symm.trans z
      cases z'
      obtain ⟨p, hp, e⟩ := hb
      exact .inr ⟨p, hp, e, rfl⟩
    · have z' := (if_neg hb).symm.trans z
      cases z'
  | none =>
    refine main (fun b => if b = a then some (.frz { cls := .type "list", data := .seq vs.toArray } (.lst (ns.map V.int))) else if ∃ p ∈ cs, b = p.2 then some (.tbl #[]) else none) (fun b u z => ?_) (fun p hp => (if_neg (neA p hp)).trans (if_pos ⟨p, hp, rfl⟩)) (.inl (.inr ⟨_, if_pos rfl⟩))
    by_cases hb : b = a
    · have z' := (if_pos hb).symm.trans z
      cases z'
      exact .inl ⟨hb, hk, rfl⟩
    · have z1 := (if_neg hb).symm.trans z
      by_cases hb2 : ∃ p ∈ cs, b = p.2
      · have z' := (if_pos hb2).symm.trans z1
        cases z'
        obtain ⟨p, hp, e⟩ := hb2
        exact .inr ⟨p, hp, e, rfl⟩
      · have z' := (if_neg hb2).symm.trans z1
        cases z'
/-- the table of the def that stands at f is empty -/
def EmptyTab (K : PySem.W.Frag) (f : Addr) (h : Heap) : Prop := OwnTab K f h
theorem walkGT {l : PySem.W.OpenLaw} {n k : Nat} {q : Program} {loose : List Str} {XP : (Str → Option Value) → Heap → Prop} {YP : World → Heap → Prop} {d : DefRec} {K : Params → PySem.W.Frag} {x : Str}
    (hn : l.most = some n) (hn2 : n ≤ sizeLine) (hdf : d.params.defaults = []) (hr : Room k callerA) (hY : ∀ (w : World) (h : Heap), YP w h → (K w.params).In h)
    (F : ∀ (w : World) (mg : Str → Option Value) (fa : Addr) (h : Heap), (K w.params).In h → h.Ns mainGlobals mg → mg d.name = some (.ref fa) → (∀ y : Str, ((recsOf q).any fun e => e.name == y) = true → ∀ f : Addr, mg y = some (.ref f) → OwnTab (K w.params) f h) →
      ∃ (fd : FuncData) (cs : List (Addr × Addr)) (sp : Sp), (∀ p ∈ cs, h.get? p.2 = some { cls := .none, data := .fields #[] }) ∧ (∀ p ∈ cs, (K w.params).lookup p.2 = none) ∧ (∀ p ∈ cs, PySem.W.CodeHd h p.1 p.2) ∧ (∀ (s : Shared) (u : Value), BindsTo s fd ⟨[u], []⟩ [(x, u)]) ∧
        (∀ (H : Hp) (a : Addr) (ns : List Int), ns.length ≤ n → (∀ p ∈ cs, H p.2 = some (.tbl #[])) → SqL (K w.params) H a (ns.map V.int) → sp [.ref a] H (fun v _ => v = .bl true) fun _ _ _ => False) ∧
        ∀ base : Heap, (K w.params).In base → base.Ns mainGlobals mg → (∀ p ∈ cs, TabB base mg p.1 p.2) → FnG l.prog w (K w.params) mg base CX0 k fa fd [x] sp) :
    PySem.W.WalkO q loose XP YP l.row.toRowW d [] (fun f vs => PySem.call f vs) := by
  refine Att.attach_callB hn hdf fun w s₀ s₁ mg mb fa o pm cd doc a vs ns G Y ho hd hcd hmg hobj hints hlen hbits hg => ?_
  have KX := hY w _ Y
  have own : ∀ y : Str, ((recsOf q).any fun e => e.name == y) = true → ∀ f : Addr, mg y = some (.ref f) → OwnTab (K w.params) f s₁.heap := fun y hrec f hf c P o1 fd1 e dd vs1 sl k1 k2 k3 k4 k5 => by
    obtain ⟨dL, hm, hn1⟩ := List.any_eq_true.mp hrec
    have hn2 : dL.name = y := beq_iff_eq.mp hn1
    obtain ⟨a', o', fd', c', P', h1, h2, h3, h4, h5, h6⟩ := G.T.tab dL hm
    rw [hn2, hf] at h1
    cases h1
    have g1 := KX _ _ k1
    rw [g1] at h2
    cases h2
    rw [k2] at h3
    cases h3
    rw [k3] at h4
    cases h4
    obtain ⟨⟨oc, vc, e1, _, e3, e4⟩, hP⟩ := h6
    have g2 := KX _ _ k4
    rw [g2] at e1
    cases e1
    cases e3
    rw [k5] at e4
    cases e4
    exact hP
  obtain ⟨fd, cs, sp, hT, nT, C, hb, hsp, hF⟩ := F w mg fa _ KX G.T.g hmg own
  exact lawGT KX G.T.g G.T.b G.T.builtins G.T.nolimit hg hT nT C G.T.bmain hobj hints (Nat.le_trans hlen hn2) hr hF hb fun H hH hS => hsp H a ns hlen hH hS
end KX

set_option maxRecDepth 100000
set_option maxHeartbeats 1000000
namespace KX
open PySem PySem.Spec PyProof.Rows L2 LamX
/-! ### tables beside the stream; data where tables grow -/
theorem tabs_keep {l : Addr} {T : List (Addr × Str)} {H H' : Hp} (k : Keep l H H') (st : StO H l) (t : Tabs T H) : Tabs T H' := fun p hp => by
  obtain ⟨ps, h1, h2, h3⟩ := t p hp
  obtain ⟨x, y, z, el⟩ := st
  refine ⟨ps, k _ _ (fun e => ?_) h1, h2, fun pos cv hc => ?_⟩
  · rw [e, el] at h1
    cases h1
  · obtain ⟨c, e1, e2⟩ := h3 pos cv hc
    refine ⟨c, e1, k _ _ (fun e => ?_) e2⟩
    rw [e, el] at e2
    unfold CodeO at e2
    cases e2
/-- without the tables -/
def noT (H : Hp) : Hp := fun b => match H b with
  | some (.tbl _) => none
  | o => o
theorem noT_same {H : Hp} : Same (noT H) H := fun b o e => by
  unfold noT at e
  cases h : H b with
  | none => rw [h] at e; cases e
  | some u =>
    rw [h] at e
    cases u <;> first | exact e | cases e
theorem noT_at {H : Hp} {b : Addr} {o : HO} (h : H b = some o) (n : ∀ ps, o ≠ .tbl ps) : noT H b = some o := by
  unfold noT
  rw [h]
  cases o <;> first | rfl | exact (n _ rfl).elim
theorem noT_ext {H H' : Hp} (e : ExtN H H') : Same (noT H) (noT H') := fun b o h => by
  have n : ∀ ps, o ≠ .tbl ps := fun ps z => by
    subst z
    unfold noT at h
    cases q : H b with
    | none => rw [q] at h; cases h
    | some u =>
      rw [q] at h
      cases u <;> cases h
  exact noT_at (e b o (noT_same b o h) n) n
mutual
theorem Dx.noT {H : Hp} {v : V} {d : PyData} : Dx H v d → Dx (KX.noT H) v d
  | .non => .non
  | .bl b => .bl b
  | .int i => .int i
  | .str x => .str x
  | .tup e h => .tup (noT_at e fun _ z => by cases z) (Dxs.noT h)
  | .lst e n h => .lst (noT_at e fun _ z => by cases z) n (Dxs.noT h)
  | .dic e => .dic (noT_at e fun _ z => by cases z)
  | .dic1 e => .dic1 (noT_at e fun _ z => by cases z)
theorem Dxs.noT {H : Hp} {vs : List V} {ds : List PyData} : Dxs H vs ds → Dxs (KX.noT H) vs ds
  | .nil => .nil
  | .cons h hs => .cons (Dx.noT h) (Dxs.noT hs)
end
theorem Dx.ext {H H' : Hp} {v : V} {d : PyData} (h : Dx H v d) (e : ExtN H H') : Dx H' v d := (h.noT.up (noT_ext e)).up noT_same
theorem sto_ext {l : Addr} {H H' : Hp} (st : StO H l) (e : ExtN H H') : StO H' l := by
  obtain ⟨x, y, z, el⟩ := st
  exact ⟨x, y, z, e _ _ el fun ps q => by cases q⟩
theorem seq_ext {K : PySem.W.Frag} {H H' : Hp} {a : Addr} {xs : List V} (h : SqL K H a xs) (e : ExtN H H') : SqL K H' a xs := by
  rcases h with (h | ⟨o, h⟩) | h
  · exact .inl (.inl (e _ _ h fun ps q => by cases q))
  · exact .inl (.inr ⟨o, e _ _ h fun ps q => by cases q⟩)
  · exact .inr h
end KX

set_option maxRecDepth 100000
set_option maxHeartbeats 1000000
namespace KX
open PySem PySem.Spec PyProof.Rows L2 LamX
/-! ### a callee that doesn't get the list at p: it leaves it, and what it makes doesn't hold it -/
def frameL (sp : Sp) : Sp := fun vs H Q E => ∃ p xs, H p = some (.lst xs) ∧ sp vs (hid p H) (fun v H' => H' p = none → Q v (upd H' p (.lst xs))) E
section
variable {P : Program} {w : World} {K : PySem.W.Frag} {mg : Str → Option Value} {base : Heap} {k : Nat} {f : Addr} {fd : FuncData} {ps : List Str} {sp : Sp}
theorem hok_hid {H : Hp} {h : Heap} {p : Addr} {xs : List V} (ok : HOk P w H h) (e : H p = some (.lst xs)) : HOk P w (hid p H) h := fun b o q => by
  obtain ⟨n, q⟩ := hid_some q
  refine (ok b o q).stay (fun _ _ _ z => z) (fun c z => ?_) fun c ys z => ?_
  · rw [hid_at (fun y => by rw [y, e] at z; cases z)]
    exact z
  · rw [hid_at (fun y => by rw [y, e] at z; cases z)]
    exact z
theorem hok_back {H : Hp} {h : Heap} {p : Addr} {xs : List V} (ok : HOk P w H h) (n : H p = none) (x : ObjOk P w H h p (.lst xs)) : HOk P w (upd H p (.lst xs)) h := fun b o q => by
  by_cases hb : b = p
  · subst hb
    rw [upd_same] at q
    cases q
    exact x
  · rw [upd_ne hb] at q
    refine (ok b o q).stay (fun _ _ _ z => z) (fun c z => ?_) fun c ys z => ?_
    · rw [upd_ne (ne_of_none z n)]
      exact z
    · rw [upd_ne (ne_of_none z n)]
      exact z
theorem FnOk.frame (F : FnOk P w K mg base CX0 k f fd ps sp) : FnOk P w K mg base CX0 k f fd ps (frameL sp) := by
  refine ⟨fun vs H Q E h => ?_, fun A outer s H args us vs Q E hr e0 hb hv h => ?_⟩
  · obtain ⟨p, xs, _, h⟩ := h
    exact F.len _ _ _ _ h
  · obtain ⟨p, xs, e, h⟩ := h
    have nf : p ∉ frs outer := fun z => by
      rw [e0.frf p z] at e
      cases e
    have e1 : Env0 P w K mg base A outer s (hid p H) := ⟨e0.frames, e0.mod, fun b o z => ⟨(e0.bs b o z).1, by
      unfold hid
      split
      · rfl
      · exact (e0.bs b o z).2⟩, e0.bsz, e0.funs, fun b z => by
      unfold hid
      split
      · rfl
      · exact e0.frf b z, hok_hid e0.hok e, e0.bare⟩
    refine codeAny_mono (F.run A outer s (hid p H) args us vs _ E hr e1 hb hv h) fun r s' hq => ?_
    match r, hq with
    | .ok (.ret u), hq =>
      obtain ⟨v, H', os, bare, un, hok, r, q⟩ := hq
      have hn : hid p H p = none := if_pos rfl
      have x0 := e0.hok p _ e
      obtain ⟨ob, ho⟩ : ∃ ob, s.heap.get? p = some ob := by
        obtain ⟨_, its, n, _, z⟩ := x0
        exact ⟨_, z⟩
      have hp : H' p = none := un.free p ob ho hn (by simp)
      have kp := un.keep p ob ho hn nf (by simp)
      have x1 : ObjOk P w H' s'.heap p (.lst xs) := by
        obtain ⟨z, its, n, r, z2⟩ := x0
        rw [ho] at z2
        cases z2
        exact ⟨z, its, n, r, kp⟩
      have cs : ∀ {b : Addr} {o : HO}, H b = some o → (∀ ys, o ≠ .lst ys) → hid p H b = some o ∧ b ≠ p := fun {b o} z n => by
        have ne : b ≠ p := fun y => by
          rw [y, e] at z
          cases z
          exact n _ rfl
        exact ⟨by rw [hid_at ne]; exact z, ne⟩
      refine ⟨v, upd H' p (.lst xs), os, bare, ⟨fun b o z n => un.keep b o z (by unfold hid; split <;> first | rfl | exact n), fun b o z n => un.slot b o z (by unfold hid; split <;> first | rfl | exact n), fun b o z n nx => ?_, un.there, fun b ys z => ?_, fun b o u z => ?_, fun b us z => ?_⟩, hok_back hok hp x1, r, q hp⟩
      · have ne : b ≠ p := fun y => by
          rw [y, e] at n
          cases n
        rw [upd_ne ne]
        exact un.free b o z (by rw [hid_at ne]; exact n) nx
      · obtain ⟨c1, c2⟩ := cs z (fun _ y => by cases y)
        rw [upd_ne c2]
        exact un.tups b ys c1
      · obtain ⟨c1, c2⟩ := cs z (fun _ y => by cases y)
        rw [upd_ne c2]
        exact un.frzs b o u c1
      · obtain ⟨c1, c2⟩ := cs z (fun _ y => by cases y)
        rw [upd_ne c2]
        exact un.tbls b us c1
    | .error e, hq => exact (show False from hq).elim
end
/-- the values that a comprehension has made so far, beside the stream -/
theorem hid_comm {a b : Addr} {H : Hp} : hid a (hid b H) = hid b (hid a H) := by
  funext c
  unfold hid
  by_cases h1 : c = a <;> by_cases h2 : c = b <;> simp [h1, h2]
theorem hid_upd {p : Addr} {H : Hp} {o : HO} (n : H p = none) : hid p (upd H p o) = H := by
  funext c
  by_cases h : c = p
  · subst h
    unfold hid
    rw [if_pos rfl, n]
  · rw [hid_at h, upd_ne h]
/-- the law's call, the tables by what the top says -/
theorem walkGY {l : PySem.W.OpenLaw} {n k : Nat} {q : Program} {loose : List Str} {XP : (Str → Option Value) → Heap → Prop} {YP : World → Heap → Prop} {d : DefRec} {K : Params → PySem.W.Frag} {x : Str}
    (hn : l.most = some n) (hn2 : n ≤ sizeLine) (hdf : d.params.defaults = []) (hr : Room k callerA) (hY : ∀ (w : World) (h : Heap), YP w h → (K w.params).In h)
    (F : ∀ (w : World) (mg : Str → Option Value) (fa : Addr) (h : Heap), (K w.params).In h → h.Ns mainGlobals mg → mg d.name = some (.ref fa) → YP w h →
      ∃ (fd : FuncData) (cs : List (Addr × Addr)) (sp : Sp), (∀ p ∈ cs, h.get? p.2 = some { cls := .none, data := .fields #[] }) ∧ (∀ p ∈ cs, (K w.params).lookup p.2 = none) ∧ (∀ p ∈ cs, PySem.W.CodeHd h p.1 p.2) ∧ (∀ (s : Shared) (u : Value), BindsTo s fd ⟨[u], []⟩ [(x, u)]) ∧
        (∀ (H : Hp) (a : Addr) (ns : List Int), ns.length ≤ n → (∀ p ∈ cs, H p.2 = some (.tbl #[])) → SqL (K w.params) H a (ns.map V.int) → sp [.ref a] H (fun v _ => v = .bl true) fun _ _ _ => False) ∧
        ∀ base : Heap, (K w.params).In base → base.Ns mainGlobals mg → (∀ p ∈ cs, TabB base mg p.1 p.2) → FnG l.prog w (K w.params) mg base CX0 k fa fd [x] sp) :
    PySem.W.WalkO q loose XP YP l.row.toRowW d [] (fun f vs => PySem.call f vs) := by
  refine Att.attach_callB hn hdf fun w s₀ s₁ mg mb fa o pm cd doc a vs ns G Y ho hd hcd hmg hobj hints hlen hbits hg => ?_
  have KX := hY w _ Y
  obtain ⟨fd, cs, sp, hT, nT, C, hb, hsp, hF⟩ := F w mg fa _ KX G.T.g hmg Y
  exact lawGT KX G.T.g G.T.b G.T.builtins G.T.nolimit hg hT nT C G.T.bmain hobj hints (Nat.le_trans hlen hn2) hr hF hb fun H hH hS => hsp H a ns hlen hH hS
end KX

set_option maxRecDepth 100000
set_option maxHeartbeats 1000000
/-! any data against a text: ==, and in a tuple of texts -/
namespace KX
open PySem PySem.Spec PyProof.Rows L2
section
open MeetsSeq MeetsSeq2 MeetsSeq3 SeqRoads2 SeqAt
variable {A : Around} {s : Shared}
theorem rc_dict_str {l : Addr} {o : Obj} {es : Array DictEntry} {ep : Nat} (b : Str) (u : Tok) (ho : s.heap.get? l = some o) (hc : o.cls = .type "dict") (hd : o.data = .dict es ep) (hu : A.units < cLine) : SeqAt.RcAt A s (.ref l) (.str b u) false := fun prog w E Q h => by
  obtain ⟨cls, dd, data, sl⟩ := o
  simp only at hc hd
  subst hc hd
  exact rc_eq_decline_or (k := false) ⟨_, ho, rfl⟩ (typeIs_str s b u) (by decide) PySem.F.sub_str_dict PySem.F.slot_dict_eq PySem.F.slot_str_eq_refl
    (fun _ hq => call_meets PySem.F.slot_dict_eq ⟨_, ho, rfl⟩ PySem.F.entry_dict_eq (PySem.F.args_dict_eq_2 _ _) (dict_eq_declines_str b u l es ep dd sl) ⟨ho, hq⟩)
    (fun _ hq => call_meets PySem.F.slot_str_eq_refl (typeIs_str s b u) PySem.F.entry_str_eq (PySem.F.args_str_eq_2 _ _) (str_eq_declines_dict b u l es ep dd sl) ⟨ho, hq⟩)
    (fun _ hq => wpAny_of_eq (rfl : isSame (.ref l) (.str b u) = pure false) hq) (.inr hu) h
end
section
variable {X : Cx}
theorem dic_at {pins : List (Addr × Obj)} {σ : L2.St} {H : Hp} {s : Shared} {a : Addr} {kvs : List (Key × V)} (I : Inv X pins σ H s) (e : H a = some (.dK kvs)) : ∃ o es ep, s.heap.get? a = some o ∧ o.cls = .type "dict" ∧ o.data = .dict es ep := by
  obtain ⟨_, _, _, _, o, es, ep, e1, ex, ed, _⟩ := (show ObjOk X.prog X.w H s.heap a (.dK kvs) from I.hok a _ e)
  exact ⟨o, es, ep, e1, ex.1, ed⟩
/-- the data d is the text n -/
def isSt (n : Str) : PyData → Bool
  | .str m => decide (m = n)
  | _ => false
theorem isSt_is {n : Str} {d : PyData} (h : isSt n d = true) : d = .str n := by
  cases d with
  | str m => rw [of_decide_eq_true h]
  | _ => cases h
theorem rc_data_str {pins : List (Addr × Obj)} {σ : L2.St} {H : Hp} {s : Shared} {A : Around} {x : V} {d : PyData} {v : Value} {n : Str} {u : Tok} (I : Inv X pins σ H s) (hd : Dx H x d) (r : RelV x v) (hu : A.units < cLine) : SeqAt.RcAt A s v (.str n u) (isSt n d) := by
  cases hd with
  | non =>
    cases r
    exact SeqAt.RcAt.none_str n u
  | bl b =>
    cases r
    exact SeqAt.RcAt.bool_str b n u
  | int i =>
    obtain ⟨t, rfl⟩ := (show ∃ t, v = Value.int i t from r)
    exact SeqAt.RcAt.int_str i t n u
  | str y =>
    obtain ⟨t, rfl⟩ := (show ∃ t, v = Value.str y t from r)
    rw [show isSt n (.str y) = (y == n) by
      show decide (y = n) = (y == n)
      by_cases h : y = n
      · subst h; simp
      · rw [decide_eq_false h]; symm; simpa using h]
    exact SeqAt.RcAt.str_str y t n u
  | @tup a xs ds e h =>
    cases (show v = Value.ref a from r)
    obtain ⟨its, r1, p1, _⟩ := I.tuple (show SqT X.K H a xs from .inl (.inl e))
    exact SeqAt.RcAt.tuple_str n u p1 hu
  | @lst a xs ds e _ h =>
    cases (show v = Value.ref a from r)
    obtain ⟨_, its, k, _, z⟩ := (show ObjOk X.prog X.w H s.heap a (.lst xs) from I.hok a _ e)
    exact SeqAt.RcAt.list_str n u ⟨_, z, rfl, _, rfl⟩ hu
  | @dic a e =>
    cases (show v = Value.ref a from r)
    obtain ⟨o, es, ep, h1, h2, h3⟩ := dic_at I e
    exact rc_dict_str n u h1 h2 h3 hu
  | @dic1 a _ _ e =>
    cases (show v = Value.ref a from r)
    obtain ⟨o, es, ep, h1, h2, h3⟩ := dic_at I e
    exact rc_dict_str n u h1 h2 h3 hu
theorem eq_str_data {pins : List (Addr × Obj)} {σ : L2.St} {H : Hp} {s : Shared} {A : Around} {x : V} {d : PyData} {v : Value} {n : Str} {u : Tok} (I : Inv X pins σ H s) (hd : Dx H x d) (r : RelV x v) (hu : A.units < cLine) : SeqAt.EqAt A s (.str n u) v (isSt n d) := by
  cases hd with
  | non =>
    cases r
    exact SeqAt.EqAt.str_none n u
  | bl b =>
    cases r
    exact SeqAt.EqAt.str_bool n u b
  | int i =>
    obtain ⟨t, rfl⟩ := (show ∃ t, v = Value.int i t from r)
    exact SeqAt.EqAt.str_int n u i t
  | str y =>
    obtain ⟨t, rfl⟩ := (show ∃ t, v = Value.str y t from r)
    rw [show isSt n (.str y) = (n == y) by
      show decide (y = n) = (n == y)
      by_cases h : y = n
      · subst h; simp
      · rw [decide_eq_false h]; symm; simpa using fun z : n = y => h z.symm]
    exact SeqAt.EqAt.str_str n u y t
  | @tup a xs ds e h =>
    cases (show v = Value.ref a from r)
    obtain ⟨its, r1, p1, _⟩ := I.tuple (show SqT X.K H a xs from .inl (.inl e))
    exact SeqAt.EqAt.str_tuple n u p1 hu
  | @lst a xs ds e _ h =>
    cases (show v = Value.ref a from r)
    obtain ⟨_, its, k, _, z⟩ := (show ObjOk X.prog X.w H s.heap a (.lst xs) from I.hok a _ e)
    exact SeqAt.EqAt.str_list n u ⟨_, z, rfl, _, rfl⟩ hu
  | @dic a e =>
    cases (show v = Value.ref a from r)
    obtain ⟨o, es, ep, h1, h2, h3⟩ := dic_at I e
    exact eq_str_dict n u h1 h2 h3 hu
  | @dic1 a _ _ e =>
    cases (show v = Value.ref a from r)
    obtain ⟨o, es, ep, h1, h2, h3⟩ := dic_at I e
    exact eq_str_dict n u h1 h2 h3 hu
/-- x == 'n', x any data -/
def rEqS : R2 := fun x y H Q => ∃ d n, Dx H x d ∧ y = .str n ∧ Q (.bl (isSt n d)) H
theorem op_eqS (hu : X.A.units < cLine) : OpR X (compareOp .Eq) rEqS := by
  intro pins s σ H x y v u Q I rx ry h
  obtain ⟨d, n, hd, rfl, q⟩ := h
  obtain ⟨t, rfl⟩ := (show ∃ t, u = Value.str n t from ry)
  exact rc_data_str I hd rx hu X.prog X.w X.xe _ ⟨.bl _, H, I, rfl, q⟩
/-- x in t, x not in t: t a tuple of texts, x any data -/
def rInA (K : PySem.W.Frag) (f : Bool → Bool) : R2 := fun x y H Q => ∃ (d : PyData) (t : Addr) (ns : List Str), Dx H x d ∧ y = .ref t ∧ SqT K H t (ns.map V.str) ∧ Q (.bl (f (ns.any fun n => isSt n d))) H
theorem vals_strs : ∀ (ns : List Str) (us : List Value), Vals (ns.map V.str) us → ∀ z ∈ us, ∃ n t, z = Value.str n t := fun ns => by
  induction ns with
  | nil => intro us r z hz; cases r; cases hz
  | cons n ns ih =>
    intro us r z hz
    cases r with
    | cons r1 r2 =>
      rcases List.mem_cons.mp hz with rfl | hz
      · obtain ⟨t, rfl⟩ := r1
        exact ⟨n, t, rfl⟩
      · exact ih _ r2 z hz
def isS (d : PyData) : Value → Bool
  | .str m _ => isSt m d
  | _ => false
theorem any_isS {d : PyData} : ∀ (ns : List Str) (us : List Value), Vals (ns.map V.str) us → us.any (isS d) = ns.any fun n => isSt n d := fun ns => by
  induction ns with
  | nil => intro us r; cases r; rfl
  | cons n ns ih =>
    intro us r
    cases r with
    | cons r1 r2 =>
      obtain ⟨t, rfl⟩ := r1
      rw [List.any_cons, List.any_cons, ih _ r2]
      rfl
theorem op_inA (hu : X.A.units + 64 < cLine) : OpR X (compareOp .In) (rInA X.K id) := by
  intro pins s σ H x y v u Q I rx ry h
  obtain ⟨d, t, ns, hd, rfl, ht, q⟩ := h
  cases ry
  obtain ⟨its, rv, ⟨o, ho, hc, n, hdat⟩, _⟩ := I.tuple ht
  refine SeqAt.in_tupleAt (e := isS d) (hl := ⟨o, ho, hc, n, hdat⟩) (he := fun y hy => ?_) (h := ?_)
  · obtain ⟨m, t, rfl⟩ := vals_strs ns its rv y (by simpa using hy)
    exact eq_str_data I hd rx (by have : X.A.units + 64 < cLine := hu; show X.A.in1.units < cLine; exact Nat.lt_of_le_of_lt (by show X.A.units + 1 ≤ X.A.units + 64; omega) this)
  · have e : its.toArray.any (isS d) = ns.any fun n => isSt n d := by
      rw [← Array.any_toList]
      exact any_isS ns its rv
    rw [e]
    exact ⟨.bl _, H, I, rfl, q⟩
theorem op_ninA (hu : X.A.units + 64 < cLine) : OpR X (compareOp .NotIn) (rInA X.K not) := by
  intro pins s σ H x y v u Q I rx ry h
  obtain ⟨d, t, ns, hd, rfl, ht, q⟩ := h
  cases ry
  obtain ⟨its, rv, ⟨o, ho, hc, n, hdat⟩, _⟩ := I.tuple ht
  refine SeqAt.notIn_tupleAt (e := isS d) (hl := ⟨o, ho, hc, n, hdat⟩) (he := fun y hy => ?_) (h := ?_)
  · obtain ⟨m, t, rfl⟩ := vals_strs ns its rv y (by simpa using hy)
    exact eq_str_data I hd rx (by have : X.A.units + 64 < cLine := hu; show X.A.in1.units < cLine; exact Nat.lt_of_le_of_lt (by show X.A.units + 1 ≤ X.A.units + 64; omega) this)
  · have e : its.toArray.any (isS d) = ns.any fun n => isSt n d := by
      rw [← Array.any_toList]
      exact any_isS ns its rv
    rw [e]
    exact ⟨.bl _, H, I, rfl, q⟩
/-- t == (), t any tuple -/
def rEq0 (K : PySem.W.Frag) : R2 := fun x y H Q => ∃ a b xs, x = .ref a ∧ y = .ref b ∧ SqT K H a xs ∧ SqT K H b [] ∧ Q (.bl xs.isEmpty) H
theorem op_eq0 (hu : X.A.units < cLine) : OpR X (compareOp .Eq) (rEq0 X.K) := by
  intro pins s σ H x y v u Q I rx ry h
  obtain ⟨a, b, xs, rfl, rfl, ha, hb, q⟩ := h
  cases rx
  cases ry
  obtain ⟨its, r1, p1, _⟩ := I.tuple ha
  obtain ⟨its2, r2, p2, _⟩ := I.tuple hb
  cases r2
  have e : ((List.range (min its.toArray.size ([] : List Value).toArray.size)).all (fun _ => true) && its.toArray.size == ([] : List Value).toArray.size) = xs.isEmpty := by
    have := r1.length
    cases xs with
    | nil =>
      cases its with
      | nil => rfl
      | cons _ _ => simp at this
    | cons _ _ =>
      cases its with
      | nil => simp at this
      | cons _ _ => simp
  refine SeqAt.RcAt.tuples (e := fun _ => true) p1 p2 hu (fun j h1 h2 => absurd h2 (by simp)) X.prog X.w X.xe (EP X pins σ Q) ?_
  rw [e]
  exact ⟨.bl _, H, I, rfl, q⟩
end
end KX

set_option maxRecDepth 100000
set_option maxHeartbeats 1000000
namespace KX
open PySem PySem.Spec PyProof.Rows L2 RZ
/-! ### [e for x, y in zip(s, t)], s and t tuples, t the shorter one -/
theorem lc_zipS {K : PySem.W.Frag} {a b : Addr} {xs ys : List V} {g : TG} {tt : TT} {te : TE} {vs : List Nat} {σ : L2.St} {H1 : Hp} {D : Addr} {Qd : Hp → Prop} (hl : ys.length ≤ xs.length) (Pv : Nat → Hp → Prop) (h0 : Pv 0 (upd H1 D (.lst [])))
    (hq : ∀ i G, i ≤ ys.length → Pv i G → SqT K G a xs ∧ SqT K G b ys)
    (hs : ∀ (i : Nat) (x y : V) (T : Addr) (G : Hp), xs[i]? = some x → ys[i]? = some y → Pv i G → G T = none → g (.ref T) (wipe σ vs) (upd G T (.tup [x, y])) fun σ2 H2 => wipe σ2 vs = wipe σ vs ∧ tt σ2 H2 fun b H3 =>
      if b = true then te σ2 H3 fun y H4 => ∃ zs, H4 D = some (.lst zs) ∧ zs.length < sizeLine ∧ Pv (i + 1) (upd H4 D (.lst (zs ++ [y]))) else Pv (i + 1) H3) (hd : ∀ G, Pv ys.length G → Qd G) :
    ∃ W : Nat → Nat → Hp → Prop, (∃ m, W 0 m (upd H1 D (.lst []))) ∧ ∀ i m H, W i m H → ((ItzT K a b).stop i H ∧ Qd H) ∨ ((ItzT K a b).go i H ∧ ∃ Nx : Hp → Prop, (∀ H', Nx H' → ∃ m', m' < m ∧ W (i + 1) m' H') ∧ ∀ x H', (ItzT K a b).yld i H x H' →
      g x (wipe σ vs) H' fun σ2 H2 => wipe σ2 vs = wipe σ vs ∧ tt σ2 H2 fun b H3 => if b = true then te σ2 H3 fun y H4 => ∃ zs, H4 D = some (.lst zs) ∧ zs.length < sizeLine ∧ Nx (upd H4 D (.lst (zs ++ [y]))) else Nx H3) := by
  refine ⟨fun i m G => m = ys.length - i ∧ i ≤ ys.length ∧ Pv i G, ⟨ys.length, by simp, Nat.zero_le _, h0⟩, fun i m G hw => ?_⟩
  obtain ⟨rfl, hi, p⟩ := hw
  obtain ⟨qx, qy⟩ := hq i G hi p
  by_cases lt : i < ys.length
  · refine .inr ⟨⟨xs, ys, xs[i]'(by omega), ys[i], qx, qy, List.getElem?_eq_getElem (by omega), List.getElem?_eq_getElem lt⟩, Pv (i + 1), fun G' p' => ⟨ys.length - (i + 1), by omega, rfl, lt, p'⟩, fun v G' r => ?_⟩
    obtain ⟨T, x, y, rfl, nT, rfl, e1, e2⟩ := r
    exact hs i x y T G (e1 xs qx) (e2 ys qy) p nT
  · have e : i = ys.length := by omega
    subst e
    exact .inl ⟨⟨xs, ys, qx, qy, .inr (Nat.le_refl _)⟩, hd G p⟩
/-! ### except clauses, with names and without -/
/-- a clause: its class, the slot of its name if it has one, its suite -/
structure Cls where
  c : Value
  i : Option Nat
  ts : Addr → Value → Option Addr → TS
def endsAt (D : Ends) : Option Nat → Ends
  | none => D
  | some i => { nx := fun σ' G => D.nx (σ'.set i none) G, rt := D.rt, bk := fun σ' G => D.bk (σ'.set i none) G, ct := fun σ' G => D.ct (σ'.set i none) G }
def slotIn (σ : L2.St) (a : Addr) : Option Nat → L2.St
  | none => σ
  | some i => σ.set i (some (.ref a))
def wMix (K : PySem.W.Frag) (Wo : WX) (D : Ends) : List Cls → WX
  | [] => Wo
  | q :: r => fun cls d σ G => ∃ b, PySem.W.exmOne K cls q.c = some b ∧ (b = true → ∀ a, G a = none → q.ts a cls d (endsAt D q.i) (slotIn σ a q.i) G) ∧ (b = false → wMix K Wo D r cls d σ G)
inductive MixOk (X : Cx) : List ExceptHandler → List Cls → Prop
  | nil : MixOk X [] []
  | plain {x : Str} {c : Value} {ts : Addr → Value → Option Addr → TS} {b0 : Stmt} {bs : List Stmt} {p1 p2 : Pos} {hds : List ExceptHandler} {l : List Cls} (hc : Names X x c)
      (hb : ∀ (a : Addr) (oe : Obj) (cls : Value) (d : Option Addr) (pn : List (Addr × Obj)), Zc cls d oe → (∃ vs, oe.data = .fields vs) → PSs (X.suite a ((a, oe) :: pn)) (b0 :: bs) (ts a cls d)) (r : MixOk X hds l) :
      MixOk X (.ExceptHandler (some (.Name x p1)) none (b0 :: bs) p2 :: hds) (⟨c, none, ts⟩ :: l)
  | named {x n : Str} {i : Nat} {c : Value} {ts : Addr → Value → Option Addr → TS} {b0 : Stmt} {bs : List Stmt} {p1 p2 : Pos} {hds : List ExceptHandler} {l : List Cls} (hi : X.N[i]? = some n) (hn : X.env.kindOf n = some .local) (hc : Names X x c)
      (hb : ∀ (a : Addr) (oe : Obj) (cls : Value) (d : Option Addr) (pn : List (Addr × Obj)), Zc cls d oe → (∃ vs, oe.data = .fields vs) → PSs (X.suite a ((a, oe) :: pn)) (b0 :: bs) (ts a cls d)) (r : MixOk X hds l) :
      MixOk X (.ExceptHandler (some (.Name x p1)) (some n) (b0 :: bs) p2 :: hds) (⟨c, some i, ts⟩ :: l)
section
variable {X : Cx} {body : List Stmt} {hd0 : ExceptHandler} {hds : List ExceptHandler} {l : List Cls} {pos : Pos} {tb : WX → TS} {Wo : WX}
theorem ps_try_mix (hs : X.stack = X.env :: X.outer) (hf : X.env.frame = some X.env.locals) (nd : X.N.Nodup) (tk : Takes X Wo)
    (hb : ∀ (W : WX) (pn : List (Addr × Obj)) (xe : Value → Shared → Prop), Takes (X.tr pn xe) W → PassesOwn (model X.prog X.w) X.A X.env xe → PSs (X.tr pn xe) body (tb W))
    (hh : MixOk X (hd0 :: hds) l) : PS X (.Try body (hd0 :: hds) [] [] pos) (fun D σ G => tb (wMix X.K Wo D l) D σ G) := by
  refine ⟨fun pins s σ G D I h => wpAny_Try_except ?_⟩
  have ok := I.ok
  have frm : X.A.frames = some (X.env :: X.outer) := ok.frames.trans (by rw [hs])
  refine wpAny_mono ((hb (wMix X.K Wo D l) (X.pn ++ pins) (fun e t1 => wpAny (model X.prog X.w) X.A (noteFrame e X.env) (fun _ t2 => wpAny (model X.prog X.w) X.A (setFlight e none) (fun _ t3 =>
    wpAny (model X.prog X.w) X.A (handleBy e X.env (hd0 :: hds)) (SP X pins D) X.xe t3) X.xe t2) X.xe t1) (fun u s1 caught => ?_) PassesOwn.looking).run [] s σ G D (I.toTry _) h) (fun fl s1 fin => ?_) (fun _ _ z => z)
  · obtain ⟨ea, B0, sI, pins1, σ1, G1, cls, d, rfl, IT, nb, up, sky, na, os, ag, wish⟩ := caught
    have I1 : Inv X pins σ1 G1 sI := IT.ofTry ok
    refine Sky.land Zc.steady frm hf (show Sky B0 (X.env :: X.outer) ea (Zc cls d) X.env.locals s1.heap by rw [← hs]; exact sky) fun h3 lands up3 => ?_
    have I3 : Inv X pins σ1 G1 { s1 with heap := h3 } := I1.landed nb lands.1 (up.trans up3) os ag
    obtain ⟨oe3, fv3, at3, z3, dat3⟩ := lands.there
    have off : ea ∉ frs (X.env :: X.outer) := fun hm => by
      obtain ⟨_, o1, e1, nf⟩ := lands.2.2.1.mem hm
      rw [at3] at e1
      cases e1
      exact nf _ dat3
    have offL : ea ≠ X.env.locals := fun z => off (List.mem_filterMap.mpr ⟨X.env, List.mem_cons_self, by rw [hf, z]⟩)
    have offF : ea ∉ X.fs := fun hm => by
      obtain ⟨en, hen, q⟩ := List.mem_filterMap.mp hm
      exact off (List.mem_filterMap.mpr ⟨en, List.mem_cons_of_mem _ hen, q⟩)
    have S3 := I3.suite at3 dat3 na offL offF
    have looks : PySem.W.Looks (model X.prog X.w) h3 (typeOf (.ref ea)) cls := fun A Q E t k q => wpAny_typeOf_ref (k _ _ at3) (by rw [z3.1]; exact q)
    have reads : ∀ {x : Str} {c : Value} {p1 : Pos} {Q : Value → Shared → Prop} {E : Value → Shared → Prop}, Names X x c → Q c { s1 with heap := h3 } → wpAny (model X.prog X.w) (X.A.mark (some (.ref ea))) (eval (.Name x p1) X.env) Q E { s1 with heap := h3 } := fun {x c p1 Q E} hc q => by
      obtain ⟨hg, hdb, hm | ⟨hm, hv, hnn⟩⟩ := hc
      · exact ld_glob (X := X.suite ea ((ea, oe3) :: (X.pn ++ pins))) S3 hg hm q hdb
      · exact ld_blt (X := X.suite ea ((ea, oe3) :: (X.pn ++ pins))) S3 hg hm hv q hnn hdb
    have each : ∀ {hl : List ExceptHandler} {cl : List Cls}, MixOk X hl cl → wMix X.K Wo D cl cls d σ1 G1 → wpAny (model X.prog X.w) X.A (handleBy (.ref ea) X.env hl) (SP X pins D) X.xe { s1 with heap := h3 } := by
      intro hl cl mk
      induction mk with
      | nil =>
        intro wo
        refine wpAny_handleBy_nil ?_
        obtain ⟨_, _, _, ox, fx, T, _, _, atx, _, datx, tl1, _⟩ := id lands
        unfold PySem.passOn
        refine wpAny_bind (wpAny_field atx datx tl1 ?_)
        rw [if_neg (by simp)]
        have out : wpAny (model X.prog X.w) X.A (setFlight (.ref ea) X.env.frame) (fun _ t4 => wpAny (model X.prog X.w) X.A (throw (.ref ea) : Sem Flow) (SP X pins D) X.xe t4) X.xe { s1 with heap := h3 } := by
          rw [hf]
          refine HandSPX.setFlight_upZ lands fun h4 hx4 up4 => wpAny_throw (tk _ _ ⟨ea, B0, sI, pins, σ1, G1, cls, d, rfl, I1, nb, (up.trans up3).trans up4, .inr (.inr (by rw [hs]; exact hx4)), na, os, ag, wo⟩)
        first | exact wpAny_bind (wpAny_pure (wpAny_bind out)) | exact wpAny_bind out
      | @plain x c ts b0 bs p1 p2 hds2 l2 hc hb r ih =>
        intro wq
        obtain ⟨b, e1, yes, no⟩ := wq
        refine wpAny_handleBy_cons (codeAny_handlers_test (reads hc ((PySem.W.exm_one (M := model X.prog X.w) I3.kIn looks e1).here ?_))) (by intro q; cases q)
        cases b with
        | false => exact ih (no rfl)
        | true =>
          refine codeAny_handlers_suite (HandSPX.lands_againZ lands fun h4 lands4 up4 => ?_)
          obtain ⟨oe4, fv4, at4, z4, dat4⟩ := lands4.there
          have I4 : Inv X pins σ1 G1 { s1 with heap := h4 } := I1.landed nb lands4.1 ((up.trans up3).trans up4) os ag
          refine wpAny_mono ((hb ea oe4 cls d (X.pn ++ pins) z4 ⟨_, dat4⟩).run [] _ _ G1 _ (I4.suite at4 dat4 na offL offF) (yes rfl ea na)) (fun fl t6 fin => ?_) (fun _ _ z => z.elim)
          cases fl with
          | ret u =>
            obtain ⟨v6, σ6, G6, S6, r6, q6⟩ := fin
            exact ⟨v6, σ6, G6, S6.unsuite ok, r6, q6⟩
          | _ =>
            obtain ⟨σ6, G6, S6, q6⟩ := fin
            exact ⟨σ6, G6, S6.unsuite ok, q6⟩
      | @named x n i c ts b0 bs p1 p2 hds2 l2 hi hn hc hb r ih =>
        intro wq
        obtain ⟨b, e1, yes, no⟩ := wq
        refine wpAny_handleBy_cons (codeAny_handlers_test (reads hc ((PySem.W.exm_one (M := model X.prog X.w) I3.kIn looks e1).here ?_))) (by intro q; cases q)
        cases b with
        | false => exact ih (no rfl)
        | true =>
          refine codeAny_handlers_suite_as (HandSPX.lands_againZ lands fun h4 lands4 up4 => ?_)
          obtain ⟨oe4, fv4, at4, z4, dat4⟩ := lands4.there
          have I4 : Inv X pins σ1 G1 { s1 with heap := h4 } := I1.landed nb lands4.1 ((up.trans up3).trans up4) os ag
          refine store_ok (X := X.suite ea ((ea, oe4) :: (X.pn ++ pins))) (v := .ref ea) (I4.suite at4 dat4 na offL offF) nd hi (.inl hn) rfl (fun t5 S5 => ?_) (.inr hn)
          refine wpAny_mono ((hb ea oe4 cls d (X.pn ++ pins) z4 ⟨_, dat4⟩).run [] t5 _ G1 _ S5 (yes rfl ea na)) (fun fl t6 fin => ?_) (fun _ _ z => z.elim)
          have gone : ∀ {σ6 : L2.St} {G6 : Hp} {R : Shared → Prop}, Inv (X.suite ea ((ea, oe4) :: (X.pn ++ pins))) [] σ6 G6 t6 → (∀ t7, Inv X pins (σ6.set i none) G6 t7 → R t7) →
              wpAny (model X.prog X.w) X.A (do bindName X.env n .none; unbindBehindTheSuite X.env n p2) (fun _ t7 => R t7) X.xe t6 := fun {σ6 G6 R} S6 k => gone_ok (S6.unsuite ok) nd hi hn k
          cases fl with
          | ret u =>
            obtain ⟨v6, σ6, G6, S6, r6, q6⟩ := fin
            exact gone S6 fun t7 I7 => ⟨v6, _, _, I7, r6, q6⟩
          | _ =>
            obtain ⟨σ6, G6, S6, q6⟩ := fin
            exact gone S6 fun t7 I7 => ⟨_, _, I7, q6⟩
    exact each hh wish
  · cases fl with
    | next =>
      obtain ⟨σ6, G6, I6, q6⟩ := fin
      exact wpAny_execs_nil ⟨σ6, G6, I6.ofTry ok, q6⟩
    | ret u =>
      obtain ⟨v6, σ6, G6, I6, r6, q6⟩ := fin
      exact ⟨v6, σ6, G6, I6.ofTry ok, r6, q6⟩
    | _ =>
      obtain ⟨σ6, G6, I6, q6⟩ := fin
      exact ⟨σ6, G6, I6.ofTry ok, q6⟩
end
end KX

set_option maxRecDepth 100000
set_option maxHeartbeats 1000000
/-! KeyError as a base of an own exception class: __new__ is LookupError's, __init__ its own -/
namespace KX
open PySem PySem.F PySem.Spec PyProof.Rows L2 HandSPX
def kyTl : List Value := [.type "KeyError", .type "LookupError", .type "Exception", .type "BaseException", .type "object"]
/-- what is known of the __init__ of a built-in exception class -/
structure IniB (B iniI : String) : Prop where
  slot : Slot B "__init__" iniI
  ent : entryFor table iniI = some Builtin.«BaseException.__init__»
  spl : splitId iniI = some (B, "__init__")
  knd : builtinKind iniI = some .slot
  row : Manifest.signature? iniI = some ⟨.positional, "*", B, .self, [⟨"args", .varPos, false⟩]⟩
theorem kyIni : IniB "KeyError" "KeyError.__init__" :=
  ⟨.of (owner := "KeyError") (n := "__init__") (by rw [typeLookup_type, builtinLookup_eq_fast]; kernel_rfl) (by decide +kernel) (by decide +kernel) (by decide +kernel) (by first | exact .inl (by decide +kernel) | exact .inr (by decide +kernel)) (by rw [isSubtype_type]; kernel_rfl),
   entryFor_alias (id' := "BaseException.__init__") (by rw [fastTable_eq_tree]; kernel_rfl) (by first | rfl | decide +kernel) (by decide +kernel) (by rw [fastTable_eq_tree]; kernel_rfl), by kernel_rfl, by kernel_rfl, by kernel_rfl⟩
theorem kyStore : StoreFacts "KeyError" kyTl "object.__setattr__" "object" := by
  have i := PySem.F.store_IndexError
  refine ⟨by kernel_rfl, ?_, i.entry, i.kind, i.split, by decide +kernel, i.args, fun z => by kernel_rfl⟩
  exact .of (owner := "object") (n := "__setattr__") (by rw [typeLookup_type, builtinLookup_eq_fast]; kernel_rfl) (by decide +kernel) (by decide +kernel) (by decide +kernel) (by first | exact .inl (by decide +kernel) | exact .inr (by decide +kernel)) (by rw [isSubtype_type]; kernel_rfl)
/-- of the class at C, whose tail is bm: the built-in class B makes it, D's __init__ fits it -/
structure Tl (B D : String) (bm : List Value) : Prop where
  b : bm.contains (.type B) = true
  d : bm.contains (.type D) = true
  a : bm.contains (.type "AttributeError") = false
  n : bm.contains (.type "NameError") = false
section
variable {M : Model} {prog : Program} {w : World} {A : Around} {E : Value → Shared → Prop} {R : Result → Shared → Prop} {hp : Heap} {g : Array GenState} {dr : Drawn} {tk : Nat} {os : OsState}
variable {nm q : Str} {C N : Addr} {bs bm bB : List Value} {hdct : Bool} {sn : List Str} {sub : List Value} {ab : Bool} {col : Option Bool} {dd : Option Addr} {k0 k1 k2 k3 k5 : Option Value} {B D newI oldI iniI : String} {rest : List Value}
theorem new_ok2 (L : ExcBaseFacts B newI oldI bB) (T : Tl B D bm) {Q : Unit → Shared → Prop} (at' : hp.get? C = some (excClassObj nm q C N bs bm hdct sn sub ab col dd k0 k1 k2 k3 k5 newI)) (k : Q () ⟨hp, g, dr, tk, os⟩) :
    wpAny M A (checkBuiltinCall newI ⟨.ref C :: rest, []⟩) Q E ⟨hp, g, dr, tk, os⟩ := by
  have inB : (Value.ref C :: bm).contains (.type B) = true := by rw [List.contains_cons, T.b, Bool.or_true]
  have star := L.noStar
  simp only [checkBuiltinCall, L.newKind, L.newSplit, L.newRow]
  repeat (first | refine wpAny_loadPart_at at' ?_ | (refine wpAny_isSubtype_exc at' ?_; rw [inB]) | refine wpAny_staticBase_exc at' ?_ | refine wpAny_madeBy_exc at' ?_ | simp only [bne_self_eq_false, Bool.false_eq_true, if_false] | wp_step)
  exact k
theorem ini_ok2 (J : IniB D iniI) (nst : (D != "*") = true) (T : Tl B D bm) {e : Addr} {oe : Obj} {Q : Unit → Shared → Prop} (at' : hp.get? C = some (excClassObj nm q C N bs bm hdct sn sub ab col dd k0 k1 k2 k3 k5 newI)) (ae : hp.get? e = some oe) (ce : oe.cls = .ref C) (k : Q () ⟨hp, g, dr, tk, os⟩) :
    wpAny M A (checkBuiltinCall iniI ⟨.ref e :: rest, []⟩) Q E ⟨hp, g, dr, tk, os⟩ := by
  have inD : (Value.ref C :: bm).contains (.type D) = true := by rw [List.contains_cons, T.d, Bool.or_true]
  simp only [checkBuiltinCall, J.knd, J.spl, J.row]
  repeat (first | (with_reducible refine wpAny_loadPart_at ae ?_; rw [ce]) | with_reducible refine wpAny_loadPart_at at' ?_ | (with_reducible refine wpAny_isSubtype_exc at' ?_; rw [inD]) | wp_step)
  refine wpAny_onRaise ?_
  rw [show ∀ (x y : String) (m : Nat), Bind.check ⟨.positional, "*", D, .self, [⟨"args", .varPos, false⟩]⟩ x y m (List.map (fun z => z.fst) ({ pos := Value.ref e :: rest } : Args).kw) = pure () from fun x y m => check_star_args _ _ _ _ _ _]
  exact wpAny_pure k
theorem made2 (L : ExcBaseFacts B newI oldI bB) (T : Tl B D bm) (at' : hp.get? C = some (excClassObj nm q C N bs bm hdct sn sub ab col dd k0 k1 k2 k3 k5 newI))
    (k : R (.ok (.ret (.ref (hp.objs.size + 1)))) ⟨(hp.push (W.kdv_tup rest)).push (excO C hp.objs.size), g, dr, tk, os⟩) (hl : rest.length ≤ sizeLine) : codeAny (model prog w) A (.builtin newI ⟨.ref C :: rest, []⟩) R ⟨hp, g, dr, tk, os⟩ := by
  have en := L.ends
  have inB : (Value.ref C :: bm).contains (.type B) = true := by rw [List.contains_cons, T.b, Bool.or_true]
  have noA : (Value.ref C :: bm).contains (.type "AttributeError") = false := by rw [List.contains_cons, T.a]; rfl
  have noN : (Value.ref C :: bm).contains (.type "NameError") = false := by rw [List.contains_cons, T.n]; rfl
  refine codeAny_builtinAt L.entry ?_
  unfold Builtin.«BaseException.__new__»
  refine PyProof.Rows.wpAt_bind (show PyProof.Rows.wpAt _ _ _ (stack >>= _) _ _ _ from PyProof.Rows.wpAt_bind (PyProof.Rows.wpAt_stack fun p below => wpAt_of_wpAny ?_))
  wp_walk
  refine wpAt_of_wpAny ?_
  rw [L.owner]
  repeat (first | with_reducible refine wpAny_madeHere_exc L.canon at' ?_ | with_reducible refine wpAny_loadPart_at at' ?_ | (with_reducible refine wpAny_isSubtype_exc at' ?_; first | rw [inB] | rw [noA] | rw [noN]) | wp_step)
  show R _ _
  rw [Heap.size_push]
  exact k
theorem tcall2 (L : ExcBaseFacts B newI oldI bB) (T : Tl B D bm) {fI : Addr} {Q : Fin → Shared → Prop} (at' : hp.get? C = some (excClassObj nm q C N bs bm hdct sn sub ab col dd k0 k1 k2 k3 k5 newI))
    (li : W.Looks (model prog w) hp (typeLookup (.ref C) "__init__") (some (.ref fI))) (lb : ∀ z, W.Looks (model prog w) hp (bindSpecial (.ref fI) z) (.ref fI, [z])) (hl : rest.length ≤ sizeLine)
    (k : codeAny (model prog w) A (.call (.ref fI) ⟨.ref (hp.objs.size + 1) :: rest, []⟩) (fun r s' => match r with | .ok (.ret v) => v = .none ∧ Q (.done (.ret (.ref (hp.objs.size + 1)))) s' | .ok _ => False | .error e => E e s')
      ⟨(hp.push (W.kdv_tup rest)).push (excO C hp.objs.size), g, dr, tk, os⟩) : wpAny (model prog w) A (Builtin.«type.__call__» ⟨.ref C :: rest, []⟩) Q E ⟨hp, g, dr, tk, os⟩ := by
  repeat (first | with_reducible refine wpAny_loadPart_at at' ?_ | with_reducible refine wpAny_madeBy_exc at' ?_ | wp_step)
  refine codeAny_call_builtin_code (Code.quiet_builtin _ L.quiet) (new_ok2 L T at' (made2 L T at' ?_ hl))
  show wpAny _ _ _ _ _ _
  have old : ∀ b o, hp.get? b = some o → ((hp.push (W.kdv_tup rest)).push (excO C hp.objs.size)).get? b = some o := fun b o z => Heap.get?_push_of_some _ (Heap.get?_push_of_some _ z)
  have at1 := old _ _ at'
  have new1 : ((hp.push (W.kdv_tup rest)).push (excO C hp.objs.size)).get? (hp.objs.size + 1) = some (excO C hp.objs.size) := by heap_get
  have self1 : (Value.ref C :: bm).contains (.ref C) = true := by simp
  unfold isInstance
  repeat (first | with_reducible refine wpAny_loadPart_at new1 ?_ | (with_reducible refine wpAny_isSubtype_exc at1 ?_; rw [self1]) | wp_step)
  show wpAny _ _ (typeLookup (.ref C) _) _ _ _
  refine (li.keeps old).at (wpAny_holding (wpAny_bind (((lb (.ref (hp.objs.size + 1))).keeps old).at (wpAny_bind (wpAny_call (codeAny_mono k fun r s' z => ?_))))))
  rcases r with e | (v | _ | _ | _) <;> first | exact z | exact z.elim | skip
  obtain ⟨rfl, z⟩ := z
  first | exact wpAny_pure (wpAny_pure z) | (wp_walk; exact z)
theorem own2 (L : ExcBaseFacts B newI oldI bB) (T : Tl B D bm) {fI : Addr} (at' : hp.get? C = some (excClassObj nm q C N bs bm hdct sn sub ab col dd k0 k1 k2 k3 k5 newI))
    (li : W.Looks (model prog w) hp (typeLookup (.ref C) "__init__") (some (.ref fI))) (lb : ∀ z, W.Looks (model prog w) hp (bindSpecial (.ref fI) z) (.ref fI, [z])) (hl : rest.length ≤ sizeLine)
    (k : codeAny (model prog w) (A.under (.builtin "type.__call__" ⟨.ref C :: rest, []⟩)) (.call (.ref fI) ⟨.ref (hp.objs.size + 1) :: rest, []⟩) (W.InitBack (hp.objs.size + 1) R)
      ⟨(hp.push (W.kdv_tup rest)).push (excO C hp.objs.size), g, dr, tk, os⟩) : codeAny (model prog w) A (.call (.ref C) ⟨rest, []⟩) R ⟨hp, g, dr, tk, os⟩ := by
  have c1 := tc_lookup
  have c2 := tc_bind (.ref C)
  have c3 : (⟨hp, g, dr, tk, os⟩ : Shared).TypeIs (.ref C) "type" := ⟨_, at', rfl⟩
  refine codeAny_of_tree (show wpAny _ _ (callAny (.ref C) _) _ _ _ from ?_)
  repeat (any_goals (first | assumption | with_reducible refine wpAny_loadPart_at at' ?_ | wp_step))
  refine ⟨rfl, ?_⟩
  refine codeAny_call_builtin_at (Code.quiet_builtin _ (by decide +kernel)) entry_typeCall (wpAny_check_type_call_sub at' (tcall2 L T at' li lb hl (codeAny_mono k fun r s' z => ?_)))
  rcases r with e | (v | _ | _ | _) <;> exact z
/-- D.__init__(e, ..): the args are laid anew -/
theorem inib2 (J : IniB D iniI) (nst : (D != "*") = true) (T : Tl B D bm) {e t0 : Addr} (at' : hp.get? C = some (excClassObj nm q C N bs bm hdct sn sub ab col dd k0 k1 k2 k3 k5 newI)) (ae : hp.get? e = some (excO C t0)) (hl : rest.length ≤ sizeLine)
    (k : ∀ h' t1, (∀ b o, b ≠ e → hp.get? b = some o → h'.get? b = some o) → h'.get? e = some (excO C t1) → R (.ok (.ret .none)) ⟨h', g, dr, tk, os⟩) : codeAny (model prog w) A (.call (.builtin iniI) ⟨.ref e :: rest, []⟩) R ⟨hp, g, dr, tk, os⟩ := by
  refine codeAny_call_builtin J.slot.plain J.ent (ini_ok2 J nst T at' ae rfl ?_)
  wp_walk
  refine k _ hp.objs.size (fun b o hb ho => ?_) ?_
  · rw [Heap.get?_update_other _ _ hb.symm]
    exact Heap.get?_push_of_some _ ho
  · rw [Heap.get?_update_self _ (Heap.get?_push_of_some _ ae) rfl]
    rfl
end
end KX

set_option maxRecDepth 100000
set_option maxHeartbeats 4000000
/-! an own exception class right over KeyError, whose __init__ says KeyError.__init__(self, x) and then stores -/
namespace KY
open PySem PySem.Spec PyProof.Rows L2 KX
/-- what the library knows of the built-in class B, whose __new__ may be another class's -/
structure XB2 (B newI iniI : String) (tl : List Value) : Prop where
  sf : PySem.StoreFacts B tl "object.__setattr__" "object"
  j : IniB B iniI
  ns : (B != "*") = true
  mks : ∃ (LB oldI : String) (bB : List Value), PySem.ExcBaseFacts LB newI oldI bB ∧ Tl LB B tl
theorem XB2.tl {B newI iniI : String} {tl bm : List Value} (T : XB2 B newI iniI tl) (h : ∀ X : String, bm.contains (.type X) = tl.contains (.type X)) : ∃ (LB oldI : String) (bB : List Value), PySem.ExcBaseFacts LB newI oldI bB ∧ Tl LB B bm := by
  obtain ⟨LB, oldI, bB, L, t⟩ := T.mks
  exact ⟨LB, oldI, bB, L, by rw [h]; exact t.b, by rw [h]; exact t.d, by rw [h]; exact t.a, by rw [h]; exact t.n⟩
/-- what the written part says of the class at C -/
structure XC2 (K : PySem.W.Frag) (B newI iniI : String) (tl : List Value) (C : Addr) : Prop where
  b : XB2 B newI iniI tl
  ini : PySem.W.excInitIn K C tl newI = true
  ovr : PySem.W.excOver K C tl = true
  sa : PySem.W.findIn K (.ref C) "__setattr__" = some (some (.builtin "object.__setattr__"))
  hd : PySem.W.hasDictIn K C = true
  sub : PySem.W.subIn K (.ref C) (.type "BaseException") = some true
  ty : PySem.W.typeIn K (.ref C) = some (.type "type")
  kp : PySem.W.keepIn K (.ref C) = true
section
open PySem.W PySem.Calls PySem.HandSPX Builtin Builtin.ObjectAttr
variable {prog : Program} {w : World} {A : Around} {E : Value → Shared → Prop} {R : Result → Shared → Prop} {hp : Heap} {g : Array GenState} {d : Drawn} {t : Nat} {os : OsState}
/-- the first store into such an exception -/
theorem osa_first {K : PySem.W.Frag} {nm : Str} {tk : Tok} {v : Value} {x C : Addr} {fv : Array Value} {B newI iniI : String} {tl : List Value} (T : XC2 K B newI iniI tl C)
    (X : K.In hp) (hx : hp.get? x = some { cls := .ref C, data := .fields fv }) (ha : PySem.W.findIn K (.ref C) nm = some none)
    (done : ∀ h2 tk2 dx, (∀ b o, b ≠ x → hp.get? b = some o → h2.get? b = some o) → hp.objs.size ≤ dx → dx ≠ x → h2.get? x = some { cls := .ref C, dict := some dx, data := .fields fv } →
      h2.Ns1 dx (fun y => if y = nm then some v else none) → R (.ok (.ret .none)) ⟨h2, g, d, tk2, os⟩) :
    codeAny (model prog w) A (.call (.builtin "object.__setattr__") ⟨[.ref x, .str nm tk, v], []⟩) R ⟨hp, g, d, t, os⟩ := by
  have tkr : PySem.W.takerIn K C nm = some none := by unfold PySem.W.takerIn; rw [ha]; rfl
  refine PySem.W.osa_openX (s := ⟨hp, g, d, t, os⟩) (od := none) T.b.sf X ⟨hx, rfl, rfl, trivial⟩ T.ovr tkr fun b => ?_
  obtain ⟨cd, hc, hdd⟩ := PySem.W.any_some T.hd
  have hcls : PySem.W.Looks (model prog w) hp (classData C) cd := PySem.W.looks_clsIn X hc
  have far : x ≠ hp.objs.size := Nat.ne_of_lt (Heap.lt_size hx)
  obtain ⟨nm', bs, mro, ns, qn, hd', sn, sb, ab, col, del⟩ := cd
  dsimp only at hdd
  subst hdd
  dsimp only
  unfold storeInOwnDict ownDictForStores
  repeat (first | with_reducible refine store_in_new ?_ ?_ | with_reducible refine wpAny_loadPart_at hx ?_ | with_reducible refine hcls.at ?_ | wp_step)
  · exact ⟨_, #[], _, (Heap.get?_update_ne _ _ _ _ far.symm).trans (Heap.get?_push_at rfl rfl), rfl, fun e he => absurd he (by simp), fun _ => rfl⟩
  · intro h2 tk2 hn2 hs
    have hx1 : (hp.push { cls := .type "dict", data := .dict #[] }).get? x = some { cls := .ref C, data := .fields fv } := Heap.get?_push_of_some _ hx
    refine done h2 tk2 hp.objs.size (fun b o hb ho => ?_) (Nat.le_refl _) far.symm ?_ hn2
    · have z := Heap.get?_push_of_some { cls := .type "dict", data := .dict #[] } ho
      exact (hs.2 b (Nat.ne_of_lt (Heap.lt_size ho))).trans ((Heap.get?_update_ne _ _ _ _ hb).trans z)
    · have z := Heap.get?_update_self (fun o => { o with dict := some hp.objs.size }) hx1 rfl
      exact (hs.2 x far).trans z
end
section
variable {X : Cx} {pins : List (Addr × Obj)} {σ : L2.St} {H : Hp} {s : Shared} {a C dx : Addr} {f : Str} {y : V} {u : Value} {E : Value → Shared → Prop} {A : Around} {B newI iniI : String} {tl : List Value}
/-- self.f = y, the first store -/
theorem store_first {Q : Unit → Shared → Prop} (T : XC2 X.K B newI iniI tl C) (I : Inv X pins σ H s) (e : H a = some (exo a C none)) (hno : PySem.W.findIn X.K (.ref C) f = some none) (ry : RelV y u)
    (go : ∀ dx s2, H dx = none → dx ≠ a → Inv X pins σ (upd (upd H dx (exd dx [(f, y)])) a (exo a C (some dx))) s2 → Q () s2) :
    wpAny (model X.prog X.w) A (setAttr (.ref a) f u) Q E s := by
  obtain ⟨t1, ho⟩ := exo_at I.hok e
  obtain ⟨hp, g, d, t, os⟩ := s
  refine PySem.W.set_plain I.kIn (ox := { cls := .ref C, dict := none, data := .fields #[.ref t1, .none, .none, .none, .bool false, .none] })
    (od := none) ⟨ho, rfl, rfl, trivial⟩ T.sa (osa_first T I.kIn ho hno (fun h2 tk2 dx k dn dne hx hn => ?_))
  have hnd : H dx = none := I.hok.fresh dn
  have new : ∀ {b : Addr} {o : Obj}, hp.get? b = some o → b ≠ dx := fun {b o} q => Nat.ne_of_lt (Nat.lt_of_lt_of_le (Heap.lt_size q) dn)
  have notA : ∀ {b : Addr}, H b = none → b ≠ a := fun {b} n z => by
    rw [z, e] at n
    cases n
  have U : Un X.fs [] H (upd (upd H dx (exd dx [(f, y)])) a (exo a C (some dx))) hp h2 := {
    keep := fun b o q n _ _ => k b o (notA n) q
    slot := fun b o q n _ _ => ⟨o.slots, k b o (notA n) q⟩
    free := fun b o q n _ => by rw [upd_ne (notA n), upd_ne (new q)]; exact n
    there := fun b o q _ => by
      by_cases hb : b = a
      · exact ⟨_, by rw [hb]; exact hx⟩
      · exact ⟨o, k b o hb q⟩
    tups := fun b xs q => by rw [upd_ne (at_ne e q exo_tup), upd_ne (ne_of_none q hnd)]; exact q
    frzs := fun b o v q => by rw [upd_ne (at_ne e q exo_frz), upd_ne (ne_of_none q hnd)]; exact q
    tbls := fun b ps q => ⟨#[], by rw [upd_ne (at_ne e q exo_tbl), upd_ne (ne_of_none q hnd), q]; simp⟩ }
  refine go dx _ hnd dne (I.un (t' := tk2) U fun b o q => ?_)
  by_cases hb : b = a
  · subst hb
    rw [upd_same] at q
    cases q
    exact exo_ok hx
  · rw [upd_ne hb] at q
    by_cases hd : b = dx
    · subst hd
      rw [upd_same] at q
      cases q
      exact exd_ok hn (relO_put (fs := []) ry fun g => True.intro)
    · rw [upd_ne hd] at q
      refine (I.hok b o q).stay (fun c v hc z => k c v ?_ z) (fun c hc => ?_) (fun c xs hc => ?_)
      · rcases hc with hc | hc
        · rw [hc]
          exact hb
        · exact at_ne e hc exo_own
      · rw [upd_ne (at_ne e hc exo_own), upd_ne (ne_of_none hc hnd)]
        exact hc
      · rw [upd_ne (at_ne e hc exo_tup), upd_ne (ne_of_none hc hnd)]
        exact hc
/-- B.__init__(self, ..): nothing of it is told -/
theorem init_told {us : List Value} {Q : Value → Shared → Prop} (T : XC2 X.K B newI iniI tl C) (I : Inv X pins σ H s) (e : H a = some (exo a C none)) (hl : us.length ≤ sizeLine) (go : ∀ s2, Inv X pins σ H s2 → Q .none s2) :
    wpAny (model X.prog X.w) A (call (.builtin iniI) (.ref a :: us)) Q E s := by
  obtain ⟨nm, N, qn, bs, bm, hdct, sn, sub, ab, col, dd, k0, k1, k2, k3, k5, hC, hT⟩ := PySem.W.excInit_of I.kIn T.ini
  obtain ⟨t1, ho⟩ := exo_at I.hok e
  obtain ⟨hp, g, d, t, os⟩ := s
  obtain ⟨LB, oldI, bB, L, tlb⟩ := T.b.tl hT
  refine wpAny_call (inib2 T.b.j T.b.ns tlb hC ho hl fun h2 t2 k hx => go _ ?_)
  have J := I.write (t' := t) (x := a) (e := a) (o := exo a C none) (by rw [e]; exact True.intro) (.inl rfl) k ⟨_, hx⟩ (exo_ok hx)
  have same : upd H a (exo a C none) = H := by
    funext b
    by_cases hb : b = a
    · rw [hb, upd_same, e]
    · rw [upd_ne hb]
  rw [same] at J
  exact J
end
/-- B.__init__(self, ..) -/
def tBini (K : PySem.W.Frag) (B newI iniI : String) (tl : List Value) (ta : TA) : TE := fun σ H Q => ta σ H fun vs H1 =>
  ∃ (a C : Addr) (ws : List V), vs = .ref a :: ws ∧ ws.length ≤ 1000 ∧ XC2 K B newI iniI tl C ∧ H1 a = some (exo a C none) ∧ Q .non H1
/-- self.f = e, the first store -/
def tFst (K : PySem.W.Frag) (B newI iniI : String) (tl : List Value) (f : Str) (to te : TE) : TS := fun D σ H => te σ H fun y H1 => to σ H1 fun x H2 =>
  ∃ a C : Addr, x = .ref a ∧ XC2 K B newI iniI tl C ∧ PySem.W.findIn K (.ref C) f = some none ∧ H2 a = some (exo a C none) ∧
    ∀ dx, H2 dx = none → dx ≠ a → D.nx σ (upd (upd H2 dx (exd dx [(f, y)])) a (exo a C (some dx)))
section
variable {X : Cx} {o e : Expr} {es : List Expr} {to te : TE} {ta : TA} {f : Str} {p p' p1 p2 pos : Pos} {B newI iniI : String} {tl : List Value}
theorem ps_fst (ho : PE X o to) (he : PE X e te) (hs : swapsWith e (some (.Attribute o f p')) pos.line X.env = pure false := by rfl) : PS X (.Assign [.Attribute o f p'] e pos) (tFst X.K B newI iniI tl f to te) := by
  refine ⟨fun pins s σ H D I h => ?_⟩
  refine plainObj_wpAny_Assign_Attribute (thn (he.run pins s σ H _ I h) fun v s1 z1 => ?_) hs
  obtain ⟨y, H1, I1, r1, q1⟩ := z1
  refine thn (ho.run pins s1 σ H1 _ I1 q1) fun u s2 z2 => ?_
  obtain ⟨x, H2, I2, r2, a, C, ex, T, hno, ea, q⟩ := z2
  subst ex
  obtain rfl : u = Value.ref a := r2
  exact store_first T I2 ea hno r1 fun dx s3 n ne J => ⟨σ, _, J, q dx n ne⟩
theorem pe_bini {pl : Sem Bool} (hg : Gl X "KeyError") (hm : X.mg "KeyError" = none) (vV : PySem.W.findCls X.K (.type "KeyError") (.type "type") "__init__" = some (.val (.builtin "KeyError.__init__"))) (ha : PA X (e :: es) ta)
    (hc : eval (.Call (.Attribute (.Name "KeyError" p1) "__init__" p2) (e :: es) [] pos) X.env = (do
      let cv ← eval (.Name "KeyError" p1) X.env
      standAt p2.atName
      let (fn, ahead) ← holding [cv] (getMethod cv "__init__" pl)
      callWith pos fn ahead (backTo pos (starEach (e :: es) X.env)) (backToKw pos (keywordEach [] X.env))) := by rfl)
    (he : starEach (e :: es) X.env = (false, eval e X.env) :: starEach es X.env := by rfl) (hpl : (backTo pos (starEach es X.env)).any (·.1) = false := by rfl) :
    PE X (.Call (.Attribute (.Name "KeyError" p1) "__init__" p2) (e :: es) [] pos) (tBini X.K "KeyError" newI "KeyError.__init__" tl ta) := by
  refine ⟨fun pins s σ H Q I h => ?_⟩
  have ty : typeOf (.type "KeyError") = pure (.type "type") := by kernel_rfl
  refine PySem.W.methodCall_KW (ld_blt I hg hm PyProof.Rows.Boot.«KeyError» ?_ (by decide) (by decide)) hc
  obtain ⟨m, fr⟩ := I.fr
  refine PySem.W.method_type fr I.ok.mod.kin ty (by decide +kernel) vV (by decide +kernel) ?_
  show wpAny _ _ (callWith pos (Value.builtin "KeyError.__init__") [] (backTo pos (starEach (e :: es) X.env)) []) _ _ _
  refine PyProof.Rows.callWith_method1 (thn (ha.run pos pins _ σ H _ (I.tok _) h) fun us s1 z => ?_) he hpl
  obtain ⟨vs, H1, I1, r1, a, C, ws, ev, hl, T, ea, q⟩ := z
  subst ev
  cases r1 with
  | @cons _ u0 _ ur ra rw' =>
    obtain rfl : u0 = Value.ref a := ra
    have hlen : ur.length ≤ sizeLine := by
      rw [← Paired.length rw', sizeLine_eq]
      omega
    exact init_told T I1 ea hlen fun s2 J => ⟨.non, H1, J, rfl, q⟩
/-- C(e, ..) -/
theorem pmk_x {CX : CXT} {x : Str} {C fI : Addr} {k : Nat} {fd : FuncData} {ps : List Str} {sp : Sp} (T : XC2 X.K B newI iniI tl C) (iC : PySem.W.findIn X.K (.ref C) "__init__" = some (some (.ref fI)))
    (tI : PySem.W.typeIn X.K (.ref fI) = some (.type "function")) (F1 : FnOk X.prog X.w X.K X.mg X.base CX k fI fd ps sp) (hr : Room (k + 1) X.A) (hb : Binds X.K fd ps []) (hx : Passes CX X (fun _ _ _ => False)) (hg : Gl X x)
    (hm : X.mg x = some (.ref C)) (ha : PA X (e :: es) ta) (hdb : (x == ("__debug__" : Str)) = false := by decide) (he : starEach (e :: es) X.env = (false, eval e X.env) :: starEach es X.env := by rfl)
    (hpl : (backTo pos (starEach es X.env)).any (·.1) = false := by rfl) : PMk X (.Call (.Name x p) (e :: es) [] pos) (tMkO C sp [] ta) := by
  intro pins s σ H Q I h
  obtain ⟨nm, N, qn, bs, bm, hdct, sn, sub, ab, col, dd, k0, k1, k2, k3, k5, hC, hT⟩ := PySem.W.excInit_of I.kIn T.ini
  refine wpAny_Call_Name_kw (ld_glob I hg hm ?_ hdb)
  refine PySem.W.callWith_K (h₀ := X.base) I.ok.mod.kin T.kp (thn (ha.run pos pins s σ H _ I h) fun us s1 z => ?_) he hpl
  obtain ⟨vs, H1, I1, r1, hz, q1⟩ := z
  have X1 := I1.kIn
  refine ⟨X1, ?_⟩
  obtain ⟨nm, N, qn, bs, bm, hdct, sn, sub, ab, col, dd, k0, k1, k2, k3, k5, hC, hT⟩ := PySem.W.excInit_of X1 T.ini
  show wpAny _ _ (call (.ref C) us) _ _ _
  obtain ⟨hp, g, dr, tk, os⟩ := s1
  have up : hp.objs.size ≤ hp.objs.size + 1 := Nat.le_succ _
  have hq := q1 (hp.objs.size + 1) (I1.hok.fresh up)
  have kk : ∀ b o, hp.get? b = some o → ((hp.push (PySem.W.kdv_tup us)).push (PySem.HandSPX.excO C hp.objs.size)).get? b = some o :=
    fun b o e => Heap.get?_push_of_some _ (Heap.get?_push_of_some _ e)
  have hget : ((hp.push (PySem.W.kdv_tup us)).push (PySem.HandSPX.excO C hp.objs.size)).get? (hp.objs.size + 1) = some (PySem.HandSPX.excO C hp.objs.size) := by heap_get
  have I2 : Inv X pins σ (upd H1 (hp.objs.size + 1) (exo (hp.objs.size + 1) C none)) ⟨(hp.push (PySem.W.kdv_tup us)).push (PySem.HandSPX.excO C hp.objs.size), g, dr, tk, os⟩ :=
    I1.laid (t' := tk) (a := hp.objs.size + 1) (o := exo (hp.objs.size + 1) C none) (h' := (hp.push (PySem.W.kdv_tup us)).push (PySem.HandSPX.excO C hp.objs.size)) kk up (exo_ok hget)
  have r2 : Vals (V.ref (hp.objs.size + 1) :: (vs ++ [])) (Value.ref (hp.objs.size + 1) :: us) := .cons rfl (by rw [List.append_nil]; exact r1)
  have hl : (Value.ref (hp.objs.size + 1) :: us).length = ps.length := by
    rw [← r2.length]
    exact F1.len _ _ _ _ hq
  have hus : us.length ≤ sizeLine := by
    rw [← Paired.length r1, sizeLine_eq]
    omega
  have hbd := hb ⟨(hp.push (PySem.W.kdv_tup us)).push (PySem.HandSPX.excO C hp.objs.size), g, dr, tk, os⟩ (Value.ref (hp.objs.size + 1) :: us) I2.kIn (by rw [List.append_nil]; exact hl)
  rw [List.append_nil] at hbd
  have go := F1.run _ X.stack _ _ ⟨Value.ref (hp.objs.size + 1) :: us, []⟩ (Value.ref (hp.objs.size + 1) :: us) _ _ (fun _ _ _ => False) (hr.make C us []) (I2.env0.make C us []) hbd r2 hq
  obtain ⟨LB, oldI, bB, L, tlb⟩ := T.b.tl hT
  refine wpAny_call (own2 L tlb hC (PySem.W.looks_findIn X1 iC) (fun self => PySem.W.bind_fn X1 self tI) hus (codeAny_mono go fun r s2 z => ?_))
  cases r with
  | error er => exact hx pins σ _ _ er s2 I2 z
  | ok fl =>
    cases fl with
    | ret u =>
      obtain ⟨v, H2, os2, bare2, un2, hok2, rv, ev, d, fs, ea, ed, hd1, q2⟩ := z
      subst ev
      obtain ⟨h2, g2, d2, t2, os'⟩ := s2
      exact ⟨rv, mk_end (raises_own T.sub T.ty) I1 up kk un2 hok2 os2 bare2 ea ed hd1 q2⟩
    | next => exact False.elim z
    | brk => exact False.elim z
    | cont => exact False.elim z
end
theorem kyB : XB2 "KeyError" "LookupError.__new__" "KeyError.__init__" kyTl := ⟨kyStore, kyIni, by decide +kernel, _, _, _, PySem.F.excBase_LookupError, by decide +kernel, by decide +kernel, by decide +kernel, by decide +kernel⟩
end KY

set_option maxRecDepth 100000
set_option maxHeartbeats 2000000
open PySem PySem.Spec PyProof.Rows L2 KX
/-! ### a method of a made tuple: its object is remembered -/
namespace KX
section
variable {X : Cx}
/-- tuple(list): a new tuple, whose object has no dict -/
theorem call_tupleF : CallR X (.type "tuple") (fun xs H Q => ∃ p ys, xs = [.ref p] ∧ SqL X.K H p ys ∧ ∀ l o, H l = none → o.cls = .type "tuple" → o.dict = none → Q (.ref l) (upd H l (.frz o (.tup ys)))) := by
  intro pins s σ H xs us Q I r h
  obtain ⟨p, ys, rfl, hq, q⟩ := h
  obtain ⟨u, rfl, rx⟩ := vals1 r
  cases rx
  obtain ⟨its, rv, pl, hz⟩ := I.list hq
  have hn := rv.length
  refine call_tuple_list pl.isList (fun hp2 kp => ?_) (by simp only [List.size_toArray] <;> omega)
  have J : Inv X pins σ H { s with heap := hp2 } := I.kept (t' := s.toks) kp
  have J2 : Inv X pins σ (upd H hp2.objs.size (.frz { cls := .type "tuple", data := .seq its.toArray } (.tup ys))) { s with heap := hp2.push { cls := .type "tuple", data := .seq its.toArray } } :=
    J.laid (t' := s.toks) (fun b o e => Heap.get?_push_of_some _ e) (Nat.le_refl _) (show ObjOk X.prog X.w _ _ _ (.frz _ (.tup ys)) from ⟨Heap.get?_push_size _ rfl, hz, its, rv, IsTup.new _ _⟩)
  exact ⟨.ref hp2.objs.size, _, J2, rfl, q _ _ (J.hok.fresh (Nat.le_refl _)) rfl rfl⟩
def tBMF (T : String) (r : V → List V → Hp → VK → Prop) (to : TE) (t : TA) : TE := fun σ H Q => to σ H fun x H1 => (∃ p o u, x = .ref p ∧ H1 p = some (.frz o u) ∧ o.cls = .type T ∧ o.dict = none) ∧ t σ H1 fun xs H2 => r x xs H2 Q
variable {o e : Expr} {es : List Expr} {to : TE} {t : TA} {name : Str} {apos cpos : Pos} {T id : String} {r : V → List V → Hp → VK → Prop}
theorem pe_bmF (pa : PlainAttrs T) (slot : Slot T name id) (hty : typeOf (.builtin id) = pure (.type "method_descriptor")) (hm : MtR X id r) (ho : PE X o to) (ha : PA X (e :: es) t)
    (hbase : attributeBase o name X.env (eval o X.env) = eval o X.env := by rfl)
    (hfew : ((backTo cpos (starEach (e :: es) X.env)).all (fun x => !x.1) && (backToKw cpos (keywordEach [] X.env)).all (fun x => x.1.isSome)
      && decide ((e :: es).length + ([] : List Keyword).length + (if ([] : List Keyword).isEmpty then 0 else 1) < 30)) = true := by rfl)
    (hline : (apos.endLine == cpos.line) = true := by rfl) (hs : starEach (e :: es) X.env = (false, eval e X.env) :: starEach es X.env := by rfl) (hplain : (backTo cpos (starEach es X.env)).any (·.1) = false := by rfl) :
    PE X (.Call (.Attribute o name apos) (e :: es) [] cpos) (tBMF T r to t) := by
  refine ⟨fun pins s σ H Q I h => ?_⟩
  refine wpAny_Call_method_late hbase hfew hline rfl (thn (ho.run pins s σ H _ I h) fun v s1 ⟨x, H1, I1, r1, ty, q1⟩ => ?_)
  obtain ⟨p, ob, u, rfl, ef, hc, hd⟩ := ty
  cases r1
  obtain ⟨eg, _⟩ := (show ObjOk X.prog X.w H1 s1.heap p (.frz ob u) from I1.hok p _ ef)
  refine ⟨T, id, pa, slot, hty, ⟨ob, eg, hc⟩, fun a e => ?_, ?_⟩
  · cases e
    exact ⟨ob, eg, hd⟩
  · have hA := ha.run cpos pins s1 σ H1 _ I1 q1
    rw [hs] at hA ⊢
    refine Calls.callWith_builtin (by show (false || (backTo cpos (starEach es X.env)).any (·.1)) = false; rw [hplain] <;> rfl) (Calls.evalArgs_plain ?_)
    exact thn hA fun us s2 ⟨vs, H2, I2, r2, q2⟩ => hm pins s2 σ H2 (.ref p) vs (.ref p) us Q I2 rfl r2 q2
end
end KX

set_option maxRecDepth 100000
set_option maxHeartbeats 2000000
namespace KX
open PySem PySem.Spec PyProof.Rows L2 RZ
inductive MixD (X : Cx) : List ExceptHandler → List Cls → Prop
  | nil : MixD X [] []
  | dead {hds : List ExceptHandler} : MixD X hds []
  | plain {x : Str} {c : Value} {ts : Addr → Value → Option Addr → TS} {b0 : Stmt} {bs : List Stmt} {p1 p2 : Pos} {hds : List ExceptHandler} {l : List Cls} (hc : Names X x c)
      (hb : ∀ (a : Addr) (oe : Obj) (cls : Value) (d : Option Addr) (pn : List (Addr × Obj)), Zc cls d oe → (∃ vs, oe.data = .fields vs) → PSs (X.suite a ((a, oe) :: pn)) (b0 :: bs) (ts a cls d)) (r : MixD X hds l) :
      MixD X (.ExceptHandler (some (.Name x p1)) none (b0 :: bs) p2 :: hds) (⟨c, none, ts⟩ :: l)
  | named {x n : Str} {i : Nat} {c : Value} {ts : Addr → Value → Option Addr → TS} {b0 : Stmt} {bs : List Stmt} {p1 p2 : Pos} {hds : List ExceptHandler} {l : List Cls} (hi : X.N[i]? = some n) (hn : X.env.kindOf n = some .local) (hc : Names X x c)
      (hb : ∀ (a : Addr) (oe : Obj) (cls : Value) (d : Option Addr) (pn : List (Addr × Obj)), Zc cls d oe → (∃ vs, oe.data = .fields vs) → PSs (X.suite a ((a, oe) :: pn)) (b0 :: bs) (ts a cls d)) (r : MixD X hds l) :
      MixD X (.ExceptHandler (some (.Name x p1)) (some n) (b0 :: bs) p2 :: hds) (⟨c, some i, ts⟩ :: l)
section
variable {X : Cx} {body : List Stmt} {hd0 : ExceptHandler} {hds : List ExceptHandler} {l : List Cls} {pos : Pos} {tb : WX → TS} {Wo : WX}
theorem ps_try_mixD (hs : X.stack = X.env :: X.outer) (hf : X.env.frame = some X.env.locals) (nd : X.N.Nodup) (tk : Takes X Wo) (hWo : ∀ cls d σ G, ¬ Wo cls d σ G)
    (hb : ∀ (W : WX) (pn : List (Addr × Obj)) (xe : Value → Shared → Prop), Takes (X.tr pn xe) W → PassesOwn (model X.prog X.w) X.A X.env xe → PSs (X.tr pn xe) body (tb W))
    (hh : MixD X (hd0 :: hds) l) : PS X (.Try body (hd0 :: hds) [] [] pos) (fun D σ G => tb (wMix X.K Wo D l) D σ G) := by
  refine ⟨fun pins s σ G D I h => wpAny_Try_except ?_⟩
  have ok := I.ok
  have frm : X.A.frames = some (X.env :: X.outer) := ok.frames.trans (by rw [hs])
  refine wpAny_mono ((hb (wMix X.K Wo D l) (X.pn ++ pins) (fun e t1 => wpAny (model X.prog X.w) X.A (noteFrame e X.env) (fun _ t2 => wpAny (model X.prog X.w) X.A (setFlight e none) (fun _ t3 =>
    wpAny (model X.prog X.w) X.A (handleBy e X.env (hd0 :: hds)) (SP X pins D) X.xe t3) X.xe t2) X.xe t1) (fun u s1 caught => ?_) PassesOwn.looking).run [] s σ G D (I.toTry _) h) (fun fl s1 fin => ?_) (fun _ _ z => z)
  · obtain ⟨ea, B0, sI, pins1, σ1, G1, cls, d, rfl, IT, nb, up, sky, na, os, ag, wish⟩ := caught
    have I1 : Inv X pins σ1 G1 sI := IT.ofTry ok
    refine Sky.land Zc.steady frm hf (show Sky B0 (X.env :: X.outer) ea (Zc cls d) X.env.locals s1.heap by rw [← hs]; exact sky) fun h3 lands up3 => ?_
    have I3 : Inv X pins σ1 G1 { s1 with heap := h3 } := I1.landed nb lands.1 (up.trans up3) os ag
    obtain ⟨oe3, fv3, at3, z3, dat3⟩ := lands.there
    have off : ea ∉ frs (X.env :: X.outer) := fun hm => by
      obtain ⟨_, o1, e1, nf⟩ := lands.2.2.1.mem hm
      rw [at3] at e1
      cases e1
      exact nf _ dat3
    have offL : ea ≠ X.env.locals := fun z => off (List.mem_filterMap.mpr ⟨X.env, List.mem_cons_self, by rw [hf, z]⟩)
    have offF : ea ∉ X.fs := fun hm => by
      obtain ⟨en, hen, q⟩ := List.mem_filterMap.mp hm
      exact off (List.mem_filterMap.mpr ⟨en, List.mem_cons_of_mem _ hen, q⟩)
    have S3 := I3.suite at3 dat3 na offL offF
    have looks : PySem.W.Looks (model X.prog X.w) h3 (typeOf (.ref ea)) cls := fun A Q E t k q => wpAny_typeOf_ref (k _ _ at3) (by rw [z3.1]; exact q)
    have reads : ∀ {x : Str} {c : Value} {p1 : Pos} {Q : Value → Shared → Prop} {E : Value → Shared → Prop}, Names X x c → Q c { s1 with heap := h3 } → wpAny (model X.prog X.w) (X.A.mark (some (.ref ea))) (eval (.Name x p1) X.env) Q E { s1 with heap := h3 } := fun {x c p1 Q E} hc q => by
      obtain ⟨hg, hdb, hm | ⟨hm, hv, hnn⟩⟩ := hc
      · exact ld_glob (X := X.suite ea ((ea, oe3) :: (X.pn ++ pins))) S3 hg hm q hdb
      · exact ld_blt (X := X.suite ea ((ea, oe3) :: (X.pn ++ pins))) S3 hg hm hv q hnn hdb
    have each : ∀ {hl : List ExceptHandler} {cl : List Cls}, MixD X hl cl → wMix X.K Wo D cl cls d σ1 G1 → wpAny (model X.prog X.w) X.A (handleBy (.ref ea) X.env hl) (SP X pins D) X.xe { s1 with heap := h3 } := by
      intro hl cl mk
      induction mk with
      | dead =>
        intro wo
        exact absurd wo (hWo _ _ _ _)
      | nil =>
        intro wo
        refine wpAny_handleBy_nil ?_
        obtain ⟨_, _, _, ox, fx, T, _, _, atx, _, datx, tl1, _⟩ := id lands
        unfold PySem.passOn
        refine wpAny_bind (wpAny_field atx datx tl1 ?_)
        rw [if_neg (by simp)]
        have out : wpAny (model X.prog X.w) X.A (setFlight (.ref ea) X.env.frame) (fun _ t4 => wpAny (model X.prog X.w) X.A (throw (.ref ea) : Sem Flow) (SP X pins D) X.xe t4) X.xe { s1 with heap := h3 } := by
          rw [hf]
          refine HandSPX.setFlight_upZ lands fun h4 hx4 up4 => wpAny_throw (tk _ _ ⟨ea, B0, sI, pins, σ1, G1, cls, d, rfl, I1, nb, (up.trans up3).trans up4, .inr (.inr (by rw [hs]; exact hx4)), na, os, ag, wo⟩)
        first | exact wpAny_bind (wpAny_pure (wpAny_bind out)) | exact wpAny_bind out
      | @plain x c ts b0 bs p1 p2 hds2 l2 hc hb r ih =>
        intro wq
        obtain ⟨b, e1, yes, no⟩ := wq
        refine wpAny_handleBy_cons (codeAny_handlers_test (reads hc ((PySem.W.exm_one (M := model X.prog X.w) I3.kIn looks e1).here ?_))) (by intro q; cases q)
        cases b with
        | false => exact ih (no rfl)
        | true =>
          refine codeAny_handlers_suite (HandSPX.lands_againZ lands fun h4 lands4 up4 => ?_)
          obtain ⟨oe4, fv4, at4, z4, dat4⟩ := lands4.there
          have I4 : Inv X pins σ1 G1 { s1 with heap := h4 } := I1.landed nb lands4.1 ((up.trans up3).trans up4) os ag
          refine wpAny_mono ((hb ea oe4 cls d (X.pn ++ pins) z4 ⟨_, dat4⟩).run [] _ _ G1 _ (I4.suite at4 dat4 na offL offF) (yes rfl ea na)) (fun fl t6 fin => ?_) (fun _ _ z => z.elim)
          cases fl with
          | ret u =>
            obtain ⟨v6, σ6, G6, S6, r6, q6⟩ := fin
            exact ⟨v6, σ6, G6, S6.unsuite ok, r6, q6⟩
          | _ =>
            obtain ⟨σ6, G6, S6, q6⟩ := fin
            exact ⟨σ6, G6, S6.unsuite ok, q6⟩
      | @named x n i c ts b0 bs p1 p2 hds2 l2 hi hn hc hb r ih =>
        intro wq
        obtain ⟨b, e1, yes, no⟩ := wq
        refine wpAny_handleBy_cons (codeAny_handlers_test (reads hc ((PySem.W.exm_one (M := model X.prog X.w) I3.kIn looks e1).here ?_))) (by intro q; cases q)
        cases b with
        | false => exact ih (no rfl)
        | true =>
          refine codeAny_handlers_suite_as (HandSPX.lands_againZ lands fun h4 lands4 up4 => ?_)
          obtain ⟨oe4, fv4, at4, z4, dat4⟩ := lands4.there
          have I4 : Inv X pins σ1 G1 { s1 with heap := h4 } := I1.landed nb lands4.1 ((up.trans up3).trans up4) os ag
          refine store_ok (X := X.suite ea ((ea, oe4) :: (X.pn ++ pins))) (v := .ref ea) (I4.suite at4 dat4 na offL offF) nd hi (.inl hn) rfl (fun t5 S5 => ?_) (.inr hn)
          refine wpAny_mono ((hb ea oe4 cls d (X.pn ++ pins) z4 ⟨_, dat4⟩).run [] t5 _ G1 _ S5 (yes rfl ea na)) (fun fl t6 fin => ?_) (fun _ _ z => z.elim)
          have gone : ∀ {σ6 : L2.St} {G6 : Hp} {R : Shared → Prop}, Inv (X.suite ea ((ea, oe4) :: (X.pn ++ pins))) [] σ6 G6 t6 → (∀ t7, Inv X pins (σ6.set i none) G6 t7 → R t7) →
              wpAny (model X.prog X.w) X.A (do bindName X.env n .none; unbindBehindTheSuite X.env n p2) (fun _ t7 => R t7) X.xe t6 := fun {σ6 G6 R} S6 k => gone_ok (S6.unsuite ok) nd hi hn k
          cases fl with
          | ret u =>
            obtain ⟨v6, σ6, G6, S6, r6, q6⟩ := fin
            exact gone S6 fun t7 I7 => ⟨v6, _, _, I7, r6, q6⟩
          | _ =>
            obtain ⟨σ6, G6, S6, q6⟩ := fin
            exact gone S6 fun t7 I7 => ⟨_, _, I7, q6⟩
    exact each hh wish
  · cases fl with
    | next =>
      obtain ⟨σ6, G6, I6, q6⟩ := fin
      exact wpAny_execs_nil ⟨σ6, G6, I6.ofTry ok, q6⟩
    | ret u =>
      obtain ⟨v6, σ6, G6, I6, r6, q6⟩ := fin
      exact ⟨v6, σ6, G6, I6.ofTry ok, r6, q6⟩
    | _ =>
      obtain ⟨σ6, G6, I6, q6⟩ := fin
      exact ⟨σ6, G6, I6.ofTry ok, q6⟩
end
/-! ### a lambda without parameters that captures names, handed to a def and called there -/
section
open LamX NdefX
variable {X : Cx} {pins : List (Addr × Obj)} {σ : L2.St} {H : Hp} {s : Shared}
/-- az(), in the def that got the lambda as az -/
theorem pe_act0 {CXg : CXT} {Eg : XK} {Nz : List Str} {qz : Str} {sz : Scope} {g fl cl : Addr} {cdz pmz ctz : Value} {q : Str} {pars : Arguments} {bd : Expr} {scp : Scope} {cs : List (Str × Addr)} {k : Nat} {az : Str} {pn : List (Addr × Obj)} {xe : Value → Shared → Prop} {W : WX} {tb : XK → TE} {p1 p2 : Pos} {N fr : List Str} {ws : List (Option V)}
    (S : NScope N [] fr scp) (C : CellsAt cs fr ws s.heap H) (hf : s.heap.get? fl = some (PySem.W.kla_obj "<lambda>" q pars bd scp cs pmz cl ctz)) (hfn : H fl = none) (hfr : fl ∉ frs X.stack)
    (hbind : bindArgs (PySem.W.kla_fn "<lambda>" q pars bd scp cs pmz (.ref cl) ctz) ⟨[], []⟩ = pure [])
    (tk : Takes ((cxOf CXg X.prog X.w X.K X.mg X.base Nz qz sz g cdz X.A X.stack s H Eg).tr pn xe) W) (hr : Room (k + 1) (X.A.deeper (envOfC qz sz s.heap.objs.size g cdz)))
    (hbody : ∀ (A : Around) (outer : List PySem.Env) (s : Shared) (H : Hp) (E : XK), Room k (A.deeper (envF (lamF q pars scp cs cl) fl s.heap.objs.size)) → PE (ncx (L2.CX X.prog X.w) X.prog X.w X.K X.mg X.base N (lamF q pars scp cs cl) fl A outer s H E) bd (tb E))
    (hN : Nz[0]? = some az) (hv : Vis sz az) (hd : (az == ("__debug__" : Str)) = false := by decide) (hcd : (az == ("__classdict__" : Str)) = false := by decide) :
    PE ((cxOf CXg X.prog X.w X.K X.mg X.base Nz qz sz g cdz X.A X.stack s H Eg).tr pn xe) (.Call (.Name az p1) [] [] p2)
      (fun σZ HZ Qy => σZ[0]? = some (some (.ref fl)) ∧ HZ cl = some (CodeO cl q) ∧ tb (fun cls d H' => W cls d σZ H') (startF N [] ws) HZ Qy) := by
  refine ⟨fun pinsZ sZ σZ HZ Qy IZ h => ?_⟩
  obtain ⟨hs, hc, hb⟩ := h
  refine wpAny_Call_Name_kw (thn ((pe_var (pos := p1) (i := 0) hN hv hd hcd).run pinsZ sZ σZ HZ (fun v H1 => v = .ref fl ∧ H1 = HZ) IZ ⟨.ref fl, hs, rfl, rfl⟩) fun u s1 ⟨v, H1, I1, r1, q1⟩ => ?_)
  obtain ⟨ev, eH⟩ := q1
  subst ev
  rw [eH] at I1
  obtain rfl : u = Value.ref fl := r1
  have of1 : s1.heap.get? fl = some (PySem.W.kla_obj "<lambda>" q pars bd scp cs pmz cl ctz) := I1.base.keep fl _ hf hfn hfr (fun z => nomatch (show fl ∈ ([] : List Addr) from z))
  refine PySem.W.callWith_F0 (first := []) ⟨_, _, _, _, of1⟩ ?_
  show wpAny _ _ (call (.ref fl) []) _ _ _
  have un : Un (frs X.stack) [] H HZ s.heap s1.heap := I1.base
  have rc : codeAny (model X.prog X.w) (X.A.deeper (envOfC qz sz s.heap.objs.size g cdz)) (.call (.ref fl) ⟨[], []⟩) (CR (L2.CX X.prog X.w) (envOfC qz sz s.heap.objs.size g cdz :: X.stack) X.prog X.w HZ s1 Qy (fun cls d H' => W cls d σZ H')) s1 :=
    lam_run (k := k) S hbind hr I1.env0 of1 hc (cells_later C un) .nil rfl (fun hr2 => hbody _ _ _ _ _ hr2) hb
  refine wpAny_call (codeAny_mono rc fun r s' hq => ?_)
  cases r with
  | error e => exact tk e s' (XE.of_call I1 (fun cls d H' h => h) hq)
  | ok fw =>
    cases fw with
    | ret u => exact I1.after hq
    | next => exact False.elim hq
    | brk => exact False.elim hq
    | cont => exact False.elim hq
/-- the def g (one parameter, called in it): TT is what it makes of the lambda's reading -/
def GivesR (X : Cx) (k : Nat) (Nz : List Str) (xg : Str) (sz : Scope) (g : Addr) (cdz : Value) (bz : List Stmt) (az : Str) (qz : Str) (TT : (XK → Hp → VK → Prop) → Hp → VK → Prop) : Prop :=
  ∀ (fl cl : Addr) (sz0 : Shared) (Hz : Hp) (Qz : VK) (tl : XK → Hp → VK → Prop), Room k (X.A.deeper (envOfC xg sz sz0.heap.objs.size g cdz)) →
    (∀ (W : WX) (pn : List (Addr × Obj)) (xe : Value → Shared → Prop) (p1 p2 : Pos), Takes ((cxOf C8.CX0 X.prog X.w X.K X.mg X.base Nz xg sz g cdz X.A X.stack sz0 Hz C8.E0).tr pn xe) W →
      PE ((cxOf C8.CX0 X.prog X.w X.K X.mg X.base Nz xg sz g cdz X.A X.stack sz0 Hz C8.E0).tr pn xe) (.Call (.Name az p1) [] [] p2) (fun σZ HZ Qy => σZ[0]? = some (some (.ref fl)) ∧ HZ cl = some (CodeO cl qz) ∧ tl (fun cls d H' => W cls d σZ H') HZ Qy)) →
    Hz cl = some (CodeO cl qz) → TT tl Hz Qz →
    ∃ t, PSs (cxOf C8.CX0 X.prog X.w X.K X.mg X.base Nz xg sz g cdz X.A X.stack sz0 Hz C8.E0).nox bz t ∧ t { nx := fun _ H' => Qz .non H', rt := Qz } (L2.start Nz [.ref fl]) Hz
def tLamR (T : List (Addr × Str)) (TT : (XK → Hp → VK → Prop) → Hp → VK → Prop) (t : XK → TE) (js : List Nat) (N : List Str) : TE := fun σ H Q => Tabs T H ∧ ∀ H1, ExtN H H1 → Tabs T H1 → TT (fun E H' Q' => t E (startF N [] (js.map (slotAt σ))) H' Q') H1 Q
/-- the call xg(lambda: bd) -/
theorem pe_lamR {T : List (Addr × Str)} {TT : (XK → Hp → VK → Prop) → Hp → VK → Prop} {xg az : Str} {g cc Pz : Addr} {k : Nat} {pz : Arguments} {bz : List Stmt} {sz : Scope} {dVz kVz docz pmz cdz ctz ocz : Value} {anz odz : Option Addr} {slz : Array (Option Value)} {Nz N fr : List Str} {js : List Nat}
    {pars : Arguments} {bd : Expr} {scp : Scope} {tz : XK → TE} {pp lp ps : Pos} (hg : Gl X xg) (hm : X.mg xg = some (.ref g)) (hkp : PySem.W.keepIn X.K (.ref g) = true)
    (lk : X.K.lookup g = some ⟨ocz, odz, .func (PySem.W.fnOf xg xg pz bz sz dVz kVz docz pmz anz cdz ctz), slz⟩) (hcz : PySem.W.codeIn X.K cdz xg = true) (hbz : L2.Binds X.K (PySem.W.fnOf xg xg pz bz sz dVz kVz docz pmz anz cdz ctz) [az] []) (Sz : FnScope Nz [az] sz) (hNz : Nz[0]? = some az) (hvz : Vis sz az)
    (hG : GivesR X (k + 1) Nz xg sz g cdz bz az (X.env.qual ++ "<lambda>") TT)
    (TB : TabB X.base X.mg cc Pz) (hcd : X.env.code = .ref cc) (hmT : (Pz, X.env.qual ++ "<lambda>") ∈ T) (hone : ∀ p ∈ T, p.1 = Pz → p.2 = X.env.qual ++ "<lambda>") (hr : Room (k + 2) X.A) (S : NScope N [] fr scp)
    (hfree : ∀ y ∈ scp.names, y.2 = .free → X.env.scope.names.lookup y.1 = some .cell ∨ X.env.scope.names.lookup y.1 = some .free) (hfr : ∀ y ∈ fr, (y, NameKind.free) ∈ scp.names) (hjs : js.map (fun j => X.N[j]?) = fr.map some)
    (hdef : defaultsOf pars X.env = ([], []))
    (hbind : ∀ (q : Str) (cl : List (Str × Addr)) (pm cv ctv : Value), bindArgs (PySem.W.kla_fn "<lambda>" q pars bd scp cl pm cv ctv) ⟨[], []⟩ = pure [])
    (hbd : ∀ (A : Around) (outer : List PySem.Env) (s : Shared) (H : Hp) (E : XK) (fl cl : Addr), Room k (A.deeper (envF (lamF (X.env.qual ++ "<lambda>") pars scp (cloFrom X.env.cells scp.names []) cl) fl s.heap.objs.size)) →
      PE (ncx (L2.CX X.prog X.w) X.prog X.w X.K X.mg X.base N (lamF (X.env.qual ++ "<lambda>") pars scp (cloFrom X.env.cells scp.names []) cl) fl A outer s H E) bd (tz E))
    (hdb : (xg == ("__debug__" : Str)) = false := by decide) (hda : (az == ("__debug__" : Str)) = false := by decide) (hdc : (az == ("__classdict__" : Str)) = false := by decide) :
    PE X (.Call (.Name xg pp) [.Lambda pars bd scp lp] [] ps) (tLamR T TT tz js N) := by
  refine ⟨fun pn sh σ G Qz J hyp => ?_⟩
  obtain ⟨tabs, hyp⟩ := hyp
  refine wpAny_Call_Name_kw (ld_glob J hg hm ?_ hdb)
  refine PySem.W.callWith_K (h₀ := X.base) J.ok.mod.kin hkp ?_ (by rfl) (by rfl)
  show wpAny _ _ (spliced ((false, eval (.Lambda pars bd scp lp) X.env) :: backTo ps (starEach [] X.env))) _ _ sh
  have hfr2 : ∀ y ∈ scp.names, y.2 = .free → ∃ c, X.env.cells.lookup y.1 = some c := fun y hy e => (hfree y hy e).elim (fun z => J.ok.has _ (.inl z)) fun z => J.ok.has _ (.inr z)
  refine Calls.spliced_cons (lam_make2 J TB hcd hmT hone tabs hdef hfr2 fun fl cl pm2 ct2 G1 sh1 J1 eN T1 hfl hfn hfr' hco => ?_)
  refine Calls.spliced_nil ⟨J1.kIn, ?_⟩
  have cp := cells_of J1 (Caps.made J1.ok hfree hfr hjs)
  have ran : codeAny (model X.prog X.w) X.A (.call (.ref g) ⟨[.ref fl], []⟩) (CR C8.CX0 X.stack X.prog X.w G1 sh1 Qz C8.E0) sh1 := by
    refine run_ofS (N := Nz) (ps := [az]) (us := [.ref fl]) (vs := [.ref fl]) lk hcz Sz hr J1.env0 (hbz sh1 [.ref fl] J1.kIn rfl) (.cons rfl .nil) rfl fun hr2 => ?_
    obtain ⟨t', ht', hq'⟩ := hG fl cl sh1 G1 Qz (fun E H' Q' => tz E (startF N [] (js.map (slotAt σ))) H' Q') hr2 (fun W pn2 xe p1 p2 tk => pe_act0 S cp hfl hfn hfr' (hbind _ _ _ _ _) tk hr2 (fun A outer s H E hr3 => hbd A outer s H E fl cl hr3) hNz hvz hda hdc) hco (hyp G1 eN T1)
    exact ⟨t', ht'.nox, hq'⟩
  refine wpAny_call (codeAny_mono ran fun res sh2 hq => ?_)
  cases res with
  | error e => exact (show False from hq).elim
  | ok fw =>
    cases fw with
    | ret u => exact J1.after hq
    | next => exact False.elim hq
    | brk => exact False.elim hq
    | cont => exact False.elim hq
end
end KX

set_option maxRecDepth 100000
set_option maxHeartbeats 4000000
namespace KX
open PySem PySem.Spec PyProof.Rows L2
/-! ### tuple * number, the empty tuple too -/
theorem tuple_mul0 (l : Addr) (n : Nat) (dd : Option Addr) (sl : Array (Option Value)) (x : Int) (u : Tok) (c0 : (decide (x < -(2 ^ 63)) || decide (x ≥ 2 ^ 63)) = false) :
    Meets (Builtin.«tuple.__mul__» ⟨[.ref l, .int x u], []⟩) (fun _ R s => s.heap.get? l = some { cls := .type "tuple", dict := dd, data := .seq #[] n, slots := sl } ∧ R (.ok (.ret (Value.ref l))) s) :=
  .of_wp fun prog w A R s h => by
    obtain ⟨hp, g, d, tk, os⟩ := s
    obtain ⟨hl, h⟩ := h
    have c1 : ((#[] : Array Value).isEmpty || x == 1) = true := rfl
    have f1 := AutoSeq1.idx_int
    wp_walk using wpAny_loadPart' hl
    refine wpAny_ite_false (decide_eq_false (by rw [c0]; exact Bool.false_ne_true)) ?_
    wp_walk using wpAny_loadPart' hl
    exact ⟨_, rfl, h⟩
def rRepE (K : PySem.W.Frag) : R2 := fun x y H Q => ∃ l k xs, x = .ref l ∧ y = .int k ∧ SqT K H l xs ∧ 2 ≤ k ∧ k ≤ 1000 ∧ xs.length ≤ 1000 ∧ (xs = [] → Q (.ref l) H) ∧ (xs ≠ [] → ∀ p, H p = none → Q (.ref p) (upd H p (.tup (List.replicate k.toNat xs).flatten)))
theorem op_repE {X : Cx} : OpR X (binaryOp .Mult) (rRepE X.K) := by
  intro pins s σ H x y v u Q I rx ry h
  obtain ⟨l, k, xs, rfl, rfl, hT, h1, h2, hz, q0, q1⟩ := h
  by_cases hne : xs = []
  · subst hne
    cases rx
    obtain ⟨t, rfl⟩ := ry
    obtain ⟨its, r, ⟨⟨cls, dd, data, sl⟩, ho, hc, n, hd⟩, hs⟩ := I.tuple hT
    simp only at hc hd
    subst hc hd
    cases r
    have c0 : (decide (k < -(2 ^ 63)) || decide (k ≥ 2 ^ 63)) = false := by
      rw [decide_eq_false (by omega), decide_eq_false (by omega)] <;> rfl
    exact wpAny_binaryOp_repeat_ref (T := "tuple") (U := "int") (by decide) ⟨_, ho, rfl⟩ (fun s' => typeIs_int s' k t) noFill_tuple_mul F.fills_int_mul F.slot_int_rmul repeat_tuple F.slot_int_index.lookup
      (call_meets F.slot_int_rmul (typeIs_int s k t) F.entry_int_rmul (F.args_int_rmul_2 _ _) (int_rmul_tuple k t l #[] n dd sl)
        ⟨ho, rfl, ⟨_, ho, rfl⟩, call_meets F.slot_tuple_mul ⟨_, ho, rfl⟩ F.entry_tuple_mul (F.args_tuple_mul_2 _ _) (tuple_mul0 l n dd sl k t c0) ⟨ho, ⟨.ref l, H, I, rfl, q0 rfl⟩⟩⟩)
  · exact op_repT pins s σ H (.ref l) (.int k) v u Q I rx ry ⟨l, k, xs, rfl, rfl, hT, hne, h1, h2, hz, q1 hne⟩
section
variable {l : Addr} {P : PSt} {K : PySem.W.Frag} {ta tb : TE} {ds : List PyData}
theorem gd_repE {k : Int} (kp : Kp l P) (h : GD l P (· = .tuple ds) ta) (hb : GI l P (· = k) tb) (k2 : 2 ≤ k) (k1 : k ≤ 1000) (hz : ds.length ≤ 1000) :
    GD l P (· = .tuple (List.replicate k.toNat ds).flatten) (tOp (rRepE K) ta tb) := fun σ H Q st p q =>
  h σ H _ st p fun H1 v e s k1' st1 x => hb σ H1 _ st1 (kp _ _ _ k1' st1 p) fun H2 i hb k2' st2 => by
    subst s hb
    obtain ⟨a, xs, rfl, na, ea, hx⟩ := dx_tupOf (x.up k2'.same)
    have hl := hx.len
    refine ⟨a, i, xs, rfl, rfl, .inl (.inl ea), k2, k1, by omega, fun z => ?_, fun _ b nb => q _ _ _ rfl ((k1'.trans k2').new nb) (st2.new nb) (dx_tup nb st2 (dxs_rep hx _))⟩
    subst z
    have e : ds = [] := List.eq_nil_of_length_eq_zero (by simpa using hl.symm)
    subst e
    have e2 : (List.replicate i.toNat ([] : List PyData)).flatten = [] := by simp
    rw [e2] at q
    exact q _ _ _ rfl (k1'.trans k2') st2 (x.up k2'.same)
end
end KX

set_option maxRecDepth 100000
set_option maxHeartbeats 4000000
namespace KX
open PySem PySem.Spec PyProof.Rows L2 PySem.W
/-! ### sorted(t), t a tuple of alike data -/
section
variable {prog : Program} {w : World} {A : Around} {E : Value → Shared → Prop} {s : Shared} {β : Type} {us : List Value} {ps : List β} {code : β → PyData} {Rz : Value → β → Prop}
theorem each_later {h h' : Heap} (kp : ∀ b o, h.get? b = some o → h'.get? b = some o) (er : EachIs (fun v b => ∃ as, Reads h v (code b) as) us ps) : EachIs (fun v b => ∃ as, Reads h' v (code b) as) us ps :=
  er.mono fun _ _ ⟨as, r⟩ => ⟨as, PyProof.Rows.Reads.keeps kp r⟩
theorem sorted_tupD {tp : Addr} {ob : Obj} {n : Nat} {Qz : Value → Shared → Prop} (ho : s.heap.get? tp = some ob) (hc : ob.cls = .type "tuple") (hd : ob.data = .seq us.toArray n) (e : EachIs Rz us ps) (er : EachIs (fun v b => ∃ as, Reads s.heap v (code b) as) us ps)
    (hal : AllAlike (ps.map code)) (hk : Sortable (ps.map code)) (hL : ps.length ≤ sizeLine) (hu : ∀ b, b ∈ ps → A.units + 2 + (code b).depth < cLine)
    (hq : ∀ (h' : Heap) (out : List Value), (∀ b o, s.heap.get? b = some o → h'.get? b = some o) → out.length = ps.length → EachIs Rz out (ps.mergeSort (dataLe false code)) →
      Qz (.ref h'.objs.size) { s with heap := sortedHeap (h'.push (seqObj "list" us.toArray 0)) h'.objs.size us (List.toArray out) }) :
    wpAny (model prog w) A (call (.builtin "sorted") [.ref tp]) Qz E s := by
  have hlen : us.length ≤ sizeLine := by rw [e.length]; exact hL
  refine call_function_entry_kw kind_sorted plain_sorted entry_sorted (args_sorted1 _) ?_
  unfold Builtin.«sorted»
  refine wpAny_bind (m := checkCount "sorted" 1 1 _) (wpAny_pure ?_)
  refine wpAny_bind (wpAny_collect_seq tp (.inr rfl) ho hc hd (fun h1 kp => ?_) (by rw [List.size_toArray]; exact hlen))
  rw [List.toList_toArray]
  refine wpAny_bind (wpAny_newList ?_ hlen)
  have at1 : (h1.push (seqObj "list" us.toArray 0)).get? h1.objs.size = some (seqObj "list" us.toArray 0) := Heap.get?_push_size _ rfl
  have old1 : ∀ b o, s.heap.get? b = some o → (h1.push (seqObj "list" us.toArray 0)).get? b = some o := fun b o q => Heap.get?_push_of_some _ (kp b o q)
  refine wpAny_bind (wpAny_holding (wpAny_call_entry_kw slot_list_sort ⟨_, at1, rfl⟩ entry_list_sort ?body (args_list_sort _)))
  case body =>
    show wpAny (model prog w) A.in1.in1 (Builtin.«list.sort» ⟨[.ref h1.objs.size], []⟩) _ _ { s with heap := h1.push (seqObj "list" us.toArray 0) }
    have er' : EachIs (fun v b => ∃ as, Reads (sortingHeap (h1.push (seqObj "list" us.toArray 0)) h1.objs.size us) v (code b) as) us ps :=
      each_later (fun b o q => sortingHeap_old (Nat.ne_of_lt (Heap.lt_size (kp b o q))) (old1 b o q)) er
    refine list_sort_vals (s := { s with heap := h1.push (seqObj "list" us.toArray 0) }) at1 (SortsAt.data (s := { s with heap := sortingHeap (h1.push (seqObj "list" us.toArray 0)) h1.objs.size us }) (each_map (R := fun v d => ∃ as, Reads (sortingHeap (h1.push (seqObj "list" us.toArray 0)) h1.objs.size us) v d as) code er') hal hk (bound_map hu)) hlen ?_
    exact ⟨.none, rfl, wpAny_pure ⟨_, rfl, hq h1 _ kp (by rw [sortVals_length false rfl]; exact e.length) (sortVals_data false e er' hal)⟩⟩
end
section
variable {X : Cx}
/-- sorted(t), t a tuple of alike data -/
def rSortT {β : Type} (K : PySem.W.Frag) (enc : β → PyData) : List V → Hp → VK → Prop := fun vs H Q => ∃ (a : Addr) (bs : List (V × β)), vs = [.ref a] ∧ SqT K H a (bs.map (·.1)) ∧ (∀ b ∈ bs, Dp K H b.1 (enc b.2)) ∧ AllAlike (bs.map fun b => enc b.2) ∧ Sortable (bs.map fun b => enc b.2) ∧
  (∀ b ∈ bs, (enc b.2).depth ≤ 50) ∧ ∀ p, H p = none → Q (.ref p) (L2.upd H p (.lst ((bs.mergeSort (dataLe false fun b => enc b.2)).map (·.1))))
theorem cr_sortT {β : Type} {enc : β → PyData} {k : Nat} (hr : Room k X.A) : CallR X (.builtin "sorted") (rSortT X.K enc) := by
  intro pins s σ H vs us Q I r h
  obtain ⟨a, bs, e, hS, hd, hal, hk, hu, q⟩ := h
  subst e
  obtain ⟨u, rfl, ru⟩ := vals1 r
  cases ru
  obtain ⟨its, rv, ⟨ob, ho, hc, n, hdat⟩, hz⟩ := I.tuple hS
  have hlen := rv.length
  rw [List.length_map] at hlen hz
  have er : EachIs (fun v (b : V × β) => ∃ as, Reads s.heap v (enc b.2) as) its bs := each_pairs (by omega) fun i u b e f => by
    obtain ⟨u', e', ru⟩ := rv.get (i := i) (x := b.1) (by rw [List.getElem?_map, f]; rfl)
    rw [e] at e'
    cases e'
    exact Dp.reads I (enc b.2) b.1 u (hd b (List.mem_of_getElem? f)) ru
  have eR : EachIs (fun v (b : V × β) => RelV b.1 v) its bs := each_pairs (by omega) fun i u b e f => by
    obtain ⟨u', e', ru⟩ := rv.get (i := i) (x := b.1) (by rw [List.getElem?_map, f]; rfl)
    rw [e] at e'
    cases e'
    exact ru
  have hun := hr.un
  refine sorted_tupD (code := fun b : V × β => enc b.2) ho hc hdat eR er hal hk (by omega) (fun b hb => by have := hu b hb; omega) fun h1 out kp hl he => ?_
  have rel : ∀ {ws : List Value} {ps : List (V × β)}, EachIs (fun v (b : V × β) => RelV b.1 v) ws ps → Vals (ps.map (·.1)) ws := by
    intro ws ps e
    induction e with
    | nil => exact .nil
    | cons h t ih => exact .cons h ih
  have at1 : (h1.push (seqObj "list" its.toArray 0)).get? h1.objs.size = some (seqObj "list" its.toArray 0) := Heap.get?_push_size _ rfl
  obtain ⟨ep, hep⟩ := sortedHeap_at (out := out.toArray) at1
  have J : Inv X pins σ H { s with heap := h1 } := I.kept (t' := s.toks) kp
  have old : ∀ b o, h1.get? b = some o → (sortedHeap (h1.push (seqObj "list" its.toArray 0)) h1.objs.size its out.toArray).get? b = some o := fun b o q => by
    have lt := Heap.lt_size q
    rw [sortedHeap_old (Nat.ne_of_lt lt) (by rw [size_push']; exact Nat.lt_succ_of_lt lt)]
    exact Heap.get?_push_of_some _ q
  refine ⟨.ref h1.objs.size, _, J.laid (t' := s.toks) old (Nat.le_refl _) (o := .lst ((bs.mergeSort (dataLe false fun b => enc b.2)).map (·.1))) ⟨?_, out, ep, rel he, hep⟩, rfl, q _ (J.hok.fresh (Nat.le_refl _))⟩
  rw [List.length_map, List.length_mergeSort]
  omega
end
end KX

set_option maxRecDepth 100000
set_option maxHeartbeats 4000000
namespace KX
open PySem PySem.Spec PyProof.Rows
/-! ### set(t), t a tuple of texts, any number of them -/
/-- how many texts of the first i are there for the first time -/
def dcnt (ts : List Str) : Nat → Nat
  | 0 => 0
  | i + 1 => if ((ts.take i).any fun y => y == ts.getD i Str.empty) = true then dcnt ts i else dcnt ts i + 1
theorem dcnt_le (ts : List Str) : ∀ i, dcnt ts i ≤ i
  | 0 => Nat.le_refl _
  | i + 1 => by
    have := dcnt_le ts i
    unfold dcnt
    split <;> omega
abbrev sawS (ts : List Str) (i : Nat) : Str → Bool := fun y => (ts.take i).any fun z => z == y
section
variable {prog : Program} {w : World} {A : Around} {R : Result → Shared → Prop} {It : Addr} {fz wz : List Addr} {Gz : Array GenState → Array GenState → Prop} {m : Nat} {Pz : Nat → Value → Prop} {Sz : Nat → Shared → Prop}
theorem loopTxt (Wk : WalksS prog w A.in1 It fz wz Gz m Pz Sz) (D : Addr) (nD : D ∉ fz) (ts : List Str) (lm : ts.length = m) (few : m + 1 < scanBound) (isT : ∀ i v, Pz i v → ∃ t, v = .str (ts.getD i Str.empty) t) :
    ∀ (c i : Nat) (s : Shared), m - i = c → i ≤ m → Sz i s → s.heap.SetOf (PySem.strKind prog w) D (sawS ts i) (dcnt ts i) →
      (∀ s', Moved (D :: wz) Gz s s' → s'.heap.SetOf (PySem.strKind prog w) D (sawS ts m) (dcnt ts m) → R (.ok (.ret .none)) s') → codeAny (model prog w) A (.builtin "set.update.loop" ⟨[.ref D, .ref It], []⟩) R s := by
  have nDw : D ∉ wz := fun z => nD (Wk.sub _ z)
  have more : ∀ b ∈ wz, b ∈ D :: wz := fun b z => List.mem_cons_of_mem _ z
  intro c
  induction c with
  | zero =>
    intro i s ec le st so fin
    obtain rfl : i = m := by omega
    refine codeAny_builtin F.entry_set_update_loop ?_
    rw [Around.under_plainId F.plain_set_update_loop _]
    show wpAny _ A.in1 (pyNext (.ref It) >>= _) _ _ s
    refine wpAny_bind (Wk.done s _ _ st fun s1 mv => ?_)
    refine wpAny_pure (fin s1 (mv.mono more) ?_)
    obtain ⟨ob, es, ep, tb, eo, more2⟩ := so
    exact ⟨ob, es, ep, tb, mv.heap D _ nDw eo, more2⟩
  | succ c again =>
    intro i s ec le st so fin
    have lt : i < m := by omega
    refine codeAny_builtin F.entry_set_update_loop ?_
    rw [Around.under_plainId F.plain_set_update_loop _]
    show wpAny _ A.in1 (pyNext (.ref It) >>= _) _ _ s
    refine wpAny_bind (Wk.item i s _ _ lt st fun v s1 hv st1 mv => ?_)
    obtain ⟨tk, rfl⟩ := isT i v hv
    have so1 : s1.heap.SetOf (PySem.strKind prog w) D (sawS ts i) (dcnt ts i) := by
      obtain ⟨ob, es, ep, tb, eo, more2⟩ := so
      exact ⟨ob, es, ep, tb, mv.heap D _ nDw eo, more2⟩
    obtain ⟨x, ex⟩ : ∃ x, x = ts.getD i Str.empty := ⟨_, rfl⟩
    have gx : ts[i]? = some x := by
      rw [ex, List.getD_eq_getElem?_getD, List.getElem?_eq_getElem (by omega)]
      rfl
    rw [← ex]
    show wpAny _ A.in1 (holding [Value.str x tk] (setAdd D (.str x tk)) >>= _) _ _ s1
    refine wpAny_bind (wpAny_holding ?_)
    unfold setAdd
    refine wpAny_holding (wpAny_bind ((PySem.strKind prog w).pyHash (k := x) (strKind_is _ _ _ _) ?_))
    have le1 := dcnt_le ts i
    refine wpAny_setAddHashed_of (knd := PySem.strKind prog w) (s := { s1 with toks := s1.toks + 1 }) (strKind_is _ _ _ _) rfl so1 (by omega) fun h2 but so2 => ?_
    have so3 : h2.SetOf (PySem.strKind prog w) D (sawS ts (i + 1)) (dcnt ts (i + 1)) := by
      refine SetOf_congr so2 (fun y => ?_) ?_
      · show ((ts.take i).any (fun z => z == y) || decide (y = x)) = (ts.take (i + 1)).any fun z => z == y
        rw [List.take_add_one, gx, List.any_append]
        congr 1
        show decide (y = x) = ((x == y) || false)
        rw [Bool.or_false]
        by_cases e : y = x
        · subst e; simp
        · rw [decide_eq_false e]
          exact (beq_eq_false_iff_ne.mpr fun z => e z.symm).symm
      · show (if ((ts.take i).any fun z => z == x) = true then dcnt ts i else dcnt ts i + 1) = dcnt ts (i + 1)
        rw [dcnt, ← ex]
    refine wpAny_pure ⟨plainId_quiet F.plain_set_update_loop _, again (i + 1) _ (by omega) lt (Wk.frame _ s1 _ _ st1 (Nat.le_succ _) fun b hb o e => ?_) so3 fun s3 mv3 so4 => ?_⟩
    · rw [but.2 b (fun z : b = D => nD (by rw [← z]; exact hb))]
      exact e
    · refine fin s3 (Moved.trans Wk.gtrans ((mv.mono more).then_heap (Nat.le_succ _) fun b o hb e => ?_) mv3) so4
      rw [but.2 b (fun z : b = D => hb (by rw [z]; exact List.mem_cons_self))]
      exact e
end
abbrev nSet (ld : Bool) : Obj := { cls := .type "set", dict := none, data := .set #[] 0 (.fresh 0 0 ld) }
section
variable {prog : Program} {w : World} {A : Around} {E : Value → Shared → Prop} {s : Shared}
theorem call_setTxt {tp : Addr} {ys : Array Value} {ts : List Str} {Q : Value → Shared → Prop} (noh : A.handled = none) (ht : s.heap.IsTuple tp ys) (are : StrsAre ys.toList ts) (few : ts.length + 1 < scanBound)
    (fin : ∀ (h2 : Heap) (tk : Nat), h2.SetOf (PySem.strKind prog w) s.heap.objs.size (sawS ts ts.length) (dcnt ts ts.length) → (∀ b o, b < s.heap.objs.size → s.heap.get? b = some o → h2.get? b = some o) →
      Q (.ref s.heap.objs.size) { s with heap := h2, toks := tk }) : wpAny (model prog w) A (call (.type "set") [.ref tp]) Q E s := by
  obtain ⟨c1, tl1, gmro⟩ := PySem.F.called_set.mro
  have gmade := PySem.F.called_set.made
  have gsub := PySem.F.called_set.sub
  have g1 := PySem.F.called_set.notType
  have g2 := PySem.F.called_set.canCreate
  have gct := PySem.F.typeCall_set_1 (.ref tp)
  refine wpAny_call (codeAny_of_tree (show wpAny _ _ (callAny (.type "set") _) _ _ _ from wpAny_pure ⟨Code.quiet_builtin _ (by decide +kernel), codeAny_builtin PySem.F.entry_type_call ?_⟩))
  rw [Around.under_plain (weight_type_call_type "set" [.ref tp] []) rfl]
  repeat (any_goals (first | wp_step | assumption))
  refine codeAny_mono (code_set_new_1 (.ref tp) (E := E) (Q₁ := fun ob t1 => ∃ ld : Bool, ob = .ref s.heap.objs.size ∧ t1 = { s with heap := s.heap.push (nSet ld) }) fun ld => ⟨ld, rfl, rfl⟩) fun r1 t1 k1 => ?_
  cases r1 with
  | error e => exact k1
  | ok f1 =>
    cases f1 with
    | ret ob =>
      obtain ⟨ld, eo, et⟩ := k1
      subst eo et
      have atS : (s.heap.push (nSet ld)).get? s.heap.objs.size = some (nSet ld) := Heap.get?_push_size _ rfl
      have tyS : Shared.TypeIs { s with heap := s.heap.push (nSet ld) } (.ref s.heap.objs.size) "set" := ⟨_, atS, rfl⟩
      have gli := PySem.F.called_set.init.lookup
      have gbi := PySem.F.called_set.init.bind (.ref s.heap.objs.size)
      repeat (any_goals (first | wp_step | assumption))
      refine codeAny_mono (codeAny_call_builtin (R := wants (fun r t2 => r = .none ∧ ∃ h2 tk, t2 = { s with heap := h2, toks := tk } ∧ h2.SetOf (PySem.strKind prog w) s.heap.objs.size (sawS ts ts.length) (dcnt ts ts.length) ∧
          (∀ b o, b < s.heap.objs.size → s.heap.get? b = some o → h2.get? b = some o)) E) PySem.F.called_set.init.plain PySem.F.entry_set_init (check_set_init_1 tyS ?_)) fun r2 t2 k2 => ?_
      · obtain ⟨⟨oc, od, odat, osl⟩, eT, ec, nT, ed⟩ := ht
        simp only at ec ed
        subst ec
        subst ed
        have eT2 : (s.heap.push (nSet ld)).get? tp = some { cls := .type "tuple", dict := od, data := .seq ys nT, slots := osl } := Heap.get?_push_of_some _ eT
        have b1 := PySem.F.sub_tuple_set
        have b2 := PySem.F.sub_tuple_frozenset
        have b3 : (Value.type "tuple" == Value.type "dict") = false := by decide
        have isT : (s.heap.push (nSet ld)).IsTuple tp ys := ⟨_, eT2, rfl, nT, rfl⟩
        unfold Builtin.«set.__init__» noKeywords Builtin.Frozenset.updateFrom
        generalize kept : pyIter = iterF
        wp_walk
        subst kept
        refine wpAny_pyIter_tuple isT (wpAny_bind (wpAny_runValue ?_))
        have ltp : tp < s.heap.objs.size := Heap.lt_size eT
        have noh3 : A.in1.in1.in1.handled = none := by simp [noh]
        have szP : (s.heap.push (nSet ld)).objs.size = s.heap.objs.size + 1 := Heap.size_push ..
        have ne1 : tp ≠ (s.heap.push (nSet ld)).objs.size := by rw [szP]; exact Nat.ne_of_lt (Nat.lt_succ_of_lt ltp)
        have ne2 : s.heap.objs.size ∉ [(s.heap.push (nSet ld)).objs.size, tp] := by
          rw [szP]
          simp only [List.mem_cons, List.not_mem_nil, or_false, not_or]
          exact ⟨Nat.ne_of_lt (Nat.lt_succ_self _), Nat.ne_of_gt ltp⟩
        have lz : ts.length = ys.size := by rw [← StrsAre.len_eq are, Array.length_toList]
        refine loopTxt ((Walks.tuple noh3 _ tp ne1 ys).toS) s.heap.objs.size ne2 ts lz (by rw [← lz]; exact few) (fun i v hv => SS.strs_at are i v (by rw [Array.getElem?_toList]; exact hv)) (ys.size - 0) 0 _ (by omega) (Nat.zero_le _)
          ⟨⟨_, Heap.get?_push_size _ rfl, rfl, rfl⟩, (isT.push _)⟩ ?z0 ?z1
        case z0 =>
          have gg : ((s.heap.push (nSet ld)).push { cls := .type "tuple_iterator", data := .fields #[.ref tp, .int 0 0] }).get? s.heap.objs.size = some (nSet ld) := Heap.get?_push_of_some _ atS
          exact SetOf_congr ((setObjOf_fresh (knd := PySem.strKind prog w) ld).setOf gg (by unfold scanBound; omega)) (fun _ => rfl) rfl
        case z1 =>
          intro t3 mv so
          obtain ⟨h3, g3, d3, k3, o3⟩ := t3
          obtain rfl : g3 = s.gens := mv.gens
          obtain rfl : d3 = s.drawn := mv.drawn
          obtain rfl : o3 = s.os := mv.os
          rw [← lz] at so
          show wpAny _ _ _ _ _ _
          refine wpAny_pure (show wpAny _ _ (ret Value.none) _ _ _ from wpAny_pure ⟨rfl, h3, k3, rfl, so, fun b o hb e => ?_⟩)
          refine mv.heap b o ?_ (Heap.get?_push_of_some _ (Heap.get?_push_of_some _ e))
          rw [szP]
          simp only [List.mem_cons, List.not_mem_nil, or_false, not_or]
          exact ⟨Nat.ne_of_lt hb, Nat.ne_of_lt (Nat.lt_succ_of_lt hb)⟩
      · cases r2 with
        | error e => exact k2
        | ok f2 =>
          cases f2 with
          | ret r =>
            obtain ⟨rfl, h2, tk, rfl, so, old⟩ := k2
            repeat (any_goals (first | wp_step | assumption))
            exact fin _ _ so old
          | _ => exact k2.elim
    | _ => exact k1.elim
end
end KX

set_option maxRecDepth 100000
set_option maxHeartbeats 2000000
namespace KX
open PySem PySem.Spec PyProof.Rows L2
/-! ### len(set(t)), t a tuple of texts -/
section
variable {X : Cx} {pos : Pos}
theorem dcnt_nodup : ∀ (ts : List Str), ts.Nodup → ∀ i, i ≤ ts.length → dcnt ts i = i
  | ts, nd, 0, _ => rfl
  | ts, nd, i + 1, h => by
    have e : ((ts.take i).any fun y => y == ts.getD i Str.empty) = false := by
      rw [List.any_eq_false]
      intro y hy
      obtain ⟨j, hj, ej⟩ := List.getElem_of_mem hy
      rw [List.length_take] at hj
      rw [List.getElem_take] at ej
      have gi : ts.getD i Str.empty = ts[i] := by
        rw [List.getD_eq_getElem?_getD, List.getElem?_eq_getElem (by omega)]
        rfl
      rw [gi]
      intro z
      have z := (beq_iff_eq.mp z)
      rw [← ej] at z
      have := (List.nodup_iff_pairwise_ne.mp nd)
      rw [List.pairwise_iff_getElem] at this
      exact this j i (by omega) (by omega) (by omega) z
    unfold dcnt
    rw [e, if_neg (by decide), dcnt_nodup ts nd i (by omega)]
def tLenSetT (K : PySem.W.Frag) (ta : TE) : TE := fun σ H Q => ta σ H fun x H1 => ∃ (l : Addr) (ts : List Str), x = .ref l ∧ SqT K H1 l (ts.map V.str) ∧ ts.length ≤ 1000 ∧ Q (.int (dcnt ts ts.length : Int)) H1
theorem pe_lenSetT {e0 : Expr} {ta : TE} {pa pb pc pd : Pos} (cm : X.calm = true) (gl : Gl X "len") (ml : X.mg "len" = none) (gs : Gl X "set") (ms : X.mg "set" = none) (he : PE X e0 ta)
    (se : starEach [e0] X.env = (false, eval e0 X.env) :: starEach [] X.env := by rfl) : PE X (.Call (.Name "len" pa) [.Call (.Name "set" pb) [e0] [] pc] [] pd) (tLenSetT X.K ta) := by
  refine ⟨fun pn sh σ G Qz J hyp => ?_⟩
  refine Call_ (ld_blt J gl ml boot_len ?_)
  refine callWith_builtin1 (args_cons ?_ rfl) rfl rfl
  refine Call_ (ld_blt J gs ms boot_set ?_)
  refine callWith_type1 (args_cons (thn (he.run pn sh σ G _ J hyp) fun v s1 ⟨x, H1, I1, r1, q1⟩ => args_nil ?_) se) se rfl
  obtain ⟨l, ts, rfl, hq, few, q1⟩ := q1
  cases r1
  obtain ⟨its, r, pl, hz⟩ := I1.tuple hq
  have hb : (1001 : Nat) < scanBound := by decide
  refine call_setTxt (I1.ok.hd cm) pl (by simpa using strsAre_of r) (by omega) fun h2 tk so old => ?_
  refine args_nil ?_
  obtain ⟨o, es, ep, t, ho, hex, hd, _, _, _, hf, hn⟩ := so
  have I2 : Inv X pn σ H1 { s1 with heap := h2, toks := tk } := I1.kept fun b o e => old b o (Heap.lt_size e) e
  have := dcnt_le ts ts.length
  exact call_len_set ho hex hd hf (by rw [hn]; have hs : (1001 : Nat) < sizeLine := (by decide); omega) ⟨.int (dcnt ts ts.length : Int), H1, I2.tok _, ⟨_, by rw [hn]⟩, q1⟩
end
end KX

set_option maxRecDepth 100000
set_option maxHeartbeats 4000000
namespace KX
open PySem PySem.Spec PyProof.Rows
/-! ### set(xs), xs a list of texts; of ints -/
section
variable {prog : Program} {w : World} {A : Around} {E : Value → Shared → Prop} {s : Shared}
open L2 in
theorem call_setTxtL {tp : Addr} {ys : Array Value} {ts : List Str} {Q : Value → Shared → Prop} (noh : A.handled = none) (ht : s.heap.IsList tp ys) (are : StrsAre ys.toList ts) (few : ts.length + 1 < scanBound)
    (fin : ∀ (h2 : Heap) (tk : Nat), h2.SetOf (PySem.strKind prog w) s.heap.objs.size (sawS ts ts.length) (dcnt ts ts.length) → (∀ b o, b < s.heap.objs.size → s.heap.get? b = some o → h2.get? b = some o) →
      Q (.ref s.heap.objs.size) { s with heap := h2, toks := tk }) : wpAny (model prog w) A (call (.type "set") [.ref tp]) Q E s := by
  obtain ⟨c1, tl1, gmro⟩ := PySem.F.called_set.mro
  have gmade := PySem.F.called_set.made
  have gsub := PySem.F.called_set.sub
  have g1 := PySem.F.called_set.notType
  have g2 := PySem.F.called_set.canCreate
  have gct := PySem.F.typeCall_set_1 (.ref tp)
  refine wpAny_call (codeAny_of_tree (show wpAny _ _ (callAny (.type "set") _) _ _ _ from wpAny_pure ⟨Code.quiet_builtin _ (by decide +kernel), codeAny_builtin PySem.F.entry_type_call ?_⟩))
  rw [Around.under_plain (weight_type_call_type "set" [.ref tp] []) rfl]
  repeat (any_goals (first | wp_step | assumption))
  refine codeAny_mono (code_set_new_1 (.ref tp) (E := E) (Q₁ := fun ob t1 => ∃ ld : Bool, ob = .ref s.heap.objs.size ∧ t1 = { s with heap := s.heap.push (nSet ld) }) fun ld => ⟨ld, rfl, rfl⟩) fun r1 t1 k1 => ?_
  cases r1 with
  | error e => exact k1
  | ok f1 =>
    cases f1 with
    | ret ob =>
      obtain ⟨ld, eo, et⟩ := k1
      subst eo et
      have atS : (s.heap.push (nSet ld)).get? s.heap.objs.size = some (nSet ld) := Heap.get?_push_size _ rfl
      have tyS : Shared.TypeIs { s with heap := s.heap.push (nSet ld) } (.ref s.heap.objs.size) "set" := ⟨_, atS, rfl⟩
      have gli := PySem.F.called_set.init.lookup
      have gbi := PySem.F.called_set.init.bind (.ref s.heap.objs.size)
      repeat (any_goals (first | wp_step | assumption))
      refine codeAny_mono (codeAny_call_builtin (R := wants (fun r t2 => r = .none ∧ ∃ h2 tk, t2 = { s with heap := h2, toks := tk } ∧ h2.SetOf (PySem.strKind prog w) s.heap.objs.size (sawS ts ts.length) (dcnt ts ts.length) ∧
          (∀ b o, b < s.heap.objs.size → s.heap.get? b = some o → h2.get? b = some o)) E) PySem.F.called_set.init.plain PySem.F.entry_set_init (check_set_init_1 tyS ?_)) fun r2 t2 k2 => ?_
      · obtain ⟨⟨oc, od, odat, osl⟩, eT, ec, nT, ed⟩ := ht
        simp only at ec ed
        subst ec
        subst ed
        have eT2 : (s.heap.push (nSet ld)).get? tp = some { cls := .type "list", dict := od, data := .seq ys nT, slots := osl } := Heap.get?_push_of_some _ eT
        have b1 := PySem.F.sub_list_set
        have b2 := PySem.F.sub_list_frozenset
        have b3 : (Value.type "list" == Value.type "dict") = false := by decide
        have isT : (s.heap.push (nSet ld)).IsList tp ys := ⟨_, eT2, rfl, nT, rfl⟩
        unfold Builtin.«set.__init__» noKeywords Builtin.Frozenset.updateFrom
        generalize kept : pyIter = iterF
        wp_walk
        subst kept
        refine wpAny_pyIter_list isT (wpAny_bind (wpAny_runValue ?_))
        have ltp : tp < s.heap.objs.size := Heap.lt_size eT
        have noh3 : A.in1.in1.in1.handled = none := by simp [noh]
        have szP : (s.heap.push (nSet ld)).objs.size = s.heap.objs.size + 1 := Heap.size_push ..
        have ne1 : tp ≠ (s.heap.push (nSet ld)).objs.size := by rw [szP]; exact Nat.ne_of_lt (Nat.lt_succ_of_lt ltp)
        have ne2 : s.heap.objs.size ∉ [(s.heap.push (nSet ld)).objs.size, tp] := by
          rw [szP]
          simp only [List.mem_cons, List.not_mem_nil, or_false, not_or]
          exact ⟨Nat.ne_of_lt (Nat.lt_succ_self _), Nat.ne_of_gt ltp⟩
        have lz : ts.length = ys.size := by rw [← StrsAre.len_eq are, Array.length_toList]
        refine loopTxt ((Walks.list noh3 _ tp ne1 ys).toS) s.heap.objs.size ne2 ts lz (by rw [← lz]; exact few) (fun i v hv => SS.strs_at are i v (by rw [Array.getElem?_toList]; exact hv)) (ys.size - 0) 0 _ (by omega) (Nat.zero_le _)
          ⟨⟨_, Heap.get?_push_size _ rfl, rfl, rfl⟩, (isT.push _)⟩ ?z0 ?z1
        case z0 =>
          have gg : ((s.heap.push (nSet ld)).push { cls := .type "list_iterator", data := .fields #[.ref tp, .int 0 0] }).get? s.heap.objs.size = some (nSet ld) := Heap.get?_push_of_some _ atS
          exact SetOf_congr ((setObjOf_fresh (knd := PySem.strKind prog w) ld).setOf gg (by unfold scanBound; omega)) (fun _ => rfl) rfl
        case z1 =>
          intro t3 mv so
          obtain ⟨h3, g3, d3, k3, o3⟩ := t3
          obtain rfl : g3 = s.gens := mv.gens
          obtain rfl : d3 = s.drawn := mv.drawn
          obtain rfl : o3 = s.os := mv.os
          rw [← lz] at so
          show wpAny _ _ _ _ _ _
          refine wpAny_pure (show wpAny _ _ (ret Value.none) _ _ _ from wpAny_pure ⟨rfl, h3, k3, rfl, so, fun b o hb e => ?_⟩)
          refine mv.heap b o ?_ (Heap.get?_push_of_some _ (Heap.get?_push_of_some _ e))
          rw [szP]
          simp only [List.mem_cons, List.not_mem_nil, or_false, not_or]
          exact ⟨Nat.ne_of_lt hb, Nat.ne_of_lt (Nat.lt_succ_of_lt hb)⟩
      · cases r2 with
        | error e => exact k2
        | ok f2 =>
          cases f2 with
          | ret r =>
            obtain ⟨rfl, h2, tk, rfl, so, old⟩ := k2
            repeat (any_goals (first | wp_step | assumption))
            exact fin _ _ so old
          | _ => exact k2.elim
    | _ => exact k1.elim
open L2 in
theorem call_setIntL {tp : Addr} {ys : Array Value} {ts : List Int} {Q : Value → Shared → Prop} (noh : A.handled = none) (ht : s.heap.IsList tp ys) (are : IntsAre ys.toList ts) (few : ts.length + 1 < scanBound)
    (fin : ∀ (h2 : Heap) (tk c : Nat), SetR w h2 s.heap.objs.size (fun j => decide (j ∈ ts)) c → c ≤ ts.length → (∀ b o, b < s.heap.objs.size → s.heap.get? b = some o → h2.get? b = some o) →
      Q (.ref s.heap.objs.size) { s with heap := h2, toks := tk }) : wpAny (model prog w) A (call (.type "set") [.ref tp]) Q E s := by
  obtain ⟨c1, tl1, gmro⟩ := PySem.F.called_set.mro
  have gmade := PySem.F.called_set.made
  have gsub := PySem.F.called_set.sub
  have g1 := PySem.F.called_set.notType
  have g2 := PySem.F.called_set.canCreate
  have gct := PySem.F.typeCall_set_1 (.ref tp)
  refine wpAny_call (codeAny_of_tree (show wpAny _ _ (callAny (.type "set") _) _ _ _ from wpAny_pure ⟨Code.quiet_builtin _ (by decide +kernel), codeAny_builtin PySem.F.entry_type_call ?_⟩))
  rw [Around.under_plain (weight_type_call_type "set" [.ref tp] []) rfl]
  repeat (any_goals (first | wp_step | assumption))
  refine codeAny_mono (code_set_led1 (.ref tp) (E := E) (Q₁ := fun ob t1 => ob = .ref s.heap.objs.size ∧ t1 = { s with heap := s.heap.push (nSet (!w.params.followText "set-order")) }) ⟨rfl, rfl⟩) fun r1 t1 k1 => ?_
  cases r1 with
  | error e => exact k1
  | ok f1 =>
    cases f1 with
    | ret ob =>
      obtain ⟨eo, et⟩ := k1
      subst eo et
      have atS : (s.heap.push (nSet (!w.params.followText "set-order"))).get? s.heap.objs.size = some (nSet (!w.params.followText "set-order")) := Heap.get?_push_size _ rfl
      have tyS : Shared.TypeIs { s with heap := s.heap.push (nSet (!w.params.followText "set-order")) } (.ref s.heap.objs.size) "set" := ⟨_, atS, rfl⟩
      have gli := PySem.F.called_set.init.lookup
      have gbi := PySem.F.called_set.init.bind (.ref s.heap.objs.size)
      repeat (any_goals (first | wp_step | assumption))
      refine codeAny_mono (codeAny_call_builtin (R := wants (fun r t2 => r = .none ∧ ∃ h2 tk c, t2 = { s with heap := h2, toks := tk } ∧ SetR w h2 s.heap.objs.size (fun j => decide (j ∈ ts)) c ∧ c ≤ ts.length ∧
          (∀ b o, b < s.heap.objs.size → s.heap.get? b = some o → h2.get? b = some o)) E) PySem.F.called_set.init.plain PySem.F.entry_set_init (check_set_init_1 tyS ?_)) fun r2 t2 k2 => ?_
      · obtain ⟨⟨oc, od, odat, osl⟩, eT, ec, nT, ed⟩ := ht
        simp only at ec ed
        subst ec
        subst ed
        have eT2 : (s.heap.push (nSet (!w.params.followText "set-order"))).get? tp = some { cls := .type "list", dict := od, data := .seq ys nT, slots := osl } := Heap.get?_push_of_some _ eT
        have b1 := PySem.F.sub_list_set
        have b2 := PySem.F.sub_list_frozenset
        have b3 : (Value.type "list" == Value.type "dict") = false := by decide
        have isT : (s.heap.push (nSet (!w.params.followText "set-order"))).IsList tp ys := ⟨_, eT2, rfl, nT, rfl⟩
        unfold Builtin.«set.__init__» noKeywords Builtin.Frozenset.updateFrom
        generalize kept : pyIter = iterF
        wp_walk
        subst kept
        refine wpAny_pyIter_list isT (wpAny_bind (wpAny_runValue ?_))
        have ltp : tp < s.heap.objs.size := Heap.lt_size eT
        have noh3 : A.in1.in1.in1.handled = none := by simp [noh]
        have szP : (s.heap.push (nSet (!w.params.followText "set-order"))).objs.size = s.heap.objs.size + 1 := Heap.size_push ..
        have ne1 : tp ≠ (s.heap.push (nSet (!w.params.followText "set-order"))).objs.size := by rw [szP]; exact Nat.ne_of_lt (Nat.lt_succ_of_lt ltp)
        have ne2 : s.heap.objs.size ∉ [(s.heap.push (nSet (!w.params.followText "set-order"))).objs.size, tp] := by
          rw [szP]
          simp only [List.mem_cons, List.not_mem_nil, or_false, not_or]
          exact ⟨Nat.ne_of_lt (Nat.lt_succ_self _), Nat.ne_of_gt ltp⟩
        have lz : ys.size = ts.length := by
          have q := IntsAre.length are
          rw [Array.length_toList] at q
          exact q
        have each : ∀ (i : Nat) (v : Value), ys[i]? = some v → ∃ k t, ts[i]? = some k ∧ v = .int k t := fun i v hv => by
          have hi : i < ts.length := by rw [← lz]; exact (Array.getElem?_eq_some_iff.mp hv).1
          obtain ⟨t, e⟩ := PyProof.Rows.IntsAre.int_at are i v (by rw [Array.getElem?_toList]; exact hv)
          refine ⟨ts[i], t, List.getElem?_eq_getElem hi, ?_⟩
          rw [e, List.getD_eq_getElem?_getD, List.getElem?_eq_getElem hi] <;> rfl
        refine set_update_ints ((Walks.list noh3 _ tp ne1 ys).toS) s.heap.objs.size ne2 ts lz few each (ys.size - 0) 0 _ (by omega) (Nat.zero_le _)
          ⟨⟨_, Heap.get?_push_size _ rfl, rfl, rfl⟩, (isT.push _)⟩ ?z0 ?z1
        case z0 =>
          have gg : ((s.heap.push (nSet (!w.params.followText "set-order"))).push { cls := .type "list_iterator", data := .fields #[.ref tp, .int 0 0] }).get? s.heap.objs.size = some (nSet (!w.params.followText "set-order")) := Heap.get?_push_of_some _ atS
          exact ⟨0, Nat.le_refl 0, setR_new_at gg⟩
        case z1 =>
          intro t3 cc mv lc so
          obtain ⟨h3, g3, d3, k3, o3⟩ := t3
          obtain rfl : g3 = s.gens := mv.gens
          obtain rfl : d3 = s.drawn := mv.drawn
          obtain rfl : o3 = s.os := mv.os
          rw [lz] at lc
          show wpAny _ _ _ _ _ _
          refine wpAny_pure (show wpAny _ _ (ret Value.none) _ _ _ from wpAny_pure ⟨rfl, h3, k3, cc, rfl, so, lc, fun b o hb e => ?_⟩)
          refine mv.heap b o ?_ (Heap.get?_push_of_some _ (Heap.get?_push_of_some _ e))
          rw [szP]
          simp only [List.mem_cons, List.not_mem_nil, or_false, not_or]
          exact ⟨Nat.ne_of_lt hb, Nat.ne_of_lt (Nat.lt_succ_of_lt hb)⟩
      · cases r2 with
        | error e => exact k2
        | ok f2 =>
          cases f2 with
          | ret r =>
            obtain ⟨rfl, h2, tk, c, rfl, so, lc, old⟩ := k2
            repeat (any_goals (first | wp_step | assumption))
            exact fin _ _ _ so lc old
          | _ => exact k2.elim
    | _ => exact k1.elim
end
end KX
namespace KX
open PySem PySem.Spec PyProof.Rows L2
section
variable {X : Cx} {pos : Pos}
def tLenSetL (K : PySem.W.Frag) (ta : TE) : TE := fun σ H Q => ta σ H fun x H1 => ∃ (l : Addr) (ts : List Str), x = .ref l ∧ SqL K H1 l (ts.map V.str) ∧ ts.length ≤ 1000 ∧ Q (.int (dcnt ts ts.length : Int)) H1
theorem pe_lenSetL {e0 : Expr} {ta : TE} {pa pb pc pd : Pos} (cm : X.calm = true) (gl : Gl X "len") (ml : X.mg "len" = none) (gs : Gl X "set") (ms : X.mg "set" = none) (he : PE X e0 ta)
    (se : starEach [e0] X.env = (false, eval e0 X.env) :: starEach [] X.env := by rfl) : PE X (.Call (.Name "len" pa) [.Call (.Name "set" pb) [e0] [] pc] [] pd) (tLenSetL X.K ta) := by
  refine ⟨fun pn sh σ G Qz J hyp => ?_⟩
  refine Call_ (ld_blt J gl ml boot_len ?_)
  refine callWith_builtin1 (args_cons ?_ rfl) rfl rfl
  refine Call_ (ld_blt J gs ms boot_set ?_)
  refine callWith_type1 (args_cons (thn (he.run pn sh σ G _ J hyp) fun v s1 ⟨x, H1, I1, r1, q1⟩ => args_nil ?_) se) se rfl
  obtain ⟨l, ts, rfl, hq, few, q1⟩ := q1
  cases r1
  obtain ⟨its, r, pl, hz⟩ := I1.list hq
  have hb : (1001 : Nat) < scanBound := by decide
  refine call_setTxtL (I1.ok.hd cm) pl.isList (by simpa using strsAre_of r) (by omega) fun h2 tk so old => ?_
  refine args_nil ?_
  obtain ⟨o, es, ep, t, ho, hex, hd, _, _, _, hf, hn⟩ := so
  have I2 : Inv X pn σ H1 { s1 with heap := h2, toks := tk } := I1.kept fun b o e => old b o (Heap.lt_size e) e
  have := dcnt_le ts ts.length
  exact call_len_set ho hex hd hf (by rw [hn]; have hs : (1001 : Nat) < sizeLine := (by decide); omega) ⟨.int (dcnt ts ts.length : Int), H1, I2.tok _, ⟨_, by rw [hn]⟩, q1⟩
/-- set(xs), xs a list of ints -/
def rSetIL (K : PySem.W.Frag) (w : World) : List V → Hp → VK → Prop := fun xs H Q => ∃ (l : Addr) (ns : List Int), xs = [.ref l] ∧ SqL K H l (ns.map V.int) ∧ ns.length ≤ 1000 ∧
  ∀ (p : Addr) (c : Nat), H p = none → c ≤ ns.length → Q (.ref p) (upd H p (SetO w p (fun j => decide (j ∈ ns)) c))
theorem cr_setIL (cm : X.calm = true) : CallR X (.type "set") (rSetIL X.K X.w) := by
  intro pins s σ H xs us Q I r h
  obtain ⟨l, ns, rfl, hq, few, q⟩ := h
  obtain ⟨u, rfl, ru⟩ := vals1 r
  cases ru
  obtain ⟨its, rv, pl, hz⟩ := I.list hq
  have hb : (1001 : Nat) < scanBound := by decide
  refine call_setIntL (I.ok.hd cm) pl.isList (ts := ns) (by simpa using ints_of_vals rv) (by omega) fun h2 tk c so lc old => ?_
  exact ⟨.ref _, upd H s.heap.objs.size (SetO X.w s.heap.objs.size (fun j => decide (j ∈ ns)) c), I.laid (t' := tk) (fun b o e => old b o (Heap.lt_size e) e) (Nat.le_refl _) (setO_new so), rfl, q _ c (I.hok.fresh (Nat.le_refl _)) lc⟩
end
end KX

set_option maxRecDepth 100000
set_option maxHeartbeats 4000000
/-! Ex31: zip of a tuple and a list (Ex5 with the roles exchanged) -/
namespace KX
open PySem PySem.Spec PyProof.Rows L2
def ItN (K : PySem.W.Frag) (a b : Addr) : It :=
  ⟨fun i H => ∃ (xs ys : List V) (x y : V), SqT K H a xs ∧ SqL K H b ys ∧ xs[i]? = some x ∧ ys[i]? = some y,
    fun i H v G => ∃ T x y, v = .ref T ∧ H T = none ∧ G = upd H T (.tup [x, y]) ∧ (∀ xs, SqT K H a xs → xs[i]? = some x) ∧ ∀ ys, SqL K H b ys → ys[i]? = some y,
    fun i H => ∃ xs ys : List V, SqT K H a xs ∧ SqL K H b ys ∧ xs.length = i ∧ ys.length = i⟩
theorem turn_n {P : Program} {w : World} {K : PySem.W.Frag} {elts : List Expr} {kk : Nat} {tpos : Pos} {a b z TI TO i1 i2 : Addr} (D : ZipApart z TI TO i1 i2 a b) :
    Turn P w K (.Tuple elts kk tpos) (ItN K a b) [z, TI, TO, i1, i2] z (fun i h => IsZip h z TI TO .none ∧ IsPair h TI (.ref i1) (.ref i2) ∧ (∃ x y, IsPair h TO x y) ∧ h.IsTupleIter i1 a i ∧ h.IsListIter i2 b i) where
  mem := by simp
  obj := fun i h st c hc => by
    obtain ⟨hz, hTI, ⟨x, y, hTO⟩, ⟨o1, e1, _, d1⟩, ⟨o2, e2, _, d2⟩⟩ := st
    simp only [List.mem_cons, List.not_mem_nil, or_false] at hc
    rcases hc with rfl | rfl | rfl | rfl | rfl
    · exact ⟨_, hz, fun v q => nomatch q⟩
    · exact ⟨_, hTI, fun v q => nomatch q⟩
    · exact ⟨_, hTO, fun v q => nomatch q⟩
    · exact ⟨o1, e1, fun v q => by rw [d1] at q; cases q⟩
    · exact ⟨o2, e2, fun v q => by rw [d2] at q; cases q⟩
  keep := fun i h h' st k => by
    obtain ⟨hz, hTI, ⟨x, y, hTO⟩, t1, t2⟩ := st
    exact ⟨k z (by simp) _ hz, k TI (by simp) _ hTI, ⟨x, y, k TO (by simp) _ hTO⟩, t1.at fun o q => k i1 (by simp) o q, t2.at fun o q => k i2 (by simp) o q⟩
  item := by
    intro X hP hw hK hc i pins s σ H E I hf st hg
    subst hP hw hK
    obtain ⟨hz, hTI, ⟨x0, y0, hTO⟩, t1, t2⟩ := st
    obtain ⟨xs, ys, x, y, hqx, hqy, hx, hy⟩ := hg
    obtain ⟨its, rv, pl, _⟩ := I.tuple hqx
    obtain ⟨its2, rv2, pt, _⟩ := I.list hqy
    obtain ⟨u, hu, ru⟩ := rv.get hx
    obtain ⟨u2, hu2, ru2⟩ := rv2.get hy
    have zl : z < s.heap.objs.size := Heap.lt_size hz
    have hh : X.A.in1.handled = none := I.ok.hd hc
    have li : i < its.toArray.size := by simpa using (List.getElem?_eq_some_iff.mp hu).1
    have li2 : i < its2.toArray.size := by simpa using (List.getElem?_eq_some_iff.mp hu2).1
    refine wpAny_pyNext_zipD2_item (sep_of D) (Draws.tuple hh i1 a D.l1i1 its.toArray) (Draws.list hh i2 b D.l2i2 its2.toArray) hz hTI hTO ⟨t1, pl⟩ ⟨t2, pt.isList⟩ li li2 fun x1 x2 h' tk q1 q2 z' TO' s1' s2' hT hsz hk => ?_
    have e1 : x1 = u := Option.some.inj (q1.symm.trans (by simpa using hu))
    have e2 : x2 = u2 := Option.some.inj (q2.symm.trans (by simpa using hu2))
    subst e1 e2
    refine ⟨_, rfl, wpAny_letOwnedTupleGo_zip (s := { s with heap := h', toks := tk }) z' fun h'' z'' sb => ?_⟩
    have hT2 : h''.get? s.heap.objs.size = some { cls := .type "tuple", data := .seq #[x1, x2] } := (sb.2 _ (Nat.ne_of_gt zl)).trans hT
    have new : ObjOk X.prog X.w (upd H s.heap.objs.size (.tup [x, y])) h'' s.heap.objs.size (.tup [x, y]) := ⟨by show 2 ≤ sizeLine; decide, [x1, x2], .cons ru (.cons ru2 .nil), ⟨_, hT2, rfl, _, rfl⟩⟩
    have moved : ∀ c o, c ∉ [z, TI, TO, i1, i2] → s.heap.get? c = some o → h''.get? c = some o := fun c o hb q => by
      simp only [List.mem_cons, List.not_mem_nil, or_false, not_or] at hb
      exact (sb.2 c hb.1).trans (hk c o hb.1 hb.2.2.1 hb.2.2.2.1 hb.2.2.2.2 q)
    have I1 : Inv X pins σ (upd H s.heap.objs.size (.tup [x, y])) { s with heap := h'', toks := tk } := I.turnedNew (t' := tk) (ch := [z, TI, TO, i1, i2]) moved hf (Nat.le_refl _) new
    refine ⟨.ref s.heap.objs.size, _, I1, rfl, ⟨_, x, y, rfl, I.hok.fresh (Nat.le_refl _), rfl, fun l hl => by rw [I.tuple_inj hl hqx]; exact hx, fun l hl => by rw [I.list_inj hl hqy]; exact hy⟩,
      ⟨z'', (sb.2 _ D.TIz).trans (hk _ _ D.TIz D.TITO D.TIi1 D.TIi2 hTI), ⟨x1, x2, (sb.2 _ D.TOz).trans TO'⟩, s1'.1.at fun o q => (sb.2 _ D.i1z).trans q, s2'.1.at fun o q => (sb.2 _ D.i2z).trans q⟩, fun c hcm => ?_⟩
    have lt : c < s.heap.objs.size := by
      simp only [List.mem_cons, List.not_mem_nil, or_false] at hcm
      rcases hcm with rfl | rfl | rfl | rfl | rfl
      · exact zl
      · exact Heap.lt_size hTI
      · exact Heap.lt_size hTO
      · obtain ⟨_, q, _⟩ := t1; exact Heap.lt_size q
      · obtain ⟨_, q, _⟩ := t2; exact Heap.lt_size q
    rw [upd_ne (Nat.ne_of_lt lt)]
    exact (hf c hcm).1
  done := by
    intro X hP hw hK hc i pins s σ H E I hf st hg
    subst hP hw hK
    obtain ⟨hz, hTI, ⟨x0, y0, hTO⟩, t1, t2⟩ := st
    obtain ⟨xs, ys, hqx, hqy, e1, e2⟩ := hg
    obtain ⟨its, rv, pl, _⟩ := I.tuple hqx
    obtain ⟨its2, rv2, pt, _⟩ := I.list hqy
    have l1 := rv.length
    have l2 := rv2.length
    have hh : X.A.in1.handled = none := I.ok.hd hc
    have s1 : its.toArray.size = i := by simp; omega
    have s2 : its2.toArray.size = i := by simp; omega
    refine wpAny_pyNext_zipD2_end (sep_of D) (Draws.tuple hh i1 a D.l1i1 its.toArray) (Draws.list hh i2 b D.l2i2 its2.toArray) hz hTI hTO ⟨t1, pl⟩ ⟨t2, pt.isList⟩ (by omega) (by omega) (.inl s1.symm) fun h' tk hk => ⟨rfl, ?_⟩
    refine I.turnedL (t' := tk) (ch := [z, TI, TO, i1, i2]) (fun c o hb q => ?_) hf
    simp only [List.mem_cons, List.not_mem_nil, or_false, not_or] at hb
    exact hk c o hb.1 hb.2.2.1 hb.2.2.2.1 hb.2.2.2.2 q
  self := fun A i s Q E st h => wpAny_pyIter_zip st.1 h
/-! the call -/
abbrev zn1 (h : Heap) (a : Addr) : Heap := h.push { cls := .type "tuple_iterator", data := .fields #[.ref a, .int 0 0] }
abbrev zn2 (h : Heap) (a b : Addr) : Heap := (zn1 h a).push { cls := .type "list_iterator", data := .fields #[.ref b, .int 0 0] }
abbrev zn3 (h : Heap) (a b : Addr) : Heap := (zn2 h a b).push { cls := .type "tuple", data := .seq #[.ref h.objs.size, .ref (zn1 h a).objs.size] }
abbrev zn4 (h : Heap) (a b : Addr) : Heap := (zn3 h a b).push { cls := .type "tuple", data := .seq #[.none, .none] }
abbrev zn5 (h : Heap) (a b : Addr) : Heap := (zn4 h a b).push { cls := .type "zip", data := .fields #[.none, .bool false, .bool false, .ref (zn2 h a b).objs.size, .ref (zn3 h a b).objs.size] }
theorem meets_zn (a b : Addr) (xs ys : Array Value) :
    Meets (Builtin.«zip.__new__» ⟨[.type "zip", .ref a, .ref b], []⟩) (fun _ R s => s.heap.IsTuple a xs ∧ s.heap.IsList b ys ∧ R (.ok (.ret (.ref (zn4 s.heap a b).objs.size))) { s with heap := zn5 s.heap a b }) :=
  .of_wp fun prog w A R s h => by
    obtain ⟨hp, g, d, tk, os⟩ := s
    obtain ⟨ha, hb, h⟩ := h
    have hsub := sub_zip
    have La : Heap.IsTuple (Shared.heap ⟨hp, g, d, tk, os⟩) a xs := ha
    have Lb : Heap.IsList (Shared.heap ⟨hp.push { cls := .type "tuple_iterator", data := .fields #[.ref a, .int 0 0] }, g, d, tk, os⟩) b ys := Heap.IsList.push hb _
    wp_walk using wpAny_pyIter_tuple La, wpAny_pyIter_list Lb
    exact ⟨_, rfl, h⟩
section
variable {prog : Program} {w : World} {A : Around} {E : Value → Shared → Prop} {s : Shared}
theorem call_zn {a b : Addr} {xs ys : Array Value} {Q : Value → Shared → Prop} (ha : s.heap.IsTuple a xs) (hb : s.heap.IsList b ys)
    (go : ∀ h', IsZip h' (s.heap.objs.size + 4) (s.heap.objs.size + 2) (s.heap.objs.size + 3) .none → IsPair h' (s.heap.objs.size + 2) (.ref s.heap.objs.size) (.ref (s.heap.objs.size + 1)) → IsPair h' (s.heap.objs.size + 3) .none .none →
      h'.IsTupleIter s.heap.objs.size a 0 → h'.IsListIter (s.heap.objs.size + 1) b 0 → (∀ c o, s.heap.get? c = some o → h'.get? c = some o) → Q (.ref (s.heap.objs.size + 4)) { s with heap := h' }) :
    wpAny (model prog w) A (call (.type "zip") [.ref a, .ref b]) Q E s := by
  refine callType_new F.called_zip (by decide) (F.typeCall_zip_2 _ _) (F.newCall_zip_2 _ _) (fun obj => F.args_object_init_3 obj _ _) F.entry_zip_new (meets_zn a b xs ys) ⟨ha, hb, ?_⟩
  have n1 : (zn1 s.heap a).objs.size = s.heap.objs.size + 1 := by rw [Heap.size_push]
  have n2 : (zn2 s.heap a b).objs.size = s.heap.objs.size + 2 := by rw [Heap.size_push, n1]
  have n3 : (zn3 s.heap a b).objs.size = s.heap.objs.size + 3 := by rw [Heap.size_push, n2]
  have n4 : (zn4 s.heap a b).objs.size = s.heap.objs.size + 4 := by rw [Heap.size_push, n3]
  have k45 : ∀ {c o}, (zn4 s.heap a b).get? c = some o → (zn5 s.heap a b).get? c = some o := fun e => Heap.get?_push_of_some _ e
  have k35 : ∀ {c o}, (zn3 s.heap a b).get? c = some o → (zn5 s.heap a b).get? c = some o := fun e => k45 (Heap.get?_push_of_some _ e)
  have k25 : ∀ {c o}, (zn2 s.heap a b).get? c = some o → (zn5 s.heap a b).get? c = some o := fun e => k35 (Heap.get?_push_of_some _ e)
  have k15 : ∀ {c o}, (zn1 s.heap a).get? c = some o → (zn5 s.heap a b).get? c = some o := fun e => k25 (Heap.get?_push_of_some _ e)
  have o5 : (zn5 s.heap a b).get? (zn4 s.heap a b).objs.size = some _ := Heap.get?_push_size _ rfl
  have o4 := k45 (c := (zn3 s.heap a b).objs.size) (Heap.get?_push_size _ rfl)
  have o3 := k35 (c := (zn2 s.heap a b).objs.size) (Heap.get?_push_size _ rfl)
  have o2 := k25 (c := (zn1 s.heap a).objs.size) (Heap.get?_push_size _ rfl)
  have o1 := k15 (c := s.heap.objs.size) (Heap.get?_push_size _ rfl)
  show _ ∧ _
  rw [n2, n3, n4] at o5
  rw [n3] at o4
  rw [n1, n2] at o3
  rw [n1] at o2
  rw [n4]
  exact ⟨⟨_, o5, rfl⟩, go _ o5 o3 o4 ⟨_, o1, rfl, rfl⟩ ⟨_, o2, rfl, rfl⟩ fun c o x => k15 (Heap.get?_push_of_some _ x)⟩
end
def iZipN (K : PySem.W.Frag) (ta : TA) : TI := fun σ H R => ta σ H fun vs H1 => ∃ a b xs ys, vs = [.ref a, .ref b] ∧ SqT K H1 a xs ∧ SqL K H1 b ys ∧ R (ItN K a b) H1
theorem pi_zipN {X : Cx} {e e2 : Expr} {ta : TA} {p pos tpos : Pos} {elts : List Expr} {kk : Nat} (hg : Gl X "zip") (hm : X.mg "zip" = none) (ha : PA X [e, e2] ta)
    (hs : starEach [e, e2] X.env = (false, eval e X.env) :: starEach [e2] X.env := by rfl) (hpl : (backTo pos (starEach [e2] X.env)).any (·.1) = false := by rfl) :
    PI X (.Tuple elts kk tpos) (.Call (.Name "zip" p) [e, e2] [] pos) (iZipN X.K ta) := by
  refine ⟨fun pins s σ H R I h => ?_⟩
  refine Call_ (ld_blt I hg hm PyProof.Rows.boot_zip (PyProof.Rows.callWith_type1 (thn (ha.run pos pins s σ H _ I h) fun us s1 z => ?_) hs hpl))
  obtain ⟨vs, H1, I1, r1, a, b, xs, ys, ex, hqx, hqy, q⟩ := z
  subst ex
  obtain rfl : us = [.ref a, .ref b] := by
    cases r1 with
    | cons r rr =>
      cases rr with
      | cons r' rr =>
        cases rr
        cases r
        cases r'
        rfl
  obtain ⟨its, rv, pl, _⟩ := I1.tuple hqx
  obtain ⟨its2, rv2, pt, _⟩ := I1.list hqy
  have lta : a < s1.heap.objs.size := by
    obtain ⟨o, ho, _⟩ := id pl
    exact Heap.lt_size ho
  refine call_zn (show s1.heap.IsTuple a its.toArray from pl) pt.isList fun h' hz hTI hTO t1 t2 hk => wpAny_pyIter_zip hz ?_
  have I2 : Inv X pins σ H1 { s1 with heap := h' } := I1.kept (t' := s1.toks) hk
  refine ⟨s1.heap.objs.size + 4, [s1.heap.objs.size + 4, s1.heap.objs.size + 2, s1.heap.objs.size + 3, s1.heap.objs.size, s1.heap.objs.size + 1], _, _, H1, rfl, I2, turn_n (PySem.W.ktu_apart s1.heap.objs.size a b lta pt.lt), ⟨hz, hTI, ⟨_, _, hTO⟩, t1, t2⟩, fun c hcm => ?_, q⟩
  have le : s1.heap.objs.size ≤ c := by
    simp only [List.mem_cons, List.not_mem_nil, or_false] at hcm
    rcases hcm with rfl | rfl | rfl | rfl | rfl <;> omega
  exact I1.fpOk le (I1.hok.fresh le)
/-- [e for x, y in zip(l, t)] -/
theorem lc_zipN {K : PySem.W.Frag} {a b : Addr} {xs ys : List V} {g : TG} {tt : TT} {te : TE} {vs : List Nat} {σ : L2.St} {H1 : Hp} {D : Addr} {Qd : Hp → Prop} (hl : xs.length = ys.length) (Pv : Nat → Hp → Prop) (h0 : Pv 0 (upd H1 D (.lst [])))
    (hq : ∀ i G, i ≤ xs.length → Pv i G → SqT K G a xs ∧ SqL K G b ys)
    (hs : ∀ (i : Nat) (x y : V) (T : Addr) (G : Hp), xs[i]? = some x → ys[i]? = some y → Pv i G → G T = none → g (.ref T) (wipe σ vs) (upd G T (.tup [x, y])) fun σ2 H2 => wipe σ2 vs = wipe σ vs ∧ tt σ2 H2 fun b H3 =>
      if b = true then te σ2 H3 fun y H4 => ∃ zs, H4 D = some (.lst zs) ∧ zs.length < sizeLine ∧ Pv (i + 1) (upd H4 D (.lst (zs ++ [y]))) else Pv (i + 1) H3) (hd : ∀ G, Pv xs.length G → Qd G) :
    ∃ W : Nat → Nat → Hp → Prop, (∃ m, W 0 m (upd H1 D (.lst []))) ∧ ∀ i m H, W i m H → ((ItN K a b).stop i H ∧ Qd H) ∨ ((ItN K a b).go i H ∧ ∃ Nx : Hp → Prop, (∀ H', Nx H' → ∃ m', m' < m ∧ W (i + 1) m' H') ∧ ∀ x H', (ItN K a b).yld i H x H' →
      g x (wipe σ vs) H' fun σ2 H2 => wipe σ2 vs = wipe σ vs ∧ tt σ2 H2 fun b H3 => if b = true then te σ2 H3 fun y H4 => ∃ zs, H4 D = some (.lst zs) ∧ zs.length < sizeLine ∧ Nx (upd H4 D (.lst (zs ++ [y]))) else Nx H3) := by
  refine ⟨fun i m H => m = xs.length - i ∧ i ≤ xs.length ∧ Pv i H, ⟨xs.length, by simp, Nat.zero_le _, h0⟩, fun i m H hw => ?_⟩
  obtain ⟨rfl, hi, p⟩ := hw
  obtain ⟨qx, qy⟩ := hq i H hi p
  by_cases lt : i < xs.length
  · refine .inr ⟨⟨xs, ys, xs[i], ys[i], qx, qy, List.getElem?_eq_getElem lt, List.getElem?_eq_getElem (by omega)⟩, Pv (i + 1), fun H' p' => ⟨xs.length - (i + 1), by omega, rfl, lt, p'⟩, fun v H' y => ?_⟩
    obtain ⟨T, x, y, rfl, nT, rfl, e1, e2⟩ := y
    exact hs i x y T H (e1 xs qx) (e2 ys qy) p nT
  · have e : i = xs.length := by omega
    subst e
    exact .inl ⟨⟨xs, ys, qx, qy, rfl, hl.symm⟩, hd H p⟩
end KX

set_option maxRecDepth 100000
set_option maxHeartbeats 4000000
/-! Ex33: zip of three lists -/
namespace KX
open PySem PySem.Spec PyProof.Rows L2
def It3 (K : PySem.W.Frag) (a b c : Addr) : It :=
  ⟨fun i H => ∃ (xs ys us : List V) (x y u : V), SqL K H a xs ∧ SqL K H b ys ∧ SqL K H c us ∧ xs[i]? = some x ∧ ys[i]? = some y ∧ us[i]? = some u,
    fun i H v G => ∃ T x y u, v = .ref T ∧ H T = none ∧ G = upd H T (.tup [x, y, u]) ∧ (∀ xs, SqL K H a xs → xs[i]? = some x) ∧ (∀ ys, SqL K H b ys → ys[i]? = some y) ∧ ∀ us, SqL K H c us → us[i]? = some u,
    fun i H => ∃ xs ys us : List V, SqL K H a xs ∧ SqL K H b ys ∧ SqL K H c us ∧ xs.length = i ∧ ys.length = i ∧ us.length = i⟩
structure Ap3 (z TI TO i1 i2 i3 a b c : Addr) : Prop where
  s : ZipSep3 z TI TO i1 i2 i3 [i1, a] [i2, b] [i3, c]
  la : a ≠ i1
  lb : b ≠ i2
  lc : c ≠ i3
theorem turn_3 {P : Program} {w : World} {K : PySem.W.Frag} {elts : List Expr} {kk : Nat} {tpos : Pos} {a b c z TI TO i1 i2 i3 : Addr} (D : Ap3 z TI TO i1 i2 i3 a b c) :
    Turn P w K (.Tuple elts kk tpos) (It3 K a b c) [z, TI, TO, i1, i2, i3] z (fun i h => IsZip h z TI TO .none ∧ IsTupOf3 h TI (.ref i1) (.ref i2) (.ref i3) ∧ (∃ x y u, IsTupOf3 h TO x y u) ∧ h.IsListIter i1 a i ∧ h.IsListIter i2 b i ∧ h.IsListIter i3 c i) where
  mem := by simp
  obj := fun i h st e hc => by
    obtain ⟨hz, hTI, ⟨x, y, u, hTO⟩, ⟨o1, e1, _, d1⟩, ⟨o2, e2, _, d2⟩, ⟨o3, e3, _, d3⟩⟩ := st
    simp only [List.mem_cons, List.not_mem_nil, or_false] at hc
    rcases hc with rfl | rfl | rfl | rfl | rfl | rfl
    · exact ⟨_, hz, fun v q => nomatch q⟩
    · exact ⟨_, hTI, fun v q => nomatch q⟩
    · exact ⟨_, hTO, fun v q => nomatch q⟩
    · exact ⟨o1, e1, fun v q => by rw [d1] at q; cases q⟩
    · exact ⟨o2, e2, fun v q => by rw [d2] at q; cases q⟩
    · exact ⟨o3, e3, fun v q => by rw [d3] at q; cases q⟩
  keep := fun i h h' st k => by
    obtain ⟨hz, hTI, ⟨x, y, u, hTO⟩, t1, t2, t3⟩ := st
    exact ⟨k z (by simp) _ hz, k TI (by simp) _ hTI, ⟨x, y, u, k TO (by simp) _ hTO⟩, t1.at fun o e => k i1 (by simp) o e, t2.at fun o q => k i2 (by simp) o q, t3.at fun o q => k i3 (by simp) o q⟩
  item := by
    intro X hP hw hK hc i pins s σ H E I hf st hg
    subst hP hw hK
    obtain ⟨hz, hTI, ⟨x0, y0, u0, hTO⟩, t1, t2, t3⟩ := st
    obtain ⟨xs, ys, us, x, y, u, hqx, hqy, hqu, hx, hy, hu⟩ := hg
    obtain ⟨it1, rv1, p1, _⟩ := I.list hqx
    obtain ⟨it2, rv2, p2, _⟩ := I.list hqy
    obtain ⟨it3, rv3, p3, _⟩ := I.list hqu
    obtain ⟨a1, ha1, ra1⟩ := rv1.get hx
    obtain ⟨a2, ha2, ra2⟩ := rv2.get hy
    obtain ⟨a3, ha3, ra3⟩ := rv3.get hu
    have zl : z < s.heap.objs.size := Heap.lt_size hz
    have hh : X.A.in1.handled = none := I.ok.hd hc
    have l1 : i < it1.toArray.size := by simpa using (List.getElem?_eq_some_iff.mp ha1).1
    have l2 : i < it2.toArray.size := by simpa using (List.getElem?_eq_some_iff.mp ha2).1
    have l3 : i < it3.toArray.size := by simpa using (List.getElem?_eq_some_iff.mp ha3).1
    refine wpAny_pyNext_zipD3_item D.s (Draws.list hh i1 a D.la it1.toArray) (Draws.list hh i2 b D.lb it2.toArray) (Draws.list hh i3 c D.lc it3.toArray) hz hTI hTO ⟨t1, p1.isList⟩ ⟨t2, p2.isList⟩ ⟨t3, p3.isList⟩ l1 l2 l3 fun x1 x2 x3 h' tk q1 q2 q3 z' TO' s1' s2' s3' hT hsz hk => ?_
    have e1 : x1 = a1 := Option.some.inj (q1.symm.trans (by simpa using ha1))
    have e2 : x2 = a2 := Option.some.inj (q2.symm.trans (by simpa using ha2))
    have e3 : x3 = a3 := Option.some.inj (q3.symm.trans (by simpa using ha3))
    subst e1 e2 e3
    refine ⟨_, rfl, wpAny_letOwnedTupleGo_zip (s := { s with heap := h', toks := tk }) z' fun h'' z'' sb => ?_⟩
    have hT2 : h''.get? s.heap.objs.size = some { cls := .type "tuple", data := .seq #[x1, x2, x3] } := (sb.2 _ (Nat.ne_of_gt zl)).trans hT
    have new : ObjOk X.prog X.w (upd H s.heap.objs.size (.tup [x, y, u])) h'' s.heap.objs.size (.tup [x, y, u]) := ⟨by show 3 ≤ sizeLine; decide, [x1, x2, x3], .cons ra1 (.cons ra2 (.cons ra3 .nil)), ⟨_, hT2, rfl, _, rfl⟩⟩
    have moved : ∀ e o, e ∉ [z, TI, TO, i1, i2, i3] → s.heap.get? e = some o → h''.get? e = some o := fun e o hb q => by
      simp only [List.mem_cons, List.not_mem_nil, or_false, not_or] at hb
      exact (sb.2 e hb.1).trans (hk e o hb.1 hb.2.2.1 hb.2.2.2.1 hb.2.2.2.2.1 hb.2.2.2.2.2 q)
    have I1 : Inv X pins σ (upd H s.heap.objs.size (.tup [x, y, u])) { s with heap := h'', toks := tk } := I.turnedNew (t' := tk) (ch := [z, TI, TO, i1, i2, i3]) moved hf (Nat.le_refl _) new
    have i1z : i1 ≠ z := D.s.zi1.symm
    have i2z : i2 ≠ z := D.s.zi2.symm
    have i3z : i3 ≠ z := D.s.zi3.symm
    refine ⟨.ref s.heap.objs.size, _, I1, rfl, ⟨_, x, y, u, rfl, I.hok.fresh (Nat.le_refl _), rfl, fun l hl => by rw [I.list_inj hl hqx]; exact hx, fun l hl => by rw [I.list_inj hl hqy]; exact hy, fun l hl => by rw [I.list_inj hl hqu]; exact hu⟩,
      ⟨z'', (sb.2 _ D.s.TIz).trans (hk _ _ D.s.TIz D.s.TITO D.s.TIi1 D.s.TIi2 D.s.TIi3 hTI), ⟨x1, x2, x3, (sb.2 _ D.s.TOz).trans TO'⟩, s1'.1.at fun o q => (sb.2 _ i1z).trans q, s2'.1.at fun o q => (sb.2 _ i2z).trans q, s3'.1.at fun o q => (sb.2 _ i3z).trans q⟩, fun e hcm => ?_⟩
    have lt : e < s.heap.objs.size := by
      simp only [List.mem_cons, List.not_mem_nil, or_false] at hcm
      rcases hcm with rfl | rfl | rfl | rfl | rfl | rfl
      · exact zl
      · exact Heap.lt_size hTI
      · exact Heap.lt_size hTO
      · obtain ⟨_, q, _⟩ := t1; exact Heap.lt_size q
      · obtain ⟨_, q, _⟩ := t2; exact Heap.lt_size q
      · obtain ⟨_, q, _⟩ := t3; exact Heap.lt_size q
    rw [upd_ne (Nat.ne_of_lt lt)]
    exact (hf e hcm).1
  done := by
    intro X hP hw hK hc i pins s σ H E I hf st hg
    subst hP hw hK
    obtain ⟨hz, hTI, ⟨x0, y0, u0, hTO⟩, t1, t2, t3⟩ := st
    obtain ⟨xs, ys, us, hqx, hqy, hqu, e1, e2, e3⟩ := hg
    obtain ⟨it1, rv1, p1, _⟩ := I.list hqx
    obtain ⟨it2, rv2, p2, _⟩ := I.list hqy
    obtain ⟨it3, rv3, p3, _⟩ := I.list hqu
    have l1 := rv1.length
    have l2 := rv2.length
    have l3 := rv3.length
    have hh : X.A.in1.handled = none := I.ok.hd hc
    have s1 : it1.toArray.size = i := by simp; omega
    have s2 : it2.toArray.size = i := by simp; omega
    have s3 : it3.toArray.size = i := by simp; omega
    refine wpAny_pyNext_zipD3_end D.s (Draws.list hh i1 a D.la it1.toArray) (Draws.list hh i2 b D.lb it2.toArray) (Draws.list hh i3 c D.lc it3.toArray) hz hTI hTO ⟨t1, p1.isList⟩ ⟨t2, p2.isList⟩ ⟨t3, p3.isList⟩ (by omega) (by omega) (by omega) (.inl s1.symm) fun h' tk hk => ⟨rfl, ?_⟩
    refine I.turnedL (t' := tk) (ch := [z, TI, TO, i1, i2, i3]) (fun e o hb q => ?_) hf
    simp only [List.mem_cons, List.not_mem_nil, or_false, not_or] at hb
    exact hk e o hb.1 hb.2.2.1 hb.2.2.2.1 hb.2.2.2.2.1 hb.2.2.2.2.2 q
  self := fun A i s Q E st h => wpAny_pyIter_zip st.1 h
def iZip3 (K : PySem.W.Frag) (ta : TA) : TI := fun σ H R => ta σ H fun vs H1 => ∃ a b c xs ys us, vs = [.ref a, .ref b, .ref c] ∧ SqL K H1 a xs ∧ SqL K H1 b ys ∧ SqL K H1 c us ∧ R (It3 K a b c) H1
theorem pi_zip3 {X : Cx} {e e2 e3 : Expr} {ta : TA} {p pos tpos : Pos} {elts : List Expr} {kk : Nat} (hg : Gl X "zip") (hm : X.mg "zip" = none) (ha : PA X [e, e2, e3] ta)
    (hs : starEach [e, e2, e3] X.env = (false, eval e X.env) :: starEach [e2, e3] X.env := by rfl) (hpl : (backTo pos (starEach [e2, e3] X.env)).any (·.1) = false := by rfl) :
    PI X (.Tuple elts kk tpos) (.Call (.Name "zip" p) [e, e2, e3] [] pos) (iZip3 X.K ta) := by
  refine ⟨fun pins s σ H R I h => ?_⟩
  refine Call_ (ld_blt I hg hm PyProof.Rows.boot_zip (PyProof.Rows.callWith_type1 (thn (ha.run pos pins s σ H _ I h) fun us s1 z => ?_) hs hpl))
  obtain ⟨vs, H1, I1, r1, a, b, c, xs, ys, us3, ex, hqx, hqy, hqu, q⟩ := z
  subst ex
  obtain rfl : us = [.ref a, .ref b, .ref c] := by
    cases r1 with
    | cons r rr =>
      cases rr with
      | cons r' rr =>
        cases rr with
        | cons r'' rr =>
          cases rr
          cases r
          cases r'
          cases r''
          rfl
  obtain ⟨it1, rv1, p1, _⟩ := I1.list hqx
  obtain ⟨it2, rv2, p2, _⟩ := I1.list hqy
  obtain ⟨it3, rv3, p3, _⟩ := I1.list hqu
  have la := p1.lt
  have lb := p2.lt
  have lc := p3.lt
  refine zip_begins3 (begins_list a it1.toArray) (begins_list b it2.toArray) (begins_list c it3.toArray) p1.isList p2.isList p3.isList fun h' hz hTI hTO g1 g2 g3 hsz hk => wpAny_pyIter_zip hz ?_
  have I2 : Inv X pins σ H1 { s1 with heap := h' } := I1.kept (t' := s1.toks) hk
  have ap : Ap3 (s1.heap.objs.size + 5) (s1.heap.objs.size + 3) (s1.heap.objs.size + 4) s1.heap.objs.size (s1.heap.objs.size + 1) (s1.heap.objs.size + 2) a b c :=
    ⟨zip_sep3 (fp1 := [a]) (fp2 := [b]) (fp3 := [c]) (fun d hd => by rw [List.mem_singleton.mp hd]; exact la) (fun d hd => by rw [List.mem_singleton.mp hd]; exact lb) (fun d hd => by rw [List.mem_singleton.mp hd]; exact lc), Nat.ne_of_lt la, Nat.ne_of_lt (Nat.lt_succ_of_lt lb), Nat.ne_of_lt (Nat.lt_succ_of_lt (Nat.lt_succ_of_lt lc))⟩
  refine ⟨s1.heap.objs.size + 5, [s1.heap.objs.size + 5, s1.heap.objs.size + 3, s1.heap.objs.size + 4, s1.heap.objs.size, s1.heap.objs.size + 1, s1.heap.objs.size + 2], _, _, H1, rfl, I2, turn_3 ap, ⟨hz, hTI, ⟨_, _, _, hTO⟩, ⟨_, g1, rfl, rfl⟩, ⟨_, g2, rfl, rfl⟩, ⟨_, g3, rfl, rfl⟩⟩, fun d hcm => ?_, q⟩
  have le : s1.heap.objs.size ≤ d := by
    simp only [List.mem_cons, List.not_mem_nil, or_false] at hcm
    rcases hcm with rfl | rfl | rfl | rfl | rfl | rfl <;> omega
  exact I1.fpOk le (I1.hok.fresh le)
/-- [e for x, y, u in zip(l, m, n)] -/
theorem lc_zip3 {K : PySem.W.Frag} {a b c : Addr} {xs ys us : List V} {g : TG} {tt : TT} {te : TE} {vs : List Nat} {σ : L2.St} {F : Hp} {D : Addr} {Fin : Hp → Prop} (l1 : xs.length = ys.length) (l2 : us.length = ys.length) (Pv : Nat → Hp → Prop) (base : Pv 0 (upd F D (.lst [])))
    (stays : ∀ i G, i ≤ ys.length → Pv i G → SqL K G a xs ∧ SqL K G b ys ∧ SqL K G c us)
    (step : ∀ (i : Nat) (x y u : V) (T : Addr) (G : Hp), xs[i]? = some x → ys[i]? = some y → us[i]? = some u → Pv i G → G T = none → g (.ref T) (wipe σ vs) (upd G T (.tup [x, y, u])) fun σ2 G2 => wipe σ2 vs = wipe σ vs ∧ tt σ2 G2 fun q G3 =>
      if q = true then te σ2 G3 fun v G4 => ∃ ws, G4 D = some (.lst ws) ∧ ws.length < sizeLine ∧ Pv (i + 1) (upd G4 D (.lst (ws ++ [v]))) else Pv (i + 1) G3) (last : ∀ G, Pv ys.length G → Fin G) :
    ∃ W : Nat → Nat → Hp → Prop, (∃ m, W 0 m (upd F D (.lst []))) ∧ ∀ i m G, W i m G → ((It3 K a b c).stop i G ∧ Fin G) ∨ ((It3 K a b c).go i G ∧ ∃ Nx : Hp → Prop, (∀ G', Nx G' → ∃ m', m' < m ∧ W (i + 1) m' G') ∧ ∀ x G', (It3 K a b c).yld i G x G' →
      g x (wipe σ vs) G' fun σ2 G2 => wipe σ2 vs = wipe σ vs ∧ tt σ2 G2 fun q G3 => if q = true then te σ2 G3 fun v G4 => ∃ ws, G4 D = some (.lst ws) ∧ ws.length < sizeLine ∧ Nx (upd G4 D (.lst (ws ++ [v]))) else Nx G3) := by
  refine ⟨fun i m G => m = ys.length - i ∧ i ≤ ys.length ∧ Pv i G, ⟨ys.length, by simp, Nat.zero_le _, base⟩, fun i m G hw => ?_⟩
  obtain ⟨rfl, hi, p⟩ := hw
  obtain ⟨q1, q2, q3⟩ := stays i G hi p
  by_cases lt : i < ys.length
  · refine .inr ⟨⟨xs, ys, us, xs[i], ys[i], us[i], q1, q2, q3, List.getElem?_eq_getElem (by omega), List.getElem?_eq_getElem lt, List.getElem?_eq_getElem (by omega)⟩, Pv (i + 1), fun G' p' => ⟨ys.length - (i + 1), by omega, rfl, lt, p'⟩, fun v G' yl => ?_⟩
    obtain ⟨T, x, y, u, rfl, nT, rfl, e1, e2, e3⟩ := yl
    exact step i x y u T G (e1 xs q1) (e2 ys q2) (e3 us q3) p nT
  · have e : i = ys.length := by omega
    subst e
    exact .inl ⟨⟨xs, ys, us, q1, q2, q3, l1, rfl, l2⟩, last G p⟩
end KX

set_option maxRecDepth 100000
set_option maxHeartbeats 4000000
/-! Ex34: what is told is locked: for k, v in f(..).items() -/
namespace KX
open PySem PySem.Spec PyProof.Rows L2
def tFrz (t : TE) : TE := fun σ H Q => t σ H fun x H1 => ∃ d u, x = .ref d ∧ H1 d = some u ∧ Mut (some u) ∧ ∀ od, Q x (upd H1 d (.frz od u))
theorem pe_frz {X : Cx} {e : PySem.Expr} {t : TE} (h : PE X e t) : PE X e (tFrz t) := ⟨fun pins s σ H Q I z => thn (h.run pins s σ H _ I z) fun u s' q => by
  obtain ⟨v, H', I', r, d, w, rfl, e1, m, k⟩ := q
  obtain ⟨od, I2⟩ := I'.lock e1 m
  exact ⟨_, _, I2, r, k od⟩⟩
end KX

set_option maxRecDepth 100000
set_option maxHeartbeats 4000000
namespace KX
open PySem PySem.Spec PyProof.Rows L2 PySem.W
/-! ### d.setdefault(t, x), the keys tuples -/
section
variable {X : Cx} {pins : List (Addr × Obj)} {σ : L2.St} {H : Hp} {s : Shared} {a b : Addr} {r : Value} {d : V} {k : List L2.Key} {A : Around} {E : Value → Shared → Prop}
theorem d_setdT {kvs : List (List L2.Key × V)} {Q : Value → Shared → Prop} (hu : A.units + 1 < cLine) (I : Inv X pins σ H s) (e : H a = some (.dT kvs)) (eb : H b = some (.tup (k.map kV))) (rd : RelV d r) (hl : kvs.length < sizeLine)
    (h1 : ∀ v, valV kvs k = some v → ∀ (w' : Value) (s' : Shared), Inv X pins σ H s' → RelV v w' → Q w' s') (h2 : valV kvs k = none → ∀ (w' : Value) (s' : Shared), Inv X pins σ (L2.upd H a (.dT (putK kvs k d))) s' → RelV d w' → Q w' s') :
    wpAny (model X.prog X.w) A (call (.builtin "dict.setdefault") [.ref a, .ref b, r]) Q E s := by
  obtain ⟨z, hd, xs, rel, dd⟩ := dt_of I.hok e
  have hz : xs.length ≤ sizeLine := by rw [← Paired.length rel]; exact z
  have q := rel.val k
  refine call_setdefault_heap (hsz := hz) (tupleKind_room_in1 hu) (key_of I.hok eb) hd dd (fun p hp => ?_) fun hn h' dd' hs => ?_
  · rw [hp] at q
    cases q0 : valV kvs k with
    | none =>
      rw [q0] at q
      exact (show False from q).elim
    | some v0 =>
      rw [q0] at q
      exact h1 v0 q0 _ _ (I.tok _) q
  · rw [hn] at q
    cases q0 : valV kvs k with
    | some v0 =>
      rw [q0] at q
      exact (show False from q).elim
    | none =>
      have hl2 : (putK kvs k d).length ≤ sizeLine := by
        have := length_putK kvs k d
        omega
      obtain ⟨u, es, ep, hq, g2, g3, g4, _, g5⟩ := dd'
      refine h2 q0 _ _ (d_write I (by rw [e]; exact True.intro) hs ⟨u, hq⟩ ⟨hl2, hd, _, (rel.put k eb rd).keeps fun c ys ec => ?_, u, es, ep, hq, g2, g3, g4, g5⟩) rd
      rw [upd_ne (ne_of ec e (fun z => nomatch z))]
      exact ec
end
def tDSetdT (td ty tx : TE) : TE := fun σ H Q => td σ H fun x H1 => ∃ a, x = .ref a ∧ IsD H1 a ∧ ty σ H1 fun y H2 => tx σ H2 fun z H3 => ∃ (kvs : List (List L2.Key × V)) (k : List L2.Key) (b : Addr), H3 a = some (.dT kvs) ∧ y = .ref b ∧ H3 b = some (.tup (k.map kV)) ∧ kvs.length < sizeLine ∧
  (∀ v, valV kvs k = some v → Q v H3) ∧ (valV kvs k = none → Q z (L2.upd H3 a (.dT (putK kvs k z))))
section
variable {X : Cx} {o e f : Expr} {td ty tx : TE} {apos cpos : Pos}
theorem pe_dsetdT (hu : X.A.units + 1 < cLine) (ho : PE X o td) (he : PE X e ty) (hf : PE X f tx) (m : M2 X o "setdefault" apos e f cpos) : PE X (.Call (.Attribute o "setdefault" apos) [e, f] [] cpos) (tDSetdT td ty tx) := by
  refine ⟨fun pins s σ H Q I h => ?_⟩
  refine wpAny_Call_method m.base m.few m.line PySem.F.plainAttrs_dict PySem.F.slot_dict_setdefault PySem.F.type_dict_setdefault (thn (ho.run pins s σ H _ I h) fun u s1 ⟨x, H1, I1, rx, a, ex, d, q1⟩ => ?_)
  subst ex
  obtain rfl : u = Value.ref a := rx
  obtain ⟨t1, t2, _⟩ := isD_at I1 d
  refine ⟨t1, t2, ?_⟩
  rw [m.trees]
  refine Calls.callWith_builtin rfl (Calls.evalArgs_plain (Calls.spliced_cons (thn (he.run pins s1 σ H1 _ I1 q1) fun iv s2 ⟨y, H2, I2, ry, q2⟩ =>
    Calls.spliced_cons (thn (hf.run pins s2 σ H2 _ I2 q2) fun fv s3 ⟨z, H3, I3, rz, kvs, k, b, ea, ey, eb, hl, q3, q4⟩ => Calls.spliced_nil ?_))))
  subst ey
  cases ry
  exact d_setdT hu I3 ea eb rz hl (fun v hv w' s4 I4 rw' => ⟨v, _, I4, rw', q3 v hv⟩) fun hn w' s4 I4 rw' => ⟨z, _, I4, rw', q4 hn⟩
end
/-! ### sorted(d), the keys pairs of numbers -/
def encP (p : Int × Int) : PyData := .tuple [.int p.1, .int p.2]
def keyP (p : Int × Int) : List L2.Key := [.inl p.1, .inl p.2]
def PtAt (H : Hp) (v : V) (p : Int × Int) : Prop := ∃ t, v = .ref t ∧ H t = some (.tup [.int p.1, .int p.2])
theorem PtAt.dx {H : Hp} {v : V} {p : Int × Int} (h : PtAt H v p) : Dx H v (encP p) := by
  obtain ⟨t, rfl, e⟩ := h
  exact .tup e (.cons (.int _) (.cons (.int _) .nil))
theorem PtAt.up {H G : Hp} {v : V} {p : Int × Int} (h : PtAt H v p) (s : Same H G) : PtAt G v p := by
  obtain ⟨t, rfl, e⟩ := h
  exact ⟨t, rfl, s _ _ e⟩
theorem key_p {p : Int × Int} : (keyP p).map kV = [V.int p.1, V.int p.2] := rfl
theorem pts_of {H : Hp} : ∀ {kvs : List (List L2.Key × V)} {ks : List (List L2.Key × Addr × Value)} {pts : List (Int × Int)}, KT H kvs ks → kvs.map (·.1) = pts.map keyP →
    ∃ bs : List (V × (Int × Int)), bs.map (·.2) = pts ∧ bs.map (·.1) = ks.map (fun x => V.ref x.2.1) ∧ ∀ b ∈ bs, PtAt H b.1 b.2
  | [], [], [], .nil, _ => ⟨[], rfl, rfl, fun b h => nomatch h⟩
  | [], _, _ :: _, _, e => by simp at e
  | _ :: _, _, [], _, e => by simp at e
  | kv :: kvs, k :: ks, p :: pts, .cons h t, e => by
    rw [List.map_cons, List.map_cons, List.cons.injEq] at e
    obtain ⟨bs, e1, e2, e3⟩ := pts_of t e.2
    refine ⟨(.ref k.2.1, p) :: bs, by rw [List.map_cons, e1], by rw [List.map_cons, List.map_cons, e2], fun b hb => ?_⟩
    rcases List.mem_cons.mp hb with rfl | hb
    · refine ⟨k.2.1, rfl, ?_⟩
      have := h.2.1
      rw [e.1, key_p] at this
      exact this
    · exact e3 b hb
theorem alike_pts (ps : List (Int × Int)) : AllAlike (ps.map encP) := AllAlike.of fun a b => by simp [encP, alike, alikeAll]
theorem sortable_pts (ps : List (Int × Int)) : Sortable (ps.map encP) := Sortable.tuples fun b => ⟨_, _, rfl⟩
def rSortP : List V → Hp → VK → Prop := fun vs H Q => ∃ (a : Addr) (kvs : List (List L2.Key × V)) (pts : List (Int × Int)), vs = [.ref a] ∧ Rd H a (.dT kvs) ∧ kvs.map (·.1) = pts.map keyP ∧
  ∀ p (bs : List (V × (Int × Int))), H p = none → bs.map (·.2) = pts → (∀ b ∈ bs, PtAt H b.1 b.2) → Q (.ref p) (L2.upd H p (.lst ((bs.mergeSort (dataLe false fun b => encP b.2)).map (·.1))))
theorem cr_sortP {X : Cx} {k : Nat} (hcalm : X.calm = true) (hr : Room k X.A) : CallR X (.builtin "sorted") rSortP := by
  intro pins s σ H vs us Q I r h
  obtain ⟨a, kvs, pts, e, hS, hks, q⟩ := h
  subst e
  obtain ⟨u, rfl, ru⟩ := vals1 r
  cases ru
  obtain ⟨z, lo, ks, pr, o, es, ep, ho, hx, hdt, he, hn⟩ := (show ObjOk X.prog X.w H s.heap a (.dT kvs) from hS.ok I.hok)
  have l1 : es.size = ks.length := size_of_entries he
  have l2 : kvs.length = ks.length := Paired.length pr
  obtain ⟨bs, eb1, eb2, eb3⟩ := pts_of pr hks
  have hun := hr.un
  refine call_function_entry_kw kind_sorted plain_sorted entry_sorted (args_sorted1 _) ?_
  unfold Builtin.«sorted»
  refine wpAny_bind (m := checkCount "sorted" 1 1 _) (wpAny_pure ?_)
  refine wpAny_bind (kdu_collect (A := X.A.in1) (kdl_raw lo hx hdt) (I.ok.hd hcalm) ho (by omega) fun h1 tk acc kp it => ?_)
  have ea : acc.toList = ks.map fun x => Value.ref x.2.1 := by
    have hl : acc.toList.length = ks.length := by rw [Array.length_toList, it.1]; exact l1
    apply List.ext_getElem?
    intro j
    rw [List.getElem?_map]
    cases hj : acc.toList[j]? with
    | none =>
      have h1 := List.getElem?_eq_none_iff.mp hj
      rw [List.getElem?_eq_none (by omega)]
      all_goals rfl
    | some v =>
      obtain ⟨en, hen, hv⟩ := it.2 j v (by rw [← Array.getElem?_toList]; exact hj)
      have qe := entry_at he j
      rw [hen] at qe
      cases hb : ks[j]? with
      | none =>
        rw [hb] at qe
        exact nomatch (show some en = none from qe)
      | some b =>
        rw [hb] at qe
        have e2 : en = entryOfKey (tupleKind (mixKind X.prog X.w)) b := Option.some.inj qe
        rw [hv, e2]
        all_goals rfl
  have lb : bs.length = ks.length := by
    have := congrArg List.length eb2
    rwa [List.length_map, List.length_map] at this
  have lpl : acc.toList.length = bs.length := by rw [ea, List.length_map, lb]
  have hlen : acc.toList.length ≤ sizeLine := by omega
  have J : Inv X pins σ H { s with heap := h1, toks := tk } := I.kept kp
  have at_ : ∀ (i : Nat) (u : Value) (b : V × (Int × Int)), acc.toList[i]? = some u → bs[i]? = some b → RelV b.1 u := fun i u b e f => by
    have g1 : (bs.map (·.1))[i]? = some b.1 := by rw [List.getElem?_map, f]; rfl
    rw [eb2, List.getElem?_map] at g1
    rw [ea, List.getElem?_map] at e
    cases hk : ks[i]? with
    | none => rw [hk] at e; cases e
    | some x =>
      rw [hk] at e g1
      have e1 : Value.ref x.2.1 = u := Option.some.inj e
      have e2 : V.ref x.2.1 = b.1 := Option.some.inj g1
      rw [← e1, ← e2]
      exact rfl
  have er : EachIs (fun v (b : V × (Int × Int)) => ∃ as, Reads h1 v (encP b.2) as) acc.toList bs := each_pairs lpl fun i u b e f =>
    Dp.reads J (encP b.2) b.1 u (dp_dx _ _ (by simp [encP, PyData.plain, PyData.plainAll]) (eb3 b (List.mem_of_getElem? f)).dx) (at_ i u b e f)
  have eR : EachIs (fun v (b : V × (Int × Int)) => RelV b.1 v) acc.toList bs := each_pairs lpl at_
  refine wpAny_bind (wpAny_newList ?_ hlen)
  have at1 : (h1.push (seqObj "list" acc.toList.toArray 0)).get? h1.objs.size = some (seqObj "list" acc.toList.toArray 0) := Heap.get?_push_size _ rfl
  have hal : AllAlike (bs.map fun b => encP b.2) := by
    rw [show (bs.map fun b => encP b.2) = (bs.map (·.2)).map encP by rw [List.map_map]; rfl]
    exact alike_pts _
  have hk : Sortable (bs.map fun b => encP b.2) := by
    rw [show (bs.map fun b => encP b.2) = (bs.map (·.2)).map encP by rw [List.map_map]; rfl]
    exact sortable_pts _
  have hdep : ∀ b, b ∈ bs → (encP b.2).depth ≤ 50 := fun b _ => by simp [encP, PyData.depth, PyData.depthAll]
  refine wpAny_bind (wpAny_holding (wpAny_call_entry_kw slot_list_sort ⟨_, at1, rfl⟩ entry_list_sort ?body (args_list_sort _)))
  case body =>
    show wpAny (model X.prog X.w) X.A.in1.in1 (Builtin.«list.sort» ⟨[.ref h1.objs.size], []⟩) _ _ { s with heap := h1.push (seqObj "list" acc.toList.toArray 0), toks := tk }
    have er' : EachIs (fun v (b : V × (Int × Int)) => ∃ as, Reads (sortingHeap (h1.push (seqObj "list" acc.toList.toArray 0)) h1.objs.size acc.toList) v (encP b.2) as) acc.toList bs :=
      each_later (fun b o q => sortingHeap_old (Nat.ne_of_lt (Heap.lt_size q)) (Heap.get?_push_of_some _ q)) er
    refine list_sort_vals (s := { s with heap := h1.push (seqObj "list" acc.toList.toArray 0), toks := tk }) at1 (SortsAt.data (s := { s with heap := sortingHeap (h1.push (seqObj "list" acc.toList.toArray 0)) h1.objs.size acc.toList, toks := tk })
      (each_map (R := fun v d => ∃ as, Reads (sortingHeap (h1.push (seqObj "list" acc.toList.toArray 0)) h1.objs.size acc.toList) v d as) (fun b : V × (Int × Int) => encP b.2) er') hal hk (bound_map fun b hb => by have := hdep b hb; show X.A.units + 2 + (encP b.2).depth < cLine; omega)) hlen ?_
    have rel : ∀ {ws : List Value} {ps : List (V × (Int × Int))}, EachIs (fun v (b : V × (Int × Int)) => RelV b.1 v) ws ps → Vals (ps.map (·.1)) ws := by
      intro ws ps e
      induction e with
      | nil => exact .nil
      | cons h t ih => exact .cons h ih
    have fin : ∀ out : List Value, out.length = bs.length → EachIs (fun v (b : V × (Int × Int)) => RelV b.1 v) out (bs.mergeSort (dataLe false fun b => encP b.2)) →
        EP X pins σ Q (.ref h1.objs.size) { s with heap := sortedHeap (h1.push (seqObj "list" acc.toList.toArray 0)) h1.objs.size acc.toList (List.toArray out), toks := tk } := fun out hl2 he2 => by
      obtain ⟨ep2, hep⟩ := sortedHeap_at (vs := acc.toList) (out := out.toArray) at1
      have old : ∀ b o, h1.get? b = some o → (sortedHeap (h1.push (seqObj "list" acc.toList.toArray 0)) h1.objs.size acc.toList out.toArray).get? b = some o := fun b o q => by
        have lt := Heap.lt_size q
        rw [sortedHeap_old (Nat.ne_of_lt lt) (by rw [size_push']; exact Nat.lt_succ_of_lt lt)]
        exact Heap.get?_push_of_some _ q
      refine ⟨.ref h1.objs.size, _, J.laid (t' := tk) old (Nat.le_refl _) (o := .lst ((bs.mergeSort (dataLe false fun b => encP b.2)).map (·.1))) ⟨?_, out, ep2, rel he2, hep⟩, rfl, q _ bs (J.hok.fresh (Nat.le_refl _)) eb1 eb3⟩
      rw [List.length_map, List.length_mergeSort]
      omega
    exact ⟨.none, rfl, wpAny_pure ⟨_, rfl, fin _ (by rw [sortVals_length false rfl]; exact lpl) (sortVals_data false eR er' hal)⟩⟩
end KX

set_option maxRecDepth 100000
set_option maxHeartbeats 4000000
namespace KX
open PySem PySem.Spec PyProof.Rows L2 PySem.W
section
variable {X : Cx}
/-- x in l, x not in l: l a list of data, x data, no dicts -/
def rInLD (K : PySem.W.Frag) (f : Bool → Bool) : R2 := fun x y H Q => ∃ d ds, Dp K H x d ∧ Dp K H y (.list ds) ∧ d.plain = true ∧ PyData.plainAll ds = true ∧ PyData.depthAll ds ≤ 60 ∧ Q (.bl (f (ds.any fun z => PyData.eqv z d))) H
theorem op_ninLD (hu : X.A.units + 64 < cLine) : OpR X (compareOp .NotIn) (rInLD X.K not) := by
  intro pins s σ H x y v u Q I rx ry h
  obtain ⟨d, ds, hd, he, pd, pe, hm, q⟩ := h
  obtain ⟨as, r1⟩ := Dp.reads I d x v hd rx
  obtain ⟨bs, r2⟩ := Dp.reads I (.list ds) y u he ry
  exact SeqAt.notIn_list_data r2 r1 pe pd (by omega) ⟨.bl _, H, I, rfl, q⟩
/-- min(l), l a list of alike data: one of its items -/
def rMinD {β : Type} (K : PySem.W.Frag) (enc : β → PyData) : List V → Hp → VK → Prop := fun vs H Q => ∃ (a : Addr) (bs : List (V × β)), vs = [.ref a] ∧ SqL K H a (bs.map (·.1)) ∧ bs ≠ [] ∧ (∀ b ∈ bs, Dp K H b.1 (enc b.2)) ∧ (∀ b ∈ bs, (enc b.2).depth ≤ 50) ∧
  (∀ x ∈ bs, ∀ y ∈ bs, alike (enc x.2) (enc y.2) = true) ∧ (∀ x ∈ bs, enc x.2 ≠ .none) ∧ ∀ b ∈ bs, Q b.1 H
theorem call_minD {β : Type} {enc : β → PyData} {k : Nat} (hcalm : X.calm = true) (hr : Room k X.A) : CallR X (.builtin "min") (rMinD X.K enc) := by
  intro pins s σ H vs us Q I r h
  obtain ⟨a, bs, e, hS, hne, hd, hdp, hal, hnn, q⟩ := h
  subst e
  obtain ⟨u, rfl, ru⟩ := vals1 r
  cases ru
  obtain ⟨its, rv, pl, hz⟩ := I.list hS
  have hlen := rv.length
  rw [List.length_map] at hlen hz
  have hun := hr.un
  have er : EachIs (fun v (b : V × β) => ∃ as, Reads s.heap v (enc b.2) as) its bs := each_pairs (by omega) fun i u b e f => by
    obtain ⟨u', e', ru⟩ := rv.get (i := i) (x := b.1) (by rw [List.getElem?_map, f]; rfl)
    rw [e] at e'
    cases e'
    exact Dp.reads I (enc b.2) b.1 u (hd b (List.mem_of_getElem? f)) ru
  obtain ⟨as, ra⟩ := each_readsAll (fun b : V × β => enc b.2) er
  have fin : ∀ (i : Nat) (v : Value) (h' : PySem.Heap) (tk : Tok), its.toArray[i]? = some v → (∀ b o, s.heap.get? b = some o → h'.get? b = some o) → EP X pins σ Q v { s with heap := h', toks := tk } := fun i v h' tk hv kp => by
    have hv : its[i]? = some v := by simpa using hv
    have hi : i < bs.length := by
      have := (List.getElem?_eq_some_iff.mp hv).1
      omega
    obtain ⟨u', e', ru⟩ := rv.get (i := i) (x := bs[i].1) (by rw [List.getElem?_map, List.getElem?_eq_getElem hi]; rfl)
    rw [hv] at e'
    cases e'
    exact ⟨bs[i].1, H, I.kept kp, ru, q _ (List.getElem_mem hi)⟩
  cases bs with
  | nil => exact absurd rfl hne
  | cons b0 bs =>
    have hdl : PyData.depthAll (enc b0.2 :: bs.map fun b => enc b.2) ≤ 50 := by
      have gen : ∀ es : List PyData, (∀ e ∈ es, e.depth ≤ 50) → PyData.depthAll es ≤ 50 := by
        intro es
        induction es with
        | nil => intro _; simp [PyData.depthAll]
        | cons e es ih =>
          intro h
          have h1 := h e (by simp)
          have h2 := ih fun x hx => h x (by simp [hx])
          simp only [PyData.depthAll]
          omega
      refine gen _ fun e he => ?_
      rcases List.mem_cons.mp he with rfl | he
      · exact hdp b0 (by simp)
      · obtain ⟨b, hb, rfl⟩ := List.mem_map.mp he
        exact hdp b (by simp [hb])
    have mem : ∀ e ∈ enc b0.2 :: bs.map (fun b => enc b.2), ∃ b ∈ b0 :: bs, e = enc b.2 := fun e he => by
      rcases List.mem_cons.mp he with rfl | he
      · exact ⟨b0, by simp, rfl⟩
      · obtain ⟨b, hb, rfl⟩ := List.mem_map.mp he
        exact ⟨b, by simp [hb], rfl⟩
    refine min_list_data (I.ok.hd hcalm) pl.isList (vs := its.toArray) (x := enc b0.2) (xs := bs.map fun b => enc b.2) (as := as) (by simpa using ra) ⟨fun x hx y hy => ?_, fun x hx => ?_⟩ (by omega) fun i v h' tk bs' hv _ kp => fin i v h' tk hv kp
    · obtain ⟨b, hb, rfl⟩ := mem x hx
      obtain ⟨c, hc, rfl⟩ := mem y hy
      exact hal b hb c hc
    · obtain ⟨b, hb, rfl⟩ := mem x hx
      exact hnn b hb
end
end KX

set_option maxRecDepth 100000
set_option maxHeartbeats 4000000
namespace KX
open PySem PySem.Spec PyProof.Rows L2 PySem.W
section
variable {X : Cx}
/-- min(l), l a list of alike data: the least item -/
def rMinX {β : Type} (K : PySem.W.Frag) (enc : β → PyData) : List V → Hp → VK → Prop := fun vs H Q => ∃ (a : Addr) (bs : List (V × β)), vs = [.ref a] ∧ SqL K H a (bs.map (·.1)) ∧ bs ≠ [] ∧ (∀ b ∈ bs, Dp K H b.1 (enc b.2)) ∧ (∀ b ∈ bs, (enc b.2).depth ≤ 50) ∧
  (∀ x ∈ bs, ∀ y ∈ bs, alike (enc x.2) (enc y.2) = true) ∧ (∀ x ∈ bs, enc x.2 ≠ .none) ∧ ∀ b ∈ bs, (∃ b0 rest, bs = b0 :: rest ∧ enc b.2 = minD (enc b0.2) (rest.map fun b => enc b.2)) → Q b.1 H
theorem call_minX {β : Type} {enc : β → PyData} {k : Nat} (hcalm : X.calm = true) (hr : Room k X.A) : CallR X (.builtin "min") (rMinX X.K enc) := by
  intro pins s σ H vs us Q I r h
  obtain ⟨a, bs, e, hS, hne, hd, hdp, hal, hnn, q⟩ := h
  subst e
  obtain ⟨u, rfl, ru⟩ := vals1 r
  cases ru
  obtain ⟨its, rv, pl, hz⟩ := I.list hS
  have hlen := rv.length
  rw [List.length_map] at hlen hz
  have hun := hr.un
  have er : EachIs (fun v (b : V × β) => ∃ as, Reads s.heap v (enc b.2) as) its bs := each_pairs (by omega) fun i u b e f => by
    obtain ⟨u', e', ru⟩ := rv.get (i := i) (x := b.1) (by rw [List.getElem?_map, f]; rfl)
    rw [e] at e'
    cases e'
    exact Dp.reads I (enc b.2) b.1 u (hd b (List.mem_of_getElem? f)) ru
  obtain ⟨as, ra⟩ := each_readsAll (fun b : V × β => enc b.2) er
  have fin : ∀ (i : Nat) (v : Value) (h' : PySem.Heap) (tk : Tok) (m : PyData) (cs : List Addr), (∃ b0 rest, bs = b0 :: rest ∧ m = minD (enc b0.2) (rest.map fun b => enc b.2)) → Reads h' v m cs → its.toArray[i]? = some v → (∀ b o, s.heap.get? b = some o → h'.get? b = some o) → EP X pins σ Q v { s with heap := h', toks := tk } := fun i v h' tk m cs hm hrd hv kp => by
    have hv : its[i]? = some v := by simpa using hv
    have hi : i < bs.length := by
      have := (List.getElem?_eq_some_iff.mp hv).1
      omega
    obtain ⟨u', e', ru⟩ := rv.get (i := i) (x := bs[i].1) (by rw [List.getElem?_map, List.getElem?_eq_getElem hi]; rfl)
    rw [hv] at e'
    cases e'
    obtain ⟨as2, r2⟩ := Dp.reads (I.kept (t' := tk) kp) (enc bs[i].2) bs[i].1 v (hd _ (List.getElem_mem hi)) ru
    have eu := (Reads.unique r2 _ _ hrd).1
    obtain ⟨b0, rest, e1, e2⟩ := hm
    exact ⟨bs[i].1, H, I.kept kp, ru, q _ (List.getElem_mem hi) ⟨b0, rest, e1, eu.trans e2⟩⟩
  cases bs with
  | nil => exact absurd rfl hne
  | cons b0 bs =>
    have hdl : PyData.depthAll (enc b0.2 :: bs.map fun b => enc b.2) ≤ 50 := by
      have gen : ∀ es : List PyData, (∀ e ∈ es, e.depth ≤ 50) → PyData.depthAll es ≤ 50 := by
        intro es
        induction es with
        | nil => intro _; simp [PyData.depthAll]
        | cons e es ih =>
          intro h
          have h1 := h e (by simp)
          have h2 := ih fun x hx => h x (by simp [hx])
          simp only [PyData.depthAll]
          omega
      refine gen _ fun e he => ?_
      rcases List.mem_cons.mp he with rfl | he
      · exact hdp b0 (by simp)
      · obtain ⟨b, hb, rfl⟩ := List.mem_map.mp he
        exact hdp b (by simp [hb])
    have mem : ∀ e ∈ enc b0.2 :: bs.map (fun b => enc b.2), ∃ b ∈ b0 :: bs, e = enc b.2 := fun e he => by
      rcases List.mem_cons.mp he with rfl | he
      · exact ⟨b0, by simp, rfl⟩
      · obtain ⟨b, hb, rfl⟩ := List.mem_map.mp he
        exact ⟨b, by simp [hb], rfl⟩
    refine min_list_data (I.ok.hd hcalm) pl.isList (vs := its.toArray) (x := enc b0.2) (xs := bs.map fun b => enc b.2) (as := as) (by simpa using ra) ⟨fun x hx y hy => ?_, fun x hx => ?_⟩ (by omega) fun i v h' tk bs' hv rd kp => fin i v h' tk _ bs' ⟨b0, bs, rfl, rfl⟩ rd hv kp
    · obtain ⟨b, hb, rfl⟩ := mem x hx
      obtain ⟨c, hc, rfl⟩ := mem y hy
      exact hal b hb c hc
    · obtain ⟨b, hb, rfl⟩ := mem x hx
      exact hnn b hb
end
end KX

set_option maxRecDepth 100000
set_option maxHeartbeats 4000000
namespace KX
open PySem PySem.Spec PyProof.Rows L2
/-- a walk over zip of a tuple and a list -/
theorem walk_zipN {K : PySem.W.Frag} {p q : Addr} {us vs : List V} {n : Nat} (e : us.length = n) (e2 : vs.length = n) : Walk (ItN K p q) n (fun G => SqT K G p us ∧ SqL K G q vs) (YPair (fun m => us[m]?) (fun m => vs[m]?)) :=
  ⟨fun m G lt k => ⟨us, vs, us[m]'(by omega), vs[m]'(by omega), k.1, k.2, List.getElem?_eq_getElem _, List.getElem?_eq_getElem _⟩, fun G k => ⟨us, vs, k.1, k.2, e, e2⟩, fun m G r G2 _ k w => by
    obtain ⟨c, u, v, w1, w2, w3, w4, w5⟩ := w
    exact ⟨c, u, v, w1, w2, w3, w4 us k.1, w5 vs k.2⟩⟩
end KX

set_option maxRecDepth 100000
set_option maxHeartbeats 4000000
/-! Ex39: enumerate of a tuple -/
namespace KX
open PySem PySem.Spec PyProof.Rows L2
def ItQ (K : PySem.W.Frag) (p : Addr) : It where
  go := fun n G => ∃ (us : List V) (u : V), SqT K G p us ∧ us[n]? = some u
  yld := fun n G r G2 => ∃ (c : Addr) (u : V), r = .ref c ∧ G c = none ∧ G2 = upd G c (.tup [.int (n : Nat), u]) ∧ ∀ us, SqT K G p us → us[n]? = some u
  stop := fun n G => ∃ us : List V, SqT K G p us ∧ n = us.length
def EnAt (p ze j : Addr) (n : Nat) (h : PySem.Heap) : Prop := (∃ old, IsEnum h ze j ((0 : Int) + (n : Int)) old) ∧ h.IsTupleIter j p n
theorem turn_enq {P : Program} {w : World} {K : PySem.W.Frag} {es : List Expr} {kk : Nat} {tp : Pos} {p ze j : Addr} (ne : ze ≠ j) (np : p ≠ j) (nz : ze ≠ p) : Turn P w K (.Tuple es kk tp) (ItQ K p) [ze, j] ze (EnAt p ze j) := by
  have nin : ze ∉ [j, p] := by simp [ne, nz]
  refine ⟨by simp, fun n h st c hc => ?_, fun n h h2 st k => ?_, fun X hP hw hK hcalm n pins s σ G E I fr st hg => ?_, fun X hP hw hK hcalm n pins s σ G E I fr st hg => ?_, fun A n s Q E st k => wpAny_pyIter_enum st.1.choose_spec k⟩
  · obtain ⟨⟨old, e1⟩, ⟨o, e2, _, d2⟩⟩ := st
    simp only [List.mem_cons, List.not_mem_nil, or_false] at hc
    rcases hc with rfl | rfl
    · exact ⟨_, e1, fun v y => nomatch y⟩
    · exact ⟨_, e2, fun v y => by rw [d2] at y; cases y⟩
  · obtain ⟨⟨old, e1⟩, e2⟩ := st
    exact ⟨⟨old, k _ (by simp) _ e1⟩, e2.at fun o y => k j (by simp) o y⟩
  · subst hP hw hK
    obtain ⟨⟨old, e1⟩, e2⟩ := st
    obtain ⟨us, u, hp, hu⟩ := hg
    obtain ⟨as, ra, pa, _⟩ := I.tuple hp
    obtain ⟨u1, hu1, ru⟩ := ra.get hu
    have zlt : ze < s.heap.objs.size := Heap.lt_size e1
    have jlt : j < s.heap.objs.size := by obtain ⟨_, y, _⟩ := e2; exact Heap.lt_size y
    have hh : X.A.in1.handled = none := I.ok.hd hcalm
    have lt : n < as.toArray.size := by simpa using (List.getElem?_eq_some_iff.mp hu1).1
    refine wpAny_pyNext_enum_itemC (Draws.tuple hh j p np as.toArray) e1 ⟨e2, pa⟩ lt ne nin fun y1 h2 tk g1 f1 f2 fT fs fk => ?_
    have w1 : y1 = u1 := by
      rw [(by simpa using g1 : as[n]? = some y1)] at hu1
      exact Option.some.inj hu1
    subst w1
    refine ⟨_, rfl, wpAny_letOwnedTupleGo_enum (s := { s with heap := h2, toks := tk + 1 }) f1 fun h3 f3 sb => ?_⟩
    have keep3 : ∀ c o, c ∉ [ze, j] → s.heap.get? c = some o → h3.get? c = some o := fun c o nc y => by
      simp only [List.mem_cons, List.not_mem_nil, or_false, not_or] at nc
      exact (sb.2 c nc.1).trans (fk c o nc.1 nc.2 y)
    have fT3 : h3.get? s.heap.objs.size = some { cls := .type "tuple", data := .seq #[.int ((0 : Int) + (n : Int)) tk, y1] } := (sb.2 _ (Nat.ne_of_gt zlt)).trans fT
    have made : ObjOk X.prog X.w (upd G s.heap.objs.size (.tup [.int (n : Nat), u])) h3 s.heap.objs.size (.tup [.int (n : Nat), u]) := ⟨by show 2 ≤ sizeLine; decide, [.int ((0 : Int) + (n : Int)) tk, y1], .cons ⟨tk, by rw [Int.zero_add]⟩ (.cons ru .nil), ⟨_, fT3, rfl, _, rfl⟩⟩
    refine ⟨.ref s.heap.objs.size, _, I.turnedNew (t' := tk + 1) keep3 fr (Nat.le_refl _) made, rfl, ⟨_, u, rfl, I.hok.fresh (Nat.le_refl _), rfl, fun l y => by rw [I.tuple_inj y hp]; exact hu⟩, ⟨⟨y1, ?_⟩, f2.1.at fun o y => (sb.2 _ ne.symm).trans y⟩, fun c hc => ?_⟩
    · have e3 : (0 : Int) + ((n + 1 : Nat) : Int) = 0 + (n : Int) + 1 := by omega
      rw [e3]
      exact f3
    · have lt : c < s.heap.objs.size := by
        simp only [List.mem_cons, List.not_mem_nil, or_false] at hc
        rcases hc with rfl | rfl
        · exact zlt
        · exact jlt
      rw [upd_ne (Nat.ne_of_lt lt)]
      exact (fr c hc).1
  · subst hP hw hK
    obtain ⟨⟨old, e1⟩, e2⟩ := st
    obtain ⟨us, hp, hn⟩ := hg
    obtain ⟨as, ra, pa, _⟩ := I.tuple hp
    have hh : X.A.in1.handled = none := I.ok.hd hcalm
    have la := ra.length
    have sa : as.toArray.size = n := by rw [hn]; simpa using la.symm
    refine wpAny_pyNext_enum_endD (Draws.tuple hh j p np as.toArray) e1 (by rw [sa]; exact ⟨e2, pa⟩) fun h2 fk => ⟨rfl, I.turnedL (t' := s.toks) (ch := [ze, j]) (fun c o nc y => fk c o (fun z => nc (by simp [z])) y) fr⟩
/-- enumerate(v), v told by Begins -/
theorem meets_enumB {v : Value} {o : Obj} {H : PySem.Heap → Prop} (B : Begins v o H) : Meets (Builtin.«enumerate.__new__» ⟨[.type "enumerate", v], []⟩) (fun _ R s => H s.heap ∧ R (.ok (.ret (.ref (s.heap.push o).objs.size)))
    { s with heap := (s.heap.push o).push { cls := .type "enumerate", data := .fields #[.none, .bool false, .ref s.heap.objs.size, rawInt 0, .none, .none] } }) :=
  .of_wp fun prog w A R s h => by
    obtain ⟨hp, g, d, tk, os⟩ := s
    obtain ⟨h1, h⟩ := h
    have sb := sub_enumerate
    have it : ∀ {A2 : Around} {E2 : Value → Shared → Prop} {Q2 : Value → Shared → Prop}, Q2 (.ref hp.objs.size) ⟨hp.push o, g, d, tk, os⟩ → wpAny (model prog w) A2 (pyIter v) Q2 E2 ⟨hp, g, d, tk, os⟩ := fun q => B.iter prog w _ _ ⟨hp, g, d, tk, os⟩ _ h1 q
    wp_walk using it
    refine wpAny_stack_any fun st => wpAny_pure ?_
    split
    · rename_i c _ _ _ _ _
      cases (c == Value.type "enumerate") <;> (wp_walk using it; exact ⟨_, rfl, h⟩)
    · wp_walk using it
      exact ⟨_, rfl, h⟩
theorem call_enumB {prog : Program} {w : World} {A : Around} {E : Value → Shared → Prop} {s : Shared} {v : Value} {o : Obj} {H : PySem.Heap → Prop} {Q : Value → Shared → Prop} (B : Begins v o H) (h1 : H s.heap)
    (k : ∀ h2, IsEnum h2 (s.heap.objs.size + 1) s.heap.objs.size 0 .none → h2.get? s.heap.objs.size = some o → (∀ b ob, s.heap.get? b = some ob → h2.get? b = some ob) → Q (.ref (s.heap.objs.size + 1)) { s with heap := h2 }) :
    wpAny (model prog w) A (call (.type "enumerate") [v]) Q E s := by
  refine callType_new F.called_enumerate (by decide) (F.typeCall_enumerate_1 _) (F.newCall_enumerate_1 _) (fun obj => F.args_object_init_2 obj _) F.entry_enumerate_new (meets_enumB B) ⟨h1, ?_⟩
  have sz : (s.heap.push o).objs.size = s.heap.objs.size + 1 := Heap.size_push ..
  have at1 : ((s.heap.push o).push { cls := .type "enumerate", data := .fields #[.none, .bool false, .ref s.heap.objs.size, rawInt 0, .none, .none] }).get? (s.heap.push o).objs.size = some { cls := .type "enumerate", data := .fields #[.none, .bool false, .ref s.heap.objs.size, rawInt 0, .none, .none] } := Heap.get?_push_size _ rfl
  show _ ∧ _
  rw [sz] at at1 ⊢
  exact ⟨⟨_, at1, rfl⟩, k _ at1 (Heap.get?_push_of_some _ (Heap.get?_push_size _ B.free)) fun b ob y => Heap.get?_push_of_some _ (Heap.get?_push_of_some _ y)⟩
def iEnumQ (K : PySem.W.Frag) (ta : TA) : TI := fun σ G R => ta σ G fun rs G1 => ∃ p us, rs = [.ref p] ∧ SqT K G1 p us ∧ R (ItQ K p) G1
theorem pi_enumQ {X : Cx} {x : Expr} {ta : TA} {np cp tp : Pos} {es : List Expr} {kk : Nat} (gl : Gl X "enumerate") (gm : X.mg "enumerate" = none) (ha : PA X [x] ta) (st : starEach [x] X.env = [(false, eval x X.env)] := by rfl) :
    PI X (.Tuple es kk tp) (.Call (.Name "enumerate" np) [x] [] cp) (iEnumQ X.K ta) := by
  refine ⟨fun pins s σ G R I k => Call_ (ld_blt I gl gm boot_enumerate (PyProof.Rows.callWith_type1 (thn (ha.run cp pins s σ G _ I k) fun args s1 ⟨rs, G1, I1, r1, p, us, e, hp, k1⟩ => ?_) st rfl))⟩
  subst e
  cases r1 with
  | cons c1 r1 =>
    cases r1
    cases c1
    obtain ⟨as, ra, pa, _⟩ := I1.tuple hp
    have lp : p < s1.heap.objs.size := by obtain ⟨o, e, _⟩ := id pa; exact Heap.lt_size e
    refine call_enumB (begins_tuple p as.toArray) pa fun h2 f1 f2 fk => wpAny_pyIter_enum f1 ?_
    refine ⟨_, _, _, _, G1, rfl, I1.kept (t' := s1.toks) fk, turn_enq (Nat.succ_ne_self _) (Nat.ne_of_lt lp) (Nat.ne_of_gt (Nat.lt_succ_of_lt lp)), ⟨⟨_, f1⟩, ⟨_, f2, rfl, rfl⟩⟩, fun c hc => ?_, k1⟩
    have le : s1.heap.objs.size ≤ c := by
      simp only [List.mem_cons, List.not_mem_nil, or_false] at hc
      rcases hc with rfl | rfl
      · exact Nat.le_add_right _ 1
      · exact Nat.le_refl _
    exact I1.fpOk le (I1.hok.fresh le)
theorem walk_enumQ {K : PySem.W.Frag} {p : Addr} {us : List V} : Walk (ItQ K p) us.length (fun G => SqT K G p us) (YPair (fun m => some (.int (m : Nat))) (fun m => us[m]?)) :=
  ⟨fun m G lt k => ⟨us, us[m], k, List.getElem?_eq_getElem _⟩, fun G k => ⟨us, k, rfl⟩, fun m G r G2 _ k w => by
    obtain ⟨c, u, w1, w2, w3, w4⟩ := w
    exact ⟨c, .int (m : Nat), u, w1, w2, w3, rfl, w4 us k⟩⟩
end KX

set_option maxRecDepth 100000
set_option maxHeartbeats 4000000
/-! Ex40: data some of whose tuples may be known as objects -/
namespace KX
open PySem PySem.Spec PyProof.Rows L2
mutual
inductive Dz (H : Hp) : V → PyData → Prop
  | dx {v : V} {d : PyData} (h : Dx H v d) : Dz H v d
  | tup {p : Addr} {us : List V} {ds : List PyData} (e : Rd H p (.tup us)) (h : Dzs H us ds) : Dz H (.ref p) (.tuple ds)
inductive Dzs (H : Hp) : List V → List PyData → Prop
  | nil : Dzs H [] []
  | cons {v : V} {vs : List V} {d : PyData} {ds : List PyData} (h : Dz H v d) (t : Dzs H vs ds) : Dzs H (v :: vs) (d :: ds)
end
theorem rd_up {G G2 : Hp} {p : Addr} {u : HO} (h : Rd G p u) (s : Same G G2) : Rd G2 p u := by
  rcases h with h | ⟨o, h⟩
  · exact .inl (s _ _ h)
  · exact .inr ⟨o, s _ _ h⟩
theorem Dzs.of {H : Hp} : ∀ {us : List V} {ds : List PyData}, Dxs H us ds → Dzs H us ds
  | [], [], .nil => .nil
  | _ :: _, _ :: _, .cons h t => .cons (.dx h) (Dzs.of t)
mutual
theorem dz_up {G G2 : Hp} (s : Same G G2) : ∀ (d : PyData) (v : V), Dz G v d → Dz G2 v d
  | .tuple ds, v, h => by
    cases h with
    | dx h => exact .dx (h.up s)
    | tup e h => exact .tup (rd_up e s) (dzs_up s ds _ h)
  | .none, v, h => by cases h with | dx h => exact .dx (h.up s)
  | .bool _, v, h => by cases h with | dx h => exact .dx (h.up s)
  | .int _, v, h => by cases h with | dx h => exact .dx (h.up s)
  | .str _, v, h => by cases h with | dx h => exact .dx (h.up s)
  | .list _, v, h => by cases h with | dx h => exact .dx (h.up s)
  | .dict _, v, h => by cases h with | dx h => exact .dx (h.up s)
theorem dzs_up {G G2 : Hp} (s : Same G G2) : ∀ (ds : List PyData) (vs : List V), Dzs G vs ds → Dzs G2 vs ds
  | [], _, h => by cases h; exact .nil
  | d :: ds, _, h => by
    cases h with
    | cons h t => exact .cons (dz_up s d _ h) (dzs_up s ds _ t)
end
theorem Dz.up {G G2 : Hp} {v : V} {d : PyData} (h : Dz G v d) (s : Same G G2) : Dz G2 v d := dz_up s d v h
theorem Dzs.len {H : Hp} : ∀ {us : List V} {ds : List PyData}, Dzs H us ds → us.length = ds.length
  | [], [], .nil => rfl
  | _ :: _, _ :: _, .cons _ t => by rw [List.length_cons, List.length_cons, Dzs.len t]
/-- a tuple of such data -/
theorem dz_tup {H : Hp} {v : V} {ds : List PyData} (h : Dz H v (.tuple ds)) : ∃ p us, v = .ref p ∧ Rd H p (.tup us) ∧ Dzs H us ds := by
  cases h with
  | dx h =>
    cases h with
    | @tup a xs _ e h => exact ⟨a, xs, rfl, .inl e, Dzs.of h⟩
  | tup e h => exact ⟨_, _, rfl, e, h⟩
theorem Dzs.strs {H : Hp} : ∀ {us : List V} {ns : List Str}, Dzs H us (ns.map PyData.str) → us = ns.map V.str
  | [], [], _ => rfl
  | x :: us, n :: ns, h => by
    cases h with
    | cons h t =>
      cases h with
      | dx h =>
        cases h
        rw [List.map_cons, Dzs.strs t]
theorem dz_strs {H : Hp} {v : V} {ns : List Str} (h : Dz H v (.tuple (ns.map .str))) : ∃ p, v = .ref p ∧ Rd H p (.tup (ns.map V.str)) := by
  obtain ⟨p, us, rfl, e, h⟩ := dz_tup h
  rw [h.strs] at e
  exact ⟨p, rfl, e⟩
theorem strs_dz {H : Hp} {p : Addr} {ns : List Str} (e : Rd H p (.tup (ns.map V.str))) : Dz H (.ref p) (.tuple (ns.map .str)) := .tup e (by
  clear e
  induction ns with
  | nil => exact .nil
  | cons n ns ih => exact .cons (.dx (.str n)) ih)
section
variable {X : Cx} {pins : List (Addr × Obj)} {σ : L2.St} {H : Hp} {s : Shared}
mutual
theorem dz_reads (I : Inv X pins σ H s) : ∀ (d : PyData) (v : V) (u : Value), Dz H v d → RelV v u → ∃ as, Reads s.heap u d as ∧ sysModules ∉ as
  | .tuple ds, v, u, h, r => by
    cases h with
    | dx h => exact Dx.reads I _ v u h r
    | @tup p us _ e h =>
      cases r
      obtain ⟨its, rv, ⟨o, g1, g2, n, g3⟩, _⟩ := I.tuple (show SqT X.K H p us from .inl e)
      obtain ⟨as, g4, g5⟩ := dzs_reads I ds us its h rv
      exact ⟨_, Reads.tuple g1 g2 g3 g4, g5⟩
  | .none, v, u, h, r => by cases h with | dx h => exact Dx.reads I _ v u h r
  | .bool _, v, u, h, r => by cases h with | dx h => exact Dx.reads I _ v u h r
  | .int _, v, u, h, r => by cases h with | dx h => exact Dx.reads I _ v u h r
  | .str _, v, u, h, r => by cases h with | dx h => exact Dx.reads I _ v u h r
  | .list _, v, u, h, r => by cases h with | dx h => exact Dx.reads I _ v u h r
  | .dict _, v, u, h, r => by cases h with | dx h => exact Dx.reads I _ v u h r
theorem dzs_reads (I : Inv X pins σ H s) : ∀ (ds : List PyData) (vs : List V) (us : List Value), Dzs H vs ds → Vals vs us → ∃ as, ReadsAll s.heap us ds as ∧ sysModules ∉ as
  | [], _, _, h, r => by
    cases h
    cases r
    exact ⟨_, ReadsAll.nil, by simp⟩
  | d :: ds, _, _, h, r => by
    cases h with
    | cons h1 h2 =>
      cases r with
      | cons r1 r2 =>
        obtain ⟨as, g1, n1⟩ := dz_reads I d _ _ h1 r1
        obtain ⟨bs, g2, n2⟩ := dzs_reads I ds _ _ h2 r2
        exact ⟨_, ReadsAll.cons g1 g2, by simp [n1, n2]⟩
end
end
section
variable {X : Cx}
/-- repr of such a tuple -/
def rReprZ : List V → Hp → VK → Prop := fun xs H Q => ∃ x ds, xs = [x] ∧ Dz H x (.tuple ds) ∧ (PyData.tuple ds).showable = true ∧ (PyData.tuple ds).depth ≤ 100 ∧ (PyData.tuple ds).shown.length ≤ sizeLine ∧ Q (.str (PyData.tuple ds).shown) H
theorem call_reprZ {k : Nat} (hr : Room k X.A) (hg : X.A.guards = some []) : CallR X (.builtin "repr") rReprZ := by
  intro pins s σ H xs us Q I r h
  obtain ⟨x, ds, e, hd, hs, hdp, hz, q⟩ := h
  subst e
  obtain ⟨u, rfl, rx⟩ := vals1 r
  obtain ⟨as, hrd, hn⟩ := dz_reads I (.tuple ds) x u hd rx
  have hu := hr.un
  obtain ⟨p, ws, rfl, _, _⟩ := dz_tup hd
  cases (show u = Value.ref p from rx)
  exact repr_of_reads' hrd hs (fun _ => hn) hg (by omega) (fun _ _ e => e) (fun h2 u2 tk hk => ⟨.str (PyData.tuple ds).shown, H, I.kept (t' := tk) hk, ⟨_, rfl⟩, q⟩) hz
end
end KX

set_option maxRecDepth 100000
set_option maxHeartbeats 4000000
/-! Ex41: a text in a tuple of any data; a list of texts != a list of any data -/
namespace KX
open PySem PySem.Spec PyProof.Rows L2
theorem eq_dict_str {A : Around} {s : Shared} {l : Addr} {o : Obj} {es : Array DictEntry} {ep : Nat} (b : Str) (u : Tok) (ho : s.heap.get? l = some o) (hc : o.cls = .type "dict") (hd : o.data = .dict es ep) (hu : A.units < cLine) : SeqAt.EqAt A s (.ref l) (.str b u) false := fun prog w E Q h => by
  unfold eqBool
  refine wpAny_holding ?_
  refine wpAny_ite_split (fun z => absurd (eq_of_beq z) nofun) (fun _ => wpAny_bind (rc_dict_str b u ho hc hd hu prog w E _ (wpAny_truthy_bool h)))
theorem eq_data_str {X : Cx} {pins : List (Addr × Obj)} {σ : L2.St} {H : Hp} {s : Shared} {A : Around} {x : V} {d : PyData} {v : Value} {n : Str} {u : Tok} (I : Inv X pins σ H s) (hd : Dx H x d) (r : RelV x v) (hu : A.units < cLine) : SeqAt.EqAt A s v (.str n u) (isSt n d) := by
  cases hd with
  | non => cases r; exact SeqAt.EqAt.none_str n u
  | bl b => cases r; exact SeqAt.EqAt.bool_str b n u
  | int i =>
    obtain ⟨t, rfl⟩ := (show ∃ t, v = Value.int i t from r)
    exact SeqAt.EqAt.int_str i t n u
  | str y =>
    obtain ⟨t, rfl⟩ := (show ∃ t, v = Value.str y t from r)
    have e : isSt n (.str y) = (y == n) := by
      show decide (y = n) = (y == n)
      by_cases h : y = n
      · subst h; simp
      · rw [decide_eq_false h]; symm; simpa using h
    rw [e]
    exact SeqAt.EqAt.str_str y t n u
  | tup e h =>
    cases (show v = Value.ref _ from r)
    obtain ⟨its, r1, p1, _⟩ := I.tuple (.inl (.inl e))
    exact SeqAt.EqAt.tuple_str n u p1 hu
  | lst e _ h =>
    cases (show v = Value.ref _ from r)
    obtain ⟨its, r1, p1, _⟩ := I.list (.inl (.inl e))
    exact SeqAt.EqAt.list_str n u p1.isList hu
  | dic e =>
    cases (show v = Value.ref _ from r)
    obtain ⟨o, es, ep, h1, h2, h3⟩ := dic_at I e
    exact eq_dict_str n u h1 h2 h3 hu
  | dic1 e =>
    cases (show v = Value.ref _ from r)
    obtain ⟨o, es, ep, h1, h2, h3⟩ := dic_at I e
    exact eq_dict_str n u h1 h2 h3 hu
def isV (n : Str) : Value → Bool
  | .str m _ => decide (m = n)
  | _ => false
theorem isV_is {H : Hp} {x : V} {d : PyData} {v : Value} {n : Str} (hd : Dx H x d) (r : RelV x v) : isV n v = isSt n d := by
  cases hd with
  | non => cases r; rfl
  | bl b => cases r; rfl
  | int i => obtain ⟨t, rfl⟩ := (show ∃ t, v = Value.int i t from r); rfl
  | str y => obtain ⟨t, rfl⟩ := (show ∃ t, v = Value.str y t from r); rfl
  | tup e h => cases (show v = Value.ref _ from r); rfl
  | lst e _ h => cases (show v = Value.ref _ from r); rfl
  | dic e => cases (show v = Value.ref _ from r); rfl
  | dic1 e => cases (show v = Value.ref _ from r); rfl
theorem any_isV {H : Hp} {n : Str} : ∀ {us : List V} {its : List Value} {ds : List PyData}, Vals us its → Dxs H us ds → its.any (isV n) = ds.any (isSt n)
  | [], _, _, .nil, h => by cases h; rfl
  | _ :: _, _, _, .cons r rs, h => by
    cases h with
    | cons h t => rw [List.any_cons, List.any_cons, isV_is h r, any_isV rs t]
theorem vals_at {H : Hp} : ∀ {us : List V} {its : List Value} {ds : List PyData}, Vals us its → Dxs H us ds → ∀ v ∈ its, ∃ x d, RelV x v ∧ Dx H x d
  | [], _, _, .nil, _, v, hv => nomatch hv
  | _ :: _, _, _, .cons r rs, h, v, hv => by
    cases h with
    | cons h t =>
      rcases List.mem_cons.mp hv with rfl | hv
      · exact ⟨_, _, r, h⟩
      · exact vals_at rs t v hv
section
variable {X : Cx}
def rInTX (K : PySem.W.Frag) : R2 := fun x y H Q => ∃ (n : Str) (p : Addr) (us : List V) (ds : List PyData), x = .str n ∧ y = .ref p ∧ SqT K H p us ∧ Dxs H us ds ∧ Q (.bl (ds.any (isSt n))) H
theorem op_inTX (hu : X.A.units + 64 < cLine) : OpR X (compareOp .In) (rInTX X.K) := by
  intro pins s σ H x y v u Q I rx ry h
  obtain ⟨n, p, us, ds, rfl, rfl, hp, hd, q⟩ := h
  cases ry
  obtain ⟨t, rfl⟩ := (show ∃ t, v = Value.str n t from rx)
  obtain ⟨its, rv, pl, _⟩ := I.tuple hp
  have lt : X.A.in1.units < cLine := Nat.lt_of_le_of_lt (by show X.A.units + 1 ≤ X.A.units + 64; omega) hu
  have e : its.toArray.any (isV n) = ds.any (isSt n) := by
    rw [← Array.any_toList]
    exact any_isV rv hd
  refine SeqAt.in_tupleAt (e := isV n) (hl := pl) (he := fun w hw => ?_) (h := by rw [e]; exact ⟨.bl _, H, I, rfl, q⟩)
  obtain ⟨x, d, r1, h1⟩ := vals_at rv hd w (by simpa using hw)
  rw [isV_is h1 r1]
  exact eq_data_str I h1 r1 lt
def eqSt : List Str → List PyData → Bool
  | [], [] => true
  | n :: ns, d :: ds => isSt n d && eqSt ns ds
  | _, _ => false
theorem eqSt_is : ∀ {ns : List Str} {ds : List PyData}, eqSt ns ds = true ↔ ds = ns.map .str
  | [], [] => by simp [eqSt]
  | [], _ :: _ => by simp [eqSt]
  | _ :: _, [] => by simp [eqSt]
  | n :: ns, d :: ds => by
    unfold eqSt
    rw [Bool.and_eq_true, eqSt_is, List.map_cons]
    constructor
    · rintro ⟨h1, h2⟩
      rw [isSt_is h1, h2]
    · intro h
      cases h
      exact ⟨decide_eq_true rfl, rfl⟩
theorem eqSt_all : ∀ {ns : List Str} {ds : List PyData}, ns.length = ds.length → eqSt ns ds = (List.range ns.length).all fun j => isSt (ns.getD j "") (ds.getD j .none)
  | [], [], _ => rfl
  | n :: ns, d :: ds, h => by
    have ih := eqSt_all (ns := ns) (ds := ds) (by simpa using h)
    unfold eqSt
    rw [ih, List.length_cons, List.range_succ_eq_map, List.all_cons, List.all_map]
    rfl
def rNeLX (K : PySem.W.Frag) : R2 := fun x y H Q => ∃ (p q : Addr) (ns : List Str) (us : List V) (ds : List PyData), x = .ref p ∧ y = .ref q ∧ SqL K H p (ns.map V.str) ∧ SqL K H q us ∧ Dxs H us ds ∧ Q (.bl (!eqSt ns ds)) H
theorem op_neLX (hu : X.A.units + 64 < cLine) : OpR X (compareOp .NotEq) (rNeLX X.K) := by
  intro pins s σ H x y v u Q I rx ry h
  obtain ⟨p, q, ns, us, ds, rfl, rfl, hp, hq, hd, k⟩ := h
  cases rx
  cases ry
  obtain ⟨as, ra, pa, _⟩ := I.list hp
  obtain ⟨bs, rb, pb, _⟩ := I.list hq
  have la := ra.length
  have lb := rb.length
  have ld := hd.len
  rw [List.length_map] at la
  have lt : X.A.units < cLine := by omega
  have lt1 : X.A.in1.units < cLine := Nat.lt_of_le_of_lt (by show X.A.units + 1 ≤ X.A.units + 64; omega) hu
  by_cases sz : ns.length = ds.length
  · have key : SeqAt.RcNeAt X.A s (.ref p) (.ref q) (!(List.range as.toArray.size).all fun j => isSt (ns.getD j "") (ds.getD j .none)) := by
      refine SeqAt.RcNeAt.lists pa.isList pb.isList (by simp; omega) lt fun j h1 h2 => ?_
      have j1 : j < as.length := by simpa using h1
      have j2 : j < bs.length := by simpa using h2
      obtain ⟨a1, ea, r1⟩ := ra.get (i := j) (x := V.str (ns.getD j "")) (by rw [List.getElem?_map, List.getElem?_eq_getElem (by omega), List.getD_eq_getElem?_getD, List.getElem?_eq_getElem (by omega)]; rfl)
      obtain ⟨t, rfl⟩ := (show ∃ t, a1 = Value.str (ns.getD j "") t from r1)
      obtain ⟨d, ed, hx⟩ := hd.get' (i := j) (List.getElem?_eq_getElem (show j < us.length by omega))
      obtain ⟨b1, eb, r2⟩ := rb.get (i := j) (List.getElem?_eq_getElem (show j < us.length by omega))
      have e1 : as.toArray[j] = Value.str (ns.getD j "") t := by
        rw [List.getElem?_eq_getElem j1] at ea
        simpa using Option.some.inj ea
      have e2 : bs.toArray[j] = b1 := by
        rw [List.getElem?_eq_getElem j2] at eb
        simpa using Option.some.inj eb
      rw [e1, e2, show ds.getD j .none = d by rw [List.getD_eq_getElem?_getD, ed]; rfl]
      exact eq_str_data I hx r2 lt1
    have ez : (List.range as.toArray.size).all (fun j => isSt (ns.getD j "") (ds.getD j .none)) = eqSt ns ds := by
      rw [eqSt_all sz, show as.toArray.size = ns.length by simp; omega]
    rw [ez] at key
    exact key X.prog X.w X.xe _ ⟨.bl _, H, I, rfl, k⟩
  · have ez : eqSt ns ds = false := by
      cases z : eqSt ns ds with
      | false => rfl
      | true =>
        have := congrArg List.length (eqSt_is.mp z)
        rw [List.length_map] at this
        omega
    rw [ez] at k
    exact SeqAt.RcNeAt.lists_lengths pa.isList pb.isList (by simp; omega) lt X.prog X.w X.xe _ ⟨.bl _, H, I, rfl, k⟩
end
end KX

set_option maxRecDepth 100000
set_option maxHeartbeats 4000000
namespace E1
open PySem PySem.Spec PyProof.Rows L2 KX
/-! ### the text -/
def topS (i : Nat) : Stmt := PySem.Challenge.pw_spareskept_k31_tables_validated.main.body.getD i (.Pass ⟨0, 0, 0, 0⟩)
abbrev sTupB : Stmt := topS 10
structure Df (K : PySem.W.Frag) (mg : Str → Option Value) (x : String) (st : Stmt) (ps : List Str) (f : Addr) (fd : FuncData) : Prop where
  F : Fun K x x st f fd
  b : Binds K fd ps []
  g : mg x = some (.ref f)
structure Bl (mg : Str → Option Value) : Prop where
  isi : mg "isinstance" = none
  bool : mg "bool" = none
  int : mg "int" = none
  str : mg "str" = none
  tuple : mg "tuple" = none
  list : mg "list" = none
  len : mg "len" = none
  all : mg "all" = none
  range : mg "range" = none
  max : mg "max" = none
  min : mg "min" = none
  abs : mg "abs" = none
  repr : mg "repr" = none
  sorted : mg "sorted" = none
  ixe : mg "IndexError" = none
  vae : mg "ValueError" = none
  zip : mg "zip" = none
  any : mg "any" = none
  kye : mg "KeyError" = none
  sum : mg "sum" = none
  dict : mg "dict" = none
  enu : mg "enumerate" = none

/-! ### kinds of data -/
def tyN : PyData → String
  | .none => "NoneType" | .bool _ => "bool" | .int _ => "int" | .str _ => "str" | .list _ => "list" | .tuple _ => "tuple" | .dict _ => "dict"
def isaN (T : String) : PyData → Bool := fun d => (kitB (tyN d) T).getD false
theorem Dx.ty {K : PySem.W.Frag} {H : Hp} {v : V} {d : PyData} (h : Dx H v d) : TyX K H v (.type (tyN d)) := by
  cases h with
  | non => exact .base .non
  | bl b => exact .base (.bl b)
  | int i => exact .base (.int i)
  | str x => exact .base (.str x)
  | lst e n h => exact .base (.lst e)
  | tup e h => exact .base (.tup e)
  | dic e => exact .base (.dK e)
  | dic1 e => exact .base (.dK e)
theorem dz_ty {K : PySem.W.Frag} {H : Hp} {v : V} {d : PyData} (h : Dz H v d) : TyX K H v (.type (tyN d)) := by
  cases h with
  | dx h => exact Dx.ty h
  | tup e h =>
    rcases e with e | ⟨o, e⟩
    · exact .base (.tup e)
    · exact .fTuple e
def okT (T : String) : Bool := (["NoneType", "bool", "int", "str", "list", "tuple", "dict"].all fun a => (kitB a T).isSome)
section
variable {X : Cx}
def rIsD (T : String) : List V → Hp → VK → Prop := fun xs H Q => match xs with
  | [x, c] => c = .ty T ∧ ∃ d, Dz H x d ∧ Q (.bl (isaN T d)) H
  | _ => False
theorem call_isD {T : String} (hT : okT T = true) : CallR X (.builtin "isinstance") (rIsD T) := by
  intro pins s σ H xs us Q I r h
  match xs, h with
  | [x, c], h =>
  obtain ⟨e, d, hd, q⟩ := h
  subst e
  have ha := List.all_eq_true.mp hT
  have hs : (kitB (tyN d) T).isSome = true := ha (tyN d) (by cases d <;> simp [tyN])
  obtain ⟨b, hb⟩ := Option.isSome_iff_exists.mp hs
  have q2 : Q (.bl b) H := by
    have : isaN T d = b := by unfold isaN; rw [hb]; rfl
    rw [← this]; exact q
  exact call_isi pins s σ H _ us Q I r ⟨x, .ty T, .type (tyN d), .type T, b, rfl, .ty T, dz_ty hd, kit_ty hb, q2⟩
theorem pe_isD {T x : String} {e : Expr} {te : TE} {p p2 pos : Pos} (hT : okT T = true) (mi : X.mg "isinstance" = none) (hm : X.mg x = none) (hv : bootBuiltins x = some (.type T)) (he : PE X e te) (hg0 : Gl X "isinstance") (hg : Gl X x)
    (hn : (x : Str) ≠ "__name__" := by decide) (hd : ((x : Str) == ("__debug__" : Str)) = false := by decide)
    (h1 : starEach [e, .Name x p2] X.env = (false, eval e X.env) :: starEach [.Name x p2] X.env := by rfl) (h2 : starEach [.Name x p2] X.env = (false, eval (.Name x p2) X.env) :: starEach [] X.env := by rfl)
    (hpl : (backTo pos (starEach [.Name x p2] X.env)).any (·.1) = false := by rfl) :
    PE X (.Call (.Name "isinstance" p) [e, .Name x p2] [] pos) (tCB (rIsD T) (tCons te (tCons (tC (.ty T)) tNil))) := by
  refine ⟨fun pins s σ H Q I h => ?_⟩
  refine (pe_callB (call_isD hT) hg0 mi (by decide +kernel) (pa_cons he (pa_cons (pe_bltn (v := .ty T) hg hm hv rfl hn hd) pa_nil h2) h1) (by decide) (by decide) h1 hpl).run pins s σ H Q I ?_
  exact h
end
/-! ### is_between -/
section
variable {P : Program} {w : World} {K : PySem.W.Frag} {mg : Str → Option Value} {base : Heap}
end
end E1

set_option maxRecDepth 100000
set_option maxHeartbeats 4000000
namespace E1
open PySem PySem.Spec PyProof.Rows L2 KX
abbrev sName : Stmt := topS 18
structure Cs (mg : Str → Option Value) : Prop where
  lets : ∃ t, mg "MAX_LETTERS" = some (.int 8 t)
  abc : ∃ t, mg "LETTERS" = some (.str "abcdefghijklmnopqrstuvwxyz" t)
/-! ### is_tuple_between -/
def tupB (lo hi : Int) : PyData → Bool
  | .tuple ds => decide (lo ≤ (ds.length : Int)) && decide ((ds.length : Int) ≤ hi)
  | _ => false
def spTupB : Sp := fun vs H Q _ => ∃ v d lo hi, vs = [v, .int lo, .int hi] ∧ Dz H v d ∧ Q (.bl (tupB lo hi d)) H
theorem scTupB : FnScope ["value", "low", "high"] ["value", "low", "high"] (defScope sTupB) := ⟨rfl, rfl, rfl, by decide +kernel, rfl, by decide +kernel, by decide +kernel⟩
theorem isa_tuple {d : PyData} : isaN "tuple" d = match d with | .tuple _ => true | _ => false := by
  cases d <;> (simp only [isaN, tyN]; decide +kernel)
theorem isa_str {d : PyData} : isaN "str" d = match d with | .str _ => true | _ => false := by
  cases d <;> (simp only [isaN, tyN]; decide +kernel)
theorem isa_int {d : PyData} : isaN "int" d = match d with | .int _ => true | .bool _ => true | _ => false := by
  cases d <;> (simp only [isaN, tyN]; decide +kernel)
theorem isa_bool {d : PyData} : isaN "bool" d = match d with | .bool _ => true | _ => false := by
  cases d <;> (simp only [isaN, tyN]; decide +kernel)
section
variable {P : Program} {w : World} {K : PySem.W.Frag} {mg : Str → Option Value} {base : Heap}
theorem ok_tupB {f : Addr} {fd : FuncData} (B : Bl mg) (D : Df K mg "is_tuple_between" sTupB ["value", "low", "high"] f fd) : FnOk P w K mg base CX0 1 f fd ["value", "low", "high"] spTupB := by
  refine D.F.ok scTupB (fun vs H Q E h => ?_) (fun cdv A outer s H vs Q E hr h => ?_)
  · obtain ⟨v, d, lo, hi, rfl, _⟩ := h
    rfl
  · obtain ⟨v, d, lo, hi, rfl, hd, q⟩ := h
    refine ⟨_, pss_one (ps_ret (pe_and (pe_isD (T := "tuple") (x := "tuple") (by decide +kernel) B.isi B.tuple (by decide +kernel) (pv 0) (by rfl) (by rfl))
      (pe_one (pe_chain op_le op_le (pv 1) (pe_callB call_len_seq (by rfl) B.len PySem.boot_len (pa_cons (pv 0) pa_nil)) (pv 2))))), ?_⟩
    refine ⟨v, rfl, rfl, d, hd, _, rfl, ?_⟩
    rw [isa_tuple]
    cases d with
    | tuple ds =>
        obtain ⟨a, xs, rfl, e, h⟩ := dz_tup hd
        refine iteT ⟨_, rfl, _, rfl, a, xs, rfl, .inr (.inl e), _, _, rfl, rfl, _, rfl, ?_⟩
        rw [h.len]
        have e : tupB lo hi (.tuple ds) = (decide (lo ≤ (ds.length : Int)) && decide ((ds.length : Int) ≤ hi)) := rfl
        rw [e] at q
        by_cases h : lo ≤ (ds.length : Int)
        · rw [decide_eq_true h] at q ⊢
          exact iteT ⟨_, rfl, _, _, rfl, rfl, q⟩
        · rw [decide_eq_false h] at q ⊢
          exact iteF q
    | _ => exact iteF q
end
/-! ### is_name -/
def abc : Str := "abcdefghijklmnopqrstuvwxyz"
def letD (x : Str) : Bool := x.cps.toList.all fun c => decide (c ∈ abc.cps.toList)
def nameD : PyData → Bool
  | .str x => (decide (1 ≤ (x.length : Int)) && decide ((x.length : Int) ≤ 8)) && letD x
  | _ => false
def smS : PyData → Prop
  | .str x => x.length ≤ sizeLine
  | _ => True
def spName : Sp := fun vs H Q _ => ∃ v d, vs = [v] ∧ Dx H v d ∧ smS d ∧ ∀ H', Same H H' → Q (.bl (nameD d)) H'
theorem scName : FnScope ["value", "letter"] ["value"] (defScope sName) := ⟨rfl, rfl, rfl, by decide +kernel, rfl, by decide +kernel, by decide +kernel⟩
theorem same_new {H : Hp} {p : Addr} {o : HO} (h : H p = none) : Same H (upd H p o) := fun b x e => by
  rw [upd_ne (ne_of_none e h)]
  exact e
theorem same_at {H H' : Hp} {p : Addr} {o : HO} (h : Same H H') (n : H p = none) : Same H (upd H' p o) := fun b x e => by
  rw [upd_ne (ne_of_none e n)]
  exact h _ _ e
section
variable {P : Program} {w : World} {K : PySem.W.Frag} {mg : Str → Option Value} {base : Heap}
theorem ok_name {f : Addr} {fd : FuncData} (B : Bl mg) (C : Cs mg) (D : Df K mg "is_name" sName ["value"] f fd) : FnOk P w K mg base CX0 1 f fd ["value"] spName := by
  obtain ⟨t8, m8⟩ := C.lets
  obtain ⟨ta, ma⟩ := C.abc
  refine D.F.ok scName (fun vs H Q E h => ?_) (fun cdv A outer s H vs Q E hr h => ?_)
  · obtain ⟨v, d, rfl, _⟩ := h
    rfl
  · obtain ⟨v, d, rfl, hd, hsm, q⟩ := h
    refine ⟨_, pss_cons (ps_if (PW.pt (pw_or (pt_not (pt_val (pe_isD (T := "str") (x := "str") (by decide +kernel) B.isi B.str (by decide +kernel) (pv 0) (by rfl) (by rfl))))
        (pw_or1 (pt_not (pt_chain op_le op_le pe_int (pe_callB call_len_str (by rfl) B.len PySem.boot_len (pa_cons (pv 0) pa_nil)) (pe_glob (v := .int 8) (by rfl) m8 ⟨_, rfl⟩)))))) (pss_one (ps_ret pe_bl)) pss_nil)
      (pss_one (ps_ret (pe_callB (cr_all rfl) (by rfl) B.all (by decide +kernel) (pa_cons (pe_lc (own := [("letter", 1)]) (g := gName 1) rfl scName.nd (pi_str (pv 0)) (blkOk_by (N := ["value", "letter"]) (sc := defScope sName) (by decide +kernel))
        (fun _ _ _ _ _ => pg_name (i := 1) scName.nd rfl (Or.inl rfl)) (fun _ _ _ _ _ => pts_nil) (fun _ _ _ _ _ => pe_cmpR op_in_sign (pv 1) (pe_glob (v := .str abc) (by rfl) ma ⟨_, rfl⟩) (by rfl))) pa_nil)))), ?_⟩
    refine ⟨v, rfl, rfl, d, .dx hd, _, rfl, ?_⟩
    rw [isa_str]
    cases d with
    | str x =>
      cases hd
      refine iteF ⟨.str x, rfl, x, rfl, hsm, 1, _, rfl, rfl, _, rfl, ?_⟩
      have en : nameD (.str x) = ((decide (1 ≤ (x.length : Int)) && decide ((x.length : Int) ≤ 8)) && letD x) := rfl
      rw [en] at q
      by_cases h1 : 1 ≤ (x.length : Int)
      · rw [decide_eq_true h1] at q ⊢
        refine iteT ⟨_, _, rfl, rfl, _, rfl, ?_⟩
        by_cases h2 : (x.length : Int) ≤ 8
        · rw [decide_eq_true h2] at q ⊢
          refine iteF ⟨_, rfl, x, rfl, fun D nD => ?_⟩
          refine lc_it walk_str (fun i G => Same H G ∧ G D = some (.lst (((x.cps.toList.take i).map fun c => decide (c ∈ abc.cps.toList)).map V.bl))) ⟨same_at (Same.refl H) nD, upd_same⟩ (fun _ _ _ _ => trivial) (fun i c G G' hi hp hy => ?_) (fun G hp => ?_)
          · obtain ⟨rfl, cc, ec, rfl⟩ := hy
            refine ⟨rfl, _, rfl, cc, abc, rfl, rfl, _, hp.2, ?_, same_at hp.1 nD, ?_⟩
            · rw [List.length_map, List.length_map, List.length_take]
              have hx : x.cps.toList.length = x.length := by simp [Str.length]
              have hb : (8 : Nat) < sizeLine := by decide
              omega
            · rw [upd_same, List.take_add_one, show x.cps.toList[i]? = some cc by simpa using ec]
              simp
          · have hx : x.cps.toList.take x.cps.size = x.cps.toList := List.take_of_length_le (by simp)
            rw [hx] at hp
            refine ⟨D, _, rfl, .inl (.inl hp.2), ?_⟩
            have := q G hp.1
            rw [List.all_map]
            exact this
        · rw [decide_eq_false h2] at q ⊢
          exact iteT (q H (Same.refl H))
      · rw [decide_eq_false h1] at q ⊢
        exact iteF ⟨_, rfl, iteT (q H (Same.refl H))⟩
    | _ => exact iteT (q H (Same.refl H))
end
end E1

set_option maxRecDepth 100000
set_option maxHeartbeats 4000000
namespace E1
open PySem PySem.Spec PyProof.Rows L2 KX
/-! ### are_row_values -/
section
variable {P : Program} {w : World} {K : PySem.W.Frag} {mg : Str → Option Value} {base : Heap}
end
/-! ### is_row -/
section
variable {P : Program} {w : World} {K : PySem.W.Frag} {mg : Str → Option Value} {base : Heap}
end
end E1

set_option maxRecDepth 100000
set_option maxHeartbeats 4000000
namespace E1
open PySem PySem.Spec PyProof.Rows L2 KX
def clsB : Stmt → List Stmt
  | .ClassDef (body := b) .. => b
  | _ => []
end E1

set_option maxRecDepth 100000
set_option maxHeartbeats 4000000
namespace E1
open PySem PySem.Spec PyProof.Rows L2 KX
abbrev sDraw : Stmt := topS 44
abbrev sStream : Stmt := topS 43
def spDraw : Sp := fun vs H Q _ => ∃ (l : Addr) (t : Int), vs = [.ref l, .int t] ∧ StO H l ∧ 0 < t ∧ t < 2 ^ 64 ∧ ∀ H' n, Keep l H H' → StO H' l → 0 ≤ n → n < t → Q (.int n) H'
theorem scDraw : FnScope ["stream", "total", "found", "one", "stir", "two"] ["stream", "total"] (defScope sDraw) := ⟨rfl, rfl, rfl, by decide +kernel, rfl, by decide +kernel, by decide +kernel⟩
theorem i63 {a b c : Int} : atI [V.int a, V.int b, V.int c] 0 = some (V.int a) ∧ atI [V.int a, V.int b, V.int c] 1 = some (V.int b) ∧ atI [V.int a, V.int b, V.int c] 2 = some (V.int c) := ⟨rfl, rfl, rfl⟩
theorem mod_bd {x m : Int} (h : 0 < m) (h2 : m < 2 ^ 64) : -(2 ^ 64) < x % m ∧ x % m < 2 ^ 64 := by
  have a := Int.emod_nonneg x (show m ≠ 0 by omega)
  have b := Int.emod_lt_of_pos x h
  omega
section
variable {P : Program} {w : World} {K : PySem.W.Frag} {mg : Str → Option Value} {base : Heap}
theorem ok_draw {f : Addr} {fd : FuncData} (B : Bl mg) (D : Df K mg "_law_draw" sDraw ["stream", "total"] f fd) : FnOk P w K mg base CX0 1 f fd ["stream", "total"] spDraw := by
  refine D.F.ok scDraw (fun vs H Q E h => ?_) (fun cdv A outer s H vs Q E hr h => ?_)
  · obtain ⟨l, t, rfl, _⟩ := h
    rfl
  · obtain ⟨l, t, rfl, ⟨a, b, c, el⟩, t0, t1, q⟩ := h
    have nd := scDraw.nd
    refine ⟨_, pss_cons (ps_if (pt_cmpR op_gt (pe_ix ix_list (pv 0) pe_int (fun _ _ => rfl)) pe_int (nomark _))
        (pss_cons (ps_set (i := 2) nd rfl (.inl rfl) (pe_op op_mod (pe_ix ix_list (pv 0) pe_int (fun _ _ => rfl)) (pv 1)))
        (pss_cons (ps_asg (pe_op op_fdivW (pe_ix ix_list (pv 0) pe_int (fun _ _ => rfl)) (pv 1)) (pg_sub (pv 0) pe_int set_list))
        (pss_one (ps_ret (pv 2))))) pss_nil)
      (pss_cons (ps_asg (pe_op op_add (pe_ix ix_list (pv 0) pe_int (fun _ _ => rfl)) pe_int) (pg_sub (pv 0) pe_int set_list))
      (pss_cons (ps_set (i := 3) nd rfl (.inl rfl) (pe_op op_mod (pe_op op_add (pe_ix ix_list (pv 0) pe_int (fun _ _ => rfl)) (pe_op op_mul pe_int (pe_ix ix_list (pv 0) pe_int (fun _ _ => rfl)))) pe_int))
      (pss_cons (ps_set (i := 4) nd rfl (.inl rfl) (pe_op op_add (pe_op op_mul (pe_op op_mod (pe_op op_mul (pv 3) (pv 3)) pe_int) (pv 3)) (pe_op op_mul pe_int (pe_ix ix_list (pv 0) pe_int (fun _ _ => rfl)))))
      (pss_cons (ps_set (i := 5) nd rfl (.inl rfl) (pe_op op_mod (pe_op op_add (pv 4) (pe_op op_mod (pe_ix ix_list (pv 0) pe_int (fun _ _ => rfl)) pe_int)) pe_int))
      (pss_one (ps_ret (pe_op op_mod (pe_op op_add (pe_op op_fdiv (pe_op op_mod (pe_op op_mul (pv 5) (pv 5)) pe_int) pe_int)
        (pe_op op_mul (pe_op op_mul (pv 3) pe_int) (pe_callTy call_int1 (by rfl) B.int (by decide +kernel) (pa_cons (pe_cmpR op_gt (pv 1) (pe_op op_pow pe_int pe_int) (nomark _)) pa_nil)))) (pv 1)))))))), ?_⟩
    refine ⟨.ref l, rfl, l, _, 0, .int a, rfl, rfl, .inl (.inl el), rfl, a, 0, rfl, rfl, _, rfl, ite2 (fun h => ?_) fun h => ?_⟩
    · refine ⟨.ref l, rfl, l, _, 0, .int a, rfl, rfl, .inl (.inl el), rfl, .int t, rfl, a, t, rfl, rfl, t0, ?_⟩
      refine ⟨.ref l, rfl, l, _, 0, .int a, rfl, rfl, .inl (.inl el), rfl, .int t, rfl, a, t, rfl, rfl, wide_div (b := 64) t0 (by omega) (by decide) (by decide), ?_⟩
      refine ⟨.ref l, rfl, l, _, 0, 0, rfl, rfl, el, rfl, .int (a % t), rfl, ?_⟩
      exact q _ _ Keep.at ⟨_, _, _, upd_same⟩ (Int.emod_nonneg a (by omega)) (Int.emod_lt_of_pos a t0)
    · refine ⟨.ref l, rfl, l, _, 2, .int c, rfl, rfl, .inl (.inl el), rfl, c, 1, rfl, rfl, .ref l, rfl, l, _, 2, 2, rfl, rfl, el, rfl, ?_⟩
      have e2 : (upd H l (.lst [.int a, .int b, .int (c + 1)])) l = some (.lst [.int a, .int b, .int (c + 1)]) := upd_same
      refine ⟨.ref l, rfl, l, _, 1, .int b, rfl, rfl, .inl (.inl e2), rfl, .ref l, rfl, l, _, 2, .int (c + 1), rfl, rfl, .inl (.inl e2), rfl, 1500450271, c + 1, rfl, rfl, .inl ⟨by decide, by decide⟩,
        b, _, rfl, rfl, _, 4294967279, rfl, rfl, (show (0 : Int) < 4294967279 by decide), ?_⟩
      have o1 := mod_bd (x := b + 1500450271 * (c + 1)) (m := 4294967279) (by decide) (by decide)
      refine ⟨_, rfl, _, rfl, _, _, rfl, rfl, .inl o1, _, 4294967231, rfl, rfl, (show (0 : Int) < 4294967231 by decide), _, rfl, _, _, rfl, rfl, .inr o1,
        .ref l, rfl, l, _, 2, .int (c + 1), rfl, rfl, .inl (.inl e2), rfl, 10007, c + 1, rfl, rfl, .inl ⟨by decide, by decide⟩, _, _, rfl, rfl, ?_⟩
      refine ⟨_, rfl, .ref l, rfl, l, _, 1, .int b, rfl, rfl, .inl (.inl e2), rfl, b, 65537, rfl, rfl, (show (0 : Int) < 65537 by decide), _, _, rfl, rfl, _, 4294967197, rfl, rfl, (show (0 : Int) < 4294967197 by decide), ?_⟩
      have o2 : ∀ x : Int, -(2 ^ 64) < x % 4294967197 ∧ x % 4294967197 < 2 ^ 64 := fun x => mod_bd (x := x) (m := 4294967197) (by decide) (by decide)
      refine ⟨_, rfl, _, rfl, _, _, rfl, rfl, .inl (o2 _), _, 4294967189, rfl, rfl, (show (0 : Int) < 4294967189 by decide), _, 64, rfl, rfl, (show (0 : Int) < 64 ∧ (64 : Int) < 1073741824 by decide), ?_⟩
      refine ⟨_, rfl, _, 67108864, rfl, rfl, .inl o1, .int t, rfl, 10, 6, rfl, rfl, ⟨by decide, by decide, by decide⟩, t, _, rfl, rfl, .inr ⟨_, rfl, ?_⟩⟩
      refine ⟨_, _, rfl, rfl, .inr ?_, _, _, rfl, rfl, .int t, rfl, _, t, rfl, rfl, t0, ?_⟩
      · split <;> decide
      · exact q _ _ Keep.at ⟨_, _, _, upd_same⟩ (Int.emod_nonneg _ (by omega)) (Int.emod_lt_of_pos _ t0)
end
/-! ### _law_stream -/
def spStream (K : PySem.W.Frag) : Sp := fun vs H Q _ => ∃ (a : Addr) (ns : List Int) (k : Int), vs = [.ref a, .int k] ∧ SqL K H a (ns.map V.int) ∧ 0 ≤ k ∧ k ≤ 1000 ∧ ∀ H' p, Same H H' → H p = none → StO H' p → Q (.ref p) H'
theorem scStream : FnScope ["script", "at", "cell", "great"] ["script", "at"] (defScope sStream) := ⟨rfl, rfl, rfl, by decide +kernel, rfl, by decide +kernel, by decide +kernel⟩
section
variable {P : Program} {w : World} {K : PySem.W.Frag} {mg : Str → Option Value} {base : Heap}
theorem ok_stream {f : Addr} {fd : FuncData} (B : Bl mg) (D : Df K mg "_law_stream" sStream ["script", "at"] f fd) : FnOk P w K mg base CX0 1 f fd ["script", "at"] (spStream K) := by
  refine D.F.ok scStream (fun vs H Q E h => ?_) (fun cdv A outer s H vs Q E hr h => ?_)
  · obtain ⟨a, ns, k, rfl, _⟩ := h
    rfl
  · obtain ⟨a, ns, k, rfl, hS, k0, k1, q⟩ := h
    have nd := scStream.nd
    refine ⟨_, pss_cons (ps_set (i := 2) nd rfl (.inl rfl) (pe_op op_add (pe_op op_mul pe_int (pv 1)) pe_int))
      (pss_cons (ps_if (pt_cmpR op_lt (pv 1) (pe_callB call_len_seq (by rfl) B.len PySem.boot_len (pa_cons (pv 0) pa_nil)) (nomark _))
        (pss_one (ps_set (i := 2) nd rfl (.inl rfl) (pe_ix ix_list (pv 0) (pv 1) (fun _ _ => rfl)))) pss_nil)
      (pss_cons (ps_set (i := 3) nd rfl (.inl rfl) (pe_op op_mod (pe_callB call_abs (by rfl) B.abs (by decide +kernel) (pa_cons (pv 2) pa_nil)) (pe_op op_powW (pe_op op_pow pe_int pe_int) pe_int)))
      (pss_one (ps_ret (pe_lst (pa_cons (pe_callB (call_max2 rfl) (by rfl) B.max (by decide +kernel) (pa_cons pe_int (pa_cons (pe_op op_sub (pv 3) (pe_op op_pow pe_int pe_int)) pa_nil)))
        (pa_cons (pe_op op_mod (pe_op op_add (pe_op op_add (pe_op op_add (pe_op op_mul (pv 3) pe_int) (pe_op op_mul pe_int (pv 1))) (pe_op op_mul pe_int (pe_callTy call_int1 (by rfl) B.int (by decide +kernel) (pa_cons (pe_cmpR op_lt (pv 2) pe_int (nomark _)) pa_nil)))) pe_int) pe_int)
        (pa_cons pe_int pa_nil)))))))), ?_⟩
    refine ⟨.int k, rfl, 5, k, rfl, rfl, .inl ⟨by decide, by decide⟩, _, 3, rfl, rfl, ?_⟩
    have c1 : (0 : Int) ≤ 60 ∧ (60 : Int) ≤ 1000000 ∧ (10 : Int).natAbs < 2 ^ 64 := by decide
    have c2 : (0 : Int) ≤ 12 ∧ ((Builtin.Int.intBits ((10 : Int) ^ (60 : Int).toNat) : Nat) : Int) * 12 ≤ 2 ^ 27 := by decide +kernel
    have c3 : (0 : Int) < ((10 : Int) ^ (60 : Int).toNat) ^ (12 : Int).toNat := by decide +kernel
    have c4 : (0 : Int) ≤ 17 ∧ (17 : Int) ≤ 1000000 ∧ (10 : Int).natAbs < 2 ^ 64 := by decide
    have c5 : (0 : Int) < 4294967291 := by decide
    refine ⟨.int k, rfl, .ref a, rfl, a, _, rfl, .inl hS, k, _, rfl, rfl, _, rfl, ite2 (fun h => ?_) (fun h => ?_)⟩
    · have hk : k < (ns.map V.int).length := of_decide_eq_true h
      rw [List.length_map] at hk
      have hk2 : k.toNat < ns.length := by omega
      refine ⟨.ref a, rfl, .int k, rfl, a, _, k, .int ns[k.toNat], rfl, rfl, hS, ?_, ?_⟩
      · have e : ((k.toNat : Nat) : Int) = k := by omega
        have z : atI (ns.map V.int) ((k.toNat : Nat) : Int) = some (.int ns[k.toNat]) := atI_nat (by
          rw [List.getElem?_map, List.getElem?_eq_getElem hk2]
          rfl)
        rw [e] at z
        exact z
      · refine ⟨_, rfl, _, rfl, 10, 60, rfl, rfl, c1, _, 12, rfl, rfl, c2, _, _, rfl, rfl, c3, ?_⟩
        refine ⟨_, rfl, 10, 17, rfl, rfl, c4, _, _, rfl, rfl, _, _, rfl, ?_⟩
        refine ⟨_, rfl, _, 9576890767, rfl, rfl, .inr ⟨by decide, by decide⟩, .int k, rfl, 611953, k, rfl, rfl, .inl ⟨by decide, by decide⟩, _, _, rfl, rfl, ?_⟩
        refine ⟨_, rfl, _, 0, rfl, rfl, .inr ⟨_, rfl, 2, _, rfl, rfl, .inl ⟨by decide, by decide⟩, _, _, rfl, rfl, _, 7, rfl, rfl, _, _, rfl, rfl, c5, ?_⟩⟩
        refine ⟨by show 3 ≤ sizeLine; decide, fun p np => ?_⟩
        exact q _ p (same_new np) np ⟨_, _, _, upd_same⟩
    · refine ⟨_, rfl, _, rfl, 10, 60, rfl, rfl, c1, _, 12, rfl, rfl, c2, _, _, rfl, rfl, c3, ?_⟩
      refine ⟨_, rfl, 10, 17, rfl, rfl, c4, _, _, rfl, rfl, _, _, rfl, ?_⟩
      refine ⟨_, rfl, _, 9576890767, rfl, rfl, .inr ⟨by decide, by decide⟩, .int k, rfl, 611953, k, rfl, rfl, .inl ⟨by decide, by decide⟩, _, _, rfl, rfl, ?_⟩
      refine ⟨_, rfl, _, 0, rfl, rfl, .inr ⟨_, rfl, 2, _, rfl, rfl, .inl ⟨by decide, by decide⟩, _, _, rfl, rfl, _, 7, rfl, rfl, _, _, rfl, rfl, c5, ?_⟩⟩
      refine ⟨by show 3 ≤ sizeLine; decide, fun p np => ?_⟩
      exact q _ p (same_new np) np ⟨_, _, _, upd_same⟩
end
end E1

set_option maxRecDepth 100000
set_option maxHeartbeats 4000000
namespace E1
open PySem PySem.Spec PyProof.Rows L2 KX
abbrev sNm : Stmt := topS 45
/-! ### _law_name -/
def baseL (n : Nat) : List Nat := [97 + n / 2 % 26] ++ (if n % 2 = 1 then [97] else []) ++ (if n > 51 then [97 + n / 52] else [])
def Lets (l : List Nat) : Prop := ∀ c ∈ l, 97 ≤ c ∧ c ≤ 122
def NameOf (n : Nat) (x : Str) : Prop := ∃ suf : List Nat, x.cps.toList = baseL n ++ suf ∧ Lets suf ∧ (suf.length = 0 ∨ (n % 2 = 1 ∧ n < 52 ∧ (suf.length = 2 ∨ suf.length = 6)))
theorem abc_at : ∀ i : Nat, i < 26 → abc.cps.toList[i]? = some (97 + i) := by decide +kernel
theorem abc_has : ∀ c : Nat, 97 ≤ c → c ≤ 122 → c ∈ abc.cps.toList := fun c h1 h2 => by
  have h := abc_at (c - 97) (by omega)
  rw [show 97 + (c - 97) = c by omega] at h
  exact List.mem_of_getElem? h
theorem abc_len : abc.length ≤ sizeLine := by decide +kernel
theorem app_cps (x y : Str) : (x ++ y).cps.toList = x.cps.toList ++ y.cps.toList := by
  show (x.cps ++ y.cps).toList = _
  simp
theorem base_cps (a b : Nat) (p q : Prop) [Decidable p] [Decidable q] : (((⟨#[a]⟩ : Str) ++ (if p then ("a" : Str) else "")) ++ (if q then (⟨#[b]⟩ : Str) else "")).cps.toList = [a] ++ (if p then [97] else []) ++ (if q then [b] else []) := by
  rw [app_cps, app_cps]
  by_cases hp : p
  · rw [if_pos hp, if_pos hp]
    by_cases hq : q
    · rw [if_pos hq, if_pos hq]; rfl
    · rw [if_neg hq, if_neg hq]; rfl
  · rw [if_neg hp, if_neg hp]
    by_cases hq : q
    · rw [if_pos hq, if_pos hq]; rfl
    · rw [if_neg hq, if_neg hq]; rfl
theorem b2i_one {c : Prop} [Decidable c] : ((if decide c = true then (1 : Int) else 0) = 1) ↔ c := by
  by_cases h : c
  · rw [decide_eq_true h, if_pos rfl]; simp [h]
  · rw [decide_eq_false h, if_neg (by decide)]; simp [h]
theorem len_cps (x : Str) : x.length = x.cps.toList.length := by simp [Str.length]
def spNm : Sp := fun vs H Q _ => ∃ (l : Addr) (n : Nat), vs = [.ref l, .int (n : Int)] ∧ StO H l ∧ n < 61 ∧ ∀ H' x, Keep l H H' → StO H' l → NameOf n x → Q (.str x) H'
theorem scNm : FnScope ["stream", "at", "letters", "name", "turn"] ["stream", "at"] (defScope sNm) := ⟨rfl, rfl, rfl, by decide +kernel, rfl, by decide +kernel, by decide +kernel⟩
section
variable {P : Program} {w : World} {K : PySem.W.Frag} {mg : Str → Option Value} {base : Heap}
theorem ok_nm {f fD : Addr} {fd fdD : FuncData} (B : Bl mg) (D : Df K mg "_law_name" sNm ["stream", "at"] f fd) (DD : Df K mg "_law_draw" sDraw ["stream", "total"] fD fdD) : FnOk P w K mg base CX0 2 f fd ["stream", "at"] spNm := by
  have GD : FnOk P w K mg base CX0 1 fD fdD _ spDraw := ok_draw B DD
  refine D.F.ok scNm (fun vs H Q E h => ?_) (fun cdv A outer s H vs Q E hr h => ?_)
  · obtain ⟨l, n, rfl, _⟩ := h
    rfl
  · obtain ⟨l, n, rfl, hs, hn, q⟩ := h
    have nd := scNm.nd
    refine ⟨_, pss_cons (ps_set (i := 2) nd rfl (.inl rfl) pe_str)
      (pss_cons (ps_set (i := 3) nd rfl (.inl rfl) (pe_op op_add_str (pe_op op_add_str (pe_ix ix_str (pv 2) (pe_op op_mod (pe_op op_fdiv (pv 1) pe_int) pe_int) (fun _ _ => rfl))
          (pe_ix ix_list (pe_lst (pa_cons pe_str (pa_cons pe_str pa_nil))) (pe_op op_mod (pv 1) pe_int) (fun _ _ => rfl)))
          (pe_op op_mul_s (pe_ix ix_str (pv 2) (pe_op op_fdiv (pv 1) pe_int) (fun _ _ => rfl)) (pe_callTy call_int1 (by rfl) B.int (by decide +kernel) (pa_cons (pe_cmpR op_gt (pv 1) pe_int (nomark _)) pa_nil)))))
      (pss_cons (ps_for PassesOwn.never rfl (pi_range1 (by rfl) B.range (pa_cons (pe_op op_mul (pe_op op_mul (pe_ix ix_list (pe_lst (pa_cons pe_int (pa_cons pe_int (pa_cons pe_int (pa_cons pe_int pa_nil)))))
              (pe_call GD hr (by rfl) DD.g DD.F.kp DD.b .nil pass0 (pa_cons (pv 0) (pa_cons pe_int pa_nil))) (fun _ _ => rfl))
              (pe_callTy call_int1 (by rfl) B.int (by decide +kernel) (pa_cons (pe_op op_mod (pv 1) pe_int) pa_nil)))
              (pe_callTy call_int1 (by rfl) B.int (by decide +kernel) (pa_cons (pe_cmpR op_lt (pv 1) pe_int (nomark _)) pa_nil))) pa_nil))
          (pg_name (i := 4) nd rfl (.inl rfl))
          (pss_one (ps_set (i := 3) nd rfl (.inl rfl) (pe_op op_add_str (pv 3) (pe_ix ix_str (pv 2) (pe_call GD hr (by rfl) DD.g DD.F.kp DD.b .nil pass0 (pa_cons (pv 0) (pa_cons pe_int pa_nil))) (fun _ _ => rfl))))))
      (pss_one (ps_ret (pv 3))))), ?_⟩
    have c26 : (0 : Int) < 26 := by decide
    have c2 : (0 : Int) < 2 ∧ (2 : Int) < 1073741824 := by decide
    have c52 : (0 : Int) < 52 ∧ (52 : Int) < 1073741824 := by decide
    have e1 : atI abc.cps.toList (((n : Int) / 2) % 26) = some (97 + n / 2 % 26) := by
      have := atI_nat (abc_at (n / 2 % 26) (by omega))
      rw [show (((n / 2 % 26 : Nat)) : Int) = ((n : Int) / 2) % 26 by omega] at this
      exact this
    have e2 : atI abc.cps.toList ((n : Int) / 52) = some (97 + n / 52) := by
      have := atI_nat (abc_at (n / 52) (by omega))
      rw [show (((n / 52 : Nat)) : Int) = (n : Int) / 52 by omega] at this
      exact this
    refine ⟨_, rfl, .int (n : Int), rfl, n, 2, rfl, rfl, c2, _, 26, rfl, rfl, c26, abc, _, _, rfl, rfl, abc_len, e1, ?_⟩
    refine ⟨by show 2 ≤ sizeLine; decide, fun p np => ?_⟩
    have h1 := hs.new (o := .lst [.str "", .str "a"]) np
    have e3 : atI [V.str "", V.str "a"] ((n : Int) % 2) = some (.str (if n % 2 = 1 then "a" else "")) := by
      rcases Nat.mod_two_eq_zero_or_one n with z | z
      · rw [if_neg (by omega), show (n : Int) % 2 = ((0 : Nat) : Int) by omega]
        rfl
      · rw [if_pos z, show (n : Int) % 2 = ((1 : Nat) : Int) by omega]
        rfl
    refine ⟨.int (n : Int), rfl, n, 2, rfl, rfl, (show (0 : Int) < 2 by decide), p, _, _, _, rfl, rfl, .inl (.inl upd_same), e3, _, _, rfl, rfl, ?_, ?_⟩
    · have : ((if n % 2 = 1 then ("a" : Str) else "") : Str).length ≤ 1 := by split <;> decide
      have h2 : (⟨#[97 + n / 2 % 26]⟩ : Str).length = 1 := rfl
      have hb : (2 : Nat) < sizeLine := by decide
      omega
    · refine ⟨_, rfl, .int (n : Int), rfl, n, 52, rfl, rfl, c52, abc, _, _, rfl, rfl, abc_len, e2, ?_⟩
      refine ⟨.int (n : Int), rfl, n, 51, rfl, rfl, .inr ⟨_, rfl, _, _, rfl, rfl, ?_, ?_⟩⟩
      · split <;> simp
      · have eb : (((⟨#[97 + n / 2 % 26]⟩ : Str) ++ (if n % 2 = 1 then ("a" : Str) else "")) ++ (if (if decide ((51 : Int) < (n : Int)) = true then (1 : Int) else 0) = 1 then (⟨#[97 + n / 52]⟩ : Str) else "")).cps.toList = baseL n := by
          rw [base_cps]
          unfold baseL
          congr 1
          by_cases z : n > 51
          · rw [if_pos z, if_pos (b2i_one.mpr (by omega))]
          · rw [if_neg z, if_neg (fun h => z (by have := b2i_one.mp h; omega))]
        have lb : (baseL n).length ≤ 3 := by
          unfold baseL
          split <;> split <;> simp
        refine ⟨_, _, rfl, rfl, ?_, ?_⟩
        · have k1 := len_cps ((((⟨#[97 + n / 2 % 26]⟩ : Str) ++ (if n % 2 = 1 then ("a" : Str) else "")) ++ (if (if decide ((51 : Int) < (n : Int)) = true then (1 : Int) else 0) = 1 then (⟨#[97 + n / 52]⟩ : Str) else "")))
          rw [eb, strLen_append] at k1
          have hb : (3 : Nat) < sizeLine := by decide
          omega
        · generalize hX : (((⟨#[97 + n / 2 % 26]⟩ : Str) ++ (if n % 2 = 1 then ("a" : Str) else "")) ++ (if (if decide ((51 : Int) < (n : Int)) = true then (1 : Int) else 0) = 1 then (⟨#[97 + n / 52]⟩ : Str) else "")) = X0 at eb ⊢
          refine ⟨by show 4 ≤ sizeLine; decide, fun p2 np2 => ?_⟩
          have h2 := h1.new (o := .lst [.int 0, .int 0, .int 2, .int 6]) np2
          refine ⟨.ref l, rfl, l, 4, rfl, h2, by decide, by decide, fun H2 d kd sd d0 d4 => ?_⟩
          have e4 : ∃ m : Nat, atI [V.int 0, V.int 0, V.int 2, V.int 6] d = some (.int (m : Int)) ∧ (m = 0 ∨ m = 2 ∨ m = 6) := by
            have : d = 0 ∨ d = 1 ∨ d = 2 ∨ d = 3 := by omega
            rcases this with rfl | rfl | rfl | rfl
            · exact ⟨0, rfl, by simp⟩
            · exact ⟨0, rfl, by simp⟩
            · exact ⟨2, rfl, by simp⟩
            · exact ⟨6, rfl, by simp⟩
          obtain ⟨m, em, hm⟩ := e4
          have pl : H2 p2 = some _ := kd _ _ (h1.ne np2) upd_same
          refine ⟨p2, _, d, _, rfl, rfl, .inl (.inl pl), em, .int (n : Int), rfl, n, 2, rfl, rfl, (show (0 : Int) < 2 by decide), .inl ⟨_, rfl, m, _, rfl, rfl, .inl ?_, ?_⟩⟩
          · omega
          · refine ⟨.int (n : Int), rfl, n, 52, rfl, rfl, .inr ⟨_, rfl, _, _, rfl, rfl, .inr ?_, ?_⟩⟩
            · split <;> decide
            · have hj : ∃ j : Nat, ((m : Int) * ((n : Int) % 2)) * (if decide ((n : Int) < 52) = true then (1 : Int) else 0) = (j : Int) ∧ (j = 0 ∨ (n % 2 = 1 ∧ n < 52 ∧ (j = 2 ∨ j = 6))) := by
                by_cases z : (n : Int) < 52
                · rw [decide_eq_true z, if_pos rfl, Int.mul_one]
                  rcases Nat.mod_two_eq_zero_or_one n with y | y
                  · exact ⟨0, by rw [show (n : Int) % 2 = 0 by omega]; simp, .inl rfl⟩
                  · refine ⟨m, by rw [show (n : Int) % 2 = 1 by omega]; simp, ?_⟩
                    rcases hm with h | h | h
                    · exact .inl h
                    · exact .inr ⟨y, by omega, .inl h⟩
                    · exact .inr ⟨y, by omega, .inr h⟩
                · rw [decide_eq_false z, if_neg (by decide), Int.mul_zero]
                  exact ⟨0, rfl, .inl rfl⟩
              obtain ⟨j, ej, hj⟩ := hj
              refine ⟨_, rfl, ?_, ?_, ?_⟩
              · show (-(2 ^ 62) : Int) ≤ _
                rw [ej]
                omega
              · show (_ : Int) < 2 ^ 62
                rw [ej]
                omega
              · have st1 : StO H2 l := sd
                have kp1 : Keep l H H2 := (((Keep.refl l H).new np).new np2).trans kd
                refine for_range (lo := 0) (n := Int.toNat _) (fun i σ G => Keep l H G ∧ StO G l ∧ ∃ (x : Str) (suf : List Nat) (tv : Option V), σ = [some (.ref l), some (.int n), some (.str abc), some (.str x), tv] ∧ x.cps.toList = baseL n ++ suf ∧ Lets suf ∧ suf.length = i)
                  ⟨kp1, st1, X0, [], none, rfl, by rw [eb, List.append_nil], fun c hc => absurd hc (by simp), rfl⟩ (fun i σ G hi hp => ?_) (fun σ G hp => ?_)
                · obtain ⟨kp, st, x, suf, tv, rfl, ex, hl, hi2⟩ := hp
                  have hi3 : i < j := by
                    have h := hi
                    rw [show Int.toNat _ = j from congrArg Int.toNat ej] at h
                    exact h
                  refine ⟨.str x, rfl, _, rfl, .ref l, rfl, l, 26, rfl, st, by decide, by decide, fun G2 d2 kd2 sd2 d20 d26 => ?_⟩
                  have e5 : atI abc.cps.toList d2 = some (97 + d2.toNat) := by
                    have := atI_nat (abc_at d2.toNat (by omega))
                    rw [show ((d2.toNat : Nat) : Int) = d2 by omega] at this
                    exact this
                  refine ⟨abc, _, _, rfl, rfl, abc_len, e5, x, _, rfl, rfl, ?_, kp.trans kd2, sd2, _, suf ++ [97 + d2.toNat], _, rfl, ?_, ?_, ?_⟩
                  · have k1 := len_cps x
                    rw [ex, List.length_append] at k1
                    have k2 : (⟨#[97 + d2.toNat]⟩ : Str).length = 1 := rfl
                    have hb : (20 : Nat) < sizeLine := by decide
                    omega
                  · rw [app_cps, ex, List.append_assoc]
                  · intro c hc
                    rcases List.mem_append.mp hc with hc | hc
                    · exact hl c hc
                    · have : c = 97 + d2.toNat := by simpa using hc
                      omega
                  · rw [List.length_append, hi2]
                    rfl
                · obtain ⟨kp, st, x, suf, tv, rfl, ex, hl, hi2⟩ := hp
                  have hi3 : suf.length = j := hi2.trans (congrArg Int.toNat ej)
                  refine ⟨_, rfl, q G x kp st ⟨suf, ex, hl, ?_⟩⟩
                  rw [hi3]
                  exact hj
end
theorem name_ok {n : Nat} {x : Str} (hn : n < 61) (h : NameOf n x) : nameD (.str x) = true ∧ x.length ≤ 8 := by
  obtain ⟨suf, ex, hl, hs⟩ := h
  have hb : (baseL n).length = 1 + (if n % 2 = 1 then 1 else 0) + (if n > 51 then 1 else 0) := by
    unfold baseL
    split <;> split <;> simp
  have lx := len_cps x
  rw [ex, List.length_append, hb] at lx
  have h8 : 1 ≤ x.length ∧ x.length ≤ 8 := by
    split at lx <;> split at lx <;> omega
  refine ⟨?_, h8.2⟩
  have all : letD x = true := by
    unfold letD
    rw [ex, List.all_eq_true]
    intro c hc
    refine decide_eq_true (abc_has c ?_ ?_)
    all_goals
      rcases List.mem_append.mp hc with hc | hc
      · unfold baseL at hc
        split at hc <;> split at hc <;> simp at hc <;> omega
      · have := hl c hc
        omega
  show ((decide (1 ≤ (x.length : Int)) && decide ((x.length : Int) ≤ 8)) && letD x) = true
  rw [all, decide_eq_true (by omega), decide_eq_true (by omega)]
  rfl
end E1

set_option maxRecDepth 100000
set_option maxHeartbeats 4000000
namespace E1
open PySem PySem.Spec PyProof.Rows L2 KX
abbrev sAsc : Stmt := topS 11
/-! ### is_ascending -/
def ltS (a b : Str) : Bool := decide (a.cps.toList < b.cps.toList)
def ascS : List Str → Bool
  | a :: b :: r => ltS a b && ascS (b :: r)
  | _ => true
theorem asc_pairs : ∀ ns : List Str, ((ns.zip (ns.drop 1)).map fun q => ltS q.1 q.2).all id = ascS ns
  | [] => rfl
  | [_] => rfl
  | a :: b :: r => by
    have ih := asc_pairs (b :: r)
    have e : ((a :: b :: r).zip ((a :: b :: r).drop 1)) = (a, b) :: ((b :: r).zip ((b :: r).drop 1)) := rfl
    rw [e, List.map_cons, List.all_cons, ih]
    rfl
theorem vals_strsD {H : Hp} : ∀ {xs : List V} {ns : List Str}, Dxs H xs (ns.map PyData.str) → xs = ns.map V.str
  | [], [], _ => rfl
  | x :: xs, n :: ns, .cons h t => by
    cases h
    rw [vals_strsD t]
    rfl
theorem cutV_one (us : List V) : cutV us (some 1) none = us.drop 1 := by
  unfold cutV
  rw [show (1 : Int) = ((1 : Nat) : Int) from rfl, HT.sIx_nat, HT.sIx_none]
  cases us with
  | nil => rfl
  | cons x us =>
    rw [show min 1 (x :: us).length = 1 by simp only [List.length_cons]; omega, List.take_of_length_le (by rw [List.length_drop]; exact Nat.le_refl _)]
theorem slZ {K : PySem.W.Frag} {H : Hp} {Q : VK} {a : Addr} {ns : List Str} (e : Rd H a (.tup (ns.map V.str))) (q : ∀ H' p, Same H H' → Rd H' p (.tup ((ns.drop 1).map V.str)) → Q (.ref p) H') : rSlA K (.ref a) (some 1) none H Q := by
  refine ⟨a, _, rfl, .inl e, fun whole => q H a (Same.refl H) ?_, fun _ p np => q _ p (same_new np) (.inl (by rw [cutV_one, ← List.map_drop]; exact upd_same))⟩
  have h := whole.1
  rw [show (1 : Int) = ((1 : Nat) : Int) from rfl, HT.sIx_nat, List.length_map] at h
  have : ns = [] := List.eq_nil_of_length_eq_zero (by omega)
  subst this
  exact e
def spAsc : Sp := fun vs H Q _ => ∃ (v : V) (ns : List Str), vs = [v] ∧ Dz H v (.tuple (ns.map .str)) ∧ ns.length ≤ 1000 ∧ ∀ H', Same H H' → Q (.bl (ascS ns)) H'
theorem scAsc : FnScope ["names", "first", "second"] ["names"] (defScope sAsc) := ⟨rfl, rfl, rfl, by decide +kernel, rfl, by decide +kernel, by decide +kernel⟩
section
variable {P : Program} {w : World} {K : PySem.W.Frag} {mg : Str → Option Value} {base : Heap}
theorem ok_asc {f : Addr} {fd : FuncData} (B : Bl mg) (D : Df K mg "is_ascending" sAsc ["names"] f fd) : FnOk P w K mg base CX0 1 f fd ["names"] spAsc := by
  refine D.F.ok scAsc (fun vs H Q E h => ?_) (fun cdv A outer s H vs Q E hr h => ?_)
  · obtain ⟨v, ns, rfl, _⟩ := h
    rfl
  · obtain ⟨v, ns, rfl, hd, hl, q⟩ := h
    have nd := scAsc.nd
    refine ⟨_, pss_one (ps_ret (pe_callB (cr_all rfl) (by rfl) B.all (by decide +kernel) (pa_cons (pe_lc (own := [("first", 1), ("second", 2)]) (g := gTup K 2 (gCons (gName 1) (gCons (gName 2) gNil))) rfl nd (RZ.pi_zipA (by rfl) B.zip (pa_cons (pv 0) (pa_cons (pe_slice sl_tupA (pv 0) (po_some pe_int) po_none) pa_nil)))
        (blkOk_by (N := ["names", "first", "second"]) (sc := defScope sAsc) (by decide +kernel)) (fun _ _ _ _ _ => pg_tup rfl (pgs_cons (pg_name (i := 1) nd rfl (Or.inl rfl)) (pgs_cons (pg_name (i := 2) nd rfl (Or.inl rfl)) pgs_nil))) (fun _ _ _ _ _ => pts_nil)
        (fun _ _ _ _ _ => pe_cmpR op_lt_str (pv 1) (pv 2) (nomark _))) pa_nil))), ?_⟩
    obtain ⟨a, rfl, ea⟩ := dz_strs hd
    refine ⟨.ref a, rfl, .ref a, rfl, 1, rfl, ?_⟩
    refine (show ∀ {σ : L2.St} {H : Hp} {Q : Option Int → Hp → Prop}, Q none H → tNoPart σ H Q from fun h => h) (slZ ea fun H2 p s2 ep => ?_)
    obtain ⟨xs, exs⟩ : ∃ xs, ns.map V.str = xs := ⟨_, rfl⟩
    obtain ⟨ys, eys⟩ : ∃ ys, (ns.drop 1).map V.str = ys := ⟨_, rfl⟩
    rw [exs] at ea
    rw [eys] at ep
    have exs := exs.symm
    have eys := eys.symm
    have lx : xs.length = ns.length := by rw [exs, List.length_map]
    have ly : ys.length = ns.length - 1 := by rw [eys, List.length_map, List.length_drop]
    refine ⟨a, p, xs, ys, rfl, .inr ⟨.inl (rd_up ea s2), .inl ep, fun D nD => ?_⟩⟩
    refine lc_zipS (xs := xs) (ys := ys) (by omega) (fun i G => Same H2 G ∧ G D = some (.lst ((((ns.zip (ns.drop 1)).take i).map fun q => ltS q.1 q.2).map V.bl))) ⟨same_new nD, upd_same⟩ (fun i G _ hG => ⟨.inl (rd_up ea (s2.trans hG.1)), .inl (rd_up ep hG.1)⟩) (fun i x y T G hx hy hG nT => ?_) (fun G hG => ?_)
    · obtain ⟨sG, eD⟩ := hG
      rw [exs, List.getElem?_map] at hx
      rw [eys, List.getElem?_map] at hy
      obtain ⟨n1, e1, rfl⟩ := Option.map_eq_some_iff.mp hx
      obtain ⟨n2, e2, rfl⟩ := Option.map_eq_some_iff.mp hy
      have ez : (ns.zip (ns.drop 1))[i]? = some (n1, n2) := by rw [List.getElem?_zip_eq_some]; exact ⟨e1, e2⟩
      have sT : Same G (upd G T (.tup [.str n1, .str n2])) := same_new nT
      refine ⟨T, _, rfl, .inl (.inl upd_same), rfl, _, _, rfl, _, _, rfl, rfl, rfl, ?_⟩
      refine ⟨.str n1, rfl, .str n2, rfl, n1, n2, rfl, rfl, _, sT _ _ eD, ?_, same_at (sG.trans sT) nD, ?_⟩
      · rw [List.length_map, List.length_map, List.length_take, List.length_zip, List.length_drop]
        have hb : (1000 : Nat) < sizeLine := by decide
        omega
      · rw [upd_same, List.take_add_one, ez, List.map_append, List.map_append]
        rfl
    · obtain ⟨sG, eD⟩ := hG
      rw [List.take_of_length_le (by rw [List.length_zip, List.length_drop]; omega)] at eD
      refine ⟨D, _, rfl, .inl (.inl eD), ?_⟩
      rw [asc_pairs]
      exact q G (s2.trans sG)
end
end E1

set_option maxRecDepth 100000
set_option maxHeartbeats 4000000
namespace E1
open PySem PySem.Spec PyProof.Rows L2 KX
def TK (G G' : Hp) : Prop := ∀ b xs, G b = some (.tup xs) → G' b = some (.tup xs)
theorem TK.same {G G' : Hp} (s : Same G G') : TK G G' := fun b xs e => s _ _ e
theorem TK.at {G : Hp} {b : Addr} {o u : HO} (e : G b = some u) (n : ∀ xs, u ≠ .tup xs) : TK G (upd G b o) := fun c xs z => by
  rw [upd_ne (ne_of z e (fun y => n xs y.symm))]
  exact z
theorem TK.trans {G G1 G2 : Hp} (a : TK G G1) (b : TK G1 G2) : TK G G2 := fun c xs z => b _ _ (a _ _ z)

mutual
def noL : PyData → Bool
  | .none => true
  | .bool _ => true
  | .int _ => true
  | .str _ => true
  | .tuple ds => noLs ds
  | _ => false
def noLs : List PyData → Bool
  | [] => true
  | d :: ds => noL d && noLs ds
end

theorem noL_ints : ∀ ns : List Int, noLs (ns.map PyData.int) = true
  | [] => by simp [noLs]
  | n :: ns => by simp [noLs, noL, noL_ints ns]
mutual
theorem dx_tk {G G' : Hp} (k : TK G G') : ∀ (d : PyData) (v : V), noL d = true → Dx G v d → Dx G' v d
  | .none, _, _, h => by cases h; exact .non
  | .bool b, _, _, h => by cases h; exact .bl b
  | .int i, _, _, h => by cases h; exact .int i
  | .str x, _, _, h => by cases h; exact .str x
  | .list ds, _, n, _ => by simp [noL] at n
  | .dict ks, _, n, _ => by simp [noL] at n
  | .tuple ds, _, n, h => by
    cases h with
    | @tup a xs _ ea h => exact .tup (k _ _ ea) (dxs_tk k ds xs (by simpa [noL] using n) h)
theorem dxs_tk {G G' : Hp} (k : TK G G') : ∀ (ds : List PyData) (vs : List V), noLs ds = true → Dxs G vs ds → Dxs G' vs ds
  | [], _, _, h => by cases h; exact .nil
  | d :: ds, _, n, h => by
    simp only [noLs, Bool.and_eq_true] at n
    cases h with
    | cons h t => exact .cons (dx_tk k d _ n.1 h) (dxs_tk k ds _ n.2 t)
end

theorem depthAll_le {k : Nat} : ∀ {es : List PyData}, (∀ e ∈ es, e.depth ≤ k) → PyData.depthAll es ≤ k
  | [], _ => by simp [PyData.depthAll]
  | e :: es, h => by
    have h1 := h e (by simp)
    have h2 := depthAll_le (es := es) fun x hx => h x (by simp [hx])
    simp only [PyData.depthAll]
    omega
theorem dx_tup' {H : Hp} {v : V} {ds : List PyData} (h : Dx H v (.tuple ds)) : ∃ a xs, v = .ref a ∧ H a = some (.tup xs) ∧ Dxs H xs ds := by
  cases h with
  | @tup a xs _ ea h => exact ⟨a, xs, rfl, ea, h⟩
theorem lt_irr (a : Str) : ltS a a = false := decide_eq_false (List.lt_irrefl _)
theorem lt_trs {a b c : Str} (h : ltS a b = true) (k : ltS b c = true) : ltS a c = true := decide_eq_true (List.lt_trans (of_decide_eq_true h) (of_decide_eq_true k))
theorem asc_cons : ∀ {l : List Str} {a : Str}, ascS (a :: l) = true → ascS l = true ∧ ∀ b ∈ l, ltS a b = true
  | [], a, _ => ⟨rfl, fun b h => nomatch h⟩
  | c :: l, a, h => by
    have h : (ltS a c && ascS (c :: l)) = true := h
    rw [Bool.and_eq_true] at h
    refine ⟨h.2, fun b hb => ?_⟩
    rcases List.mem_cons.mp hb with rfl | hb
    · exact h.1
    · exact lt_trs h.1 ((asc_cons h.2).2 b hb)
theorem gn_to {i : Nat} {v : V} {σ σ' : L2.St} {H : Hp} {Q : L2.St → Hp → Prop} (e : σ.set i (some v) = σ') (h : Q σ' H) : gName i v σ H Q := by subst e; exact h
def amg (ns : List Str) (d : PyData) : Bool := ns.any fun n => isSt n d
theorem amg_mem {ns : List Str} {x : Str} : amg ns (.str x) = decide (x ∈ ns) := by
  unfold amg
  by_cases h : x ∈ ns
  · rw [decide_eq_true h, List.any_eq_true]
    exact ⟨x, h, decide_eq_true rfl⟩
  · rw [decide_eq_false h, List.any_eq_false]
    intro n hn z
    have := isSt_is z
    cases this
    exact h hn
theorem fmap_at {α β : Type} (f : α → Option β) {as : List α} {i : Nat} {a : α} (h : as[i]? = some a) : (as.take (i + 1)).filterMap f = (as.take i).filterMap f ++ (f a).toList := by
  rw [List.take_add_one, h, List.filterMap_append]
  cases e : f a <;> simp [e]
theorem pair_tk {β : Type} {Rel : Hp → V → β → Prop} (up : ∀ (H G : Hp) (y : V) (b : β), TK H G → Rel H y b → Rel G y b) {H G : Hp} (k : TK H G) : ∀ {ys : List V} {bs : List β}, Paired (Rel H) ys bs → Paired (Rel G) ys bs
  | [], [], .nil => .nil
  | _ :: _, _ :: _, .cons h t => .cons (up _ _ _ _ k h) (pair_tk up k t)
theorem pair_snoc {α β : Type} {R : α → β → Prop} {a : α} {b : β} (h : R a b) : ∀ {as : List α} {bs : List β}, Paired R as bs → Paired R (as ++ [a]) (bs ++ [b])
  | [], [], .nil => .cons h .nil
  | _ :: _, _ :: _, .cons x t => .cons x (pair_snoc h t)
theorem pair_at {α β : Type} {R : α → β → Prop} : ∀ {as : List α} {bs : List β} {i : Nat} {a : α}, Paired R as bs → as[i]? = some a → ∃ b, bs[i]? = some b ∧ R a b
  | [], [], i, a, .nil, h => by simp at h
  | _ :: _, _ :: _, 0, a, .cons x t, h => by
    cases h
    exact ⟨_, rfl, x⟩
  | _ :: _, _ :: _, i + 1, a, .cons x t, h => by
    obtain ⟨b, e, r⟩ := pair_at t (by simpa using h)
    exact ⟨b, by simpa using e, r⟩
theorem lc_gen {α β : Type} {J : It} {Gd : Hp → Prop} {D : Addr} {xs : List V} {as : List α} {g : TG} {tt : TT} {te : TE} {vs : List Nat} {σ : L2.St} {H1 : Hp} {Qd : Hp → Prop} (f : α → Option β) (Rel : Hp → V → β → Prop) (up : ∀ (H G : Hp) (y : V) (b : β), TK H G → Rel H y b → Rel G y b)
    (wk : Walk J xs.length Gd (YAt xs)) (nD : H1 D = none) (hG : ∀ G, Same H1 G → Gd G) (hl : as.length = xs.length) (h1000 : as.length ≤ 1000)
    (hs : ∀ (i : Nat) (x : V) (a : α) (G : Hp), xs[i]? = some x → as[i]? = some a → Same H1 G → ∀ (Pt : V → Hp → Prop) (Pf : Hp → Prop), (∀ b, f a = some b → ∀ y G', Same G G' → Rel G' y b → Pt y G') → (f a = none → ∀ G', Same G G' → Pf G') →
      g x (wipe σ vs) G fun σ2 H2 => wipe σ2 vs = wipe σ vs ∧ tt σ2 H2 fun b H3 => if b = true then te σ2 H3 Pt else Pf H3)
    (hd : ∀ G ys, Same H1 G → G D = some (.lst ys) → Paired (Rel G) ys (as.filterMap f) → ys.length ≤ as.length → Qd G) :
    ∃ W : Nat → Nat → Hp → Prop, (∃ m, W 0 m (upd H1 D (.lst []))) ∧ ∀ i m H, W i m H →
      (J.stop i H ∧ Qd H) ∨ (J.go i H ∧ ∃ Nx : Hp → Prop, (∀ H', Nx H' → ∃ m', m' < m ∧ W (i + 1) m' H') ∧ ∀ x H', J.yld i H x H' → g x (wipe σ vs) H' fun σ2 H2 => wipe σ2 vs = wipe σ vs ∧ tt σ2 H2 fun b H3 =>
        if b = true then te σ2 H3 fun y H4 => ∃ acc, H4 D = some (.lst acc) ∧ acc.length < sizeLine ∧ Nx (upd H4 D (.lst (acc ++ [y]))) else Nx H3) := by
  have hb : (1000 : Nat) < sizeLine := by decide
  refine lc_it wk (fun i G => Same H1 G ∧ ∃ ys, G D = some (.lst ys) ∧ Paired (Rel G) ys ((as.take i).filterMap f)) ⟨same_new nD, [], upd_same, .nil⟩ (fun i G _ hP => hG G hP.1) (fun i x G G' hi hP hy => ?_) (fun G hP => ?_)
  · obtain ⟨sG, ys, eD, hp⟩ := hP
    obtain ⟨rfl, hxi⟩ := hy
    have ia : i < as.length := by omega
    have ea : as[i]? = some as[i] := List.getElem?_eq_getElem ia
    have el := fmap_at f ea
    have ly : ys.length ≤ i := by
      rw [Paired.length hp]
      exact Nat.le_trans (List.length_filterMap_le _ _) (by rw [List.length_take]; omega)
    refine hs i x as[i] G' hxi ea sG _ _ (fun b eb y G2 s2 hr => ?_) (fun en G2 s2 => ?_)
    · have eD2 := s2 _ _ eD
      refine ⟨ys, eD2, by omega, same_at (sG.trans s2) nD, ys ++ [y], upd_same, ?_⟩
      rw [el, eb]
      have tk : TK G2 (upd G2 D (.lst (ys ++ [y]))) := TK.at eD2 fun xs z => by cases z
      exact pair_snoc (up _ _ _ _ tk hr) (pair_tk up ((TK.same s2).trans tk) hp)
    · rw [en] at el
      refine ⟨sG.trans s2, ys, s2 _ _ eD, ?_⟩
      rw [el]
      simpa using pair_tk up (TK.same s2) hp
  · obtain ⟨sG, ys, eD, hp⟩ := hP
    rw [List.take_of_length_le (by omega)] at hp
    exact hd G ys sG eD hp (by rw [Paired.length hp]; exact List.length_filterMap_le _ _)
theorem lc_genZ {α β : Type} {J : It} {Gd : Hp → Prop} {D : Addr} {fx fy : Nat → Option V} {as : List α} {g : TG} {tt : TT} {te : TE} {vs : List Nat} {σ : L2.St} {H1 : Hp} {Qd : Hp → Prop} (f : α → Option β) (Rel : Hp → V → β → Prop) (up : ∀ (H G : Hp) (y : V) (b : β), TK H G → Rel H y b → Rel G y b)
    (wk : Walk J as.length Gd (YPair fx fy)) (nD : H1 D = none) (hG : ∀ G, Same H1 G → Gd G) (h1000 : as.length ≤ 1000)
    (hs : ∀ (i : Nat) (x z : V) (a : α) (T : Addr) (G : Hp), fx i = some x → fy i = some z → as[i]? = some a → Same H1 G → G T = some (.tup [x, z]) → ∀ (Pt : V → Hp → Prop) (Pf : Hp → Prop), (∀ b, f a = some b → ∀ y G', Same G G' → Rel G' y b → Pt y G') → (f a = none → ∀ G', Same G G' → Pf G') →
      g (.ref T) (wipe σ vs) G fun σ2 H2 => wipe σ2 vs = wipe σ vs ∧ tt σ2 H2 fun b H3 => if b = true then te σ2 H3 Pt else Pf H3)
    (hd : ∀ G ys, Same H1 G → G D = some (.lst ys) → Paired (Rel G) ys (as.filterMap f) → ys.length ≤ as.length → Qd G) :
    ∃ W : Nat → Nat → Hp → Prop, (∃ m, W 0 m (upd H1 D (.lst []))) ∧ ∀ i m H, W i m H →
      (J.stop i H ∧ Qd H) ∨ (J.go i H ∧ ∃ Nx : Hp → Prop, (∀ H', Nx H' → ∃ m', m' < m ∧ W (i + 1) m' H') ∧ ∀ x H', J.yld i H x H' → g x (wipe σ vs) H' fun σ2 H2 => wipe σ2 vs = wipe σ vs ∧ tt σ2 H2 fun b H3 =>
        if b = true then te σ2 H3 fun y H4 => ∃ acc, H4 D = some (.lst acc) ∧ acc.length < sizeLine ∧ Nx (upd H4 D (.lst (acc ++ [y]))) else Nx H3) := by
  have hb : (1000 : Nat) < sizeLine := by decide
  refine lc_it wk (fun i G => Same H1 G ∧ ∃ ys, G D = some (.lst ys) ∧ Paired (Rel G) ys ((as.take i).filterMap f)) ⟨same_new nD, [], upd_same, .nil⟩ (fun i G _ hP => hG G hP.1) (fun i x G G' hi hP hy => ?_) (fun G hP => ?_)
  · obtain ⟨sG, ys, eD, hp⟩ := hP
    obtain ⟨T, x, z, rfl, nT, rfl, ex, ez⟩ := hy
    have ea : as[i]? = some as[i] := List.getElem?_eq_getElem hi
    have el := fmap_at f ea
    have s1 : Same G (upd G T (.tup [x, z])) := same_new nT
    have ly : ys.length ≤ i := by
      rw [Paired.length hp]
      exact Nat.le_trans (List.length_filterMap_le _ _) (by rw [List.length_take]; omega)
    refine hs i x z as[i] T _ ex ez ea (sG.trans s1) upd_same _ _ (fun b eb y G2 s2 hr => ?_) (fun en G2 s2 => ?_)
    · have s2 := s1.trans s2
      have eD2 := s2 _ _ eD
      refine ⟨ys, eD2, by omega, same_at (sG.trans s2) nD, ys ++ [y], upd_same, ?_⟩
      rw [el, eb]
      have tk : TK G2 (upd G2 D (.lst (ys ++ [y]))) := TK.at eD2 fun xs z => by cases z
      exact pair_snoc (up _ _ _ _ tk hr) (pair_tk up ((TK.same s2).trans tk) hp)
    · have s2 := s1.trans s2
      rw [en] at el
      refine ⟨sG.trans s2, ys, s2 _ _ eD, ?_⟩
      rw [el]
      simpa using pair_tk up (TK.same s2) hp
  · obtain ⟨sG, ys, eD, hp⟩ := hP
    rw [List.take_of_length_le (Nat.le_refl _)] at hp
    exact hd G ys sG eD hp (by rw [Paired.length hp]; exact List.length_filterMap_le _ _)
theorem ite_to {b : Bool} {A L : Prop} (h : b = true) (k : A) : if b = true then A else L := by
  rw [h]
  exact iteT k
theorem ite_not {b : Bool} {A L : Prop} (h : b = false) (k : L) : if b = true then A else L := by
  rw [h]
  exact iteF k
theorem fm_if {α β : Type} (c : α → Bool) (g : α → β) : ∀ as : List α, as.filterMap (fun a => if c a = true then some (g a) else none) = (as.filter c).map g
  | [] => rfl
  | a :: as => by
    cases e : c a with
    | true => rw [List.filterMap_cons, List.filter_cons]; simp only [e, if_true]; rw [fm_if c g as]; rfl
    | false => rw [List.filterMap_cons, List.filter_cons]; simp only [e]; rw [fm_if c g as]; rfl
theorem pair_zip {α β : Type} {R : α → β → Prop} : ∀ {as : List α} {bs : List β}, Paired R as bs → (as.zip bs).map (·.1) = as ∧ (as.zip bs).map (·.2) = bs ∧ ∀ q ∈ as.zip bs, R q.1 q.2
  | [], [], .nil => ⟨rfl, rfl, fun q h => nomatch h⟩
  | a :: as, b :: bs, .cons h t => by
    obtain ⟨e1, e2, e3⟩ := pair_zip t
    refine ⟨by simp [e1], by simp [e2], fun q hq => ?_⟩
    rw [List.zip_cons_cons] at hq
    rcases List.mem_cons.mp hq with rfl | hq
    · exact h
    · exact e3 q hq
theorem dxs_pair {H : Hp} {α : Type} {f : α → PyData} : ∀ {ys : List V} {as : List α}, Paired (fun y a => Dx H y (f a)) ys as → Dxs H ys (as.map f)
  | [], [], .nil => .nil
  | _ :: _, _ :: _, .cons h t => .cons h (dxs_pair t)
theorem strs_of {H : Hp} : ∀ {ys : List V} {ns : List Str}, Paired (fun (y : V) (n : Str) => y = .str n) ys ns → ys = ns.map V.str
  | [], [], .nil => rfl
  | _ :: _, _ :: _, .cons h t => by rw [List.map_cons, h, strs_of (H := H) t]
theorem ints_of {H : Hp} : ∀ {ys : List V} {ns : List Int}, Paired (fun (y : V) (n : Int) => y = .int n) ys ns → ys = ns.map V.int
  | [], [], .nil => rfl
  | _ :: _, _ :: _, .cons h t => by rw [List.map_cons, h, ints_of (H := H) t]
theorem eqv_strs : ∀ ns : List Str, PyData.eqvAll (ns.map .str) (ns.map .str) = true
  | [] => rfl
  | n :: ns => by
    rw [List.map_cons]
    unfold PyData.eqvAll
    rw [eqv_strs ns, Bool.and_true]
    simp [PyData.eqv]
theorem plain_strs : ∀ ns : List Str, PyData.plainAll (ns.map .str) = true
  | [] => rfl
  | n :: ns => by simp [PyData.plainAll, PyData.plain, plain_strs ns]
theorem deep_strs (ns : List Str) : PyData.depthAll (ns.map .str) ≤ 50 := depthAll_le fun e he => by
  obtain ⟨n, _, rfl⟩ := List.mem_map.mp he
  simp [PyData.depth]
theorem dxs_strs {H : Hp} : ∀ ns : List Str, Dxs H (ns.map V.str) (ns.map PyData.str)
  | [] => .nil
  | n :: ns => .cons (.str n) (dxs_strs ns)
theorem any_strs {ns : List Str} {n : Str} : ((ns.map PyData.str).any fun z => PyData.eqv z (.str n)) = decide (n ∈ ns) := by
  induction ns with
  | nil => simp
  | cons m ns ih =>
    rw [List.map_cons, List.any_cons, ih]
    simp only [PyData.eqv, List.mem_cons, Bool.decide_or]
    congr 1
    exact decide_eq_decide.mpr eq_comm
theorem hid_same {l : Addr} {H : Hp} : Same (hid l H) H := fun b o e => (hid_some e).2
theorem slS {K : PySem.W.Frag} {H : Hp} {ds : List PyData} {Q : VK} {lo hi : Option Int} {v : V} (hd : Dx H v (.tuple ds)) (q : ∀ H' p, Same H H' → Dx H' (.ref p) (.tuple (KX.cutD ds lo hi)) → Q (.ref p) H') : rSlA K v lo hi H Q := by
  obtain ⟨t, xs, rfl, et, hx⟩ := dx_tup' hd
  refine ⟨t, xs, rfl, .inl (.inl et), fun whole => q H t (Same.refl H) ?_, fun _ p np => q _ p (same_new np) (.tup upd_same ((dxs_cut hx lo hi).up (same_new np)))⟩
  have e : KX.cutD ds lo hi = ds := by
    unfold KX.cutD
    rw [← hx.len, whole.1, whole.2, List.drop_zero, Nat.sub_zero, List.take_of_length_le (Nat.le_of_eq hx.len.symm)]
  rw [e]
  exact hd
theorem catS {K : PySem.W.Frag} {H : Hp} {ds es : List PyData} {Q : VK} {v u : V} (hd : Dx H v (.tuple ds)) (he : Dx H u (.tuple es)) (hz : ds.length + es.length ≤ sizeLine) (q : ∀ H' p, Same H H' → Dx H' (.ref p) (.tuple (ds ++ es)) → Q (.ref p) H') : rCatA K v u H Q := by
  obtain ⟨t, xs, rfl, et, hx⟩ := dx_tup' hd
  obtain ⟨c, ys, rfl, ec, hy⟩ := dx_tup' he
  have l1 := hx.len
  have l2 := hy.len
  refine ⟨t, c, xs, ys, rfl, rfl, .inl (.inl et), .inl (.inl ec), by omega, fun z => ?_, fun _ z => ?_, fun _ _ p np => q _ p (same_new np) (.tup upd_same ((hx.app hy).up (same_new np)))⟩
  · subst z
    have e : ds = [] := List.eq_nil_of_length_eq_zero l1.symm
    subst e
    exact q H c (Same.refl H) he
  · subst z
    have e : es = [] := List.eq_nil_of_length_eq_zero l2.symm
    subst e
    rw [List.append_nil] at q
    exact q H t (Same.refl H) hd
theorem tail_if {c : TT} {a u : L2.TS} {D : Ends} {σ : L2.St} {H : Hp} {ι : Type} (C : ι → Prop) (S : ι → L2.St) (G : ι → Hp) (tl : ∀ i, C i → u D (S i) (G i)) (h : (∀ i, C i → u D (S i) (G i)) → tSeq (tIfS c a tNext) u D σ H) : tSeq (tIfS c a tNext) u D σ H := h tl
theorem ints_ex {R : Int → Rec → Prop} : ∀ {ys : List V} {rs : List Rec}, Paired (fun y r => ∃ n : Int, y = .int n ∧ R n r) ys rs → ∃ ns : List Int, ys = ns.map V.int ∧ Paired R ns rs
  | [], [], .nil => ⟨[], rfl, .nil⟩
  | _ :: _, _ :: _, .cons h t => by
    obtain ⟨n, rfl, h⟩ := h
    obtain ⟨ns, rfl, k⟩ := ints_ex t
    exact ⟨n :: ns, rfl, .cons h k⟩
theorem pair_mem {α β : Type} {R : α → β → Prop} : ∀ {as : List α} {bs : List β}, Paired R as bs → ∀ b ∈ bs, ∃ a ∈ as, R a b
  | [], [], .nil, b, h => nomatch h
  | a :: as, b :: bs, .cons x t, c, h => by
    rcases List.mem_cons.mp h with rfl | h
    · exact ⟨a, by simp, x⟩
    · obtain ⟨a2, h1, h2⟩ := pair_mem t c h
      exact ⟨a2, by simp [h1], h2⟩
theorem pair_imp {α β : Type} {R S : α → β → Prop} (h : ∀ a b, R a b → S a b) : ∀ {as : List α} {bs : List β}, Paired R as bs → Paired S as bs
  | [], [], .nil => .nil
  | _ :: _, _ :: _, .cons x t => .cons (h _ _ x) (pair_imp h t)
theorem pair_refl {α : Type} {R : α → α → Prop} (h : ∀ a, R a a) : ∀ l : List α, Paired R l l
  | [] => .nil
  | a :: l => .cons (h a) (pair_refl h l)
theorem pair_map {α β γ : Type} {R : α → β → Prop} {f : α → γ} {g : β → γ} : ∀ {as : List α} {bs : List β}, Paired R as bs → (∀ a ∈ as, ∀ b ∈ bs, R a b → f a = g b) → as.map f = bs.map g
  | [], [], .nil, _ => rfl
  | a :: as, b :: bs, .cons x t, h => by
    rw [List.map_cons, List.map_cons, h a (by simp) b (by simp) x, pair_map t fun p hp q hq => h p (List.mem_cons_of_mem _ hp) q (List.mem_cons_of_mem _ hq)]
theorem same_strs {K : PySem.W.Frag} {f : Bool → Bool} {H : Hp} {x y : V} {ns : List Str} {Q : VK} (h1 : Dx H x (.tuple (ns.map .str))) (h2 : Dx H y (.tuple (ns.map .str))) (q : Q (.bl (f true)) H) : rEqP K f x y H Q := by
  have pl : (PyData.tuple (ns.map .str)).plain = true := by simpa [PyData.plain] using plain_strs ns
  refine ⟨_, _, dp_dx _ _ pl h1, dp_dx _ _ pl h2, pl, pl, ?_, ?_⟩
  · have := deep_strs ns
    simp only [PyData.depth]
    omega
  · rw [show PyData.eqv (.tuple (ns.map .str)) (.tuple (ns.map .str)) = true by simpa [PyData.eqv] using eqv_strs ns]
    exact q
def GtAt (H : Hp) (y : V) (g : List Str) : Prop := Dx H y (.tuple (g.map .str))
theorem gt_mk {H : Hp} {a : Addr} {g : List Str} (h : H a = some (.tup (g.map V.str))) : GtAt H (.ref a) g := .tup h (dxs_strs g)
theorem GtAt.tk {H G : Hp} {y : V} {g : List Str} (k : TK H G) (h : GtAt H y g) : GtAt G y g := dx_tk k _ _ (by
  have : ∀ ns : List Str, noLs (ns.map PyData.str) = true := fun ns => by
    induction ns with
    | nil => simp [noLs]
    | cons n ns ih => simp [noLs, noL, ih]
  simpa [noL] using this g) h
end E1

set_option maxRecDepth 100000
set_option maxHeartbeats 4000000
namespace E1
open PySem PySem.Spec PyProof.Rows L2 KX
/-! ### numbers of sets -/
theorem band_nat (a b : Nat) : Builtin.bitAnd (a : Int) (b : Int) = ((a &&& b : Nat) : Int) := PySem.W.os_band a b
theorem bnot_nat (a : Nat) : Builtin.bitNot (Builtin.bitNot (a : Int)) = (a : Int) := by
  unfold Builtin.bitNot
  omega
theorem bor_nat (a b : Nat) : Builtin.bitOr (a : Int) (b : Int) = ((a ||| b : Nat) : Int) := by
  unfold Builtin.bitOr
  have e : Builtin.bitAnd (Builtin.bitNot (a : Int)) (Builtin.bitNot (b : Int)) = Builtin.bitNot (((Builtin.bitNot (Builtin.bitNot (a : Int))).toNat ||| (Builtin.bitNot (Builtin.bitNot (b : Int))).toNat : Nat) : Int) := by
    have n1 : decide (0 ≤ Builtin.bitNot (a : Int)) = false := decide_eq_false (by unfold Builtin.bitNot; omega)
    have n2 : decide (0 ≤ Builtin.bitNot (b : Int)) = false := decide_eq_false (by unfold Builtin.bitNot; omega)
    unfold Builtin.bitAnd
    rw [n1, n2]
  rw [e, bnot_nat, bnot_nat, bnot_nat, Int.toNat_natCast, Int.toNat_natCast]
def subN : List Str → Nat → List Str
  | [], _ => []
  | x :: ns, m => if m % 2 = 1 then x :: subN ns (m / 2) else subN ns (m / 2)
def numN : List Str → (Str → Bool) → Nat
  | [], _ => 0
  | x :: ns, p => (if p x = true then 1 else 0) + 2 * numN ns p
theorem sub_cons (x : Str) (ns : List Str) (m : Nat) : subN (x :: ns) m = if m % 2 = 1 then x :: subN ns (m / 2) else subN ns (m / 2) := rfl
theorem sub_num (p : Str → Bool) : ∀ ns : List Str, subN ns (numN ns p) = ns.filter p
  | [] => rfl
  | x :: ns => by
    unfold numN subN
    rw [List.filter_cons]
    cases p x with
    | true =>
      rw [if_pos rfl, if_pos (by omega), if_pos rfl, show (1 + 2 * numN ns p) / 2 = numN ns p by omega, sub_num p ns]
    | false =>
      rw [show (if false = true then 1 else 0) + 2 * numN ns p = 2 * numN ns p by simp, if_neg (by omega), if_neg (by decide), show 2 * numN ns p / 2 = numN ns p by omega, sub_num p ns]
theorem num_lt (p : Str → Bool) : ∀ ns : List Str, numN ns p < 2 ^ ns.length
  | [] => by simp [numN]
  | x :: ns => by
    have := num_lt p ns
    unfold numN
    rw [List.length_cons, Nat.pow_succ]
    split <;> omega
theorem sub_mem {x : Str} : ∀ {ns : List Str} {m : Nat}, x ∈ subN ns m → x ∈ ns
  | [], _, h => nomatch h
  | y :: ns, m, h => by
    unfold subN at h
    split at h
    · rcases List.mem_cons.mp h with rfl | h
      · simp
      · exact List.mem_cons_of_mem _ (sub_mem h)
    · exact List.mem_cons_of_mem _ (sub_mem h)
theorem sub_sl : ∀ (ns : List Str) (m : Nat), (subN ns m).Sublist ns
  | [], _ => .slnil
  | y :: ns, m => by
    unfold subN
    split
    · exact (sub_sl ns _).cons_cons y
    · exact (sub_sl ns _).cons y
theorem num_congr {p q : Str → Bool} : ∀ {ns : List Str}, (∀ x ∈ ns, p x = q x) → numN ns p = numN ns q
  | [], _ => rfl
  | x :: ns, h => by
    unfold numN
    rw [h x (by simp), num_congr fun y hy => h y (List.mem_cons_of_mem _ hy)]
theorem num_sub : ∀ {ns : List Str} {m : Nat}, ns.Nodup → m < 2 ^ ns.length → numN ns (fun x => decide (x ∈ subN ns m)) = m
  | [], m, _, h => by
    unfold numN
    simp at h
    omega
  | x :: ns, m, nd, h => by
    rw [List.nodup_cons] at nd
    rw [List.length_cons, Nat.pow_succ] at h
    have ih := num_sub (ns := ns) (m := m / 2) nd.2 (by omega)
    have nx : x ∉ subN ns (m / 2) := fun z => nd.1 (sub_mem z)
    have e : numN ns (fun y => decide (y ∈ subN (x :: ns) m)) = m / 2 := by
      refine (num_congr fun y hy => ?_).trans ih
      have ne : y ≠ x := fun z => nd.1 (z ▸ hy)
      refine decide_eq_decide.mpr ?_
      rw [sub_cons]
      split
      · simp [ne]
      · rfl
    unfold numN
    rw [e]
    by_cases z : m % 2 = 1
    · rw [if_pos (decide_eq_true (by rw [sub_cons, if_pos z]; simp))]
      omega
    · rw [if_neg (by
        rw [decide_eq_true_eq, sub_cons, if_neg z]
        exact nx)]
      omega
theorem sub_inj {ns : List Str} {a b : Nat} (nd : ns.Nodup) (ha : a < 2 ^ ns.length) (hb : b < 2 ^ ns.length) (h : subN ns a = subN ns b) : a = b := by
  rw [← num_sub nd ha, ← num_sub nd hb, h]
/-- the set as the loops make it -/
theorem sub_zip : ∀ (ns : List Str) (k m : Nat), (ns.zipIdx k).filterMap (fun p => if m / 2 ^ p.2 % 2 = 1 then some p.1 else none) = subN ns (m / 2 ^ k)
  | [], _, _ => rfl
  | x :: ns, k, m => by
    rw [List.zipIdx_cons, List.filterMap_cons, sub_zip ns (k + 1) m, show m / 2 ^ (k + 1) = m / 2 ^ k / 2 by rw [Nat.pow_succ, Nat.div_div_eq_div_mul]]
    by_cases z : m / 2 ^ k % 2 = 1
    · simp only [subN, if_pos z]
    · simp only [subN, if_neg z]
theorem num_zip (p : Str → Bool) : ∀ (ns : List Str) (k : Nat), ((ns.zipIdx k).filterMap (fun q => if p q.1 = true then some ((2 : Int) ^ q.2) else none)).sum = 2 ^ k * (numN ns p : Int)
  | [], _ => by simp [numN]
  | x :: ns, k => by
    have ih := num_zip p ns (k + 1)
    rw [List.zipIdx_cons, List.filterMap_cons]
    unfold numN
    cases z : p x with
    | true =>
      simp only [if_true, List.sum_cons]
      rw [ih, Int.pow_succ]
      push_cast
      grind
    | false =>
      simp only [if_neg (show ¬ (false = true) by decide)]
      rw [ih, Int.pow_succ]
      push_cast
      grind
theorem mem_bit : ∀ {ns : List Str} {m i : Nat} {x : Str}, ns.Nodup → ns[i]? = some x → (x ∈ subN ns m ↔ m.testBit i = true)
  | [], _, _, _, _, h => by simp at h
  | y :: ns, m, 0, x, nd, h => by
    cases h
    rw [List.nodup_cons] at nd
    rw [sub_cons, Nat.testBit_zero, decide_eq_true_eq]
    by_cases z : m % 2 = 1
    · simp [z]
    · rw [if_neg z]
      exact ⟨fun k => absurd (sub_mem k) nd.1, fun k => absurd k z⟩
  | y :: ns, m, i + 1, x, nd, h => by
    rw [List.nodup_cons] at nd
    have h : ns[i]? = some x := by simpa using h
    have ne : x ≠ y := fun z => nd.1 (z ▸ List.mem_of_getElem? h)
    rw [Nat.testBit_succ, ← mem_bit (m := m / 2) nd.2 h, sub_cons]
    by_cases z : m % 2 = 1
    · rw [if_pos z]
      simp [ne]
    · rw [if_neg z]
theorem bit_all {ns : List Str} {a : Nat} (nd : ns.Nodup) (ha : a < 2 ^ ns.length) (p : Nat → Prop) : (∀ i, a.testBit i = true → p i) ↔ ∀ (i : Nat) (x : Str), ns[i]? = some x → x ∈ subN ns a → p i := by
  constructor
  · exact fun h i x hx hm => h i ((mem_bit nd hx).mp hm)
  · intro h i hb
    rcases Nat.lt_or_ge i ns.length with z | z
    · exact h i ns[i] (List.getElem?_eq_getElem z) ((mem_bit nd (List.getElem?_eq_getElem z)).mpr hb)
    · have lt : a < 2 ^ i := Nat.lt_of_lt_of_le ha (Nat.pow_le_pow_right (by decide) z)
      rw [Nat.testBit_lt_two_pow lt] at hb
      cases hb
def brkB (a b s : Nat) : Bool := decide (b ||| (a &&& s) ≠ b) || (decide (a &&& s = a) && decide (a &&& s ≠ b))
def lawB (ns : List Str) (a b s : Nat) : Bool := !((subN ns a).filter fun x => decide (x ∈ subN ns s) && !decide (x ∈ subN ns b)).isEmpty || (((subN ns a).filter fun x => !decide (x ∈ subN ns s)).isEmpty && !decide (subN ns a = subN ns b))
theorem sub_ix {ns : List Str} {m : Nat} {x : Str} (h : x ∈ subN ns m) : ∃ i : Nat, ns[i]? = some x := List.getElem?_of_mem (sub_mem h)
theorem or_all {b c : Nat} : b ||| c = b ↔ ∀ i, c.testBit i = true → b.testBit i = true := by
  constructor
  · intro h i hc
    rw [← h, Nat.testBit_or, hc, Bool.or_true]
  · intro h
    refine Nat.eq_of_testBit_eq fun i => ?_
    rw [Nat.testBit_or]
    cases z : c.testBit i with
    | true => rw [h i z]; rfl
    | false => rw [Bool.or_false]
theorem and_all {a s : Nat} : a &&& s = a ↔ ∀ i, a.testBit i = true → s.testBit i = true := by
  constructor
  · intro h i ha
    rw [← h, Nat.testBit_and, Bool.and_eq_true] at ha
    exact ha.2
  · intro h
    refine Nat.eq_of_testBit_eq fun i => ?_
    rw [Nat.testBit_and]
    cases z : a.testBit i with
    | true => rw [h i z]; rfl
    | false => rfl
theorem and_sub {ns : List Str} {a s : Nat} (nd : ns.Nodup) (ha : a < 2 ^ ns.length) : a &&& s = a ↔ ∀ x ∈ subN ns a, x ∈ subN ns s := by
  rw [and_all, bit_all nd ha]
  constructor
  · intro h x hx
    obtain ⟨i, hi⟩ := sub_ix hx
    exact (mem_bit nd hi).mpr (h i x hi hx)
  · exact fun h i x hi hx => (mem_bit nd hi).mp (h x hx)
theorem law_brk {ns : List Str} {a b s : Nat} (nd : ns.Nodup) (ha : a < 2 ^ ns.length) (hb : b < 2 ^ ns.length) : lawB ns a b s = brkB a b s := by
  have eA : ((subN ns a).filter fun x => decide (x ∈ subN ns s) && !decide (x ∈ subN ns b)).isEmpty = decide (b ||| (a &&& s) = b) := by
    rw [Bool.eq_iff_iff, List.isEmpty_iff, List.filter_eq_nil_iff, decide_eq_true_eq, or_all]
    have e : (∀ i, (a &&& s).testBit i = true → b.testBit i = true) ↔ ∀ i, a.testBit i = true → s.testBit i = true → b.testBit i = true := by
      constructor
      · exact fun h i h1 h2 => h i (by rw [Nat.testBit_and, h1, h2]; rfl)
      · intro h i hi
        rw [Nat.testBit_and, Bool.and_eq_true] at hi
        exact h i hi.1 hi.2
    rw [e, bit_all nd ha]
    constructor
    · intro h i x hi hx hs
      have := h x hx
      rw [(mem_bit nd hi).symm] at hs ⊢
      simpa [hs] using this
    · intro h x hx
      obtain ⟨i, hi⟩ := sub_ix hx
      have := h i x hi hx
      rw [← mem_bit nd hi, ← mem_bit nd hi] at this
      by_cases z : x ∈ subN ns s
      · simp [z, this z]
      · simp [z]
  have eB : ((subN ns a).filter fun x => !decide (x ∈ subN ns s)).isEmpty = decide (a &&& s = a) := by
    rw [Bool.eq_iff_iff, List.isEmpty_iff, List.filter_eq_nil_iff, decide_eq_true_eq, and_sub nd ha]
    constructor
    · intro h x hx
      simpa using h x hx
    · intro h x hx
      simpa using h x hx
  have eC : decide (subN ns a = subN ns b) = decide (a = b) := decide_eq_decide.mpr ⟨fun h => sub_inj nd ha hb h, fun h => by rw [h]⟩
  unfold lawB brkB
  rw [eA, eB, eC]
  by_cases z : a &&& s = a
  · rw [z]
    by_cases y : b ||| a = b <;> by_cases x : a = b <;> simp [x, y]
  · by_cases y : b ||| (a &&& s) = b <;> simp [y, z]
end E1

set_option maxRecDepth 100000
set_option maxHeartbeats 4000000
namespace E1
open PySem PySem.Spec PyProof.Rows L2 KX
/-! ### texts among texts -/
abbrev sAm : Stmt := topS 12
abbrev sAa : Stmt := topS 13
abbrev sTn : Stmt := topS 21
abbrev sMb : Stmt := topS 24
abbrev sNs : Stmt := topS 25
abbrev sNo : Stmt := topS 26
abbrev sSo : Stmt := topS 30
theorem scAm : FnScope ["known", "value", "name"] ["known", "value"] (defScope sAm) := ⟨rfl, rfl, rfl, by decide +kernel, rfl, by decide +kernel, by decide +kernel⟩
theorem scAa : FnScope ["known", "value"] ["known", "value"] (defScope sAa) := ⟨rfl, rfl, rfl, by decide +kernel, rfl, by decide +kernel, by decide +kernel⟩
theorem scTn : FnScope ["value", "name"] ["value"] (defScope sTn) := ⟨rfl, rfl, rfl, by decide +kernel, rfl, by decide +kernel, by decide +kernel⟩
theorem scMb : FnScope ["parts", "number", "index", "part"] ["parts", "number"] (defScope sMb) := ⟨rfl, rfl, rfl, by decide +kernel, rfl, by decide +kernel, by decide +kernel⟩
theorem scNs : FnScope ["parts", "number"] ["parts"] (defScope sNs) := ⟨rfl, rfl, rfl, by decide +kernel, rfl, by decide +kernel, by decide +kernel⟩
theorem scNo : FnScope ["names", "chosen", "index", "name"] ["names", "chosen"] (defScope sNo) := ⟨rfl, rfl, rfl, by decide +kernel, rfl, by decide +kernel, by decide +kernel⟩
theorem scSo : FnScope ["table", "choice"] ["table"] (defScope sSo) := ⟨rfl, rfl, rfl, by decide +kernel, rfl, by decide +kernel, by decide +kernel⟩
def amongD (ns : List Str) : PyData → Bool
  | .tuple ds => ds.all (amg ns)
  | _ => false
def strOf : PyData → Str
  | .str x => x
  | _ => ""
def strsT : PyData → List Str
  | .tuple ds => ds.map strOf
  | _ => []
def ascIn (ns : List Str) (d : PyData) : Bool := amongD ns d && ascS (strsT d)
theorem amg_str {ns : List Str} {d : PyData} (h : amg ns d = true) : d = .str (strOf d) ∧ strOf d ∈ ns := by
  unfold amg at h
  obtain ⟨n, hn, e⟩ := List.any_eq_true.mp h
  rw [isSt_is e]
  exact ⟨rfl, hn⟩
theorem among_strs {ns : List Str} {ds : List PyData} (h : amongD ns (.tuple ds) = true) : ds = (strsT (.tuple ds)).map .str ∧ ∀ x ∈ strsT (.tuple ds), x ∈ ns := by
  have h : ∀ d ∈ ds, amg ns d = true := List.all_eq_true.mp h
  constructor
  · show ds = (ds.map strOf).map PyData.str
    rw [List.map_map]
    have e : ds.map (PyData.str ∘ strOf) = ds.map id := List.map_congr_left fun d hd => (amg_str (h d hd)).1.symm
    rw [e, List.map_id]
  · intro x hx
    obtain ⟨d, hd, rfl⟩ := List.mem_map.mp hx
    exact (amg_str (h d hd)).2
def spAm : Sp := fun vs H Q _ => ∃ (kv v : V) (ns : List Str) (d : PyData), vs = [kv, v] ∧ Dz H kv (.tuple (ns.map .str)) ∧ Dx H v d ∧ (∀ ds, d = .tuple ds → ds.length ≤ 1000) ∧ ∀ H', Same H H' → Q (.bl (amongD ns d)) H'
def spAa : Sp := fun vs H Q _ => ∃ (kv v : V) (ns : List Str) (d : PyData), vs = [kv, v] ∧ Dz H kv (.tuple (ns.map .str)) ∧ Dx H v d ∧ (∀ ds, d = .tuple ds → ds.length ≤ 1000) ∧ ∀ H', Same H H' → Q (.bl (ascIn ns d)) H'
/-- names of a table -/
structure TNs (ns : List Str) : Prop where
  l1 : 1 ≤ ns.length
  l6 : ns.length ≤ 6
  nm : ∀ n ∈ ns, nameD (.str n) = true
  asc : ascS ns = true
def spTn : Sp := fun vs H Q _ => ∃ (v : V) (ns : List Str), vs = [v] ∧ Dz H v (.tuple (ns.map .str)) ∧ TNs ns ∧ ∀ H', Same H H' → Q (.bl true) H'
def spMb : Sp := fun vs H Q _ => ∃ (v : V) (ns : List Str) (m : Nat), vs = [v, .int (m : Int)] ∧ Dz H v (.tuple (ns.map .str)) ∧ ns.length ≤ 10 ∧ ∀ H' p, Same H H' → H p = none → H' p = some (.tup ((subN ns m).map V.str)) → Q (.ref p) H'
def allN (ns : List Str) : List (List Str) := (List.range (2 ^ ns.length - 1)).map fun i => subN ns (i + 1)
def spNs : Sp := fun vs H Q _ => ∃ (v : V) (ns : List Str), vs = [v] ∧ Dz H v (.tuple (ns.map .str)) ∧ ns.length ≤ 6 ∧ ∀ H' p ys, Same H H' → H p = none → H' p = some (.lst ys) → Paired (GtAt H') ys (allN ns) → Q (.ref p) H'
def spNo : Sp := fun vs H Q _ => ∃ (v u : V) (ns cs : List Str), vs = [v, u] ∧ Dz H v (.tuple (ns.map .str)) ∧ Dx H u (.tuple (cs.map .str)) ∧ ns.length ≤ 10 ∧ ∀ H', Same H H' → Q (.int (numN ns (fun x => decide (x ∈ cs)) : Int)) H'
theorem vals_strsX {H : Hp} {v : V} {ns : List Str} (h : Dx H v (.tuple (ns.map .str))) : ∃ a, v = .ref a ∧ H a = some (.tup (ns.map V.str)) := by
  obtain ⟨a, xs, rfl, ea, hx⟩ := dx_tup' h
  rw [vals_strsD hx] at ea
  exact ⟨a, rfl, ea⟩
theorem bools_of : ∀ {ys : List V} {bs : List Bool}, Paired (fun y b => y = V.bl b) ys bs → ys = bs.map V.bl
  | [], [], .nil => rfl
  | _ :: _, _ :: _, .cons h t => by rw [List.map_cons, h, bools_of t]
theorem bit_test (m i : Nat) : (Builtin.bitAnd ((m : Int) / 2 ^ ((i : Int)).toNat) 1 != 0) = decide (m / 2 ^ i % 2 = 1) := by
  have e : (m : Int) / 2 ^ ((i : Int)).toNat = ((m / 2 ^ i : Nat) : Int) := by
    rw [Int.toNat_natCast]
    push_cast
    rfl
  rw [e, show (1 : Int) = ((1 : Nat) : Int) from rfl, band_nat, Nat.and_one_is_mod]
  rcases Nat.mod_two_eq_zero_or_one (m / 2 ^ i) with z | z <;> rw [z] <;> rfl
def tTru (K : PySem.W.Frag) (ta : TE) : TT := fun σ H Q => ta σ H fun x H' => ∃ k, TruV K x H' k ∧ Q k H'
theorem walk_rangeY {lo : Int} {n : Nat} : Walk (Itr lo n) n (fun _ => True) (YAt ((List.range n).map fun i => V.int (lo + (i : Nat)))) :=
  walk_range.mono (fun _ h => h) fun i H x H' lt _ y => ⟨y.1, by rw [List.getElem?_map, List.getElem?_range lt, y.2]; rfl⟩
theorem walk_rangeL {lo : Int} {n m : Nat} (e : m = n) : Walk (Itr lo n) m (fun _ => True) (YAt ((List.range n).map fun i => V.int (lo + (i : Nat)))) := by
  subst e
  exact walk_rangeY
theorem zipIdx_at {α : Type} {xs : List α} {i : Nat} {q : α × Nat} (h : (xs.zipIdx)[i]? = some q) : q.2 = i ∧ xs[i]? = some q.1 := by
  rw [List.getElem?_zipIdx] at h
  obtain ⟨x, hx, e⟩ := Option.map_eq_some_iff.mp h
  subst e
  exact ⟨by simp, hx⟩
section
variable {P : Program} {w : World} {K : PySem.W.Frag} {mg : Str → Option Value} {base : Heap}
theorem ok_am {f : Addr} {fd : FuncData} (B : Bl mg) (D : Df K mg "are_among" sAm ["known", "value"] f fd) : FnOk P w K mg base CX0 2 f fd ["known", "value"] spAm := by
  refine D.F.ok scAm (fun vs H Q E h => ?_) (fun cdv A outer s H vs Q E hr h => ?_)
  · obtain ⟨kv, v, ns, d, rfl, _⟩ := h
    rfl
  · obtain ⟨kv, v, ns, d, rfl, hk, hd, hl, q⟩ := h
    have nd := scAm.nd
    refine ⟨_, pss_one (ps_ret (pe_and (pe_isD (T := "tuple") (x := "tuple") (by decide +kernel) B.isi B.tuple (by decide +kernel) (pv 1) (by rfl) (by rfl))
      (pe_one (pe_callB (cr_all rfl) (by rfl) B.all (by decide +kernel) (pa_cons (pe_lc (own := [("name", 2)]) (g := gName 2) rfl nd (pi_tup (pv 1)) (blkOk_by (N := ["known", "value", "name"]) (sc := defScope sAm) (by decide +kernel)) (fun _ _ _ _ _ => pg_name (i := 2) nd rfl (Or.inl rfl)) (fun _ _ _ _ _ => pts_nil)
        (fun _ _ _ _ _ => pe_cmpR (r := rInA K id) (op_inA hr.units) (pv 2) (pv 0) (by rfl))) pa_nil))))), ?_⟩
    refine ⟨v, rfl, rfl, d, .dx hd, _, rfl, ?_⟩
    rw [isa_tuple]
    cases d with
    | tuple ds =>
      have hl := hl ds rfl
      refine iteT ?_
      obtain ⟨a, xs, rfl, ea, hx⟩ := dx_tup' hd
      obtain ⟨t, rfl, et⟩ := dz_strs hk
      have lx := hx.len
      refine ⟨.ref a, rfl, a, rfl, ⟨_, .inl (.inl ea)⟩, fun L nL => ?_⟩
      refine lc_gen (as := ds) (fun d => some (amg ns d)) (fun _ y b => y = .bl b) (fun _ _ _ _ _ h => h) (walk_tup (K := K)) nL (fun G sG => .inl (.inl (sG _ _ ea))) lx.symm (by omega) (fun m x e G hxm hem sG Pt Pf kt kf => ?_) (fun G ys sG eL hp _ => ?_)
      · obtain ⟨e2, ee, hxe⟩ := hx.get' hxm
        rw [hem] at ee
        cases ee
        exact ⟨rfl, x, rfl, .ref t, rfl, e, t, ns, hxe.up sG, rfl, .inl (rd_up et sG), kt _ rfl _ _ (Same.refl G) rfl⟩
      · have hp : Paired (fun y b => y = V.bl b) ys (ds.map (amg ns)) := by rw [show ds.map (amg ns) = ds.filterMap (fun d => some (amg ns d)) from List.filterMap_eq_map.symm ▸ rfl]; exact hp
        have eb := bools_of hp
        rw [eb] at eL
        refine ⟨L, _, rfl, .inl (.inl eL), ?_⟩
        rw [show (ds.map (amg ns)).all id = ds.all (amg ns) by rw [List.all_map]; rfl]
        exact q G sG
    | _ => exact iteF (q H (Same.refl H))
theorem ok_aa {k : Nat} {f fA fB : Addr} {fd gA gB : FuncData} (D : Df K mg "are_ascending_among" sAa ["known", "value"] f fd) (DA : Df K mg "are_among" sAm ["known", "value"] fA gA) (DB : Df K mg "is_ascending" sAsc ["names"] fB gB)
    (GA : FnOk P w K mg base CX0 k fA gA ["known", "value"] spAm) (GB : FnOk P w K mg base CX0 k fB gB ["names"] spAsc) : FnOk P w K mg base CX0 (k + 1) f fd ["known", "value"] spAa := by
  refine D.F.ok scAa (fun vs H Q E h => ?_) (fun cdv A outer s H vs Q E hr h => ?_)
  · obtain ⟨kv, v, ns, d, rfl, _⟩ := h
    rfl
  · obtain ⟨kv, v, ns, d, rfl, hk, hd, hl, q⟩ := h
    have nd := scAa.nd
    refine ⟨_, pss_one (ps_ret (pe_and (pe_call GA hr (by rfl) DA.g DA.F.kp DA.b .nil pass0 (pa_cons (pv 0) (pa_cons (pv 1) pa_nil))) (pe_one (pe_call GB hr (by rfl) DB.g DB.F.kp DB.b .nil pass0 (pa_cons (pv 1) pa_nil))))), ?_⟩
    refine ⟨kv, rfl, v, rfl, kv, v, ns, d, rfl, hk, hd, hl, fun H1 s1 => ⟨_, rfl, ?_⟩⟩
    unfold ascIn at q
    cases e : amongD ns d with
    | false =>
      rw [e] at q
      exact iteF (q H1 s1)
    | true =>
      rw [e] at q
      refine iteT ?_
      cases d with
      | tuple ds =>
        have h2 := (among_strs e).1
        have l2 : (strsT (.tuple ds)).length = ds.length := List.length_map _
        refine ⟨v, rfl, v, strsT (.tuple ds), rfl, by rw [← h2]; exact .dx (hd.up s1), by rw [l2]; exact hl ds rfl, fun H2 s2 => ?_⟩
        have := q H2 (s1.trans s2)
        rwa [Bool.true_and] at this
      | _ => cases e
theorem ok_mb {f : Addr} {fd : FuncData} (B : Bl mg) (D : Df K mg "members_of" sMb ["parts", "number"] f fd) : FnOk P w K mg base CX0 1 f fd ["parts", "number"] spMb := by
  refine D.F.ok scMb (fun vs H Q E h => ?_) (fun cdv A outer s H vs Q E hr h => ?_)
  · obtain ⟨v, ns, m, rfl, _⟩ := h
    rfl
  · obtain ⟨v, ns, m, rfl, hd, hl, q⟩ := h
    have nd := scMb.nd
    refine ⟨_, pss_one (ps_ret (pe_callTy call_tuple_of (by rfl) B.tuple (by decide +kernel) (pa_cons (pe_lc (own := [("index", 2), ("part", 3)]) (g := gTup K 2 (gCons (gName 2) (gCons (gName 3) gNil))) rfl nd (pi_enumQ (by rfl) B.enu (pa_cons (pv 0) pa_nil)) (blkOk_by (N := ["parts", "number", "index", "part"]) (sc := defScope sMb) (by decide +kernel))
        (fun _ _ _ _ _ => pg_tup (by rfl) (pgs_cons (pg_name (i := 2) nd rfl (Or.inl rfl)) (pgs_cons (pg_name (i := 3) nd rfl (Or.inl rfl)) pgs_nil))) (tt := tTru K (tOp (rI0 fun i j => .int (Builtin.bitAnd i j)) (tOp (rI (fun _ j => 0 ≤ j) fun i j => .int (i / 2 ^ j.toNat)) (tVar 1) (tVar 2)) (tC (V.int 1)))) (fun _ _ _ _ _ => pts_one (pt_truth (pe_op op_and (pe_op op_shr (pv 1) (pv 2)) pe_int) (fun _ => rfl))) (fun _ _ _ _ _ => pv 3)) pa_nil))), ?_⟩
    obtain ⟨a, rfl, ea⟩ := dz_strs hd
    refine ⟨.ref a, rfl, a, _, rfl, .inl ea, fun L nL => ?_⟩
    have lz : (ns.zipIdx).length = (ns.map V.str).length := by rw [List.length_zipIdx, List.length_map]
    refine lc_genZ (as := ns.zipIdx) (fun p => if m / 2 ^ p.2 % 2 = 1 then some p.1 else none) (fun _ y n => y = .str n) (fun _ _ _ _ _ h => h) (lz ▸ walk_enumQ (K := K)) nL (fun G sG => .inl (rd_up ea sG)) (by rw [List.length_zipIdx]; omega) (fun i x y p T G hx hy hp sG eT Pt Pf kt kf => ?_) (fun G us sG eL hp _ => ?_)
    · obtain ⟨e1, e2⟩ := zipIdx_at hp
      cases hx
      rw [List.getElem?_map, e2] at hy
      cases hy
      refine ⟨T, _, rfl, .inl (.inl eT), rfl, _, _, rfl, _, _, rfl, rfl, ?_⟩
      refine ⟨rfl, .int (m : Int), rfl, .int (i : Int), rfl, (m : Int), (i : Int), rfl, rfl, by omega, _, 1, rfl, rfl, _, rfl, ?_⟩
      rw [bit_test]
      by_cases z : m / 2 ^ i % 2 = 1
      · exact ite_to (decide_eq_true z) ⟨.str p.1, rfl, kt _ (by rw [e1, if_pos z]) _ _ (Same.refl G) rfl⟩
      · exact ite_not (decide_eq_false z) (kf (by rw [e1, if_neg z]) _ (Same.refl G))
    · have e0 : (ns.zipIdx).filterMap (fun p => if m / 2 ^ p.2 % 2 = 1 then some p.1 else none) = subN ns m := by
        have := sub_zip ns 0 m
        rwa [Nat.pow_zero, Nat.div_one] at this
      rw [e0] at hp
      have eus := strs_of (H := G) hp
      subst eus
      refine ⟨L, _, rfl, .inl ⟨.inl (.inl eL), fun p np => ?_⟩⟩
      have np0 : H p = none := by
        cases z : H p with
        | none => rfl
        | some o => rw [sG _ _ z] at np; cases np
      exact q _ p (sG.trans (same_new np)) np0 upd_same
theorem ok_ns {k : Nat} {f fM : Addr} {fd gM : FuncData} (B : Bl mg) (D : Df K mg "nonempty_sets" sNs ["parts"] f fd) (DM : Df K mg "members_of" sMb ["parts", "number"] fM gM) (GM : FnOk P w K mg base CX0 k fM gM ["parts", "number"] spMb) : FnOk P w K mg base CX0 (k + 1) f fd ["parts"] spNs := by
  refine D.F.ok scNs (fun vs H Q E h => ?_) (fun cdv A outer s H vs Q E hr h => ?_)
  · obtain ⟨v, ns, rfl, _⟩ := h
    rfl
  · obtain ⟨v, ns, rfl, hd, hl, q⟩ := h
    have nd := scNs.nd
    refine ⟨_, pss_one (ps_ret (pe_lc (own := [("number", 1)]) (g := gName 1) rfl nd (pi_range2 (by rfl) B.range (pa_cons pe_int (pa_cons (pe_op op_shl pe_int (pe_callB call_len_seq (by rfl) B.len PySem.boot_len (pa_cons (pv 0) pa_nil))) pa_nil))) (blkOk_by (N := ["parts", "number"]) (sc := defScope sNs) (by decide +kernel))
        (fun _ _ _ _ _ => pg_name (i := 1) nd rfl (Or.inl rfl)) (fun _ _ _ _ _ => pts_nil) (fun _ _ _ _ _ => pe_call GM hr (by rfl) DM.g DM.F.kp DM.b .nil pass0 (pa_cons (pv 0) (pa_cons (pv 1) pa_nil))))), ?_⟩
    obtain ⟨a, rfl, ea⟩ := dz_strs hd
    have ej : (1 : Int) * 2 ^ (((ns.map V.str).length : Nat) : Int).toNat = ((2 ^ ns.length : Nat) : Int) := by
      rw [List.length_map, Int.toNat_natCast, Int.one_mul]
      push_cast
      rfl
    have p64 : 2 ^ ns.length ≤ 2 ^ 6 := Nat.pow_le_pow_right (by decide) hl
    have eN : allN ns = (List.range (2 ^ ns.length - 1)).map fun i => subN ns (i + 1) := rfl
    generalize 2 ^ ns.length = N at ej p64 eN
    refine ⟨.ref a, rfl, a, _, rfl, .inr (.inl ea), 1, _, rfl, rfl, ⟨by omega, by rw [List.length_map]; omega, by decide⟩, 1, _, rfl, ⟨by decide, by decide, by rw [ej]; omega, by rw [ej]; omega⟩, fun L nL => ?_⟩
    rw [ej, show (((N : Nat) : Int) - 1).toNat = N - 1 by omega]
    refine lc_gen (xs := (List.range (N - 1)).map fun i => V.int (1 + (i : Nat))) (as := List.range (N - 1)) (fun i => some (subN ns (i + 1))) GtAt (fun _ _ _ _ k h => GtAt.tk k h) (walk_rangeL (by rw [List.length_map, List.length_range])) nL (fun _ _ => trivial) (by rw [List.length_map]) (by rw [List.length_range]; omega) (fun m x i G hxm him sG Pt Pf kt kf => ?_) (fun G ys sG eL hp _ => ?_)
    · have hm := List.mem_range.mp (List.mem_of_getElem? him)
      have e1 : i = m := by
        have := List.getElem?_range (n := N - 1) (i := m) (by
          have := (List.getElem?_eq_some_iff.mp him).1
          rwa [List.length_range] at this)
        rw [this] at him
        exact (Option.some.inj him).symm
      subst e1
      rw [List.getElem?_map, him] at hxm
      cases hxm
      refine ⟨rfl, .ref a, rfl, .int (1 + (i : Int)), rfl, .ref a, ns, i + 1, by rw [show ((i + 1 : Nat) : Int) = 1 + (i : Int) by omega]; rfl, hd.up sG, by omega, fun G2 p s2 _ e2 => kt _ rfl _ _ s2 (gt_mk e2)⟩
    · have e2 : (List.range (N - 1)).filterMap (fun i => some (subN ns (i + 1))) = (List.range (N - 1)).map (fun i => subN ns (i + 1)) := List.filterMap_eq_map ▸ rfl
      rw [e2, ← eN] at hp
      exact q G L ys sG nL eL hp
theorem ok_no {f : Addr} {fd : FuncData} (B : Bl mg) (D : Df K mg "number_of" sNo ["names", "chosen"] f fd) : FnOk P w K mg base CX0 2 f fd ["names", "chosen"] spNo := by
  refine D.F.ok scNo (fun vs H Q E h => ?_) (fun cdv A outer s H vs Q E hr h => ?_)
  · obtain ⟨v, u, ns, cs, rfl, _⟩ := h
    rfl
  · obtain ⟨v, u, ns, cs, rfl, hd, hc, hl, q⟩ := h
    have nd := scNo.nd
    refine ⟨_, pss_one (ps_ret (pe_callB (cr_sum rfl) (by rfl) B.sum (by decide +kernel) (pa_cons (pe_lc (own := [("index", 2), ("name", 3)]) (g := gTup K 2 (gCons (gName 2) (gCons (gName 3) gNil))) rfl nd (pi_enumQ (by rfl) B.enu (pa_cons (pv 0) pa_nil)) (blkOk_by (N := ["names", "chosen", "index", "name"]) (sc := defScope sNo) (by decide +kernel))
        (fun _ _ _ _ _ => pg_tup (by rfl) (pgs_cons (pg_name (i := 2) nd rfl (Or.inl rfl)) (pgs_cons (pg_name (i := 3) nd rfl (Or.inl rfl)) pgs_nil))) (fun _ _ _ _ _ => pts_one (pt_cmpR (r := rInA K id) (op_inA hr.units) (pv 3) (pv 1) (by rfl))) (fun _ _ _ _ _ => pe_op op_shl pe_int (pv 2))) pa_nil))), ?_⟩
    obtain ⟨a, rfl, ea⟩ := dz_strs hd
    obtain ⟨t, rfl, et⟩ := vals_strsX hc
    refine ⟨.ref a, rfl, a, _, rfl, .inl ea, fun L nL => ?_⟩
    have lz : (ns.zipIdx).length = (ns.map V.str).length := by rw [List.length_zipIdx, List.length_map]
    refine lc_genZ (as := ns.zipIdx) (fun p => if decide (p.1 ∈ cs) = true then some ((2 : Int) ^ p.2) else none) (fun _ y n => y = .int n) (fun _ _ _ _ _ h => h) (lz ▸ walk_enumQ (K := K)) nL (fun G sG => .inl (rd_up ea sG)) (by rw [List.length_zipIdx]; omega) (fun i x y p T G hx hy hp sG eT Pt Pf kt kf => ?_) (fun G us sG eL hp _ => ?_)
    · have hi : i < ns.length := by
        have := (List.getElem?_eq_some_iff.mp hp).1
        rwa [List.length_zipIdx] at this
      obtain ⟨e1, e2⟩ := zipIdx_at hp
      cases hx
      rw [List.getElem?_map, e2] at hy
      cases hy
      refine ⟨T, _, rfl, .inl (.inl eT), rfl, _, _, rfl, _, _, rfl, rfl, ?_⟩
      refine ⟨rfl, .str p.1, rfl, .ref t, rfl, .str p.1, t, cs, .str _, rfl, .inl (.inl (sG _ _ et)), _, rfl, ?_⟩
      rw [show id (cs.any fun n => isSt n (PyData.str p.1)) = decide (p.1 ∈ cs) from amg_mem]
      by_cases z : p.1 ∈ cs
      · exact ite_to (decide_eq_true z) ⟨.int (i : Int), rfl, 1, (i : Int), rfl, rfl, ⟨by omega, by omega, by decide⟩, kt _ (by rw [if_pos (decide_eq_true z), e1]) _ _ (Same.refl G) (by show V.int (1 * 2 ^ ((i : Int)).toNat) = _; rw [Int.toNat_natCast, Int.one_mul])⟩
      · exact ite_not (decide_eq_false z) (kf (by rw [if_neg (by simp [z])]) _ (Same.refl G))
    · have eus := ints_of (H := G) hp
      subst eus
      refine ⟨L, _, rfl, .inl (.inl eL), ?_⟩
      have := num_zip (fun x => decide (x ∈ cs)) ns 0
      rw [this, Int.pow_zero, Int.one_mul]
      exact q G sG
end
end E1

set_option maxRecDepth 100000
set_option maxHeartbeats 4000000
namespace E1
open PySem PySem.Spec PyProof.Rows L2 KX
structure OC (K : PySem.W.Frag) (mg : Str → Option Value) (x : Str) (R : Addr) : Prop where
  g : mg x = some (.ref R)
  q : PySem.W.excIn K R [.type "ValueError", .type "Exception", .type "BaseException", .type "object"] "ValueError.__new__" = true
  kp : PySem.W.keepIn K (.ref R) = true
  sub : PySem.W.subIn K (.ref R) (.type "BaseException") = some true
  ty : PySem.W.typeIn K (.ref R) = some (.type "type")
/-! ### tables -/
abbrev sIt : Stmt := topS 22
abbrev sCt : Stmt := topS 23
abbrev sFv : Stmt := topS 29
abbrev sIb : Stmt := topS 31
abbrev sIv : Stmt := topS 32
abbrev NIt : List Str := ["value", "sets", "names", "choice"]
abbrev NFv : List Str := ["table", "selections", "larger", "smaller"]
abbrev NIv : List Str := ["table", "value", "larger", "smaller"]
theorem scIt : FnScope NIt ["value"] (defScope sIt) := ⟨rfl, rfl, rfl, by decide +kernel, rfl, by decide +kernel, by decide +kernel⟩
theorem scCt : FnScope ["table"] ["table"] (defScope sCt) := ⟨rfl, rfl, rfl, by decide +kernel, rfl, by decide +kernel, by decide +kernel⟩
theorem scFv : FnScope NFv ["table"] (defScope sFv) := ⟨rfl, rfl, rfl, by decide +kernel, rfl, by decide +kernel, by decide +kernel⟩
theorem scIb : FnScope ["selections", "larger", "smaller", "kept"] ["selections", "larger", "smaller"] (defScope sIb) := ⟨rfl, rfl, rfl, by decide +kernel, rfl, by decide +kernel, by decide +kernel⟩
theorem scIv : FnScope NIv ["table", "value"] (defScope sIv) := ⟨rfl, rfl, rfl, by decide +kernel, rfl, by decide +kernel, by decide +kernel⟩
/-- a table: its names, the number of each set's choice -/
structure TOk (ns : List Str) (ks : List Nat) : Prop where
  nms : TNs ns
  len : ks.length = 2 ^ ns.length
  zero : ks[0]? = some 0
  sub : ∀ (m k : Nat), ks[m]? = some k → k &&& m = k
def chs (ns : List Str) (ks : List Nat) : List (List Str) := (ks.drop 1).map (subN ns)
def encT (ns : List Str) (ks : List Nat) : PyData := .tuple [.tuple (ns.map .str), .tuple ((chs ns ks).map fun c => .tuple (c.map .str))]
theorem TOk.lt {ns : List Str} {ks : List Nat} (h : TOk ns ks) {m k : Nat} (e : ks[m]? = some k) : k < 2 ^ ns.length := by
  have h1 := h.sub m k e
  have h2 : k &&& m ≤ m := Nat.and_le_right
  have h3 := (List.getElem?_eq_some_iff.mp e).1
  rw [h.len] at h3
  omega
theorem asc_pw : ∀ {l : List Str}, ascS l = true → l.Pairwise (fun a b => ltS a b = true)
  | [], _ => .nil
  | a :: l, h => List.pairwise_cons.mpr ⟨(asc_cons h).2, asc_pw (asc_cons h).1⟩
theorem pw_asc : ∀ {l : List Str}, l.Pairwise (fun a b => ltS a b = true) → ascS l = true
  | [], _ => rfl
  | [_], _ => rfl
  | a :: b :: l, h => by
    obtain ⟨h1, h2⟩ := List.pairwise_cons.mp h
    show (ltS a b && ascS (b :: l)) = true
    rw [h1 b (by simp), pw_asc h2]
    rfl
theorem TNs.nd {ns : List Str} (h : TNs ns) : ns.Nodup := (asc_pw h.asc).imp fun {a b} h e => by
  subst e
  rw [lt_irr] at h
  cases h
theorem pair_dxs {H : Hp} {α : Type} {f : α → PyData} : ∀ {as : List α} {ys : List V}, Dxs H ys (as.map f) → Paired (fun y a => Dx H y (f a)) ys as
  | [], _, h => by cases h; exact .nil
  | a :: as, _, h => by
    cases h with
    | cons h t => exact .cons h (pair_dxs t)
/-- a table in the heap: its names' tuple may be known as an object -/
def TblAt (H : Hp) (v : V) (ns : List Str) (ks : List Nat) : Prop := ∃ a z y ws, v = .ref a ∧ H a = some (.tup [.ref z, .ref y]) ∧ Rd H z (.tup (ns.map V.str)) ∧ H y = some (.tup ws) ∧ Paired (GtAt H) ws (chs ns ks)
theorem TblAt.up {G F : Hp} {v : V} {ns : List Str} {ks : List Nat} (h : TblAt G v ns ks) (s : Same G F) : TblAt F v ns ks := by
  obtain ⟨a, z, y, ws, e, ea, ez, ey, hw⟩ := h
  exact ⟨a, z, y, ws, e, s _ _ ea, rd_up ez s, s _ _ ey, pair_tk (Rel := GtAt) (fun _ _ _ _ k h => GtAt.tk k h) (TK.same s) hw⟩
theorem TblAt.dz {H : Hp} {v : V} {ns : List Str} {ks : List Nat} (h : TblAt H v ns ks) : Dz H v (encT ns ks) := by
  obtain ⟨a, z, y, ws, rfl, ea, ez, ey, hw⟩ := h
  exact .tup (.inl ea) (.cons (strs_dz ez) (.cons (.dx (.tup ey (dxs_pair (f := fun c : List Str => PyData.tuple (c.map .str)) hw))) .nil))
def spSo : Sp := fun vs H Q _ => ∃ (v : V) (ns : List Str) (ks : List Nat), vs = [v] ∧ TblAt H v ns ks ∧ TOk ns ks ∧ ∀ H' p, Same H H' → H' p = some (.lst (ks.map fun k : Nat => V.int (k : Int))) → Q (.ref p) H'
def spIb : Sp := fun vs H Q _ => ∃ (p : Addr) (ks : List Nat) (l s a b : Nat), vs = [.ref p, .int (l : Int), .int (s : Int)] ∧ H p = some (.lst (ks.map fun k : Nat => V.int (k : Int))) ∧ ks[l]? = some a ∧ ks[s]? = some b ∧ Q (.bl (brkB a b s)) H
def spIt : Sp := fun vs H Q _ => ∃ (v : V) (ns : List Str) (ks : List Nat), vs = [v] ∧ TblAt H v ns ks ∧ TOk ns ks ∧ ∀ H', Same H H' → Q (.bl true) H'
def spCt : Sp := fun vs H Q _ => ∃ (v : V) (ns : List Str) (ks : List Nat), vs = [v] ∧ TblAt H v ns ks ∧ TOk ns ks ∧ ∀ H', Same H H' → Q .non H'
def brkAt (ks : List Nat) (l s : Nat) : Bool := brkB (ks.getD l 0) (ks.getD s 0) s
def pairD (ns : List Str) (l s : Nat) : PyData := .tuple [.tuple ((subN ns l).map .str), .tuple ((subN ns s).map .str)]
def hitAt (ks : List Nat) (l s : Nat) : Bool := decide (l ||| s = l) && brkAt ks l s
def spFv : Sp := fun vs H Q _ => ∃ (v : V) (ns : List Str) (ks : List Nat), vs = [v] ∧ TblAt H v ns ks ∧ TOk ns ks ∧ ((∀ l s, s < l → l < 2 ^ ns.length → hitAt ks l s = false) → ∀ H', Same H H' → Q .non H') ∧
  ∀ l s, s < l → l < 2 ^ ns.length → hitAt ks l s = true → ∀ H' p, Same H H' → Dx H' (.ref p) (pairD ns l s) → Q (.ref p) H'
def numD (ns : List Str) (d : PyData) : Nat := numN ns fun x => decide (x ∈ strsT d)
def vioD (ns : List Str) (ks : List Nat) : PyData → Bool
  | .tuple [a, b] => (ascIn ns a && ascIn (strsT a) b) && brkAt ks (numD ns a) (numD ns b)
  | _ => false
def spIv : Sp := fun vs H Q _ => ∃ (v u : V) (ns : List Str) (ks : List Nat) (d : PyData), vs = [v, u] ∧ TblAt H v ns ks ∧ TOk ns ks ∧ Dx H u d ∧ (∀ ds, d = .tuple ds → ∀ e ∈ ds, ∀ es, e = .tuple es → es.length ≤ 1000) ∧ ∀ H', Same H H' → Q (.bl (vioD ns ks d)) H'
theorem asc_in {ns cs : List Str} (h : ∀ x ∈ cs, x ∈ ns) (a : ascS cs = true) : ascIn ns (.tuple (cs.map .str)) = true := by
  unfold ascIn
  have e : strsT (.tuple (cs.map .str)) = cs := by
    show (cs.map PyData.str).map strOf = cs
    rw [List.map_map]
    exact (List.map_congr_left fun x _ => rfl).trans (List.map_id cs)
  rw [e, a, Bool.and_true]
  exact List.all_eq_true.mpr fun d hd => by
    obtain ⟨x, hx, rfl⟩ := List.mem_map.mp hd
    rw [amg_mem]
    exact decide_eq_true (h x hx)
section
variable {P : Program} {w : World} {K : PySem.W.Frag} {mg : Str → Option Value} {base : Heap}
theorem ok_so {k : Nat} {f fN : Addr} {fd gN : FuncData} (D : Df K mg "selections_of" sSo ["table"] f fd) (DN : Df K mg "number_of" sNo ["names", "chosen"] fN gN) (GN : FnOk P w K mg base CX0 k fN gN ["names", "chosen"] spNo) : FnOk P w K mg base CX0 (k + 1) f fd ["table"] spSo := by
  refine D.F.ok scSo (fun vs H Q E h => ?_) (fun cdv A outer s H vs Q E hr h => ?_)
  · obtain ⟨v, ns, ks, rfl, _⟩ := h
    rfl
  · obtain ⟨v, ns, ks, rfl, hd, ok, q⟩ := h
    have nd := scSo.nd
    have big : (1000 : Nat) < sizeLine := by decide
    refine ⟨_, pss_one (ps_ret (pe_op op_cat (pe_lst (pa_cons pe_int pa_nil)) (pe_lc (own := [("choice", 1)]) (g := gName 1) rfl nd (pi_tup (pe_ix (r := rIxT K) ix_tup (pv 0) pe_int (fun _ _ => rfl))) (blkOk_by (N := ["table", "choice"]) (sc := defScope sSo) (by decide +kernel)) (fun _ _ _ _ _ => pg_name (i := 1) nd rfl (Or.inl rfl)) (fun _ _ _ _ _ => pts_nil)
      (fun _ _ _ _ _ => pe_call GN hr (by rfl) DN.g DN.F.kp DN.b .nil pass0 (pa_cons (pe_ix (r := rIxT K) ix_tup (pv 0) pe_int (fun _ _ => rfl)) (pa_cons (pv 1) pa_nil)))))), ?_⟩
    obtain ⟨a, z, y, ws, rfl, ea, ez, ey, hw⟩ := id hd
    refine ⟨by show 1 ≤ sizeLine; omega, fun L0 n0 => ?_⟩
    have s0 := same_new (o := .lst [.int 0]) n0
    have e0 : (upd H L0 (.lst [.int 0])) L0 = some (.lst [.int 0]) := upd_same
    generalize upd H L0 (.lst [.int 0]) = H0 at s0 e0 ⊢
    refine ⟨.ref a, rfl, a, _, 1, .ref y, rfl, rfl, .inl (.inl (s0 _ _ ea)), rfl, y, rfl, ⟨_, .inl (.inl (s0 _ _ ey))⟩, fun L nL => ?_⟩
    have lw : ws.length = (chs ns ks).length := Paired.length hw
    have lc : (chs ns ks).length ≤ 64 := by
      unfold chs
      rw [List.length_map, List.length_drop, ok.len]
      have : 2 ^ ns.length ≤ 2 ^ 6 := Nat.pow_le_pow_right (by decide) ok.nms.l6
      omega
    refine lc_gen (as := chs ns ks) (fun c => some (numN ns (fun x => decide (x ∈ c)) : Int)) (fun _ y n => y = .int n) (fun _ _ _ _ _ h => h) (walk_tup (K := K)) nL (fun G sG => .inl (.inl (sG _ _ (s0 _ _ ey)))) lw.symm (by omega) (fun m x c G hxm hcm sG Pt Pf kt kf => ?_) (fun G us sG eL hp _ => ?_)
    · obtain ⟨c2, ec, hc⟩ := pair_at hw hxm
      rw [hcm] at ec
      cases ec
      have sA := s0.trans sG
      exact ⟨rfl, .ref a, rfl, a, _, 0, .ref z, rfl, rfl, .inl (.inl (sA _ _ ea)), rfl, x, rfl, .ref z, x, ns, c, rfl, strs_dz (rd_up ez sA), GtAt.tk (TK.same sA) hc, by have := ok.nms.l6; omega, fun G2 s2 => kt _ rfl _ _ s2 rfl⟩
    · have eus := ints_of (H := G) hp
      subst eus
      have e1 : (chs ns ks).filterMap (fun c => some (numN ns (fun x => decide (x ∈ c)) : Int)) = (ks.drop 1).map fun k : Nat => (k : Int) := by
        rw [show (chs ns ks).filterMap (fun c => some (numN ns (fun x => decide (x ∈ c)) : Int)) = (chs ns ks).map (fun c => (numN ns (fun x => decide (x ∈ c)) : Int)) from List.filterMap_eq_map ▸ rfl]
        unfold chs
        rw [List.map_map]
        refine List.map_congr_left fun k hk => ?_
        obtain ⟨m, hm⟩ := List.getElem?_of_mem hk
        rw [List.getElem?_drop] at hm
        show ((numN ns (fun x => decide (x ∈ subN ns k)) : Nat) : Int) = k
        rw [num_sub ok.nms.nd (ok.lt hm)]
      rw [e1, List.map_map] at eL
      refine ⟨L0, L, [.int 0], _, rfl, rfl, sG _ _ e0, eL, by rw [List.length_map, List.length_drop, ok.len]; have : 2 ^ ns.length ≤ 2 ^ 6 := Nat.pow_le_pow_right (by decide) ok.nms.l6; simp; omega, fun p np => ?_⟩
      refine q _ p ((s0.trans sG).trans (same_new np)) ?_
      have e2 : ks.map (fun k : Nat => V.int (k : Int)) = [V.int 0] ++ (ks.drop 1).map (V.int ∘ fun k : Nat => (k : Int)) := by
        have hz := ok.zero
        cases ks with
        | nil => simp at hz
        | cons k ks =>
          simp at hz
          subst hz
          rfl
      rw [e2]
      exact upd_same
theorem ix_ks {ks : List Nat} {l a : Nat} (h : ks[l]? = some a) : atI (ks.map fun k : Nat => V.int (k : Int)) (l : Int) = some (.int (a : Int)) := atI_nat (by rw [List.getElem?_map, h]; rfl)
theorem dec_nat (a b : Nat) : decide (V.int (a : Int) = V.int (b : Int)) = decide (a = b) := decide_eq_decide.mpr ⟨fun h => Int.ofNat.inj (V.int.inj h), fun h => by rw [h]⟩
theorem ok_ib {f : Addr} {fd : FuncData} (D : Df K mg "is_broken" sIb ["selections", "larger", "smaller"] f fd) : FnOk P w K mg base CX0 1 f fd ["selections", "larger", "smaller"] spIb := by
  refine D.F.ok scIb (fun vs H Q E h => ?_) (fun cdv A outer s H vs Q E hr h => ?_)
  · obtain ⟨p, ks, l, m, a, b, rfl, _⟩ := h
    rfl
  · obtain ⟨p, ks, l, m, a, b, rfl, ep, ea, eb, q⟩ := h
    have nd := scIb.nd
    refine ⟨_, pss_cons (ps_set (i := 3) nd rfl (.inl rfl) (pe_op op_and (pe_ix ix_list (pv 0) (pv 1) (fun _ _ => rfl)) (pv 2)))
      (pss_cons (ps_if (pt_cmpR op_ne (pe_op op_or (pe_ix ix_list (pv 0) (pv 2) (fun _ _ => rfl)) (pv 3)) (pe_ix ix_list (pv 0) (pv 2) (fun _ _ => rfl)) (nomark _)) (pss_one (ps_ret pe_bl)) pss_nil)
      (pss_one (ps_ret (pe_and (pe_cmpR op_eq (pv 3) (pe_ix ix_list (pv 0) (pv 1) (fun _ _ => rfl)) (nomark _)) (pe_one (pe_cmpR op_ne (pv 3) (pe_ix ix_list (pv 0) (pv 2) (fun _ _ => rfl)) (nomark _))))))), ?_⟩
    refine ⟨.ref p, rfl, .int (l : Int), rfl, p, _, (l : Int), .int (a : Int), rfl, rfl, .inl (.inl ep), ix_ks ea, .int (m : Int), rfl, (a : Int), (m : Int), rfl, rfl, ?_⟩
    refine gn_to (σ' := ([some (.ref p), some (.int (l : Int)), some (.int (m : Int)), some (.int ((a &&& m : Nat) : Int))] : L2.St)) (by rw [← band_nat]; rfl) ?_
    try dsimp only
    refine ⟨.ref p, rfl, .int (m : Int), rfl, p, _, (m : Int), .int (b : Int), rfl, rfl, .inl (.inl ep), ix_ks eb, .int ((a &&& m : Nat) : Int), rfl, (b : Int), ((a &&& m : Nat) : Int), rfl, rfl, ?_⟩
    refine ⟨.ref p, rfl, .int (m : Int), rfl, p, _, (m : Int), .int (b : Int), rfl, rfl, .inl (.inl ep), ix_ks eb, rfl, _, rfl, ?_⟩
    have hne : (!decide (V.int (Builtin.bitOr (b : Int) ((a &&& m : Nat) : Int)) = V.int (b : Int))) = !decide (b ||| a &&& m = b) := by rw [bor_nat, dec_nat]
    unfold brkB at q
    by_cases y : b ||| a &&& m = b
    · refine ite_not (hne.trans (by rw [decide_eq_true y]; rfl)) ?_
      rw [decide_eq_false (not_not_intro y), Bool.false_or] at q
      refine ⟨.int ((a &&& m : Nat) : Int), rfl, .ref p, rfl, .int (l : Int), rfl, p, _, (l : Int), .int (a : Int), rfl, rfl, .inl (.inl ep), ix_ks ea, rfl, _, rfl, ?_⟩
      by_cases x : a &&& m = a
      · refine ite_to (by rw [dec_nat]; exact decide_eq_true x) ⟨.int ((a &&& m : Nat) : Int), rfl, .ref p, rfl, .int (m : Int), rfl, p, _, (m : Int), .int (b : Int), rfl, rfl, .inl (.inl ep), ix_ks eb, rfl, ?_⟩
        rw [dec_nat, ← decide_not]
        rw [decide_eq_true x, Bool.true_and] at q
        exact q
      · rw [decide_eq_false x, Bool.false_and] at q
        exact ite_not (by rw [dec_nat]; exact decide_eq_false x) q
    · refine ite_to (hne.trans (by rw [decide_eq_false y]; rfl)) ?_
      rw [decide_eq_true (show b ||| a &&& m ≠ b from y), Bool.true_or] at q
      exact q
end
end E1

set_option maxRecDepth 100000
set_option maxHeartbeats 4000000
namespace E1
open PySem PySem.Spec PyProof.Rows L2 KX
section
variable {P : Program} {w : World} {K : PySem.W.Frag} {mg : Str → Option Value} {base : Heap}
theorem name_len {n : Str} (h : nameD (.str n) = true) : n.length ≤ sizeLine := by
  have hb : (8 : Nat) ≤ sizeLine := by decide
  have h5 : ((decide (1 ≤ (n.length : Int)) && decide ((n.length : Int) ≤ 8)) && letD n) = true := h
  simp only [Bool.and_eq_true] at h5
  have h6 := of_decide_eq_true h5.1.2
  omega
theorem ok_tn {k : Nat} {f fT fN fA : Addr} {fd gT gN gA : FuncData} (B : Bl mg) (cm : ∃ t, mg "MAX_NAMES" = some (.int 6 t)) (D : Df K mg "are_table_names" sTn ["value"] f fd) (DT : Df K mg "is_tuple_between" sTupB ["value", "low", "high"] fT gT) (DN : Df K mg "is_name" sName ["value"] fN gN) (DA : Df K mg "is_ascending" sAsc ["names"] fA gA)
    (GT : FnOk P w K mg base CX0 k fT gT ["value", "low", "high"] spTupB) (GN : FnOk P w K mg base CX0 k fN gN ["value"] spName) (GA : FnOk P w K mg base CX0 k fA gA ["names"] spAsc) : FnOk P w K mg base CX0 (k + 1) f fd ["value"] spTn := by
  obtain ⟨tm, mm⟩ := cm
  refine D.F.ok scTn (fun vs H Q E h => ?_) (fun cdv A outer s H vs Q E hr h => ?_)
  · obtain ⟨v, ns, rfl, _⟩ := h
    rfl
  · obtain ⟨v, ns, rfl, hd, tn, q⟩ := h
    have nd := scTn.nd
    refine ⟨_, pss_cons (ps_if (pt_not (pt_val (pe_call GT hr (by rfl) DT.g DT.F.kp DT.b .nil pass0 (pa_cons (pv 0) (pa_cons pe_int (pa_cons (pe_glob (v := .int 6) (by rfl) mm ⟨_, rfl⟩) pa_nil)))))) (pss_one (ps_ret pe_bl)) pss_nil)
      (pss_one (ps_ret (pe_and (pe_callB (cr_all rfl) (by rfl) B.all (by decide +kernel) (pa_cons (pe_lc (own := [("name", 1)]) (g := gName 1) rfl nd (pi_tup (pv 0)) (blkOk_by (N := ["value", "name"]) (sc := defScope sTn) (by decide +kernel)) (fun _ _ _ _ _ => pg_name (i := 1) nd rfl (Or.inl rfl)) (fun _ _ _ _ _ => pts_nil)
          (fun _ _ _ _ _ => pe_call GN hr (by rfl) DN.g DN.F.kp DN.b .nil pass0 (pa_cons (pv 1) pa_nil))) pa_nil)) (pe_one (pe_call GA hr (by rfl) DA.g DA.F.kp DA.b .nil pass0 (pa_cons (pv 0) pa_nil)))))), ?_⟩
    refine ⟨v, rfl, v, _, 1, 6, rfl, hd, _, rfl, ite_not ?_ ?_⟩
    · have l1 := tn.l1
      have l6 := tn.l6
      show (!(decide ((1 : Int) ≤ ((ns.map PyData.str).length : Int)) && decide (((ns.map PyData.str).length : Int) ≤ 6))) = false
      rw [List.length_map, decide_eq_true (by omega), decide_eq_true (by omega)]
      rfl
    obtain ⟨a, rfl, ea⟩ := dz_strs hd
    refine ⟨.ref a, rfl, a, rfl, ⟨_, .inl ea⟩, fun L nL => ?_⟩
    refine lc_gen (as := ns) (fun _ => some true) (fun _ y b => y = .bl b) (fun _ _ _ _ _ h => h) (walk_tup (K := K)) nL (fun G sG => .inl (rd_up ea sG)) (by rw [List.length_map]) (by have := tn.l6; omega) (fun m x e G hxm hem sG Pt Pf kt kf => ?_) (fun G ys sG eL hp _ => ?_)
    · rw [List.getElem?_map, hem] at hxm
      cases hxm
      have hn := tn.nm e (List.mem_of_getElem? hem)
      exact ⟨rfl, .str e, rfl, .str e, .str e, rfl, .str e, name_len hn, fun G2 s2 => kt _ rfl _ _ s2 (by rw [hn])⟩
    · have eb := bools_of hp
      rw [eb] at eL
      refine ⟨L, _, rfl, .inl (.inl eL), _, rfl, ite_to ?_ ?_⟩
      · rw [List.all_eq_true]
        intro b hb
        obtain ⟨x, _, e⟩ := List.mem_filterMap.mp hb
        cases e
        rfl
      · refine ⟨.ref a, rfl, .ref a, ns, rfl, hd.up sG, by have := tn.l6; omega, fun H2 s2 => ?_⟩
        rw [tn.asc]
        exact q H2 (sG.trans s2)
theorem sub_asc {ns : List Str} {m k : Nat} (tn : TNs ns) (hk : k < 2 ^ ns.length) (h : k &&& m = k) : ascIn (subN ns m) (.tuple ((subN ns k).map .str)) = true :=
  asc_in ((and_sub tn.nd hk).mp h) (pw_asc ((asc_pw tn.asc).sublist (sub_sl ns k)))
theorem walk_zipM {p q : Addr} {us vs : List V} {n : Nat} (e : us.length = n) (e2 : vs.length = n) : Walk (ItM K p q) n (fun G => SqL K G p us ∧ SqT K G q vs) (YPair (fun m => us[m]?) (fun m => vs[m]?)) :=
  ⟨fun m G lt k => ⟨us, vs, us[m]'(by omega), vs[m]'(by omega), k.1, k.2, List.getElem?_eq_getElem _, List.getElem?_eq_getElem _⟩, fun G k => ⟨us, vs, k.1, k.2, e, e2⟩, fun m G r G2 _ k w => by
    obtain ⟨c, u, v, w1, w2, w3, w4, w5⟩ := w
    exact ⟨c, u, v, w1, w2, w3, w4 us k.1, w5 vs k.2⟩⟩
theorem ok_it {k : Nat} {f fT fN fS fA : Addr} {fd gT gN gS gA : FuncData} (B : Bl mg) (D : Df K mg "is_table" sIt ["value"] f fd) (DT : Df K mg "is_tuple_between" sTupB ["value", "low", "high"] fT gT) (DN : Df K mg "are_table_names" sTn ["value"] fN gN) (DS : Df K mg "nonempty_sets" sNs ["parts"] fS gS) (DA : Df K mg "are_ascending_among" sAa ["known", "value"] fA gA)
    (GT : FnOk P w K mg base CX0 k fT gT ["value", "low", "high"] spTupB) (GN : FnOk P w K mg base CX0 k fN gN ["value"] spTn) (GS : FnOk P w K mg base CX0 k fS gS ["parts"] spNs) (GA : FnOk P w K mg base CX0 k fA gA ["known", "value"] spAa) : FnOk P w K mg base CX0 (k + 1) f fd ["value"] spIt := by
  refine D.F.ok scIt (fun vs H Q E h => ?_) (fun cdv A outer s H vs Q E hr h => ?_)
  · obtain ⟨v, ns, ks, rfl, _⟩ := h
    rfl
  · obtain ⟨v, ns, ks, rfl, hd, ok, q⟩ := h
    have nd := scIt.nd
    refine ⟨_, pss_cons (ps_if (PW.pt (pw_or (pt_not (pt_val (pe_call GT hr (by rfl) DT.g DT.F.kp DT.b .nil pass0 (pa_cons (pv 0) (pa_cons pe_int (pa_cons pe_int pa_nil)))))) (pw_or1 (pt_not (pt_val (pe_call GN hr (by rfl) DN.g DN.F.kp DN.b .nil pass0 (pa_cons (pe_ix (r := rIxT K) ix_tup (pv 0) pe_int (fun _ _ => rfl)) pa_nil))))))) (pss_one (ps_ret pe_bl)) pss_nil)
      (pss_cons (ps_set (i := 1) nd rfl (.inl rfl) (pe_call GS hr (by rfl) DS.g DS.F.kp DS.b .nil pass0 (pa_cons (pe_ix (r := rIxT K) ix_tup (pv 0) pe_int (fun _ _ => rfl)) pa_nil)))
      (pss_cons (ps_if (pt_not (pt_val (pe_call GT hr (by rfl) DT.g DT.F.kp DT.b .nil pass0 (pa_cons (pe_ix (r := rIxT K) ix_tup (pv 0) pe_int (fun _ _ => rfl)) (pa_cons (pe_callB call_len_seq (by rfl) B.len PySem.boot_len (pa_cons (pv 1) pa_nil)) (pa_cons (pe_callB call_len_seq (by rfl) B.len PySem.boot_len (pa_cons (pv 1) pa_nil)) pa_nil)))))) (pss_one (ps_ret pe_bl)) pss_nil)
      (pss_one (ps_ret (pe_callB (cr_all rfl) (by rfl) B.all (by decide +kernel) (pa_cons (pe_lc (own := [("names", 2), ("choice", 3)]) (g := gTup K 2 (gCons (gName 2) (gCons (gName 3) gNil))) rfl nd (pi_zipM (by rfl) B.zip (pa_cons (pv 1) (pa_cons (pe_ix (r := rIxT K) ix_tup (pv 0) pe_int (fun _ _ => rfl)) pa_nil))) (blkOk_by (N := NIt) (sc := defScope sIt) (by decide +kernel))
          (fun _ _ _ _ _ => pg_tup (by rfl) (pgs_cons (pg_name (i := 2) nd rfl (Or.inl rfl)) (pgs_cons (pg_name (i := 3) nd rfl (Or.inl rfl)) pgs_nil))) (fun _ _ _ _ _ => pts_nil) (fun _ _ _ _ _ => pe_call GA hr (by rfl) DA.g DA.F.kp DA.b .nil pass0 (pa_cons (pv 2) (pa_cons (pv 3) pa_nil)))) pa_nil)))))), ?_⟩
    have p64 : 2 ^ ns.length ≤ 2 ^ 6 := Nat.pow_le_pow_right (by decide) ok.nms.l6
    have p1 : 1 ≤ 2 ^ ns.length := Nat.one_le_two_pow
    have lc : (chs ns ks).length = 2 ^ ns.length - 1 := by
      unfold chs
      rw [List.length_map, List.length_drop, ok.len]
    have la : (allN ns).length = 2 ^ ns.length - 1 := by
      unfold allN
      rw [List.length_map, List.length_range]
    obtain ⟨a, z, y, ws, rfl, ea, ez, ey, hw⟩ := id hd
    have lw : ws.length = (chs ns ks).length := Paired.length hw
    refine ⟨.ref a, rfl, .ref a, encT ns ks, 2, 2, rfl, hd.dz, _, rfl, iteF ?_⟩
    refine ⟨.ref a, rfl, a, _, 0, .ref z, rfl, rfl, .inl (.inl ea), rfl, .ref z, ns, rfl, strs_dz ez, ok.nms, fun H1 s1 => ⟨_, rfl, iteF ?_⟩⟩
    refine ⟨.ref a, rfl, a, _, 0, .ref z, rfl, rfl, .inl (.inl (s1 _ _ ea)), rfl, .ref z, ns, rfl, strs_dz (rd_up ez s1), ok.nms.l6, fun H2 p ys s2 np ep hy => ?_⟩
    refine gn_to (σ' := ([some (.ref a), some (.ref p), none, none] : L2.St)) rfl ?_
    try dsimp only
    have s02 := s1.trans s2
    have ly : ys.length = (allN ns).length := Paired.length hy
    have hdy : Dx H2 (.ref y) (.tuple ((chs ns ks).map fun c => .tuple (c.map .str))) := .tup (s02 _ _ ey) (dxs_pair (f := fun c : List Str => PyData.tuple (c.map .str)) (pair_tk (Rel := GtAt) (fun _ _ _ _ k h => GtAt.tk k h) (TK.same s02) hw))
    refine ⟨.ref a, rfl, a, _, 1, .ref y, rfl, rfl, .inl (.inl (s02 _ _ ea)), rfl, .ref p, rfl, p, ys, rfl, .inl (.inl (.inl ep)), .ref p, rfl, p, ys, rfl, .inl (.inl (.inl ep)), .ref y, _, _, _, rfl, .dx hdy, _, rfl, ite_not ?_ ?_⟩
    · show (!(decide (((ys.length : Nat) : Int) ≤ (((chs ns ks).map fun c => PyData.tuple (c.map .str)).length : Int)) && decide ((((chs ns ks).map fun c => PyData.tuple (c.map .str)).length : Int) ≤ ((ys.length : Nat) : Int)))) = false
      rw [List.length_map, ly, la, lc, decide_eq_true (Int.le_refl _)]
      rfl
    refine ⟨.ref p, rfl, .ref a, rfl, a, _, 1, .ref y, rfl, rfl, .inl (.inl (s02 _ _ ea)), rfl, p, y, ys, ws, rfl, .inl (.inl ep), .inl (.inl (s02 _ _ ey)), fun L nL => ?_⟩
    refine lc_genZ (as := List.range (2 ^ ns.length - 1)) (fun _ => some true) (fun _ y b => y = .bl b) (fun _ _ _ _ _ h => h) (walk_zipM (K := K) (by rw [ly, la, List.length_range]) (by rw [lw, lc, List.length_range])) nL (fun G sG => ⟨.inl (.inl (sG _ _ ep)), .inl (.inl (sG _ _ (s02 _ _ ey)))⟩) (by rw [List.length_range]; omega) (fun m x u i T G hx hu hi sG eT Pt Pf kt kf => ?_) (fun G us sG eL hp _ => ?_)
    · have hm : m < 2 ^ ns.length - 1 := by
        have := (List.getElem?_eq_some_iff.mp hi).1
        rwa [List.length_range] at this
      obtain ⟨c1, e1, h1⟩ := pair_at hy hx
      obtain ⟨c2, e2, h2⟩ := pair_at hw hu
      have e1 : subN ns (m + 1) = c1 := by
        unfold allN at e1
        rw [List.getElem?_map, List.getElem?_range hm] at e1
        exact Option.some.inj e1
      obtain ⟨kk, ek, e2⟩ : ∃ kk, ks[1 + m]? = some kk ∧ subN ns kk = c2 := by
        unfold chs at e2
        rw [List.getElem?_map, List.getElem?_drop] at e2
        obtain ⟨kk, h1, h2⟩ := Option.map_eq_some_iff.mp e2
        exact ⟨kk, h1, h2⟩
      subst e1 e2
      have hs := ok.sub _ _ ek
      rw [show 1 + m = m + 1 by omega] at hs
      refine ⟨T, _, rfl, .inl (.inl eT), rfl, _, _, rfl, _, _, rfl, rfl, ?_⟩
      refine ⟨rfl, x, rfl, u, rfl, x, u, subN ns (m + 1), _, rfl, .dx (GtAt.tk (TK.same sG) h1), GtAt.tk (TK.same (s02.trans sG)) h2, fun es e => ?_, fun G2 s2 => kt _ rfl _ _ s2 (by rw [sub_asc ok.nms (ok.lt ek) hs])⟩
      cases e
      rw [List.length_map]
      have := (sub_sl ns kk).length_le
      have := ok.nms.l6
      omega
    · have eb := bools_of hp
      rw [eb] at eL
      refine ⟨L, _, rfl, .inl (.inl eL), ?_⟩
      rw [show ((List.range (2 ^ ns.length - 1)).filterMap fun _ => some true).all id = true by
        rw [List.all_eq_true]
        intro b hb
        obtain ⟨x, _, e⟩ := List.mem_filterMap.mp hb
        cases e
        rfl]
      exact q G (s02.trans sG)
theorem ok_ct {k : Nat} {R f fI : Addr} {fd fdI : FuncData} (T : OC K mg "InvalidTable" R) (D : Df K mg "check_table" sCt ["table"] f fd) (DI : Df K mg "is_table" sIt ["value"] fI fdI) (GI' : FnOk P w K mg base CX0 k fI fdI ["value"] spIt) :
    FnOk P w K mg base (L2.CX P w) (k + 1) f fd ["table"] spCt := by
  refine D.F.okX scCt (fun vs H Q E h => ?_) (fun cdv A outer s H vs Q E hr h => ?_)
  · obtain ⟨v, ns, ks, rfl, _⟩ := h
    rfl
  · obtain ⟨v, ns, ks, rfl, hd, ok, q⟩ := h
    refine ⟨_, pss_one (ps_if (pt_not (pt_val (pe_call GI' hr (by rfl) DI.g DI.F.kp DI.b .nil pass0 (pa_cons (pv 0) pa_nil))))
        (pss_one (ps_raise rfl (takes_of rfl rfl rfl rfl) (pmk_own PySem.F.excBase_ValueError T.q T.g T.kp (raises_own T.sub T.ty) (by rfl)))) pss_nil), ?_⟩
    exact ⟨v, rfl, v, ns, ks, rfl, hd, ok, fun G sG => ⟨_, rfl, iteF (q G sG)⟩⟩
end
end E1

set_option maxRecDepth 100000
set_option maxHeartbeats 4000000
namespace E1
open PySem PySem.Spec PyProof.Rows L2 KX
theorem getD_ks {ks : List Nat} {n l : Nat} (hl : l < n) (e : ks.length = n) : ks[l]? = some (ks.getD l 0) := by
  rw [List.getD_eq_getElem?_getD, List.getElem?_eq_getElem (by omega)]
  rfl
section
variable {P : Program} {w : World} {K : PySem.W.Frag} {mg : Str → Option Value} {base : Heap}
theorem ok_fv {k : Nat} {f fC fS fM fB : Addr} {fd gC gS gM gB : FuncData} (B : Bl mg) (D : Df K mg "find_violation" sFv ["table"] f fd) (DC : Df K mg "check_table" sCt ["table"] fC gC) (DS : Df K mg "selections_of" sSo ["table"] fS gS) (DM : Df K mg "members_of" sMb ["parts", "number"] fM gM) (DB : Df K mg "is_broken" sIb ["selections", "larger", "smaller"] fB gB)
    (GC : FnOk P w K mg base (L2.CX P w) k fC gC ["table"] spCt) (GS : FnOk P w K mg base CX0 k fS gS ["table"] spSo) (GM : FnOk P w K mg base CX0 k fM gM ["parts", "number"] spMb) (GB : FnOk P w K mg base CX0 k fB gB ["selections", "larger", "smaller"] spIb) : FnOk P w K mg base CX0 (k + 1) f fd ["table"] spFv := by
  refine D.F.ok scFv (fun vs H Q E h => ?_) (fun cdv A outer s H vs Q E hr h => ?_)
  · obtain ⟨v, ns, ks, rfl, _⟩ := h
    rfl
  · obtain ⟨v, ns, ks, rfl, hd, ok, q1, q2⟩ := h
    have nd := scFv.nd
    refine ⟨_, pss_cons (ps_expr (pe_call GC hr (by rfl) DC.g DC.F.kp DC.b .nil passL (pa_cons (pv 0) pa_nil)))
      (pss_cons (ps_set (i := 1) nd rfl (.inl rfl) (pe_call GS hr (by rfl) DS.g DS.F.kp DS.b .nil pass0 (pa_cons (pv 0) pa_nil)))
      (pss_cons (ps_for PassesOwn.never rfl (pi_range1 (by rfl) B.range (pa_cons (pe_callB call_len_seq (by rfl) B.len PySem.boot_len (pa_cons (pv 1) pa_nil)) pa_nil)) (pg_name (i := 2) nd rfl (.inl rfl))
        (pss_one (ps_for PassesOwn.never rfl (pi_range1 (by rfl) B.range (pa_cons (pv 2) pa_nil)) (pg_name (i := 3) nd rfl (.inl rfl))
          (pss_one (ps_if (PW.pt (pw_and (pt_cmpR op_eq (pe_op op_or (pv 2) (pv 3)) (pv 2) (nomark _)) (pw_and1 (pt_val (pe_call GB hr (by rfl) DB.g DB.F.kp DB.b .nil pass0 (pa_cons (pv 1) (pa_cons (pv 2) (pa_cons (pv 3) pa_nil))))))))
            (pss_one (ps_ret (pe_tup (pa_cons (pe_call GM hr (by rfl) DM.g DM.F.kp DM.b .nil pass0 (pa_cons (pe_ix (r := rIxT K) ix_tup (pv 0) pe_int (fun _ _ => rfl)) (pa_cons (pv 2) pa_nil))) (pa_cons (pe_call GM hr (by rfl) DM.g DM.F.kp DM.b .nil pass0 (pa_cons (pe_ix (r := rIxT K) ix_tup (pv 0) pe_int (fun _ _ => rfl)) (pa_cons (pv 3) pa_nil))) pa_nil))))) pss_nil)))))
      (pss_one (ps_ret pe_non)))), ?_⟩
    have p64 : 2 ^ ns.length ≤ 2 ^ 6 := Nat.pow_le_pow_right (by decide) ok.nms.l6
    obtain ⟨a, z, y, ws, rfl, ea, ez, ey, hw⟩ := id hd
    refine ⟨.ref a, rfl, ?_⟩
    dsimp only [tNil]
    rw [List.append_nil]
    refine ⟨.ref a, ns, ks, rfl, hd, ok, fun H1 s1 => ?_⟩
    refine ⟨.ref a, rfl, .ref a, ns, ks, rfl, hd.up s1, ok, fun H2 p s2 ep => ?_⟩
    refine gn_to (σ' := ([some (.ref a), some (.ref p), none, none] : L2.St)) rfl ?_
    try dsimp only
    have s02 := s1.trans s2
    have lk : (ks.map fun k : Nat => V.int (k : Int)).length = 2 ^ ns.length := by rw [List.length_map, ok.len]
    refine ⟨.ref p, rfl, p, _, rfl, .inl (.inl (.inl ep)), _, rfl, ?_, ?_, ?_⟩
    · show (-(2 ^ 62) : Int) ≤ _
      omega
    · show (_ : Int) < 2 ^ 62
      rw [lk]
      omega
    rw [Int.toNat_natCast, lk]
    refine for_range (lo := 0) (n := 2 ^ ns.length) (fun i σ G => Same H2 G ∧ (∀ l s, s < l → l < i → hitAt ks l s = false) ∧ ∃ o2 o3, σ = [some (.ref a), some (.ref p), o2, o3]) ⟨Same.refl H2, (fun l s _ h => absurd h (Nat.not_lt_zero _)), none, none, rfl⟩ (fun i σ G hi hp => ?_) (fun σ G hp => ?_)
    · obtain ⟨sG, hno, o2, o3, rfl⟩ := hp
      refine ⟨.int (0 + (i : Int)), rfl, 0 + (i : Int), rfl, by omega, by omega, ?_⟩
      rw [Int.zero_add, Int.toNat_natCast]
      refine for_range (lo := 0) (n := i) (fun j σ F => Same H2 F ∧ (∀ s, s < j → hitAt ks i s = false) ∧ ∃ o3, σ = [some (.ref a), some (.ref p), some (.int (i : Int)), o3]) ⟨sG, (fun s h => absurd h (Nat.not_lt_zero _)), o3, rfl⟩ (fun j σ F hj hp => ?_) (fun σ F hp => ?_)
      · obtain ⟨sF, hnj, o3, rfl⟩ := hp
        have sA := s02.trans sF
        refine ⟨.int (i : Int), rfl, .int (0 + (j : Int)), rfl, (i : Int), (0 + (j : Int)), rfl, rfl, .int (i : Int), rfl, rfl, _, rfl, ?_⟩
        have hor : decide (V.int (Builtin.bitOr (i : Int) (0 + (j : Int))) = V.int (i : Int)) = decide (i ||| j = i) := by rw [Int.zero_add, bor_nat, dec_nat]
        by_cases x : i ||| j = i
        · refine ite_to (hor.trans (decide_eq_true x)) ?_
          refine ⟨.ref p, rfl, .int (i : Int), rfl, .int (0 + (j : Int)), rfl, p, ks, i, j, ks.getD i 0, ks.getD j 0, by rw [Int.zero_add]; rfl, sF _ _ ep, getD_ks hi ok.len, getD_ks (by omega) ok.len, _, rfl, ?_⟩
          cases eb : brkAt ks i j with
          | true =>
            refine ite_to eb ?_
            refine ⟨.ref a, rfl, a, _, 0, .ref z, rfl, rfl, .inl (.inl (sA _ _ ea)), rfl, .int (i : Int), rfl, .ref z, ns, i, rfl, strs_dz (rd_up ez sA), by have := ok.nms.l6; omega, fun H3 p3 s3 _ e3 => ?_⟩
            refine ⟨.ref a, rfl, a, _, 0, .ref z, rfl, rfl, .inl (.inl (s3 _ _ (sA _ _ ea))), rfl, .int (0 + (j : Int)), rfl, .ref z, ns, j, by rw [Int.zero_add]; rfl, strs_dz (rd_up (rd_up ez sA) s3), by have := ok.nms.l6; omega, fun H4 p4 s4 _ e4 => ⟨by show 2 ≤ sizeLine; decide, fun p5 n5 => ?_⟩⟩
            have s5 := same_new (o := .tup [.ref p3, .ref p4]) n5
            exact q2 i j hj hi (by unfold hitAt; rw [decide_eq_true x, eb]; rfl) _ p5 (((sA.trans s3).trans s4).trans s5) (.tup upd_same (.cons (.tup (s5 _ _ (s4 _ _ e3)) (dxs_strs _)) (.cons (.tup (s5 _ _ e4) (dxs_strs _)) .nil)))
          | false =>
            refine ite_not eb ⟨sF, fun s hs => ?_, _, rfl⟩
            rcases Nat.lt_succ_iff_lt_or_eq.mp hs with h | rfl
            · exact hnj s h
            · unfold hitAt
              rw [eb, Bool.and_false]
        · refine ite_not (hor.trans (decide_eq_false x)) ⟨sF, fun s hs => ?_, _, rfl⟩
          rcases Nat.lt_succ_iff_lt_or_eq.mp hs with h | rfl
          · exact hnj s h
          · unfold hitAt
            rw [decide_eq_false x, Bool.false_and]
      · obtain ⟨sF, hnj, o3, rfl⟩ := hp
        refine ⟨sF, fun l s h1 h2 => ?_, _, _, rfl⟩
        rcases Nat.lt_succ_iff_lt_or_eq.mp h2 with h | rfl
        · exact hno l s h1 h
        · exact hnj s h1
    · obtain ⟨sG, hno, o2, o3, rfl⟩ := hp
      exact q1 hno G (s02.trans sG)
theorem numD_lt (ns : List Str) (d : PyData) : numD ns d < 2 ^ ns.length := num_lt _ ns
theorem ok_iv {k : Nat} {f fC fT fA fS fN fB : Addr} {fd gC gT gA gS gN gB : FuncData} (D : Df K mg "is_violation" sIv ["table", "value"] f fd) (DC : Df K mg "check_table" sCt ["table"] fC gC) (DT : Df K mg "is_tuple_between" sTupB ["value", "low", "high"] fT gT) (DA : Df K mg "are_ascending_among" sAa ["known", "value"] fA gA)
    (DS : Df K mg "selections_of" sSo ["table"] fS gS) (DN : Df K mg "number_of" sNo ["names", "chosen"] fN gN) (DB : Df K mg "is_broken" sIb ["selections", "larger", "smaller"] fB gB) (GC : FnOk P w K mg base (L2.CX P w) k fC gC ["table"] spCt) (GT : FnOk P w K mg base CX0 k fT gT ["value", "low", "high"] spTupB) (GA : FnOk P w K mg base CX0 k fA gA ["known", "value"] spAa)
    (GS : FnOk P w K mg base CX0 k fS gS ["table"] spSo) (GN : FnOk P w K mg base CX0 k fN gN ["names", "chosen"] spNo) (GB : FnOk P w K mg base CX0 k fB gB ["selections", "larger", "smaller"] spIb) : FnOk P w K mg base CX0 (k + 1) f fd ["table", "value"] spIv := by
  refine D.F.ok scIv (fun vs H Q E h => ?_) (fun cdv A outer s H vs Q E hr h => ?_)
  · obtain ⟨v, u, ns, ks, d, rfl, _⟩ := h
    rfl
  · obtain ⟨v, u, ns, ks, d, rfl, hd, ok, hu, hl, q⟩ := h
    have nd := scIv.nd
    refine ⟨_, pss_cons (ps_expr (pe_call GC hr (by rfl) DC.g DC.F.kp DC.b .nil passL (pa_cons (pv 0) pa_nil)))
      (pss_cons (ps_if (pt_not (pt_val (pe_call GT hr (by rfl) DT.g DT.F.kp DT.b .nil pass0 (pa_cons (pv 1) (pa_cons pe_int (pa_cons pe_int pa_nil)))))) (pss_one (ps_ret pe_bl)) pss_nil)
      (pss_cons (ps_asg (pv 1) (pg_tup (by rfl) (pgs_cons (pg_name (i := 2) nd rfl (.inl rfl)) (pgs_cons (pg_name (i := 3) nd rfl (.inl rfl)) pgs_nil))))
      (pss_cons (ps_if (PW.pt (pw_or (pt_not (pt_val (pe_call GA hr (by rfl) DA.g DA.F.kp DA.b .nil pass0 (pa_cons (pe_ix (r := rIxT K) ix_tup (pv 0) pe_int (fun _ _ => rfl)) (pa_cons (pv 2) pa_nil))))) (pw_or1 (pt_not (pt_val (pe_call GA hr (by rfl) DA.g DA.F.kp DA.b .nil pass0 (pa_cons (pv 2) (pa_cons (pv 3) pa_nil)))))))) (pss_one (ps_ret pe_bl)) pss_nil)
      (pss_one (ps_ret (pe_call GB hr (by rfl) DB.g DB.F.kp DB.b .nil pass0 (pa_cons (pe_call GS hr (by rfl) DS.g DS.F.kp DS.b .nil pass0 (pa_cons (pv 0) pa_nil)) (pa_cons (pe_call GN hr (by rfl) DN.g DN.F.kp DN.b .nil pass0 (pa_cons (pe_ix (r := rIxT K) ix_tup (pv 0) pe_int (fun _ _ => rfl)) (pa_cons (pv 2) pa_nil)))
          (pa_cons (pe_call GN hr (by rfl) DN.g DN.F.kp DN.b .nil pass0 (pa_cons (pe_ix (r := rIxT K) ix_tup (pv 0) pe_int (fun _ _ => rfl)) (pa_cons (pv 3) pa_nil))) pa_nil))))))))), ?_⟩
    obtain ⟨a, z, y, ws, rfl, ea, ez, ey, hw⟩ := id hd
    refine ⟨.ref a, rfl, ?_⟩
    dsimp only [tNil]
    rw [List.append_nil]
    refine ⟨.ref a, ns, ks, rfl, hd, ok, fun H1 s1 => ?_⟩
    refine ⟨u, rfl, u, d, 2, 2, rfl, .dx (hu.up s1), _, rfl, ?_⟩
    have no : (∀ x y, d ≠ .tuple [x, y]) → tupB 2 2 d = false ∧ vioD ns ks d = false := fun h => by
      cases d with
      | tuple ds =>
        match ds, h with
        | [], _ => exact ⟨rfl, rfl⟩
        | [_], _ => exact ⟨rfl, rfl⟩
        | [x, y], h => exact absurd rfl (h x y)
        | x :: y :: w :: r, _ =>
          refine ⟨?_, rfl⟩
          show (decide ((2 : Int) ≤ (((x :: y :: w :: r).length : Nat) : Int)) && decide ((((x :: y :: w :: r).length : Nat) : Int) ≤ 2)) = false
          rw [decide_eq_false (show ¬ ((((x :: y :: w :: r).length : Nat) : Int) ≤ 2) by simp only [List.length_cons]; omega), Bool.and_false]
      | _ => exact ⟨rfl, rfl⟩
    by_cases two : ∃ x y, d = .tuple [x, y]
    · obtain ⟨d1, d2, rfl⟩ := two
      refine iteF ?_
      obtain ⟨t, xs, rfl, et, hx⟩ := dx_tup' hu
      obtain ⟨v1, v2, rfl, h1, h2⟩ : ∃ v1 v2, xs = [v1, v2] ∧ Dx H v1 d1 ∧ Dx H v2 d2 := by
        cases hx with
        | cons h1 hx =>
          cases hx with
          | cons h2 hx =>
            cases hx
            exact ⟨_, _, rfl, h1, h2⟩
      refine ⟨.ref t, rfl, t, _, rfl, .inl (.inl (s1 _ _ et)), rfl, _, _, rfl, _, _, rfl, rfl, ?_⟩
      change tSeq _ _ _ ([some (.ref a), some (.ref t), some v1, some v2] : L2.St) H1
      have hl1 := hl _ rfl d1 (by simp)
      have hl2 := hl _ rfl d2 (by simp)
      refine ⟨.ref a, rfl, a, _, 0, .ref z, rfl, rfl, .inl (.inl (s1 _ _ ea)), rfl, v1, rfl, .ref z, v1, ns, d1, rfl, strs_dz (rd_up ez s1), h1.up s1, hl1, fun H2 s2 => ⟨_, rfl, ?_⟩⟩
      have s02 := s1.trans s2
      have q : ∀ H', Same H H' → Q (.bl ((ascIn ns d1 && ascIn (strsT d1) d2) && brkAt ks (numD ns d1) (numD ns d2))) H' := q
      cases e1 : ascIn ns d1 with
      | false =>
        rw [e1, Bool.false_and, Bool.false_and] at q
        exact iteT (iteT (q H2 s02))
      | true =>
        rw [e1, Bool.true_and] at q
        refine iteF ?_
        have st1 : d1 = .tuple ((strsT d1).map .str) ∧ ∀ x ∈ strsT d1, x ∈ ns := by
          unfold ascIn at e1
          rw [Bool.and_eq_true] at e1
          cases d1 with
          | tuple es =>
            obtain ⟨g1, g2⟩ := among_strs e1.1
            exact ⟨congrArg PyData.tuple g1, g2⟩
          | _ => cases e1.1
        refine ⟨v1, rfl, v2, rfl, v1, v2, strsT d1, d2, rfl, by rw [← st1.1]; exact .dx (h1.up s02), h2.up s02, hl2, fun H3 s3 => ⟨_, rfl, ?_⟩⟩
        have s03 := s02.trans s3
        cases e2 : ascIn (strsT d1) d2 with
        | false =>
          rw [e2, Bool.false_and] at q
          exact iteT (q H3 s03)
        | true =>
          rw [e2, Bool.true_and] at q
          refine iteF ?_
          have st2 : d2 = .tuple ((strsT d2).map .str) := by
            unfold ascIn at e2
            rw [Bool.and_eq_true] at e2
            cases d2 with
            | tuple es => exact congrArg PyData.tuple (among_strs e2.1).1
            | _ => cases e2.1
          refine ⟨.ref a, rfl, .ref a, ns, ks, rfl, hd.up s03, ok, fun H4 p s4 ep => ?_⟩
          have s04 := s03.trans s4
          have l10 : ns.length ≤ 10 := by have := ok.nms.l6; omega
          refine ⟨.ref a, rfl, a, _, 0, .ref z, rfl, rfl, .inl (.inl (s04 _ _ ea)), rfl, v1, rfl, .ref z, v1, ns, strsT d1, rfl, strs_dz (rd_up ez s04), by rw [← st1.1]; exact h1.up s04, l10, fun H5 s5 => ?_⟩
          have s05 := s04.trans s5
          refine ⟨.ref a, rfl, a, _, 0, .ref z, rfl, rfl, .inl (.inl (s05 _ _ ea)), rfl, v2, rfl, .ref z, v2, ns, strsT d2, rfl, strs_dz (rd_up ez s05), by rw [← st2]; exact h2.up s05, l10, fun H6 s6 => ?_⟩
          exact ⟨p, ks, numD ns d1, numD ns d2, _, _, rfl, s6 _ _ (s5 _ _ ep), getD_ks (numD_lt ns d1) ok.len, getD_ks (numD_lt ns d2) ok.len, q H6 (s05.trans s6)⟩
    · obtain ⟨e1, e2⟩ := no fun x y h => two ⟨x, y, h⟩
      rw [e2] at q
      exact ite_to (by rw [e1]; rfl) (q H1 s1)
end
end E1

set_option maxRecDepth 100000
set_option maxHeartbeats 4000000
namespace E1
open PySem PySem.Spec PyProof.Rows L2 KX
/-! ### _law_subset, _law_breaks_rule, _law_has_violation -/
abbrev sSu : Stmt := topS 50
theorem scSu : FnScope ["names", "mask", "at", "name"] ["names", "mask"] (defScope sSu) := ⟨rfl, rfl, rfl, by decide +kernel, rfl, by decide +kernel, by decide +kernel⟩
theorem eqv_strl : ∀ xs ys : List Str, PyData.eqvAll (xs.map .str) (ys.map .str) = decide (xs = ys)
  | [], [] => by simp [PyData.eqvAll]
  | [], y :: ys => by simp [PyData.eqvAll]
  | x :: xs, [] => by simp [PyData.eqvAll]
  | x :: xs, y :: ys => by
    rw [List.map_cons, List.map_cons, PySem.W.eqv_all_cons, eqv_strl xs ys]
    by_cases h : x = y <;> by_cases h2 : xs = ys <;> simp [PyData.eqv, h, h2]
theorem eq_strT {K : PySem.W.Frag} {f : Bool → Bool} {H : Hp} {x y : V} {xs ys : List Str} {Q : VK} (h1 : GtAt H x xs) (h2 : GtAt H y ys) (q : Q (.bl (f (decide (xs = ys)))) H) : rEqP K f x y H Q := by
  have pl : ∀ zs : List Str, (PyData.tuple (zs.map .str)).plain = true := fun zs => by simpa [PyData.plain] using plain_strs zs
  refine ⟨_, _, dp_dx _ _ (pl xs) h1, dp_dx _ _ (pl ys) h2, pl xs, pl ys, ?_, ?_⟩
  · have := deep_strs xs
    simp only [PyData.depth]
    omega
  · rw [show PyData.eqv (.tuple (xs.map .str)) (.tuple (ys.map .str)) = decide (xs = ys) by simpa [PyData.eqv] using eqv_strl xs ys]
    exact q
theorem nil_strL {K : PySem.W.Frag} {f : Bool → Bool} {H : Hp} {p q : Addr} {xs : List Str} {Q : VK} (e1 : H p = some (.lst (xs.map V.str))) (e2 : H q = some (.lst [])) (k : Q (.bl (f xs.isEmpty)) H) : rEqP K f (.ref p) (.ref q) H Q := by
  have pl : (PyData.list (xs.map .str)).plain = true := by simpa [PyData.plain] using plain_strs xs
  refine ⟨.list (xs.map .str), .list [], .lst (.inl (.inl e1)) (dps_dx _ _ (plain_strs xs) (dxs_strs xs)), .lst (.inl (.inl e2)) (dps_dx _ _ rfl .nil), pl, rfl, ?_, ?_⟩
  · simp only [PyData.depth, PyData.depthAll]
    omega
  · have e : PyData.eqv (.list (xs.map .str)) (.list []) = xs.isEmpty := by
      cases xs <;> simp [PyData.eqv, PyData.eqvAll]
    rw [e]
    exact k
theorem in_gt {K : PySem.W.Frag} {f : Bool → Bool} {H : Hp} {y : V} {n : Str} {cs : List Str} {Q : VK} (h : GtAt H y cs) (q : Q (.bl (f (decide (n ∈ cs)))) H) : rInA K f (.str n) y H Q := by
  obtain ⟨t, rfl, et⟩ := vals_strsX h
  refine ⟨.str n, t, cs, .str _, rfl, .inl (.inl et), ?_⟩
  rw [show (cs.any fun m => isSt m (PyData.str n)) = decide (n ∈ cs) from amg_mem]
  exact q
section
variable {P : Program} {w : World} {K : PySem.W.Frag} {mg : Str → Option Value} {base : Heap}
theorem ok_su {f : Addr} {fd : FuncData} (B : Bl mg) (D : Df K mg "_law_subset" sSu ["names", "mask"] f fd) : FnOk P w K mg base CX0 1 f fd ["names", "mask"] spMb := by
  refine D.F.ok scSu (fun vs H Q E h => ?_) (fun cdv A outer s H vs Q E hr h => ?_)
  · obtain ⟨v, ns, m, rfl, _⟩ := h
    rfl
  · obtain ⟨v, ns, m, rfl, hd, hl, q⟩ := h
    have nd := scSu.nd
    refine ⟨_, pss_one (ps_ret (pe_callTy call_tuple_of (by rfl) B.tuple (by decide +kernel) (pa_cons (pe_lc (own := [("at", 2), ("name", 3)]) (g := gTup K 2 (gCons (gName 2) (gCons (gName 3) gNil))) rfl nd (pi_enumQ (by rfl) B.enu (pa_cons (pv 0) pa_nil)) (blkOk_by (N := ["names", "mask", "at", "name"]) (sc := defScope sSu) (by decide +kernel))
        (fun _ _ _ _ _ => pg_tup (by rfl) (pgs_cons (pg_name (i := 2) nd rfl (Or.inl rfl)) (pgs_cons (pg_name (i := 3) nd rfl (Or.inl rfl)) pgs_nil))) (fun _ _ _ _ _ => pts_one (pt_cmpR op_eq (pe_op op_and (pe_op op_shr (pv 1) (pv 2)) pe_int) pe_int (nomark _))) (fun _ _ _ _ _ => pv 3)) pa_nil))), ?_⟩
    obtain ⟨a, rfl, ea⟩ := dz_strs hd
    refine ⟨.ref a, rfl, a, _, rfl, .inl ea, fun L nL => ?_⟩
    have lz : (ns.zipIdx).length = (ns.map V.str).length := by rw [List.length_zipIdx, List.length_map]
    refine lc_genZ (as := ns.zipIdx) (fun p => if m / 2 ^ p.2 % 2 = 1 then some p.1 else none) (fun _ y n => y = .str n) (fun _ _ _ _ _ h => h) (lz ▸ walk_enumQ (K := K)) nL (fun G sG => .inl (rd_up ea sG)) (by rw [List.length_zipIdx]; omega) (fun i x y p T G hx hy hp sG eT Pt Pf kt kf => ?_) (fun G us sG eL hp _ => ?_)
    · obtain ⟨e1, e2⟩ := zipIdx_at hp
      cases hx
      rw [List.getElem?_map, e2] at hy
      cases hy
      refine ⟨T, _, rfl, .inl (.inl eT), rfl, _, _, rfl, _, _, rfl, rfl, ?_⟩
      refine ⟨rfl, .int (m : Int), rfl, .int (i : Int), rfl, (m : Int), (i : Int), rfl, rfl, by omega, _, 1, rfl, rfl, rfl, _, rfl, ?_⟩
      have tst : decide (V.int (Builtin.bitAnd ((m : Int) / 2 ^ ((i : Int)).toNat) 1) = V.int 1) = decide (m / 2 ^ i % 2 = 1) := by
        have e : (m : Int) / 2 ^ ((i : Int)).toNat = ((m / 2 ^ i : Nat) : Int) := by
          rw [Int.toNat_natCast]
          push_cast
          rfl
        rw [e, show (1 : Int) = ((1 : Nat) : Int) from rfl, band_nat, Nat.and_one_is_mod, dec_nat]
      by_cases z : m / 2 ^ i % 2 = 1
      · exact ite_to (tst.trans (decide_eq_true z)) ⟨.str p.1, rfl, kt _ (by rw [e1, if_pos z]) _ _ (Same.refl G) rfl⟩
      · exact ite_not (tst.trans (decide_eq_false z)) (kf (by rw [e1, if_neg z]) _ (Same.refl G))
    · have e0 : (ns.zipIdx).filterMap (fun p => if m / 2 ^ p.2 % 2 = 1 then some p.1 else none) = subN ns m := by
        have := sub_zip ns 0 m
        rwa [Nat.pow_zero, Nat.div_one] at this
      rw [e0] at hp
      have eus := strs_of (H := G) hp
      subst eus
      refine ⟨L, _, rfl, .inl ⟨.inl (.inl eL), fun p np => ?_⟩⟩
      have np0 : H p = none := by
        cases z : H p with
        | none => rfl
        | some o => rw [sG _ _ z] at np; cases np
      exact q _ p (sG.trans (same_new np)) np0 upd_same
theorem sub_zero : ∀ ns : List Str, subN ns 0 = []
  | [] => rfl
  | x :: ns => by rw [sub_cons, if_neg (by decide)]; exact sub_zero ns
theorem lc_strs {H1 : Hp} {a D : Addr} {cs : List Str} {g : TG} {tt : TT} {te : TE} {vs : List Nat} {σ : L2.St} {Qd : Hp → Prop} (p : Str → Bool) (ea : H1 a = some (.tup (cs.map V.str))) (hl : cs.length ≤ 1000) (nD : H1 D = none)
    (hs : ∀ (n : Str) (G : Hp), n ∈ cs → Same H1 G → ∀ (Pt : V → Hp → Prop) (Pf : Hp → Prop), (if p n = true then Pt (.str n) G else Pf G) → g (.str n) (wipe σ vs) G fun σ2 H2 => wipe σ2 vs = wipe σ vs ∧ tt σ2 H2 fun b H3 => if b = true then te σ2 H3 Pt else Pf H3)
    (hd : ∀ G, Same H1 G → G D = some (.lst ((cs.filter p).map V.str)) → Qd G) :
    ∃ W : Nat → Nat → Hp → Prop, (∃ m, W 0 m (upd H1 D (.lst []))) ∧ ∀ i m H, W i m H → ((Itt K a).stop i H ∧ Qd H) ∨ ((Itt K a).go i H ∧ ∃ Nx : Hp → Prop, (∀ H', Nx H' → ∃ m', m' < m ∧ W (i + 1) m' H') ∧ ∀ x H', (Itt K a).yld i H x H' → g x (wipe σ vs) H' fun σ2 H2 => wipe σ2 vs = wipe σ vs ∧ tt σ2 H2 fun b H3 =>
        if b = true then te σ2 H3 fun y H4 => ∃ acc, H4 D = some (.lst acc) ∧ acc.length < sizeLine ∧ Nx (upd H4 D (.lst (acc ++ [y]))) else Nx H3) := by
  refine lc_gen (xs := cs.map V.str) (as := cs) (fun n => if p n = true then some n else none) (fun _ y n => y = .str n) (fun _ _ _ _ _ h => h) (walk_tup (K := K)) nD (fun G sG => .inl (.inl (sG _ _ ea))) (by rw [List.length_map]) hl (fun i x n G hx hn sG Pt Pf kt kf => ?_) (fun G ys sG eD hp _ => ?_)
  · rw [List.getElem?_map, hn] at hx
    cases hx
    refine hs n G (List.mem_of_getElem? hn) sG Pt Pf ?_
    cases z : p n with
    | true => exact iteT (kt n (by rw [z]; rfl) _ _ (Same.refl G) rfl)
    | false => exact iteF (kf (by rw [z]; rfl) _ (Same.refl G))
  · rw [fm_if p (fun n => n), List.map_id'] at hp
    rw [strs_of (H := G) hp] at eD
    exact hd G sG eD
theorem seq_tail {t : TE} {n : Nat} {u : L2.TS} {D : Ends} {σ : L2.St} {H : Hp} {ι : Type} (C : ι → Prop) (S : ι → L2.St) (G : ι → Hp) (tl : ∀ i, C i → u D (S i) (G i)) (h : (∀ i, C i → u D (S i) (G i)) → tSeq (tAsg t (gName n)) u D σ H) : tSeq (tAsg t (gName n)) u D σ H := h tl
end
end E1

set_option maxRecDepth 100000
set_option maxHeartbeats 4000000
namespace E1
open PySem PySem.Spec PyProof.Rows L2 KX
/-- a table whose names' tuple is a known object -/
def TblF (H : Hp) (v : V) (ns : List Str) (ks : List Nat) : Prop := ∃ a z y ws, v = .ref a ∧ H a = some (.tup [.ref z, .ref y]) ∧ H z = some (.tup (ns.map V.str)) ∧ H y = some (.tup ws) ∧ Paired (GtAt H) ws (chs ns ks)
theorem TblF.at {H : Hp} {v : V} {ns : List Str} {ks : List Nat} (h : TblF H v ns ks) : TblAt H v ns ks := by
  obtain ⟨a, z, y, ws, e, ea, ez, ey, hw⟩ := h
  exact ⟨a, z, y, ws, e, ea, .inl ez, ey, hw⟩
theorem TblF.up {G F : Hp} {v : V} {ns : List Str} {ks : List Nat} (h : TblF G v ns ks) (s : Same G F) : TblF F v ns ks := by
  obtain ⟨a, z, y, ws, e, ea, ez, ey, hw⟩ := h
  exact ⟨a, z, y, ws, e, s _ _ ea, s _ _ ez, s _ _ ey, pair_tk (Rel := GtAt) (fun _ _ _ _ k h => GtAt.tk k h) (TK.same s) hw⟩
def ixS : List Str → Str → Nat
  | [], _ => 0
  | y :: ns, x => if y = x then 0 else 1 + ixS ns x
theorem ixS_at : ∀ {ns : List Str} {x : Str}, x ∈ ns → ns[ixS ns x]? = some x ∧ ∀ m, m < ixS ns x → ns[m]? ≠ some x
  | [], _, h => nomatch h
  | y :: ns, x, h => by
    unfold ixS
    by_cases e : y = x
    · rw [if_pos e]
      exact ⟨by rw [e]; rfl, fun m h => absurd h (Nat.not_lt_zero _)⟩
    · rw [if_neg e]
      have hx : x ∈ ns := by
        rcases List.mem_cons.mp h with h | h
        · exact absurd h.symm e
        · exact h
      obtain ⟨h1, h2⟩ := ixS_at hx
      refine ⟨by rw [Nat.add_comm]; simpa using h1, fun m hm => ?_⟩
      cases m with
      | zero =>
        intro z
        exact e (Option.some.inj (by simpa using z))
      | succ m =>
        have := h2 m (by omega)
        simpa using this
theorem ix_sum (p : Str → Bool) : ∀ (ns : List Str) (k : Nat), ns.Nodup → ((ns.filter p).map fun x => (2 : Int) ^ (k + ixS ns x)).sum = 2 ^ k * (numN ns p : Int)
  | [], _, _ => by simp [numN]
  | x :: ns, k, nd => by
    rw [List.nodup_cons] at nd
    have ih := ix_sum p ns (k + 1) nd.2
    have e : ((ns.filter p).map fun y => (2 : Int) ^ (k + ixS (x :: ns) y)) = (ns.filter p).map fun y => (2 : Int) ^ (k + 1 + ixS ns y) := List.map_congr_left fun y hy => by
      have ne : x ≠ y := fun z => nd.1 (z ▸ (List.mem_filter.mp hy).1)
      show (2 : Int) ^ (k + (if x = y then 0 else 1 + ixS ns y)) = _
      rw [if_neg ne, Nat.add_assoc]
    have e0 : ixS (x :: ns) x = 0 := by
      show (if x = x then 0 else 1 + ixS ns x) = 0
      rw [if_pos rfl]
    rw [List.filter_cons]
    unfold numN
    cases z : p x with
    | true =>
      rw [if_pos rfl, List.map_cons, List.sum_cons, e, ih, e0, Int.pow_succ]
      simp only [if_true, Nat.add_zero]
      push_cast
      grind
    | false =>
      rw [if_neg (by decide), e, ih, Int.pow_succ]
      simp only [if_neg (show ¬ (false = true) by decide)]
      push_cast
      grind
theorem lc_strsR {K : PySem.W.Frag} {H1 : Hp} {a D : Addr} {cs : List Str} {g : TG} {tt : TT} {te : TE} {vs : List Nat} {σ : L2.St} {Qd : Hp → Prop} (p : Str → Bool) (ea : Rd H1 a (.tup (cs.map V.str))) (hl : cs.length ≤ 1000) (nD : H1 D = none)
    (hs : ∀ (n : Str) (G : Hp), n ∈ cs → Same H1 G → ∀ (Pt : V → Hp → Prop) (Pf : Hp → Prop), (if p n = true then Pt (.str n) G else Pf G) → g (.str n) (wipe σ vs) G fun σ2 H2 => wipe σ2 vs = wipe σ vs ∧ tt σ2 H2 fun b H3 => if b = true then te σ2 H3 Pt else Pf H3)
    (hd : ∀ G, Same H1 G → G D = some (.lst ((cs.filter p).map V.str)) → Qd G) :
    ∃ W : Nat → Nat → Hp → Prop, (∃ m, W 0 m (upd H1 D (.lst []))) ∧ ∀ i m H, W i m H → ((Itt K a).stop i H ∧ Qd H) ∨ ((Itt K a).go i H ∧ ∃ Nx : Hp → Prop, (∀ H', Nx H' → ∃ m', m' < m ∧ W (i + 1) m' H') ∧ ∀ x H', (Itt K a).yld i H x H' → g x (wipe σ vs) H' fun σ2 H2 => wipe σ2 vs = wipe σ vs ∧ tt σ2 H2 fun b H3 =>
        if b = true then te σ2 H3 fun y H4 => ∃ acc, H4 D = some (.lst acc) ∧ acc.length < sizeLine ∧ Nx (upd H4 D (.lst (acc ++ [y]))) else Nx H3) := by
  refine lc_gen (xs := cs.map V.str) (as := cs) (fun n => if p n = true then some n else none) (fun _ y n => y = .str n) (fun _ _ _ _ _ h => h) (walk_tup (K := K)) nD (fun G sG => .inl (rd_up ea sG)) (by rw [List.length_map]) hl (fun i x n G hx hn sG Pt Pf kt kf => ?_) (fun G ys sG eD hp _ => ?_)
  · rw [List.getElem?_map, hn] at hx
    cases hx
    refine hs n G (List.mem_of_getElem? hn) sG Pt Pf ?_
    cases z : p n with
    | true => exact iteT (kt n (by rw [z]; rfl) _ _ (Same.refl G) rfl)
    | false => exact iteF (kf (by rw [z]; rfl) _ (Same.refl G))
  · rw [fm_if p (fun n => n), List.map_id'] at hp
    rw [strs_of (H := G) hp] at eD
    exact hd G sG eD
/-- two lists in the names' order with the same members are the same -/
theorem asc_eq : ∀ {xs ys : List Str}, xs.Pairwise (fun a b => ltS a b = true) → ys.Pairwise (fun a b => ltS a b = true) → (∀ x, x ∈ xs ↔ x ∈ ys) → xs = ys
  | [], [], _, _, _ => rfl
  | [], y :: ys, _, _, h => nomatch (h y).mpr (by simp)
  | x :: xs, [], _, _, h => nomatch (h x).mp (by simp)
  | x :: xs, y :: ys, h1, h2, h => by
    obtain ⟨a1, a2⟩ := List.pairwise_cons.mp h1
    obtain ⟨b1, b2⟩ := List.pairwise_cons.mp h2
    have e : x = y := by
      rcases List.mem_cons.mp ((h x).mp (by simp)) with e | hx
      · exact e
      · rcases List.mem_cons.mp ((h y).mpr (by simp)) with e | hy
        · exact e.symm
        · have := lt_trs (a1 y hy) (b1 x hx)
          rw [lt_irr] at this
          cases this
    subst e
    refine congrArg _ (asc_eq a2 b2 fun z => ?_)
    have hz := h z
    constructor
    · intro k
      rcases List.mem_cons.mp (hz.mp (List.mem_cons_of_mem _ k)) with e | k2
      · subst e
        have := a1 z k
        rw [lt_irr] at this
        cases this
      · exact k2
    · intro k
      rcases List.mem_cons.mp (hz.mpr (List.mem_cons_of_mem _ k)) with e | k2
      · subst e
        have := b1 z k
        rw [lt_irr] at this
        cases this
      · exact k2
theorem any_isSt {n : Str} {cs : List Str} : ((cs.map PyData.str).any (isSt n)) = decide (n ∈ cs) := by
  induction cs with
  | nil => simp
  | cons c cs ih =>
    rw [List.map_cons, List.any_cons, ih]
    show (decide (c = n) || decide (n ∈ cs)) = _
    simp only [List.mem_cons, Bool.decide_or]
    congr 1
    exact decide_eq_decide.mpr eq_comm
theorem strs_back (cs : List Str) : strsT (.tuple (cs.map .str)) = cs := by
  show (cs.map PyData.str).map strOf = cs
  rw [List.map_map]
  exact (List.map_congr_left fun x _ => rfl).trans (List.map_id cs)
theorem in_strsD {ns : List Str} {d : PyData} (h : ascIn ns d = true) : d = .tuple ((strsT d).map .str) ∧ (∀ x ∈ strsT d, x ∈ ns) ∧ ascS (strsT d) = true := by
  unfold ascIn at h
  rw [Bool.and_eq_true] at h
  cases d with
  | tuple es =>
    obtain ⟨g1, g2⟩ := among_strs h.1
    exact ⟨congrArg PyData.tuple g1, g2, h.2⟩
  | _ => cases h.1
theorem asc_filter {ns cs : List Str} (tn : TNs ns) (h1 : ∀ x ∈ cs, x ∈ ns) (h2 : ascS cs = true) : ns.filter (fun x => decide (x ∈ cs)) = cs :=
  asc_eq ((asc_pw tn.asc).sublist List.filter_sublist) (asc_pw h2) fun x => by
    rw [List.mem_filter, decide_eq_true_eq]
    exact ⟨fun h => h.2, fun h => ⟨h1 x h, h⟩⟩
theorem pair_asc {ns : List Str} {es : List PyData} (tn : TNs ns) : eqSt (ns.filter fun n => es.any (isSt n)) es = ascIn ns (.tuple es) := by
  rw [Bool.eq_iff_iff, eqSt_is]
  constructor
  · intro h
    rw [h]
    exact asc_in (fun x hx => (List.mem_filter.mp hx).1) (pw_asc ((asc_pw tn.asc).sublist List.filter_sublist))
  · intro h
    obtain ⟨e, h1, h2⟩ := in_strsD h
    have e : es = (strsT (.tuple es)).map .str := PyData.tuple.inj e
    generalize strsT (.tuple es) = cs at e h1 h2
    subst e
    have : (ns.filter fun n => (cs.map PyData.str).any (isSt n)) = ns.filter (fun x => decide (x ∈ cs)) := List.filter_congr fun x _ => any_isSt
    rw [this, asc_filter tn h1 h2]
theorem sub_numD {ns : List Str} {d : PyData} (tn : TNs ns) (h : ascIn ns d = true) : subN ns (numD ns d) = strsT d := by
  obtain ⟨e, h1, h2⟩ := in_strsD h
  unfold numD
  rw [sub_num, asc_filter tn h1 h2]
theorem pair_sub {ns : List Str} {d1 d2 : PyData} (tn : TNs ns) (h1 : ascIn ns d1 = true) (h2 : ascIn ns d2 = true) : decide (numD ns d1 &&& numD ns d2 = numD ns d2) = ascIn (strsT d1) d2 := by
  obtain ⟨e, k1, k2⟩ := in_strsD h2
  rw [Nat.and_comm, Bool.eq_iff_iff, decide_eq_true_eq, and_sub tn.nd (numD_lt ns d2), sub_numD tn h1, sub_numD tn h2]
  constructor
  · intro h
    rw [e]
    exact asc_in h k2
  · intro h
    exact (in_strsD h).2.1
theorem asc_up {ns cs : List Str} {d : PyData} (h : ∀ x ∈ cs, x ∈ ns) (k : ascIn cs d = true) : ascIn ns d = true := by
  obtain ⟨e, k1, k2⟩ := in_strsD k
  rw [e]
  exact asc_in (fun x hx => h x (k1 x hx)) k2
section
variable {P : Program} {w : World} {K : PySem.W.Frag} {mg : Str → Option Value} {base : Heap}
end
end E1

set_option maxRecDepth 100000
set_option maxHeartbeats 4000000
namespace E1
open PySem PySem.Spec PyProof.Rows L2 KX
def rTI (K : PySem.W.Frag) : V → List V → Hp → VK → Prop := fun x xs H Q => ∃ p, ∃ ys : List Str, ∃ z j, x = .ref p ∧ xs = [.str z] ∧ SqT K H p (ys.map V.str) ∧ ys[j]? = some z ∧ (∀ m, m < j → ys[m]? ≠ some z) ∧ Q (.int (j : Nat)) H
section
variable {P : Program} {w : World} {K : PySem.W.Frag} {mg : Str → Option Value} {base : Heap}
end
end E1

set_option maxRecDepth 100000
set_option maxHeartbeats 4000000
namespace E1
open PySem PySem.Spec PyProof.Rows L2 KX
theorem base_cases (n : Nat) (hn : n < 61) : (n < 52 ∧ baseL n = (97 + n / 2) :: (if n % 2 = 1 then [97] else [])) ∨ (52 ≤ n ∧ baseL n = (97 + (n / 2 - 26)) :: ((if n % 2 = 1 then [97] else []) ++ [98])) := by
  by_cases h : n < 52
  · refine .inl ⟨h, ?_⟩
    have m26 : n / 2 % 26 = n / 2 := Nat.mod_eq_of_lt (by omega)
    have g51 : ¬ n > 51 := by omega
    simp [baseL, m26, g51]
  · refine .inr ⟨by omega, ?_⟩
    have m26 : n / 2 % 26 = n / 2 - 26 := by omega
    have g51 : n > 51 := by omega
    have d52 : n / 52 = 1 := by omega
    simp [baseL, m26, g51, d52]
theorem name_inj {n m : Nat} {x : Str} (hn : n < 61) (hm : m < 61) (h1 : NameOf n x) (h2 : NameOf m x) : n = m := by
  obtain ⟨s1, e1, _, k1⟩ := h1
  obtain ⟨s2, e2, _, k2⟩ := h2
  rw [e1] at e2
  rcases base_cases n hn with ⟨a1, b1⟩ | ⟨a1, b1⟩ <;> rcases base_cases m hm with ⟨a2, b2⟩ | ⟨a2, b2⟩ <;> rw [b1, b2] at e2 <;> simp only [List.cons_append, List.cons.injEq] at e2 <;> obtain ⟨e3, e4⟩ := e2 <;>
    rcases Nat.mod_two_eq_zero_or_one n with z | z <;> rcases Nat.mod_two_eq_zero_or_one m with y | y <;> simp [z, y] at e4 <;> have l := congrArg List.length e4 <;> (try simp at l) <;> (try omega)
def leN (a b : Str) : Bool := decide (a.cps.toList ≤ b.cps.toList)
theorem le_tot (a b : Str) : (leN a b || leN b a) = true := by
  unfold leN
  rcases List.le_total a.cps.toList b.cps.toList with h | h
  · rw [decide_eq_true h]; rfl
  · rw [decide_eq_true h]; simp
theorem le_tr (a b c : Str) (h1 : leN a b = true) (h2 : leN b c = true) : leN a c = true :=
  decide_eq_true (List.le_trans (of_decide_eq_true h1) (of_decide_eq_true h2))
theorem asc_of : ∀ {ns : List Str}, ns.Pairwise (fun a b => leN a b = true) → ns.Nodup → ascS ns = true
  | [], _, _ => rfl
  | [_], _, _ => rfl
  | a :: b :: r, hp, nd => by
    have le : a.cps.toList ≤ b.cps.toList := of_decide_eq_true ((List.pairwise_cons.mp hp).1 b (by simp))
    have ne : a ≠ b := fun z => (List.nodup_cons.mp nd).1 (by rw [z]; simp)
    have lt : a.cps.toList < b.cps.toList := by
      rcases List.le_iff_lt_or_eq.mp le with h | h
      · exact h
      · exact absurd (by
          cases a with
          | mk x =>
            cases b with
            | mk y =>
              have : x = y := Array.toList_inj.mp h
              rw [this]) ne
    show (ltS a b && ascS (b :: r)) = true
    rw [asc_of (List.pairwise_cons.mp hp).2 (List.nodup_cons.mp nd).2]
    show (decide _ && true) = true
    rw [decide_eq_true lt]
    rfl
/-! ### names -/
abbrev sDn : Stmt := topS 49
theorem scDn : FnScope ["stream", "total", "first", "at"] ["stream", "total"] (defScope sDn) := ⟨rfl, rfl, rfl, by decide +kernel, rfl, by decide +kernel, by decide +kernel⟩
def srtN (ns : List Str) : List Str := ns.mergeSort (PySem.W.dataLe false PyData.str)
theorem alike_strs (ns : List Str) : PySem.W.AllAlike (ns.map PyData.str) := PySem.W.AllAlike.of fun a b => by simp [PySem.W.alike]
theorem srt_strs {K : PySem.W.Frag} {H : Hp} {a : Addr} {ns : List Str} {Q : VK} (e : H a = some (.lst (ns.map V.str))) (q : ∀ p, H p = none → Q (.ref p) (upd H p (.lst ((srtN ns).map V.str)))) : rSortE K PyData.str [.ref a] H Q := by
  refine ⟨a, ns.map fun n => (V.str n, n), rfl, .inl (.inl ?_), fun b hb => ?_, ?_, ?_, fun b hb => ?_, fun pl npl => ?_⟩
  · rw [List.map_map, e]
    rfl
  · obtain ⟨n, _, rfl⟩ := List.mem_map.mp hb
    exact .str n
  · rw [List.map_map]
    exact alike_strs ns
  · rw [List.map_map]
    exact PySem.W.Sortable.others fun n => ⟨by simp, by simp⟩
  · simp [PyData.depth]
  · have e1 : ((ns.map fun n => (V.str n, n)).mergeSort (PySem.W.dataLe false fun b => PyData.str b.2)).map (·.1) = (srtN ns).map V.str := by
      have h := List.map_mergeSort (f := fun n : Str => (V.str n, n)) (r := PySem.W.dataLe false PyData.str) (s := PySem.W.dataLe false fun b : V × Str => PyData.str b.2) (l := ns) (fun a _ b _ => rfl)
      rw [← h, List.map_map]
      rfl
    rw [e1]
    exact q pl npl
theorem srt_arg {K : PySem.W.Frag} {L : Addr} {F : Hp} {σ : L2.St} {Q : VK} (h : rSortE K PyData.str [.ref L] F Q) : tNil σ F fun xs H2 => (fun vs H1 => rSortE K PyData.str vs H1 Q) (V.ref L :: xs) H2 := h
theorem srt_perm (ns : List Str) : (srtN ns).Perm ns := List.mergeSort_perm _ _
theorem srt_asc {ns : List Str} (nd : ns.Nodup) : ascS (srtN ns) = true := by
  have e : srtN ns = ns.mergeSort leN := by
    unfold srtN
    have e : PySem.W.dataLe false PyData.str = leN := PySem.W.dataLe_str (fun b : Str => b)
    rw [e]
  refine asc_of ?_ ((srt_perm ns).nodup_iff.mpr nd)
  rw [e]
  exact List.pairwise_mergeSort le_tr le_tot _
/-- a names' tuple that is a known object -/
def NmF (H : Hp) (p : Addr) (ns : List Str) : Prop := H p = some (.tup (ns.map V.str))
theorem NmF.up {G F : Hp} {p : Addr} {ns : List Str} (h : NmF G p ns) (s : Same G F) : NmF F p ns := by
  exact s _ _ h
theorem NmF.rd {H : Hp} {p : Addr} {ns : List Str} (h : NmF H p ns) : Rd H p (.tup (ns.map V.str)) := by
  exact .inl h
def spDn : Sp := fun vs H Q _ => ∃ (l : Addr) (n : Nat), vs = [.ref l, .int (n : Int)] ∧ StO H l ∧ 1 ≤ n ∧ n ≤ 6 ∧ ∀ H' p ns, Keep l H H' → StO H' l → p ≠ l → NmF H' p ns → TNs ns → ns.length = n → Q (.ref p) H'
section
variable {P : Program} {w : World} {K : PySem.W.Frag} {mg : Str → Option Value} {base : Heap}
theorem ok_dn {k : Nat} {f fD fN : Addr} {fd gD gN : FuncData} (B : Bl mg) (D : Df K mg "_law_distinct_names" sDn ["stream", "total"] f fd) (DD : Df K mg "_law_draw" sDraw ["stream", "total"] fD gD) (DN : Df K mg "_law_name" sNm ["stream", "at"] fN gN) (GD : FnOk P w K mg base CX0 k fD gD ["stream", "total"] spDraw) (GN : FnOk P w K mg base CX0 k fN gN ["stream", "at"] spNm) :
    FnOk P w K mg base CX0 (k + 1) f fd ["stream", "total"] spDn := by
  refine D.F.ok scDn (fun vs H Q E h => ?_) (fun cdv A outer s H vs Q E hr h => ?_)
  · obtain ⟨l, n, rfl, _⟩ := h
    rfl
  · obtain ⟨l, n, rfl, st, n1, n6, q⟩ := h
    have nd := scDn.nd
    have big : (1000 : Nat) < sizeLine := by decide
    refine ⟨_, pss_cons (ps_set (i := 2) nd rfl (.inr rfl) (pe_call GD hr (by rfl) DD.g DD.F.kp DD.b .nil pass0 (pa_cons (pv 0) (pa_cons pe_int pa_nil))))
      (pss_one (ps_ret (pe_callTy call_tuple_of (by rfl) B.tuple (by decide +kernel) (pa_cons (pe_callB (cr_sortE (enc := PyData.str) hr) (by rfl) B.sorted (by decide +kernel) (pa_cons (pe_lc (own := [("at", 3)]) (g := gName 3) rfl nd (pi_range1 (by rfl) B.range (pa_cons (pv 1) pa_nil)) (blkOk_by (N := ["stream", "total", "first", "at"]) (sc := defScope sDn) (by decide +kernel)) (fun _ _ _ _ _ => pg_name (i := 3) nd rfl (Or.inl rfl)) (fun _ _ _ _ _ => pts_nil)
        (fun _ _ _ _ _ => pe_call GN hr (by rfl) DN.g DN.F.kp DN.b .nil pass0 (pa_cons (pv 0) (pa_cons (pe_op op_add (pv 2) (pv 3)) pa_nil)))) pa_nil)) pa_nil)))), ?_⟩
    refine ⟨.ref l, rfl, l, 40, rfl, st, by decide, by decide, fun H1 f k1 st1 f0 f40 => ?_⟩
    obtain ⟨fn, efn⟩ : ∃ fn : Nat, f = (fn : Int) := ⟨f.toNat, by omega⟩
    subst efn
    refine gn_to (σ' := ([some (.ref l), some (.int (n : Int)), some (.int (fn : Int)), none] : L2.St)) rfl ?_
    try dsimp only
    refine ⟨.int (n : Int), rfl, (n : Int), rfl, by omega, by omega, fun L nL => ?_⟩
    rw [Int.toNat_natCast]
    have hLl : L ≠ l := st1.ne nL
    refine lc_range (lo := 0) (n := n) (fun j F => Keep l H1 F ∧ StO F l ∧ ∃ xs : List Str, xs.length = j ∧ (∀ (i : Nat) (x : Str), xs[i]? = some x → NameOf (fn + i) x) ∧ F L = some (.lst (xs.map V.str)))
      ⟨(Keep.refl l H1).new nL, st1.new nL, [], rfl, fun i x h => (by simp at h), upd_same⟩ (fun j F hj hF => ?_) (fun F hF => ?_)
    · obtain ⟨kF, stF, xs, lx, hx, eL⟩ := hF
      refine ⟨rfl, .ref l, rfl, .int (fn : Int), rfl, .int (0 + (j : Int)), rfl, (fn : Int), (0 + (j : Int)), rfl, rfl, l, fn + j, by rw [Int.zero_add]; rfl, stF, by omega, fun F2 x k2 st2 hn => ⟨xs.map V.str, k2 _ _ hLl eL, by rw [List.length_map]; omega, ?_⟩⟩
      have eL2 := k2 _ _ hLl eL
      refine ⟨fun b o nb e => ?_, ?_, xs ++ [x], by rw [List.length_append, lx]; rfl, fun i y hy => ?_, by rw [upd_same, List.map_append]; rfl⟩
      · rw [upd_ne (ne_of_none e nL)]
        exact k2 _ _ nb (kF _ _ nb e)
      · obtain ⟨b1, b2, b3, e⟩ := st2
        exact ⟨b1, b2, b3, by rw [upd_ne hLl.symm]; exact e⟩
      · rcases Nat.lt_or_ge i xs.length with z | z
        · rw [List.getElem?_append_left z] at hy
          exact hx i y hy
        · rw [List.getElem?_append_right z] at hy
          have z0 : i - xs.length = 0 := by
            by_cases z0 : i - xs.length = 0
            · exact z0
            · rw [List.getElem?_eq_none (by simp; omega)] at hy
              cases hy
          rw [z0] at hy
          cases hy
          rw [show i = j by omega]
          exact hn
    · obtain ⟨kF, stF, xs, lx, hx, eL⟩ := hF
      have nodup : xs.Nodup := List.pairwise_iff_getElem.mpr fun i j hi hj hij e => by
        have h1 := hx i xs[i] (List.getElem?_eq_getElem hi)
        have h2 := hx j xs[j] (List.getElem?_eq_getElem hj)
        rw [e] at h1
        have := name_inj (by omega) (by omega) h1 h2
        omega
      refine srt_arg ?_
      refine srt_strs eL fun p2 np2 => ?_
      have s2 := same_new (o := .lst ((srtN xs).map V.str)) np2
      refine ⟨p2, _, rfl, .inl ⟨.inl (.inl upd_same), fun p3 np3 => ?_⟩⟩
      have s3 := same_new (o := .tup ((srtN xs).map V.str)) np3
      have lsr : (srtN xs).length = xs.length := (srt_perm xs).length_eq
      refine q _ p3 (srtN xs) ((k1.trans kF).trans (Keep.of (s2.trans s3))) (stF.same (s2.trans s3)) ((stF.same s2).ne np3) upd_same ⟨by omega, by omega, fun x hxm => ?_, srt_asc nodup⟩ (by omega)
      have hm := (srt_perm xs).mem_iff.mp hxm
      obtain ⟨i, hi⟩ := List.getElem?_of_mem hm
      have := (List.getElem?_eq_some_iff.mp hi).1
      exact (name_ok (by omega) (hx i x hi)).1
end
end E1

set_option maxRecDepth 100000
set_option maxHeartbeats 4000000
namespace E1
open PySem PySem.Spec PyProof.Rows L2 KX
theorem dp_strs {K : PySem.W.Frag} {H : Hp} {g : Addr} {ns : List Str} (e : H g = some (.lst (ns.map V.str))) : Dp K H (.ref g) (.list (ns.map PyData.str)) := .lst (.inl (.inl e)) (dps_dx _ _ (plain_strs ns) (dxs_strs ns))
theorem in_strs {K : PySem.W.Frag} {f : Bool → Bool} {H : Hp} {g : Addr} {ns : List Str} {n : Str} {Q : VK} (e : H g = some (.lst (ns.map V.str))) (q : Q (.bl (f (decide (n ∈ ns)))) H) : rInLD K f (.str n) (.ref g) H Q :=
  ⟨.str n, ns.map .str, .str _, dp_strs e, by simp [PyData.plain], plain_strs ns, by have := deep_strs ns; omega, by rw [any_strs]; exact q⟩
theorem op_inLD {X : Cx} (hu : X.A.units + 64 < cLine) : OpR X (compareOp .In) (rInLD X.K id) := by
  intro pins s σ H x y v u Q I rx ry h
  obtain ⟨d, ds, hd, he, pd, pe, hm, q⟩ := h
  obtain ⟨as, r1⟩ := Dp.reads I d x v hd rx
  obtain ⟨bs, r2⟩ := Dp.reads I (.list ds) y u he ry
  exact SeqAt.in_list_data r2 r1 pe pd (by omega) ⟨.bl _, H, I, rfl, q⟩
/-! ### _law_table -/
abbrev sLt : Stmt := topS 46
abbrev NLt : List Str := ["stream", "names", "total", "left", "own", "alive", "name", "kept", "rows", "turn", "rest", "row", "choices", "number", "world", "firsts", "at"]
theorem scLt : FnScope NLt ["stream", "names"] (defScope sLt) := ⟨rfl, rfl, rfl, by decide +kernel, rfl, by decide +kernel, by decide +kernel⟩
def spLt : Sp := fun vs H Q _ => ∃ (l p : Addr) (ns : List Str), vs = [.ref l, .ref p] ∧ StO H l ∧ p ≠ l ∧ H p = some (.lst (ns.map V.str)) ∧ TNs ns ∧ ∀ H' v own ks, Keep l H H' → StO H' l → TblF (hid l H') v own ks → TOk own ks → (∀ x ∈ own, x ∈ ns) → Q v H'
def rLen (K : PySem.W.Frag) : List V → Hp → VK → Prop := fun xs H Q => ∃ p ys, xs = [V.ref p] ∧ (SqL K H p ys ∨ SqT K H p ys) ∧ Q (.int (ys.length : Nat)) H
/-- x.pop(_law_draw(stream, len(x))) -/
def tPopD (K : PySem.W.Frag) (i : Nat) : TE := tBM K "list" rPopAt (tVar i) (tCons (tCall spDraw [] E0 (tCons (tVar 0) (tCons (tCB (rLen K) (tCons (tVar i) tNil)) tNil))) tNil)
theorem erase_map {α β : Type} (f : α → β) : ∀ (l : List α) (k : Nat), (l.map f).eraseIdx k = (l.eraseIdx k).map f
  | [], _ => rfl
  | _ :: _, 0 => rfl
  | a :: l, k + 1 => by
    show f a :: (l.map f).eraseIdx k = f a :: (l.eraseIdx k).map f
    rw [erase_map f l k]
theorem erase_perm {α : Type} : ∀ {l : List α} {k : Nat} (h : k < l.length), (l[k] :: l.eraseIdx k).Perm l
  | [], _, h => absurd h (Nat.not_lt_zero _)
  | a :: l, 0, _ => List.Perm.refl _
  | a :: l, k + 1, h => ((List.Perm.swap a _ _)).trans ((erase_perm (Nat.lt_of_succ_lt_succ h)).cons a)
theorem cutV_to (xs : List V) (n : Nat) : cutV xs none (some (n : Int)) = xs.take n := by
  unfold cutV
  rw [HT.sIx_none, HT.sIx_nat, Nat.sub_zero, List.drop_zero]
  rcases Nat.le_total n xs.length with h | h
  · rw [Nat.min_eq_left h]
  · rw [Nat.min_eq_right h, List.take_of_length_le (Nat.le_refl _), List.take_of_length_le h]
theorem lc_strsL {K : PySem.W.Frag} {H1 : Hp} {a D : Addr} {cs : List Str} {g : TG} {tt : TT} {te : TE} {vs : List Nat} {σ : L2.St} {Qd : Hp → Prop} (p : Str → Bool) (ea : ∀ G, Same H1 G → G a = some (.lst (cs.map V.str))) (hl : cs.length ≤ 1000) (nD : H1 D = none)
    (hs : ∀ (n : Str) (G : Hp), n ∈ cs → Same H1 G → ∀ (Pt : V → Hp → Prop) (Pf : Hp → Prop), (if p n = true then Pt (.str n) G else Pf G) → g (.str n) (wipe σ vs) G fun σ2 H2 => wipe σ2 vs = wipe σ vs ∧ tt σ2 H2 fun b H3 => if b = true then te σ2 H3 Pt else Pf H3)
    (hd : ∀ G, Same H1 G → G D = some (.lst ((cs.filter p).map V.str)) → Qd G) :
    ∃ W : Nat → Nat → Hp → Prop, (∃ m, W 0 m (upd H1 D (.lst []))) ∧ ∀ i m H, W i m H → ((Itl K a).stop i H ∧ Qd H) ∨ ((Itl K a).go i H ∧ ∃ Nx : Hp → Prop, (∀ H', Nx H' → ∃ m', m' < m ∧ W (i + 1) m' H') ∧ ∀ x H', (Itl K a).yld i H x H' → g x (wipe σ vs) H' fun σ2 H2 => wipe σ2 vs = wipe σ vs ∧ tt σ2 H2 fun b H3 =>
        if b = true then te σ2 H3 fun y H4 => ∃ acc, H4 D = some (.lst acc) ∧ acc.length < sizeLine ∧ Nx (upd H4 D (.lst (acc ++ [y]))) else Nx H3) := by
  refine lc_gen (xs := cs.map V.str) (as := cs) (fun n => if p n = true then some n else none) (fun _ y n => y = .str n) (fun _ _ _ _ _ h => h) (walk_list (K := K)) nD (fun G sG => .inl (.inl (ea G sG))) (by rw [List.length_map]) hl (fun i x n G hx hn sG Pt Pf kt kf => ?_) (fun G ys sG eD hp _ => ?_)
  · rw [List.getElem?_map, hn] at hx
    cases hx
    refine hs n G (List.mem_of_getElem? hn) sG Pt Pf ?_
    cases z : p n with
    | true => exact iteT (kt n (by rw [z]; rfl) _ _ (Same.refl G) rfl)
    | false => exact iteF (kf (by rw [z]; rfl) _ (Same.refl G))
  · rw [fm_if p (fun n => n), List.map_id'] at hp
    rw [strs_of (H := G) hp] at eD
    exact hd G sG eD
theorem sub_filter {ns : List Str} {m : Nat} (nd : ns.Nodup) (hm : m < 2 ^ ns.length) (p : Str → Bool) : (subN ns m).filter p = subN ns (numN ns fun x => decide (x ∈ subN ns m) && p x) := by
  have e : subN ns m = ns.filter fun x => decide (x ∈ subN ns m) := by
    rw [← sub_num, num_sub nd hm]
  rw [sub_num]
  conv => lhs; rw [e]
  rw [List.filter_filter]
  exact List.filter_congr fun x _ => Bool.and_comm _ _
theorem pick_and {ns : List Str} {m : Nat} (nd : ns.Nodup) (p : Str → Bool) : (numN ns fun x => decide (x ∈ subN ns m) && p x) &&& m = numN ns fun x => decide (x ∈ subN ns m) && p x := by
  rw [and_sub nd (num_lt _ _)]
  intro x hx
  rw [sub_num] at hx
  have := (List.mem_filter.mp hx).2
  rw [Bool.and_eq_true] at this
  exact of_decide_eq_true this.1
theorem tk_hid {l : Addr} {G : Hp} (st : StO G l) : TK G (hid l G) := fun b xs z => by
  obtain ⟨x, y, q, e⟩ := st
  rw [hid_at (fun r => by rw [r, e] at z; cases z)]
  exact z
theorem TblF.hid {l : Addr} {G : Hp} {v : V} {ns : List Str} {ks : List Nat} (st : StO G l) (h : TblF G v ns ks) : TblF (KX.hid l G) v ns ks := by
  obtain ⟨a, z, y, ws, e, ea, ez, ey, hw⟩ := h
  have tk := tk_hid st
  refine ⟨a, z, y, ws, e, tk _ _ ea, ?_, tk _ _ ey, pair_tk (Rel := GtAt) (fun _ _ _ _ k h => GtAt.tk k h) tk hw⟩
  obtain ⟨x1, y1, q1, e1⟩ := st
  rw [hid_at (fun r => by rw [r, e1] at ez; cases ez)]
  exact ez
theorem keep_at {l A : Addr} {H G : Hp} {o : HO} (k : Keep l H G) (n : H A = none) : Keep l H (upd G A o) := fun b u nb e => by
  rw [upd_ne (ne_of_none e n)]
  exact k _ _ nb e
theorem sto_at {l A : Addr} {G : Hp} {o : HO} (h : StO G l) (n : A ≠ l) : StO (upd G A o) l := by
  obtain ⟨b1, b2, b3, e⟩ := h
  exact ⟨b1, b2, b3, by rw [upd_ne n.symm]; exact e⟩
theorem none_of {l A : Addr} {H G : Hp} (k : Keep l H G) (h : A ≠ l) (n : G A = none) : H A = none := by
  cases z : H A with
  | none => rfl
  | some o => rw [k _ _ h z] at n; cases n
section
variable {P : Program} {w : World} {K : PySem.W.Frag} {mg : Str → Option Value} {base : Heap}
theorem ok_lt {k : Nat} {f fD : Addr} {fd gD : FuncData} (B : Bl mg) (D : Df K mg "_law_table" sLt ["stream", "names"] f fd) (DD : Df K mg "_law_draw" sDraw ["stream", "total"] fD gD) (GD : FnOk P w K mg base CX0 k fD gD ["stream", "total"] spDraw) : FnOk P w K mg base CX0 (k + 1) f fd ["stream", "names"] spLt := by
  refine D.F.ok scLt (fun vs H Q E h => ?_) (fun cdv A outer s H vs Q E hr h => ?_)
  · obtain ⟨l, p, ns, rfl, _⟩ := h
    rfl
  · obtain ⟨l, p, ns, rfl, st, npl, ep, tn, q⟩ := h
    have nd := scLt.nd
    have big : (1000 : Nat) < sizeLine := by decide
    refine ⟨_, pss_cons (ps_set (i := 2) nd rfl (.inl rfl) (pe_op op_add pe_int (pe_call GD hr (by rfl) DD.g DD.F.kp DD.b .nil pass0 (pa_cons (pv 0) (pa_cons (pe_callB (call_min2 rfl) (by rfl) B.min (by decide +kernel) (pa_cons pe_int (pa_cons (pe_callB call_len_seq (by rfl) B.len PySem.boot_len (pa_cons (pv 1) pa_nil)) pa_nil))) pa_nil)))))
      (pss_cons (ps_set (i := 3) nd rfl (.inr rfl) (pe_callB (cr_sortE (enc := PyData.str) hr) (by rfl) B.sorted (by decide +kernel) (pa_cons (pv 1) pa_nil)))
      (pss_cons (ps_set (i := 4) nd rfl (.inl rfl) (pe_callB (cr_sortE (enc := PyData.str) hr) (by rfl) B.sorted (by decide +kernel) (pa_cons (pe_lc (te := tPopD K 3) (own := [("turn", 9)]) (g := gName 9) rfl nd (pi_range1 (by rfl) B.range (pa_cons (pv 2) pa_nil)) (blkOk_by (N := NLt) (sc := defScope sLt) (by decide +kernel)) (fun _ _ _ _ _ => pg_name (i := 9) nd rfl (Or.inl rfl)) (fun _ _ _ _ _ => pts_nil)
          (fun _ _ _ _ _ => pe_bm PySem.F.plainAttrs_list PySem.F.slot_list_pop PySem.F.type_list_pop mt_popAt (pv 3) (pa_cons (pe_call GD hr (by rfl) DD.g DD.F.kp DD.b .nil pass0 (pa_cons (pv 0) (pa_cons (pe_callB (r := rLen K) call_len_seq (by rfl) B.len PySem.boot_len (pa_cons (pv 3) pa_nil)) pa_nil))) pa_nil))) pa_nil)))
      (pss_cons (ps_set (i := 5) nd rfl (.inl rfl) (pe_lst pa_nil))
      (pss_cons (ps_for PassesOwn.never rfl (pi_list (pv 4)) (pg_name (i := 6) nd rfl (.inl rfl))
        (pss_cons (ps_set (i := 7) nd rfl (.inl rfl) (pe_cmpR op_gt (pe_call GD hr (by rfl) DD.g DD.F.kp DD.b .nil pass0 (pa_cons (pv 0) (pa_cons pe_int pa_nil))) pe_int (nomark _)))
        (pss_one (ps_expr (pe_bm PySem.F.plainAttrs_list PySem.F.slot_list_extend PySem.F.type_list_extend mt_extend (pv 5) (pa_cons (pe_op op_rep (pe_lst (pa_cons (pv 6) pa_nil)) (pe_callTy call_int1 (by rfl) B.int (by decide +kernel) (pa_cons (pv 7) pa_nil))) pa_nil))))))
      (pss_cons (ps_set (i := 8) nd rfl (.inl rfl) (pe_lst pa_nil))
      (pss_cons (ps_for PassesOwn.never rfl (pi_range1 (by rfl) B.range (pa_cons (pe_op op_add pe_int (pe_call GD hr (by rfl) DD.g DD.F.kp DD.b .nil pass0 (pa_cons (pv 0) (pa_cons pe_int pa_nil)))) pa_nil)) (pg_name (i := 9) nd rfl (.inl rfl))
        (pss_cons (ps_set (i := 10) nd rfl (.inr rfl) (pe_callTy call_lst2 (by rfl) B.list (by decide +kernel) (pa_cons (pv 5) pa_nil)))
        (pss_one (ps_expr (pe_bm PySem.F.plainAttrs_list PySem.F.slot_list_append PySem.F.type_list_append mt_append (pv 8) (pa_cons (pe_lc (te := tPopD K 10) (own := [("name", 6)]) (g := gName 6) rfl nd (pi_list (pv 5)) (blkOk_by (N := NLt) (sc := defScope sLt) (by decide +kernel)) (fun _ _ _ _ _ => pg_name (i := 6) nd rfl (Or.inl rfl)) (fun _ _ _ _ _ => pts_nil)
            (fun _ _ _ _ _ => pe_bm PySem.F.plainAttrs_list PySem.F.slot_list_pop PySem.F.type_list_pop mt_popAt (pv 10) (pa_cons (pe_call GD hr (by rfl) DD.g DD.F.kp DD.b .nil pass0 (pa_cons (pv 0) (pa_cons (pe_callB (r := rLen K) call_len_seq (by rfl) B.len PySem.boot_len (pa_cons (pv 10) pa_nil)) pa_nil))) pa_nil))) pa_nil))))))
      (pss_cons (ps_set (i := 12) nd rfl (.inl rfl) (pe_lst pa_nil))
      (pss_cons (ps_for PassesOwn.never rfl (pi_range2 (by rfl) B.range (pa_cons pe_int (pa_cons (pe_op op_shl pe_int (pv 2)) pa_nil))) (pg_name (i := 13) nd rfl (.inr rfl))
        (pss_cons (ps_set (i := 14) nd rfl (.inr rfl) (pe_lc (own := [("at", 16), ("name", 6)]) (g := gTup K 2 (gCons (gName 16) (gCons (gName 6) gNil))) rfl nd (pi_enum (by rfl) B.enu (pa_cons (pv 4) pa_nil)) (blkOk_by (N := NLt) (sc := defScope sLt) (by decide +kernel))
            (fun _ _ _ _ _ => pg_tup (by rfl) (pgs_cons (pg_name (i := 16) nd rfl (Or.inl rfl)) (pgs_cons (pg_name (i := 6) nd rfl (Or.inl rfl)) pgs_nil))) (fun _ _ _ _ _ => pts_one (pt_cmpR op_eq (pe_op op_and (pe_op op_shr (pv 13) (pv 16)) pe_int) pe_int (nomark _))) (fun _ _ _ _ _ => pv 6)))
        (pss_cons (ps_set (i := 15) nd rfl (.inr rfl) (pe_lst pa_nil))
        (pss_cons (ps_for PassesOwn.never rfl (pi_list (pv 8)) (pg_name (i := 11) nd rfl (.inl rfl))
          (pss_one (ps_set (i := 15) nd rfl (.inr rfl) (pe_op op_cat (pv 15) (pe_slice sl_list (pe_lc (own := [("name", 6)]) (g := gName 6) rfl nd (pi_list (pv 11)) (blkOk_by (N := NLt) (sc := defScope sLt) (by decide +kernel)) (fun _ _ _ _ _ => pg_name (i := 6) nd rfl (Or.inl rfl))
              (fun _ _ _ _ _ => pts_one (pt_cmpR (r := rInLD K id) (op_inLD hr.units) (pv 6) (pv 14) (by rfl))) (fun _ _ _ _ _ => pv 6)) po_none (po_some pe_int))))))
        (pss_one (ps_expr (pe_bm PySem.F.plainAttrs_list PySem.F.slot_list_append PySem.F.type_list_append mt_append (pv 12) (pa_cons (pe_callTy call_tuple_of (by rfl) B.tuple (by decide +kernel) (pa_cons (pe_lc (own := [("name", 6)]) (g := gName 6) rfl nd (pi_list (pv 14)) (blkOk_by (N := NLt) (sc := defScope sLt) (by decide +kernel)) (fun _ _ _ _ _ => pg_name (i := 6) nd rfl (Or.inl rfl))
              (fun _ _ _ _ _ => pts_one (pt_cmpR (r := rInLD K id) (op_inLD hr.units) (pv 6) (pv 15) (by rfl))) (fun _ _ _ _ _ => pv 6)) pa_nil)) pa_nil))))))))
      (pss_one (ps_ret (pe_tup (pa_cons (pe_callTy call_tuple_of (by rfl) B.tuple (by decide +kernel) (pa_cons (pv 4) pa_nil)) (pa_cons (pe_callTy call_tuple_of (by rfl) B.tuple (by decide +kernel) (pa_cons (pv 12) pa_nil)) pa_nil))))))))))))), ?_⟩
    have l1 := tn.l1
    have l6 := tn.l6
    have lm : ((ns.map V.str).length : Int) = (ns.length : Int) := by rw [List.length_map]
    -- total
    refine ⟨.ref l, rfl, .ref p, rfl, p, _, rfl, .inl (.inl (.inl ep)), 6, _, rfl, l, _, rfl, st, by rw [lm]; split <;> omega, by rw [lm]; split <;> omega, fun H1 t k1 st1 t0 t1 => ⟨1, t, rfl, rfl, ?_⟩⟩
    rw [lm] at t1
    obtain ⟨n, en, n1, nl⟩ : ∃ n : Nat, 1 + t = (n : Int) ∧ 1 ≤ n ∧ n ≤ ns.length := ⟨(1 + t).toNat, by omega, by omega, by split at t1 <;> omega⟩
    refine gn_to (v := V.int (1 + t)) (σ' := ([some (.ref l), some (.ref p), some (.int (n : Int)), none, none, none, none, none, none, none, none, none, none, none, none, none, none] : L2.St)) (by rw [en]; rfl) ?_
    try dsimp only
    have ep1 := k1 _ _ npl ep
    -- left
    refine ⟨.ref p, rfl, ?_⟩
    refine srt_arg ?_
    refine srt_strs ep1 fun L nL => ?_
    have hLl : L ≠ l := st1.ne nL
    have st2 := st1.new (o := .lst ((srtN ns).map V.str)) nL
    have eL2 : (upd H1 L (.lst ((srtN ns).map V.str))) L = some (.lst ((srtN ns).map V.str)) := upd_same
    have k12 : Keep l H1 (upd H1 L (.lst ((srtN ns).map V.str))) := (Keep.refl l H1).new nL
    generalize upd H1 L (.lst ((srtN ns).map V.str)) = H2 at st2 eL2 k12 ⊢
    refine gn_to (σ' := ([some (.ref l), some (.ref p), some (.int (n : Int)), some (.ref L), none, none, none, none, none, none, none, none, none, none, none, none, none] : L2.St)) rfl ?_
    try dsimp only
    -- own
    refine ⟨.int (n : Int), rfl, (n : Int), rfl, by omega, by omega, fun D nD => ?_⟩
    rw [Int.toNat_natCast]
    have hDl : D ≠ l := st2.ne nD
    have hDL : D ≠ L := fun z => by rw [z, eL2] at nD; cases nD
    have nD1 : H1 D = none := by
      cases z : H1 D with
      | none => rfl
      | some o => rw [k12 _ _ hDl z] at nD; cases nD
    refine lc_range (lo := 0) (n := n) (fun j F => Keep l H1 F ∧ StO F l ∧ ∃ rem got : List Str, got.length = j ∧ (got ++ rem).Perm ns ∧ F L = some (.lst (rem.map V.str)) ∧ F D = some (.lst (got.map V.str)))
      ⟨k12.new nD, st2.new nD, srtN ns, [], rfl, srt_perm ns, by rw [upd_ne hDL.symm]; exact eL2, upd_same⟩ (fun j F hj hF => ?_) (fun F hF => ?_)
    · obtain ⟨kF, stF, rem, got, lg, pm, eL, eD⟩ := hF
      have lpm := pm.length_eq
      rw [List.length_append] at lpm
      have hrl : 1 ≤ rem.length := by omega
      refine ⟨rfl, .ref L, rfl, .inl ⟨rfl, _, .inl (.inl eL)⟩, .ref l, rfl, .ref L, rfl, L, _, rfl, .inl (.inl (.inl eL)), l, _, rfl, stF, ?_, ?_, fun F2 d k2 s2 d0 d1 => ?_⟩
      · rw [List.length_map]; omega
      · rw [List.length_map]; omega
      rw [List.length_map] at d1
      have hd : d.toNat < rem.length := by omega
      have ek : rem[d.toNat]? = some rem[d.toNat] := List.getElem?_eq_getElem hd
      refine ⟨L, _, d, d.toNat, .str rem[d.toNat], rfl, rfl, k2 _ _ hLl eL, by omega, by omega, PySem.StrLaws.seqIndex_nonneg d0 (by rw [List.length_map]; exact d1), by rw [List.getElem?_map, ek]; rfl, ?_⟩
      have eD2 := k2 _ _ hDl eD
      refine ⟨got.map V.str, by rw [upd_ne hDL]; exact eD2, by rw [List.length_map]; omega, ?_⟩
      refine ⟨fun b o nb e => ?_, ?_, rem.eraseIdx d.toNat, got ++ [rem[d.toNat]], by rw [List.length_append, lg]; rfl, ?_, ?_, by rw [upd_same, List.map_append]; rfl⟩
      · rw [upd_ne (ne_of_none e nD1), upd_ne (ne_of_none e nL)]
        exact k2 _ _ nb (kF _ _ nb e)
      · obtain ⟨b1, b2, b3, e⟩ := s2
        exact ⟨b1, b2, b3, by rw [upd_ne hDl.symm, upd_ne hLl.symm]; exact e⟩
      · rw [List.append_assoc]
        exact ((erase_perm hd).append_left got).trans pm
      · rw [upd_ne hDL.symm, upd_same]
        congr 1
        congr 1
        rw [erase_map]
    obtain ⟨kF, stF, rem, got, lg, pm, eL, eD⟩ := hF
    refine srt_arg ?_
    refine srt_strs eD fun O nO => ?_
    have gnd : got.Nodup := (List.nodup_append.mp (pm.nodup_iff.mpr tn.nd)).1
    have gin : ∀ x ∈ srtN got, x ∈ ns := fun x hx => pm.mem_iff.mp (List.mem_append.mpr (.inl ((srt_perm got).mem_iff.mp hx)))
    have tno : TNs (srtN got) := ⟨by rw [(srt_perm got).length_eq]; omega, by rw [(srt_perm got).length_eq]; omega, fun x hx => tn.nm x (gin x hx), srt_asc gnd⟩
    have lown : (srtN got).length = n := by rw [(srt_perm got).length_eq, lg]
    generalize srtN got = own at gin tno lown ⊢
    have hOl : O ≠ l := stF.ne nO
    have st3 := stF.new (o := .lst (own.map V.str)) nO
    have k03 : Keep l H (upd F O (.lst (own.map V.str))) := (k1.trans kF).new nO
    have eO : (upd F O (.lst (own.map V.str))) O = some (.lst (own.map V.str)) := upd_same
    generalize upd F O (.lst (own.map V.str)) = H3 at st3 k03 eO ⊢
    clear eL eD kF stF nD nD1 hDl hDL eL2 k12 st2 nL ep1 nO
    refine gn_to (σ' := ([some (.ref l), some (.ref p), some (.int (n : Int)), some (.ref L), some (.ref O), none, none, none, none, none, none, none, none, none, none, none, none] : L2.St)) rfl ?_
    try dsimp only
    -- alive
    refine ⟨by show 0 ≤ sizeLine; omega, fun A nA => ?_⟩
    have hAl : A ≠ l := st3.ne nA
    refine gn_to (σ' := ([some (.ref l), some (.ref p), some (.int (n : Int)), some (.ref L), some (.ref O), some (.ref A), none, none, none, none, none, none, none, none, none, none, none] : L2.St)) rfl ?_
    try dsimp only
    refine ⟨.ref O, rfl, O, rfl, ⟨own.map V.str, .inl (.inl (by rw [upd_ne (ne_of_none eO nA)]; exact eO))⟩, ?_⟩
    refine for_it (walk_list (K := K) (a := O) (xs := own.map V.str)) (fun i σ G => Keep l H3 G ∧ StO G l ∧ (∃ al : List Str, al.length ≤ i ∧ G A = some (.lst (al.map V.str))) ∧ ∃ o6 o7, σ = [some (.ref l), some (.ref p), some (.int (n : Int)), some (.ref L), some (.ref O), some (.ref A), o6, o7, none, none, none, none, none, none, none, none, none])
      ⟨(Keep.refl l H3).new nA, st3.new nA, ⟨[], Nat.le_refl _, upd_same⟩, none, none, rfl⟩ (fun i σ G _ hP => .inl (.inl (hP.1 _ _ hOl eO))) (fun i x σ G G' hi hP hy => ?_) (fun σ G hP => ?_)
    · obtain ⟨rfl, hx⟩ := hy
      obtain ⟨kG, sG, ⟨al, la, eA⟩, o6, o7, rfl⟩ := hP
      rw [List.length_map, lown] at hi
      rw [List.getElem?_map] at hx
      obtain ⟨nm, _, rfl⟩ := Option.map_eq_some_iff.mp hx
      refine gn_to (σ' := ([some (.ref l), some (.ref p), some (.int (n : Int)), some (.ref L), some (.ref O), some (.ref A), some (.str nm), o7, none, none, none, none, none, none, none, none, none] : L2.St)) rfl ?_
      try dsimp only
      refine ⟨.ref l, rfl, l, 5, rfl, sG, by decide, by decide, fun G1 t kt st1 _ _ => ⟨_, _, rfl, rfl, ?_⟩⟩
      refine gn_to (σ' := ([some (.ref l), some (.ref p), some (.int (n : Int)), some (.ref L), some (.ref O), some (.ref A), some (.str nm), some (.bl (decide (t > 0))), none, none, none, none, none, none, none, none, none] : L2.St)) rfl ?_
      try dsimp only
      have eA1 := kt _ _ hAl eA
      refine ⟨.ref A, rfl, .inl ⟨rfl, _, .inl (.inl eA1)⟩, .str nm, rfl, by show 1 ≤ sizeLine; omega, fun p1 np1 => ⟨.bl (decide (t > 0)), rfl, .inr ⟨_, rfl, ?_⟩⟩⟩
      have hp1 : p1 ≠ l := st1.ne np1
      refine ⟨p1, _, [.str nm], rfl, rfl, upd_same, by split <;> decide, by split <;> decide, by rw [show ([V.str nm] : List V).length = 1 from rfl]; split <;> decide, fun p2 np2 => ?_⟩
      have np2' : G1 p2 = none := by
        by_cases z : p2 = p1
        · rw [z, upd_same] at np2; cases np2
        · rwa [upd_ne z] at np2
      have hp2 : p2 ≠ l := st1.ne np2'
      have hA1 : A ≠ p1 := fun z => by rw [← z, eA1] at np1; cases np1
      have hA2 : A ≠ p2 := fun z => by rw [← z, eA1] at np2'; cases np2'
      refine ⟨A, p2, al.map V.str, (List.replicate (if decide (t > 0) = true then (1 : Int) else 0).toNat [V.str nm]).flatten, rfl, rfl, by rw [upd_ne hA2, upd_ne hA1]; exact eA1, upd_same, by rw [List.length_map]; split <;> simp <;> omega, ?_⟩
      refine ⟨keep_at (((kG.trans kt).new np1).new np2) nA, sto_at ((st1.new np1).new np2) hAl, ⟨al ++ (List.replicate (if decide (t > 0) = true then (1 : Int) else 0).toNat nm), ?_, ?_⟩, _, _, rfl⟩
      · rw [List.length_append]; split <;> simp <;> omega
      · rw [upd_same, List.map_append]
        congr 3
        split <;> rfl
    obtain ⟨kG, sG, ⟨al, la, eA⟩, o6, o7, rfl⟩ := hP
    rw [List.length_map, lown] at la
    have k4 := k03.trans kG
    have eO4 := kG _ _ hOl eO
    clear kG k03 eO st3 nA
    -- rows
    refine ⟨by show 0 ≤ sizeLine; omega, fun R nR => ?_⟩
    have hRl : R ≠ l := sG.ne nR
    refine gn_to (σ' := ([some (.ref l), some (.ref p), some (.int (n : Int)), some (.ref L), some (.ref O), some (.ref A), o6, o7, some (.ref R), none, none, none, none, none, none, none, none] : L2.St)) rfl ?_
    try dsimp only
    refine ⟨.ref l, rfl, l, 4, rfl, sG.new nR, by decide, by decide, fun G1 t kt st1 t0 t4 => ⟨1, t, rfl, rfl, 1 + t, rfl, by omega, by omega, ?_⟩⟩
    obtain ⟨m4, em4⟩ : ∃ m4 : Nat, 1 + t = (m4 : Int) := ⟨(1 + t).toNat, by omega⟩
    have m4b : m4 ≤ 4 := by omega
    rw [em4, Int.toNat_natCast]
    have eR1 := kt _ _ hRl (upd_same (H := G) (a := R) (o := .lst []))
    refine for_range (lo := 0) (n := m4) (fun i σ F => Keep l G F ∧ StO F l ∧ (∃ rs : List (Addr × List Str), F R = some (.lst (rs.map fun r => V.ref r.1)) ∧ rs.length ≤ i ∧ ∀ r ∈ rs, F r.1 = some (.lst (r.2.map V.str)) ∧ r.1 ≠ R ∧ r.1 ≠ l ∧ r.2.length ≤ 6) ∧ ∃ o9 o10, σ = [some (.ref l), some (.ref p), some (.int (n : Int)), some (.ref L), some (.ref O), some (.ref A), o6, o7, some (.ref R), o9, o10, none, none, none, none, none, none])
      ⟨((Keep.refl l G).new nR).trans kt, st1, ⟨[], eR1, Nat.zero_le _, fun r hr => nomatch hr⟩, none, none, rfl⟩ (fun i σ F hi hP => ?_) (fun σ F hP => ?_)
    · obtain ⟨kF, sF, ⟨rs, eR, lr, hrs⟩, o9, o10, rfl⟩ := hP
      have eAF := kF _ _ hAl eA
      refine gn_to (σ' := ([some (.ref l), some (.ref p), some (.int (n : Int)), some (.ref L), some (.ref O), some (.ref A), o6, o7, some (.ref R), some (.int (0 + (i : Int))), o10, none, none, none, none, none, none] : L2.St)) rfl ?_
      try dsimp only
      refine ⟨.ref A, rfl, A, _, rfl, .inl (.inl (.inl eAF)), fun T nT _ => ?_⟩
      refine gn_to (σ' := ([some (.ref l), some (.ref p), some (.int (n : Int)), some (.ref L), some (.ref O), some (.ref A), o6, o7, some (.ref R), some (.int (0 + (i : Int))), some (.ref T), none, none, none, none, none, none] : L2.St)) rfl ?_
      try dsimp only
      have hTl : T ≠ l := sF.ne nT
      have hAT : A ≠ T := fun z => by rw [← z, eAF] at nT; cases nT
      have hRT : R ≠ T := fun z => by rw [← z, eR] at nT; cases nT
      refine ⟨.ref R, rfl, .inl ⟨rfl, _, .inl (.inl (by rw [upd_ne hRT]; exact eR))⟩, .ref A, rfl, A, rfl, ⟨_, .inl (.inl (by rw [upd_ne hAT]; exact eAF))⟩, fun D nD => ?_⟩
      have hDT : D ≠ T := fun z => by rw [z, upd_same] at nD; cases nD
      have nD' : F D = none := by rwa [upd_ne hDT] at nD
      have hDl : D ≠ l := sF.ne nD'
      have hDR : D ≠ R := fun z => by rw [z, eR] at nD'; cases nD'
      refine lc_it (walk_list (K := K) (a := A) (xs := al.map V.str)) (fun j F2 => Keep l F F2 ∧ StO F2 l ∧ ∃ rem got : List Str, got.length = j ∧ rem.length + j = al.length ∧ F2 T = some (.lst (rem.map V.str)) ∧ F2 D = some (.lst (got.map V.str)))
        ⟨((Keep.refl l F).new nT).new nD, (sF.new nT).new nD, al, [], rfl, rfl, by rw [upd_ne hDT.symm]; exact upd_same, upd_same⟩ (fun j F2 _ hP => .inl (.inl (hP.1 _ _ hAl eAF))) (fun j x F2 F2' hj hP hy => ?_) (fun F2 hP => ?_)
      · obtain ⟨rfl, hx⟩ := hy
        obtain ⟨k2, s2, rem, got, lg, lrm, eT, eD⟩ := hP
        rw [List.length_map] at hj
        refine ⟨rfl, .ref T, rfl, .inl ⟨rfl, _, .inl (.inl eT)⟩, .ref l, rfl, .ref T, rfl, T, _, rfl, .inl (.inl (.inl eT)), l, _, rfl, s2, ?_, ?_, fun F3 d k3 s3 d0 d1 => ?_⟩
        · rw [List.length_map]; omega
        · rw [List.length_map]; omega
        rw [List.length_map] at d1
        have hd : d.toNat < rem.length := by omega
        have ek : rem[d.toNat]? = some rem[d.toNat] := List.getElem?_eq_getElem hd
        refine ⟨T, _, d, d.toNat, .str rem[d.toNat], rfl, rfl, k3 _ _ hTl eT, by omega, by omega, PySem.StrLaws.seqIndex_nonneg d0 (by rw [List.length_map]; exact d1), by rw [List.getElem?_map, ek]; rfl, ?_⟩
        have eD3 := k3 _ _ hDl eD
        refine ⟨got.map V.str, by rw [upd_ne hDT]; exact eD3, by rw [List.length_map]; omega, ?_⟩
        refine ⟨keep_at (keep_at (k2.trans k3) nT) nD', sto_at (sto_at s3 hTl) hDl, rem.eraseIdx d.toNat, got ++ [rem[d.toNat]], by rw [List.length_append, lg]; rfl, by rw [List.length_eraseIdx]; split <;> omega, ?_, by rw [upd_same, List.map_append]; rfl⟩
        rw [upd_ne hDT.symm, upd_same, erase_map]
      · obtain ⟨k2, s2, rem, got, lg, lrm, eT, eD⟩ := hP
        refine ⟨R, _, .ref D, rfl, rfl, k2 _ _ hRl eR, by rw [List.length_map]; omega, ?_⟩
        refine ⟨keep_at (kF.trans k2) nR, sto_at s2 hRl, ⟨rs ++ [(D, got)], by rw [upd_same, List.map_append]; rfl, by rw [List.length_append]; show _ + 1 ≤ _; omega, fun r hr => ?_⟩, _, _, rfl⟩
        rcases List.mem_append.mp hr with h | h
        · obtain ⟨h1, h2, h3, h4⟩ := hrs r h
          exact ⟨by rw [upd_ne h2]; exact k2 _ _ h3 h1, h2, h3, h4⟩
        · rw [List.mem_singleton.mp h]
          exact ⟨by rw [upd_ne hDR]; exact eD, hDR, hDl, by show got.length ≤ 6; rw [lg, List.length_map]; omega⟩
    obtain ⟨kF, sF, ⟨rs, eR, lr, hrs⟩, o9, o10, rfl⟩ := hP
    have k5 := k4.trans kF
    have eO5 := kF _ _ hOl eO4
    clear kF k4 eO4 eR1 kt st1 eA sG nR
    -- choices
    refine ⟨by show 0 ≤ sizeLine; omega, fun C nC => ?_⟩
    have hCl : C ≠ l := sF.ne nC
    refine gn_to (σ' := ([some (.ref l), some (.ref p), some (.int (n : Int)), some (.ref L), some (.ref O), some (.ref A), o6, o7, some (.ref R), o9, o10, none, some (.ref C), none, none, none, none] : L2.St)) rfl ?_
    try dsimp only
    have sFC := same_new (o := .lst []) nC
    have ej : (1 : Int) * 2 ^ ((n : Int)).toNat = ((2 ^ n : Nat) : Int) := by
      rw [Int.toNat_natCast, Int.one_mul]
      push_cast
      rfl
    have own6 : own.length ≤ 6 := tno.l6
    have p64 : 2 ^ n ≤ 2 ^ 6 := Nat.pow_le_pow_right (by decide) (by omega)
    have p1 : 1 ≤ 2 ^ n := Nat.one_le_two_pow
    obtain ⟨N, eN⟩ : ∃ N, 2 ^ n = N := ⟨_, rfl⟩
    rw [eN] at ej p64 p1
    refine ⟨.int (n : Int), rfl, 1, (n : Int), rfl, rfl, ⟨by omega, by omega, by decide⟩, 1, _, rfl, ⟨by decide, by decide, by rw [ej]; omega, by rw [ej]; omega⟩, ?_⟩
    rw [ej, show (((N : Nat) : Int) - 1).toNat = N - 1 by omega]
    refine for_range (lo := 1) (n := N - 1) (fun i σ G => Same F G ∧ (∃ (ws : List V) (cs : List Nat), G C = some (.lst ws) ∧ cs.length = i ∧ (∀ (m k : Nat), cs[m]? = some k → k &&& (m + 1) = k) ∧ Paired (GtAt G) ws (cs.map (subN own))) ∧ ∃ o11 o13 o14 o15, σ = [some (.ref l), some (.ref p), some (.int (n : Int)), some (.ref L), some (.ref O), some (.ref A), o6, o7, some (.ref R), o9, o10, o11, some (.ref C), o13, o14, o15, none])
      ⟨sFC, ⟨[], [], upd_same, rfl, (fun m k h => by simp at h), .nil⟩, none, none, none, none, rfl⟩ (fun i σ G hi hP => ?_) (fun σ G hP => ?_)
    · obtain ⟨sG, ⟨ws, cs, eC, lc, hc, hw⟩, o11, o13, o14, o15, rfl⟩ := hP
      refine gn_to (σ' := ([some (.ref l), some (.ref p), some (.int (n : Int)), some (.ref L), some (.ref O), some (.ref A), o6, o7, some (.ref R), o9, o10, o11, some (.ref C), some (.int (1 + (i : Int))), o14, o15, none] : L2.St)) rfl ?_
      try dsimp only
      have eOG := sG _ _ eO5
      refine ⟨.ref O, rfl, O, _, rfl, .inl (.inl eOG), fun W nW => ?_⟩
      have lz : (own.zipIdx).length = (own.map V.str).length := by rw [List.length_zipIdx, List.length_map]
      refine lc_genZ (as := own.zipIdx) (fun p => if (1 + i) / 2 ^ p.2 % 2 = 1 then some p.1 else none) (fun _ y n => y = .str n) (fun _ _ _ _ _ h => h) (lz ▸ walk_enum (K := K)) nW (fun G2 s2 => .inl (.inl (s2 _ _ eOG))) (by rw [List.length_zipIdx]; omega) (fun j x y pr T G2 hx hy hp s2 eT Pt Pf kt kf => ?_) (fun G2 us s2 eW hp _ => ?_)
      · obtain ⟨e1, e2⟩ := zipIdx_at hp
        cases hx
        rw [List.getElem?_map, e2] at hy
        cases hy
        refine ⟨T, _, rfl, .inl (.inl eT), rfl, _, _, rfl, _, _, rfl, rfl, ?_⟩
        refine ⟨rfl, .int (1 + (i : Int)), rfl, .int (j : Int), rfl, 1 + (i : Int), (j : Int), rfl, rfl, by omega, _, 1, rfl, rfl, rfl, _, rfl, ?_⟩
        have tst : decide (V.int (Builtin.bitAnd ((1 + (i : Int)) / 2 ^ ((j : Int)).toNat) 1) = V.int 1) = decide ((1 + i) / 2 ^ j % 2 = 1) := by
          have e : (1 + (i : Int)) / 2 ^ ((j : Int)).toNat = (((1 + i) / 2 ^ j : Nat) : Int) := by
            rw [Int.toNat_natCast]
            push_cast
            rfl
          rw [e, show (1 : Int) = ((1 : Nat) : Int) from rfl, band_nat, Nat.and_one_is_mod, dec_nat]
        by_cases z : (1 + i) / 2 ^ j % 2 = 1
        · exact ite_to (tst.trans (decide_eq_true z)) ⟨.str pr.1, rfl, kt _ (by rw [e1, if_pos z]) _ _ (Same.refl G2) rfl⟩
        · exact ite_not (tst.trans (decide_eq_false z)) (kf (by rw [e1, if_neg z]) _ (Same.refl G2))
      have e0 : (own.zipIdx).filterMap (fun p => if (1 + i) / 2 ^ p.2 % 2 = 1 then some p.1 else none) = subN own (1 + i) := by
        have := sub_zip own 0 (1 + i)
        rwa [Nat.pow_zero, Nat.div_one] at this
      rw [e0] at hp
      have eus := strs_of (H := G2) hp
      subst eus
      have lW : (subN own (1 + i)).length ≤ 6 := by
        have := (sub_sl own (1 + i)).length_le
        omega
      refine gn_to (σ' := ([some (.ref l), some (.ref p), some (.int (n : Int)), some (.ref L), some (.ref O), some (.ref A), o6, o7, some (.ref R), o9, o10, o11, some (.ref C), some (.int (1 + (i : Int))), some (.ref W), o15, none] : L2.St)) rfl ?_
      try dsimp only
      refine ⟨by show 0 ≤ sizeLine; omega, fun S nS => ?_⟩
      refine gn_to (σ' := ([some (.ref l), some (.ref p), some (.int (n : Int)), some (.ref L), some (.ref O), some (.ref A), o6, o7, some (.ref R), o9, o10, o11, some (.ref C), some (.int (1 + (i : Int))), some (.ref W), some (.ref S), none] : L2.St)) rfl ?_
      try dsimp only
      have sS := same_new (o := .lst []) nS
      have sFG2 : Same F G2 := sG.trans s2
      refine ⟨.ref R, rfl, R, rfl, ⟨_, .inl (.inl (sS _ _ (sFG2 _ _ eR)))⟩, ?_⟩
      refine for_it (walk_list (K := K) (a := R) (xs := rs.map fun r => V.ref r.1)) (fun j σ E => Same G2 E ∧ ∃ (S' : Addr) (fs : List Str) (o11 : Option V), E S' = some (.lst (fs.map V.str)) ∧ fs.length ≤ j ∧ σ = [some (.ref l), some (.ref p), some (.int (n : Int)), some (.ref L), some (.ref O), some (.ref A), o6, o7, some (.ref R), o9, o10, o11, some (.ref C), some (.int (1 + (i : Int))), some (.ref W), some (.ref S'), none])
        ⟨sS, S, [], o11, upd_same, Nat.zero_le _, rfl⟩ (fun j σ E _ hP => .inl (.inl (hP.1 _ _ (sFG2 _ _ eR)))) (fun j x σ E E' hj hP hy => ?_) (fun σ E hP => ?_)
      · obtain ⟨rfl, hx⟩ := hy
        obtain ⟨sE, S', fs, o11, eS, lf, rfl⟩ := hP
        rw [List.length_map] at hj
        rw [List.getElem?_map] at hx
        obtain ⟨r, hr, rfl⟩ := Option.map_eq_some_iff.mp hx
        obtain ⟨er, _, _, r6⟩ := hrs r (List.mem_of_getElem? hr)
        refine gn_to (σ' := ([some (.ref l), some (.ref p), some (.int (n : Int)), some (.ref L), some (.ref O), some (.ref A), o6, o7, some (.ref R), o9, o10, some (.ref r.1), some (.ref C), some (.int (1 + (i : Int))), some (.ref W), some (.ref S'), none] : L2.St)) rfl ?_
        try dsimp only
        have erE := sE _ _ (sFG2 _ _ er)
        refine ⟨.ref S', rfl, .ref r.1, rfl, r.1, rfl, ⟨_, .inl (.inl erE)⟩, fun M nM => ?_⟩
        refine lc_strsL (fun x => decide (x ∈ subN own (1 + i))) (fun G3 s3 => s3 _ _ erE) (by omega) nM (fun nm G3 hn s3 Pt Pf hk => ?_) (fun G3 s3 eM => ?_)
        · refine ⟨rfl, .str nm, rfl, .ref W, rfl, in_strs (f := id) ((sE.trans s3) _ _ eW) ⟨_, rfl, ?_⟩⟩
          cases zz : decide (nm ∈ subN own (1 + i)) with
          | true =>
            rw [zz, if_pos rfl] at hk
            exact iteT ⟨.str nm, rfl, hk⟩
          | false =>
            rw [zz, if_neg (by decide)] at hk
            exact iteF hk
        · refine ⟨1, rfl, M, _, rfl, .inl (.inl eM), fun p3 np3 => ?_⟩
          have s4 := same_new (o := .lst (cutV ((r.2.filter fun x => decide (x ∈ subN own (1 + i))).map V.str) none (some 1))) np3
          have lt1 : ((r.2.filter fun x => decide (x ∈ subN own (1 + i))).take 1).length ≤ 1 := by rw [List.length_take]; omega
          have ct : cutV ((r.2.filter fun x => decide (x ∈ subN own (1 + i))).map V.str) none (some 1) = ((r.2.filter fun x => decide (x ∈ subN own (1 + i))).take 1).map V.str := by
            rw [show (1 : Int) = ((1 : Nat) : Int) from rfl, cutV_to, List.map_take]
          refine ⟨S', p3, _, _, rfl, rfl, s4 _ _ (s3 _ _ eS), upd_same, by rw [ct, List.length_map, List.length_map]; omega, fun p4 np4 => ?_⟩
          refine gn_to (σ' := ([some (.ref l), some (.ref p), some (.int (n : Int)), some (.ref L), some (.ref O), some (.ref A), o6, o7, some (.ref R), o9, o10, some (.ref r.1), some (.ref C), some (.int (1 + (i : Int))), some (.ref W), some (.ref p4), none] : L2.St)) rfl ?_
          refine ⟨((sE.trans s3).trans s4).trans (same_new np4), p4, fs ++ (r.2.filter fun x => decide (x ∈ subN own (1 + i))).take 1, _, by rw [upd_same, ct, List.map_append], by rw [List.length_append]; omega, rfl⟩
      obtain ⟨sE, S', fs, o11', eS, lf, rfl⟩ := hP
      rw [List.length_map] at lf
      have eCE := sE _ _ (s2 _ _ eC)
      have eWE := sE _ _ eW
      refine ⟨.ref C, rfl, .inl ⟨rfl, _, .inl (.inl eCE)⟩, .ref W, rfl, W, rfl, ⟨_, .inl (.inl eWE)⟩, fun M nM => ?_⟩
      refine lc_strsL (fun x => decide (x ∈ fs)) (fun G3 s3 => s3 _ _ eWE) (by omega) nM (fun nm G3 hn s3 Pt Pf hk => ?_) (fun G3 s3 eM => ?_)
      · refine ⟨rfl, .str nm, rfl, .ref S', rfl, in_strs (f := id) (s3 _ _ eS) ⟨_, rfl, ?_⟩⟩
        cases zz : decide (nm ∈ fs) with
        | true =>
          rw [zz, if_pos rfl] at hk
          exact iteT ⟨.str nm, rfl, hk⟩
        | false =>
          rw [zz, if_neg (by decide)] at hk
          exact iteF hk
      refine ⟨M, _, rfl, .inl ⟨.inl (.inl eM), fun p5 np5 => ?_⟩⟩
      have lws : ws.length = i := by rw [Paired.length hw, List.length_map, lc]
      have s5 := same_new (o := .tup (((subN own (1 + i)).filter fun x => decide (x ∈ fs)).map V.str)) np5
      have eC5 := s5 _ _ (s3 _ _ eCE)
      refine ⟨C, _, .ref p5, rfl, rfl, eC5, by omega, ?_⟩
      have sAll : Same G (upd G3 p5 (.tup (((subN own (1 + i)).filter fun x => decide (x ∈ fs)).map V.str))) := ((s2.trans sE).trans s3).trans s5
      have hm : 1 + i < 2 ^ own.length := by rw [lown, eN]; omega
      have hCp : p5 ≠ C := fun z => by
        have := s3 _ _ eCE
        rw [← z, np5] at this
        cases this
      have tk : TK G (upd (upd G3 p5 (.tup (((subN own (1 + i)).filter fun x => decide (x ∈ fs)).map V.str))) C (.lst (ws ++ [.ref p5]))) := (TK.same sAll).trans (TK.at eC5 fun xs z => by cases z)
      refine ⟨same_at (sG.trans sAll) nC, ⟨ws ++ [.ref p5], cs ++ [numN own fun x => decide (x ∈ subN own (1 + i)) && decide (x ∈ fs)], upd_same, by rw [List.length_append, lc]; rfl, fun m k hk => ?_, ?_⟩, _, _, _, _, rfl⟩
      · rcases Nat.lt_or_ge m cs.length with z | z
        · rw [List.getElem?_append_left z] at hk
          exact hc m k hk
        · rw [List.getElem?_append_right z] at hk
          have z0 : m - cs.length = 0 := by
            by_cases z0 : m - cs.length = 0
            · exact z0
            · rw [List.getElem?_eq_none (by simp; omega)] at hk
              cases hk
          rw [z0] at hk
          cases hk
          rw [show m + 1 = 1 + i by omega]
          exact pick_and tno.nd fun x => decide (x ∈ fs)
      · rw [List.map_append]
        refine pair_snoc ?_ (pair_tk (Rel := GtAt) (fun _ _ _ _ k h => GtAt.tk k h) tk hw)
        refine gt_mk ?_
        rw [upd_ne hCp, upd_same, sub_filter tno.nd hm]
    obtain ⟨sG, ⟨ws, cs, eC, lc, hc, hw⟩, o11, o13, o14, o15, rfl⟩ := hP
    have eO6 := sG _ _ eO5
    refine ⟨.ref O, rfl, O, _, rfl, .inl ⟨.inl (.inl eO6), fun z nz => ?_⟩⟩
    have s1 := same_new (o := .tup (own.map V.str)) nz
    refine ⟨.ref C, rfl, C, _, rfl, .inl ⟨.inl (.inl (s1 _ _ eC)), fun y ny => ?_⟩⟩
    have s2 := same_new (o := .tup ws) ny
    refine ⟨by show 2 ≤ sizeLine; omega, fun a na => ?_⟩
    have s3 := same_new (o := .tup [.ref z, .ref y]) na
    have sG0 : Same F G := sG
    have stG := sF.same sG
    have hzl : z ≠ l := stG.ne nz
    have stG1 := stG.same s1
    have hyl : y ≠ l := stG1.ne ny
    have hal : a ≠ l := (stG1.same s2).ne na
    have sAll := (s1.trans s2).trans s3
    have tok : TOk own (0 :: cs) := by
      refine ⟨tno, by rw [lown, eN, List.length_cons, lc]; omega, rfl, fun m k hk => ?_⟩
      cases m with
      | zero =>
        cases hk
        rfl
      | succ m => exact hc m k (by simpa using hk)
    refine q _ (.ref a) own (0 :: cs) ((k5.trans (Keep.of sG)).trans (Keep.of sAll)) (stG.same sAll) ?_ tok gin
    refine TblF.hid (stG.same sAll) ⟨a, z, y, ws, rfl, upd_same, s3 _ _ (s2 _ _ upd_same), s3 _ _ upd_same, ?_⟩
    show Paired _ ws ((cs.map (subN own)))
    exact pair_tk (Rel := GtAt) (fun _ _ _ _ k h => GtAt.tk k h) (TK.same sAll) hw
end
end E1

set_option maxRecDepth 100000
set_option maxHeartbeats 4000000
namespace E1
open PySem PySem.Spec PyProof.Rows L2 KX
/-! ### _law_random_table -/
theorem tk_keep {l : Addr} {G F : Hp} (k : Keep l G F) (st : StO G l) : TK G F := fun b xs z => k _ _ (fun r => by
  obtain ⟨x, y, q, e⟩ := st
  rw [r, e] at z
  cases z) z
theorem pick_sub {ns xs : List Str} {m : Nat} (tn : TNs ns) (h : xs.Sublist (subN ns m)) : xs = subN ns (numN ns fun x => decide (x ∈ xs)) ∧ (numN ns fun x => decide (x ∈ xs)) &&& m = numN ns fun x => decide (x ∈ xs) := by
  have hx : ∀ x ∈ xs, x ∈ ns := fun x hx => sub_mem (h.subset hx)
  have ha : ascS xs = true := pw_asc ((asc_pw tn.asc).sublist (h.trans (sub_sl ns m)))
  have e : subN ns (numN ns fun x => decide (x ∈ xs)) = xs := by rw [sub_num, asc_filter tn hx ha]
  refine ⟨e.symm, ?_⟩
  rw [and_sub tn.nd (num_lt _ _), e]
  exact fun x hx => h.subset hx
abbrev sRt : Stmt := topS 51
abbrev NRt : List Str := ["stream", "names", "few", "choices", "mask", "choice", "name"]
theorem scRt : FnScope NRt ["stream", "names"] (defScope sRt) := ⟨rfl, rfl, rfl, by decide +kernel, rfl, by decide +kernel, by decide +kernel⟩
def spRt : Sp := fun vs H Q _ => ∃ (l p : Addr) (ns : List Str), vs = [.ref l, .ref p] ∧ StO H l ∧ p ≠ l ∧ NmF H p ns ∧ TNs ns ∧ ∀ H' v ks, Keep l H H' → StO H' l → TblF (hid l H') v ns ks → TOk ns ks → Q v H'
section
variable {P : Program} {w : World} {K : PySem.W.Frag} {mg : Str → Option Value} {base : Heap}
theorem ok_rt {k : Nat} {f fD fS : Addr} {fd gD gS : FuncData} (B : Bl mg) (D : Df K mg "_law_random_table" sRt ["stream", "names"] f fd) (DD : Df K mg "_law_draw" sDraw ["stream", "total"] fD gD) (DS : Df K mg "_law_subset" sSu ["names", "mask"] fS gS)
    (GD : FnOk P w K mg base CX0 k fD gD ["stream", "total"] spDraw) (GS : FnOk P w K mg base CX0 k fS gS ["names", "mask"] spMb) : FnOk P w K mg base CX0 (k + 1) f fd ["stream", "names"] spRt := by
  refine D.F.ok scRt (fun vs H Q E h => ?_) (fun cdv A outer s H vs Q E hr h => ?_)
  · obtain ⟨l, p, ns, rfl, _⟩ := h
    rfl
  · obtain ⟨l, p, ns, rfl, st, hpl, np, tn, q⟩ := h
    have nd := scRt.nd
    have big : (1000 : Nat) < sizeLine := by decide
    refine ⟨_, pss_cons (ps_set (i := 2) nd rfl (.inl rfl) (pe_op op_add pe_int (pe_call GD hr (by rfl) DD.g DD.F.kp DD.b .nil pass0 (pa_cons (pv 0) (pa_cons pe_int pa_nil)))))
      (pss_cons (ps_set (i := 3) nd rfl (.inl rfl) (pe_lst pa_nil))
      (pss_cons (ps_for PassesOwn.never rfl (pi_range2 (by rfl) B.range (pa_cons pe_int (pa_cons (pe_op op_shl pe_int (pe_callB call_len_seq (by rfl) B.len PySem.boot_len (pa_cons (pv 1) pa_nil))) pa_nil))) (pg_name (i := 4) nd rfl (.inl rfl))
        (pss_cons (ps_set (i := 5) nd rfl (.inl rfl) (pe_lst pa_nil))
        (pss_cons (ps_for PassesOwn.never rfl (pi_tup (pe_call GS hr (by rfl) DS.g DS.F.kp DS.b .nil pass0 (pa_cons (pv 1) (pa_cons (pv 4) pa_nil)))) (pg_name (i := 6) nd rfl (.inl rfl))
          (pss_one (ps_if (pt_cmpR op_eq (pe_call GD hr (by rfl) DD.g DD.F.kp DD.b .nil pass0 (pa_cons (pv 0) (pa_cons (pv 2) pa_nil))) pe_int (nomark _))
            (pss_one (ps_expr (pe_bm PySem.F.plainAttrs_list PySem.F.slot_list_append PySem.F.type_list_append mt_append (pv 5) (pa_cons (pv 6) pa_nil)))) pss_nil)))
        (pss_one (ps_expr (pe_bm PySem.F.plainAttrs_list PySem.F.slot_list_append PySem.F.type_list_append mt_append (pv 3) (pa_cons (pe_callTy call_tuple_of (by rfl) B.tuple (by decide +kernel) (pa_cons (pv 5) pa_nil)) pa_nil)))))))
      (pss_one (ps_ret (pe_tup (pa_cons (pv 1) (pa_cons (pe_callTy call_tuple_of (by rfl) B.tuple (by decide +kernel) (pa_cons (pv 3) pa_nil)) pa_nil))))))), ?_⟩
    have l1 := tn.l1
    have l6 := tn.l6
    have enp := np
    refine ⟨.ref l, rfl, l, 3, rfl, st, by decide, by decide, fun H1 t k1 st1 t0 t3 => ⟨1, t, rfl, rfl, ?_⟩⟩
    refine gn_to (σ' := ([some (.ref l), some (.ref p), some (.int (1 + t)), none, none, none, none] : L2.St)) rfl ?_
    try dsimp only
    refine ⟨by show 0 ≤ sizeLine; omega, fun C nC => ?_⟩
    have hCl : C ≠ l := st1.ne nC
    refine gn_to (σ' := ([some (.ref l), some (.ref p), some (.int (1 + t)), some (.ref C), none, none, none] : L2.St)) rfl ?_
    try dsimp only
    have enp1 := k1 _ _ hpl enp
    have s1C := same_new (o := .lst []) nC
    have ej : (1 : Int) * 2 ^ (((ns.map V.str).length : Nat) : Int).toNat = ((2 ^ ns.length : Nat) : Int) := by
      rw [List.length_map, Int.toNat_natCast, Int.one_mul]
      push_cast
      rfl
    have p64 : 2 ^ ns.length ≤ 2 ^ 6 := Nat.pow_le_pow_right (by decide) l6
    have p1 : 1 ≤ 2 ^ ns.length := Nat.one_le_two_pow
    obtain ⟨N, eN⟩ : ∃ N, 2 ^ ns.length = N := ⟨_, rfl⟩
    rw [eN] at ej p64 p1
    refine ⟨.ref p, rfl, p, _, rfl, .inr (.inl (.inl (s1C _ _ enp1))), 1, _, rfl, rfl, ⟨by omega, by rw [List.length_map]; omega, by decide⟩, 1, _, rfl, ⟨by decide, by decide, by rw [ej]; omega, by rw [ej]; omega⟩, ?_⟩
    rw [ej, show (((N : Nat) : Int) - 1).toNat = N - 1 by omega]
    refine for_range (lo := 1) (n := N - 1) (fun i σ G => Keep l H1 G ∧ StO G l ∧ (∃ (ws : List V) (cs : List Nat), G C = some (.lst ws) ∧ cs.length = i ∧ (∀ (m k : Nat), cs[m]? = some k → k &&& (m + 1) = k) ∧ Paired (GtAt G) ws (cs.map (subN ns))) ∧ ∃ o4 o5 o6, σ = [some (.ref l), some (.ref p), some (.int (1 + t)), some (.ref C), o4, o5, o6])
      ⟨(Keep.refl l H1).new nC, st1.new nC, ⟨[], [], upd_same, rfl, (fun m k h => by simp at h), .nil⟩, none, none, none, rfl⟩ (fun i σ G hi hP => ?_) (fun σ G hP => ?_)
    · obtain ⟨kG, sG, ⟨ws, cs, eC, lc, hc, hw⟩, o4, o5, o6, rfl⟩ := hP
      refine gn_to (σ' := ([some (.ref l), some (.ref p), some (.int (1 + t)), some (.ref C), some (.int (1 + (i : Int))), o5, o6] : L2.St)) rfl ?_
      try dsimp only
      refine ⟨by show 0 ≤ sizeLine; omega, fun S nS => ?_⟩
      have hSl : S ≠ l := sG.ne nS
      have hCS : C ≠ S := fun z => by rw [← z, eC] at nS; cases nS
      have eCS : (upd G S (.lst [])) C = some (.lst ws) := by rw [upd_ne hCS]; exact eC
      have enG : (upd G S (.lst [])) p = _ := same_new nS _ _ (kG _ _ hpl enp1)
      have kGS : Keep l G (upd G S (.lst [])) := (Keep.refl l G).new nS
      have sGS : StO (upd G S (.lst [])) l := sG.new nS
      have eSS : (upd G S (.lst [])) S = some (.lst []) := upd_same
      have hwS : Paired (GtAt (upd G S (.lst []))) ws (cs.map (subN ns)) := pair_tk (Rel := GtAt) (fun _ _ _ _ k h => GtAt.tk k h) (TK.same (same_new nS)) hw
      have kHS := kG.trans kGS
      generalize upd G S (.lst []) = G1 at eCS enG kGS sGS eSS hwS kHS ⊢
      refine gn_to (σ' := ([some (.ref l), some (.ref p), some (.int (1 + t)), some (.ref C), some (.int (1 + (i : Int))), some (.ref S), o6] : L2.St)) rfl ?_
      try dsimp only
      refine ⟨.ref p, rfl, .int (1 + (i : Int)), rfl, .ref p, ns, 1 + i, rfl, strs_dz (.inl enG), by omega, fun G2 y s2 _ ey => ?_⟩
      have lS : (subN ns (1 + i)).length ≤ 6 := by
        have := (sub_sl ns (1 + i)).length_le
        omega
      have sG2 := sGS.same s2
      refine ⟨y, rfl, ⟨_, .inl (.inl ey)⟩, ?_⟩
      have hyl : y ≠ l := fun z => by
        obtain ⟨_, _, _, e⟩ := sG2
        rw [z, e] at ey
        cases ey
      have eS2 := s2 _ _ eSS
      refine for_it (walk_tup (K := K) (a := y) (xs := (subN ns (1 + i)).map V.str)) (fun j σ E => (∀ b o, b ≠ l → b ≠ S → G2 b = some o → E b = some o) ∧ StO E l ∧ (∃ xs : List Str, E S = some (.lst (xs.map V.str)) ∧ xs.Sublist ((subN ns (1 + i)).take j)) ∧ ∃ o6, σ = [some (.ref l), some (.ref p), some (.int (1 + t)), some (.ref C), some (.int (1 + (i : Int))), some (.ref S), o6])
        ⟨fun _ _ _ _ e => e, sG2, ⟨[], eS2, List.nil_sublist _⟩, o6, rfl⟩ (fun j σ E _ hP => .inl (.inl (hP.1 _ _ hyl (fun z => by rw [z, eS2] at ey; cases ey) ey))) (fun j x σ E E' hj hP hy => ?_) (fun σ E hP => ?_)
      · obtain ⟨rfl, hx⟩ := hy
        obtain ⟨kE, sE, ⟨xs, eS, hs⟩, o6, rfl⟩ := hP
        rw [List.length_map] at hj
        rw [List.getElem?_map] at hx
        obtain ⟨nm, hn, rfl⟩ := Option.map_eq_some_iff.mp hx
        have tk1 : (subN ns (1 + i)).take (j + 1) = (subN ns (1 + i)).take j ++ [nm] := by rw [List.take_add_one, hn]; rfl
        have lxs : xs.length ≤ 6 := by
          have := hs.length_le
          rw [List.length_take] at this
          omega
        refine gn_to (σ' := ([some (.ref l), some (.ref p), some (.int (1 + t)), some (.ref C), some (.int (1 + (i : Int))), some (.ref S), some (.str nm)] : L2.St)) rfl ?_
        try dsimp only
        refine ⟨.ref l, rfl, .int (1 + t), rfl, l, 1 + t, rfl, sE, by omega, by omega, fun E2 d k2 st2 d0 d1 => ⟨rfl, _, rfl, ?_⟩⟩
        have eS3 := k2 _ _ hSl eS
        have kE2 : ∀ b o, b ≠ l → b ≠ S → G2 b = some o → E2 b = some o := fun b o h1 h2 e => k2 _ _ h1 (kE _ _ h1 h2 e)
        cases zz : decide (V.int d = V.int 0) with
        | true =>
          refine iteT ⟨.ref S, rfl, .inl ⟨rfl, _, .inl (.inl eS3)⟩, .str nm, rfl, S, _, .str nm, rfl, rfl, eS3, by rw [List.length_map]; omega, ?_⟩
          refine ⟨fun b o h1 h2 e => by rw [upd_ne h2]; exact kE2 _ _ h1 h2 e, sto_at st2 hSl, ⟨xs ++ [nm], by rw [upd_same, List.map_append]; rfl, ?_⟩, _, rfl⟩
          rw [tk1]
          exact hs.append_right [nm]
        | false =>
          refine iteF ⟨kE2, st2, ⟨xs, eS3, ?_⟩, _, rfl⟩
          rw [tk1]
          exact hs.trans (List.sublist_append_left _ _)
      obtain ⟨kE, sE, ⟨xs, eS, hs⟩, o6', rfl⟩ := hP
      rw [List.length_map, List.take_of_length_le (Nat.le_refl _)] at hs
      obtain ⟨ex, ek⟩ := pick_sub tn hs
      have eCE := kE _ _ hCl hCS (s2 _ _ eCS)
      refine ⟨.ref C, rfl, .inl ⟨rfl, _, .inl (.inl eCE)⟩, .ref S, rfl, S, _, rfl, .inl ⟨.inl (.inl eS), fun p5 np5 => ?_⟩⟩
      have lws : ws.length = i := by rw [Paired.length hw, List.length_map, lc]
      have s5 := same_new (o := .tup (xs.map V.str)) np5
      have eC5 := s5 _ _ eCE
      refine ⟨C, _, .ref p5, rfl, rfl, eC5, by omega, ?_⟩
      have hCp : p5 ≠ C := fun z => by rw [z, eCE] at np5; cases np5
      have nS1 : H1 S = none := none_of kG hSl nS
      have kHE : Keep l H1 E := fun b o h1 e => kE _ _ h1 (ne_of_none e nS1) (s2 _ _ (kHS _ _ h1 e))
      have tkE : TK G2 E := fun b ys z => kE _ _ (fun r => by
        obtain ⟨_, _, _, e⟩ := sG2
        rw [r, e] at z
        cases z) (fun r => by rw [r, eS2] at z; cases z) z
      have tk : TK G1 (upd (upd E p5 (.tup (xs.map V.str))) C (.lst (ws ++ [.ref p5]))) := ((TK.same s2).trans tkE).trans ((TK.same s5).trans (TK.at eC5 fun xs z => by cases z))
      refine ⟨keep_at (kHE.new np5) nC, sto_at (sE.new np5) hCl, ⟨ws ++ [.ref p5], cs ++ [numN ns fun x => decide (x ∈ xs)], upd_same, by rw [List.length_append, lc]; rfl, fun m k hk => ?_, ?_⟩, _, _, _, rfl⟩
      · rcases Nat.lt_or_ge m cs.length with z | z
        · rw [List.getElem?_append_left z] at hk
          exact hc m k hk
        · rw [List.getElem?_append_right z] at hk
          have z0 : m - cs.length = 0 := by
            by_cases z0 : m - cs.length = 0
            · exact z0
            · rw [List.getElem?_eq_none (by simp; omega)] at hk
              cases hk
          rw [z0] at hk
          cases hk
          rw [show m + 1 = 1 + i by omega]
          exact ek
      · rw [List.map_append]
        refine pair_snoc ?_ (pair_tk (Rel := GtAt) (fun _ _ _ _ k h => GtAt.tk k h) tk hwS)
        refine gt_mk ?_
        rw [upd_ne hCp, upd_same, ← ex]
    obtain ⟨kG, sG, ⟨ws, cs, eC, lc, hc, hw⟩, o4, o5, o6, rfl⟩ := hP
    refine ⟨.ref p, rfl, .ref C, rfl, C, _, rfl, .inl ⟨.inl (.inl eC), fun y ny => ?_⟩⟩
    have s2 := same_new (o := .tup ws) ny
    refine ⟨by show 2 ≤ sizeLine; omega, fun a na => ?_⟩
    have s3 := same_new (o := .tup [.ref p, .ref y]) na
    have sAll := s2.trans s3
    have tok : TOk ns (0 :: cs) := by
      refine ⟨tn, by rw [eN, List.length_cons, lc]; omega, rfl, fun m k hk => ?_⟩
      cases m with
      | zero =>
        cases hk
        rfl
      | succ m => exact hc m k (by simpa using hk)
    refine q _ (.ref a) (0 :: cs) ((k1.trans kG).trans (Keep.of sAll)) (sG.same sAll) ?_ tok
    refine TblF.hid (sG.same sAll) ⟨a, p, y, ws, rfl, upd_same, sAll _ _ (kG _ _ hpl enp1), s3 _ _ upd_same, ?_⟩
    show Paired _ ws ((cs.map (subN ns)))
    exact pair_tk (Rel := GtAt) (fun _ _ _ _ k h => GtAt.tk k h) (TK.same sAll) hw
end
end E1

set_option maxRecDepth 100000
set_option maxHeartbeats 4000000
namespace E1
open PySem PySem.Spec PyProof.Rows L2 KX
/-! ### _law_drawn_pair, _law_one_choice_changed -/
theorem catA_to {K : PySem.W.Frag} {H : Hp} {a b : Addr} {xs ys : List V} {Q : VK} (ea : H a = some (.tup xs)) (eb : H b = some (.tup ys)) (hl : xs.length + ys.length ≤ sizeLine) (q : ∀ F p, Same H F → F p = some (.tup (xs ++ ys)) → Q (.ref p) F) : rCatA K (.ref a) (.ref b) H Q :=
  ⟨a, b, xs, ys, rfl, rfl, .inl (.inl ea), .inl (.inl eb), hl, fun z => q H b (Same.refl H) (by rw [z]; exact eb), fun _ z => q H a (Same.refl H) (by rw [z, List.append_nil]; exact ea), fun _ _ p np => q _ p (same_new np) upd_same⟩
theorem slA_to {K : PySem.W.Frag} {H : Hp} {a : Addr} {xs : List V} {lo hi : Option Int} {Q : VK} (ea : H a = some (.tup xs)) (q : ∀ F p, Same H F → F p = some (.tup (cutV xs lo hi)) → Q (.ref p) F) : rSlA K (.ref a) lo hi H Q :=
  ⟨a, xs, rfl, .inl (.inl ea), fun z => q H a (Same.refl H) (by
    unfold cutV
    rw [z.1, z.2, Nat.sub_zero, List.drop_zero, List.take_length]
    exact ea), fun _ p np => q _ p (same_new np) upd_same⟩
theorem cutV_from (xs : List V) (n : Nat) : cutV xs (some (n : Int)) none = xs.drop n := by
  unfold cutV
  rw [HT.sIx_none, HT.sIx_nat]
  rcases Nat.le_total n xs.length with h | h
  · rw [Nat.min_eq_left h, List.take_of_length_le (by rw [List.length_drop]; omega)]
  · rw [Nat.min_eq_right h, Nat.sub_self, List.take_zero, List.drop_of_length_le h]
theorem pair_put {α β : Type} {R : α → β → Prop} {a : α} {b : β} (h : R a b) : ∀ {as : List α} {bs : List β} (n : Nat), Paired R as bs → Paired R (as.take n ++ a :: as.drop (n + 1)) (bs.take n ++ b :: bs.drop (n + 1))
  | [], [], n, .nil => by
    rw [List.take_nil, List.take_nil, List.drop_nil, List.drop_nil]
    exact .cons h .nil
  | _ :: _, _ :: _, 0, .cons _ t => .cons h t
  | _ :: _, _ :: _, n + 1, .cons k t => .cons k (pair_put h n t)
abbrev sOc : Stmt := topS 52
abbrev NOc : List Str := ["stream", "table", "names", "choices", "at", "subset", "name", "choice", "other"]
theorem scOc : FnScope NOc ["stream", "table"] (defScope sOc) := ⟨rfl, rfl, rfl, by decide +kernel, rfl, by decide +kernel, by decide +kernel⟩
def spOc : Sp := fun vs H Q _ => ∃ (l : Addr) (v : V) (ns : List Str) (ks : List Nat), vs = [.ref l, v] ∧ StO H l ∧ TblF (hid l H) v ns ks ∧ TOk ns ks ∧ ∀ H' v' ks', Keep l H H' → StO H' l → TblF (hid l H') v' ns ks' → TOk ns ks' → Q v' H'
section
variable {P : Program} {w : World} {K : PySem.W.Frag} {mg : Str → Option Value} {base : Heap}
theorem ok_oc {k : Nat} {f fD fS : Addr} {fd gD gS : FuncData} (B : Bl mg) (D : Df K mg "_law_one_choice_changed" sOc ["stream", "table"] f fd) (DD : Df K mg "_law_draw" sDraw ["stream", "total"] fD gD) (DS : Df K mg "_law_subset" sSu ["names", "mask"] fS gS)
    (GD : FnOk P w K mg base CX0 k fD gD ["stream", "total"] spDraw) (GS : FnOk P w K mg base CX0 k fS gS ["names", "mask"] spMb) : FnOk P w K mg base CX0 (k + 1) f fd ["stream", "table"] spOc := by
  refine D.F.ok scOc (fun vs H Q E h => ?_) (fun cdv A outer s H vs Q E hr h => ?_)
  · obtain ⟨l, v, ns, ks, rfl, _⟩ := h
    rfl
  · obtain ⟨l, v, ns, ks, rfl, st, hd, ok, q⟩ := h
    have nd := scOc.nd
    refine ⟨_, pss_cons (ps_asg (pv 1) (pg_tup (by rfl) (pgs_cons (pg_name (i := 2) nd rfl (.inl rfl)) (pgs_cons (pg_name (i := 3) nd rfl (.inr rfl)) pgs_nil))))
      (pss_cons (ps_set (i := 4) nd rfl (.inr rfl) (pe_call GD hr (by rfl) DD.g DD.F.kp DD.b .nil pass0 (pa_cons (pv 0) (pa_cons (pe_callB call_len_seq (by rfl) B.len PySem.boot_len (pa_cons (pv 3) pa_nil)) pa_nil))))
      (pss_cons (ps_set (i := 5) nd rfl (.inl rfl) (pe_call GS hr (by rfl) DS.g DS.F.kp DS.b .nil pass0 (pa_cons (pv 2) (pa_cons (pe_op op_add (pv 4) pe_int) pa_nil))))
      (pss_cons (ps_set (i := 6) nd rfl (.inr rfl) (pe_ix (r := rIxT K) ix_tup (pv 5) (pe_call GD hr (by rfl) DD.g DD.F.kp DD.b .nil pass0 (pa_cons (pv 0) (pa_cons (pe_callB call_len_seq (by rfl) B.len PySem.boot_len (pa_cons (pv 5) pa_nil)) pa_nil))) (fun _ _ => rfl)))
      (pss_cons (ps_set (i := 7) nd rfl (.inl rfl) (pe_callTy call_tuple_of (by rfl) B.tuple (by decide +kernel) (pa_cons (pe_lc (own := [("other", 8)]) (g := gName 8) rfl nd (pi_tup (pv 5)) (blkOk_by (N := NOc) (sc := defScope sOc) (by decide +kernel)) (fun _ _ _ _ _ => pg_name (i := 8) nd rfl (Or.inl rfl))
          (fun _ _ _ _ _ => pts_one (pt_cmpR op_ne (pe_cmpR (r := rInA K id) (op_inA hr.units) (pv 8) (pe_ix (r := rIxT K) ix_tup (pv 3) (pv 4) (fun _ _ => rfl)) (by rfl)) (pe_cmpR op_eq (pv 8) (pv 6) (nomark _)) (nomark _))) (fun _ _ _ _ _ => pv 8)) pa_nil)))
      (pss_one (ps_ret (pe_tup (pa_cons (pv 2) (pa_cons (pe_op (r := rCatA K) op_catA (pe_op (r := rCatA K) op_catA (pe_slice (r := rSlA K) sl_tupA (pv 3) po_none (po_some (pv 4))) (pe_tup (pa_cons (pv 7) pa_nil))) (pe_slice (r := rSlA K) sl_tupA (pv 3) (po_some (pe_op op_add (pv 4) pe_int)) po_none)) pa_nil))))))))), ?_⟩
    have l6 := ok.nms.l6
    have l1 := ok.nms.l1
    have big : (1000 : Nat) < sizeLine := by decide
    obtain ⟨a, z, y, ws, rfl, ea, ez, ey, hw⟩ := id hd
    obtain ⟨hal, ea⟩ := hid_some ea
    obtain ⟨hzl, ez⟩ := hid_some ez
    obtain ⟨hyl, ey⟩ := hid_some ey
    have hw : Paired (GtAt H) ws (chs ns ks) := pair_tk (Rel := GtAt) (fun _ _ _ _ k h => GtAt.tk k h) (TK.same hid_same) hw
    obtain ⟨cs, rfl⟩ : ∃ cs, ks = 0 :: cs := by
      have h0 := ok.zero
      cases ks with
      | nil => cases h0
      | cons x cs =>
        cases h0
        exact ⟨cs, rfl⟩
    have hw : Paired (GtAt H) ws (cs.map (subN ns)) := hw
    have lw : ws.length = cs.length := by rw [Paired.length hw, List.length_map]
    have lk := ok.len
    rw [List.length_cons] at lk
    have p64 : 2 ^ ns.length ≤ 2 ^ 6 := Nat.pow_le_pow_right (by decide) l6
    have p2 : 2 ^ 1 ≤ 2 ^ ns.length := Nat.pow_le_pow_right (by decide) l1
    refine ⟨.ref a, rfl, a, _, rfl, .inl (.inl ea), rfl, _, _, rfl, _, _, rfl, rfl, ?_⟩
    change tSeq _ _ _ ([some (.ref l), some (.ref a), some (.ref z), some (.ref y), none, none, none, none, none] : L2.St) H
    refine ⟨.ref l, rfl, .ref y, rfl, y, ws, rfl, .inr (.inl (.inl ey)), l, _, rfl, st, by omega, by omega, fun H1 d k1 st1 d0 d1 => ?_⟩
    obtain ⟨n, rfl⟩ : ∃ n : Nat, d = (n : Int) := ⟨d.toNat, by omega⟩
    have hn : n < cs.length := by omega
    refine gn_to (σ' := ([some (.ref l), some (.ref a), some (.ref z), some (.ref y), some (.int (n : Int)), none, none, none, none] : L2.St)) rfl ?_
    try dsimp only
    have ez1 := k1 _ _ hzl ez
    have ey1 := k1 _ _ hyl ey
    refine ⟨.ref z, rfl, .int (n : Int), rfl, (n : Int), 1, rfl, rfl, .ref z, ns, n + 1, rfl, strs_dz (.inl ez1), by omega, fun H2 p s2 _ ep => ?_⟩
    have st2 := st1.same s2
    refine gn_to (σ' := ([some (.ref l), some (.ref a), some (.ref z), some (.ref y), some (.int (n : Int)), some (.ref p), none, none, none] : L2.St)) rfl ?_
    try dsimp only
    have lS : (subN ns (n + 1)).length ≤ 6 := by
      have := (sub_sl ns (n + 1)).length_le
      omega
    have lS1 : 1 ≤ (subN ns (n + 1)).length := by
      rcases Nat.eq_zero_or_pos (subN ns (n + 1)).length with h | h
      · have h0 := sub_inj ok.nms.nd (a := n + 1) (b := 0) (by omega) (by omega) (by rw [sub_zero]; exact List.eq_nil_of_length_eq_zero h)
        omega
      · exact h
    have hpl : p ≠ l := fun e => by
      obtain ⟨_, _, _, e2⟩ := st2
      rw [e, e2] at ep
      cases ep
    refine ⟨.ref p, rfl, .ref l, rfl, .ref p, rfl, p, _, rfl, .inr (.inl (.inl ep)), l, _, rfl, st2, by rw [List.length_map]; omega, by rw [List.length_map]; omega, fun H3 e k3 st3 e0 e1 => ?_⟩
    rw [List.length_map] at e1
    obtain ⟨m, rfl⟩ : ∃ m : Nat, e = (m : Int) := ⟨e.toNat, by omega⟩
    have hm : m < (subN ns (n + 1)).length := by omega
    have ep3 := k3 _ _ hpl ep
    refine ⟨p, _, (m : Int), .str (subN ns (n + 1))[m], rfl, rfl, .inl (.inl ep3), atI_nat (by rw [List.getElem?_map, List.getElem?_eq_getElem hm]; rfl), ?_⟩
    generalize (subN ns (n + 1))[m] = nm
    refine gn_to (σ' := ([some (.ref l), some (.ref a), some (.ref z), some (.ref y), some (.int (n : Int)), some (.ref p), some (.str nm), none, none] : L2.St)) rfl ?_
    try dsimp only
    have k03 : Keep l H H3 := (k1.trans (Keep.of s2)).trans k3
    have ey3 := k03 _ _ hyl ey
    have hw3 : Paired (GtAt H3) ws (cs.map (subN ns)) := pair_tk (Rel := GtAt) (fun _ _ _ _ k h => GtAt.tk k h) (tk_keep k03 st) hw
    obtain ⟨u, eu, gu⟩ : ∃ u, ws[n]? = some u ∧ GtAt H3 u (subN ns cs[n]) := by
      have hu : n < ws.length := by omega
      obtain ⟨c, ec, hc⟩ := pair_at hw3 (List.getElem?_eq_getElem hu)
      rw [List.getElem?_map, List.getElem?_eq_getElem hn] at ec
      cases ec
      exact ⟨_, List.getElem?_eq_getElem hu, hc⟩
    refine ⟨.ref p, rfl, p, rfl, ⟨_, .inl (.inl ep3)⟩, fun L nL => ?_⟩
    refine lc_strs (fun x => !decide (V.bl (decide (x ∈ subN ns cs[n])) = V.bl (decide (V.str x = V.str nm)))) ep3 (by omega) nL (fun x G hx sG Pt Pf hk => ?_) (fun G sG eL => ?_)
    · refine ⟨rfl, .str x, rfl, .ref y, rfl, .int (n : Int), rfl, y, ws, (n : Int), u, rfl, rfl, .inl (.inl (sG _ _ ey3)), atI_nat eu, in_gt (f := id) (GtAt.tk (TK.same sG) gu) ?_⟩
      refine ⟨.str x, rfl, .str nm, rfl, rfl, rfl, _, rfl, ?_⟩
      try dsimp only at hk
      by_cases zz : (!decide (V.bl (decide (x ∈ subN ns cs[n])) = V.bl (decide (V.str x = V.str nm)))) = true
      · rw [if_pos zz] at hk
        exact ite_to zz ⟨.str x, rfl, hk⟩
      · rw [if_neg zz] at hk
        exact ite_not (Bool.eq_false_iff.mpr zz) hk
    obtain ⟨p', hp'⟩ : ∃ p' : Str → Bool, p' = fun x => !decide (V.bl (decide (x ∈ subN ns cs[n])) = V.bl (decide (V.str x = V.str nm))) := ⟨_, rfl⟩
    rw [← hp'] at eL
    refine ⟨L, _, rfl, .inl ⟨.inl (.inl eL), fun r nr => ?_⟩⟩
    have hlt : n + 1 < 2 ^ ns.length := by omega
    have cf := sub_filter ok.nms.nd hlt p'
    have ca := pick_and (m := n + 1) ok.nms.nd p'
    generalize (numN ns fun x => decide (x ∈ subN ns (n + 1)) && p' x) = kk at cf ca
    rw [cf]
    have s4 := same_new (o := .tup ((subN ns kk).map V.str)) nr
    have er : (upd G r (.tup ((subN ns kk).map V.str))) r = some (.tup ((subN ns kk).map V.str)) := upd_same
    have sG4 := sG.trans s4
    generalize upd G r (.tup ((subN ns kk).map V.str)) = G4 at s4 er sG4 ⊢
    refine gn_to (σ' := ([some (.ref l), some (.ref a), some (.ref z), some (.ref y), some (.int (n : Int)), some (.ref p), some (.str nm), some (.ref r), none] : L2.St)) rfl ?_
    try dsimp only
    refine ⟨.ref z, rfl, .ref y, rfl, .int (n : Int), rfl, (n : Int), rfl, slA_to (sG4 _ _ ey3) fun F1 q1 f1 e1 => ?_⟩
    rw [cutV_to] at e1
    have sF1 := sG4.trans f1
    refine ⟨.ref r, rfl, by show 1 ≤ sizeLine; decide, fun q2 nq2 => ?_⟩
    have f2 := same_new (o := .tup [V.ref r]) nq2
    refine catA_to (f2 _ _ e1) upd_same (by rw [List.length_take]; show _ + 1 ≤ _; omega) fun F3 q3 f3 e3 => ?_
    have sF3 := (sF1.trans f2).trans f3
    refine ⟨.ref y, rfl, .int (n : Int), rfl, (n : Int), 1, rfl, rfl, _, rfl, ?_⟩
    dsimp only [tNoPart]
    refine slA_to (sF3 _ _ ey3) fun F4 q4 f4 e4 => ?_
    rw [show ((n : Int) + 1) = ((n + 1 : Nat) : Int) by omega, cutV_from] at e4
    refine catA_to (f4 _ _ e3) e4 (by rw [List.length_append, List.length_take, List.length_drop]; show _ + 1 + _ ≤ _; omega) fun F5 q5 f5 e5 => ?_
    rw [List.append_assoc] at e5
    have sF5 := (sF3.trans f4).trans f5
    refine ⟨by show 2 ≤ sizeLine; decide, fun a' na' => ?_⟩
    have f6 := same_new (o := .tup [V.ref z, V.ref q5]) na'
    have sF6 := sF5.trans f6
    have st6 := st3.same sF6
    have er6 : (upd F5 a' (.tup [V.ref z, V.ref q5])) r = some (.tup ((subN ns kk).map V.str)) := f6 _ _ (f5 _ _ (f4 _ _ (f3 _ _ (f2 _ _ (f1 _ _ er)))))
    have es : cs.set n kk = cs.take n ++ kk :: cs.drop (n + 1) := by rw [List.set_eq_take_append_cons_drop, if_pos hn]
    have k06 : Keep l H (upd F5 a' (.tup [V.ref z, V.ref q5])) := k03.trans (Keep.of sF6)
    refine q _ (.ref a') (0 :: cs.set n kk) k06 st6 (TblF.hid st6 ⟨a', z, q5, _, rfl, upd_same, k06 _ _ hzl ez, f6 _ _ e5, ?_⟩) ⟨ok.nms, by rw [List.length_cons, List.length_set]; exact lk, rfl, fun m k hk => ?_⟩
    · show Paired _ _ ((cs.set n kk).map (subN ns))
      rw [es, List.map_append, List.map_cons, List.map_take, List.map_drop]
      exact pair_put (gt_mk er6) n (pair_tk (Rel := GtAt) (fun _ _ _ _ k h => GtAt.tk k h) (TK.same sF6) hw3)
    · cases m with
      | zero =>
        cases hk
        rfl
      | succ m =>
        rw [List.getElem?_cons_succ, List.getElem?_set] at hk
        by_cases hnm : n = m
        · rw [if_pos hnm, if_pos hn] at hk
          cases hk
          rw [← hnm]
          exact ca
        · rw [if_neg hnm] at hk
          exact ok.sub (m + 1) k (by rw [List.getElem?_cons_succ]; exact hk)
end
end E1

set_option maxRecDepth 100000
set_option maxHeartbeats 4000000
namespace E1
open PySem PySem.Spec PyProof.Rows L2 KX
/-! ### _law_drawn_table -/
abbrev sDt : Stmt := topS 53
abbrev NDt : List Str := ["stream", "names", "way", "table", "turn"]
theorem scDt : FnScope NDt ["stream"] (defScope sDt) := ⟨rfl, rfl, rfl, by decide +kernel, rfl, by decide +kernel, by decide +kernel⟩
def spDt : Sp := fun vs H Q _ => ∃ (l : Addr), vs = [.ref l] ∧ StO H l ∧ ∀ H' v ns ks, Keep l H H' → StO H' l → TblF (hid l H') v ns ks → TOk ns ks → Q v H'
section
variable {P : Program} {w : World} {K : PySem.W.Frag} {mg : Str → Option Value} {base : Heap}
theorem ok_dt {k : Nat} {f fD fN fR fT fO : Addr} {fd gD gN gR gT gO : FuncData} (B : Bl mg) (D : Df K mg "_law_drawn_table" sDt ["stream"] f fd) (DD : Df K mg "_law_draw" sDraw ["stream", "total"] fD gD) (DN : Df K mg "_law_distinct_names" sDn ["stream", "total"] fN gN)
    (DR : Df K mg "_law_random_table" sRt ["stream", "names"] fR gR) (DT : Df K mg "_law_table" sLt ["stream", "names"] fT gT) (DO : Df K mg "_law_one_choice_changed" sOc ["stream", "table"] fO gO)
    (GD : FnOk P w K mg base CX0 k fD gD ["stream", "total"] spDraw) (GN : FnOk P w K mg base CX0 k fN gN ["stream", "total"] spDn) (GR : FnOk P w K mg base CX0 k fR gR ["stream", "names"] spRt) (GT : FnOk P w K mg base CX0 k fT gT ["stream", "names"] spLt) (GO : FnOk P w K mg base CX0 k fO gO ["stream", "table"] spOc) : FnOk P w K mg base CX0 (k + 1) f fd ["stream"] spDt := by
  refine D.F.ok scDt (fun vs H Q E h => ?_) (fun cdv A outer s H vs Q E hr h => ?_)
  · obtain ⟨l, rfl, _⟩ := h
    rfl
  · obtain ⟨l, rfl, st, q⟩ := h
    have nd := scDt.nd
    refine ⟨_, pss_cons (ps_set (i := 1) nd rfl (.inl rfl) (pe_call GN hr (by rfl) DN.g DN.F.kp DN.b .nil pass0 (pa_cons (pv 0) (pa_cons (pe_op op_add pe_int (pe_call GD hr (by rfl) DD.g DD.F.kp DD.b .nil pass0 (pa_cons (pv 0) (pa_cons pe_int pa_nil)))) pa_nil))))
      (pss_cons (ps_set (i := 2) nd rfl (.inl rfl) (pe_call GD hr (by rfl) DD.g DD.F.kp DD.b .nil pass0 (pa_cons (pv 0) (pa_cons pe_int pa_nil))))
      (pss_cons (ps_if (pt_cmpR op_eq (pv 2) pe_int (nomark _)) (pss_one (ps_ret (pe_call GR hr (by rfl) DR.g DR.F.kp DR.b .nil pass0 (pa_cons (pv 0) (pa_cons (pv 1) pa_nil))))) pss_nil)
      (pss_cons (ps_set (i := 3) nd rfl (.inl rfl) (pe_call GT hr (by rfl) DT.g DT.F.kp DT.b .nil pass0 (pa_cons (pv 0) (pa_cons (pe_callTy call_lst2 (by rfl) B.list (by decide +kernel) (pa_cons (pv 1) pa_nil)) pa_nil))))
      (pss_cons (ps_for PassesOwn.never rfl (pi_range1 (by rfl) B.range (pa_cons (pe_callB (call_max2 rfl) (by rfl) B.max (by decide +kernel) (pa_cons pe_int (pa_cons (pe_op op_sub (pv 2) pe_int) pa_nil))) pa_nil)) (pg_name (i := 4) nd rfl (.inl rfl))
        (pss_one (ps_set (i := 3) nd rfl (.inl rfl) (pe_call GO hr (by rfl) DO.g DO.F.kp DO.b .nil pass0 (pa_cons (pv 0) (pa_cons (pv 3) pa_nil))))))
      (pss_one (ps_ret (pv 3))))))), ?_⟩
    refine ⟨.ref l, rfl, .ref l, rfl, l, 6, rfl, st, by decide, by decide, fun H1 t k1 st1 t0 t6 => ⟨1, t, rfl, rfl, ?_⟩⟩
    refine ⟨l, (1 + t).toNat, by rw [show (((1 + t).toNat : Nat) : Int) = 1 + t by omega]; rfl, st1, by omega, by omega, fun H2 p ns k2 st2 hpl np tn ln => ?_⟩
    refine gn_to (σ' := ([some (.ref l), some (.ref p), none, none, none] : L2.St)) rfl ?_
    try dsimp only
    refine ⟨.ref l, rfl, l, 5, rfl, st2, by decide, by decide, fun H3 d k3 st3 d0 d5 => ?_⟩
    refine gn_to (σ' := ([some (.ref l), some (.ref p), some (.int d), none, none] : L2.St)) rfl ?_
    try dsimp only
    have k03 : Keep l H H3 := (k1.trans k2).trans k3
    have enp := np
    have enp3 := k3 _ _ hpl enp
    refine ⟨.int d, rfl, rfl, _, rfl, ?_⟩
    by_cases hz : V.int d = V.int 4
    · refine ite_to (decide_eq_true hz) ⟨.ref l, rfl, .ref p, rfl, l, p, ns, rfl, st3, hpl, enp3, tn, fun H4 v ks k4 st4 hv ok => ?_⟩
      exact q H4 v ns ks (k03.trans k4) st4 hv ok
    refine ite_not (decide_eq_false hz) ?_
    refine ⟨.ref l, rfl, .ref p, rfl, p, _, rfl, .inr (.inl (.inl enp3)), fun L nL _ => ?_⟩
    have hLl : L ≠ l := st3.ne nL
    refine ⟨l, L, ns, rfl, st3.new nL, hLl, upd_same, tn, fun H4 v own ks k4 st4 hv ok _ => ?_⟩
    have k04 : Keep l H H4 := (k03.new nL).trans k4
    refine gn_to (σ' := ([some (.ref l), some (.ref p), some (.int d), some v, none] : L2.St)) rfl ?_
    try dsimp only
    have hm : ∃ m : Nat, (if d - 1 > 0 then d - 1 else 0) = (m : Int) ∧ m ≤ 3 := ⟨(if d - 1 > 0 then d - 1 else 0).toNat, by split <;> omega, by split <;> omega⟩
    obtain ⟨m, em, m3⟩ := hm
    refine ⟨.int d, rfl, d, 1, rfl, rfl, 0, d - 1, rfl, (if d - 1 > 0 then d - 1 else 0), rfl, by split <;> omega, by split <;> omega, ?_⟩
    rw [em, Int.toNat_natCast]
    refine for_range (lo := 0) (n := m) (fun i σ G => Keep l H G ∧ StO G l ∧ ∃ v ns ks o4, TblF (hid l G) v ns ks ∧ TOk ns ks ∧ σ = [some (.ref l), some (.ref p), some (.int d), some v, o4]) ⟨k04, st4, v, own, ks, none, hv, ok, rfl⟩ (fun i σ G hi hP => ?_) (fun σ G hP => ?_)
    · obtain ⟨kG, sG, v, ns, ks, o4, hv, ok, rfl⟩ := hP
      refine gn_to (σ' := ([some (.ref l), some (.ref p), some (.int d), some v, some (.int (0 + (i : Int)))] : L2.St)) rfl ?_
      try dsimp only
      refine ⟨.ref l, rfl, v, rfl, l, v, ns, ks, rfl, sG, hv, ok, fun H5 v' ks' k5 st5 hv' ok' => ?_⟩
      refine gn_to (σ' := ([some (.ref l), some (.ref p), some (.int d), some v', some (.int (0 + (i : Int)))] : L2.St)) rfl ?_
      exact ⟨kG.trans k5, st5, v', ns, ks', _, hv', ok', rfl⟩
    · obtain ⟨kG, sG, v, ns, ks, o4, hv, ok, rfl⟩ := hP
      exact ⟨v, rfl, q G v ns ks kG sG hv ok⟩
end
end E1

set_option maxRecDepth 100000
set_option maxHeartbeats 4000000
namespace E1
open PySem PySem.Spec PyProof.Rows L2 KX
theorem gi_drawS {l : Addr} {σ0 : L2.St} {L : List (V × PyData)} {M : List (Addr × List V × List PyData)} {n : Int} {tn : TE} (i : Nat) (h0 : σ0[i]? = some (some (.ref l))) (h : GI l (KX.Env l σ0 L M) (· = n) tn) (n0 : 0 < n) (n1 : n < 2 ^ 64) :
    GI l (KX.Env l σ0 L M) (fun k => 0 ≤ k ∧ k < n) (tCall spDraw [] E0 (tCons (tVar i) (tCons tn tNil))) := fun σ H Q st p q =>
  ⟨.ref l, by rw [p.1]; exact h0, h σ H _ st p fun H1 i e k st1 => ⟨l, i, rfl, st1, by omega, by omega, fun H2 m k2 st2 m0 m1 => q H2 m ⟨m0, by omega⟩ (k.trans k2) st2⟩⟩
theorem gds_seq {l : Addr} {P : KX.PSt} {Ss : List PyData → Prop} {ts : TA} {u : TS} {i : Nat} {D : Ends} {σ : L2.St} {H : Hp} (h : GDs l P Ss ts) (st : StO H l) (p : P σ H)
    (k : ∀ Hb xs ds, Ss ds → Keep l H Hb → StO Hb l → Dxs (hid l Hb) xs ds → xs.length ≤ sizeLine ∧ ∀ a, Hb a = none → u D (σ.set i (some (.ref a))) (upd Hb a (.lst xs))) : tSeq (tAsg (tLst ts) (gName i)) u D σ H := h σ H _ st p fun Hb xs ds s kb stb xb => k Hb xs ds s kb stb xb
theorem gds_par {l : Addr} {P : KX.PSt} {Ss : List PyData → Prop} {ts : TA} {u : TS} {i j : Nat} {D : Ends} {σ : L2.St} {H : Hp} (h : GDs l P Ss ts) (hz : ∀ ds, Ss ds → ds.length = 2) (st : StO H l) (p : P σ H)
    (k : ∀ Hb v1 v2 d1 d2, Ss [d1, d2] → Keep l H Hb → StO Hb l → Dx (hid l Hb) v1 d1 → Dx (hid l Hb) v2 d2 → u D ((σ.set i (some v1)).set j (some v2)) Hb) : tSeq (tPar i j ts) u D σ H := h σ H _ st p fun Hb xs ds s kb stb xb => by
  have z := hz ds s
  match ds, z with
  | [d1, d2], _ =>
  match xs, xb with
  | [v1, v2], .cons h1 (.cons h2 .nil) => exact ⟨v1, v2, rfl, k Hb v1 v2 d1 d2 s kb stb h1 h2⟩
abbrev sUn : Stmt := topS 47
/-- the values that are nothing in particular -/
def unL : List PyData := [.none, .bool true, .bool false, .int 0, .int 1, .int (-1), .str "", .str "a", .str "A", .str "a-b", .tuple [], .list [], .dict [], .tuple [.int 1], .tuple [.str "a"], .tuple [.str "a", .int 1, .tuple [.int 0], .int 1], .int (10 ^ (39 : Int).toNat)]
theorem unL_at {d : PyData} (k : Nat) (h : unL[k]? = some d) : d ∈ unL := List.mem_of_getElem? h
def spUn : Sp := fun vs H Q _ => ∃ (l : Addr), vs = [.ref l] ∧ StO H l ∧ ∀ H' v d, Keep l H H' → StO H' l → d ∈ unL → Dx (hid l H') v d → Q v H'
theorem scUn : FnScope ["stream", "some"] ["stream"] (defScope sUn) := ⟨rfl, rfl, rfl, by decide +kernel, rfl, by decide +kernel, by decide +kernel⟩
section
variable {P : Program} {w : World} {K : PySem.W.Frag} {mg : Str → Option Value} {base : Heap}
theorem ok_un {k : Nat} {f fD : Addr} {fd fdD : FuncData} (B : Bl mg) (D : Df K mg "_law_unrelated" sUn ["stream"] f fd) (DD : Df K mg "_law_draw" sDraw ["stream", "total"] fD fdD) (GDr : FnOk P w K mg base CX0 k fD fdD ["stream", "total"] spDraw) :
    FnOk P w K mg base CX0 (k + 1) f fd ["stream"] spUn := by
  refine D.F.ok scUn (fun vs H Q E h => ?_) (fun cdv A outer s H vs Q E hr h => ?_)
  · obtain ⟨l, rfl, _⟩ := h
    rfl
  · obtain ⟨l, rfl, st, q⟩ := h
    have nd := scUn.nd
    refine ⟨_, pss_cons (ps_set (i := 1) nd rfl (.inl rfl) (pe_lst (pa_cons pe_non (pa_cons pe_bl (pa_cons pe_bl (pa_cons pe_int (pa_cons pe_int (pa_cons (pe_un un_neg pe_int) (pa_cons pe_str (pa_cons pe_str (pa_cons pe_str (pa_cons pe_str (pa_cons (pe_tup pa_nil) (pa_cons (pe_lstS pa_nil) (pa_cons pe_dnewK
        (pa_cons (pe_tup (pa_cons pe_int pa_nil)) (pa_cons (pe_tup (pa_cons pe_str pa_nil)) (pa_cons (pe_tup (pa_cons pe_str (pa_cons pe_int (pa_cons (pe_tup (pa_cons pe_int pa_nil)) (pa_cons pe_int pa_nil))))) (pa_cons (pe_op op_pow pe_int pe_int) pa_nil)))))))))))))))))))
      (pss_one (ps_ret (pe_ix ix_list (pv 1) (pe_call GDr hr (by rfl) DD.g DD.F.kp DD.b .nil pass0 (pa_cons (pv 0) (pa_cons pe_int pa_nil))) (fun _ _ => rfl)))), ?_⟩
    have con : ∀ {w0 : V} {d : PyData} (k : Nat), (∀ H, Dx H w0 d) → unL[k]? = some d → ∀ {σ0 : L2.St} {L : List (V × PyData)} {M : List (Addr × List V × List PyData)}, GD l (KX.Env l σ0 L M) (· ∈ unL) (tC w0) := fun {w0 d} k h g σ0 L M => (gd_c h).imp fun _ e => by subst e; exact unL_at k g
    have ci : ∀ {n : Int} {t : TE} (k : Nat) {σ0 : L2.St} {L : List (V × PyData)} {M : List (Addr × List V × List PyData)}, GI l (KX.Env l σ0 L M) (· = n) t → unL[k]? = some (.int n) → GD l (KX.Env l σ0 L M) (· ∈ unL) t := fun {n t} k {σ0 L M} h g => (gd_int h).imp fun d e => by
      obtain ⟨i, rfl, rfl⟩ := e
      exact unL_at k g
    have one : ∀ {P : PSt} {t : TE} {x : PyData} (kp : Kp l P) (h : GD l P (· = x) t), GD l P (· = .tuple [x]) (tTup (tCons t tNil)) := fun {P t x} kp h =>
      (gd_tup (gds_cons kp h gds_nil) fun ds z => by obtain ⟨x, y, rfl, _, rfl⟩ := z; show 1 ≤ sizeLine; decide).imp fun d e => by
        obtain ⟨ds, rfl, x, y, rfl, rfl, rfl⟩ := e
        rfl
    change tSeq _ _ _ ([some (.ref l), none] : L2.St) H
    refine gm_seq (S := Al (· ∈ unL) 17) (P := KX.Env l _ [] []) ?_ st ⟨rfl, alld_nil, allm_nil⟩ fun H1 p1 xs1 ds1 g1 k1 st1 n1 e1 x1 => ?_
    · exact al_lst (al_cons kp_env (con 0 (d := .none) (fun H => .non) rfl) (al_cons kp_env (con 1 (d := .bool true) (fun H => .bl true) rfl) (al_cons kp_env (con 2 (d := .bool false) (fun H => .bl false) rfl) (al_cons kp_env (con 3 (d := .int 0) (fun H => .int 0) rfl)
        (al_cons kp_env (con 4 (d := .int 1) (fun H => .int 1) rfl) (al_cons kp_env (ci 5 (gi_val (n := -1) fun σ H Q q => ⟨_, rfl, q⟩) rfl) (al_cons kp_env (con 6 (d := .str "") (fun H => .str _) rfl) (al_cons kp_env (con 7 (d := .str "a") (fun H => .str _) rfl)
        (al_cons kp_env (con 8 (d := .str "A") (fun H => .str _) rfl) (al_cons kp_env (con 9 (d := .str "a-b") (fun H => .str _) rfl)
        (al_cons kp_env ((gd_tup gds_nil fun ds e => by subst e; exact Nat.zero_le _).imp fun d e => by
          obtain ⟨ds, rfl, rfl⟩ := e
          exact unL_at 10 rfl)
        (al_cons kp_env ((gd_lst gds_nil fun ds e => by subst e; exact Nat.zero_le _).imp fun d e => by
          obtain ⟨ds, rfl, rfl⟩ := e
          exact unL_at 11 rfl)
        (al_cons kp_env (gd_dict.imp fun d e => by subst e; exact unL_at 12 rfl)
        (al_cons kp_env ((one kp_env (gd_c (v := .int 1) (d := .int 1) fun H => .int 1)).imp fun d e => by subst e; exact unL_at 13 rfl)
        (al_cons kp_env ((one kp_env (gd_c (v := .str "a") (d := .str "a") fun H => .str _)).imp fun d e => by subst e; exact unL_at 14 rfl)
        (al_cons kp_env ((gd_tup (gds_cons kp_env (gd_c (v := .str "a") (d := .str "a") fun H => .str _) (gds_cons kp_env (gd_c (v := .int 1) (d := .int 1) fun H => .int _) (gds_cons kp_env (one kp_env (gd_c (v := .int 0) (d := .int 0) fun H => .int _)) (gds_cons kp_env (gd_c (v := .int 1) (d := .int 1) fun H => .int _) gds_nil))))
            fun ds z => by obtain ⟨x, y, rfl, _, x2, y2, rfl, _, x3, y3, rfl, _, x4, y4, rfl, _, rfl⟩ := z; show 4 ≤ sizeLine; decide).imp fun d e => by
          obtain ⟨ds, rfl, x, y, rfl, rfl, x2, y2, rfl, rfl, x3, y3, rfl, rfl, x4, y4, rfl, rfl, rfl⟩ := e
          exact unL_at 15 rfl)
        (al_cons kp_env (ci 16 (gi_val (n := 10 ^ (39 : Int).toNat) fun σ H Q q => ⟨10, 39, rfl, rfl, ⟨by decide, by decide, by decide⟩, q⟩) rfl) al_nil))))))))))))))))) (by decide)
    refine (al_ix (n := 17) (m := 17) kp_env ((gm_env (σ0 := ([some (.ref l), some (.ref p1)] : L2.St)) (xs := xs1) (ds := ds1) rfl (by simp)).imp fun _ e => by subst e; exact g1) (gi_drawS (n := 17) 0 rfl (gi_val fun σ H Q q => q) (by decide) (by decide)) rfl) _ _ _ st1 (show KX.Env l _ [] [(p1, xs1, ds1)] _ H1 from ⟨rfl, alld_nil, allm_one n1 e1 x1⟩) fun H2 v d hd k2 st2 xv => ?_
    exact q H2 v d (k1.trans k2) st2 hd xv
end
end E1

set_option maxRecDepth 100000
set_option maxHeartbeats 4000000
namespace E1
open PySem PySem.Spec PyProof.Rows L2 KX
theorem call_lenK {X : Cx} {K : PySem.W.Frag} (h : X.K = K) : CallR X (.builtin "len") (fun xs H Q => ∃ p ys, xs = [V.ref p] ∧ (SqL K H p ys ∨ SqT K H p ys) ∧ Q (.int (ys.length : Int)) H) := by
  subst h
  exact call_len_seq
theorem pick {α : Type} {f : α → V} {ns : List α} {d : Int} (h0 : 0 ≤ d) (h1 : d < (ns.length : Int)) : ∃ t, t ∈ ns ∧ atI (ns.map f) d = some (f t) := by
  have hl : d.toNat < ns.length := by omega
  refine ⟨ns[d.toNat], List.getElem_mem hl, ?_⟩
  have := atI_nat (xs := ns.map f) (j := d.toNat) (v := f ns[d.toNat]) (by rw [List.getElem?_map, List.getElem?_eq_getElem hl]; rfl)
  rw [show ((d.toNat : Nat) : Int) = d by omega] at this
  exact this
theorem dec_int (x y : Int) : decide (V.int x = V.int y) = decide (x = y) := by
  by_cases h : x = y
  · rw [decide_eq_true h, decide_eq_true (by rw [h])]
  · rw [decide_eq_false h, decide_eq_false (fun z => h (V.int.inj z))]
theorem dec_str (x y : Str) : decide (V.str x = V.str y) = decide (x = y) := by
  by_cases h : x = y
  · rw [decide_eq_true h, decide_eq_true (by rw [h])]
  · rw [decide_eq_false h, decide_eq_false (fun z => h (V.str.inj z))]
theorem gd_rev {l : Addr} {P : KX.PSt} {K : PySem.W.Frag} {ds : List PyData} {te : TE} (h : GD l P (· = .tuple ds) te) : GD l P (· = .tuple ds.reverse) (tRevT K te) := fun σ H Q st p q =>
  h σ H _ st p fun H1 v d e k st1 x => by
    subst e
    obtain ⟨a, xs, rfl, na, ea, hx⟩ := dx_tupOf x
    exact ⟨a, xs, rfl, .inl (.inl ea), fun p1 np1 => q _ _ _ rfl (k.new np1) (st1.new np1) (dx_tup np1 st1 hx.rev)⟩
theorem fine_up {d : PyData} (h : fine (10 ^ 9) d = true) : fine (10 ^ 40) d = true := fine_le (by decide +kernel) d h
theorem fineAll_sub {B : Nat} {xs ys : List PyData} (h : fineAll B ys = true) (s : ∀ x ∈ xs, x ∈ ys) : fineAll B xs = true := fineAll_mem.mpr fun x hx => fineAll_mem.mp h x (s x hx)
theorem cut_sub {ds : List PyData} {lo hi : Option Int} : ∀ x ∈ KX.cutD ds lo hi, x ∈ ds := fun x hx => List.mem_of_mem_drop (List.mem_of_mem_take hx)
theorem cut_wt {ds : List PyData} {lo hi : Option Int} : wtAll (KX.cutD ds lo hi) ≤ wtAll ds := by
  unfold KX.cutD
  have h1 := wtAll_take (HT.sIx ds.length ds.length hi - HT.sIx ds.length 0 lo) (ds.drop (HT.sIx ds.length 0 lo))
  have h2 := wtAll_take (HT.sIx ds.length 0 lo) ds
  omega
/-! ### _law_damaged -/
abbrev sDm : Stmt := topS 48
mutual
def wid : PyData → Nat
  | .tuple ds => max ds.length (widAll ds)
  | .list ds => max ds.length (widAll ds)
  | _ => 0
def widAll : List PyData → Nat
  | [] => 0
  | d :: ds => max (wid d) (widAll ds)
end
theorem wid_mem {d : PyData} : ∀ {ds : List PyData}, d ∈ ds → wid d ≤ widAll ds
  | x :: xs, h => by
    simp only [widAll]
    rcases List.mem_cons.mp h with rfl | h
    · omega
    · have := wid_mem h
      omega
theorem widAll_le {n : Nat} : ∀ {ds : List PyData}, (∀ d ∈ ds, wid d ≤ n) → widAll ds ≤ n
  | [], _ => Nat.zero_le _
  | x :: xs, h => by
    simp only [widAll]
    have h1 := h x (by simp)
    have h2 := widAll_le fun d hd => h d (List.mem_cons_of_mem x hd)
    omega
def FU (d d' : PyData) : Prop := ∀ fb, 10 ^ 39 ≤ fb → fine fb d = true → fine (fb + 2) d' = true
structure DmI (d : PyData) : Prop where
  f : fine (10 ^ 40) d = true
  w : wt d ≤ 30000
  n : wid d ≤ 450
structure DmG (d d' : PyData) : Prop where
  f : FU d d'
  w : wt d' ≤ 2 * wt d + 20
  p : d'.depth ≤ d.depth + 4
  n : wid d' ≤ wid d + 4
theorem un_bool : (unL.all fun d => fine (10 ^ 39) d && decide (wt d ≤ 10) && decide (d.depth ≤ 2) && decide (wid d ≤ 4)) = true := by decide +kernel
theorem un_facts {d : PyData} (h : d ∈ unL) : fine (10 ^ 39) d = true ∧ wt d ≤ 10 ∧ d.depth ≤ 2 ∧ wid d ≤ 4 := by
  have := List.all_eq_true.mp un_bool d h
  simp only [Bool.and_eq_true, decide_eq_true_eq] at this
  exact ⟨this.1.1.1, this.1.1.2, this.1.2, this.2⟩
theorem un_dm {d u : PyData} (h : u ∈ unL) : DmG d u := by
  obtain ⟨a, b, c, e⟩ := un_facts h
  exact ⟨fun fb hf _ => fine_le (by omega) u a, by omega, by omega, by omega⟩
theorem DmI.item {ds : List PyData} (h : DmI (.tuple ds)) {d : PyData} (m : d ∈ ds) : DmI d := by
  have f := h.f
  have w := h.w
  have n := h.n
  simp only [fine] at f
  simp only [wt] at w
  simp only [wid] at n
  have := wt_mem m
  have := wid_mem m
  exact ⟨fineAll_mem.mp f d m, by omega, by omega⟩
theorem depth_mem {ds : List PyData} {d : PyData} (m : d ∈ ds) : d.depth ≤ PyData.depthAll ds := by
  induction ds with
  | nil => cases m
  | cons x xs ih =>
    simp only [PyData.depthAll]
    rcases List.mem_cons.mp m with rfl | m
    · omega
    · have := ih m
      omega
def upC (c : Nat) : Nat := if 97 ≤ c ∧ c ≤ 122 then c - 32 else c
theorem upper_list : ∀ l : List Nat, (∀ c ∈ l, c < 128) → Txt.upper ⟨l.toArray⟩ = ⟨(l.map upC).toArray⟩
  | [], _ => by decide +kernel
  | c :: l, h => by
    have e1 : (⟨(c :: l).toArray⟩ : Str) = ⟨#[c]⟩ ++ ⟨l.toArray⟩ := PySem.Str.ext' (by rw [PySem.Str.cps_append]; simp)
    rw [e1, PySem.W.KOpn.upper_app, PySem.W.KOpn.upper_one (h c (by simp)), upper_list l fun x hx => h x (by simp [hx])]
    exact PySem.Str.ext' (by rw [PySem.Str.cps_append]; simp [upC])
theorem fine_str {B : Nat} {x : Str} : fine B (.str x) = true ↔ ∀ c ∈ x.cps.toList, c < 128 := by
  show (x.cps.toList.all fun c => decide (c < 128)) = true ↔ _
  rw [List.all_eq_true]
  exact ⟨fun h c hc => of_decide_eq_true (h c hc), fun h c hc => decide_eq_true (h c hc)⟩
theorem upper_fine {B : Nat} {x : Str} (h : fine B (.str x) = true) : fine B (.str (Txt.upper x)) = true ∧ (Txt.upper x).length = x.length := by
  have h := fine_str.mp h
  have e : x = ⟨x.cps.toList.toArray⟩ := PySem.Str.ext' (by simp)
  have u := upper_list _ h
  rw [← e] at u
  rw [u]
  refine ⟨fine_str.mpr fun c hc => ?_, ?_⟩
  · have hc : c ∈ x.cps.toList.map upC := by simpa using hc
    obtain ⟨y, hy, rfl⟩ := List.mem_map.mp hc
    have := h y hy
    unfold upC
    split <;> omega
  · show ((x.cps.toList.map upC).toArray).size = x.cps.size
    simp
theorem str_app_fine {B : Nat} {x y : Str} (hx : fine B (.str x) = true) (hy : fine B (.str y) = true) : fine B (.str (x ++ y)) = true := fine_str.mpr fun c hc => by
  rw [PySem.Str.cps_append, Array.toList_append] at hc
  rcases List.mem_append.mp hc with h | h
  · exact fine_str.mp hx c h
  · exact fine_str.mp hy c h
theorem str_cut_fine {B : Nat} {x : Str} {lo hi : Option Int} (hx : fine B (.str x) = true) : fine B (.str (cutS x lo hi)) = true := fine_str.mpr fun c hc => by
  have hc : c ∈ (x.cps.toList.drop (HT.sIx x.length 0 lo)).take (HT.sIx x.length x.length hi - HT.sIx x.length 0 lo) := by simpa [cutS] using hc
  exact fine_str.mp hx c (List.mem_of_mem_drop (List.mem_of_mem_take hc))
theorem str_dm {x y : Str} (f : fine (10 ^ 40) (.str y) = true) (w : y.length + 1 ≤ 2 * wt (.str x) + 20) : DmG (.str x) (.str y) :=
  ⟨fun _ _ _ => fine_str.mpr (fine_str.mp f), by simpa only [wt] using w, by simp [PyData.depth], by simp [wid]⟩
theorem int_dm {i y : Int} (h : y.natAbs ≤ i.natAbs + 1 ∨ y.natAbs ≤ 10 ^ 10) : DmG (.int i) (.int y) := ⟨fun fb hf hi => by
    simp only [fine] at hi ⊢
    have hi := of_decide_eq_true hi
    refine decide_eq_true ?_
    rcases h with h | h
    · omega
    · have : 10 ^ 10 ≤ 10 ^ 39 := by decide +kernel
      omega, by simp only [wt]; omega, by simp [PyData.depth], by simp [wid]⟩
theorem fu_item {ds : List PyData} {e e' : PyData} (m : e ∈ ds) (h : FU e e') : FU (.tuple ds) e' := fun fb hf k => by
  simp only [fine] at k
  exact h fb hf (fineAll_mem.mp k e m)
theorem fu_self (e : PyData) : FU e e := fun fb _ k => fine_le (show fb ≤ fb + 2 by omega) e k
theorem tup_dm {ds es : List PyData} (h : ∀ e ∈ es, FU (.tuple ds) e ∧ e.depth ≤ PyData.depthAll ds + 4 ∧ wid e ≤ widAll ds + 4) (w : wtAll es ≤ 2 * wtAll ds + 21) (n : es.length ≤ ds.length + 1) : DmG (.tuple ds) (.tuple es) := by
  refine ⟨fun fb hf k => ?_, by simp only [wt]; omega, ?_, ?_⟩
  · simp only [fine]
    exact fineAll_mem.mpr fun e he => (h e he).1 fb hf k
  · have := depthAll_le fun e he => (h e he).2.1
    simp only [PyData.depth]
    omega
  · have := widAll_le fun e he => (h e he).2.2
    simp only [wid]
    omega
theorem lst_dm {ds : List PyData} : DmG (.tuple ds) (.list ds) :=
  ⟨fun fb _ k => fine_le (show fb ≤ fb + 2 by omega) (.list ds) (by simpa only [fine] using k), by simp only [wt]; omega, by simp only [PyData.depth]; omega, by simp only [wid]; omega⟩
theorem gi_add1 {l : Addr} {P : KX.PSt} {k : Int} {ta : TE} (h : GI l P (· = k) ta) : GI l P (· = k + 1) (tOp (rI0 fun i j => V.int (i + j)) ta (tC (.int 1))) := fun σ H Q st p q => h σ H _ st p fun H' i s kk st' => ⟨i, 1, rfl, rfl, by subst s; exact q H' _ rfl kk st'⟩
def spDm (n : Nat) : Sp := fun vs H Q _ => ∃ (l : Addr) (v : V) (d : PyData), vs = [.ref l, v, .int (n : Int)] ∧ StO H l ∧ Dx (hid l H) v d ∧ DmI d ∧ ∀ H' v' d', Keep l H H' → StO H' l → Dx (hid l H') v' d' → DmG d d' → Q v' H'
abbrev ND : List Str := ["stream", "value", "deep", "way", "at", "some", "other"]
theorem scDm : FnScope ND ["stream", "value", "deep"] (defScope sDm) := ⟨rfl, rfl, rfl, by decide +kernel, rfl, by decide +kernel, by decide +kernel⟩
section
variable {P : Program} {w : World} {K : PySem.W.Frag} {mg : Str → Option Value} {base : Heap}
theorem ok_dm1 {k n : Nat} {sp' : Sp} {f fD fA : Addr} {fd fdD fdA : FuncData} (B : Bl mg) (D : Df K mg "_law_damaged" sDm ["stream", "value", "deep"] f fd) (DD : Df K mg "_law_draw" sDraw ["stream", "total"] fD fdD) (DA : Df K mg "_law_unrelated" sUn ["stream"] fA fdA)
    (GDr : FnOk P w K mg base CX0 k fD fdD ["stream", "total"] spDraw) (GA : FnOk P w K mg base CX0 k fA fdA ["stream"] spUn)
    (GS : FnOk P w K mg base CX0 k f fd ["stream", "value", "deep"] sp') (hs : ∀ j, n = j + 1 → ∀ vs H Q E, spDm j vs H Q E → sp' vs H Q E) : FnOk P w K mg base CX0 (k + 1) f fd ["stream", "value", "deep"] (spDm n) := by
  refine D.F.ok scDm (fun vs H Q E h => ?_) (fun cdv A outer s H vs Q E hr h => ?_)
  · obtain ⟨l, v, d, rfl, _⟩ := h
    rfl
  · obtain ⟨l, v, d, rfl, st, hd, hg, q⟩ := h
    have nd := scDm.nd
    refine ⟨_, pss_cons (ps_set (i := 3) nd rfl (.inl rfl) (pe_call GDr hr (by rfl) DD.g DD.F.kp DD.b .nil pass0 (pa_cons (pv 0) (pa_cons pe_int pa_nil))))
      (pss_cons (ps_if (PW.pt (pw_and (pt_val (pe_isD (T := "tuple") (x := "tuple") (by decide +kernel) B.isi B.tuple (by decide +kernel) (pv 1) (by rfl) (by rfl)))
          (pw_and (pt_cmpR (op_ne0 hr.units0) (pv 1) (pe_tup pa_nil) (nomark _)) (pw_and (pt_cmpR op_gt (pv 2) pe_int (nomark _)) (pw_and1 (pt_cmpR op_lt (pv 3) pe_int (nomark _)))))))
        (pss_cons (ps_set (i := 4) nd rfl (.inl rfl) (pe_call GDr hr (by rfl) DD.g DD.F.kp DD.b .nil pass0 (pa_cons (pv 0) (pa_cons (pe_callB (call_lenK (K := K) rfl) (by rfl) B.len PySem.boot_len (pa_cons (pv 1) pa_nil)) pa_nil))))
        (pss_one (ps_ret (pe_op op_catA (pe_op op_catA (pe_slice sl_tupA (pv 1) po_none (po_some (pv 4)))
            (pe_tup (pa_cons (pe_call GS hr (by rfl) D.g D.F.kp D.b .nil pass0 (pa_cons (pv 0) (pa_cons (pe_ix ix_tup (pv 1) (pv 4) (fun _ _ => rfl)) (pa_cons (pe_op op_sub (pv 2) pe_int) pa_nil)))) pa_nil)))
            (pe_slice sl_tupA (pv 1) (po_some (pe_op op_add (pv 4) pe_int)) po_none))))) pss_nil)
      (pss_cons (ps_if (pt_val (pe_isD (T := "tuple") (x := "tuple") (by decide +kernel) B.isi B.tuple (by decide +kernel) (pv 1) (by rfl) (by rfl)))
        (pss_cons (ps_set (i := 4) nd rfl (.inl rfl) (pe_call GDr hr (by rfl) DD.g DD.F.kp DD.b .nil pass0 (pa_cons (pv 0) (pa_cons (pe_op op_add (pe_callB (call_lenK (K := K) rfl) (by rfl) B.len PySem.boot_len (pa_cons (pv 1) pa_nil)) pe_int) pa_nil))))
        (pss_cons (ps_set (i := 5) nd rfl (.inl rfl) (pe_lst (pa_cons (pe_callTy call_lst2 (by rfl) B.list (by decide +kernel) (pa_cons (pv 1) pa_nil))
            (pa_cons (pe_op op_catA (pe_slice sl_tupA (pv 1) po_none (po_some (pv 4))) (pe_slice sl_tupA (pv 1) (po_some (pe_op op_add (pv 4) pe_int)) po_none))
            (pa_cons (pe_op op_catA (pe_op op_catA (pe_slice sl_tupA (pv 1) po_none (po_some (pv 4))) (pe_slice sl_tupA (pv 1) (po_some (pv 4)) (po_some (pe_op op_add (pv 4) pe_int)))) (pe_slice sl_tupA (pv 1) (po_some (pv 4)) po_none))
            (pa_cons (pe_revT (pv 1)) pa_nil))))))
        (pss_cons (ps_set (i := 6) nd rfl (.inl rfl) (pe_call GA hr (by rfl) DA.g DA.F.kp DA.b .nil pass0 (pa_cons (pv 0) pa_nil)))
        (pss_one (ps_ret (pe_ix ix_list (pe_op op_cat (pv 5) (pe_lst (pa_cons (pe_op op_catA (pv 1) (pe_tup (pa_cons (pv 6) pa_nil)))
            (pa_cons (pe_op op_catA (pe_op op_catA (pe_slice sl_tupA (pv 1) po_none (po_some (pv 4))) (pe_tup (pa_cons (pv 6) pa_nil))) (pe_slice sl_tupA (pv 1) (po_some (pe_op op_add (pv 4) pe_int)) po_none)) pa_nil))))
            (pe_call GDr hr (by rfl) DD.g DD.F.kp DD.b .nil pass0 (pa_cons (pv 0) (pa_cons pe_int pa_nil))) (fun _ _ => rfl))))))) pss_nil)
      (pss_cons (ps_if (PW.pt (pw_and (pt_val (pe_isD (T := "str") (x := "str") (by decide +kernel) B.isi B.str (by decide +kernel) (pv 1) (by rfl) (by rfl))) (pw_and1 (pt_cmpR op_lt (pv 3) pe_int (nomark _)))))
        (pss_one (ps_ret (pe_ix ix_list (pe_lst (pa_cons (pe_op op_add_str (pv 1) pe_str) (pa_cons (pe_slice sl_str (pv 1) (po_some pe_int) po_none) (pa_cons (pe_upper (pv 1)) (pa_cons (pe_op op_add_str (pv 1) pe_str) (pa_cons pe_str (pa_cons pe_str pa_nil))))))) (pv 3) (fun _ _ => rfl)))) pss_nil)
      (pss_cons (ps_if (PW.pt (pw_and (pt_val (pe_isD (T := "int") (x := "int") (by decide +kernel) B.isi B.int (by decide +kernel) (pv 1) (by rfl) (by rfl)))
          (pw_and (pt_not (pt_val (pe_isD (T := "bool") (x := "bool") (by decide +kernel) B.isi B.bool (by decide +kernel) (pv 1) (by rfl) (by rfl)))) (pw_and1 (pt_cmpR op_lt (pv 3) pe_int (nomark _))))))
        (pss_one (ps_ret (pe_ix ix_list (pe_lst (pa_cons (pe_op op_add (pv 1) pe_int) (pa_cons (pe_op op_sub (pv 1) pe_int) (pa_cons (pe_op op_add (pe_op op_pow pe_int pe_int) pe_int) (pa_cons (pe_op op_add (pe_op op_pow pe_int pe_int) pe_int)
            (pa_cons (pe_op op_sub (pe_un un_neg (pe_op op_pow pe_int pe_int)) pe_int) (pa_cons pe_int pa_nil))))))) (pv 3) (fun _ _ => rfl)))) pss_nil)
      (pss_one (ps_ret (pe_call GA hr (by rfl) DA.g DA.F.kp DA.b .nil pass0 (pa_cons (pv 0) pa_nil)))))))), ?_⟩
    refine ⟨.ref l, rfl, l, 8, rfl, st, by decide, by decide, fun H1 way k1 st1 y0 y7 => ?_⟩
    have hd1 := hd.up k1.same
    have fd := hg.f
    have w2 := hg.w
    have wp : 1 ≤ wt d := by cases d <;> simp [wt]
    have last : ∀ {G : Hp}, Keep l H1 G → StO G l → ∀ {σ : L2.St}, σ[0]? = some (some (.ref l)) → tCall spUn [] E0 (tCons (tVar 0) tNil) σ G Q := fun {G} kG sG {σ} e =>
      ⟨.ref l, e, l, rfl, sG, fun G2 v2 d2 k2 s2 a2 x2 => q _ _ _ ((k1.trans kG).trans k2) s2 x2 (un_dm a2)⟩
    refine ⟨v, rfl, rfl, d, .dx (hd1.up (KX.hid_same l H1)), _, rfl, ?_⟩
    cases d with
    | tuple ds =>
      rw [isa_tuple]
      obtain ⟨a, xs, ev, na, ea, hx⟩ := dx_tupOf hd1
      subst ev
      have hlen := hx.len
      have lw := len_wt ds
      have big : (100000 : Nat) ≤ sizeLine := by decide
      have n100 : ds.length ≤ 450 := Nat.le_trans (by simp only [wid]; omega) hg.n
      have gw : wtAll ds + 1 ≤ 30000 := hg.w
      have ew : wt (.tuple ds) = wtAll ds + 1 := by simp [wt]
      have ep : (PyData.tuple ds).depth = PyData.depthAll ds + 1 := by simp [PyData.depth]
      have mine : ∀ e ∈ ds, FU (.tuple ds) e ∧ e.depth ≤ PyData.depthAll ds + 4 ∧ wid e ≤ widAll ds + 4 := fun e he => ⟨fu_item he (fu_self e), by have := depth_mem he; omega, by have := wid_mem he; omega⟩
      have cutw : ∀ i : Nat, wtAll (ds.take i) + wtAll (ds.drop i) = wtAll ds := fun i => wtAll_take i ds
      have dropm : ∀ i : Nat, wtAll (ds.drop (i + 1)) ≤ wtAll (ds.drop i) := fun i => by
        have := wtAll_take 1 (ds.drop i)
        rw [List.drop_drop] at this
        omega
      refine iteT ⟨.ref a, rfl, by show 0 ≤ sizeLine; decide, fun p np => ?_⟩
      have s2 := st1.new (o := .tup []) np
      have k2 : Keep l H1 (upd H1 p (.tup [])) := (Keep.refl l H1).new np
      have ea2 := k2 _ _ na ea
      refine ⟨a, p, xs, rfl, rfl, .inl (.inl ea2), .inl (.inl upd_same), _, rfl, ?_⟩
      cases hxe : xs.isEmpty with
      | true =>
        refine iteF (iteF ?_)
        refine ⟨.ref a, rfl, rfl, .tuple ds, .dx ((hd1.up (k2).same).up (KX.hid_same l _)), _, rfl, ?_⟩
        rw [isa_tuple]
        refine iteT ⟨.ref l, rfl, .ref a, rfl, a, xs, rfl, .inr (.inl (.inl ((k2) _ _ na ea))), (xs.length : Int), 1, rfl, rfl, l, _, rfl, s2, by omega, by omega, fun GA at1 kA sA a0 a1 => ?_⟩
        obtain ⟨i, rfl⟩ : ∃ i : Nat, at1 = (i : Int) := ⟨at1.toNat, by omega⟩
        have k2A := (k2).trans kA
        have hdA := hd1.up k2A.same
        refine gn_to (σ' := ([some (.ref l), some (.ref a), some (.int (n : Int)), some (.int way), some (.int (i : Int)), none, none] : L2.St)) rfl ?_
        dsimp only
        have fitC : ∀ {lo hi : Option Int}, (KX.cutD ds lo hi).length ≤ 450 := fun {lo hi} => Nat.le_trans (by unfold KX.cutD; rw [List.length_take, List.length_drop]; omega) n100
        have fitS : ∀ {lo hi : Option Int} (d : PyData), d = .tuple (KX.cutD ds lo hi) → ∃ z, d = .tuple z ∧ z.length ≤ 1000 := fun {lo hi} d e => ⟨_, e, Nat.le_trans fitC (by decide)⟩
        refine gm_seq (S := Al (DmG (.tuple ds)) 4) (P := KX.Env l _ [(.ref a, .tuple ds)] []) ?_ sA ⟨rfl, alld_cons hdA alld_nil, allm_nil⟩ fun H2 p2 xs2 ds2 g2 k2b st2 n2 e2 x2 => ?_
        · have tv : GD l (KX.Env l ([some (.ref l), some (.ref a), some (.int (n : Int)), some (.int way), some (.int (i : Int)), none, none] : L2.St) [(.ref a, .tuple ds)] []) (· = .tuple ds) (tVar 1) := gd_env (v := .ref a) (d := .tuple ds) rfl (by simp)
          have ti : GI l (KX.Env l ([some (.ref l), some (.ref a), some (.int (n : Int)), some (.int way), some (.int (i : Int)), none, none] : L2.St) [(.ref a, .tuple ds)] []) (· = (i : Int)) (tVar 4) := gi_env rfl
          refine al_lst (al_cons kp_env ((gd_listOf tv).imp fun d e => ?_) (al_cons kp_env ((gd_cat kp_env (gd_slice kp_env tv go_none (go_some ti)) (gd_slice kp_env tv (go_some (gi_add1 ti)) go_none) fitS fitS).imp fun d e => ?_)
              (al_cons kp_env ((gd_cat kp_env (gd_cat kp_env (gd_slice kp_env tv go_none (go_some ti)) (gd_slice kp_env tv (go_some ti) (go_some (gi_add1 ti))) fitS fitS) (gd_slice kp_env tv (go_some ti) go_none) (fun d e => ?_) fitS).imp fun d e => ?_) (al_cons kp_env ((gd_rev tv).imp fun d e => ?_) al_nil)))) (by decide)
          · subst e
            exact lst_dm
          · obtain ⟨x, y, e1, e2, rfl⟩ := e
            cases e1
            cases e2
            refine tup_dm (fun e he => ?_) ?_ ?_
            · rcases List.mem_append.mp he with h | h
              · exact mine e (cut_sub e h)
              · exact mine e (cut_sub e h)
            · have c1 := cut_wt (ds := ds) (lo := none) (hi := some (i : Int))
              have c2 := cut_wt (ds := ds) (lo := some ((i : Int) + 1)) (hi := none)
              rw [wtAll_app]
              omega
            · rw [show ((i : Int) + 1) = ((i + 1 : Nat) : Int) by omega, cutD_from, cutD_to, List.length_append, List.length_take, List.length_drop]
              omega
          · obtain ⟨x, y, e1, e2, rfl⟩ := e
            cases e1
            cases e2
            exact ⟨_, rfl, by rw [List.length_append]; exact Nat.le_trans (Nat.add_le_add fitC fitC) (by decide)⟩
          · obtain ⟨x, y, ⟨x2, y2, e1, e2, e4⟩, e3, rfl⟩ := e
            cases e1
            cases e2
            cases e3
            cases e4
            refine tup_dm (fun e he => ?_) ?_ ?_
            · rcases List.mem_append.mp he with h | h
              · rcases List.mem_append.mp h with h | h
                · exact mine e (cut_sub e h)
                · exact mine e (cut_sub e h)
              · exact mine e (cut_sub e h)
            · have c2 := cut_wt (ds := ds) (lo := some (i : Int)) (hi := some ((i : Int) + 1))
              have c3 := cutw i
              rw [wtAll_app, wtAll_app, cutD_from, cutD_to]
              omega
            · rw [cutD_from, cutD_to, cutD_one, List.length_append, List.length_append, List.length_take, List.length_take, List.length_drop]
              omega
          · subst e
            refine tup_dm (fun e he => mine e (List.mem_reverse.mp he)) ?_ ?_
            · rw [wtAll_rev]
              omega
            · rw [List.length_reverse]
              omega
        · dsimp only [List.set]
          refine ⟨.ref l, rfl, l, rfl, st2, fun H3 vo d3 k3b st3 m3 x3 => ?_⟩
          refine gn_to (σ' := ([some (.ref l), some (.ref a), some (.int (n : Int)), some (.int way), some (.int (i : Int)), some (.ref p2), some vo] : L2.St)) rfl ?_
          dsimp only
          obtain ⟨o1, o2, o3, o4⟩ := un_facts m3
          have tv : GD l (KX.Env l ([some (.ref l), some (.ref a), some (.int (n : Int)), some (.int way), some (.int (i : Int)), some (.ref p2), some vo] : L2.St) [(.ref a, .tuple ds), (vo, d3)] [(p2, xs2, ds2)]) (· = .tuple ds) (tVar 1) := gd_env (v := .ref a) (d := .tuple ds) rfl (by simp)
          have to : GD l (KX.Env l ([some (.ref l), some (.ref a), some (.int (n : Int)), some (.int way), some (.int (i : Int)), some (.ref p2), some vo] : L2.St) [(.ref a, .tuple ds), (vo, d3)] [(p2, xs2, ds2)]) (· = d3) (tVar 6) := gd_env (v := vo) (d := d3) rfl (by simp)
          have ti : GI l (KX.Env l ([some (.ref l), some (.ref a), some (.int (n : Int)), some (.int way), some (.int (i : Int)), some (.ref p2), some vo] : L2.St) [(.ref a, .tuple ds), (vo, d3)] [(p2, xs2, ds2)]) (· = (i : Int)) (tVar 4) := gi_env rfl
          have oneO : GD l (KX.Env l ([some (.ref l), some (.ref a), some (.int (n : Int)), some (.int way), some (.int (i : Int)), some (.ref p2), some vo] : L2.St) [(.ref a, .tuple ds), (vo, d3)] [(p2, xs2, ds2)]) (· = .tuple [d3]) (tTup (tCons (tVar 6) tNil)) :=
            (gd_tup (gds_cons kp_env to gds_nil) fun ds z => by obtain ⟨x, y, rfl, _, rfl⟩ := z; show 1 ≤ sizeLine; decide).imp fun d e => by
              obtain ⟨es, rfl, x, y, rfl, rfl, rfl⟩ := e
              rfl
          have fitO : ∀ d, d = PyData.tuple [d3] → ∃ z, d = .tuple z ∧ z.length ≤ 1000 := fun d e => ⟨_, e, by show 1 ≤ 1000; decide⟩
          have other : FU (.tuple ds) d3 ∧ d3.depth ≤ PyData.depthAll ds + 4 ∧ wid d3 ≤ widAll ds + 4 := ⟨fun fb hf _ => fine_le (by omega) d3 o1, by omega, by omega⟩
          have w3 : wtAll [d3] = wt d3 := by simp [wtAll]
          refine al_ix (S := DmG (.tuple ds)) (n := 6) (m := 6) kp_env (al_cat (n := 4) (m := 2) kp_env ((gm_env (xs := xs2) (ds := ds2) rfl (by simp)).imp fun _ e => by subst e; exact g2) (al_lst (al_cons kp_env ((gd_cat kp_env tv oneO (fun d e => ⟨_, e, Nat.le_trans n100 (by decide)⟩) fitO).imp fun d e => ?_)
              (al_cons kp_env ((gd_cat kp_env (gd_cat kp_env (gd_slice kp_env tv go_none (go_some ti)) oneO fitS fitO) (gd_slice kp_env tv (go_some (gi_add1 ti)) go_none) (fun d e => ?_) fitS).imp fun d e => ?_) al_nil)) (by decide)) (by decide)) (gi_drawS (n := 6) 0 rfl (gi_val fun σ H Q q => q) (by decide) (by decide)) rfl _ _ _ st3
              (show KX.Env l _ [(.ref a, .tuple ds), (vo, d3)] [(p2, xs2, ds2)] _ H3 from ⟨rfl, alld_cons (hdA.up (k2b.trans k3b).same) (alld_cons x3 alld_nil), allm_one n2 (k3b _ _ n2 e2) (x2.up k3b.same)⟩) fun H4 v4 d4 g4 k4 st4 x4 => q H4 v4 d4 (((k1.trans k2A).trans (k2b.trans k3b)).trans k4) st4 x4 g4
          · obtain ⟨x, y, e1, e2, rfl⟩ := e
            cases e1
            cases e2
            refine tup_dm (fun e he => ?_) ?_ ?_
            · rcases List.mem_append.mp he with h | h
              · exact mine e h
              · rw [List.mem_singleton.mp h]
                exact other
            · rw [wtAll_app]
              omega
            · rw [List.length_append, List.length_singleton]
              omega
          · obtain ⟨x, y, e1, e2, rfl⟩ := e
            cases e1
            cases e2
            exact ⟨_, rfl, by rw [List.length_append, List.length_singleton]; exact Nat.le_trans (Nat.add_le_add fitC (Nat.le_refl 1)) (by decide)⟩
          · obtain ⟨x, y, ⟨x2, y2, e1, e2, e4⟩, e3, rfl⟩ := e
            cases e1
            cases e2
            cases e3
            cases e4
            refine tup_dm (fun e he => ?_) ?_ ?_
            · rcases List.mem_append.mp he with h | h
              · rcases List.mem_append.mp h with h | h
                · exact mine e (cut_sub e h)
                · rw [List.mem_singleton.mp h]
                  exact other
              · exact mine e (cut_sub e h)
            · have c1 := cut_wt (ds := ds) (lo := none) (hi := some (i : Int))
              have c2 := cut_wt (ds := ds) (lo := some ((i : Int) + 1)) (hi := none)
              rw [wtAll_app, wtAll_app]
              omega
            · rw [show ((i : Int) + 1) = ((i + 1 : Nat) : Int) by omega, cutD_from, cutD_to, List.length_append, List.length_append, List.length_take, List.length_drop, List.length_singleton]
              omega
      | false =>
        refine iteT ⟨.int (n : Int), rfl, (n : Int), 0, rfl, rfl, _, rfl, ?_⟩
        by_cases hdp : (0 : Int) < (n : Int)
        · rw [decide_eq_true hdp]
          refine iteT ⟨.int way, rfl, way, 5, rfl, rfl, _, rfl, ?_⟩
          by_cases hw : way < 5
          · rw [decide_eq_true hw]
            obtain ⟨j, rfl⟩ : ∃ j, n = j + 1 := ⟨n - 1, by omega⟩
            have hne : 0 < ds.length := by
              cases xs with
              | nil => cases hxe
              | cons _ _ => rw [← hlen]; simp
            refine iteT ⟨.ref l, rfl, .ref a, rfl, a, xs, rfl, .inr (.inl (.inl ea2)), l, _, rfl, s2, by omega, by omega, fun G3 at1 k3 s3 a0 a1 => ?_⟩
            obtain ⟨i, rfl⟩ : ∃ i : Nat, at1 = (i : Int) := ⟨at1.toNat, by omega⟩
            have hn : i < ds.length := by omega
            have k13 := k2.trans k3
            refine ⟨.ref a, rfl, .int i, rfl, i, rfl, sl_of (hd1.up k13.same) s3 fun G4 q4 k4 s4 f4 => ?_⟩
            rw [cutD_to] at f4
            have k14 := k13.trans k4
            obtain ⟨a', xs', ea', na', e4, hx4⟩ := dx_tupOf (hd1.up k14.same)
            cases ea'
            obtain ⟨y, ey, dy⟩ := hx4.get (List.getElem?_eq_getElem hn)
            have my := List.getElem_mem hn
            have wy := wt_mem my
            refine ⟨.ref l, rfl, .ref a, rfl, .int i, rfl, a, xs', i, y, rfl, rfl, .inl (.inl e4), atI_nat ey, .int ((j + 1 : Nat) : Int), rfl, _, 1, rfl, rfl, ?_⟩
            refine hs j rfl _ _ _ _ ⟨l, y, ds[i], ?_, s4, dy, hg.item my, fun G5 v5 d5 k5 s5 f5 g5 => ?_⟩
            · show [V.ref l, y, V.int (((j + 1 : Nat) : Int) - 1)] = _
              rw [show ((j + 1 : Nat) : Int) - 1 = (j : Int) by omega]
            refine ⟨by show 1 ≤ sizeLine; decide, fun pt npt => ?_⟩
            have s6 := s5.new (o := .tup [v5]) npt
            refine cat_of ((f4.up k5.same).up (hnew npt)) (dx_tup npt s5 (.cons f5 .nil)) s6 (by rw [List.length_take, List.length_singleton]; omega) fun G7 q7 k7 s7 f7 => ?_
            have k17 := ((k14.trans k5).new (o := .tup [v5]) npt).trans k7
            refine ⟨.ref a, rfl, .int i, rfl, i, 1, rfl, rfl, ((i : Int) + 1), rfl, ?_⟩
            refine (show ∀ {σ : L2.St} {H : Hp} {Q : Option Int → Hp → Prop}, Q none H → tNoPart σ H Q from fun h => h) (sl_of (hd1.up k17.same) s7 fun G8 q8 k8 s8 f8 => ?_)
            rw [show ((i : Int) + 1) = ((i + 1 : Nat) : Int) by omega, cutD_from] at f8
            refine cat_of (f7.up k8.same) f8 s8 (by rw [List.length_append, List.length_take, List.length_drop, List.length_singleton]; omega) fun G9 q9 k9 s9 f9 => ?_
            refine q G9 _ _ (((k1.trans k17).trans k8).trans k9) s9 f9 (tup_dm (fun z hz => ?_) ?_ ?_)
            · rcases List.mem_append.mp hz with hz | hz
              · rcases List.mem_append.mp hz with hz | hz
                · exact mine z (List.mem_of_mem_take hz)
                · rw [List.mem_singleton.mp hz]
                  have h1 := g5.p
                  have h2 := depth_mem my
                  exact ⟨fu_item my g5.f, by omega, by have := g5.n; have := wid_mem my; omega⟩
              · exact mine z (List.mem_of_mem_drop hz)
            · have w1 := cutw i
              rw [List.drop_eq_getElem_cons hn] at w1
              have w3 : wtAll (ds[i] :: ds.drop (i + 1)) = wt ds[i] + wtAll (ds.drop (i + 1)) := by simp [wtAll]
              have w5 := g5.w
              rw [wtAll_app, wtAll_app]
              have w6 : wtAll [d5] = wt d5 := by simp [wtAll]
              omega
            · rw [List.length_append, List.length_append, List.length_take, List.length_drop, List.length_singleton]
              omega
          · rw [decide_eq_false hw]
            refine iteF ?_
            refine ⟨.ref a, rfl, rfl, .tuple ds, .dx ((hd1.up (k2).same).up (KX.hid_same l _)), _, rfl, ?_⟩
            rw [isa_tuple]
            refine iteT ⟨.ref l, rfl, .ref a, rfl, a, xs, rfl, .inr (.inl (.inl ((k2) _ _ na ea))), (xs.length : Int), 1, rfl, rfl, l, _, rfl, s2, by omega, by omega, fun GA at1 kA sA a0 a1 => ?_⟩
            obtain ⟨i, rfl⟩ : ∃ i : Nat, at1 = (i : Int) := ⟨at1.toNat, by omega⟩
            have k2A := (k2).trans kA
            have hdA := hd1.up k2A.same
            refine gn_to (σ' := ([some (.ref l), some (.ref a), some (.int (n : Int)), some (.int way), some (.int (i : Int)), none, none] : L2.St)) rfl ?_
            dsimp only
            have fitC : ∀ {lo hi : Option Int}, (KX.cutD ds lo hi).length ≤ 450 := fun {lo hi} => Nat.le_trans (by unfold KX.cutD; rw [List.length_take, List.length_drop]; omega) n100
            have fitS : ∀ {lo hi : Option Int} (d : PyData), d = .tuple (KX.cutD ds lo hi) → ∃ z, d = .tuple z ∧ z.length ≤ 1000 := fun {lo hi} d e => ⟨_, e, Nat.le_trans fitC (by decide)⟩
            refine gm_seq (S := Al (DmG (.tuple ds)) 4) (P := KX.Env l _ [(.ref a, .tuple ds)] []) ?_ sA ⟨rfl, alld_cons hdA alld_nil, allm_nil⟩ fun H2 p2 xs2 ds2 g2 k2b st2 n2 e2 x2 => ?_
            · have tv : GD l (KX.Env l ([some (.ref l), some (.ref a), some (.int (n : Int)), some (.int way), some (.int (i : Int)), none, none] : L2.St) [(.ref a, .tuple ds)] []) (· = .tuple ds) (tVar 1) := gd_env (v := .ref a) (d := .tuple ds) rfl (by simp)
              have ti : GI l (KX.Env l ([some (.ref l), some (.ref a), some (.int (n : Int)), some (.int way), some (.int (i : Int)), none, none] : L2.St) [(.ref a, .tuple ds)] []) (· = (i : Int)) (tVar 4) := gi_env rfl
              refine al_lst (al_cons kp_env ((gd_listOf tv).imp fun d e => ?_) (al_cons kp_env ((gd_cat kp_env (gd_slice kp_env tv go_none (go_some ti)) (gd_slice kp_env tv (go_some (gi_add1 ti)) go_none) fitS fitS).imp fun d e => ?_)
                  (al_cons kp_env ((gd_cat kp_env (gd_cat kp_env (gd_slice kp_env tv go_none (go_some ti)) (gd_slice kp_env tv (go_some ti) (go_some (gi_add1 ti))) fitS fitS) (gd_slice kp_env tv (go_some ti) go_none) (fun d e => ?_) fitS).imp fun d e => ?_) (al_cons kp_env ((gd_rev tv).imp fun d e => ?_) al_nil)))) (by decide)
              · subst e
                exact lst_dm
              · obtain ⟨x, y, e1, e2, rfl⟩ := e
                cases e1
                cases e2
                refine tup_dm (fun e he => ?_) ?_ ?_
                · rcases List.mem_append.mp he with h | h
                  · exact mine e (cut_sub e h)
                  · exact mine e (cut_sub e h)
                · have c1 := cut_wt (ds := ds) (lo := none) (hi := some (i : Int))
                  have c2 := cut_wt (ds := ds) (lo := some ((i : Int) + 1)) (hi := none)
                  rw [wtAll_app]
                  omega
                · rw [show ((i : Int) + 1) = ((i + 1 : Nat) : Int) by omega, cutD_from, cutD_to, List.length_append, List.length_take, List.length_drop]
                  omega
              · obtain ⟨x, y, e1, e2, rfl⟩ := e
                cases e1
                cases e2
                exact ⟨_, rfl, by rw [List.length_append]; exact Nat.le_trans (Nat.add_le_add fitC fitC) (by decide)⟩
              · obtain ⟨x, y, ⟨x2, y2, e1, e2, e4⟩, e3, rfl⟩ := e
                cases e1
                cases e2
                cases e3
                cases e4
                refine tup_dm (fun e he => ?_) ?_ ?_
                · rcases List.mem_append.mp he with h | h
                  · rcases List.mem_append.mp h with h | h
                    · exact mine e (cut_sub e h)
                    · exact mine e (cut_sub e h)
                  · exact mine e (cut_sub e h)
                · have c2 := cut_wt (ds := ds) (lo := some (i : Int)) (hi := some ((i : Int) + 1))
                  have c3 := cutw i
                  rw [wtAll_app, wtAll_app, cutD_from, cutD_to]
                  omega
                · rw [cutD_from, cutD_to, cutD_one, List.length_append, List.length_append, List.length_take, List.length_take, List.length_drop]
                  omega
              · subst e
                refine tup_dm (fun e he => mine e (List.mem_reverse.mp he)) ?_ ?_
                · rw [wtAll_rev]
                  omega
                · rw [List.length_reverse]
                  omega
            · dsimp only [List.set]
              refine ⟨.ref l, rfl, l, rfl, st2, fun H3 vo d3 k3b st3 m3 x3 => ?_⟩
              refine gn_to (σ' := ([some (.ref l), some (.ref a), some (.int (n : Int)), some (.int way), some (.int (i : Int)), some (.ref p2), some vo] : L2.St)) rfl ?_
              dsimp only
              obtain ⟨o1, o2, o3, o4⟩ := un_facts m3
              have tv : GD l (KX.Env l ([some (.ref l), some (.ref a), some (.int (n : Int)), some (.int way), some (.int (i : Int)), some (.ref p2), some vo] : L2.St) [(.ref a, .tuple ds), (vo, d3)] [(p2, xs2, ds2)]) (· = .tuple ds) (tVar 1) := gd_env (v := .ref a) (d := .tuple ds) rfl (by simp)
              have to : GD l (KX.Env l ([some (.ref l), some (.ref a), some (.int (n : Int)), some (.int way), some (.int (i : Int)), some (.ref p2), some vo] : L2.St) [(.ref a, .tuple ds), (vo, d3)] [(p2, xs2, ds2)]) (· = d3) (tVar 6) := gd_env (v := vo) (d := d3) rfl (by simp)
              have ti : GI l (KX.Env l ([some (.ref l), some (.ref a), some (.int (n : Int)), some (.int way), some (.int (i : Int)), some (.ref p2), some vo] : L2.St) [(.ref a, .tuple ds), (vo, d3)] [(p2, xs2, ds2)]) (· = (i : Int)) (tVar 4) := gi_env rfl
              have oneO : GD l (KX.Env l ([some (.ref l), some (.ref a), some (.int (n : Int)), some (.int way), some (.int (i : Int)), some (.ref p2), some vo] : L2.St) [(.ref a, .tuple ds), (vo, d3)] [(p2, xs2, ds2)]) (· = .tuple [d3]) (tTup (tCons (tVar 6) tNil)) :=
                (gd_tup (gds_cons kp_env to gds_nil) fun ds z => by obtain ⟨x, y, rfl, _, rfl⟩ := z; show 1 ≤ sizeLine; decide).imp fun d e => by
                  obtain ⟨es, rfl, x, y, rfl, rfl, rfl⟩ := e
                  rfl
              have fitO : ∀ d, d = PyData.tuple [d3] → ∃ z, d = .tuple z ∧ z.length ≤ 1000 := fun d e => ⟨_, e, by show 1 ≤ 1000; decide⟩
              have other : FU (.tuple ds) d3 ∧ d3.depth ≤ PyData.depthAll ds + 4 ∧ wid d3 ≤ widAll ds + 4 := ⟨fun fb hf _ => fine_le (by omega) d3 o1, by omega, by omega⟩
              have w3 : wtAll [d3] = wt d3 := by simp [wtAll]
              refine al_ix (S := DmG (.tuple ds)) (n := 6) (m := 6) kp_env (al_cat (n := 4) (m := 2) kp_env ((gm_env (xs := xs2) (ds := ds2) rfl (by simp)).imp fun _ e => by subst e; exact g2) (al_lst (al_cons kp_env ((gd_cat kp_env tv oneO (fun d e => ⟨_, e, Nat.le_trans n100 (by decide)⟩) fitO).imp fun d e => ?_)
                  (al_cons kp_env ((gd_cat kp_env (gd_cat kp_env (gd_slice kp_env tv go_none (go_some ti)) oneO fitS fitO) (gd_slice kp_env tv (go_some (gi_add1 ti)) go_none) (fun d e => ?_) fitS).imp fun d e => ?_) al_nil)) (by decide)) (by decide)) (gi_drawS (n := 6) 0 rfl (gi_val fun σ H Q q => q) (by decide) (by decide)) rfl _ _ _ st3
                  (show KX.Env l _ [(.ref a, .tuple ds), (vo, d3)] [(p2, xs2, ds2)] _ H3 from ⟨rfl, alld_cons (hdA.up (k2b.trans k3b).same) (alld_cons x3 alld_nil), allm_one n2 (k3b _ _ n2 e2) (x2.up k3b.same)⟩) fun H4 v4 d4 g4 k4 st4 x4 => q H4 v4 d4 (((k1.trans k2A).trans (k2b.trans k3b)).trans k4) st4 x4 g4
              · obtain ⟨x, y, e1, e2, rfl⟩ := e
                cases e1
                cases e2
                refine tup_dm (fun e he => ?_) ?_ ?_
                · rcases List.mem_append.mp he with h | h
                  · exact mine e h
                  · rw [List.mem_singleton.mp h]
                    exact other
                · rw [wtAll_app]
                  omega
                · rw [List.length_append, List.length_singleton]
                  omega
              · obtain ⟨x, y, e1, e2, rfl⟩ := e
                cases e1
                cases e2
                exact ⟨_, rfl, by rw [List.length_append, List.length_singleton]; exact Nat.le_trans (Nat.add_le_add fitC (Nat.le_refl 1)) (by decide)⟩
              · obtain ⟨x, y, ⟨x2, y2, e1, e2, e4⟩, e3, rfl⟩ := e
                cases e1
                cases e2
                cases e3
                cases e4
                refine tup_dm (fun e he => ?_) ?_ ?_
                · rcases List.mem_append.mp he with h | h
                  · rcases List.mem_append.mp h with h | h
                    · exact mine e (cut_sub e h)
                    · rw [List.mem_singleton.mp h]
                      exact other
                  · exact mine e (cut_sub e h)
                · have c1 := cut_wt (ds := ds) (lo := none) (hi := some (i : Int))
                  have c2 := cut_wt (ds := ds) (lo := some ((i : Int) + 1)) (hi := none)
                  rw [wtAll_app, wtAll_app]
                  omega
                · rw [show ((i : Int) + 1) = ((i + 1 : Nat) : Int) by omega, cutD_from, cutD_to, List.length_append, List.length_append, List.length_take, List.length_drop, List.length_singleton]
                  omega
        · rw [decide_eq_false hdp]
          refine iteF (iteF ?_)
          refine ⟨.ref a, rfl, rfl, .tuple ds, .dx ((hd1.up (k2).same).up (KX.hid_same l _)), _, rfl, ?_⟩
          rw [isa_tuple]
          refine iteT ⟨.ref l, rfl, .ref a, rfl, a, xs, rfl, .inr (.inl (.inl ((k2) _ _ na ea))), (xs.length : Int), 1, rfl, rfl, l, _, rfl, s2, by omega, by omega, fun GA at1 kA sA a0 a1 => ?_⟩
          obtain ⟨i, rfl⟩ : ∃ i : Nat, at1 = (i : Int) := ⟨at1.toNat, by omega⟩
          have k2A := (k2).trans kA
          have hdA := hd1.up k2A.same
          refine gn_to (σ' := ([some (.ref l), some (.ref a), some (.int (n : Int)), some (.int way), some (.int (i : Int)), none, none] : L2.St)) rfl ?_
          dsimp only
          have fitC : ∀ {lo hi : Option Int}, (KX.cutD ds lo hi).length ≤ 450 := fun {lo hi} => Nat.le_trans (by unfold KX.cutD; rw [List.length_take, List.length_drop]; omega) n100
          have fitS : ∀ {lo hi : Option Int} (d : PyData), d = .tuple (KX.cutD ds lo hi) → ∃ z, d = .tuple z ∧ z.length ≤ 1000 := fun {lo hi} d e => ⟨_, e, Nat.le_trans fitC (by decide)⟩
          refine gm_seq (S := Al (DmG (.tuple ds)) 4) (P := KX.Env l _ [(.ref a, .tuple ds)] []) ?_ sA ⟨rfl, alld_cons hdA alld_nil, allm_nil⟩ fun H2 p2 xs2 ds2 g2 k2b st2 n2 e2 x2 => ?_
          · have tv : GD l (KX.Env l ([some (.ref l), some (.ref a), some (.int (n : Int)), some (.int way), some (.int (i : Int)), none, none] : L2.St) [(.ref a, .tuple ds)] []) (· = .tuple ds) (tVar 1) := gd_env (v := .ref a) (d := .tuple ds) rfl (by simp)
            have ti : GI l (KX.Env l ([some (.ref l), some (.ref a), some (.int (n : Int)), some (.int way), some (.int (i : Int)), none, none] : L2.St) [(.ref a, .tuple ds)] []) (· = (i : Int)) (tVar 4) := gi_env rfl
            refine al_lst (al_cons kp_env ((gd_listOf tv).imp fun d e => ?_) (al_cons kp_env ((gd_cat kp_env (gd_slice kp_env tv go_none (go_some ti)) (gd_slice kp_env tv (go_some (gi_add1 ti)) go_none) fitS fitS).imp fun d e => ?_)
                (al_cons kp_env ((gd_cat kp_env (gd_cat kp_env (gd_slice kp_env tv go_none (go_some ti)) (gd_slice kp_env tv (go_some ti) (go_some (gi_add1 ti))) fitS fitS) (gd_slice kp_env tv (go_some ti) go_none) (fun d e => ?_) fitS).imp fun d e => ?_) (al_cons kp_env ((gd_rev tv).imp fun d e => ?_) al_nil)))) (by decide)
            · subst e
              exact lst_dm
            · obtain ⟨x, y, e1, e2, rfl⟩ := e
              cases e1
              cases e2
              refine tup_dm (fun e he => ?_) ?_ ?_
              · rcases List.mem_append.mp he with h | h
                · exact mine e (cut_sub e h)
                · exact mine e (cut_sub e h)
              · have c1 := cut_wt (ds := ds) (lo := none) (hi := some (i : Int))
                have c2 := cut_wt (ds := ds) (lo := some ((i : Int) + 1)) (hi := none)
                rw [wtAll_app]
                omega
              · rw [show ((i : Int) + 1) = ((i + 1 : Nat) : Int) by omega, cutD_from, cutD_to, List.length_append, List.length_take, List.length_drop]
                omega
            · obtain ⟨x, y, e1, e2, rfl⟩ := e
              cases e1
              cases e2
              exact ⟨_, rfl, by rw [List.length_append]; exact Nat.le_trans (Nat.add_le_add fitC fitC) (by decide)⟩
            · obtain ⟨x, y, ⟨x2, y2, e1, e2, e4⟩, e3, rfl⟩ := e
              cases e1
              cases e2
              cases e3
              cases e4
              refine tup_dm (fun e he => ?_) ?_ ?_
              · rcases List.mem_append.mp he with h | h
                · rcases List.mem_append.mp h with h | h
                  · exact mine e (cut_sub e h)
                  · exact mine e (cut_sub e h)
                · exact mine e (cut_sub e h)
              · have c2 := cut_wt (ds := ds) (lo := some (i : Int)) (hi := some ((i : Int) + 1))
                have c3 := cutw i
                rw [wtAll_app, wtAll_app, cutD_from, cutD_to]
                omega
              · rw [cutD_from, cutD_to, cutD_one, List.length_append, List.length_append, List.length_take, List.length_take, List.length_drop]
                omega
            · subst e
              refine tup_dm (fun e he => mine e (List.mem_reverse.mp he)) ?_ ?_
              · rw [wtAll_rev]
                omega
              · rw [List.length_reverse]
                omega
          · dsimp only [List.set]
            refine ⟨.ref l, rfl, l, rfl, st2, fun H3 vo d3 k3b st3 m3 x3 => ?_⟩
            refine gn_to (σ' := ([some (.ref l), some (.ref a), some (.int (n : Int)), some (.int way), some (.int (i : Int)), some (.ref p2), some vo] : L2.St)) rfl ?_
            dsimp only
            obtain ⟨o1, o2, o3, o4⟩ := un_facts m3
            have tv : GD l (KX.Env l ([some (.ref l), some (.ref a), some (.int (n : Int)), some (.int way), some (.int (i : Int)), some (.ref p2), some vo] : L2.St) [(.ref a, .tuple ds), (vo, d3)] [(p2, xs2, ds2)]) (· = .tuple ds) (tVar 1) := gd_env (v := .ref a) (d := .tuple ds) rfl (by simp)
            have to : GD l (KX.Env l ([some (.ref l), some (.ref a), some (.int (n : Int)), some (.int way), some (.int (i : Int)), some (.ref p2), some vo] : L2.St) [(.ref a, .tuple ds), (vo, d3)] [(p2, xs2, ds2)]) (· = d3) (tVar 6) := gd_env (v := vo) (d := d3) rfl (by simp)
            have ti : GI l (KX.Env l ([some (.ref l), some (.ref a), some (.int (n : Int)), some (.int way), some (.int (i : Int)), some (.ref p2), some vo] : L2.St) [(.ref a, .tuple ds), (vo, d3)] [(p2, xs2, ds2)]) (· = (i : Int)) (tVar 4) := gi_env rfl
            have oneO : GD l (KX.Env l ([some (.ref l), some (.ref a), some (.int (n : Int)), some (.int way), some (.int (i : Int)), some (.ref p2), some vo] : L2.St) [(.ref a, .tuple ds), (vo, d3)] [(p2, xs2, ds2)]) (· = .tuple [d3]) (tTup (tCons (tVar 6) tNil)) :=
              (gd_tup (gds_cons kp_env to gds_nil) fun ds z => by obtain ⟨x, y, rfl, _, rfl⟩ := z; show 1 ≤ sizeLine; decide).imp fun d e => by
                obtain ⟨es, rfl, x, y, rfl, rfl, rfl⟩ := e
                rfl
            have fitO : ∀ d, d = PyData.tuple [d3] → ∃ z, d = .tuple z ∧ z.length ≤ 1000 := fun d e => ⟨_, e, by show 1 ≤ 1000; decide⟩
            have other : FU (.tuple ds) d3 ∧ d3.depth ≤ PyData.depthAll ds + 4 ∧ wid d3 ≤ widAll ds + 4 := ⟨fun fb hf _ => fine_le (by omega) d3 o1, by omega, by omega⟩
            have w3 : wtAll [d3] = wt d3 := by simp [wtAll]
            refine al_ix (S := DmG (.tuple ds)) (n := 6) (m := 6) kp_env (al_cat (n := 4) (m := 2) kp_env ((gm_env (xs := xs2) (ds := ds2) rfl (by simp)).imp fun _ e => by subst e; exact g2) (al_lst (al_cons kp_env ((gd_cat kp_env tv oneO (fun d e => ⟨_, e, Nat.le_trans n100 (by decide)⟩) fitO).imp fun d e => ?_)
                (al_cons kp_env ((gd_cat kp_env (gd_cat kp_env (gd_slice kp_env tv go_none (go_some ti)) oneO fitS fitO) (gd_slice kp_env tv (go_some (gi_add1 ti)) go_none) (fun d e => ?_) fitS).imp fun d e => ?_) al_nil)) (by decide)) (by decide)) (gi_drawS (n := 6) 0 rfl (gi_val fun σ H Q q => q) (by decide) (by decide)) rfl _ _ _ st3
                (show KX.Env l _ [(.ref a, .tuple ds), (vo, d3)] [(p2, xs2, ds2)] _ H3 from ⟨rfl, alld_cons (hdA.up (k2b.trans k3b).same) (alld_cons x3 alld_nil), allm_one n2 (k3b _ _ n2 e2) (x2.up k3b.same)⟩) fun H4 v4 d4 g4 k4 st4 x4 => q H4 v4 d4 (((k1.trans k2A).trans (k2b.trans k3b)).trans k4) st4 x4 g4
            · obtain ⟨x, y, e1, e2, rfl⟩ := e
              cases e1
              cases e2
              refine tup_dm (fun e he => ?_) ?_ ?_
              · rcases List.mem_append.mp he with h | h
                · exact mine e h
                · rw [List.mem_singleton.mp h]
                  exact other
              · rw [wtAll_app]
                omega
              · rw [List.length_append, List.length_singleton]
                omega
            · obtain ⟨x, y, e1, e2, rfl⟩ := e
              cases e1
              cases e2
              exact ⟨_, rfl, by rw [List.length_append, List.length_singleton]; exact Nat.le_trans (Nat.add_le_add fitC (Nat.le_refl 1)) (by decide)⟩
            · obtain ⟨x, y, ⟨x2, y2, e1, e2, e4⟩, e3, rfl⟩ := e
              cases e1
              cases e2
              cases e3
              cases e4
              refine tup_dm (fun e he => ?_) ?_ ?_
              · rcases List.mem_append.mp he with h | h
                · rcases List.mem_append.mp h with h | h
                  · exact mine e (cut_sub e h)
                  · rw [List.mem_singleton.mp h]
                    exact other
                · exact mine e (cut_sub e h)
              · have c1 := cut_wt (ds := ds) (lo := none) (hi := some (i : Int))
                have c2 := cut_wt (ds := ds) (lo := some ((i : Int) + 1)) (hi := none)
                rw [wtAll_app, wtAll_app]
                omega
              · rw [show ((i : Int) + 1) = ((i + 1 : Nat) : Int) by omega, cutD_from, cutD_to, List.length_append, List.length_append, List.length_take, List.length_drop, List.length_singleton]
                omega
    | str x =>
      have es : isaN "str" (.str x) = true := isa_str
      have ei : isaN "int" (.str x) = false := isa_int
      cases hd1
      rw [isa_tuple]
      refine iteF (iteF ⟨.str x, rfl, rfl, .str x, .dx (.str x), _, rfl, ?_⟩)
      rw [isa_tuple]
      refine iteF ⟨.str x, rfl, rfl, .str x, .dx (.str x), _, rfl, ?_⟩
      rw [es]
      refine iteT ⟨.int way, rfl, way, 6, rfl, rfl, _, rfl, ?_⟩
      have lx : x.length + 1 ≤ 30000 := by simpa only [wt] using w2
      have ewx : wt (.str x) = x.length + 1 := by simp [wt]
      have bl : (100000 : Nat) ≤ sizeLine := by decide
      by_cases hw : way < 6
      · rw [decide_eq_true hw]
        obtain ⟨uf, ul⟩ := upper_fine fd
        have cl := cutS_length x (some 1) none
        have e1 : ("a" : Str).length = 1 := rfl
        have e2 : ("-" : Str).length = 1 := rfl
        have ea : (x ++ ("a" : Str)).length = x.length + 1 := by rw [strLen_append, e1]
        have eb : (x ++ ("-" : Str)).length = x.length + 1 := by rw [strLen_append, e2]
        refine iteT ⟨.str x, rfl, x, "a", rfl, rfl, by omega, .str x, rfl, 1, rfl, x, rfl, by omega, .str x, rfl, ⟨x, rfl⟩, x, rfl, rfl, by omega, .str x, rfl, x, "-", rfl, rfl, by omega, by show 6 ≤ sizeLine; decide, fun p np => ?_⟩
        obtain ⟨y, my, ey⟩ := pick (f := V.str) (ns := [x ++ ("a" : Str), cutS x (some 1) none, Txt.upper x, x ++ ("-" : Str), "abcdefgh", "abcdefghi"]) y0 hw
        have hy : DmG (.str x) (.str y) := by
          simp only [List.mem_cons, List.not_mem_nil, or_false] at my
          rcases my with rfl | rfl | rfl | rfl | rfl | rfl
          · exact str_dm (str_app_fine fd (by decide +kernel)) (by omega)
          · exact str_dm (str_cut_fine fd) (by omega)
          · exact str_dm uf (by omega)
          · exact str_dm (str_app_fine fd (by decide +kernel)) (by omega)
          · exact str_dm (by decide +kernel) (by have : ("abcdefgh" : Str).length = 8 := rfl; omega)
          · exact str_dm (by decide +kernel) (by have : ("abcdefghi" : Str).length = 9 := rfl; omega)
        exact ⟨.int way, rfl, p, _, way, .str y, rfl, rfl, .inl (.inl upd_same), ey, q _ _ _ (k1.new np) (st1.new np) (.str y) hy⟩
      · rw [decide_eq_false hw]
        refine iteF ⟨.str x, rfl, rfl, .str x, .dx (.str x), _, rfl, ?_⟩
        rw [ei]
        exact iteF (iteF (last (Keep.refl l H1) st1 rfl))
    | int i =>
      have es : isaN "str" (.int i) = false := isa_str
      have ei : isaN "int" (.int i) = true := isa_int
      have eb : isaN "bool" (.int i) = false := isa_bool
      cases hd1
      rw [isa_tuple]
      refine iteF (iteF ⟨.int i, rfl, rfl, .int i, .dx (.int i), _, rfl, ?_⟩)
      rw [isa_tuple]
      refine iteF ⟨.int i, rfl, rfl, .int i, .dx (.int i), _, rfl, ?_⟩
      rw [es]
      refine iteF (iteF ⟨.int i, rfl, rfl, .int i, .dx (.int i), _, rfl, ?_⟩)
      rw [ei]
      refine iteT ⟨.int i, rfl, rfl, .int i, .dx (.int i), _, rfl, ?_⟩
      rw [eb]
      refine iteT ⟨.int way, rfl, way, 6, rfl, rfl, _, rfl, ?_⟩
      by_cases hw : way < 6
      · rw [decide_eq_true hw]
        refine iteT ⟨.int i, rfl, i, 1, rfl, rfl, .int i, rfl, i, 1, rfl, rfl, 10, 6, rfl, rfl, ⟨by decide, by decide, by decide⟩, _, 1, rfl, rfl, 10, 9, rfl, rfl, ⟨by decide, by decide, by decide⟩, _, 1, rfl, rfl, 10, 9, rfl, rfl, ⟨by decide, by decide, by decide⟩, _, rfl, _, 1, rfl, rfl, by show 6 ≤ sizeLine; decide, fun p np => ?_⟩
        obtain ⟨y, my, ey⟩ := pick (f := V.int) (ns := [i + 1, i - 1, 10 ^ (6 : Int).toNat + 1, 10 ^ (9 : Int).toNat + 1, -(10 ^ (9 : Int).toNat) - 1, 0]) y0 hw
        have hy : DmG (.int i) (.int y) := by
          simp only [List.mem_cons, List.not_mem_nil, or_false] at my
          have z6 : (10 : Int) ^ (6 : Int).toNat = 1000000 := by decide
          have z9 : (10 : Int) ^ (9 : Int).toNat = 1000000000 := by decide
          rw [z6, z9] at my
          exact int_dm (by rcases my with rfl | rfl | rfl | rfl | rfl | rfl <;> omega)
        exact ⟨.int way, rfl, p, _, way, .int y, rfl, rfl, .inl (.inl upd_same), ey, q _ _ _ (k1.new np) (st1.new np) (.int y) hy⟩
      · rw [decide_eq_false hw]
        exact iteF (last (Keep.refl l H1) st1 rfl)
    | bool b =>
      have es : isaN "str" (.bool b) = false := isa_str
      have ei : isaN "int" (.bool b) = true := isa_int
      have eb : isaN "bool" (.bool b) = true := isa_bool
      cases hd1
      rw [isa_tuple]
      refine iteF (iteF ⟨.bl b, rfl, rfl, .bool b, .dx (.bl b), _, rfl, ?_⟩)
      rw [isa_tuple]
      refine iteF ⟨.bl b, rfl, rfl, .bool b, .dx (.bl b), _, rfl, ?_⟩
      rw [es]
      refine iteF (iteF ⟨.bl b, rfl, rfl, .bool b, .dx (.bl b), _, rfl, ?_⟩)
      rw [ei]
      refine iteT ⟨.bl b, rfl, rfl, .bool b, .dx (.bl b), _, rfl, ?_⟩
      rw [eb]
      exact iteF (iteF (last (Keep.refl l H1) st1 rfl))
    | none =>
      have es : isaN "str" (PyData.none) = false := isa_str
      have ei : isaN "int" (PyData.none) = false := isa_int
      rw [isa_tuple]
      refine iteF (iteF ⟨v, rfl, rfl, _, .dx (hd1.up (KX.hid_same l H1)), _, rfl, ?_⟩)
      rw [isa_tuple]
      refine iteF ⟨v, rfl, rfl, _, .dx (hd1.up (KX.hid_same l H1)), _, rfl, ?_⟩
      rw [es]
      refine iteF (iteF ⟨v, rfl, rfl, _, .dx (hd1.up (KX.hid_same l H1)), _, rfl, ?_⟩)
      rw [ei]
      exact iteF (iteF (last (Keep.refl l H1) st1 rfl))
    | list ds =>
      have es : isaN "str" (PyData.list ds) = false := isa_str
      have ei : isaN "int" (PyData.list ds) = false := isa_int
      rw [isa_tuple]
      refine iteF (iteF ⟨v, rfl, rfl, _, .dx (hd1.up (KX.hid_same l H1)), _, rfl, ?_⟩)
      rw [isa_tuple]
      refine iteF ⟨v, rfl, rfl, _, .dx (hd1.up (KX.hid_same l H1)), _, rfl, ?_⟩
      rw [es]
      refine iteF (iteF ⟨v, rfl, rfl, _, .dx (hd1.up (KX.hid_same l H1)), _, rfl, ?_⟩)
      rw [ei]
      exact iteF (iteF (last (Keep.refl l H1) st1 rfl))
    | dict ds =>
      have es : isaN "str" (PyData.dict ds) = false := isa_str
      have ei : isaN "int" (PyData.dict ds) = false := isa_int
      rw [isa_tuple]
      refine iteF (iteF ⟨v, rfl, rfl, _, .dx (hd1.up (KX.hid_same l H1)), _, rfl, ?_⟩)
      rw [isa_tuple]
      refine iteF ⟨v, rfl, rfl, _, .dx (hd1.up (KX.hid_same l H1)), _, rfl, ?_⟩
      rw [es]
      refine iteF (iteF ⟨v, rfl, rfl, _, .dx (hd1.up (KX.hid_same l H1)), _, rfl, ?_⟩)
      rw [ei]
      exact iteF (iteF (last (Keep.refl l H1) st1 rfl))
theorem ok_dm {f fD fA : Addr} {fd fdD fdA : FuncData} (B : Bl mg) (D : Df K mg "_law_damaged" sDm ["stream", "value", "deep"] f fd) (DD : Df K mg "_law_draw" sDraw ["stream", "total"] fD fdD) (DA : Df K mg "_law_unrelated" sUn ["stream"] fA fdA) : ∀ n, FnOk P w K mg base CX0 (3 + n) f fd ["stream", "value", "deep"] (spDm n)
  | 0 => ok_dm1 (k := 2) (sp' := fun _ _ _ _ => False) B D DD DA ((ok_draw B DD).mono (by decide)) (ok_un B DA DD (ok_draw B DD)) (D.F.ok scDm (fun _ _ _ _ h => h.elim) fun _ _ _ _ _ _ _ _ _ h => h.elim) (fun m e => by cases e)
  | n + 1 => ok_dm1 (k := 3 + n) (sp' := spDm n) B D DD DA ((ok_draw B DD).mono (by omega)) ((ok_un B DA DD (ok_draw B DD)).mono (by omega)) (ok_dm B D DD DA n) (fun j e vs H Q E h => by cases e; exact h)
end
end E1

set_option maxRecDepth 100000
set_option maxHeartbeats 1000000
namespace E1
open PySem PySem.Spec PyProof.Rows L2 KX
/-! ### tables: any data -/
def namesD (d : PyData) : Bool := tupB 1 6 d && (match d with
  | .tuple ds => ds.all nameD && ascS (ds.map strOf)
  | _ => false)
def pairsD (ns : List Str) : PyData → Bool
  | .tuple cs => ((allN ns).zip cs).all fun p => ascIn p.1 p.2
  | _ => false
def tblD : PyData → Bool
  | .tuple [a, b] => namesD a && (tupB ((allN (strsT a)).length : Nat) ((allN (strsT a)).length : Nat) b && pairsD (strsT a) b)
  | _ => false
structure Vt (d : PyData) : Prop where
  f : fine (10 ^ 40) d = true
  w : wt d ≤ 15000
  n : wid d ≤ 900
  p : d.depth ≤ 50
theorem Vt.item {ds : List PyData} (h : Vt (.tuple ds)) {d : PyData} (m : d ∈ ds) : Vt d := by
  obtain ⟨f, w, n, p⟩ := h
  simp only [fine] at f
  simp only [wt] at w
  simp only [wid] at n
  simp only [PyData.depth] at p
  have := wt_mem m
  have := wid_mem m
  have := depth_mem m
  exact ⟨fineAll_mem.mp f d m, by omega, by omega, by omega⟩
theorem Vt.len {ds : List PyData} (h : Vt (.tuple ds)) : ds.length ≤ 900 := Nat.le_trans (by simp only [wid]; omega) h.n
theorem Vt.sm {d : PyData} (h : Vt d) : smS d := by
  have w := h.w
  have hb : (30000 : Nat) ≤ sizeLine := by decide
  cases d with
  | str x =>
    simp only [wt] at w
    show x.length ≤ sizeLine
    omega
  | _ => trivial
theorem names_strs {ds : List PyData} (h : ds.all nameD = true) : ds = (ds.map strOf).map .str := by
  rw [List.map_map]
  have e : ds.map (PyData.str ∘ strOf) = ds.map id := List.map_congr_left fun d hd => by
    have := List.all_eq_true.mp h d hd
    cases d with
    | str x => rfl
    | _ => cases this
  rw [e, List.map_id]
theorem names_ok {d : PyData} (h : namesD d = true) : d = .tuple ((strsT d).map .str) ∧ TNs (strsT d) := by
  unfold namesD at h
  rw [Bool.and_eq_true] at h
  obtain ⟨h1, h2⟩ := h
  cases d with
  | tuple ds =>
    have h2 : (ds.all nameD && ascS (ds.map strOf)) = true := h2
    rw [Bool.and_eq_true] at h2
    have h1 : (decide ((1 : Int) ≤ (ds.length : Int)) && decide ((ds.length : Int) ≤ 6)) = true := h1
    rw [Bool.and_eq_true] at h1
    have l1 := of_decide_eq_true h1.1
    have l6 := of_decide_eq_true h1.2
    have e := names_strs h2.1
    refine ⟨congrArg PyData.tuple e, ⟨by show 1 ≤ (ds.map strOf).length; rw [List.length_map]; omega, by show (ds.map strOf).length ≤ 6; rw [List.length_map]; omega, fun n hn => ?_, h2.2⟩⟩
    obtain ⟨d, hd, rfl⟩ := List.mem_map.mp hn
    have := List.all_eq_true.mp h2.1 d hd
    cases d with
    | str x => exact this
    | _ => cases this
  | _ => cases h1
theorem all_some (ds : List PyData) (p : PyData → Bool) : (ds.filterMap fun d => some (p d)).all id = ds.all p := by
  rw [show (ds.filterMap fun d => some (p d)) = ds.map p from List.filterMap_eq_map ▸ rfl, List.all_map]
  rfl
def spTnD : Sp := fun vs H Q _ => ∃ (v : V) (d : PyData), vs = [v] ∧ Dx H v d ∧ Vt d ∧ ∀ H', Same H H' → Q (.bl (namesD d)) H'
def spItD : Sp := fun vs H Q _ => ∃ (v : V) (d : PyData), vs = [v] ∧ Dx H v d ∧ Vt d ∧ ∀ H', Same H H' → Q (.bl (tblD d)) H'
def spCtD (R : Addr) : Sp := fun vs H Q E => ∃ (v : V) (d : PyData), vs = [v] ∧ Dx H v d ∧ Vt d ∧ (tblD d = true → ∀ H', Same H H' → Q .non H') ∧ (tblD d = false → ∀ H', Same H H' → E (.ref R) none H')
section
variable {P : Program} {w : World} {K : PySem.W.Frag} {mg : Str → Option Value} {base : Heap}
theorem ok_tnD {k : Nat} {f fT fN fA : Addr} {fd gT gN gA : FuncData} (B : Bl mg) (cm : ∃ t, mg "MAX_NAMES" = some (.int 6 t)) (D : Df K mg "are_table_names" sTn ["value"] f fd) (DT : Df K mg "is_tuple_between" sTupB ["value", "low", "high"] fT gT) (DN : Df K mg "is_name" sName ["value"] fN gN) (DA : Df K mg "is_ascending" sAsc ["names"] fA gA)
    (GT : FnOk P w K mg base CX0 k fT gT ["value", "low", "high"] spTupB) (GN : FnOk P w K mg base CX0 k fN gN ["value"] spName) (GA : FnOk P w K mg base CX0 k fA gA ["names"] spAsc) : FnOk P w K mg base CX0 (k + 1) f fd ["value"] spTnD := by
  obtain ⟨tm, mm⟩ := cm
  refine D.F.ok scTn (fun vs H Q E h => ?_) (fun cdv A outer s H vs Q E hr h => ?_)
  · obtain ⟨v, d, rfl, _⟩ := h
    rfl
  · obtain ⟨v, d, rfl, hd, vt, q⟩ := h
    have nd := scTn.nd
    refine ⟨_, pss_cons (ps_if (pt_not (pt_val (pe_call GT hr (by rfl) DT.g DT.F.kp DT.b .nil pass0 (pa_cons (pv 0) (pa_cons pe_int (pa_cons (pe_glob (v := .int 6) (by rfl) mm ⟨_, rfl⟩) pa_nil)))))) (pss_one (ps_ret pe_bl)) pss_nil)
      (pss_one (ps_ret (pe_and (pe_callB (cr_all rfl) (by rfl) B.all (by decide +kernel) (pa_cons (pe_lc (own := [("name", 1)]) (g := gName 1) rfl nd (pi_tup (pv 0)) (blkOk_by (N := ["value", "name"]) (sc := defScope sTn) (by decide +kernel)) (fun _ _ _ _ _ => pg_name (i := 1) nd rfl (Or.inl rfl)) (fun _ _ _ _ _ => pts_nil)
          (fun _ _ _ _ _ => pe_call GN hr (by rfl) DN.g DN.F.kp DN.b .nil pass0 (pa_cons (pv 1) pa_nil))) pa_nil)) (pe_one (pe_call GA hr (by rfl) DA.g DA.F.kp DA.b .nil pass0 (pa_cons (pv 0) pa_nil)))))), ?_⟩
    refine ⟨v, rfl, v, d, 1, 6, rfl, .dx hd, _, rfl, ?_⟩
    cases ht : tupB 1 6 d with
    | false =>
      unfold namesD at q
      rw [ht, Bool.false_and] at q
      exact iteT (q H (Same.refl H))
    | true =>
      refine iteF ?_
      cases d with
      | tuple ds =>
        have q : ∀ H', Same H H' → Q (.bl (ds.all nameD && ascS (ds.map strOf))) H' := by
          unfold namesD at q
          rw [ht, Bool.true_and] at q
          exact q
        have len := vt.len
        obtain ⟨a, xs, rfl, ea, hx⟩ := dx_tup' hd
        refine ⟨.ref a, rfl, a, rfl, ⟨_, .inl (.inl ea)⟩, fun L nL => ?_⟩
        refine lc_gen (as := ds) (fun d => some (nameD d)) (fun _ y b => y = .bl b) (fun _ _ _ _ _ h => h) (walk_tup (K := K)) nL (fun G sG => .inl (.inl (sG _ _ ea))) hx.len.symm (by omega) (fun m x e G hxm hem sG Pt Pf kt kf => ?_) (fun G ys sG eL hp _ => ?_)
        · obtain ⟨e2, ee, hxe⟩ := hx.get' hxm
          rw [hem] at ee
          cases ee
          exact ⟨rfl, x, rfl, x, e, rfl, hxe.up sG, (vt.item (List.mem_of_getElem? hem)).sm, fun G2 s2 => kt _ rfl _ _ s2 rfl⟩
        · have eb := bools_of hp
          rw [eb] at eL
          refine ⟨L, _, rfl, .inl (.inl eL), _, rfl, ?_⟩
          rw [all_some]
          cases hn : ds.all nameD with
          | false =>
            rw [hn, Bool.false_and] at q
            exact iteF (q G sG)
          | true =>
            rw [hn, Bool.true_and] at q
            refine iteT ⟨.ref a, rfl, .ref a, ds.map strOf, rfl, ?_, by rw [List.length_map]; omega, fun H2 s2 => q H2 (sG.trans s2)⟩
            rw [← names_strs hn]
            exact .dx (hd.up sG)
      | _ => cases ht
theorem ok_itD {k : Nat} {f fT fN fS fA : Addr} {fd gT gN gS gA : FuncData} (B : Bl mg) (D : Df K mg "is_table" sIt ["value"] f fd) (DT : Df K mg "is_tuple_between" sTupB ["value", "low", "high"] fT gT) (DN : Df K mg "are_table_names" sTn ["value"] fN gN) (DS : Df K mg "nonempty_sets" sNs ["parts"] fS gS) (DA : Df K mg "are_ascending_among" sAa ["known", "value"] fA gA)
    (GT : FnOk P w K mg base CX0 k fT gT ["value", "low", "high"] spTupB) (GN : FnOk P w K mg base CX0 k fN gN ["value"] spTnD) (GS : FnOk P w K mg base CX0 k fS gS ["parts"] spNs) (GA : FnOk P w K mg base CX0 k fA gA ["known", "value"] spAa) : FnOk P w K mg base CX0 (k + 1) f fd ["value"] spItD := by
  refine D.F.ok scIt (fun vs H Q E h => ?_) (fun cdv A outer s H vs Q E hr h => ?_)
  · obtain ⟨v, d, rfl, _⟩ := h
    rfl
  · obtain ⟨v, d, rfl, hd, vt, q⟩ := h
    have nd := scIt.nd
    refine ⟨_, pss_cons (ps_if (PW.pt (pw_or (pt_not (pt_val (pe_call GT hr (by rfl) DT.g DT.F.kp DT.b .nil pass0 (pa_cons (pv 0) (pa_cons pe_int (pa_cons pe_int pa_nil)))))) (pw_or1 (pt_not (pt_val (pe_call GN hr (by rfl) DN.g DN.F.kp DN.b .nil pass0 (pa_cons (pe_ix (r := rIxT K) ix_tup (pv 0) pe_int (fun _ _ => rfl)) pa_nil))))))) (pss_one (ps_ret pe_bl)) pss_nil)
      (pss_cons (ps_set (i := 1) nd rfl (.inl rfl) (pe_call GS hr (by rfl) DS.g DS.F.kp DS.b .nil pass0 (pa_cons (pe_ix (r := rIxT K) ix_tup (pv 0) pe_int (fun _ _ => rfl)) pa_nil)))
      (pss_cons (ps_if (pt_not (pt_val (pe_call GT hr (by rfl) DT.g DT.F.kp DT.b .nil pass0 (pa_cons (pe_ix (r := rIxT K) ix_tup (pv 0) pe_int (fun _ _ => rfl)) (pa_cons (pe_callB call_len_seq (by rfl) B.len PySem.boot_len (pa_cons (pv 1) pa_nil)) (pa_cons (pe_callB call_len_seq (by rfl) B.len PySem.boot_len (pa_cons (pv 1) pa_nil)) pa_nil)))))) (pss_one (ps_ret pe_bl)) pss_nil)
      (pss_one (ps_ret (pe_callB (cr_all rfl) (by rfl) B.all (by decide +kernel) (pa_cons (pe_lc (own := [("names", 2), ("choice", 3)]) (g := gTup K 2 (gCons (gName 2) (gCons (gName 3) gNil))) rfl nd (pi_zipM (by rfl) B.zip (pa_cons (pv 1) (pa_cons (pe_ix (r := rIxT K) ix_tup (pv 0) pe_int (fun _ _ => rfl)) pa_nil))) (blkOk_by (N := NIt) (sc := defScope sIt) (by decide +kernel))
          (fun _ _ _ _ _ => pg_tup (by rfl) (pgs_cons (pg_name (i := 2) nd rfl (Or.inl rfl)) (pgs_cons (pg_name (i := 3) nd rfl (Or.inl rfl)) pgs_nil))) (fun _ _ _ _ _ => pts_nil) (fun _ _ _ _ _ => pe_call GA hr (by rfl) DA.g DA.F.kp DA.b .nil pass0 (pa_cons (pv 2) (pa_cons (pv 3) pa_nil)))) pa_nil)))))), ?_⟩
    refine ⟨v, rfl, v, d, 2, 2, rfl, .dx hd, _, rfl, ?_⟩
    by_cases two : ∃ x y, d = .tuple [x, y]
    · obtain ⟨d1, d2, rfl⟩ := two
      refine iteF ?_
      obtain ⟨a, xs, rfl, ea, hx⟩ := dx_tup' hd
      obtain ⟨v1, v2, rfl, h1, h2⟩ : ∃ v1 v2, xs = [v1, v2] ∧ Dx H v1 d1 ∧ Dx H v2 d2 := by
        cases hx with
        | cons h1 hx =>
          cases hx with
          | cons h2 hx =>
            cases hx
            exact ⟨_, _, rfl, h1, h2⟩
      have vt1 := vt.item (d := d1) (by simp)
      have vt2 := vt.item (d := d2) (by simp)
      have qq : ∀ H', Same H H' → Q (.bl (namesD d1 && (tupB ((allN (strsT d1)).length : Nat) ((allN (strsT d1)).length : Nat) d2 && pairsD (strsT d1) d2))) H' := q
      clear q
      refine ⟨.ref a, rfl, a, _, 0, v1, rfl, rfl, .inl (.inl ea), rfl, v1, d1, rfl, h1, vt1, fun H1 s1 => ⟨_, rfl, ?_⟩⟩
      cases hn : namesD d1 with
      | false =>
        rw [hn, Bool.false_and] at qq
        exact iteT (qq H1 s1)
      | true =>
        rw [hn, Bool.true_and] at qq
        refine iteF ?_
        obtain ⟨en, tn⟩ := names_ok hn
        generalize strsT d1 = ns at en tn qq
        subst en
        have la : (allN ns).length = 2 ^ ns.length - 1 := by
          unfold allN
          rw [List.length_map, List.length_range]
        have p64 : 2 ^ ns.length ≤ 2 ^ 6 := Nat.pow_le_pow_right (by decide) tn.l6
        refine ⟨.ref a, rfl, a, _, 0, v1, rfl, rfl, .inl (.inl (s1 _ _ ea)), rfl, v1, ns, rfl, .dx (h1.up s1), tn.l6, fun H2 p ys s2 np ep hy => ?_⟩
        refine gn_to (σ' := ([some (.ref a), some (.ref p), none, none] : L2.St)) rfl ?_
        try dsimp only
        have s02 := s1.trans s2
        have ly : ys.length = (allN ns).length := Paired.length hy
        refine ⟨.ref a, rfl, a, _, 1, v2, rfl, rfl, .inl (.inl (s02 _ _ ea)), rfl, .ref p, rfl, p, ys, rfl, .inl (.inl (.inl ep)), .ref p, rfl, p, ys, rfl, .inl (.inl (.inl ep)), v2, d2, _, _, rfl, .dx (h2.up s02), _, rfl, ?_⟩
        rw [ly]
        cases ht : tupB ((allN ns).length : Nat) ((allN ns).length : Nat) d2 with
        | false =>
          rw [ht, Bool.false_and] at qq
          exact iteT (qq H2 s02)
        | true =>
          rw [ht, Bool.true_and] at qq
          refine iteF ?_
          cases d2 with
          | tuple cs =>
            have lcs : cs.length = (allN ns).length := by
              have ht : (decide ((((allN ns).length : Nat) : Int) ≤ (cs.length : Int)) && decide ((cs.length : Int) ≤ (((allN ns).length : Nat) : Int))) = true := ht
              rw [Bool.and_eq_true] at ht
              have := of_decide_eq_true ht.1
              have := of_decide_eq_true ht.2
              omega
            obtain ⟨y, ws, rfl, ey, hw⟩ := dx_tup' h2
            have lw := hw.len
            have lz : ((allN ns).zip cs).length = (allN ns).length := by rw [List.length_zip, lcs, Nat.min_self]
            refine ⟨.ref p, rfl, .ref a, rfl, a, _, 1, .ref y, rfl, rfl, .inl (.inl (s02 _ _ ea)), rfl, p, y, ys, ws, rfl, .inl (.inl ep), .inl (.inl (s02 _ _ ey)), fun L nL => ?_⟩
            refine lc_genZ (as := (allN ns).zip cs) (fun p => some (ascIn p.1 p.2)) (fun _ y b => y = .bl b) (fun _ _ _ _ _ h => h) (walk_zipM (K := K) (by rw [ly, lz]) (by rw [lw, lcs, lz])) nL (fun G sG => ⟨.inl (.inl (sG _ _ ep)), .inl (.inl (sG _ _ (s02 _ _ ey)))⟩) (by omega) (fun m x u i T G hx hu hi sG eT Pt Pf kt kf => ?_) (fun G us sG eL hp _ => ?_)
            · obtain ⟨g1, g2⟩ := List.getElem?_zip_eq_some.mp hi
              obtain ⟨c1, e1, h1'⟩ := pair_at hy hx
              rw [g1] at e1
              cases e1
              obtain ⟨c2, e2, h2'⟩ := hw.get' hu
              rw [g2] at e2
              cases e2
              have vi := vt2.item (List.mem_of_getElem? g2)
              refine ⟨T, _, rfl, .inl (.inl eT), rfl, _, _, rfl, _, _, rfl, rfl, ?_⟩
              refine ⟨rfl, x, rfl, u, rfl, x, u, i.1, i.2, rfl, .dx (GtAt.tk (TK.same sG) h1'), h2'.up (s02.trans sG), fun es e => ?_, fun G2 s2 => kt _ rfl _ _ s2 rfl⟩
              rw [e] at vi
              exact Nat.le_trans vi.len (by decide)
            · have eb := bools_of hp
              rw [eb] at eL
              refine ⟨L, _, rfl, .inl (.inl eL), ?_⟩
              have e3 : ((((allN ns).zip cs).filterMap fun p => some (ascIn p.1 p.2)).all id) = pairsD ns (.tuple cs) := by
                rw [show (((allN ns).zip cs).filterMap fun p => some (ascIn p.1 p.2)) = ((allN ns).zip cs).map (fun p => ascIn p.1 p.2) from List.filterMap_eq_map ▸ rfl, List.all_map]
                rfl
              rw [e3]
              exact qq G (s02.trans sG)
          | _ => cases ht
    · have e1 : tupB 2 2 d = false ∧ tblD d = false := by
        cases d with
        | tuple ds =>
          match ds, two with
          | [], _ => exact ⟨rfl, rfl⟩
          | [_], _ => exact ⟨rfl, rfl⟩
          | [x, y], h => exact absurd ⟨x, y, rfl⟩ h
          | x :: y :: w :: r, _ =>
            refine ⟨?_, rfl⟩
            show (decide ((2 : Int) ≤ (((x :: y :: w :: r).length : Nat) : Int)) && decide ((((x :: y :: w :: r).length : Nat) : Int) ≤ 2)) = false
            rw [decide_eq_false (show ¬ ((((x :: y :: w :: r).length : Nat) : Int) ≤ 2) by simp only [List.length_cons]; omega), Bool.and_false]
        | _ => exact ⟨rfl, rfl⟩
      rw [e1.2] at q
      exact ite_to (by rw [e1.1]; rfl) (q H (Same.refl H))
theorem ok_ctD {k : Nat} {R f fI : Addr} {fd fdI : FuncData} (T : OC K mg "InvalidTable" R) (D : Df K mg "check_table" sCt ["table"] f fd) (DI : Df K mg "is_table" sIt ["value"] fI fdI) (GI' : FnOk P w K mg base CX0 k fI fdI ["value"] spItD) :
    FnOk P w K mg base (L2.CX P w) (k + 1) f fd ["table"] (spCtD R) := by
  refine D.F.okX scCt (fun vs H Q E h => ?_) (fun cdv A outer s H vs Q E hr h => ?_)
  · obtain ⟨v, d, rfl, _⟩ := h
    rfl
  · obtain ⟨v, d, rfl, hd, vt, q1, q2⟩ := h
    refine ⟨_, pss_one (ps_if (pt_not (pt_val (pe_call GI' hr (by rfl) DI.g DI.F.kp DI.b .nil pass0 (pa_cons (pv 0) pa_nil))))
        (pss_one (ps_raise rfl (takes_of rfl rfl rfl rfl) (pmk_own PySem.F.excBase_ValueError T.q T.g T.kp (raises_own T.sub T.ty) (by rfl)))) pss_nil), ?_⟩
    refine ⟨v, rfl, v, d, rfl, hd, vt, fun G sG => ⟨_, rfl, ?_⟩⟩
    cases e : tblD d with
    | true => exact iteF (q1 e G sG)
    | false => exact iteT (q2 e G sG)
end

end E1

set_option maxRecDepth 100000
set_option maxHeartbeats 1000000
namespace E1
open PySem PySem.Spec PyProof.Rows L2 KX
/-! ### what a set's choice is, selectable names, invalid tables -/
abbrev sTc : Stmt := topS 27
abbrev sCo : Stmt := topS 28
abbrev sSe : Stmt := topS 33
abbrev sFo : Stmt := topS 35
abbrev sAo : Stmt := topS 37
abbrev NCo : List Str := ["table", "names", "number"]
abbrev NFo : List Str := ["table", "names", "orderings", "_"]
theorem scTc : FnScope ["table", "names"] ["table", "names"] (defScope sTc) := ⟨rfl, rfl, rfl, by decide +kernel, rfl, by decide +kernel, by decide +kernel⟩
theorem scCo : FnScope NCo ["table", "names"] (defScope sCo) := ⟨rfl, rfl, rfl, by decide +kernel, rfl, by decide +kernel, by decide +kernel⟩
theorem scSe : FnScope ["table", "name"] ["table"] (defScope sSe) := ⟨rfl, rfl, rfl, by decide +kernel, rfl, by decide +kernel, by decide +kernel⟩
theorem scFo : FnScope NFo ["table"] (defScope sFo) := ⟨rfl, rfl, rfl, by decide +kernel, rfl, by decide +kernel, by decide +kernel⟩
theorem scAo : FnScope ["table", "value"] ["table", "value"] (defScope sAo) := ⟨rfl, rfl, rfl, by decide +kernel, rfl, by decide +kernel, by decide +kernel⟩
def choS (ns : List Str) (ks : List Nat) (p : Str → Bool) : List Str := subN ns (ks.getD (numN ns p) 0)
def selN (ns : List Str) (ks : List Nat) : List Str := ns.filter fun x => !(choS ns ks fun y => decide (y ∈ [x])).isEmpty
theorem allN_at {ns : List Str} {m : Nat} {c : List Str} (h : (allN ns)[m]? = some c) : m < 2 ^ ns.length - 1 ∧ c = subN ns (m + 1) := by
  unfold allN at h
  rw [List.getElem?_map] at h
  obtain ⟨i, hi, rfl⟩ := Option.map_eq_some_iff.mp h
  have hm : m < 2 ^ ns.length - 1 := by
    have := (List.getElem?_eq_some_iff.mp hi).1
    rwa [List.length_range] at this
  rw [List.getElem?_range hm] at hi
  cases hi
  exact ⟨hm, rfl⟩
/-- valid data is a table -/
theorem tbl_dec {d : PyData} (h : tblD d = true) : ∃ ns ks, TOk ns ks ∧ d = encT ns ks := by
  have two : ∃ x y, d = .tuple [x, y] := by
    cases d with
    | tuple ds =>
      match ds, h with
      | [], h => cases h
      | [_], h => cases h
      | [x, y], _ => exact ⟨x, y, rfl⟩
      | _ :: _ :: _ :: _, h => cases h
    | _ => cases h
  obtain ⟨a, b, rfl⟩ := two
  have h : (namesD a && (tupB ((allN (strsT a)).length : Nat) ((allN (strsT a)).length : Nat) b && pairsD (strsT a) b)) = true := h
  rw [Bool.and_eq_true, Bool.and_eq_true] at h
  obtain ⟨h1, h2, h3⟩ := h
  obtain ⟨ea, tn⟩ := names_ok h1
  generalize strsT a = ns at *
  subst ea
  have la : (allN ns).length = 2 ^ ns.length - 1 := by
    unfold allN
    rw [List.length_map, List.length_range]
  have p1 : 1 ≤ 2 ^ ns.length := Nat.one_le_two_pow
  cases b with
  | tuple cs =>
    have lcs : cs.length = 2 ^ ns.length - 1 := by
      have h2 : (decide ((((allN ns).length : Nat) : Int) ≤ (cs.length : Int)) && decide ((cs.length : Int) ≤ (((allN ns).length : Nat) : Int))) = true := h2
      rw [Bool.and_eq_true] at h2
      have := of_decide_eq_true h2.1
      have := of_decide_eq_true h2.2
      omega
    have each : ∀ (m : Nat) (c : PyData), cs[m]? = some c → m < 2 ^ ns.length - 1 ∧ ascIn (subN ns (m + 1)) c = true := fun m c hc => by
      have hm : m < (allN ns).length := by
        have := (List.getElem?_eq_some_iff.mp hc).1
        omega
      have h3 : (((allN ns).zip cs).all fun p => ascIn p.1 p.2) = true := h3
      have z : ((allN ns).zip cs)[m]? = some ((allN ns)[m], c) := List.getElem?_zip_eq_some.mpr ⟨List.getElem?_eq_getElem hm, hc⟩
      have := List.all_eq_true.mp h3 _ (List.mem_of_getElem? z)
      obtain ⟨g1, g2⟩ := allN_at (List.getElem?_eq_getElem hm)
      rw [g2] at this
      exact ⟨g1, this⟩
    have ok : TOk ns (0 :: cs.map (numD ns)) := by
      refine ⟨tn, by rw [List.length_cons, List.length_map]; omega, rfl, fun m k hk => ?_⟩
      cases m with
      | zero =>
        cases hk
        rfl
      | succ m =>
        rw [List.getElem?_cons_succ, List.getElem?_map] at hk
        obtain ⟨c, hc, rfl⟩ := Option.map_eq_some_iff.mp hk
        obtain ⟨hm, hasc⟩ := each m c hc
        have up : ascIn ns c = true := asc_up (fun x hx => sub_mem hx) hasc
        refine (and_sub tn.nd (numD_lt ns c)).mpr ?_
        rw [sub_numD tn up]
        exact (in_strsD hasc).2.1
    refine ⟨ns, _, ok, ?_⟩
    have e : cs = ((cs.map (numD ns)).map (subN ns)).map fun c => PyData.tuple (c.map .str) := by
      rw [List.map_map, List.map_map]
      conv => lhs; rw [← List.map_id cs]
      refine List.map_congr_left fun c hc => ?_
      obtain ⟨m, hm⟩ := List.getElem?_of_mem hc
      have up : ascIn ns c = true := asc_up (fun x hx => sub_mem hx) (each m c hm).2
      show c = .tuple ((subN ns (numD ns c)).map .str)
      rw [sub_numD tn up]
      exact (in_strsD up).1
    show PyData.tuple [.tuple (ns.map .str), .tuple cs] = .tuple [.tuple (ns.map .str), .tuple (((cs.map (numD ns)).map (subN ns)).map fun c => .tuple (c.map .str))]
    rw [← e]
  | _ => cases h2
theorem tbl_at {H : Hp} {v : V} {ns : List Str} {ks : List Nat} (h : Dx H v (encT ns ks)) : TblAt H v ns ks := by
  obtain ⟨a, xs, rfl, ea, hx⟩ := dx_tup' h
  obtain ⟨v1, v2, rfl, h1, h2⟩ : ∃ v1 v2, xs = [v1, v2] ∧ Dx H v1 (.tuple (ns.map .str)) ∧ Dx H v2 (.tuple ((chs ns ks).map fun c => .tuple (c.map .str))) := by
    cases hx with
    | cons h1 hx =>
      cases hx with
      | cons h2 hx =>
        cases hx
        exact ⟨_, _, rfl, h1, h2⟩
  obtain ⟨z, rfl, ez⟩ := vals_strsX h1
  obtain ⟨y, ws, rfl, ey, hw⟩ := dx_tup' h2
  exact ⟨a, z, y, ws, rfl, ea, .inl ez, ey, pair_dxs (f := fun c : List Str => PyData.tuple (c.map .str)) hw⟩
theorem chs_at {ns : List Str} {ks : List Nat} {m k : Nat} (e : ks[m + 1]? = some k) : (chs ns ks)[m]? = some (subN ns k) := by
  unfold chs
  rw [List.getElem?_map, List.getElem?_drop, Nat.add_comm, e]
  rfl
def spCo : Sp := fun vs H Q _ => ∃ (v u : V) (ns : List Str) (ks : List Nat) (cs : List Str), vs = [v, u] ∧ TblAt H v ns ks ∧ TOk ns ks ∧ Dx H u (.tuple (cs.map .str)) ∧ ∀ H' p, Same H H' → GtAt H' p (choS ns ks fun x => decide (x ∈ cs)) → Q p H'
def spSe (R : Addr) : Sp := fun vs H Q E => ∃ (v : V) (d : PyData), vs = [v] ∧ Dx H v d ∧ Vt d ∧ (tblD d = false → ∀ H', Same H H' → E (.ref R) none H') ∧ ∀ ns ks, d = encT ns ks → TOk ns ks → ∀ H' p, Same H H' → GtAt H' p (selN ns ks) → Q p H'
/-- a call with an invalid table -/
def spBad (R : Addr) : Sp := fun vs H _ E => ∃ (v : V) (d : PyData) (r : List V), vs = v :: r ∧ Dx H v d ∧ Vt d ∧ tblD d = false ∧ ∀ H', Same H H' → E (.ref R) none H'
def spBad1 (R : Addr) : Sp := fun vs H Q E => (∃ v, vs = [v]) ∧ spBad R vs H Q E
def spBad2 (R : Addr) : Sp := fun vs H Q E => (∃ v u, vs = [v, u]) ∧ spBad R vs H Q E
section
variable {P : Program} {w : World} {K : PySem.W.Frag} {mg : Str → Option Value} {base : Heap} {R : Addr}
theorem ok_co {k : Nat} {f fN : Addr} {fd gN : FuncData} (D : Df K mg "choice_of" sCo ["table", "names"] f fd) (DN : Df K mg "number_of" sNo ["names", "chosen"] fN gN) (GN : FnOk P w K mg base CX0 k fN gN ["names", "chosen"] spNo) : FnOk P w K mg base CX0 (k + 1) f fd ["table", "names"] spCo := by
  refine D.F.ok scCo (fun vs H Q E h => ?_) (fun cdv A outer s H vs Q E hr h => ?_)
  · obtain ⟨v, u, ns, ks, cs, rfl, _⟩ := h
    rfl
  · obtain ⟨v, u, ns, ks, cs, rfl, hd, ok, hu, q⟩ := h
    have nd := scCo.nd
    refine ⟨_, pss_cons (ps_set (i := 2) nd rfl (.inl rfl) (pe_call GN hr (by rfl) DN.g DN.F.kp DN.b .nil pass0 (pa_cons (pe_ix (r := rIxT K) ix_tup (pv 0) pe_int (fun _ _ => rfl)) (pa_cons (pv 1) pa_nil))))
      (pss_one (ps_ret (pe_ifExp (pt_truth (pv 2) (fun _ => rfl)) (pe_ix (r := rIxT K) ix_tup (pe_ix (r := rIxT K) ix_tup (pv 0) pe_int (fun _ _ => rfl)) (pe_op op_sub (pv 2) pe_int) (fun _ _ => rfl)) (pe_tup pa_nil)))), ?_⟩
    obtain ⟨a, z, y, ws, rfl, ea, ez, ey, hw⟩ := id hd
    refine ⟨.ref a, rfl, a, _, 0, .ref z, rfl, rfl, .inl (.inl ea), rfl, u, rfl, .ref z, u, ns, cs, rfl, strs_dz ez, hu, by have := ok.nms.l6; omega, fun H1 s1 => ?_⟩
    have hm := num_lt (fun x => decide (x ∈ cs)) ns
    have q : ∀ H' p, Same H H' → GtAt H' p (subN ns (ks.getD (numN ns fun x => decide (x ∈ cs)) 0)) → Q p H' := q
    generalize (numN ns fun x => decide (x ∈ cs)) = m at hm q ⊢
    have ek := getD_ks hm ok.len
    generalize ks.getD m 0 = kk at ek q
    refine gn_to (σ' := ([some (.ref a), some u, some (.int (m : Int))] : L2.St)) rfl ?_
    try dsimp only
    refine ⟨.int (m : Int), rfl, _, rfl, ?_⟩
    cases m with
    | zero =>
      rw [ok.zero] at ek
      cases ek
      refine ite_not rfl ⟨by show 0 ≤ sizeLine; decide, fun p np => q _ _ (s1.trans (same_new np)) ?_⟩
      rw [sub_zero]
      exact gt_mk (g := []) upd_same
    | succ m =>
      refine ite_to (bne_iff_ne.mpr (by omega)) ?_
      have ec := chs_at (ns := ns) ek
      obtain ⟨x, ex⟩ : ∃ x, ws[m]? = some x := ⟨ws[m]'(by rw [Paired.length hw]; exact (List.getElem?_eq_some_iff.mp ec).1), List.getElem?_eq_getElem _⟩
      obtain ⟨c, e1, hc⟩ := pair_at hw ex
      rw [ec] at e1
      cases e1
      refine ⟨.ref a, rfl, a, _, 1, .ref y, rfl, rfl, .inl (.inl (s1 _ _ ea)), rfl, .int ((m + 1 : Nat) : Int), rfl, ((m + 1 : Nat) : Int), 1, rfl, rfl, y, ws, _, x, rfl, rfl, .inl (.inl (s1 _ _ ey)), ?_, q _ _ s1 (GtAt.tk (TK.same s1) hc)⟩
      rw [show ((m + 1 : Nat) : Int) - 1 = (m : Int) by omega]
      exact atI_nat ex
theorem ok_se {k : Nat} {f fC fO : Addr} {fd gC gO : FuncData} (B : Bl mg) (D : Df K mg "selectable_names" sSe ["table"] f fd) (DC : Df K mg "check_table" sCt ["table"] fC gC) (DO : Df K mg "choice_of" sCo ["table", "names"] fO gO)
    (GC : FnOk P w K mg base (L2.CX P w) k fC gC ["table"] (spCtD R)) (GO : FnOk P w K mg base CX0 k fO gO ["table", "names"] spCo) : FnOk P w K mg base (L2.CX P w) (k + 1) f fd ["table"] (spSe R) := by
  refine D.F.okX scSe (fun vs H Q E h => ?_) (fun cdv A outer s H vs Q E hr h => ?_)
  · obtain ⟨v, d, rfl, _⟩ := h
    rfl
  · obtain ⟨v, d, rfl, hd, vt, qe, q⟩ := h
    have nd := scSe.nd
    refine ⟨_, pss_cons (ps_expr (pe_callS GC hr (by rfl) DC.g DC.F.kp DC.b (fun σ => passAt (takes_of rfl rfl rfl rfl) σ) (pa_cons (pv 0) pa_nil)))
      (pss_one (ps_ret (pe_callTy call_tuple_of (by rfl) B.tuple (by decide +kernel) (pa_cons (pe_lc (tt := tTru K (tCall spCo [] E0 (tCons (tVar 0) (tCons (tTup (tCons (tVar 1) tNil)) tNil)))) (own := [("name", 1)]) (g := gName 1) rfl nd (pi_tup (pe_ix (r := rIxT K) ix_tup (pv 0) pe_int (fun _ _ => rfl))) (blkOk_by (N := ["table", "name"]) (sc := defScope sSe) (by decide +kernel)) (fun _ _ _ _ _ => pg_name (i := 1) nd rfl (Or.inl rfl))
        (fun _ _ _ _ _ => pts_one (pt_truth (pe_call GO hr (by rfl) DO.g DO.F.kp DO.b .nil pass0 (pa_cons (pv 0) (pa_cons (pe_tup (pa_cons (pv 1) pa_nil)) pa_nil))) (fun _ => rfl))) (fun _ _ _ _ _ => pv 1)) pa_nil)))), ?_⟩
    refine ⟨v, rfl, v, d, rfl, hd, vt, fun e G sG => ?_, qe⟩
    obtain ⟨ns, ks, ok, rfl⟩ := tbl_dec e
    have q := q ns ks rfl ok
    have ht := tbl_at hd
    obtain ⟨a, z, y, ws, rfl, ea, ez, ey, hw⟩ := id ht
    refine ⟨.ref a, rfl, a, _, 0, .ref z, rfl, rfl, .inl (.inl (sG _ _ ea)), rfl, z, rfl, ⟨_, .inl (rd_up ez sG)⟩, fun L nL => ?_⟩
    refine lc_gen (as := ns) (fun x => if (!(choS ns ks fun y => decide (y ∈ [x])).isEmpty) = true then some x else none) (fun _ y n => y = .str n) (fun _ _ _ _ _ h => h) (walk_tup (K := K)) nL (fun F sF => .inl (rd_up (rd_up ez sG) sF)) (by rw [List.length_map]) (by have := ok.nms.l6; omega) (fun m x n F hxm hem sF Pt Pf kt kf => ?_) (fun F us sF eL hp _ => ?_)
    · rw [List.getElem?_map, hem] at hxm
      cases hxm
      have sA := sG.trans sF
      refine ⟨rfl, .ref a, rfl, .str n, rfl, by show 1 ≤ sizeLine; decide, fun b nb => ?_⟩
      have s2 := same_new (o := .tup [V.str n]) nb
      refine ⟨.ref a, .ref b, ns, ks, [n], rfl, ht.up (sA.trans s2), ok, gt_mk (g := [n]) upd_same, fun F2 p s3 hp => ?_⟩
      obtain ⟨r, rfl, er⟩ := vals_strsX hp
      refine ⟨_, .inr (.inl ⟨_, .inl (.inl er), rfl⟩), ?_⟩
      have ei : (!((choS ns ks fun x => decide (x ∈ [n])).map V.str).isEmpty) = !(choS ns ks fun x => decide (x ∈ [n])).isEmpty := by rw [List.isEmpty_map]
      rw [ei]
      cases zz : !(choS ns ks fun y => decide (y ∈ [n])).isEmpty with
      | true => exact iteT ⟨.str n, rfl, kt n (by rw [zz]; rfl) _ _ (s2.trans s3) rfl⟩
      | false => exact iteF (kf (by rw [zz]; rfl) _ (s2.trans s3))
    · rw [fm_if (fun x => !(choS ns ks fun y => decide (y ∈ [x])).isEmpty) (fun n => n), List.map_id'] at hp
      have eus := strs_of (H := F) hp
      subst eus
      refine ⟨L, _, rfl, .inl ⟨.inl (.inl eL), fun p np => ?_⟩⟩
      exact q _ _ ((sG.trans sF).trans (same_new np)) (gt_mk (g := selN ns ks) upd_same)
theorem ok_fvB {k : Nat} {f fC : Addr} {fd gC : FuncData} (D : Df K mg "find_violation" sFv ["table"] f fd) (DC : Df K mg "check_table" sCt ["table"] fC gC) (GC : FnOk P w K mg base (L2.CX P w) k fC gC ["table"] (spCtD R)) : FnOk P w K mg base (L2.CX P w) (k + 1) f fd ["table"] (spBad1 R) := by
  refine D.F.okX scFv (fun vs H Q E h => ?_) (fun cdv A outer s H vs Q E hr h => ?_)
  · obtain ⟨⟨v, rfl⟩, _⟩ := h
    rfl
  · obtain ⟨⟨v, rfl⟩, v', d, r, e, hd, vt, bad, q⟩ := h
    cases e
    refine ⟨_, pss_cons (ps_expr (pe_callS GC hr (by rfl) DC.g DC.F.kp DC.b (fun σ => passAt (takes_of rfl rfl rfl rfl) σ) (pa_cons (pv 0) pa_nil))) pss_never, ?_⟩
    refine ⟨v, rfl, v, d, rfl, hd, vt, fun z => ?_, fun _ => q⟩
    rw [bad] at z
    cases z
theorem ok_ivB {k : Nat} {f fC : Addr} {fd gC : FuncData} (D : Df K mg "is_violation" sIv ["table", "value"] f fd) (DC : Df K mg "check_table" sCt ["table"] fC gC) (GC : FnOk P w K mg base (L2.CX P w) k fC gC ["table"] (spCtD R)) : FnOk P w K mg base (L2.CX P w) (k + 1) f fd ["table", "value"] (spBad2 R) := by
  refine D.F.okX scIv (fun vs H Q E h => ?_) (fun cdv A outer s H vs Q E hr h => ?_)
  · obtain ⟨⟨v, u, rfl⟩, _⟩ := h
    rfl
  · obtain ⟨⟨v, u, rfl⟩, v', d, r, e, hd, vt, bad, q⟩ := h
    cases e
    refine ⟨_, pss_cons (ps_expr (pe_callS GC hr (by rfl) DC.g DC.F.kp DC.b (fun σ => passAt (takes_of rfl rfl rfl rfl) σ) (pa_cons (pv 0) pa_nil))) pss_never, ?_⟩
    refine ⟨v, rfl, v, d, rfl, hd, vt, fun z => ?_, fun _ => q⟩
    rw [bad] at z
    cases z
theorem ok_aoB {k : Nat} {f fC : Addr} {fd gC : FuncData} (D : Df K mg "are_orderings" sAo ["table", "value"] f fd) (DC : Df K mg "check_table" sCt ["table"] fC gC) (GC : FnOk P w K mg base (L2.CX P w) k fC gC ["table"] (spCtD R)) : FnOk P w K mg base (L2.CX P w) (k + 1) f fd ["table", "value"] (spBad2 R) := by
  refine D.F.okX scAo (fun vs H Q E h => ?_) (fun cdv A outer s H vs Q E hr h => ?_)
  · obtain ⟨⟨v, u, rfl⟩, _⟩ := h
    rfl
  · obtain ⟨⟨v, u, rfl⟩, v', d, r, e, hd, vt, bad, q⟩ := h
    cases e
    refine ⟨_, pss_cons (ps_expr (pe_callS GC hr (by rfl) DC.g DC.F.kp DC.b (fun σ => passAt (takes_of rfl rfl rfl rfl) σ) (pa_cons (pv 0) pa_nil))) pss_never, ?_⟩
    refine ⟨v, rfl, v, d, rfl, hd, vt, fun z => ?_, fun _ => q⟩
    rw [bad] at z
    cases z
theorem ok_tcB {k : Nat} {f fC : Addr} {fd gC : FuncData} (D : Df K mg "table_choice" sTc ["table", "names"] f fd) (DC : Df K mg "check_table" sCt ["table"] fC gC) (GC : FnOk P w K mg base (L2.CX P w) k fC gC ["table"] (spCtD R)) : FnOk P w K mg base (L2.CX P w) (k + 1) f fd ["table", "names"] (spBad2 R) := by
  refine D.F.okX scTc (fun vs H Q E h => ?_) (fun cdv A outer s H vs Q E hr h => ?_)
  · obtain ⟨⟨v, u, rfl⟩, _⟩ := h
    rfl
  · obtain ⟨⟨v, u, rfl⟩, v', d, r, e, hd, vt, bad, q⟩ := h
    cases e
    refine ⟨_, pss_cons (ps_expr (pe_callS GC hr (by rfl) DC.g DC.F.kp DC.b (fun σ => passAt (takes_of rfl rfl rfl rfl) σ) (pa_cons (pv 0) pa_nil))) pss_never, ?_⟩
    refine ⟨v, rfl, v, d, rfl, hd, vt, fun z => ?_, fun _ => q⟩
    rw [bad] at z
    cases z
theorem ok_foB {k : Nat} {f fV : Addr} {fd gV : FuncData} (D : Df K mg "find_orderings" sFo ["table"] f fd) (DV : Df K mg "find_violation" sFv ["table"] fV gV) (GV : FnOk P w K mg base (L2.CX P w) k fV gV ["table"] (spBad1 R)) : FnOk P w K mg base (L2.CX P w) (k + 1) f fd ["table"] (spBad1 R) := by
  refine D.F.okX scFo (fun vs H Q E h => ?_) (fun cdv A outer s H vs Q E hr h => ?_)
  · obtain ⟨⟨v, rfl⟩, _⟩ := h
    rfl
  · obtain ⟨⟨v, rfl⟩, v', d, r, e, hd, vt, bad, q⟩ := h
    cases e
    refine ⟨_, pss_cons (ps_if (pt_cmpR op_notN (pe_callS GV hr (by rfl) DV.g DV.F.kp DV.b (fun σ => passAt (takes_of rfl rfl rfl rfl) σ) (pa_cons (pv 0) pa_nil)) pe_non (nomark _)) pss_never pss_never) pss_never, ?_⟩
    exact ⟨v, rfl, ⟨v, rfl⟩, v, d, [], rfl, hd, vt, bad, q⟩
end

end E1

set_option maxRecDepth 100000
set_option maxHeartbeats 4000000
/-! Ex42: set(xs) of texts as an object, and sorted of it -/
namespace KX
open PySem PySem.Spec PyProof.Rows
def xOf (e : Int × Value) : Str := match e.2 with
  | .str x _ => x
  | _ => Str.empty
def GoodX (w : World) (e : Int × Value) : Prop := ∃ x t, e = (hashStr w x, .str x t)
theorem goodX_is {P : Program} {w : World} {e : Int × Value} (h : GoodX w e) (k : Str) : (strKind P w).is k e.2 = decide (xOf e = k) := by
  obtain ⟨x, t, rfl⟩ := h
  have h1 : (strKind P w).is x (.str x t) = true := strKind_is P w x t
  by_cases z : x = k
  · subst z
    rw [h1]
    exact (decide_eq_true rfl).symm
  · rw [show decide (xOf (hashStr w x, Value.str x t) = k) = false from decide_eq_false z]
    cases y : (strKind P w).is k (.str x t) with
    | false => rfl
    | true => exact absurd ((strKind P w).inj _ _ _ h1 y) z
theorem goodX_elems {P : Program} {w : World} {l : List (Int × Value)} (h : ∀ e ∈ l, GoodX w e) : ElemsOf (strKind P w) l := fun e he => by
  obtain ⟨x, t, rfl⟩ := h e he
  exact ⟨⟨x, strKind_is P w x t, rfl⟩, rfl⟩
/-- a set of the texts ks, no one twice, at D -/
def SetX (w : World) (h : Heap) (D : Addr) (ks : List Str) : Prop :=
  ∃ o es ep t, h.get? D = some o ∧ o.ExactSet ∧ o.data = .set es ep t ∧ (∀ e ∈ es.toList, GoodX w e) ∧ (es.toList.map xOf).Perm ks ∧ ks.Nodup ∧ es.size < scanBound ∧ t.fits es.size = true ∧
    L2.Ris t.place.toList ∧ (w.params.followText "set-order" = true ∨ t.led = true)
theorem SetX.at {w : World} {h h' : Heap} {D : Addr} {ks : List Str} (R : SetX w h D ks) (k : ∀ o, h.get? D = some o → h'.get? D = some o) : SetX w h' D ks := by
  obtain ⟨o, es, ep, t, ho, r⟩ := R
  exact ⟨o, es, ep, t, k o ho, r⟩
/-- the texts so far, each once -/
def addX (ks : List Str) (x : Str) : List Str := if x ∈ ks then ks else x :: ks
def accX (ts : List Str) : List Str := ts.foldl addX []
theorem setX_new {w : World} {h : Heap} {D : Addr} (ho : h.get? D = some (nSet (!w.params.followText "set-order"))) : SetX w h D [] :=
  ⟨_, #[], 0, _, ho, ⟨rfl, rfl, rfl⟩, rfl, (fun e he => by simp at he), .nil, .nil, (by decide), (by rfl), List.Pairwise.nil, by
    show _ ∨ (!w.params.followText "set-order") = true
    cases w.params.followText "set-order"
    · exact .inr rfl
    · exact .inl rfl⟩
section
variable {P : Program} {w : World} {A : Around} {E : Value → Shared → Prop} {s : Shared} {D : Addr} {ks : List Str}
open L2 in
theorem setX_tail {gw : Bool → Sem Unit} (hg : ∀ (b : Bool) (s1 : Shared) (Qz : Unit → Shared → Prop), Qz () s1 → wpAny (model P w) A (gw b) Qz E s1)
    {o : Obj} {es : Array (Int × Value)} {ep : Nat} {t : SetTable} (ho : s.heap.get? D = some o) (hex : o.ExactSet) (hd : o.data = .set es ep t)
    {fs : Array (Int × Value)} {t2 : SetTable} {ms : List Str} (g1 : ∀ e ∈ fs.toList, GoodX w e) (p1 : (fs.toList.map xOf).Perm ms) (n1 : ms.Nodup)
    (few : fs.size < scanBound) (fit : t2.fits fs.size = true) (rs : Ris t2.place.toList) (ld : w.params.followText "set-order" = true ∨ t2.led = true) {dm : Bool} {R : Option Bool → Shared → Prop}
    (fin : ∀ h2, Heap.SameBut D s.heap h2 → SetX w h2 D ms → R (some true) { s with heap := h2 }) :
    wpAny (model P w) A (do
        storeSet D fs t2
        if (!dm && t2.tooFull) = true then do
            gw (relayAll t2 fs (SetTable.grown fs.size)).2.2
            storeSet D (relayAll t2 fs (SetTable.grown fs.size)).1 (relayAll t2 fs (SetTable.grown fs.size)).2.1
            pure (some true)
          else pure (some true)) R E s := by
  refine wpAny_bind (wpAny_storeSet_of ho hd ?_ (fits_of_scanBound few))
  have at1 := store_at (es' := fs) (t' := t2) ho hd
  have but1 := Heap.SameBut.update s.heap D (Obj.putSet fs t2)
  split
  · have pm := relayAll_perm t2 fs (SetTable.grown fs.size)
    have f3 := relayAll_fits t2 fs (SetTable.grown fs.size)
    have r3 := relayAll_ris t2 fs (SetTable.grown fs.size)
    have l3 := relayAll_led t2 fs (SetTable.grown fs.size)
    generalize relayAll t2 fs (SetTable.grown fs.size) = Zr at pm f3 r3 l3 ⊢
    obtain ⟨gs, t3, gv⟩ := Zr
    dsimp only at pm f3 r3 l3 ⊢
    have zs : gs.size = fs.size := by rw [← Array.length_toList, pm.length_eq, Array.length_toList]
    have few3 : gs.size < scanBound := by rw [zs]; exact few
    refine wpAny_bind (hg _ _ _ ?_)
    refine wpAny_bind (wpAny_storeSet_of at1 rfl ?_ (fits_of_scanBound few3))
    have at3 := store_at (es' := gs) (t' := t3) at1 rfl
    refine wpAny_pure (fin _ (but1.trans (Heap.SameBut.update _ D _)) ?_)
    exact ⟨_, gs, _, t3, at3, hex, rfl, fun e he => g1 e (pm.mem_iff.mp he), (pm.map xOf).trans p1, n1, few3, f3, r3, ld.imp id fun y => by rw [l3]; exact y⟩
  · exact wpAny_pure (fin _ but1 ⟨_, fs, _, t2, at1, hex, rfl, g1, p1, n1, few, fit, rs, ld⟩)
open L2 in
theorem setX_add {k : Str} {tk : Tok} {Q : Bool → Shared → Prop} (R : SetX w s.heap D ks) (room : ks.length + 1 < scanBound)
    (fin : ∀ b h2, Heap.SameBut D s.heap h2 → SetX w h2 D (addX ks k) → Q b { s with heap := h2 }) : wpAny (model P w) A (setAddHashed D (.str k tk) ((strKind P w).hash k)) Q E s := by
  obtain ⟨o, es, ep, t, ho, hex, hd, g, pm0, n0, few, fit, rs, ld⟩ := R
  have hkey : (strKind P w).is k (.str k tk) = true := strKind_is P w k tk
  have sca : (Value.str k tk).scannable = true := rfl
  have hel : ElemsOf (strKind P w) es.toList := goodX_elems g
  have lz : es.size = ks.length := by rw [← Array.length_toList, ← pm0.length_eq, List.length_map]
  unfold setAddHashed setAddHashedIn
  refine wpAny_holding (wpAny_bind (wpAny_setState_of ho hd fit ?_))
  dsimp only
  rw [byScan_of sca few hel]
  simp only [↓reduceIte]
  unfold setAddByScan
  refine wpAny_bind ?_
  refine wpAny_bind (wpAny_rule ?_)
  refine wpAny_bind (wpAny_setScan_of hkey ho hd fit hel ?_)
  cases fi : List.findIdx? (fun e => (strKind P w).is k e.2) es.toList with
  | some j =>
    dsimp only
    obtain ⟨hj, pj, _⟩ := List.findIdx?_eq_some_iff_getElem.mp fi
    have hk : k ∈ ks := by
      have pj : (strKind P w).is k (es.toList[j]).2 = true := pj
      rw [goodX_is (g _ (List.getElem_mem hj))] at pj
      exact pm0.mem_iff.mp (List.mem_map.mpr ⟨_, List.getElem_mem hj, of_decide_eq_true pj⟩)
    refine wpAny_pure (wpAny_pure ?_)
    have q := fin false s.heap (Heap.SameBut.refl D s.heap)
    unfold addX at q
    rw [if_pos hk] at q
    exact q ⟨o, es, ep, t, ho, hex, hd, g, pm0, n0, few, fit, rs, ld⟩
  | none =>
    dsimp only
    have hk : k ∉ ks := fun y => by
      obtain ⟨e, he, ee⟩ := List.mem_map.mp (pm0.mem_iff.mpr y)
      have c := List.findIdx?_eq_none_iff.mp fi e he
      rw [goodX_is (g e he), decide_eq_true ee] at c
      cases c
    have gv : ∀ (b : Bool) {s1 : Shared} {Qz : Unit → Shared → Prop}, Qz () s1 → wpAny (model P w) A (match b with | true => rule "set.scan.the-table-gave-way" | false => pure ()) Qz E s1 :=
      fun b s1 Qz q => by cases b <;> first | exact wpAny_pure q | exact wpAny_rule q
    have pm := layNew_perm t es ((strKind P w).hash k) (.str k tk)
    have f1 := layNew_fits t es ((strKind P w).hash k) (.str k tk)
    have r1 := layNew_ris t es ((strKind P w).hash k) (.str k tk) rs
    have l1 := layNew_led t es ((strKind P w).hash k) (.str k tk)
    generalize layNew t es ((strKind P w).hash k) (.str k tk) = Zr at pm f1 r1 l1 ⊢
    obtain ⟨fs, t1, dm, gave⟩ := Zr
    dsimp only at pm f1 r1 l1 ⊢
    rw [Array.toList_push] at pm
    have pc : fs.toList.Perm (((strKind P w).hash k, Value.str k tk) :: es.toList) := pm.trans (List.perm_append_singleton _ _)
    have pk : (fs.toList.map xOf).Perm (k :: ks) := (pc.map xOf).trans (pm0.cons k)
    have g1 : ∀ e ∈ fs.toList, GoodX w e := fun e he => by
      rcases List.mem_cons.mp (pc.mem_iff.mp he) with y | y
      · rw [y]; exact ⟨k, tk, rfl⟩
      · exact g e y
    have zs : fs.size = ks.length + 1 := by rw [← Array.length_toList, pc.length_eq, List.length_cons, Array.length_toList, lz]
    have few1 : fs.size < scanBound := by rw [zs]; exact room
    have led1 : w.params.followText "set-order" = true ∨ t1.led = true := ld.imp id fun y => by rw [l1]; exact y
    have nd1 : (k :: ks).Nodup := List.nodup_cons.mpr ⟨hk, n0⟩
    have fin2 : ∀ h2, Heap.SameBut D s.heap h2 → SetX w h2 D (k :: ks) → Q true { s with heap := h2 } := fun h2 sb r => by
      have q := fin true h2 sb
      unfold addX at q
      rw [if_neg hk] at q
      exact q r
    refine wpAny_bind (gv _ ?_)
    split
    · refine wpAny_bind ?_
      rw [hashByValue_scannable 8 sca]
      refine wpAny_pure ?_
      refine setX_tail ?_ ho hex hd g1 pk nd1 few1 ?_ ?_ ?_ ?_
      · intro b s1 Qz q; cases b <;> first | exact wpAny_pure q | exact wpAny_rule q
      · first | (split <;> first | exact f1 | exact SetTable.fits_plain_off f1) | exact f1
      · first | (split <;> exact r1) | exact r1
      · first | (split <;> exact led1) | exact led1
      · intro h2 sb r; dsimp only; exact wpAny_pure (fin2 h2 sb r)
    · refine wpAny_bind (wpAny_pure ?_)
      simp only [↓reduceIte]
      refine setX_tail ?_ ho hex hd g1 pk nd1 few1 f1 r1 led1 ?_
      · intro b s1 Qz q; cases b <;> first | exact wpAny_pure q | exact wpAny_rule q
      · intro h2 sb r; dsimp only; exact wpAny_pure (fin2 h2 sb r)
end
theorem accX_len (ts : List Str) : ∀ ks : List Str, (ts.foldl addX ks).length ≤ ks.length + ts.length := by
  induction ts with
  | nil => intro ks; exact Nat.le_refl _
  | cons x ts ih =>
    intro ks
    have := ih (addX ks x)
    have h2 : (addX ks x).length ≤ ks.length + 1 := by
      unfold addX
      split
      · omega
      · rw [List.length_cons]; omega
    rw [List.foldl_cons, List.length_cons]
    omega
section
variable {prog : Program} {w : World} {A : Around} {R : Result → Shared → Prop} {It : Addr} {fz wz : List Addr} {Gz : Array GenState → Array GenState → Prop} {m : Nat} {Pz : Nat → Value → Prop} {Sz : Nat → Shared → Prop}
theorem loopX (Wk : WalksS prog w A.in1 It fz wz Gz m Pz Sz) (D : Addr) (nD : D ∉ fz) (ts : List Str) (lm : ts.length = m) (few : m + 1 < scanBound) (isT : ∀ i v, Pz i v → ∃ t, v = .str (ts.getD i Str.empty) t) :
    ∀ (c i : Nat) (s : Shared), m - i = c → i ≤ m → Sz i s → SetX w s.heap D (accX (ts.take i)) →
      (∀ s2, Moved (D :: wz) Gz s s2 → SetX w s2.heap D (accX ts) → R (.ok (.ret .none)) s2) → codeAny (model prog w) A (.builtin "set.update.loop" ⟨[.ref D, .ref It], []⟩) R s := by
  have nDw : D ∉ wz := fun z => nD (Wk.sub _ z)
  have more : ∀ b ∈ wz, b ∈ D :: wz := fun b z => List.mem_cons_of_mem _ z
  intro c
  induction c with
  | zero =>
    intro i s ec le st so fin
    obtain rfl : i = m := by omega
    refine codeAny_builtin F.entry_set_update_loop ?_
    rw [Around.under_plainId F.plain_set_update_loop _]
    show wpAny _ A.in1 (pyNext (.ref It) >>= _) _ _ s
    refine wpAny_bind (Wk.done s _ _ st fun s1 mv => ?_)
    rw [List.take_of_length_le (by omega)] at so
    exact wpAny_pure (fin s1 (mv.mono more) (so.at fun o e => mv.heap D o nDw e))
  | succ c again =>
    intro i s ec le st so fin
    have lt : i < m := by omega
    refine codeAny_builtin F.entry_set_update_loop ?_
    rw [Around.under_plainId F.plain_set_update_loop _]
    show wpAny _ A.in1 (pyNext (.ref It) >>= _) _ _ s
    refine wpAny_bind (Wk.item i s _ _ lt st fun v s1 hv st1 mv => ?_)
    obtain ⟨tk, rfl⟩ := isT i v hv
    have so1 : SetX w s1.heap D (accX (ts.take i)) := so.at fun o e => mv.heap D o nDw e
    obtain ⟨x, ex⟩ : ∃ x, x = ts.getD i Str.empty := ⟨_, rfl⟩
    have gx : ts[i]? = some x := by
      rw [ex, List.getD_eq_getElem?_getD, List.getElem?_eq_getElem (by omega)]
      rfl
    rw [← ex]
    show wpAny _ A.in1 (holding [Value.str x tk] (setAdd D (.str x tk)) >>= _) _ _ s1
    refine wpAny_bind (wpAny_holding ?_)
    unfold setAdd
    refine wpAny_holding (wpAny_bind ((PySem.strKind prog w).pyHash (k := x) (strKind_is _ _ _ _) ?_))
    have la := accX_len (ts.take i) []
    have la2 : (accX (ts.take i)).length ≤ i := by
      have : (ts.take i).length ≤ i := by rw [List.length_take]; exact Nat.min_le_left _ _
      show ((ts.take i).foldl addX []).length ≤ i
      rw [List.length_nil] at la
      omega
    refine setX_add (s := { s1 with toks := s1.toks + 1 }) so1 (by omega) fun b h2 but so2 => ?_
    have so3 : SetX w h2 D (accX (ts.take (i + 1))) := by
      have e : accX (ts.take (i + 1)) = addX (accX (ts.take i)) x := by
        unfold accX
        rw [List.take_add_one, gx, List.foldl_append]
        rfl
      rw [e]
      exact so2
    refine wpAny_pure ⟨plainId_quiet F.plain_set_update_loop _, again (i + 1) _ (by omega) lt (Wk.frame _ s1 _ _ st1 (Nat.le_succ _) fun b hb o e => ?_) so3 fun s3 mv3 so4 => ?_⟩
    · rw [but.2 b (fun z : b = D => nD (by rw [← z]; exact hb))]
      exact e
    · refine fin s3 (Moved.trans Wk.gtrans ((mv.mono more).then_heap (Nat.le_succ _) fun b o hb e => ?_) mv3) so4
      rw [but.2 b (fun z : b = D => hb (by rw [z]; exact List.mem_cons_self))]
      exact e
end
end KX

set_option maxRecDepth 100000
set_option maxHeartbeats 4000000
/-! Ex43: set(t), sorted(set(t)) of a tuple of texts -/
namespace KX
open PySem PySem.Spec PyProof.Rows
section
variable {prog : Program} {w : World} {A : Around} {E : Value → Shared → Prop} {s : Shared}
open L2 in
theorem call_setX {tp : Addr} {ys : Array Value} {ts : List Str} {Q : Value → Shared → Prop} (noh : A.handled = none) (ht : s.heap.IsTuple tp ys) (are : StrsAre ys.toList ts) (few : ts.length + 1 < scanBound)
    (fin : ∀ (h2 : Heap) (tk : Nat), SetX w h2 s.heap.objs.size (accX ts) → (∀ b o, b < s.heap.objs.size → s.heap.get? b = some o → h2.get? b = some o) →
      Q (.ref s.heap.objs.size) { s with heap := h2, toks := tk }) : wpAny (model prog w) A (call (.type "set") [.ref tp]) Q E s := by
  obtain ⟨c1, tl1, gmro⟩ := PySem.F.called_set.mro
  have gmade := PySem.F.called_set.made
  have gsub := PySem.F.called_set.sub
  have g1 := PySem.F.called_set.notType
  have g2 := PySem.F.called_set.canCreate
  have gct := PySem.F.typeCall_set_1 (.ref tp)
  refine wpAny_call (codeAny_of_tree (show wpAny _ _ (callAny (.type "set") _) _ _ _ from wpAny_pure ⟨Code.quiet_builtin _ (by decide +kernel), codeAny_builtin PySem.F.entry_type_call ?_⟩))
  rw [Around.under_plain (weight_type_call_type "set" [.ref tp] []) rfl]
  repeat (any_goals (first | wp_step | assumption))
  refine codeAny_mono (code_set_led1 (.ref tp) (E := E) (Q₁ := fun ob t1 => ob = .ref s.heap.objs.size ∧ t1 = { s with heap := s.heap.push (nSet (!w.params.followText "set-order")) }) ⟨rfl, rfl⟩) fun r1 t1 k1 => ?_
  cases r1 with
  | error e => exact k1
  | ok f1 =>
    cases f1 with
    | ret ob =>
      obtain ⟨eo, et⟩ := k1
      subst eo et
      have atS : (s.heap.push (nSet (!w.params.followText "set-order"))).get? s.heap.objs.size = some (nSet (!w.params.followText "set-order")) := Heap.get?_push_size _ rfl
      have tyS : Shared.TypeIs { s with heap := s.heap.push (nSet (!w.params.followText "set-order")) } (.ref s.heap.objs.size) "set" := ⟨_, atS, rfl⟩
      have gli := PySem.F.called_set.init.lookup
      have gbi := PySem.F.called_set.init.bind (.ref s.heap.objs.size)
      repeat (any_goals (first | wp_step | assumption))
      refine codeAny_mono (codeAny_call_builtin (R := wants (fun r t2 => r = .none ∧ ∃ h2 tk, t2 = { s with heap := h2, toks := tk } ∧ SetX w h2 s.heap.objs.size (accX ts) ∧
          (∀ b o, b < s.heap.objs.size → s.heap.get? b = some o → h2.get? b = some o)) E) PySem.F.called_set.init.plain PySem.F.entry_set_init (check_set_init_1 tyS ?_)) fun r2 t2 k2 => ?_
      · obtain ⟨⟨oc, od, odat, osl⟩, eT, ec, nT, ed⟩ := ht
        simp only at ec ed
        subst ec
        subst ed
        have eT2 : (s.heap.push (nSet (!w.params.followText "set-order"))).get? tp = some { cls := .type "tuple", dict := od, data := .seq ys nT, slots := osl } := Heap.get?_push_of_some _ eT
        have b1 := PySem.F.sub_tuple_set
        have b2 := PySem.F.sub_tuple_frozenset
        have b3 : (Value.type "tuple" == Value.type "dict") = false := by decide
        have isT : (s.heap.push (nSet (!w.params.followText "set-order"))).IsTuple tp ys := ⟨_, eT2, rfl, nT, rfl⟩
        unfold Builtin.«set.__init__» noKeywords Builtin.Frozenset.updateFrom
        generalize kept : pyIter = iterF
        wp_walk
        subst kept
        refine wpAny_pyIter_tuple isT (wpAny_bind (wpAny_runValue ?_))
        have ltp : tp < s.heap.objs.size := Heap.lt_size eT
        have noh3 : A.in1.in1.in1.handled = none := by simp [noh]
        have szP : (s.heap.push (nSet (!w.params.followText "set-order"))).objs.size = s.heap.objs.size + 1 := Heap.size_push ..
        have ne1 : tp ≠ (s.heap.push (nSet (!w.params.followText "set-order"))).objs.size := by rw [szP]; exact Nat.ne_of_lt (Nat.lt_succ_of_lt ltp)
        have ne2 : s.heap.objs.size ∉ [(s.heap.push (nSet (!w.params.followText "set-order"))).objs.size, tp] := by
          rw [szP]
          simp only [List.mem_cons, List.not_mem_nil, or_false, not_or]
          exact ⟨Nat.ne_of_lt (Nat.lt_succ_self _), Nat.ne_of_gt ltp⟩
        have lz : ts.length = ys.size := by rw [← StrsAre.len_eq are, Array.length_toList]
        refine loopX ((Walks.tuple noh3 _ tp ne1 ys).toS) s.heap.objs.size ne2 ts lz (by rw [← lz]; exact few) (fun i v hv => SS.strs_at are i v (by rw [Array.getElem?_toList]; exact hv)) (ys.size - 0) 0 _ (by omega) (Nat.zero_le _)
          ⟨⟨_, Heap.get?_push_size _ rfl, rfl, rfl⟩, (isT.push _)⟩ ?z0 ?z1
        case z0 =>
          have gg : ((s.heap.push (nSet (!w.params.followText "set-order"))).push { cls := .type "tuple_iterator", data := .fields #[.ref tp, .int 0 0] }).get? s.heap.objs.size = some (nSet (!w.params.followText "set-order")) := Heap.get?_push_of_some _ atS
          exact setX_new gg
        case z1 =>
          intro t3 mv so
          obtain ⟨h3, g3, d3, k3, o3⟩ := t3
          obtain rfl : g3 = s.gens := mv.gens
          obtain rfl : d3 = s.drawn := mv.drawn
          obtain rfl : o3 = s.os := mv.os
          show wpAny _ _ _ _ _ _
          refine wpAny_pure (show wpAny _ _ (ret Value.none) _ _ _ from wpAny_pure ⟨rfl, h3, k3, rfl, so, fun b o hb e => ?_⟩)
          refine mv.heap b o ?_ (Heap.get?_push_of_some _ (Heap.get?_push_of_some _ e))
          rw [szP]
          simp only [List.mem_cons, List.not_mem_nil, or_false, not_or]
          exact ⟨Nat.ne_of_lt hb, Nat.ne_of_lt (Nat.lt_succ_of_lt hb)⟩
      · cases r2 with
        | error e => exact k2
        | ok f2 =>
          cases f2 with
          | ret r =>
            obtain ⟨rfl, h2, tk, rfl, so, old⟩ := k2
            repeat (any_goals (first | wp_step | assumption))
            exact fin _ _ so old
          | _ => exact k2.elim
    | _ => exact k1.elim
end
end KX

set_option maxRecDepth 100000
set_option maxHeartbeats 4000000
/-! Ex44: sorted(set(t)) of texts -/
namespace KX
open PySem PySem.Spec PyProof.Rows
section
variable {prog : Program} {w : World} {A : Around} {E : Value → Shared → Prop} {s : Shared}
open L2 PySem.W in
theorem sorted_setX {D : Addr} {ks : List Str} {Q : Value → Shared → Prop} (R : SetX w s.heap D ks) (hh : A.handled = none) (hu : A.units + 4 < cLine)
    (fin : ∀ (s2 : Shared) (p : Addr) (out : List Value) (c : Nat), (∀ b o, s.heap.get? b = some o → s2.heap.get? b = some o) → s2.gens = s.gens → s2.os = s.os → s.heap.objs.size ≤ p →
      (∃ ms : List Str, ms.Perm ks ∧ s2.heap.get? p = some (seqObj "list" out.toArray c) ∧ Vals ((ms.mergeSort (dataLe false PyData.str)).map V.str) out) → Q (.ref p) s2) :
    wpAny (model prog w) A (call (.builtin "sorted") [.ref D]) Q E s := by
  obtain ⟨o, es, ep, t, ho, hex, hd, g, pm0, n0, few, fit, rs, ld⟩ := R
  have lz : es.size = ks.length := by rw [← Array.length_toList, ← pm0.length_eq, List.length_map]
  refine Calls.call_function_entry kind_sorted plain_sorted entry_sorted (args_sorted1 _) ?_
  unfold Builtin.«sorted»
  refine wpAny_bind (m := checkCount "sorted" 1 1 _) (wpAny_pure ?_)
  refine wpAny_bind (collect_set (A := A.in1) hh ⟨o, ho, hex.1, hd⟩ fit few rs ld fun s1 vs k1 hz g1 o1 pm => ?_)
  have each : ∀ v ∈ vs, ∃ x t, v = Value.str x t := fun v hv => by
    obtain ⟨e, he, q⟩ := List.mem_map.mp (pm.mem_iff.mp hv)
    obtain ⟨x, t, rfl⟩ := g e he
    exact ⟨x, t, q.symm⟩
  have xo : ∀ l : List Value, (∀ v ∈ l, ∃ x t, v = Value.str x t) → EachIs (fun v (b : Str) => RelV (.str b) v) l (l.map fun v => xOf (0, v)) := by
    intro l
    induction l with
    | nil => intro _; exact .nil
    | cons v l ih =>
      intro h
      obtain ⟨x, t, rfl⟩ := h v List.mem_cons_self
      exact .cons ⟨t, rfl⟩ (ih fun u hu => h u (List.mem_cons_of_mem _ hu))
  have eR := xo vs each
  have pk : (vs.map fun v => xOf (0, v)).Perm ks := by
    have q := pm.map fun v => xOf (0, v)
    rw [List.map_map] at q
    exact q.trans pm0
  generalize (vs.map fun v => xOf (0, v)) = ms at eR pk
  have lv : vs.length = ks.length := by rw [eR.length, pk.length_eq]
  have hlen : vs.length ≤ sizeLine := by rw [lv, ← lz]; exact fits_of_scanBound few
  refine wpAny_bind (wpAny_newList ?_ hlen)
  have at1 : (s1.heap.push (seqObj "list" vs.toArray 0)).get? s1.heap.objs.size = some (seqObj "list" vs.toArray 0) := Heap.get?_push_size _ rfl
  have al : AllAlike (ms.map PyData.str) := AllAlike.of fun a b => by simp [alike]
  have er : ∀ h : Heap, EachIs (fun v (b : Str) => ∃ as, Reads h v (PyData.str b) as) vs ms := fun h => eR.mono fun v b r => by
    obtain ⟨t, rfl⟩ := r
    exact ⟨[], .str b t⟩
  refine wpAny_bind (wpAny_holding (wpAny_call_entry_kw slot_list_sort ⟨_, at1, rfl⟩ entry_list_sort ?body (args_list_sort _)))
  case body =>
    show wpAny (model prog w) A.in1.in1 (Builtin.«list.sort» ⟨[.ref s1.heap.objs.size], []⟩) _ _ { s1 with heap := s1.heap.push (seqObj "list" vs.toArray 0) }
    refine list_sort_vals (s := { s1 with heap := s1.heap.push (seqObj "list" vs.toArray 0) }) at1 (SortsAt.data (s := { s1 with heap := sortingHeap (s1.heap.push (seqObj "list" vs.toArray 0)) s1.heap.objs.size vs }) (each_map (R := fun v d => ∃ as, Reads (sortingHeap (s1.heap.push (seqObj "list" vs.toArray 0)) s1.heap.objs.size vs) v d as) PyData.str (er _)) al (Sortable.others fun n => ⟨by simp, by simp⟩) (bound_map fun b _ => by
      simp only [PyData.depth, Around.in1_units]
      omega)) hlen ?_
    have fe := sortVals_data (h' := sortingHeap (s1.heap.push (seqObj "list" vs.toArray 0)) s1.heap.objs.size vs) (enc := PyData.str) false eR (er _) al
    have rel : ∀ {us : List Value} {ps : List Str}, EachIs (fun v (b : Str) => RelV (.str b) v) us ps → Vals (ps.map V.str) us := by
      intro us ps e
      induction e with
      | nil => exact .nil
      | cons h t ih => exact .cons h ih
    generalize sortVals (dataKind (sortingHeap (s1.heap.push (seqObj "list" vs.toArray 0)) s1.heap.objs.size vs) (ms.map PyData.str)) false vs vs = out at fe
    obtain ⟨c, hc⟩ := sortedHeap_at (vs := vs) (out := out.toArray) at1
    refine ⟨.none, rfl, wpAny_pure ⟨_, rfl, fin _ s1.heap.objs.size out c (fun b u e => ?_) g1 o1 hz ⟨ms, pk, hc, rel fe⟩⟩⟩
    have q := k1 b u e
    have lt := Heap.lt_size q
    show (sortedHeap (s1.heap.push (seqObj "list" vs.toArray 0)) s1.heap.objs.size vs out.toArray).get? b = some u
    rw [sortedHeap_old (Nat.ne_of_lt lt) (by rw [size_push']; exact Nat.lt_succ_of_lt lt)]
    exact Heap.get?_push_of_some _ q
end
end KX
namespace KX
open PySem PySem.Spec PyProof.Rows L2
/-- a set of texts as an object -/
def SetXO (w : World) (D : Addr) (ks : List Str) : HO := .ext fun h => SetX w h D ks
section
variable {X : Cx}
theorem setXO_new {w : World} {P : Program} {H : Hp} {h : Heap} {D : Addr} {ks : List Str} (R : SetX w h D ks) : ObjOk P w H h D (SetXO w D ks) := by
  have ⟨o, _, _, _, ho, _⟩ := R
  exact ⟨R, ⟨o, ho⟩, fun h1 h2 p k => SetX.at p k⟩
/-- set(t), t a tuple of texts -/
def rSetXT (K : PySem.W.Frag) (w : World) : List V → Hp → VK → Prop := fun xs H Q => ∃ (l : Addr) (ts : List Str), xs = [.ref l] ∧ SqT K H l (ts.map V.str) ∧ ts.length ≤ 1000 ∧ ∀ p, H p = none → Q (.ref p) (upd H p (SetXO w p (accX ts)))
theorem cr_setXT (cm : X.calm = true) : CallR X (.type "set") (rSetXT X.K X.w) := by
  intro pins s σ H xs us Q I r h
  obtain ⟨l, ts, rfl, hq, few, q⟩ := h
  obtain ⟨u, rfl, ru⟩ := vals1 r
  cases ru
  obtain ⟨its, rv, pl, hz⟩ := I.tuple hq
  have hb : (1001 : Nat) < scanBound := by decide
  refine call_setX (I.ok.hd cm) pl (ts := ts) (by simpa using strsAre_of rv) (by omega) fun h2 tk so old => ?_
  exact ⟨.ref _, upd H s.heap.objs.size (SetXO X.w s.heap.objs.size (accX ts)), I.laid (t' := tk) (fun b o e => old b o (Heap.lt_size e) e) (Nat.le_refl _) (setXO_new so), rfl, q _ (I.hok.fresh (Nat.le_refl _))⟩
/-- sorted(s), s a set of texts -/
def rSortedX (w : World) : List V → Hp → VK → Prop := fun xs H Q => ∃ (D : Addr) (ks : List Str), xs = [.ref D] ∧ H D = some (SetXO w D ks) ∧ ks.length ≤ 1000 ∧ ∀ (ms : List Str) (p : Addr), ms.Perm ks → H p = none → Q (.ref p) (upd H p (.lst ((ms.mergeSort (PySem.W.dataLe false PyData.str)).map V.str)))
theorem cr_sortedX {k : Nat} (cm : X.calm = true) (hr : Room k X.A) : CallR X (.builtin "sorted") (rSortedX X.w) := by
  intro pins s σ H xs us Q I r h
  obtain ⟨D, ks, rfl, ha, few, q⟩ := h
  obtain ⟨u, rfl, ru⟩ := vals1 r
  cases ru
  have R : SetX X.w s.heap D ks := (I.hok D _ ha).1
  have hun := hr.un
  refine sorted_setX R (I.ok.hd cm) (by omega) fun s2 p out c kp g1 o1 hp ⟨ms, pm, hg, rv⟩ => ?_
  have hlen : ((ms.mergeSort (PySem.W.dataLe false PyData.str)).map V.str).length ≤ sizeLine := by
    have hb : (1000 : Nat) ≤ sizeLine := by decide
    rw [List.length_map, List.length_mergeSort, pm.length_eq]
    omega
  have hn : H p = none := I.hok.fresh hp
  have J : Inv X pins σ (upd H p (.lst ((ms.mergeSort (PySem.W.dataLe false PyData.str)).map V.str))) { s with heap := s2.heap, gens := s2.gens, drawn := s2.drawn, toks := s2.toks } :=
    I.call (ch := []) (Un.laid kp hp hn) (I.hok.laid kp hp ⟨hlen, out, c, rv, hg⟩) (by rw [g1]; exact I.bare) (fun _ z => nomatch z)
  have e : s2 = { s with heap := s2.heap, gens := s2.gens, drawn := s2.drawn, toks := s2.toks } := by
    cases s2
    cases s
    cases o1
    rfl
  rw [e]
  exact ⟨.ref p, _, J, rfl, q ms p pm hn⟩
end
end KX

set_option maxRecDepth 100000
set_option maxHeartbeats 1000000
namespace E1
open PySem PySem.Spec PyProof.Rows L2 KX
/-! ### the law's own check -/
abbrev sVN : Stmt := topS 54
abbrev sVT : Stmt := topS 55
theorem scVN : FnScope ["value", "letter"] ["value"] (defScope sVN) := ⟨rfl, rfl, rfl, by decide +kernel, rfl, by decide +kernel, by decide +kernel⟩
/-- the signs that are no letters -/
def odd (l : List Nat) : List Str := (l.filter fun c => !decide (c ∈ abc.cps.toList)).map fun c => ⟨#[c]⟩
theorem odd_nil' : ∀ l : List Nat, (odd l).isEmpty = l.all fun c => decide (c ∈ abc.cps.toList)
  | [] => rfl
  | c :: l => by
    have ih := odd_nil' l
    unfold odd at ih ⊢
    rw [List.filter_cons, List.all_cons, ← ih]
    cases decide (c ∈ abc.cps.toList) <;> simp
theorem odd_nil (x : Str) : (odd x.cps.toList).isEmpty = letD x := odd_nil' _
theorem odd_in {c : Nat} (h : c ∈ abc.cps.toList) : odd [c] = [] := by
  unfold odd
  rw [List.filter_cons, decide_eq_true h]
  rfl
theorem odd_out {c : Nat} (h : ¬ c ∈ abc.cps.toList) : odd [c] = [⟨#[c]⟩] := by
  unfold odd
  rw [List.filter_cons, decide_eq_false h]
  rfl
section
variable {P : Program} {w : World} {K : PySem.W.Frag} {mg : Str → Option Value} {base : Heap}
theorem ok_vn {f : Addr} {fd : FuncData} (B : Bl mg) (D : Df K mg "_law_valid_name" sVN ["value"] f fd) : FnOk P w K mg base CX0 1 f fd ["value"] spName := by
  refine D.F.ok scVN (fun vs H Q E h => ?_) (fun cdv A outer s H vs Q E hr h => ?_)
  · obtain ⟨v, d, rfl, _⟩ := h
    rfl
  · obtain ⟨v, d, rfl, hd, hsm, q⟩ := h
    refine ⟨_, pss_cons (ps_if (PW.pt (pw_or (pt_not (pt_val (pe_isD (T := "str") (x := "str") (by decide +kernel) B.isi B.str (by decide +kernel) (pv 0) (by rfl) (by rfl))))
        (pw_or1 (pt_not (pt_chain op_lt op_lt pe_int (pe_callB call_len_str (by rfl) B.len PySem.boot_len (pa_cons (pv 0) pa_nil)) pe_int))))) (pss_one (ps_ret pe_bl)) pss_nil)
      (pss_one (ps_ret (pe_cmpR (op_eqP hr.units) (pe_lc (own := [("letter", 1)]) (g := gName 1) rfl scVN.nd (pi_str (pv 0)) (blkOk_by (N := ["value", "letter"]) (sc := defScope sVN) (by decide +kernel))
        (fun _ _ _ _ _ => pg_name (i := 1) scVN.nd rfl (Or.inl rfl)) (fun _ _ _ _ _ => pts_one (pt_cmpR op_notIn_sign (pv 1) pe_str (by rfl))) (fun _ _ _ _ _ => pv 1)) (pe_lst pa_nil) (nomark _)))), ?_⟩
    refine ⟨v, rfl, rfl, d, .dx hd, _, rfl, ?_⟩
    rw [isa_str]
    cases d with
    | str x =>
      cases hd
      refine iteF ⟨.str x, rfl, x, rfl, hsm, 0, _, rfl, rfl, _, rfl, ?_⟩
      have en : nameD (.str x) = ((decide (1 ≤ (x.length : Int)) && decide ((x.length : Int) ≤ 8)) && letD x) := rfl
      rw [en] at q
      by_cases h1 : 1 ≤ (x.length : Int)
      · rw [decide_eq_true h1] at q
        rw [decide_eq_true (show (0 : Int) < (x.length : Int) by omega)]
        refine iteT ⟨_, _, rfl, rfl, _, rfl, ?_⟩
        by_cases h2 : (x.length : Int) ≤ 8
        · rw [decide_eq_true h2] at q
          rw [decide_eq_true (show (x.length : Int) < 9 by omega)]
          refine iteF ⟨_, rfl, x, rfl, fun D nD => ?_⟩
          refine lc_it walk_str (fun i G => Same H G ∧ G D = some (.lst ((odd (x.cps.toList.take i)).map V.str))) ⟨same_at (Same.refl H) nD, upd_same⟩ (fun _ _ _ _ => trivial) (fun i c G G' hi hp hy => ?_) (fun G hp => ?_)
          · obtain ⟨rfl, cc, ec, rfl⟩ := hy
            have et : x.cps.toList.take (i + 1) = x.cps.toList.take i ++ [cc] := by
              rw [List.take_add_one, show x.cps.toList[i]? = some cc by simpa using ec]
              rfl
            have eo : odd (x.cps.toList.take i ++ [cc]) = odd (x.cps.toList.take i) ++ odd [cc] := by
              unfold odd
              rw [List.filter_append, List.map_append]
            refine ⟨rfl, _, rfl, cc, abc, rfl, rfl, _, rfl, ?_⟩
            by_cases hc : cc ∈ abc.cps.toList
            · have e1 : odd [cc] = [] := odd_in hc
              rw [decide_eq_true hc]
              refine iteF ⟨hp.1, ?_⟩
              rw [et, eo, e1, List.append_nil]
              exact hp.2
            · have e1 : odd [cc] = [⟨#[cc]⟩] := odd_out hc
              rw [decide_eq_false hc]
              refine iteT ⟨_, rfl, _, hp.2, ?_, same_at hp.1 nD, ?_⟩
              · have h8 : (odd (x.cps.toList.take i)).length ≤ i := by
                  unfold odd
                  rw [List.length_map]
                  refine Nat.le_trans (List.length_filter_le _ _) ?_
                  rw [List.length_take]
                  exact Nat.min_le_left _ _
                have hx : x.cps.size = x.length := by simp [Str.length]
                have hb : (8 : Nat) < sizeLine := by decide
                rw [List.length_map]
                omega
              · rw [upd_same, et, eo, e1, List.map_append]
                rfl
          · have hx : x.cps.toList.take x.cps.size = x.cps.toList := List.take_of_length_le (by simp)
            rw [hx] at hp
            refine ⟨Nat.zero_le _, fun p np => ?_⟩
            refine ⟨.list ((odd x.cps.toList).map PyData.str), .list [], .lst (.inl (.inl ?_)) (KX.dp_strs _), .lst (.inl (.inl upd_same)) .nil, pl_strs _, rfl, min_nil _, ?_⟩
            · rw [upd_ne (ne_of_none hp.2 np)]
              exact hp.2
            · rw [eqv_nil, List.isEmpty_map, odd_nil]
              exact q _ (same_at hp.1 (hp.1.free np))
        · rw [decide_eq_false h2] at q
          rw [decide_eq_false (show ¬ (x.length : Int) < 9 by omega)]
          exact iteT (q H (Same.refl H))
      · rw [decide_eq_false h1] at q
        rw [decide_eq_false (show ¬ (0 : Int) < (x.length : Int) by omega)]
        exact iteF ⟨_, rfl, iteT (q H (Same.refl H))⟩
    | _ => exact iteT (q H (Same.refl H))
end
def bad1 (d : PyData) : Option Int := if (!nameD d) = true then some 1 else none
theorem bad1_nil : ∀ ds : List PyData, (ds.filterMap bad1).isEmpty = ds.all nameD
  | [] => rfl
  | d :: ds => by
    rw [List.all_cons, ← bad1_nil ds]
    unfold bad1
    cases h : nameD d <;> simp [List.filterMap_cons, h]
theorem eqvL_nil : ∀ ds : List PyData, PyData.eqv (.list ds) (.list []) = ds.isEmpty
  | [] => by simp [PyData.eqv, PyData.eqvAll]
  | d :: ds => by simp [PyData.eqv, PyData.eqvAll]
theorem dp_intsL {K : PySem.W.Frag} {H : Hp} : ∀ ns : List Int, DpAll K H (ns.map V.int) (ns.map PyData.int)
  | [] => .nil
  | n :: ns => .cons (.int n) (dp_intsL ns)
theorem flat_ints : ∀ ns : List Int, PyData.plainAll (ns.map PyData.int) = true ∧ PyData.depthAll (ns.map PyData.int) = 0
  | [] => by simp [PyData.plainAll, PyData.depthAll]
  | n :: ns => by simp [PyData.plainAll, PyData.depthAll, PyData.plain, PyData.depth, flat_ints ns]
theorem nil_intL {K : PySem.W.Frag} {f : Bool → Bool} {H : Hp} {p q : Addr} {xs : List Int} {Q : VK} (e1 : H p = some (.lst (xs.map V.int))) (e2 : H q = some (.lst [])) (k : Q (.bl (f xs.isEmpty)) H) : rEqP K f (.ref p) (.ref q) H Q := by
  obtain ⟨f1, f2⟩ := flat_ints xs
  refine ⟨.list (xs.map .int), .list [], .lst (.inl (.inl e1)) (dp_intsL _), .lst (.inl (.inl e2)) .nil, by simp only [PyData.plain]; exact f1, rfl, Nat.le_trans (Nat.min_le_left _ _) (by simp only [PyData.depth]; omega), ?_⟩
  rw [eqvL_nil, List.isEmpty_map]
  exact k
theorem names_tup (ds : List PyData) : namesD (.tuple ds) = (tupB 1 6 (.tuple ds) && (ds.all nameD && ascS (ds.map strOf))) := rfl
/-- a strictly rising list is its own sorted set -/
theorem addX_mem {ks : List Str} {x y : Str} : y ∈ addX ks x ↔ y ∈ ks ∨ y = x := by
  unfold addX
  split
  · next h => exact ⟨.inl, fun z => z.elim id fun e => e ▸ h⟩
  · rw [List.mem_cons]
    exact Or.comm
theorem fold_mem {y : Str} : ∀ (ts ks : List Str), y ∈ ts.foldl addX ks ↔ y ∈ ks ∨ y ∈ ts
  | [], ks => by simp
  | x :: ts, ks => by
    rw [List.foldl_cons, fold_mem ts, addX_mem, List.mem_cons]
    constructor
    · rintro ((h | h) | h)
      · exact .inl h
      · exact .inr (.inl h)
      · exact .inr (.inr h)
    · rintro (h | h | h)
      · exact .inl (.inl h)
      · exact .inl (.inr h)
      · exact .inr h
theorem acc_mem {y : Str} {ts : List Str} : y ∈ accX ts ↔ y ∈ ts := by
  unfold accX
  rw [fold_mem]
  simp
theorem addX_nd {ks : List Str} {x : Str} (h : ks.Nodup) : (addX ks x).Nodup := by
  unfold addX
  split
  · exact h
  · next k => exact List.nodup_cons.mpr ⟨k, h⟩
theorem fold_nd : ∀ (ts ks : List Str), ks.Nodup → (ts.foldl addX ks).Nodup
  | [], _, h => h
  | x :: ts, ks, h => fold_nd ts (addX ks x) (addX_nd h)
theorem set_sorted {ts ms : List Str} (pm : ms.Perm (accX ts)) : decide (srtN ms = ts) = ascS ts := by
  have nd : ms.Nodup := pm.nodup_iff.mpr (fold_nd ts [] .nil)
  have a := srt_asc nd
  have mem : ∀ x, x ∈ srtN ms ↔ x ∈ ts := fun x => ((srt_perm ms).mem_iff.trans pm.mem_iff).trans acc_mem
  cases h : ascS ts with
  | true => exact decide_eq_true (asc_eq (asc_pw a) (asc_pw h) mem)
  | false =>
    refine decide_eq_false fun e => ?_
    rw [e, h] at a
    cases a
theorem pair_ascA {ns : List Str} {es : List PyData} (ha : ascS ns = true) : eqSt (ns.filter fun n => es.any (isSt n)) es = ascIn ns (.tuple es) := by
  rw [Bool.eq_iff_iff, eqSt_is]
  constructor
  · intro h
    rw [h]
    exact asc_in (fun x hx => (List.mem_filter.mp hx).1) (pw_asc ((asc_pw ha).sublist List.filter_sublist))
  · intro h
    obtain ⟨e, h1, h2⟩ := in_strsD h
    have e : es = (strsT (.tuple es)).map .str := PyData.tuple.inj e
    generalize strsT (.tuple es) = cs at e h1 h2
    subst e
    have e2 : (ns.filter fun n => (cs.map PyData.str).any (isSt n)) = ns.filter (fun x => decide (x ∈ cs)) := List.filter_congr fun x _ => any_isSt
    have e3 : ns.filter (fun x => decide (x ∈ cs)) = cs := asc_eq ((asc_pw ha).sublist List.filter_sublist) (asc_pw h2) fun x => by
      rw [List.mem_filter, decide_eq_true_eq]
      exact ⟨fun h => h.2, fun h => ⟨h1 x h, h⟩⟩
    rw [e2, e3]
abbrev NVT : List Str := ["value", "names", "choices", "name", "at", "choice", "subset"]
theorem scVT : FnScope NVT ["value"] (defScope sVT) := ⟨rfl, rfl, rfl, by decide +kernel, rfl, by decide +kernel, by decide +kernel⟩
section
variable {P : Program} {w : World} {K : PySem.W.Frag} {mg : Str → Option Value} {base : Heap}
theorem ok_vt {k : Nat} {f fV fS : Addr} {fd gV gS : FuncData} (B : Bl mg) (hset : mg "set" = none) (D : Df K mg "_law_valid_table" sVT ["value"] f fd) (DV : Df K mg "_law_valid_name" sVN ["value"] fV gV) (DS : Df K mg "_law_subset" sSu ["names", "mask"] fS gS)
    (GV : FnOk P w K mg base CX0 k fV gV ["value"] spName) (GS : FnOk P w K mg base CX0 k fS gS ["names", "mask"] spMb) : FnOk P w K mg base CX0 (k + 1) f fd ["value"] spItD := by
  refine D.F.ok scVT (fun vs H Q E h => ?_) (fun cdv A outer s H vs Q E hr h => ?_)
  · obtain ⟨v, d, rfl, _⟩ := h
    rfl
  · obtain ⟨v, d, rfl, hd, vt, q⟩ := h
    have nd := scVT.nd
    refine ⟨_, pss_cons (ps_if (PW.pt (pw_or (pt_not (pt_val (pe_isD (T := "tuple") (x := "tuple") (by decide +kernel) B.isi B.tuple (by decide +kernel) (pv 0) (by rfl) (by rfl))))
        (pw_or (pt_cmpR op_ne (pe_callB (call_lenK (K := K) rfl) (by rfl) B.len PySem.boot_len (pa_cons (pv 0) pa_nil)) pe_int (nomark _))
        (pw_or1 (pt_not (pt_val (pe_isD (T := "tuple") (x := "tuple") (by decide +kernel) B.isi B.tuple (by decide +kernel) (pe_ix (r := rIxT K) ix_tup (pv 0) pe_int (fun _ _ => rfl)) (by rfl) (by rfl)))))))) (pss_one (ps_ret pe_bl)) pss_nil)
      (pss_cons (ps_asg (pv 0) (pg_tup (by rfl) (pgs_cons (pg_name (i := 1) nd rfl (.inl rfl)) (pgs_cons (pg_name (i := 2) nd rfl (.inl rfl)) pgs_nil))))
      (pss_cons (ps_if (pt_cmpR (op_neP hr.units) (pe_lc (own := [("name", 3)]) (g := gName 3) rfl nd (pi_tup (pv 1)) (blkOk_by (N := NVT) (sc := defScope sVT) (by decide +kernel)) (fun _ _ _ _ _ => pg_name (i := 3) nd rfl (Or.inl rfl))
          (fun _ _ _ _ _ => pts_one (pt_not (pt_val (pe_call GV hr (by rfl) DV.g DV.F.kp DV.b .nil pass0 (pa_cons (pv 3) pa_nil))))) (fun _ _ _ _ _ => pe_int)) (pe_lst pa_nil) (nomark _)) (pss_one (ps_ret pe_bl)) pss_nil)
      (pss_cons (ps_if (pt_cmpR (op_neLX hr.units) (pe_callTy call_lst2 (by rfl) B.list (by decide +kernel) (pa_cons (pv 1) pa_nil)) (pe_callB (r := rSortedX w) (cr_sortedX rfl hr) (by rfl) B.sorted (by decide +kernel) (pa_cons (pe_callTy (r := rSetXT K w) (cr_setXT rfl) (by rfl) hset (by decide +kernel) (pa_cons (pv 1) pa_nil)) pa_nil)) (nomark _)) (pss_one (ps_ret pe_bl)) pss_nil)
      (pss_cons (ps_if (PW.pt (pw_or (pt_not (pt_chain op_le op_le pe_int (pe_callB (call_lenK (K := K) rfl) (by rfl) B.len PySem.boot_len (pa_cons (pv 1) pa_nil)) pe_int)) (pw_or1 (pt_not (pt_val (pe_isD (T := "tuple") (x := "tuple") (by decide +kernel) B.isi B.tuple (by decide +kernel) (pv 2) (by rfl) (by rfl))))))) (pss_one (ps_ret pe_bl)) pss_nil)
      (pss_cons (ps_if (pt_cmpR op_ne (pe_callB (call_lenK (K := K) rfl) (by rfl) B.len PySem.boot_len (pa_cons (pv 2) pa_nil)) (pe_op op_sub (pe_op op_shl pe_int (pe_callB (call_lenK (K := K) rfl) (by rfl) B.len PySem.boot_len (pa_cons (pv 1) pa_nil))) pe_int) (nomark _)) (pss_one (ps_ret pe_bl)) pss_nil)
      (pss_cons (ps_for PassesOwn.never rfl (pi_enumQ (by rfl) B.enu (pa_cons (pv 2) pa_nil)) (pg_tup (by rfl) (pgs_cons (pg_name (i := 4) nd rfl (Or.inl rfl)) (pgs_cons (pg_name (i := 5) nd rfl (Or.inr rfl)) pgs_nil)))
        (pss_cons (ps_set (i := 6) nd rfl (.inl rfl) (pe_call GS hr (by rfl) DS.g DS.F.kp DS.b .nil pass0 (pa_cons (pv 1) (pa_cons (pe_op op_add (pv 4) pe_int) pa_nil))))
        (pss_cons (ps_if (pt_not (pt_val (pe_isD (T := "tuple") (x := "tuple") (by decide +kernel) B.isi B.tuple (by decide +kernel) (pv 5) (by rfl) (by rfl)))) (pss_one (ps_ret pe_bl)) pss_nil)
        (pss_one (ps_if (pt_cmpR (op_neLX hr.units) (pe_lc (own := [("name", 3)]) (g := gName 3) rfl nd (pi_tup (pv 6)) (blkOk_by (N := NVT) (sc := defScope sVT) (by decide +kernel)) (fun _ _ _ _ _ => pg_name (i := 3) nd rfl (Or.inl rfl))
          (fun _ _ _ _ _ => pts_one (pt_cmpR (r := rInTX K) (op_inTX hr.units) (pv 3) (pv 5) (by rfl))) (fun _ _ _ _ _ => pv 3)) (pe_callTy call_lst2 (by rfl) B.list (by decide +kernel) (pa_cons (pv 5) pa_nil)) (nomark _)) (pss_one (ps_ret pe_bl)) pss_nil)))))
      (pss_one (ps_ret pe_bl)))))))), ?_⟩
    have big : (1000 : Nat) < sizeLine := by decide
    have out : tblD d = false → ∀ G, Same H G → Q (.bl false) G := fun e G sG => by rw [← e]; exact q G sG
    refine ⟨v, rfl, rfl, d, .dx hd, _, rfl, ?_⟩
    rw [isa_tuple]
    cases d with
    | tuple es =>
      obtain ⟨a, xs, rfl, ea, hx⟩ := dx_tup' hd
      have lx := hx.len
      refine iteF ⟨.ref a, rfl, a, xs, rfl, .inr (.inl (.inl ea)), rfl, _, rfl, ?_⟩
      by_cases h2 : ∃ d1 d2, es = [d1, d2]
      · obtain ⟨d1, d2, rfl⟩ := h2
        obtain ⟨v1, v2, rfl, h1, h2⟩ : ∃ v1 v2, xs = [v1, v2] ∧ Dx H v1 d1 ∧ Dx H v2 d2 := by
          cases hx with
          | cons h1 hx =>
            cases hx with
            | cons h2 hx =>
              cases hx
              exact ⟨_, _, rfl, h1, h2⟩
        have vt1 := vt.item (d := d1) (by simp)
        have vt2 := vt.item (d := d2) (by simp)
        refine ite_not rfl ?_
        refine ⟨.ref a, rfl, a, _, 0, v1, rfl, rfl, .inl (.inl ea), rfl, rfl, d1, .dx h1, _, rfl, ?_⟩
        rw [isa_tuple]
        cases d1 with
        | tuple ds =>
          refine iteF ?_
          obtain ⟨z, us, rfl, ez, hu⟩ := dx_tup' h1
          have lu := hu.len
          have ld := vt1.len
          refine ⟨.ref a, rfl, a, _, rfl, .inl (.inl ea), rfl, _, _, rfl, _, _, rfl, rfl, ?_⟩
          change tSeq _ _ _ ([some (.ref a), some (.ref z), some v2, none, none, none, none] : L2.St) H
          refine ⟨.ref z, rfl, z, rfl, ⟨_, .inl (.inl ez)⟩, fun L nL => ?_⟩
          refine lc_gen (as := ds) bad1 (fun _ y b => y = .int b) (fun _ _ _ _ _ h => h) (walk_tup (K := K)) nL (fun G sG => .inl (.inl (sG _ _ ez))) lu.symm (by omega) (fun m x e G hxm hem sG Pt Pf kt kf => ?_) (fun G ys sG eL hp _ => ?_)
          · obtain ⟨e2, ee, hxe⟩ := hu.get' hxm
            rw [hem] at ee
            cases ee
            refine ⟨rfl, x, rfl, x, e, rfl, hxe.up sG, (vt1.item (List.mem_of_getElem? hem)).sm, fun G2 s2 => ⟨_, rfl, ?_⟩⟩
            cases hn : nameD e with
            | true => exact iteF (kf (by unfold bad1; rw [hn]; rfl) _ s2)
            | false => exact iteT (kt 1 (by unfold bad1; rw [hn]; rfl) _ _ s2 rfl)
          have eus := ints_of (H := G) hp
          subst eus
          refine ⟨Nat.zero_le _, fun pe ne => ?_⟩
          have sn := same_new (o := .lst []) ne
          refine nil_intL (sn _ _ eL) upd_same ⟨_, rfl, ?_⟩
          rw [bad1_nil]
          have s1 : Same H (upd G pe (.lst [])) := sG.trans sn
          generalize upd G pe (.lst []) = G1 at s1 ⊢
          cases hn : ds.all nameD with
          | false =>
            refine iteT (out ?_ G1 s1)
            show (namesD (.tuple ds) && _) = false
            rw [names_tup, hn, Bool.false_and, Bool.and_false, Bool.false_and]
          | true =>
            refine iteF ?_
            obtain ⟨ns, ens⟩ : ∃ ns, ns = ds.map strOf := ⟨_, rfl⟩
            have eds : ds = ns.map .str := by rw [ens]; exact names_strs hn
            clear ens
            subst eds
            have eus := vals_strsD hu
            subst eus
            rw [List.length_map] at ld
            have ez1 := s1 _ _ ez
            refine ⟨.ref z, rfl, z, _, rfl, .inr (.inl (.inl ez1)), fun A1 n1 z1 => ?_⟩
            have t1 := same_new (o := .lst (ns.map V.str)) n1
            refine ⟨.ref z, rfl, z, ns, rfl, .inl (.inl (t1 _ _ ez1)), by omega, fun B1 nB => ?_⟩
            have t2 := same_new (o := SetXO w B1 (accX ns)) nB
            refine ⟨B1, accX ns, rfl, upd_same, ?_, fun ms C1 pm nC => ?_⟩
            · have := accX_len ns []
              rw [List.length_nil] at this
              show (ns.foldl addX []).length ≤ 1000
              omega
            have t3 := same_new (o := .lst ((ms.mergeSort (PySem.W.dataLe false PyData.str)).map V.str)) nC
            refine ⟨A1, C1, ns, (srtN ms).map V.str, (srtN ms).map .str, rfl, rfl, .inl (.inl (t3 _ _ (t2 _ _ upd_same))), .inl (.inl upd_same), dxs_strs _, _, rfl, ?_⟩
            have eq1 : (!eqSt ns ((srtN ms).map PyData.str)) = !ascS ns := by
              rw [← set_sorted pm]
              congr 1
              rw [Bool.eq_iff_iff, eqSt_is, decide_eq_true_eq]
              constructor
              · intro h
                have := congrArg (List.map strOf) h
                simpa [List.map_map, Function.comp_def, strOf] using this
              · intro h
                rw [h]
            rw [eq1]
            have s3 := s1.trans ((t1.trans t2).trans t3)
            have ez3 := s3 _ _ ez
            generalize upd (upd (upd G1 A1 (.lst (ns.map V.str))) B1 (SetXO w B1 (accX ns))) C1 (.lst ((ms.mergeSort (PySem.W.dataLe false PyData.str)).map V.str)) = G3 at s3 ez3 ⊢
            cases ha : ascS ns with
            | false =>
              refine iteT (out ?_ G3 s3)
              have e0 : namesD (.tuple (ns.map .str)) = false := by
                rw [names_tup, show (ns.map PyData.str).map strOf = ns from strs_back ns, ha, Bool.and_false, Bool.and_false]
              show (namesD _ && _) = false
              rw [e0, Bool.false_and]
            | true =>
              refine iteF ?_
              have lz : (ns.map V.str).length = ns.length := List.length_map _
              have ht1 : tupB 1 6 (.tuple (ns.map .str)) = (decide ((1 : Int) ≤ (ns.length : Int)) && decide ((ns.length : Int) ≤ 6)) := by
                show (decide ((1 : Int) ≤ ((ns.map PyData.str).length : Int)) && decide (((ns.map PyData.str).length : Int) ≤ 6)) = _
                rw [List.length_map]
              have short : tupB 1 6 (.tuple (ns.map .str)) = false → tblD (.tuple [.tuple (ns.map .str), d2]) = false := fun e => by
                show (namesD _ && _) = false
                rw [names_tup, e, Bool.false_and, Bool.false_and]
              refine ⟨.ref z, rfl, z, _, rfl, .inr (.inl (.inl ez3)), 1, _, rfl, rfl, _, rfl, ?_⟩
              rw [lz]
              by_cases l1 : (1 : Int) ≤ (ns.length : Int)
              · rw [decide_eq_true l1]
                refine iteT ⟨_, _, rfl, rfl, _, rfl, ?_⟩
                by_cases l6 : (ns.length : Int) ≤ 6
                · rw [decide_eq_true l6]
                  refine iteF ⟨v2, rfl, rfl, d2, .dx (h2.up s3), _, rfl, ?_⟩
                  rw [isa_tuple]
                  have tn : TNs ns := ⟨by omega, by omega, fun n hm => List.all_eq_true.mp hn _ (List.mem_map.mpr ⟨n, hm, rfl⟩), ha⟩
                  have la : (allN ns).length = 2 ^ ns.length - 1 := by
                    unfold allN
                    rw [List.length_map, List.length_range]
                  have p64 : 2 ^ ns.length ≤ 2 ^ 6 := Nat.pow_le_pow_right (by decide) tn.l6
                  have p1 : 1 ≤ 2 ^ ns.length := Nat.one_le_two_pow
                  have sb : strsT (.tuple (ns.map .str)) = ns := strs_back ns
                  have full : tblD (.tuple [.tuple (ns.map .str), d2]) = (tupB ((allN ns).length : Nat) ((allN ns).length : Nat) d2 && pairsD ns d2) := by
                    show (namesD _ && (tupB ((allN (strsT _)).length : Nat) ((allN (strsT _)).length : Nat) d2 && pairsD (strsT _) d2)) = _
                    rw [names_tup, ht1, decide_eq_true l1, decide_eq_true l6, hn, show (ns.map PyData.str).map strOf = ns from sb, ha, sb]
                    rfl
                  cases d2 with
                  | tuple cs =>
                    refine iteF ?_
                    obtain ⟨y, ws, rfl, ey, hw⟩ := dx_tup' h2
                    have lw := hw.len
                    have ey3 := s3 _ _ ey
                    have lcs := vt2.len
                    have ej : (1 : Int) * 2 ^ (((ns.map V.str).length : Nat) : Int).toNat = ((2 ^ ns.length : Nat) : Int) := by
                      rw [List.length_map, Int.toNat_natCast, Int.one_mul]
                      push_cast
                      rfl
                    refine ⟨.ref y, rfl, y, ws, rfl, .inr (.inl (.inl ey3)), .ref z, rfl, z, _, rfl, .inr (.inl (.inl ez3)), 1, _, rfl, rfl, ⟨by omega, by rw [lz]; omega, by decide⟩, _, 1, rfl, rfl, rfl, _, rfl, ?_⟩
                    rw [ej]
                    by_cases hl : cs.length = 2 ^ ns.length - 1
                    · refine ite_not ?_ ?_
                      · rw [Bool.not_eq_false', decide_eq_true_eq]
                        congr 1
                        omega
                      have full : tblD (.tuple [.tuple (ns.map .str), .tuple cs]) = ((allN ns).zip cs).all fun p => ascIn p.1 p.2 := by
                        rw [full]
                        show ((decide ((((allN ns).length : Nat) : Int) ≤ (cs.length : Int)) && decide ((cs.length : Int) ≤ (((allN ns).length : Nat) : Int))) && _) = _
                        rw [decide_eq_true (by omega), decide_eq_true (by omega)]
                        rfl
                      have bad : ∀ (m : Nat) (c : PyData), m < 2 ^ ns.length - 1 → cs[m]? = some c → ascIn (subN ns (m + 1)) c = false → tblD (.tuple [.tuple (ns.map .str), .tuple cs]) = false := fun m c hm hc e => by
                        rw [full]
                        have hm2 : m < (allN ns).length := by omega
                        have g2 := (allN_at (List.getElem?_eq_getElem hm2)).2
                        have zz : ((allN ns).zip cs)[m]? = some ((allN ns)[m], c) := List.getElem?_zip_eq_some.mpr ⟨List.getElem?_eq_getElem hm2, hc⟩
                        refine Bool.eq_false_iff.mpr fun h => ?_
                        have := List.all_eq_true.mp h _ (List.mem_of_getElem? zz)
                        rw [g2, e] at this
                        cases this
                      refine ⟨.ref y, rfl, y, ws, rfl, .inl (.inl ey3), ?_⟩
                      refine for_it (walk_enumQ (K := K) (p := y) (us := ws)) (fun i σ F => Same H F ∧ (∀ (m : Nat) (c : PyData), m < i → cs[m]? = some c → ascIn (subN ns (m + 1)) c = true) ∧ ∃ o4 o5 o6, σ = [some (.ref a), some (.ref z), some (.ref y), none, o4, o5, o6])
                        ⟨s3, fun m c h => absurd h (Nat.not_lt_zero _), none, none, none, rfl⟩ (fun i σ F _ hP => .inl (.inl (hP.1 _ _ ey))) (fun i x σ F F' hi hP hy => ?_) (fun σ F hP => ?_)
                      · obtain ⟨sF, done, o4, o5, o6, rfl⟩ := hP
                        obtain ⟨T, x, c1, rfl, nT, rfl, ex, ec⟩ := hy
                        cases ex
                        have hi : i < cs.length := by omega
                        obtain ⟨c, hc, hcx⟩ := hw.get' ec
                        have vc := vt2.item (List.mem_of_getElem? hc)
                        have sA : Same H (upd F T (.tup [.int (i : Nat), c1])) := sF.trans (same_new nT)
                        refine ⟨T, _, rfl, .inl (.inl upd_same), rfl, _, _, rfl, _, _, rfl, rfl, ?_⟩
                        generalize upd F T (.tup [.int (i : Nat), c1]) = F0 at sA ⊢
                        change tSeq _ _ _ ([some (.ref a), some (.ref z), some (.ref y), none, some (.int (i : Int)), some c1, o6] : L2.St) F0
                        refine ⟨.ref z, rfl, .int (i : Int), rfl, (i : Int), 1, rfl, rfl, .ref z, ns, i + 1, rfl, .dx (h1.up sA), by omega, fun F1 p f1 _ ep => ?_⟩
                        have sB := sA.trans f1
                        refine gn_to (σ' := ([some (.ref a), some (.ref z), some (.ref y), none, some (.int (i : Int)), some c1, some (.ref p)] : L2.St)) rfl ?_
                        try dsimp only
                        refine ⟨c1, rfl, rfl, c, .dx (hcx.up sB), _, rfl, ?_⟩
                        rw [isa_tuple]
                        cases c with
                        | tuple fs =>
                          refine iteF ?_
                          have lf := vc.len
                          obtain ⟨r, rs, rfl, er, hrs⟩ := dx_tup' hcx
                          have lS : (subN ns (i + 1)).length ≤ 6 := by
                            have := (sub_sl ns (i + 1)).length_le
                            omega
                          refine ⟨.ref p, rfl, p, rfl, ⟨_, .inl (.inl ep)⟩, fun L nL => ?_⟩
                          refine lc_strs (fun x => fs.any (isSt x)) ep (by omega) nL (fun x G hx sG Pt Pf hk => ?_) (fun G sG eL => ?_)
                          · refine ⟨rfl, .str x, rfl, .ref r, rfl, x, r, rs, fs, rfl, rfl, .inl (.inl ((sB.trans sG) _ _ er)), hrs.up (sB.trans sG), _, rfl, ?_⟩
                            try dsimp only at hk
                            cases zz : fs.any (isSt x) with
                            | true =>
                              rw [if_pos zz] at hk
                              exact iteT ⟨.str x, rfl, hk⟩
                            | false =>
                              rw [if_neg (by rw [zz]; decide)] at hk
                              exact iteF hk
                          have sC := sB.trans sG
                          refine ⟨.ref r, rfl, r, rs, rfl, .inr (.inl (.inl (sC _ _ er))), fun N nN zN => ?_⟩
                          have s5 := same_new (o := .lst rs) nN
                          have sD := sC.trans s5
                          refine ⟨L, N, _, rs, fs, rfl, rfl, .inl (.inl (s5 _ _ eL)), .inl (.inl upd_same), hrs.up sD, _, rfl, ?_⟩
                          have tS : ascS (subN ns (i + 1)) = true := pw_asc ((asc_pw tn.asc).sublist (sub_sl ns (i + 1)))
                          have ndS : ∀ n ∈ subN ns (i + 1), nameD (.str n) = true := fun n hm => tn.nm n (sub_mem hm)
                          have e5 : eqSt ((subN ns (i + 1)).filter fun n => fs.any (isSt n)) fs = ascIn (subN ns (i + 1)) (.tuple fs) := pair_ascA tS
                          rw [e5]
                          cases zz : ascIn (subN ns (i + 1)) (.tuple fs) with
                          | true =>
                            refine iteF ⟨sD, fun m c hm hcm => ?_, _, _, _, rfl⟩
                            rcases Nat.lt_succ_iff_lt_or_eq.mp hm with h | rfl
                            · exact done m c h hcm
                            · rw [hc] at hcm
                              cases hcm
                              exact zz
                          | false => exact iteT (out (bad i _ (by omega) hc zz) _ sD)
                        | _ => exact iteT (out (bad i _ (by omega) hc rfl) _ sB)
                      · obtain ⟨sF, done, o4, o5, o6, rfl⟩ := hP
                        refine (show tblD (.tuple [.tuple (ns.map .str), .tuple cs]) = true → Q (.bl true) F from fun e => by rw [← e]; exact q F sF) ?_
                        rw [full]
                        refine List.all_eq_true.mpr fun p hp => ?_
                        obtain ⟨m, hm⟩ := List.getElem?_of_mem hp
                        obtain ⟨g1, g2⟩ := List.getElem?_zip_eq_some.mp hm
                        obtain ⟨g3, g4⟩ := allN_at g1
                        rw [g4]
                        exact done m _ (by rw [lw]; exact (List.getElem?_eq_some_iff.mp g2).1) g2
                    · refine ite_to ?_ (out ?_ _ s3)
                      · rw [Bool.not_eq_true', decide_eq_false_iff_not]
                        intro e
                        have := V.int.inj e
                        omega
                      · rw [full]
                        have : tupB ((allN ns).length : Nat) ((allN ns).length : Nat) (.tuple cs) = false := by
                          show (decide ((((allN ns).length : Nat) : Int) ≤ (cs.length : Int)) && decide ((cs.length : Int) ≤ (((allN ns).length : Nat) : Int))) = false
                          by_cases g : ((cs.length : Nat) : Int) ≤ (((allN ns).length : Nat) : Int)
                          · rw [decide_eq_false (show ¬ ((((allN ns).length : Nat) : Int) ≤ ((cs.length : Nat) : Int)) by omega), Bool.false_and]
                          · rw [decide_eq_false g, Bool.and_false]
                        rw [this, Bool.false_and]
                  | _ =>
                    refine iteT (out ?_ _ s3)
                    rw [full]
                    rfl
                · rw [decide_eq_false l6]
                  refine iteT (out (short ?_) _ s3)
                  rw [ht1, decide_eq_false l6, Bool.and_false]
              · rw [decide_eq_false l1]
                refine iteF ⟨_, rfl, iteT (out (short ?_) _ s3)⟩
                rw [ht1, decide_eq_false l1, Bool.false_and]
        | _ => exact iteT (out rfl H (Same.refl H))
      · refine ite_to ?_ (out ?_ H (Same.refl H))
        · rw [Bool.not_eq_true', decide_eq_false_iff_not]
          intro e
          refine h2 ?_
          have e2 : xs.length = 2 := by
            have := V.int.inj e
            omega
          rw [lx] at e2
          match es, e2 with
          | [x, y], _ => exact ⟨x, y, rfl⟩
        · match es, h2 with
          | [], _ => rfl
          | [_], _ => rfl
          | [x, y], h => exact absurd ⟨x, y, rfl⟩ h
          | _ :: _ :: _ :: _, _ => rfl
    | _ => exact iteT (out rfl H (Same.refl H))
end

end E1

set_option maxRecDepth 100000
set_option maxHeartbeats 1000000
namespace E1
open PySem PySem.Spec PyProof.Rows L2 KX
theorem okGc {P : Program} {w : World} {K : PySem.W.Frag} {mg : Str → Option Value} {base : Heap} {x qual : Str} {st : Stmt} {f c0 : Addr} {oc kV doc pm ct : Value} {od an : Option Addr} {osl : Array (Option Value)} {N ps : List Str} {k : Nat} {sp : Sp}
    (lk : K.lookup f = some ⟨oc, od, .func (PySem.W.fnOf x qual (defArgs st) (defBody st) (defScope st) .none kV doc pm an (.ref c0) ct), osl⟩) (hcd : PySem.W.codeIn K (.ref c0) qual = true) (S : FnScope N ps (defScope st))
    (len : ∀ vs H Q E, sp vs H Q E → vs.length = ps.length)
    (hbody : ∀ (B : Around) (outs : List PySem.Env) (s : Shared) (H : Hp) (vs : List V) (Q : VK) (E : XK), (B.deeper (envOfC qual (defScope st) s.heap.objs.size f (.ref c0))).guards = some [] → Room k (B.deeper (envOfC qual (defScope st) s.heap.objs.size f (.ref c0))) →
      sp vs H Q E → ∃ t, PSs (cxOf CX0 P w K mg base N qual (defScope st) f (.ref c0) B outs s H E).nox (defBody st) t ∧ t { nx := fun _ H' => Q .non H', rt := Q } (L2.start N vs) H) :
    FnG P w K mg base CX0 (k + 1) f (PySem.W.fnOf x qual (defArgs st) (defBody st) (defScope st) .none kV doc pm an (.ref c0) ct) ps sp := by
  refine fn_ofG lk hcd S len fun B outs s H vs Q E hg hr hsp => ?_
  obtain ⟨t, h, q⟩ := hbody B outs s H vs Q E hg hr hsp
  exact ⟨t, h.nox, q⟩
theorem tabs_new {P0 : Addr} {q : Str} {H : Hp} (h : H P0 = some (.tbl #[])) : LamX.Tabs [(P0, q)] H := fun p hp => by
  cases List.mem_singleton.mp hp
  exact LamX.TabS.nil h
/-! ### what an invalid table raises -/
abbrev sOut : Stmt := topS 56
abbrev sAR : Stmt := topS 57
/-- which clause takes which error -/
structure XS (K : PySem.W.Frag) (mg : Str → Option Value) (S R RI RQ : Addr) : Prop where
  gS : mg "SparesError" = some (.ref S)
  gI : mg "InvalidRowset" = some (.ref RI)
  gQ : mg "InvalidQuery" = some (.ref RQ)
  rs : PySem.W.exmOne K (.ref R) (.ref S) = some true
  iR : XI K R
  kR : PySem.W.kitOne K (.ref R) (.ref R) = some true
  kA : PySem.W.kitAny K (.ref R) [.ref RI, .ref RQ] = some false
def TTout (R : Addr) : (XK → Hp → VK → Prop) → Hp → VK → Prop := fun tl H Q => ∀ (E : XK) (Q' : VK), (∀ cls d G, (cls = .ref R ∧ d = none ∧ ∀ G2, Same G G2 → Q (.str "invalid") G2) → E cls d G) → (∀ v G, Q (.str "returned") G → Q' v G) → tl E H Q'
theorem scOut : FnScope ["call", "e", "alone"] ["call"] (defScope sOut) := ⟨rfl, rfl, rfl, by decide +kernel, rfl, by decide +kernel, by decide +kernel⟩
theorem scAR : FnScope ["value", "found"] ["value"] (defScope sAR) := ⟨rfl, rfl, rfl, by decide +kernel, rfl, by decide +kernel, by decide +kernel⟩
abbrev lamQ : Str := (envOfC "_law_all_raise" (defScope sAR) 0 0 .none).qual ++ "<lambda>"
section
variable {X : Cx} {R S RI RQ g : Addr} {k : Nat} {cdg : Value} {q : Str}
abbrev zOut (X : Cx) (s : Shared) (H : Hp) (g : Addr) (cdg : Value) : Cx := (cxOf C8.CX0 X.prog X.w X.K X.mg X.base ["call", "e", "alone"] "_law_outcome" (defScope sOut) g cdg X.A X.stack s H C8.E0).nox
theorem out_gives (B : Bl X.mg) (TR : OC X.K X.mg "InvalidTable" R) (Z : XS X.K X.mg S R RI RQ) :
    GivesR X k ["call", "e", "alone"] "_law_outcome" (defScope sOut) g cdg (defBody sOut) "call" q (TTout R) := by
  intro f c' s H Q tl hr act hc h
  have nd := scOut.nd
  refine ⟨_, pss_cons (ps_try_mixD (X := zOut X s H g cdg) (tb := fun W => tDrop (fun σZ HZ Qy => σZ[0]? = some (some (.ref f)) ∧ HZ c' = some (LamX.CodeO c' q) ∧ tl (fun cls d H' => W cls d σZ H') HZ Qy)) (Wo := fun _ _ _ _ => False)
      (l := [⟨.ref S, some 1, _⟩]) rfl rfl nd takes0 (fun _ _ _ _ h => h)
      (fun W pn xe tk _ => pss_one (ps_expr (by exact act W pn xe _ _ tk)))
      (.named rfl rfl ⟨rfl, by decide, .inl Z.gS⟩ (fun a oe cls d pn hz hf => pss_cons (ps_set (i := 2) nd rfl (.inl rfl) (pe_not (pe_callB (call_isN hz hf) (by rfl) B.isi (by decide +kernel) (pa_cons (pv 1) (pa_cons (pe_tup (pa_cons (pe_glob (v := .ref RI) (by rfl) Z.gI rfl) (pa_cons (pe_glob (v := .ref RQ) (by rfl) Z.gQ rfl) pa_nil))) pa_nil)))))
        (pss_one (ps_ret (by exact pe_ifExp (PW.pt (pw_and (pt_val (pe_callB (call_isN hz hf) (by rfl) B.isi (by decide +kernel) (pa_cons (pv 1) (pa_cons (pe_glob (v := .ref R) (by rfl) TR.g rfl) pa_nil)))) (pw_and1 (pt_val (pv 2))))) pe_str pe_str)))) .dead))
    (pss_one (ps_ret pe_str)), ?_⟩
  refine ⟨rfl, hc, h _ _ (fun cls d G e => ?_) (fun v G k => k)⟩
  obtain ⟨rfl, rfl, k⟩ := e
  refine ⟨true, Z.rs, fun _ a na => ?_, fun z => by cases z⟩
  refine ⟨.ref a, rfl, by show 2 ≤ sizeLine; decide, fun p np => ?_⟩
  refine ⟨R, .ref p, false, Z.iR, rfl, rfl, rfl, .inr ⟨p, _, [.ref RI, .ref RQ], rfl, upd_same, fun us r => ?_, Z.kA⟩, _, rfl, ?_⟩
  · cases r with
    | cons r1 r2 =>
      cases r2 with
      | cons r3 r4 =>
        cases r4
        cases r1
        cases r3
        rfl
  refine ⟨.ref a, rfl, R, .ref R, true, Z.iR, rfl, rfl, rfl, .inl ⟨.ref R, fun u r => r, Z.kR⟩, _, rfl, iteT ⟨_, rfl, _, rfl, iteT (k _ (same_new np))⟩⟩
end
theorem tabs_upd {l : Addr} {T : List (Addr × Str)} {H : Hp} {xs ys : List V} (e : H l = some (.lst xs)) (t : LamX.Tabs T H) : LamX.Tabs T (upd H l (.lst ys)) := fun p hp => by
  obtain ⟨ps, h1, h2, h3⟩ := t p hp
  refine ⟨ps, ?_, h2, fun pos cv hc => ?_⟩
  · rw [upd_ne (fun z => by rw [z, e] at h1; cases h1)]
    exact h1
  · obtain ⟨c, e1, e2⟩ := h3 pos cv hc
    refine ⟨c, e1, ?_⟩
    rw [upd_ne (fun z => by rw [z, e] at e2; unfold LamX.CodeO at e2; cases e2)]
    exact e2
theorem tabs_same {T : List (Addr × Str)} {H H' : Hp} (s : Same H H') (t : LamX.Tabs T H) : LamX.Tabs T H' := t.ext fun b o e => s b o e
theorem ext_same {H H' : Hp} (s : Same H H') : LamX.ExtN H H' := LamX.ExtN.of fun b o e => s b o e
theorem tbl_enc {ns : List Str} {ks : List Nat} (ok : TOk ns ks) : tblD (encT ns ks) = true := by
  have tn := ok.nms
  have l1 := tn.l1
  have l6 := tn.l6
  have la : (allN ns).length = 2 ^ ns.length - 1 := by
    unfold allN
    rw [List.length_map, List.length_range]
  have lc : (chs ns ks).length = 2 ^ ns.length - 1 := by
    unfold chs
    rw [List.length_map, List.length_drop, ok.len]
  have n1 : namesD (.tuple (ns.map .str)) = true := by
    rw [names_tup, show (ns.map PyData.str).map strOf = ns from strs_back ns, tn.asc, Bool.and_true, Bool.and_eq_true]
    refine ⟨?_, List.all_eq_true.mpr fun d hd => ?_⟩
    · show (decide ((1 : Int) ≤ ((ns.map PyData.str).length : Int)) && decide (((ns.map PyData.str).length : Int) ≤ 6)) = true
      rw [List.length_map, decide_eq_true (by omega), decide_eq_true (by omega)]
      rfl
    · obtain ⟨n, hn, rfl⟩ := List.mem_map.mp hd
      exact tn.nm n hn
  show (namesD (.tuple (ns.map .str)) && (tupB ((allN (strsT (.tuple (ns.map .str)))).length : Nat) ((allN (strsT (.tuple (ns.map .str)))).length : Nat) (.tuple ((chs ns ks).map fun c => .tuple (c.map .str))) && pairsD (strsT (.tuple (ns.map .str))) (.tuple ((chs ns ks).map fun c => .tuple (c.map .str))))) = true
  rw [n1, strs_back, Bool.true_and, Bool.and_eq_true]
  refine ⟨?_, ?_⟩
  · show (decide ((((allN ns).length : Nat) : Int) ≤ (((chs ns ks).map fun c => PyData.tuple (c.map .str)).length : Int)) && decide ((((chs ns ks).map fun c => PyData.tuple (c.map .str)).length : Int) ≤ (((allN ns).length : Nat) : Int))) = true
    rw [List.length_map, decide_eq_true (by omega), decide_eq_true (by omega)]
    rfl
  · refine List.all_eq_true.mpr fun p hp => ?_
    obtain ⟨m, hm⟩ := List.getElem?_of_mem hp
    obtain ⟨g1, g2⟩ := List.getElem?_zip_eq_some.mp hm
    obtain ⟨g3, g4⟩ := allN_at g1
    rw [List.getElem?_map] at g2
    obtain ⟨c, hc, e⟩ := Option.map_eq_some_iff.mp g2
    obtain ⟨kk, ek, e2⟩ : ∃ kk, ks[1 + m]? = some kk ∧ subN ns kk = c := by
      unfold chs at hc
      rw [List.getElem?_map, List.getElem?_drop] at hc
      obtain ⟨kk, h1, h2⟩ := Option.map_eq_some_iff.mp hc
      exact ⟨kk, h1, h2⟩
    have hs := ok.sub _ _ ek
    rw [show 1 + m = m + 1 by omega] at hs
    rw [g4, ← e, ← e2]
    exact sub_asc tn (ok.lt ek) hs
def spAR (P0 : Addr) : Sp := fun vs H Q _ => ∃ (v : V) (d : PyData), vs = [v] ∧ LamX.Tabs [(P0, lamQ)] H ∧ Dx H v d ∧ Vt d ∧ tblD d = false ∧ ∀ H', LamX.ExtN H H' → LamX.Tabs [(P0, lamQ)] H' → Q (.bl true) H'
section
variable {P : Program} {w : World} {K : PySem.W.Frag} {mg : Str → Option Value} {base : Heap} {R S RI RQ : Addr}
theorem ok_ar {k : Nat} {f c0 P0 fO fTc fFv fIv fSe fFo fAo : Addr} {gTc gFv gIv gSe gFo gAo : FuncData} {oc kV doc pm ct ocO kVO docO pmO cdO ctO : Value} {od an odO anO : Option Addr} {osl oslO : Array (Option Value)} (B : Bl mg) (TR : OC K mg "InvalidTable" R) (Z : XS K mg S R RI RQ)
    (lk : K.lookup f = some ⟨oc, od, .func (PySem.W.fnOf "_law_all_raise" "_law_all_raise" (defArgs sAR) (defBody sAR) (defScope sAR) .none kV doc pm an (.ref c0) ct), osl⟩) (hcd : PySem.W.codeIn K (.ref c0) "_law_all_raise" = true) (TB : LamX.TabB base mg c0 P0)
    (DO : Df K mg "_law_outcome" sOut ["call"] fO (PySem.W.fnOf "_law_outcome" "_law_outcome" (defArgs sOut) (defBody sOut) (defScope sOut) .none kVO docO pmO anO cdO ctO))
    (lkO : K.lookup fO = some ⟨ocO, odO, .func (PySem.W.fnOf "_law_outcome" "_law_outcome" (defArgs sOut) (defBody sOut) (defScope sOut) .none kVO docO pmO anO cdO ctO), oslO⟩) (hcO : PySem.W.codeIn K cdO "_law_outcome" = true)
    (DTc : Df K mg "table_choice" sTc ["table", "names"] fTc gTc) (GTc : FnOk P w K mg base (L2.CX P w) k fTc gTc ["table", "names"] (spBad2 R))
    (DFv : Df K mg "find_violation" sFv ["table"] fFv gFv) (GFv : FnOk P w K mg base (L2.CX P w) k fFv gFv ["table"] (spBad1 R))
    (DIv : Df K mg "is_violation" sIv ["table", "value"] fIv gIv) (GIv : FnOk P w K mg base (L2.CX P w) k fIv gIv ["table", "value"] (spBad2 R))
    (DSe : Df K mg "selectable_names" sSe ["table"] fSe gSe) (GSe : FnOk P w K mg base (L2.CX P w) k fSe gSe ["table"] (spSe R))
    (DFo : Df K mg "find_orderings" sFo ["table"] fFo gFo) (GFo : FnOk P w K mg base (L2.CX P w) k fFo gFo ["table"] (spBad1 R))
    (DAo : Df K mg "are_orderings" sAo ["table", "value"] fAo gAo) (GAo : FnOk P w K mg base (L2.CX P w) k fAo gAo ["table", "value"] (spBad2 R)) :
    FnG P w K mg base CX0 (k + 3) f (PySem.W.fnOf "_law_all_raise" "_law_all_raise" (defArgs sAR) (defBody sAR) (defScope sAR) .none kV doc pm an (.ref c0) ct) ["value"] (spAR P0) := by
  refine okGc lk hcd scAR (fun vs H Q E h => ?_) (fun A outer s H vs Q E hgd hr h => ?_)
  · obtain ⟨v, d, rfl, _⟩ := h
    rfl
  · obtain ⟨v, d, rfl, ht, hd, vt, bad, q⟩ := h
    have nd := scAR.nd
    refine ⟨_, pss_cons (ps_set (i := 1) nd rfl (.inl rfl) (pe_lst (pa_cons (pe_lamR (T := [(P0, lamQ)]) (TT := TTout R) (k := k) (js := [0]) (N := ["value"]) (fr := ["value"]) (by rfl) DO.g DO.F.kp lkO hcO DO.b scOut rfl (.inl rfl) (out_gives B TR Z) TB rfl (List.mem_singleton.mpr rfl) (fun p hp _ => by cases List.mem_singleton.mp hp; rfl) hr (NdefX.nscope_by (by decide +kernel)) (NdefX.ndef_free (sc := defScope sAR) (fr := ["value"]) (by decide +kernel)) (NdefX.ndef_fr (sc := defScope sAR) (by decide +kernel)) rfl rfl (fun _ _ _ _ _ => rfl)
        (fun A2 outer2 s2 H2 E2 f2 c2 hr2 => pe_callS GTc hr2 (by rfl) DTc.g DTc.F.kp DTc.b (fun σ => passAt (takes_of rfl rfl rfl rfl) σ) (pa_cons (pv 0) (pa_cons pe_non pa_nil)))) pa_nil)))
      (pss_cons (ps_expr (pe_bm PySem.F.plainAttrs_list PySem.F.slot_list_append PySem.F.type_list_append mt_append (pv 1) (pa_cons (pe_lamR (T := [(P0, lamQ)]) (TT := TTout R) (k := k) (js := [0]) (N := ["value"]) (fr := ["value"]) (by rfl) DO.g DO.F.kp lkO hcO DO.b scOut rfl (.inl rfl) (out_gives B TR Z) TB rfl (List.mem_singleton.mpr rfl) (fun p hp _ => by cases List.mem_singleton.mp hp; rfl) hr (NdefX.nscope_by (by decide +kernel)) (NdefX.ndef_free (sc := defScope sAR) (fr := ["value"]) (by decide +kernel)) (NdefX.ndef_fr (sc := defScope sAR) (by decide +kernel)) rfl rfl (fun _ _ _ _ _ => rfl)
        (fun A2 outer2 s2 H2 E2 f2 c2 hr2 => pe_callS GFv hr2 (by rfl) DFv.g DFv.F.kp DFv.b (fun σ => passAt (takes_of rfl rfl rfl rfl) σ) (pa_cons (pv 0) pa_nil))) pa_nil)))
      (pss_cons (ps_expr (pe_bm PySem.F.plainAttrs_list PySem.F.slot_list_append PySem.F.type_list_append mt_append (pv 1) (pa_cons (pe_lamR (T := [(P0, lamQ)]) (TT := TTout R) (k := k) (js := [0]) (N := ["value"]) (fr := ["value"]) (by rfl) DO.g DO.F.kp lkO hcO DO.b scOut rfl (.inl rfl) (out_gives B TR Z) TB rfl (List.mem_singleton.mpr rfl) (fun p hp _ => by cases List.mem_singleton.mp hp; rfl) hr (NdefX.nscope_by (by decide +kernel)) (NdefX.ndef_free (sc := defScope sAR) (fr := ["value"]) (by decide +kernel)) (NdefX.ndef_fr (sc := defScope sAR) (by decide +kernel)) rfl rfl (fun _ _ _ _ _ => rfl)
        (fun A2 outer2 s2 H2 E2 f2 c2 hr2 => pe_callS GIv hr2 (by rfl) DIv.g DIv.F.kp DIv.b (fun σ => passAt (takes_of rfl rfl rfl rfl) σ) (pa_cons (pv 0) (pa_cons pe_non pa_nil)))) pa_nil)))
      (pss_cons (ps_expr (pe_bm PySem.F.plainAttrs_list PySem.F.slot_list_append PySem.F.type_list_append mt_append (pv 1) (pa_cons (pe_lamR (T := [(P0, lamQ)]) (TT := TTout R) (k := k) (js := [0]) (N := ["value"]) (fr := ["value"]) (by rfl) DO.g DO.F.kp lkO hcO DO.b scOut rfl (.inl rfl) (out_gives B TR Z) TB rfl (List.mem_singleton.mpr rfl) (fun p hp _ => by cases List.mem_singleton.mp hp; rfl) hr (NdefX.nscope_by (by decide +kernel)) (NdefX.ndef_free (sc := defScope sAR) (fr := ["value"]) (by decide +kernel)) (NdefX.ndef_fr (sc := defScope sAR) (by decide +kernel)) rfl rfl (fun _ _ _ _ _ => rfl)
        (fun A2 outer2 s2 H2 E2 f2 c2 hr2 => pe_callS GSe hr2 (by rfl) DSe.g DSe.F.kp DSe.b (fun σ => passAt (takes_of rfl rfl rfl rfl) σ) (pa_cons (pv 0) pa_nil))) pa_nil)))
      (pss_cons (ps_expr (pe_bm PySem.F.plainAttrs_list PySem.F.slot_list_append PySem.F.type_list_append mt_append (pv 1) (pa_cons (pe_lamR (T := [(P0, lamQ)]) (TT := TTout R) (k := k) (js := [0]) (N := ["value"]) (fr := ["value"]) (by rfl) DO.g DO.F.kp lkO hcO DO.b scOut rfl (.inl rfl) (out_gives B TR Z) TB rfl (List.mem_singleton.mpr rfl) (fun p hp _ => by cases List.mem_singleton.mp hp; rfl) hr (NdefX.nscope_by (by decide +kernel)) (NdefX.ndef_free (sc := defScope sAR) (fr := ["value"]) (by decide +kernel)) (NdefX.ndef_fr (sc := defScope sAR) (by decide +kernel)) rfl rfl (fun _ _ _ _ _ => rfl)
        (fun A2 outer2 s2 H2 E2 f2 c2 hr2 => pe_callS GFo hr2 (by rfl) DFo.g DFo.F.kp DFo.b (fun σ => passAt (takes_of rfl rfl rfl rfl) σ) (pa_cons (pv 0) pa_nil))) pa_nil)))
      (pss_cons (ps_expr (pe_bm PySem.F.plainAttrs_list PySem.F.slot_list_append PySem.F.type_list_append mt_append (pv 1) (pa_cons (pe_lamR (T := [(P0, lamQ)]) (TT := TTout R) (k := k) (js := [0]) (N := ["value"]) (fr := ["value"]) (by rfl) DO.g DO.F.kp lkO hcO DO.b scOut rfl (.inl rfl) (out_gives B TR Z) TB rfl (List.mem_singleton.mpr rfl) (fun p hp _ => by cases List.mem_singleton.mp hp; rfl) hr (NdefX.nscope_by (by decide +kernel)) (NdefX.ndef_free (sc := defScope sAR) (fr := ["value"]) (by decide +kernel)) (NdefX.ndef_fr (sc := defScope sAR) (by decide +kernel)) rfl rfl (fun _ _ _ _ _ => rfl)
        (fun A2 outer2 s2 H2 E2 f2 c2 hr2 => pe_callS GAo hr2 (by rfl) DAo.g DAo.F.kp DAo.b (fun σ => passAt (takes_of rfl rfl rfl rfl) σ) (pa_cons (pv 0) (pa_cons pe_non pa_nil)))) pa_nil)))
      (pss_one (ps_ret (pe_cmpR (op_eqP hr.units) (pv 1) (pe_op op_rep (pe_lst (pa_cons pe_str pa_nil)) pe_int) (nomark _))))))))), ?_⟩
    have one : (1 : Nat) ≤ sizeLine := by decide
    refine ⟨ht, fun H1 e1 t1 E1 Q1 hE1 _ => ⟨v, rfl, ⟨⟨v, .non, rfl⟩, v, d, [.non], rfl, hd.ext (e1), vt, bad, fun Gx sx => hE1 _ _ _ ⟨rfl, rfl, fun G1 sy => ?_⟩⟩⟩⟩
    have s1 := sx.trans sy
    refine ⟨one, fun pf nf => ?_⟩
    have nb : ∀ b o, H b = some o → (∀ ps, o ≠ .tbl ps) → b ≠ pf := fun b o hb nt => ne_of_none (s1 _ _ (e1 b o hb nt)) nf
    have e0 : LamX.ExtN H (upd G1 pf (.lst [.str "invalid"])) := e1.trans (ext_same (s1.trans (same_new nf)))
    have t0 := tabs_same (s1.trans (same_new (o := .lst [.str "invalid"]) nf)) t1
    have ef : (upd G1 pf (.lst [.str "invalid"])) pf = some (.lst (List.replicate 1 (V.str "invalid"))) := upd_same
    generalize upd G1 pf (.lst [.str "invalid"]) = G0 at e0 t0 ef ⊢
    clear s1 sy sx t1 hE1 e1
    refine gn_to (σ' := ([some v, some (.ref pf)] : L2.St)) rfl ?_
    try dsimp only
    refine ⟨.ref pf, rfl, .inl ⟨rfl, _, .inl (.inl ef)⟩, ⟨t0, fun H1 e1 t1 E1 Q1 hE1 _ => ⟨v, rfl, ⟨⟨v, rfl⟩, v, d, [], rfl, hd.ext (e0.trans e1), vt, bad, fun Gx sx => hE1 _ _ _ ⟨rfl, rfl, fun G1 sy => ?_⟩⟩⟩⟩⟩
    have s1 := sx.trans sy
    have ef1 : G1 pf = some (.lst (List.replicate 1 (V.str "invalid"))) := s1 _ _ (e1 _ _ ef fun ps z => by cases z)
    refine ⟨pf, _, .str "invalid", rfl, rfl, ef1, by show 1 < sizeLine; decide, ?_⟩
    have e2 : LamX.ExtN H (upd G1 pf (.lst (List.replicate 1 (V.str "invalid") ++ [.str "invalid"]))) := fun b o hb nt => by
      rw [upd_ne (nb b o hb nt)]
      exact s1 _ _ (e1 _ _ (e0 _ _ hb nt) nt)
    have t2 := tabs_upd (ys := List.replicate 1 (V.str "invalid") ++ [.str "invalid"]) ef1 (tabs_same s1 t1)
    have ef2 : (upd G1 pf (.lst (List.replicate 1 (V.str "invalid") ++ [.str "invalid"]))) pf = some (.lst (List.replicate 2 (V.str "invalid"))) := upd_same
    generalize upd G1 pf (.lst (List.replicate 1 (V.str "invalid") ++ [.str "invalid"])) = G2 at e2 t2 ef2 ⊢
    clear ef1 s1 sy sx t1 hE1 e1 ef t0 e0
    have ef := ef2
    have t0 := t2
    have e0 := e2
    clear ef2 t2 e2
    refine ⟨.ref pf, rfl, .inl ⟨rfl, _, .inl (.inl ef)⟩, ⟨t0, fun H1 e1 t1 E1 Q1 hE1 _ => ⟨v, rfl, ⟨⟨v, .non, rfl⟩, v, d, [.non], rfl, hd.ext (e0.trans e1), vt, bad, fun Gx sx => hE1 _ _ _ ⟨rfl, rfl, fun G1 sy => ?_⟩⟩⟩⟩⟩
    have s1 := sx.trans sy
    have ef1 : G1 pf = some (.lst (List.replicate 2 (V.str "invalid"))) := s1 _ _ (e1 _ _ ef fun ps z => by cases z)
    refine ⟨pf, _, .str "invalid", rfl, rfl, ef1, by show 2 < sizeLine; decide, ?_⟩
    have e2 : LamX.ExtN H (upd G1 pf (.lst (List.replicate 2 (V.str "invalid") ++ [.str "invalid"]))) := fun b o hb nt => by
      rw [upd_ne (nb b o hb nt)]
      exact s1 _ _ (e1 _ _ (e0 _ _ hb nt) nt)
    have t2 := tabs_upd (ys := List.replicate 2 (V.str "invalid") ++ [.str "invalid"]) ef1 (tabs_same s1 t1)
    have ef2 : (upd G1 pf (.lst (List.replicate 2 (V.str "invalid") ++ [.str "invalid"]))) pf = some (.lst (List.replicate 3 (V.str "invalid"))) := upd_same
    generalize upd G1 pf (.lst (List.replicate 2 (V.str "invalid") ++ [.str "invalid"])) = G2 at e2 t2 ef2 ⊢
    clear ef1 s1 sy sx t1 hE1 e1 ef t0 e0
    have ef := ef2
    have t0 := t2
    have e0 := e2
    clear ef2 t2 e2
    refine ⟨.ref pf, rfl, .inl ⟨rfl, _, .inl (.inl ef)⟩, ⟨t0, fun H1 e1 t1 E1 Q1 hE1 _ => ⟨v, rfl, ⟨v, d, rfl, hd.ext (e0.trans e1), vt, fun _ Gx sx => hE1 _ _ _ ⟨rfl, rfl, fun G1 sy => ?_⟩, fun ns ks z tok => absurd (tbl_enc tok) (by rw [← z, bad]; decide)⟩⟩⟩⟩
    have s1 := sx.trans sy
    have ef1 : G1 pf = some (.lst (List.replicate 3 (V.str "invalid"))) := s1 _ _ (e1 _ _ ef fun ps z => by cases z)
    refine ⟨pf, _, .str "invalid", rfl, rfl, ef1, by show 3 < sizeLine; decide, ?_⟩
    have e2 : LamX.ExtN H (upd G1 pf (.lst (List.replicate 3 (V.str "invalid") ++ [.str "invalid"]))) := fun b o hb nt => by
      rw [upd_ne (nb b o hb nt)]
      exact s1 _ _ (e1 _ _ (e0 _ _ hb nt) nt)
    have t2 := tabs_upd (ys := List.replicate 3 (V.str "invalid") ++ [.str "invalid"]) ef1 (tabs_same s1 t1)
    have ef2 : (upd G1 pf (.lst (List.replicate 3 (V.str "invalid") ++ [.str "invalid"]))) pf = some (.lst (List.replicate 4 (V.str "invalid"))) := upd_same
    generalize upd G1 pf (.lst (List.replicate 3 (V.str "invalid") ++ [.str "invalid"])) = G2 at e2 t2 ef2 ⊢
    clear ef1 s1 sy sx t1 hE1 e1 ef t0 e0
    have ef := ef2
    have t0 := t2
    have e0 := e2
    clear ef2 t2 e2
    refine ⟨.ref pf, rfl, .inl ⟨rfl, _, .inl (.inl ef)⟩, ⟨t0, fun H1 e1 t1 E1 Q1 hE1 _ => ⟨v, rfl, ⟨⟨v, rfl⟩, v, d, [], rfl, hd.ext (e0.trans e1), vt, bad, fun Gx sx => hE1 _ _ _ ⟨rfl, rfl, fun G1 sy => ?_⟩⟩⟩⟩⟩
    have s1 := sx.trans sy
    have ef1 : G1 pf = some (.lst (List.replicate 4 (V.str "invalid"))) := s1 _ _ (e1 _ _ ef fun ps z => by cases z)
    refine ⟨pf, _, .str "invalid", rfl, rfl, ef1, by show 4 < sizeLine; decide, ?_⟩
    have e2 : LamX.ExtN H (upd G1 pf (.lst (List.replicate 4 (V.str "invalid") ++ [.str "invalid"]))) := fun b o hb nt => by
      rw [upd_ne (nb b o hb nt)]
      exact s1 _ _ (e1 _ _ (e0 _ _ hb nt) nt)
    have t2 := tabs_upd (ys := List.replicate 4 (V.str "invalid") ++ [.str "invalid"]) ef1 (tabs_same s1 t1)
    have ef2 : (upd G1 pf (.lst (List.replicate 4 (V.str "invalid") ++ [.str "invalid"]))) pf = some (.lst (List.replicate 5 (V.str "invalid"))) := upd_same
    generalize upd G1 pf (.lst (List.replicate 4 (V.str "invalid") ++ [.str "invalid"])) = G2 at e2 t2 ef2 ⊢
    clear ef1 s1 sy sx t1 hE1 e1 ef t0 e0
    have ef := ef2
    have t0 := t2
    have e0 := e2
    clear ef2 t2 e2
    refine ⟨.ref pf, rfl, .inl ⟨rfl, _, .inl (.inl ef)⟩, ⟨t0, fun H1 e1 t1 E1 Q1 hE1 _ => ⟨v, rfl, ⟨⟨v, .non, rfl⟩, v, d, [.non], rfl, hd.ext (e0.trans e1), vt, bad, fun Gx sx => hE1 _ _ _ ⟨rfl, rfl, fun G1 sy => ?_⟩⟩⟩⟩⟩
    have s1 := sx.trans sy
    have ef1 : G1 pf = some (.lst (List.replicate 5 (V.str "invalid"))) := s1 _ _ (e1 _ _ ef fun ps z => by cases z)
    refine ⟨pf, _, .str "invalid", rfl, rfl, ef1, by show 5 < sizeLine; decide, ?_⟩
    have e2 : LamX.ExtN H (upd G1 pf (.lst (List.replicate 5 (V.str "invalid") ++ [.str "invalid"]))) := fun b o hb nt => by
      rw [upd_ne (nb b o hb nt)]
      exact s1 _ _ (e1 _ _ (e0 _ _ hb nt) nt)
    have t2 := tabs_upd (ys := List.replicate 5 (V.str "invalid") ++ [.str "invalid"]) ef1 (tabs_same s1 t1)
    have ef2 : (upd G1 pf (.lst (List.replicate 5 (V.str "invalid") ++ [.str "invalid"]))) pf = some (.lst (List.replicate 6 (V.str "invalid"))) := upd_same
    generalize upd G1 pf (.lst (List.replicate 5 (V.str "invalid") ++ [.str "invalid"])) = G2 at e2 t2 ef2 ⊢
    clear ef1 s1 sy sx t1 hE1 e1 ef t0 e0
    have ef := ef2
    have t0 := t2
    have e0 := e2
    clear ef2 t2 e2
    refine ⟨.ref pf, rfl, one, fun pi ni => ⟨pi, 6, _, rfl, rfl, upd_same, by decide, by decide, by show 1 * 6 ≤ sizeLine; decide, fun pj nj => ?_⟩⟩
    have w1 := same_new (o := .lst [.str "invalid"]) ni
    have w2 := same_new (o := .lst (List.replicate (6 : Int).toNat [V.str "invalid"]).flatten) nj
    refine ⟨.list ((List.replicate 6 ("invalid" : Str)).map PyData.str), .list ((List.replicate 6 ("invalid" : Str)).map PyData.str), .lst (.inl (.inl (w2 _ _ (w1 _ _ ef)))) (KX.dp_strs (List.replicate 6 ("invalid" : Str))), .lst (.inl (.inl upd_same)) (KX.dp_strs (List.replicate 6 ("invalid" : Str))), pl_strs _, pl_strs _, ?_, ?_⟩
    · rw [Nat.min_self]
      decide +kernel
    rw [show PyData.eqv (.list ((List.replicate 6 ("invalid" : Str)).map PyData.str)) (.list ((List.replicate 6 ("invalid" : Str)).map PyData.str)) = true by
      rw [PyData.eqv, eqv_strl]
      exact decide_eq_true rfl]
    exact q _ (e0.trans (ext_same (w1.trans w2))) (tabs_same (w1.trans w2) t0)
end

end E1

set_option maxRecDepth 100000
set_option maxHeartbeats 4000000
namespace KX
open PySem PySem.Spec PyProof.Rows L2
/-! ### xs * k, the new list none of the first addresses -/
def rRepS : R2 := fun x y H Q => ∃ a m zs, x = .ref a ∧ y = .int m ∧ H a = some (.lst zs) ∧ 0 ≤ m ∧ m ≤ 1000 ∧ zs.length * m.toNat ≤ sizeLine ∧ ∀ p, H p = none → p ≠ sysModules → Q (.ref p) (L2.upd H p (.lst (List.replicate m.toNat zs).flatten))
theorem op_repS {X : Cx} : OpR X (binaryOp .Mult) rRepS := by
  intro pins s σ H x y v u Q I rx ry hyp
  obtain ⟨a, m, zs, rfl, rfl, hA, m0, m1, fit, q⟩ := hyp
  cases rx
  obtain ⟨tk, rfl⟩ := ry
  obtain ⟨_, ws, c, rw_, lw, ea⟩ := I.lstM hA
  have fit2 : ws.toArray.size * m.toNat ≤ sizeLine := by rw [List.size_toArray, ← lw]; exact fit
  have c1 : ¬ ws.toArray.size * m.toNat > (2 ^ 63 - 1) / 8 := by
    have line8 : sizeLine ≤ (2 ^ 63 - 1) / 8 := by decide
    omega
  have c2 : ¬ (!Builtin.List.listFitsIndex m) = true := by
    rw [fitsIndex_both (by omega) (by omega)]
    exact Bool.false_ne_true
  have c3 : ¬ Builtin.List.listTooLong (ws.toArray.size * m.toNat) = true := by
    rw [notLongL fit2]
    exact Bool.false_ne_true
  have made : List.foldl (fun b1 b2 => b1 ++ b2) #[] (List.replicate (if ws.toArray.isEmpty = true then 0 else m.toNat) ws.toArray) = (List.replicate m.toNat ws).flatten.toArray := by
    have each : ∀ j : Nat, List.foldl (fun b1 b2 => b1 ++ b2) #[] (List.replicate j ws.toArray) = (List.replicate j ws).flatten.toArray := fun j => by
      have r := foldl_rep ws j []
      rwa [List.nil_append] at r
    rw [each]
    cases ws with
    | nil => simp
    | cons w0 ws' => rw [if_neg (by simp)]
  refine wpAny_binaryOp_repeat_ref (U := "int") (T := "list") (by decide) ⟨_, ea, rfl⟩ (fun s2 => typeIs_int s2 m tk) noFill_list_mul F.fills_int_mul F.slot_int_rmul repeat_list F.slot_int_index.lookup
    (call_meets F.slot_int_rmul (typeIs_int s m tk) F.entry_int_rmul (F.args_int_rmul_2 _ _) (int___rmul___int_list m tk a ws.toArray c)
      ⟨ea, rfl, ⟨_, ea, rfl⟩, call_meets F.slot_list_mul ⟨_, ea, rfl⟩ F.entry_list_mul (F.args_list_mul_2 _ _) (AutoListH.list___mul___list_int_3 a ws.toArray c m tk c2 c1 c3) ⟨ea, ?_⟩⟩)
  rw [made]
  exact ⟨.ref _, _, I.lnew (t' := s.toks) (rw_.rep m.toNat) (by rw [lm_len_rep_flat, Nat.mul_comm]; exact fit), rfl, q _ I.fresh (new_big I (Nat.le_refl _))⟩
end KX

set_option maxRecDepth 100000
set_option maxHeartbeats 1000000
namespace E1
open PySem PySem.Spec PyProof.Rows L2 KX
/-! ### _law_right -/
theorem num_none {p : Str → Bool} : ∀ {ns : List Str}, (∀ x ∈ ns, p x = false) → numN ns p = 0
  | [], _ => rfl
  | x :: ns, h => by
    unfold numN
    rw [h x (by simp), num_none fun y hy => h y (List.mem_cons_of_mem x hy)]
    rfl
theorem num_one : ∀ {ns : List Str} {i : Nat} {x : Str}, ns.Nodup → ns[i]? = some x → numN ns (fun y => decide (y ∈ [x])) = 2 ^ i
  | [], _, _, _, h => by simp at h
  | y :: ns, 0, x, nd, h => by
    cases h
    rw [List.nodup_cons] at nd
    unfold numN
    rw [if_pos (by simp), num_none fun z hz => decide_eq_false (by
      simp only [List.mem_singleton]
      exact fun e => nd.1 (e ▸ hz))]
  | y :: ns, i + 1, x, nd, h => by
    rw [List.nodup_cons] at nd
    have h : ns[i]? = some x := by simpa using h
    have ne : y ≠ x := fun z => nd.1 (z ▸ List.mem_of_getElem? h)
    unfold numN
    rw [num_one nd.2 h, if_neg (by simp [ne]), Nat.pow_succ]
    omega
theorem zip_filter {c : Str → Nat → Bool} {q : Str → Bool} : ∀ (ns : List Str) (k : Nat), (∀ p ∈ ns.zipIdx k, c p.1 p.2 = q p.1) → (ns.zipIdx k).filterMap (fun p => if c p.1 p.2 = true then some p.1 else none) = ns.filter q
  | [], _, _ => rfl
  | x :: ns, k, h => by
    rw [List.zipIdx_cons, List.filterMap_cons, List.filter_cons, zip_filter ns (k + 1) fun p hp => h p (by rw [List.zipIdx_cons]; exact List.mem_cons_of_mem _ hp)]
    have := h (x, k) (by rw [List.zipIdx_cons]; simp)
    dsimp only at this ⊢
    rw [this]
    cases q x <;> rfl
theorem sub_one {ns : List Str} {i : Nat} {x : Str} (nd : ns.Nodup) (h : ns[i]? = some x) : subN ns (2 ^ i) = [x] := by
  rw [← num_one nd h, sub_num]
  have hx := List.mem_of_getElem? h
  have e : ns.filter (fun y => decide (y ∈ [x])) = ns.filter fun y => y == x := List.filter_congr fun y _ => by
    rw [Bool.eq_iff_iff]
    simp
  rw [e, List.filter_beq, nd.count, if_pos hx]
  rfl
theorem pow_lt_of {ns : List Str} {i : Nat} {x : Str} (h : ns[i]? = some x) : 2 ^ i < 2 ^ ns.length := Nat.pow_lt_pow_right (by decide) (List.getElem?_eq_some_iff.mp h).1
/-- what is selected alone -/
theorem single_sel {ns : List Str} {ks : List Nat} (ok : TOk ns ks) : (ns.zipIdx).filterMap (fun p => if decide (subN ns (ks.getD (2 ^ p.2) 0) = [p.1]) = true then some p.1 else none) = selN ns ks := by
  unfold selN
  refine zip_filter (c := fun x i => decide (subN ns (ks.getD (2 ^ i) 0) = [x])) (q := fun x => !(choS ns ks fun y => decide (y ∈ [x])).isEmpty) ns 0 fun p hp => ?_
  obtain ⟨m, hm⟩ := List.getElem?_of_mem hp
  obtain ⟨e1, e2⟩ := zipIdx_at hm
  rw [← e1] at e2
  have nd := ok.nms.nd
  unfold choS
  rw [num_one nd e2]
  have lt := pow_lt_of e2
  have ek := getD_ks lt ok.len
  generalize ks.getD (2 ^ p.2) 0 = kk at ek
  have hs := ok.sub _ _ ek
  have hsub := (and_sub nd (ok.lt ek)).mp hs
  rw [sub_one nd e2] at hsub
  have hl := (sub_sl ns kk).nodup nd
  generalize subN ns kk = xs at hsub hl
  cases xs with
  | nil => simp
  | cons a xs =>
    have ha : a = p.1 := by simpa using hsub a (by simp)
    cases xs with
    | nil => subst ha; simp
    | cons b xs =>
      have hb : b = p.1 := by simpa using hsub b (by simp)
      rw [List.nodup_cons] at hl
      exact absurd (by rw [ha, hb]; simp) hl.1
theorem enc_inj {ns ns' : List Str} {ks ks' : List Nat} (e : encT ns ks = encT ns' ks') (ok : TOk ns ks) (ok' : TOk ns' ks') : ns' = ns ∧ ks' = ks := by
  unfold encT at e
  have h := PyData.tuple.inj e
  have h1 : PyData.tuple (ns.map .str) = .tuple (ns'.map .str) := (List.cons.inj h).1
  have h2 : PyData.tuple ((chs ns ks).map fun c => .tuple (c.map .str)) = .tuple ((chs ns' ks').map fun c => .tuple (c.map .str)) := (List.cons.inj (List.cons.inj h).2).1
  have en : ns = ns' := by
    have := congrArg strsT h1
    rwa [strs_back, strs_back] at this
  subst en
  have ec : chs ns ks = chs ns ks' := by
    have := congrArg (List.map strsT) (PyData.tuple.inj h2)
    rw [List.map_map, List.map_map] at this
    have id1 : ∀ cs : List (List Str), cs.map (strsT ∘ fun c => PyData.tuple (c.map .str)) = cs := fun cs => by
      conv => rhs; rw [← List.map_id cs]
      exact List.map_congr_left fun c _ => strs_back c
    rwa [id1, id1] at this
  refine ⟨rfl, List.ext_getElem? fun m => ?_⟩
  cases m with
  | zero => rw [ok.zero, ok'.zero]
  | succ m =>
    rcases Nat.lt_or_ge (m + 1) ks.length with h | h
    · have g1 := List.getElem?_eq_getElem h
      have h' : m + 1 < ks'.length := by
        rw [ok'.len, ← ok.len]
        exact h
      have g2 := List.getElem?_eq_getElem h'
      have c1 := chs_at (ns := ns) g1
      have c2 := chs_at (ns := ns) g2
      rw [ec, c2] at c1
      have := sub_inj ok.nms.nd (ok'.lt g2) (ok.lt g1) (Option.some.inj c1)
      rw [g1, g2, this]
    · rw [List.getElem?_eq_none h, List.getElem?_eq_none (by rw [ok'.len, ← ok.len]; exact h)]
theorem Vt.sh {d : PyData} (h : Vt d) : d.showable = true ∧ d.depth ≤ 100 ∧ d.shown.length ≤ sizeLine := by
  have hB : 10 ^ 40 < 10 ^ 400 := Nat.pow_lt_pow_right (by decide) (by decide)
  refine ⟨showable_fine hB d h.f, by have := h.p; omega, ?_⟩
  have h1 := shown_le hB d h.f
  have h2 := h.w
  rw [sizeLine_eq]
  omega
theorem abc_small : ∀ c ∈ abc.cps.toList, c < 128 := by decide +kernel
theorem nm_bd {n : Str} (h : nameD (.str n) = true) : n.length ≤ 8 ∧ ∀ B, fine B (.str n) = true := by
  have h5 : ((decide (1 ≤ (n.length : Int)) && decide ((n.length : Int) ≤ 8)) && letD n) = true := h
  simp only [Bool.and_eq_true] at h5
  have h6 := of_decide_eq_true h5.1.2
  refine ⟨by omega, fun B => ?_⟩
  have h7 := h5.2
  unfold letD at h7
  rw [List.all_eq_true] at h7
  exact List.all_eq_true.mpr fun c hc => decide_eq_true (abc_small c (of_decide_eq_true (h7 c hc)))
theorem strs_bd {B : Nat} : ∀ {ns : List Str}, (∀ n ∈ ns, nameD (.str n) = true) → fineAll B (ns.map PyData.str) = true ∧ wtAll (ns.map PyData.str) ≤ 9 * ns.length ∧ PyData.depthAll (ns.map PyData.str) = 0
  | [], _ => ⟨rfl, Nat.le_refl _, rfl⟩
  | n :: ns, h => by
    obtain ⟨h1, h2, h3⟩ := strs_bd (B := B) fun x hx => h x (List.mem_cons_of_mem _ hx)
    obtain ⟨g1, g2⟩ := nm_bd (h n (by simp))
    refine ⟨?_, ?_, ?_⟩
    · show (fine B (.str n) && fineAll B (ns.map PyData.str)) = true
      rw [g2 B, h1]
      rfl
    · show n.length + 1 + wtAll (ns.map PyData.str) ≤ 9 * (ns.length + 1)
      omega
    · simp [PyData.depthAll, PyData.depth, h3]
theorem wid_strs : ∀ ns : List Str, widAll (ns.map PyData.str) = 0
  | [] => rfl
  | n :: ns => by simp [widAll, wid, wid_strs ns]
/-- a list of a tuple of names twice -/
theorem twice_sh {cs : List Str} (h : ∀ n ∈ cs, nameD (.str n) = true) (l : cs.length ≤ 6) : (PyData.list [.tuple (cs.map .str), .tuple (cs.map .str)]).showable = true ∧ (PyData.list [.tuple (cs.map .str), .tuple (cs.map .str)]).depth ≤ 100 ∧ (PyData.list [.tuple (cs.map .str), .tuple (cs.map .str)]).shown.length ≤ sizeLine := by
  obtain ⟨h1, h2, h3⟩ := strs_bd (B := 10 ^ 40) h
  have w0 := wid_strs cs
  exact Vt.sh ⟨by
      show (fineAll _ (cs.map PyData.str) && (fineAll _ (cs.map PyData.str) && true)) = true
      rw [h1]; rfl, by
      show (wtAll (cs.map PyData.str) + 1 + (wtAll (cs.map PyData.str) + 1 + 0)) + 1 ≤ 15000
      omega, by
      simp only [wid, widAll, w0, List.length_map, List.length_cons, List.length_nil]
      omega, by
      simp only [PyData.depth, PyData.depthAll, h3]
      omega⟩
theorem bools_good (b : Bool) : (PyData.list [.bool b, .bool b]).showable = true ∧ (PyData.list [.bool b, .bool b]).depth ≤ 100 ∧ (PyData.list [.bool b, .bool b]).shown.length ≤ sizeLine :=
  Good.show (B := 0) (n := 3) ⟨rfl, Nat.le_refl _⟩ (Nat.pow_pos (by decide)) (by decide)
abbrev sRi : Stmt := topS 58
abbrev NRi : List Str := ["value", "kept", "due", "names", "choices", "single", "at", "name"]
theorem scRi : FnScope NRi ["value"] (defScope sRi) := ⟨rfl, rfl, rfl, by decide +kernel, rfl, by decide +kernel, by decide +kernel⟩
def spRi (P0 : Addr) : Sp := fun vs H Q _ => ∃ (v : V) (d : PyData), vs = [v] ∧ LamX.Tabs [(P0, lamQ)] H ∧ Dx H v d ∧ Vt d ∧ ∀ H', LamX.ExtN H H' → LamX.Tabs [(P0, lamQ)] H' → Q (.bl true) H'
section
variable {P : Program} {w : World} {K : PySem.W.Frag} {mg : Str → Option Value} {base : Heap} {R : Addr}
theorem ok_ri {k : Nat} {f fV fI fA fS P0 : Addr} {fd gV gI gA gS : FuncData} (B : Bl mg) (D : Df K mg "_law_right" sRi ["value"] f fd) (DV : Df K mg "_law_valid_table" sVT ["value"] fV gV) (DI : Df K mg "is_table" sIt ["value"] fI gI) (DA : Df K mg "_law_all_raise" sAR ["value"] fA gA) (DS : Df K mg "selectable_names" sSe ["table"] fS gS)
    (GV : FnOk P w K mg base CX0 k fV gV ["value"] spItD) (GI : FnOk P w K mg base CX0 k fI gI ["value"] spItD) (GA : FnG P w K mg base CX0 k fA gA ["value"] (spAR P0)) (GS : FnOk P w K mg base (L2.CX P w) k fS gS ["table"] (spSe R)) : FnG P w K mg base CX0 (k + 1) f fd ["value"] (spRi P0) := by
  refine okG D.F scRi (fun vs H Q E h => ?_) (fun cdv A outer s H vs Q E hgd hr h => ?_)
  · obtain ⟨v, d, rfl, _⟩ := h
    rfl
  · obtain ⟨v, d, rfl, ht, hd, vt, q⟩ := h
    have nd := scRi.nd
    refine ⟨_, pss_cons (ps_par (i := 1) (j := 2) rfl nd rfl rfl (by decide) rfl rfl (pa_cons (pe_callB (call_reprD hr hgd) (by rfl) B.repr (by decide +kernel) (pa_cons (pv 0) pa_nil)) (pa_cons (pe_call GV hr (by rfl) DV.g DV.F.kp DV.b .nil pass0 (pa_cons (pv 0) pa_nil)) pa_nil)) (by rfl))
      (pss_cons (ps_if (pt_cmpR op_ne (pe_callB (call_reprD hr hgd) (by rfl) B.repr (by decide +kernel) (pa_cons (pe_lstS (pa_cons (pe_call GI hr (by rfl) DI.g DI.F.kp DI.b .nil pass0 (pa_cons (pv 0) pa_nil)) (pa_cons (pe_call GI hr (by rfl) DI.g DI.F.kp DI.b .nil pass0 (pa_cons (pv 0) pa_nil)) pa_nil))) pa_nil))
          (pe_callB (call_reprD hr hgd) (by rfl) B.repr (by decide +kernel) (pa_cons (pe_lstS (pa_cons (pv 2) (pa_cons (pv 2) pa_nil))) pa_nil)) (nomark _)) (pss_one (ps_ret pe_bl)) pss_nil)
      (pss_cons (ps_if (pt_not (pt_val (pv 2))) (pss_one (ps_ret (pe_and (pe_callG GA hgd hr (by rfl) DA.g DA.F.kp DA.b .nil pass0 (pa_cons (pv 0) pa_nil)) (pe_one (pe_cmpR op_eq (pe_callB (call_reprD hr hgd) (by rfl) B.repr (by decide +kernel) (pa_cons (pv 0) pa_nil)) (pv 1) (nomark _)))))) pss_nil)
      (pss_cons (ps_asg (pv 0) (pg_tup (by rfl) (pgs_cons (pg_name (i := 3) nd rfl (.inl rfl)) (pgs_cons (pg_name (i := 4) nd rfl (.inr rfl)) pgs_nil))))
      (pss_cons (ps_set (i := 5) nd rfl (.inl rfl) (pe_callTy call_tuple_of (by rfl) B.tuple (by decide +kernel) (pa_cons (pe_lc (own := [("at", 6), ("name", 7)]) (g := gTup K 2 (gCons (gName 6) (gCons (gName 7) gNil))) rfl nd (pi_enumQ (by rfl) B.enu (pa_cons (pv 3) pa_nil)) (blkOk_by (N := NRi) (sc := defScope sRi) (by decide +kernel))
          (fun _ _ _ _ _ => pg_tup (by rfl) (pgs_cons (pg_name (i := 6) nd rfl (Or.inl rfl)) (pgs_cons (pg_name (i := 7) nd rfl (Or.inl rfl)) pgs_nil)))
          (fun _ _ _ _ _ => pts_one (pt_cmpR (r := rEqP K id) (op_eqP hr.units) (pe_ix (r := rIxT K) ix_tup (pv 4) (pe_op op_sub (pe_op op_shl pe_int (pv 6)) pe_int) (fun _ _ => rfl)) (pe_tup (pa_cons (pv 7) pa_nil)) (nomark _))) (fun _ _ _ _ _ => pv 7)) pa_nil)))
      (pss_one (ps_ret (pe_and (pe_cmpR op_eq (pe_callB (call_reprD hr hgd) (by rfl) B.repr (by decide +kernel) (pa_cons (pe_op op_repS (pe_lst (pa_cons (pe_call GS hr (by rfl) DS.g DS.F.kp DS.b .nil passL (pa_cons (pv 0) pa_nil)) pa_nil)) pe_int) pa_nil))
          (pe_callB (call_reprD hr hgd) (by rfl) B.repr (by decide +kernel) (pa_cons (pe_op op_repS (pe_lst (pa_cons (pv 5) pa_nil)) pe_int) pa_nil)) (nomark _)) (pe_one (pe_cmpR op_eq (pe_callB (call_reprD hr hgd) (by rfl) B.repr (by decide +kernel) (pa_cons (pv 0) pa_nil)) (pv 1) (nomark _)))))))))), ?_⟩
    obtain ⟨sh1, sh2, sh3⟩ := vt.sh
    refine ⟨v, rfl, v, d, rfl, hd, sh1, sh2, sh3, v, rfl, v, d, rfl, hd, vt, fun H1 s1 => ⟨_, _, rfl, ?_⟩⟩
    generalize hdue : tblD d = due
    generalize hkept : d.shown = kept at sh3
    change tSeq _ _ _ ([some v, some (.str kept), some (.bl due), none, none, none, none, none] : L2.St) H1
    refine ⟨v, rfl, v, d, rfl, hd.up s1, vt, fun H2 s2 => ?_⟩
    have s02 := s1.trans s2
    refine ⟨v, rfl, v, d, rfl, hd.up s02, vt, fun H3 s3 => ?_⟩
    have s03 := s02.trans s3
    rw [hdue]
    obtain ⟨b1, b2, b3⟩ := bools_good due
    refine ⟨by show 2 ≤ sizeLine; decide, fun a na za => ?_⟩
    have s4 := s03.trans (same_new (o := .lst [.bl due, .bl due]) na)
    refine ⟨.ref a, .list [.bool due, .bool due], rfl, .lst upd_same za (.cons (.bl due) (.cons (.bl due) .nil)), b1, b2, b3, ?_⟩
    refine ⟨.bl due, rfl, .bl due, rfl, by show 2 ≤ sizeLine; decide, fun c nc zc => ?_⟩
    have s5 := s4.trans (same_new (o := .lst [.bl due, .bl due]) nc)
    refine ⟨.ref c, .list [.bool due, .bool due], rfl, .lst upd_same zc (.cons (.bl due) (.cons (.bl due) .nil)), b1, b2, b3, rfl, _, rfl, ?_⟩
    refine ite_not (by rw [decide_eq_true rfl]; rfl) ?_
    generalize upd (upd H3 a (.lst [.bl due, .bl due])) c (.lst [.bl due, .bl due]) = H5 at s5 ⊢
    clear s4 s03 s3 s02 s2 s1 na za nc zc
    refine ⟨.bl due, rfl, _, rfl, ?_⟩
    cases due with
    | false =>
      refine iteT ⟨v, rfl, v, d, rfl, tabs_same s5 ht, hd.up s5, vt, hdue, fun H6 e6 t6 => ⟨_, rfl, iteT ?_⟩⟩
      have e06 : LamX.ExtN H H6 := (ext_same s5).trans e6
      refine ⟨v, rfl, v, d, rfl, hd.ext e06, sh1, sh2, by rw [hkept]; exact sh3, .str kept, rfl, rfl, ?_⟩
      rw [hkept, decide_eq_true rfl]
      exact q _ e06 t6
    | true =>
      refine iteF ?_
      obtain ⟨ns, ks, ok, rfl⟩ := tbl_dec hdue
      have hT := tbl_at hd
      obtain ⟨a, z, y, ws, rfl, ea, ez, ey, hw⟩ := id hT
      refine ⟨.ref a, rfl, a, _, rfl, .inl (.inl (s5 _ _ ea)), rfl, _, _, rfl, _, _, rfl, rfl, ?_⟩
      change tSeq _ _ _ ([some (.ref a), some (.str kept), some (.bl true), some (.ref z), some (.ref y), none, none, none] : L2.St) H5
      have l6 := ok.nms.l6
      have lw := Paired.length hw
      refine ⟨.ref z, rfl, z, _, rfl, .inl (rd_up ez s5), fun L nL => ?_⟩
      have lz : (ns.zipIdx).length = (ns.map V.str).length := by rw [List.length_zipIdx, List.length_map]
      refine lc_genZ (as := ns.zipIdx) (fun p => if decide (subN ns (ks.getD (2 ^ p.2) 0) = [p.1]) = true then some p.1 else none) (fun _ y n => y = .str n) (fun _ _ _ _ _ h => h) (lz ▸ walk_enumQ (K := K)) nL (fun G sG => .inl (rd_up (rd_up ez s5) sG)) (by rw [List.length_zipIdx]; omega) (fun i x u p T G hx hu hp sG eT Pt Pf kt kf => ?_) (fun G us sG eL hp _ => ?_)
      · obtain ⟨e1, e2⟩ := zipIdx_at hp
        cases hx
        rw [List.getElem?_map, e2] at hu
        cases hu
        have lt := pow_lt_of e2
        have ek := getD_ks lt ok.len
        have sA := s5.trans sG
        have hi : i < ns.length := (List.getElem?_eq_some_iff.mp e2).1
        have p1 : 1 ≤ 2 ^ i := Nat.one_le_two_pow
        obtain ⟨m, em⟩ : ∃ m, 2 ^ i = m + 1 := ⟨2 ^ i - 1, by omega⟩
        have ek2 : ks[m + 1]? = some (ks.getD (2 ^ i) 0) := by rw [← em]; exact ek
        have ec := chs_at (ns := ns) ek2
        obtain ⟨x, ex⟩ : ∃ x, ws[m]? = some x := ⟨ws[m]'(by rw [lw]; exact (List.getElem?_eq_some_iff.mp ec).1), List.getElem?_eq_getElem _⟩
        obtain ⟨c, e5, hc⟩ := pair_at hw ex
        rw [ec] at e5
        cases e5
        have ej : (1 : Int) * 2 ^ ((i : Int)).toNat = ((2 ^ i : Nat) : Int) := by
          rw [Int.toNat_natCast, Int.one_mul]
          push_cast
          rfl
        refine ⟨T, _, rfl, .inl (.inl eT), rfl, _, _, rfl, _, _, rfl, rfl, ?_⟩
        refine ⟨rfl, .ref y, rfl, .int (i : Int), rfl, 1, (i : Int), rfl, rfl, ⟨by omega, by omega, by decide⟩, _, 1, rfl, rfl, y, ws, _, x, rfl, rfl, .inl (.inl (sA _ _ ey)), ?_, .str p.1, rfl, by show 1 ≤ sizeLine; decide, fun b nb => ?_⟩
        · rw [ej, show ((2 ^ i : Nat) : Int) - 1 = (m : Int) by omega]
          exact atI_nat ex
        have s6 := same_new (o := .tup [V.str p.1]) nb
        refine eq_strT (GtAt.tk (TK.same (sA.trans s6)) hc) (gt_mk (g := [p.1]) upd_same) ⟨_, rfl, ?_⟩
        show if decide (subN ns (ks.getD (2 ^ i) 0) = [p.1]) = true then _ else _
        rw [← e1]
        by_cases zz : subN ns (ks.getD (2 ^ p.2) 0) = [p.1]
        · exact ite_to (decide_eq_true zz) ⟨.str p.1, rfl, kt _ (if_pos (decide_eq_true zz)) _ _ s6 rfl⟩
        · exact ite_not (decide_eq_false zz) (kf (if_neg (by rw [decide_eq_false zz]; decide)) _ s6)
      rw [single_sel ok] at hp
      have eus := strs_of (H := G) hp
      subst eus
      refine ⟨L, _, rfl, .inl ⟨.inl (.inl eL), fun p np => ?_⟩⟩
      have s6 : Same H (upd G p (.tup ((selN ns ks).map V.str))) := (s5.trans sG).trans (same_new np)
      have ep : (upd G p (.tup ((selN ns ks).map V.str))) p = some (.tup ((selN ns ks).map V.str)) := upd_same
      generalize upd G p (.tup ((selN ns ks).map V.str)) = H6 at s6 ep ⊢
      refine gn_to (σ' := ([some (.ref a), some (.str kept), some (.bl true), some (.ref z), some (.ref y), some (.ref p), none, none] : L2.St)) rfl ?_
      try dsimp only
      have ls : (selN ns ks).length ≤ 6 := Nat.le_trans (List.length_filter_le _ _) l6
      obtain ⟨t1, t2, t3⟩ := twice_sh (cs := selN ns ks) (fun n hn => ok.nms.nm n (List.mem_filter.mp hn).1) ls
      refine ⟨.ref a, rfl, ?_⟩
      dsimp only [tNil]
      rw [List.append_nil]
      refine ⟨.ref a, _, rfl, hd.up s6, vt, fun e => absurd e (by rw [hdue]; decide), fun ns' ks' e ok' H7 x s7 hx => ?_⟩
      obtain ⟨rfl, rfl⟩ := enc_inj e ok ok'
      refine ⟨by show 1 ≤ sizeLine; decide, fun c1 n1 => ⟨c1, 2, _, rfl, rfl, upd_same, by decide, by decide, by show 1 * 2 ≤ sizeLine; decide, fun c2 n2 z2 => ?_⟩⟩
      have u1 := same_new (o := .lst [x]) n1
      have u2 := same_new (o := .lst (List.replicate (2 : Int).toNat [x]).flatten) n2
      have hx2 : Dx (upd (upd H7 c1 (.lst [x])) c2 (.lst (List.replicate (2 : Int).toNat [x]).flatten)) x (.tuple ((selN ns' ks').map .str)) := (hx.up u1).up u2
      refine ⟨.ref c2, .list [.tuple ((selN ns' ks').map .str), .tuple ((selN ns' ks').map .str)], rfl, .lst (xs := [x, x]) upd_same z2 (.cons hx2 (.cons hx2 .nil)), t1, t2, t3, ?_⟩
      have s8 := ((s6.trans s7).trans u1).trans u2
      have ep8 := u2 _ _ (u1 _ _ (s7 _ _ ep))
      generalize upd (upd H7 c1 (.lst [x])) c2 (.lst (List.replicate (2 : Int).toNat [x]).flatten) = H8 at s8 ep8 ⊢
      refine ⟨.ref p, rfl, by show 1 ≤ sizeLine; decide, fun c3 n3 => ⟨c3, 2, _, rfl, rfl, upd_same, by decide, by decide, by show 1 * 2 ≤ sizeLine; decide, fun c4 n4 z4 => ?_⟩⟩
      have u3 := same_new (o := .lst [V.ref p]) n3
      have u4 := same_new (o := .lst (List.replicate (2 : Int).toNat [V.ref p]).flatten) n4
      have hp2 : Dx (upd (upd H8 c3 (.lst [V.ref p])) c4 (.lst (List.replicate (2 : Int).toNat [V.ref p]).flatten)) (.ref p) (.tuple ((selN ns' ks').map .str)) := gt_mk (u4 _ _ (u3 _ _ ep8))
      refine ⟨.ref c4, .list [.tuple ((selN ns' ks').map .str), .tuple ((selN ns' ks').map .str)], rfl, .lst (xs := [.ref p, .ref p]) upd_same z4 (.cons hp2 (.cons hp2 .nil)), t1, t2, t3, rfl, _, rfl, ?_⟩
      refine ite_to (decide_eq_true rfl) ?_
      have s9 := (s8.trans u3).trans u4
      refine ⟨.ref a, rfl, .ref a, encT ns' ks', rfl, hd.up s9, sh1, sh2, by rw [hkept]; exact sh3, .str kept, rfl, rfl, ?_⟩
      rw [hkept, decide_eq_true rfl]
      exact q _ (ext_same s9) (tabs_same s9 ht)
end

end E1

set_option maxRecDepth 100000
set_option maxHeartbeats 1000000
namespace E1
open PySem PySem.Spec PyProof.Rows L2 KX
/-! ### _law_changed -/
def Gg (a p : Nat) (d : PyData) : Prop := fine (10 ^ 39 + 2) d = true ∧ wt d ≤ a ∧ wid d ≤ 100 ∧ d.depth ≤ p
def Lg (a m p : Nat) (ds : List PyData) : Prop := fineAll (10 ^ 39 + 2) ds = true ∧ wtAll ds ≤ a ∧ ds.length ≤ m ∧ widAll ds ≤ 100 ∧ PyData.depthAll ds ≤ p
theorem lg_nil {p : Nat} : Lg 0 0 p [] := ⟨rfl, Nat.le_refl _, Nat.le_refl _, Nat.zero_le _, by simp [PyData.depthAll]⟩
theorem lg_cons {a b m p : Nat} {d : PyData} {ds : List PyData} (h : Gg a p d) (t : Lg b m p ds) : Lg (a + b) (m + 1) p (d :: ds) := by
  obtain ⟨h1, h2, h3, h4⟩ := h
  obtain ⟨t1, t2, t3, t4, t5⟩ := t
  refine ⟨by simp [fineAll, h1, t1], by simp [wtAll]; omega, by rw [List.length_cons]; omega, by simp only [widAll]; omega, by simp only [PyData.depthAll]; omega⟩
theorem widAll_app : ∀ xs ys : List PyData, widAll (xs ++ ys) = max (widAll xs) (widAll ys)
  | [], ys => by simp [widAll]
  | x :: xs, ys => by
    have := widAll_app xs ys
    simp only [List.cons_append, widAll, this]
    omega
theorem depthAll_app : ∀ xs ys : List PyData, PyData.depthAll (xs ++ ys) = max (PyData.depthAll xs) (PyData.depthAll ys)
  | [], ys => by simp [PyData.depthAll]
  | x :: xs, ys => by
    have := depthAll_app xs ys
    simp only [List.cons_append, PyData.depthAll, this]
    omega
theorem lg_app {a b m n p : Nat} {x y : List PyData} (h : Lg a m p x) (t : Lg b n p y) : Lg (a + b) (m + n) p (x ++ y) := by
  obtain ⟨h1, h2, h3, h4, h5⟩ := h
  obtain ⟨t1, t2, t3, t4, t5⟩ := t
  refine ⟨by rw [fineAll_app, h1, t1]; rfl, by rw [wtAll_app]; omega, by rw [List.length_append]; omega, by rw [widAll_app]; omega, by rw [depthAll_app]; omega⟩
theorem lg_sub {a m p : Nat} {x y : List PyData} (h : Lg a m p (x ++ y)) : Lg a m p x ∧ Lg a m p y := by
  obtain ⟨h1, h2, h3, h4, h5⟩ := h
  rw [fineAll_app, Bool.and_eq_true] at h1
  rw [wtAll_app] at h2
  rw [List.length_append] at h3
  rw [widAll_app] at h4
  rw [depthAll_app] at h5
  exact ⟨⟨h1.1, by omega, by omega, by omega, by omega⟩, h1.2, by omega, by omega, by omega, by omega⟩
theorem lg_cut {a m p : Nat} {x : List PyData} (h : Lg a m p x) (lo hi : Option Int) : Lg a m p (KX.cutD x lo hi) := by
  unfold KX.cutD
  have h1 := (lg_sub (x := x.take (HT.sIx x.length 0 lo)) (y := x.drop (HT.sIx x.length 0 lo)) (by rw [List.take_append_drop]; exact h)).2
  exact (lg_sub (x := (x.drop (HT.sIx x.length 0 lo)).take _) (y := (x.drop (HT.sIx x.length 0 lo)).drop _) (by rw [List.take_append_drop]; exact h1)).1
theorem lg_rev {a m p : Nat} {x : List PyData} (h : Lg a m p x) : Lg a m p x.reverse := by
  obtain ⟨h1, h2, h3, h4, h5⟩ := h
  refine ⟨fineAll_mem.mpr fun e he => fineAll_mem.mp h1 e (List.mem_reverse.mp he), by rw [wtAll_rev]; exact h2, by rw [List.length_reverse]; exact h3, widAll_le fun e he => Nat.le_trans (wid_mem (List.mem_reverse.mp he)) h4, depthAll_le fun e he => Nat.le_trans (depth_mem (List.mem_reverse.mp he)) h5⟩
theorem lg_tup {a m p : Nat} {x : List PyData} (h : Lg a m p x) (hm : m ≤ 100) : Gg (a + 1) (p + 1) (.tuple x) ∧ Gg (a + 1) (p + 1) (.list x) := by
  obtain ⟨h1, h2, h3, h4, h5⟩ := h
  exact ⟨⟨by simpa only [fine] using h1, by simp only [wt]; omega, by simp only [wid]; omega, by simp only [PyData.depth]; omega⟩, by simpa only [fine] using h1, by simp only [wt]; omega, by simp only [wid]; omega, by simp only [PyData.depth]; omega⟩
theorem gg_mono {a b p r : Nat} {d : PyData} (h : Gg a p d) (h1 : a ≤ b) (h2 : p ≤ r) : Gg b r d := ⟨h.1, Nat.le_trans h.2.1 h1, h.2.2.1, Nat.le_trans h.2.2.2 h2⟩
theorem lg_mono {a b m n p r : Nat} {d : List PyData} (h : Lg a m p d) (h1 : a ≤ b) (h2 : m ≤ n) (h3 : p ≤ r) : Lg b n r d := ⟨h.1, Nat.le_trans h.2.1 h1, Nat.le_trans h.2.2.1 h2, h.2.2.2.1, Nat.le_trans h.2.2.2.2 h3⟩
theorem lg_strs {ns : List Str} (h : ∀ n ∈ ns, nameD (.str n) = true) (l : ns.length ≤ 6) : Lg 54 6 0 (ns.map .str) := by
  obtain ⟨h1, h2, h3⟩ := strs_bd (B := 10 ^ 39 + 2) h
  refine ⟨h1, by omega, by rw [List.length_map]; exact l, by rw [wid_strs]; omega, by rw [h3]; exact Nat.le_refl _⟩
theorem lg_sets : ∀ {cs : List (List Str)}, (∀ c ∈ cs, c.length ≤ 6 ∧ ∀ n ∈ c, nameD (.str n) = true) → Lg (55 * cs.length) cs.length 1 (cs.map fun c => .tuple (c.map .str))
  | [], _ => lg_nil
  | c :: cs, h => by
    have ih := lg_sets fun x hx => h x (List.mem_cons_of_mem c hx)
    obtain ⟨h1, h2⟩ := h c (by simp)
    have := lg_cons (lg_tup (lg_strs h2 h1) (by decide)).1 ih
    exact lg_mono this (by rw [List.length_cons]; omega) (by rw [List.length_cons]; exact Nat.le_refl _) (Nat.le_refl _)
theorem chs_ok {ns : List Str} {ks : List Nat} (ok : TOk ns ks) : ∀ c ∈ chs ns ks, c.length ≤ 6 ∧ ∀ n ∈ c, nameD (.str n) = true := fun c hc => by
  unfold chs at hc
  obtain ⟨k, _, rfl⟩ := List.mem_map.mp hc
  have := (sub_sl ns k).length_le
  have := ok.nms.l6
  exact ⟨by omega, fun n hn => ok.nms.nm n (sub_mem hn)⟩
theorem chs_len {ns : List Str} {ks : List Nat} (ok : TOk ns ks) : (chs ns ks).length ≤ 63 := by
  unfold chs
  rw [List.length_map, List.length_drop, ok.len]
  have : 2 ^ ns.length ≤ 2 ^ 6 := Nat.pow_le_pow_right (by decide) ok.nms.l6
  omega
theorem lg_chs {ns : List Str} {ks : List Nat} (ok : TOk ns ks) : Lg 3465 63 1 ((chs ns ks).map fun c => .tuple (c.map .str)) :=
  lg_mono (lg_sets (chs_ok ok)) (by have := chs_len ok; omega) (chs_len ok) (Nat.le_refl _)
theorem lg_ns {ns : List Str} {ks : List Nat} (ok : TOk ns ks) : Lg 54 6 0 (ns.map .str) := lg_strs ok.nms.nm ok.nms.l6
theorem gg_enc {ns : List Str} {ks : List Nat} (ok : TOk ns ks) : fine (10 ^ 39) (encT ns ks) = true ∧ wt (encT ns ks) ≤ 3525 ∧ wid (encT ns ks) ≤ 100 ∧ (encT ns ks).depth ≤ 3 := by
  have h1 := gg_mono (lg_tup (lg_ns ok) (by decide)).1 (Nat.le_refl _) (show 1 ≤ 2 by decide)
  have h2 := (lg_tup (lg_chs ok) (by decide)).1
  obtain ⟨_, g2, g3, g4⟩ := (lg_tup (lg_cons h1 (lg_cons h2 lg_nil)) (by decide)).1
  refine ⟨?_, Nat.le_trans g2 (by decide), g3, g4⟩
  have f1 := (strs_bd (B := 10 ^ 39) ok.nms.nm).1
  have f2 : fineAll (10 ^ 39) ((chs ns ks).map fun c => PyData.tuple (c.map .str)) = true := fineAll_mem.mpr fun e he => by
    obtain ⟨c, hc, rfl⟩ := List.mem_map.mp he
    simp only [fine]
    exact (strs_bd (B := 10 ^ 39) (chs_ok ok c hc).2).1
  show (fineAll _ (ns.map PyData.str) && (fineAll _ ((chs ns ks).map fun c => PyData.tuple (c.map .str)) && true)) = true
  rw [f1, f2]
  rfl
theorem enc_dmi {ns : List Str} {ks : List Nat} (ok : TOk ns ks) : DmI (encT ns ks) := by
  obtain ⟨h1, h2, h3, h4⟩ := gg_enc ok
  exact ⟨fine_le (show 10 ^ 39 ≤ 10 ^ 40 from Nat.pow_le_pow_right (by decide) (by decide)) _ h1, by omega, by omega⟩
theorem dm_gg {ns : List Str} {ks : List Nat} {d : PyData} (ok : TOk ns ks) (h : DmG (encT ns ks) d) : fine (10 ^ 39 + 2) d = true ∧ wt d ≤ 7450 ∧ wid d ≤ 110 ∧ d.depth ≤ 8 := by
  obtain ⟨h1, h2, h3, h4⟩ := gg_enc ok
  have := h.w
  have := h.n
  have := h.p
  exact ⟨h.f _ (Nat.le_refl _) h1, by omega, by omega, by omega⟩
/-- what _law_changed gives -/
structure ChG (d : PyData) : Prop where
  f : fine (10 ^ 39 + 2) d = true
  w : wt d ≤ 7450
  n : wid d ≤ 110
  p : d.depth ≤ 8
theorem gg_ch {a p : Nat} {d : PyData} (h : Gg a p d) (h1 : a ≤ 7450) (h2 : p ≤ 8) : ChG d := ⟨h.1, Nat.le_trans h.2.1 h1, Nat.le_trans h.2.2.1 (by decide), Nat.le_trans h.2.2.2 h2⟩
abbrev sCh : Stmt := topS 59
abbrev NCh : List Str := ["stream", "table", "names", "choices", "at", "way", "choice", "odd", "some"]
theorem scCh : FnScope NCh ["stream", "table"] (defScope sCh) := ⟨rfl, rfl, rfl, by decide +kernel, rfl, by decide +kernel, by decide +kernel⟩
def spCh : Sp := fun vs H Q _ => ∃ (l : Addr) (v : V) (ns : List Str) (ks : List Nat), vs = [.ref l, v] ∧ StO H l ∧ Dx (hid l H) v (encT ns ks) ∧ TOk ns ks ∧ ∀ H' v' d', Keep l H H' → StO H' l → Dx (hid l H') v' d' → ChG d' → Q v' H'
theorem gd_oneC {l : Addr} {Pp : KX.PSt} {S : PyData → Prop} {t : TE} (kp : Kp l Pp) (h : GD l Pp S t) : GD l Pp (fun d => ∃ x, d = .tuple [x] ∧ S x) (tTup (tCons t tNil)) :=
  (gd_tup (gds_cons kp h gds_nil) fun ds z => by obtain ⟨x, y, rfl, _, rfl⟩ := z; show 1 ≤ sizeLine; decide).imp fun d e => by
    obtain ⟨ds, rfl, x, y, rfl, s, rfl⟩ := e
    exact ⟨x, rfl, s⟩
theorem gd_twoC {l : Addr} {Pp : KX.PSt} {S S2 : PyData → Prop} {t t2 : TE} (kp : Kp l Pp) (h : GD l Pp S t) (h2 : GD l Pp S2 t2) : GD l Pp (fun d => ∃ x y, d = .tuple [x, y] ∧ S x ∧ S2 y) (tTup (tCons t (tCons t2 tNil))) :=
  (gd_tup (gds_cons kp h (gds_cons kp h2 gds_nil)) fun ds z => by obtain ⟨x, y, rfl, _, x2, y2, rfl, _, rfl⟩ := z; show 2 ≤ sizeLine; decide).imp fun d e => by
    obtain ⟨ds, rfl, x, y, rfl, s, x2, y2, rfl, s2, rfl⟩ := e
    exact ⟨x, x2, rfl, s, s2⟩
def TL (a m p : Nat) (d : PyData) : Prop := ∃ ds, d = .tuple ds ∧ Lg a m p ds
theorem tl_cat {l : Addr} {Pp : KX.PSt} {K : PySem.W.Frag} {a b m n p : Nat} {ta tb : TE} (kp : Kp l Pp) (h : GD l Pp (TL a m p) ta) (h2 : GD l Pp (TL b n p) tb) (hm : m ≤ 1000) (hn : n ≤ 1000) : GD l Pp (TL (a + b) (m + n) p) (tOp (rCatA K) ta tb) :=
  (gd_cat kp h h2 (fun d z => by obtain ⟨ds, rfl, z⟩ := z; exact ⟨ds, rfl, Nat.le_trans z.2.2.1 hm⟩) fun d z => by obtain ⟨ds, rfl, z⟩ := z; exact ⟨ds, rfl, Nat.le_trans z.2.2.1 hn⟩).imp fun d z => by
    obtain ⟨x, y, ⟨x', e1, h1⟩, ⟨y', e2, h2⟩, rfl⟩ := z
    cases e1
    cases e2
    exact ⟨_, rfl, lg_app h1 h2⟩
theorem tl_slice {l : Addr} {Pp : KX.PSt} {K : PySem.W.Frag} {a m p : Nat} {ds : List PyData} {ta : TE} {lo hi : Option Int} {tl th : TO} (kp : Kp l Pp) (h : GD l Pp (· = .tuple ds) ta) (z : Lg a m p ds) (hl : GO l Pp lo tl) (hh : GO l Pp hi th) : GD l Pp (TL a m p) (L2.tSl (rSlA K) ta tl th) :=
  (gd_slice kp h hl hh).imp fun d e => ⟨_, e, lg_cut z lo hi⟩
theorem tl_one {l : Addr} {Pp : KX.PSt} {a p : Nat} {t : TE} (kp : Kp l Pp) (h : GD l Pp (Gg a p) t) : GD l Pp (TL a 1 p) (tTup (tCons t tNil)) := (gd_oneC kp h).imp fun d e => by
  obtain ⟨x, rfl, hx⟩ := e
  exact ⟨[x], rfl, lg_cons hx lg_nil⟩
theorem tl_of {l : Addr} {Pp : KX.PSt} {a m p : Nat} {ds : List PyData} {t : TE} (h : GD l Pp (· = .tuple ds) t) (z : Lg a m p ds) : GD l Pp (TL a m p) t := h.imp fun d e => ⟨ds, e, z⟩
theorem tl_gg {l : Addr} {Pp : KX.PSt} {a m p b r : Nat} {t : TE} (h : GD l Pp (TL a m p) t) (hm : m ≤ 100) (hb : a + 1 ≤ b) (hr : p + 1 ≤ r) : GD l Pp (Gg b r) t := h.imp fun d e => by
  obtain ⟨ds, rfl, z⟩ := e
  exact gg_mono (lg_tup z hm).1 hb hr
theorem tl_mono {l : Addr} {Pp : KX.PSt} {a m p b n r : Nat} {t : TE} (h : GD l Pp (TL a m p) t) (h1 : a ≤ b) (h2 : m ≤ n) (h3 : p ≤ r) : GD l Pp (TL b n r) t := h.imp fun d e => by
  obtain ⟨ds, rfl, z⟩ := e
  exact ⟨ds, rfl, lg_mono z h1 h2 h3⟩
theorem lg_ins {a m p b n : Nat} {C y : List PyData} (h : Lg a m p C) (k : Nat) (hk : k < C.length) (t : Lg b n p y) : Lg (a + b) (m - 1 + n) p (C.take k ++ y ++ C.drop (k + 1)) := by
  obtain ⟨h1, h2, h3, h4, h5⟩ := h
  obtain ⟨t1, t2, t3, t4, t5⟩ := t
  have e := List.take_append_drop k C
  have e2 := List.drop_eq_getElem_cons hk
  rw [← e, e2, fineAll_app, Bool.and_eq_true] at h1
  rw [← e, e2, wtAll_app] at h2
  rw [← e, e2, widAll_app] at h4
  rw [← e, e2, depthAll_app] at h5
  simp only [fineAll, Bool.and_eq_true] at h1
  simp only [wtAll] at h2
  simp only [widAll] at h4
  simp only [PyData.depthAll] at h5
  refine ⟨?_, ?_, ?_, ?_, ?_⟩
  · rw [fineAll_app, fineAll_app, h1.1, h1.2.2, t1]; rfl
  · rw [wtAll_app, wtAll_app]; omega
  · rw [List.length_append, List.length_append, List.length_take, List.length_drop]; omega
  · rw [widAll_app, widAll_app]; omega
  · rw [depthAll_app, depthAll_app]; omega
theorem tl_ins {l : Addr} {Pp : KX.PSt} {K : PySem.W.Frag} {a m p b n k : Nat} {C : List PyData} {ta tk tk2 tx : TE} (kp : Kp l Pp) (h : Lg a m p C) (hk : k < C.length) (hm : m ≤ 400) (hn : n ≤ 400) (hv : GD l Pp (· = .tuple C) ta) (h1 : GI l Pp (· = (k : Int)) tk) (h2 : GI l Pp (· = (k : Int) + 1) tk2) (hx : GD l Pp (TL b n p) tx) :
    GD l Pp (TL (a + b) (m - 1 + n) p) (tOp (rCatA K) (tOp (rCatA K) (L2.tSl (rSlA K) ta tNoPart (tPart tk)) tx) (L2.tSl (rSlA K) ta (tPart tk2) tNoPart)) := by
  have hl := h.2.2.1
  have fit : ∀ {lo hi : Option Int}, (KX.cutD C lo hi).length ≤ 400 := fun {lo hi} => Nat.le_trans (by unfold KX.cutD; rw [List.length_take, List.length_drop]; omega) hm
  have fitS : ∀ {lo hi : Option Int} (d : PyData), d = .tuple (KX.cutD C lo hi) → ∃ z, d = .tuple z ∧ z.length ≤ 1000 := fun {lo hi} d e => ⟨_, e, Nat.le_trans fit (by decide)⟩
  refine (gd_cat kp (gd_cat kp (gd_slice kp hv go_none (go_some h1)) hx fitS (fun d e => ?_)) (gd_slice kp hv (go_some h2) go_none) (fun d e => ?_) fitS).imp fun d e => ?_
  · obtain ⟨ds, rfl, z⟩ := e
    exact ⟨ds, rfl, by have := z.2.2.1; omega⟩
  · obtain ⟨x, y, e1, ⟨ds, e2, z⟩, rfl⟩ := e
    cases e1
    cases e2
    exact ⟨_, rfl, by rw [List.length_append]; exact Nat.le_trans (Nat.add_le_add fit (Nat.le_trans z.2.2.1 hn)) (by decide)⟩
  · obtain ⟨x, y, ⟨x2, y2, e1, ⟨ds, e2, z⟩, e4⟩, e3, rfl⟩ := e
    cases e1
    cases e2
    cases e3
    cases e4
    rw [show ((k : Int) + 1) = ((k + 1 : Nat) : Int) by omega, cutD_to, cutD_from]
    exact ⟨_, rfl, lg_ins h k hk z⟩
theorem tl_del {l : Addr} {Pp : KX.PSt} {K : PySem.W.Frag} {a m p k : Nat} {C : List PyData} {ta tk tk2 : TE} (kp : Kp l Pp) (h : Lg a m p C) (hk : k < C.length) (hm : m ≤ 400) (hv : GD l Pp (· = .tuple C) ta) (h1 : GI l Pp (· = (k : Int)) tk) (h2 : GI l Pp (· = (k : Int) + 1) tk2) :
    GD l Pp (TL a m p) (tOp (rCatA K) (L2.tSl (rSlA K) ta tNoPart (tPart tk)) (L2.tSl (rSlA K) ta (tPart tk2) tNoPart)) := by
  have hl := h.2.2.1
  have fit : ∀ {lo hi : Option Int}, (KX.cutD C lo hi).length ≤ 400 := fun {lo hi} => Nat.le_trans (by unfold KX.cutD; rw [List.length_take, List.length_drop]; omega) hm
  have fitS : ∀ {lo hi : Option Int} (d : PyData), d = .tuple (KX.cutD C lo hi) → ∃ z, d = .tuple z ∧ z.length ≤ 1000 := fun {lo hi} d e => ⟨_, e, Nat.le_trans fit (by decide)⟩
  refine (gd_cat kp (gd_slice kp hv go_none (go_some h1)) (gd_slice kp hv (go_some h2) go_none) fitS fitS).imp fun d e => ?_
  obtain ⟨x, y, e1, e2, rfl⟩ := e
  cases e1
  cases e2
  rw [show ((k : Int) + 1) = ((k + 1 : Nat) : Int) by omega, cutD_to, cutD_from]
  have := lg_ins h k hk (lg_nil (p := p))
  rw [List.append_nil] at this
  exact ⟨_, rfl, lg_mono this (by omega) (by omega) (Nat.le_refl _)⟩

end E1

set_option maxRecDepth 100000
set_option maxHeartbeats 1000000
namespace E1
open PySem PySem.Spec PyProof.Rows L2 KX
section
variable {P : Program} {w : World} {K : PySem.W.Frag} {mg : Str → Option Value} {base : Heap}
theorem ok_ch {k : Nat} {f fD fM : Addr} {fd gD gM : FuncData} (B : Bl mg) (D : Df K mg "_law_changed" sCh ["stream", "table"] f fd) (DD : Df K mg "_law_draw" sDraw ["stream", "total"] fD gD) (DM : Df K mg "_law_damaged" sDm ["stream", "value", "deep"] fM gM)
    (GD' : FnOk P w K mg base CX0 k fD gD ["stream", "total"] spDraw) (GM' : FnOk P w K mg base CX0 k fM gM ["stream", "value", "deep"] (spDm 3)) : FnOk P w K mg base CX0 (k + 1) f fd ["stream", "table"] spCh := by
  refine D.F.ok scCh (fun vs H Q E h => ?_) (fun cdv A outer s H vs Q E hr h => ?_)
  · obtain ⟨l, v, ns, ks, rfl, _⟩ := h
    rfl
  · obtain ⟨l, v, ns, ks, rfl, st, hd, ok, q⟩ := h
    have nd := scCh.nd
    refine ⟨_, pss_cons (ps_asg (pv 1) (pg_tup (by rfl) (pgs_cons (pg_name (i := 2) nd rfl (.inl rfl)) (pgs_cons (pg_name (i := 3) nd rfl (.inl rfl)) pgs_nil))))
      (pss_cons (ps_par (i := 4) (j := 5) rfl nd rfl rfl (by decide) rfl rfl (pa_cons (pe_call GD' hr (by rfl) DD.g DD.F.kp DD.b .nil pass0 (pa_cons (pv 0) (pa_cons (pe_callB call_len_seq (by rfl) B.len PySem.boot_len (pa_cons (pv 3) pa_nil)) pa_nil))) (pa_cons (pe_call GD' hr (by rfl) DD.g DD.F.kp DD.b .nil pass0 (pa_cons (pv 0) (pa_cons pe_int pa_nil))) pa_nil)) (by rfl))
      (pss_cons (ps_if (pt_cmpR op_lt (pv 5) pe_int (nomark _)) (pss_one (ps_ret (pe_call GM' hr (by rfl) DM.g DM.F.kp DM.b .nil pass0 (pa_cons (pv 0) (pa_cons (pv 1) (pa_cons pe_int pa_nil)))))) pss_nil)
      (pss_cons (ps_set (i := 6) nd rfl (.inl rfl) (pe_ix (r := rIxT K) ix_tup (pv 3) (pv 4) (fun _ _ => rfl)))
      (pss_cons (ps_set (i := 7) nd rfl (.inl rfl) (pe_lst (pa_cons (pe_op (r := rCatA K) op_catA (pv 6) (pe_tup (pa_cons pe_str pa_nil))) (pa_cons (pe_op (r := rCatA K) op_catA (pv 6) (pe_slice (r := rSlA K) sl_tupA (pv 6) po_none (po_some pe_int))) (pa_cons (pe_revT (pv 6)) (pa_cons (pe_callTy (r := rLst2 K) call_lst2 (by rfl) B.list (by decide +kernel) (pa_cons (pv 6) pa_nil))
          (pa_cons (pv 2) (pa_cons (pe_op (r := rCatA K) op_catA (pv 6) (pe_tup (pa_cons pe_non pa_nil))) pa_nil))))))))
      (pss_cons (ps_if (pt_cmpR op_lt (pv 5) pe_int (nomark _)) (pss_one (ps_ret (pe_tup (pa_cons (pv 2) (pa_cons (pe_op (r := rCatA K) op_catA (pe_op (r := rCatA K) op_catA (pe_slice (r := rSlA K) sl_tupA (pv 3) po_none (po_some (pv 4))) (pe_tup (pa_cons (pe_ix (r := rIxL K) ix_list (pv 7) (pe_call GD' hr (by rfl) DD.g DD.F.kp DD.b .nil pass0 (pa_cons (pv 0) (pa_cons pe_int pa_nil))) (fun _ _ => rfl)) pa_nil)))
          (pe_slice (r := rSlA K) sl_tupA (pv 3) (po_some (pe_op op_add (pv 4) pe_int)) po_none)) pa_nil))))) pss_nil)
      (pss_cons (ps_if (pt_cmpR op_eq (pv 5) pe_int (nomark _)) (pss_cons (ps_set (i := 8) nd rfl (.inl rfl) (pe_lst (pa_cons (pe_op (r := rCatA K) op_catA (pe_slice (r := rSlA K) sl_tupA (pv 3) po_none (po_some (pv 4))) (pe_slice (r := rSlA K) sl_tupA (pv 3) (po_some (pe_op op_add (pv 4) pe_int)) po_none))
            (pa_cons (pe_op (r := rCatA K) op_catA (pv 3) (pe_tup (pa_cons (pe_tup pa_nil) pa_nil))) (pa_cons (pe_revT (pv 3)) (pa_cons (pe_callTy (r := rLst2 K) call_lst2 (by rfl) B.list (by decide +kernel) (pa_cons (pv 3) pa_nil)) pa_nil))))))
          (pss_one (ps_ret (pe_tup (pa_cons (pv 2) (pa_cons (pe_ix (r := rIxL K) ix_list (pv 8) (pe_call GD' hr (by rfl) DD.g DD.F.kp DD.b .nil pass0 (pa_cons (pv 0) (pa_cons pe_int pa_nil))) (fun _ _ => rfl)) pa_nil)))))) pss_nil)
      (pss_cons (ps_if (pt_cmpR op_eq (pv 5) pe_int (nomark _)) (pss_cons (ps_set (i := 8) nd rfl (.inl rfl) (pe_lst (pa_cons (pe_revT (pv 2)) (pa_cons (pe_op (r := rCatA K) op_catA (pv 2) (pe_slice (r := rSlA K) sl_tupA (pv 2) po_none (po_some pe_int))) (pa_cons (pe_callTy (r := rLst2 K) call_lst2 (by rfl) B.list (by decide +kernel) (pa_cons (pv 2) pa_nil))
            (pa_cons (pe_slice (r := rSlA K) sl_tupA (pv 2) (po_some pe_int) po_none) (pa_cons (pe_op (r := rCatA K) op_catA (pv 2) (pe_tup (pa_cons pe_str pa_nil))) pa_nil)))))))
          (pss_one (ps_ret (pe_tup (pa_cons (pe_ix (r := rIxL K) ix_list (pv 8) (pe_call GD' hr (by rfl) DD.g DD.F.kp DD.b .nil pass0 (pa_cons (pv 0) (pa_cons pe_int pa_nil))) (fun _ _ => rfl)) (pa_cons (pv 3) pa_nil)))))) pss_nil)
      (pss_one (ps_ret (pe_ix (r := rIxL K) ix_list (pe_lst (pa_cons (pv 2) (pa_cons (pv 3) (pa_cons (pe_tup (pa_cons (pv 3) (pa_cons (pv 2) pa_nil))) (pa_cons (pe_op (r := rCatA K) op_catA (pv 1) (pe_tup (pa_cons (pe_tup pa_nil) pa_nil))) (pa_cons (pe_callTy (r := rLst2 K) call_lst2 (by rfl) B.list (by decide +kernel) (pa_cons (pv 1) pa_nil)) (pa_cons (pe_tup (pa_cons (pv 2) pa_nil)) pa_nil)))))))
          (pe_call GD' hr (by rfl) DD.g DD.F.kp DD.b .nil pass0 (pa_cons (pv 0) (pa_cons pe_int pa_nil))) (fun _ _ => rfl))))))))))), ?_⟩
    have l6 := ok.nms.l6
    have l1 := ok.nms.l1
    obtain ⟨a, xs, rfl, hal, ea, hx⟩ := dx_tupOf hd
    obtain ⟨v1, v2, rfl, hv1, hv2⟩ : ∃ v1 v2, xs = [v1, v2] ∧ Dx (KX.hid l H) v1 (.tuple (ns.map .str)) ∧ Dx (KX.hid l H) v2 (.tuple ((chs ns ks).map fun c => .tuple (c.map .str))) := by
      cases hx with
      | cons h1 hx =>
        cases hx with
        | cons h2 hx =>
          cases hx
          exact ⟨_, _, rfl, h1, h2⟩
    have LN := lg_ns ok
    have LC := lg_chs ok
    obtain ⟨y, ws, rfl, hyl, ey, hws⟩ := dx_tupOf hv2
    have lw := hws.len
    rw [List.length_map] at lw
    have lc := chs_len ok
    have lc1 : 1 ≤ (chs ns ks).length := by
      unfold chs
      rw [List.length_map, List.length_drop, ok.len]
      have : 2 ^ 1 ≤ 2 ^ ns.length := Nat.pow_le_pow_right (by decide) l1
      omega
    refine ⟨.ref a, rfl, a, _, rfl, .inl (.inl ea), rfl, _, _, rfl, _, _, rfl, rfl, ?_⟩
    change tSeq _ _ _ ([some (.ref l), some (.ref a), some v1, some (.ref y), none, none, none, none, none] : L2.St) H
    refine ⟨.ref l, rfl, .ref y, rfl, y, ws, rfl, .inr (.inl (.inl ey)), l, _, rfl, st, by omega, by omega, fun H1 d k1 st1 d0 d1 => ⟨.ref l, rfl, l, 9, rfl, st1, by decide, by decide, fun H2 e k2 st2 e0 e9 => ⟨_, _, rfl, ?_⟩⟩⟩
    obtain ⟨n, rfl⟩ : ∃ n : Nat, d = (n : Int) := ⟨d.toNat, by omega⟩
    have hn : n < (chs ns ks).length := by omega
    change tSeq _ _ _ ([some (.ref l), some (.ref a), some v1, some (.ref y), some (.int (n : Int)), some (.int e), none, none, none] : L2.St) H2
    have k12 := k1.trans k2
    have hd2 := hd.up k12.same
    have hN2 := hv1.up k12.same
    have hC2 := hv2.up k12.same
    have ey2 := k12 _ _ hyl ey
    refine ⟨.int e, rfl, e, 3, rfl, rfl, _, rfl, ?_⟩
    by_cases h3 : e < 3
    · refine ite_to (decide_eq_true h3) ?_
      refine ⟨.ref l, rfl, .ref a, rfl, l, .ref a, encT ns ks, rfl, st2, hd2, enc_dmi ok, fun H3 v' d' k3 st3 x g => ?_⟩
      obtain ⟨g1, g2, g3, g4⟩ := dm_gg ok g
      exact q H3 v' d' (k12.trans k3) st3 x ⟨g1, g2, g3, g4⟩
    refine ite_not (decide_eq_false h3) ?_
    obtain ⟨u, eu⟩ : ∃ u, ws[n]? = some u := ⟨ws[n]'(by omega), List.getElem?_eq_getElem _⟩
    obtain ⟨dc, edc, hu⟩ := hws.get' eu
    rw [List.getElem?_map, List.getElem?_eq_getElem hn] at edc
    obtain ⟨c, hc, rfl⟩ : ∃ c, c ∈ chs ns ks ∧ dc = .tuple (c.map .str) := ⟨_, List.getElem_mem hn, (Option.some.inj edc).symm⟩
    obtain ⟨c6, cn⟩ := chs_ok ok c hc
    have Lc := lg_strs cn c6
    have hu2 := hu.up k12.same
    refine ⟨.ref y, rfl, .int (n : Int), rfl, y, ws, (n : Int), u, rfl, rfl, .inl (.inl ey2), atI_nat eu, ?_⟩
    refine gn_to (σ' := ([some (.ref l), some (.ref a), some v1, some (.ref y), some (.int (n : Int)), some (.int e), some u, none, none] : L2.St)) rfl ?_
    try dsimp only
    obtain ⟨C, eC⟩ : ∃ C, C = (chs ns ks).map fun c => PyData.tuple (c.map .str) := ⟨_, rfl⟩
    obtain ⟨N, eN⟩ : ∃ N, N = ns.map PyData.str := ⟨_, rfl⟩
    obtain ⟨cd, ecd⟩ : ∃ cd, cd = c.map PyData.str := ⟨_, rfl⟩
    have eT : encT ns ks = .tuple [.tuple N, .tuple C] := by rw [eN, eC]; rfl
    rw [← eC] at hC2 LC
    rw [← eN] at hN2 LN
    rw [← ecd] at hu2 Lc
    rw [eT] at hd2
    have hnC : n < C.length := by rw [eC, List.length_map]; exact hn
    clear eC eN ecd eT hd hv1 hv2 hu hx edc cn c6 hc
    have gN : Gg 55 1 (.tuple N) := (lg_tup LN (by decide)).1
    have gC : Gg 3466 2 (.tuple C) := (lg_tup LC (by decide)).1
    have gstr : ∀ {l : Addr} {Pp : KX.PSt}, GD l Pp (Gg 5 0) (tC (.str "zzzz")) := fun {l Pp} => (gd_c (v := .str "zzzz") (d := .str "zzzz") fun H => .str _).imp fun d e => by
      subst e
      exact ⟨by decide +kernel, by decide +kernel, by decide +kernel, by decide⟩
    have gnon : ∀ {l : Addr} {Pp : KX.PSt}, GD l Pp (Gg 1 0) (tC .non) := fun {l Pp} => (gd_c (v := .non) (d := .none) fun H => .non).imp fun d e => by
      subst e
      exact ⟨rfl, by decide, by decide, by decide⟩
    have gnil : ∀ {l : Addr} {Pp : KX.PSt}, GD l Pp (Gg 1 1) (tTup tNil) := fun {l Pp} => (gd_tup gds_nil fun ds e => by subst e; exact Nat.zero_le _).imp fun d e => by
      obtain ⟨ds, rfl, rfl⟩ := e
      exact ⟨rfl, by decide, by decide, by decide⟩
    have p1 : ∀ {l : Addr} {Pp : KX.PSt}, GI l Pp (· = (1 : Int)) (tC (.int 1)) := fun {l Pp} => gi_val fun σ H Q q => q
    -- odd
    have tvc : ∀ {M}, GD l (KX.Env l ([some (.ref l), some (.ref a), some v1, some (.ref y), some (.int (n : Int)), some (.int e), some u, none, none] : L2.St) [(v1, .tuple N), (.ref y, .tuple C), (u, .tuple cd)] M) (· = .tuple cd) (tVar 6) := fun {M} => gd_env (v := u) (d := .tuple cd) rfl (by simp)
    have tvn : ∀ {M}, GD l (KX.Env l ([some (.ref l), some (.ref a), some v1, some (.ref y), some (.int (n : Int)), some (.int e), some u, none, none] : L2.St) [(v1, .tuple N), (.ref y, .tuple C), (u, .tuple cd)] M) (· = .tuple N) (tVar 2) := fun {M} => gd_env (v := v1) (d := .tuple N) rfl (by simp)
    refine gm_seq (S := Al (Gg 120 2) 6) (P := KX.Env l _ [(v1, .tuple N), (.ref y, .tuple C), (u, .tuple cd)] []) ?_ st2 ⟨rfl, alld_cons hN2 (alld_cons hC2 (alld_cons hu2 alld_nil)), allm_nil⟩ fun H3 p3 xs3 ds3 g3 k3 st3 n3 e3 x3 => ?_
    · refine al_lst (al_cons kp_env (tl_gg (tl_cat kp_env (tl_of tvc Lc) (tl_one kp_env gstr) (by decide) (by decide)) (by decide) (by decide) (by decide))
        (al_cons kp_env (tl_gg (tl_cat kp_env (tl_of tvc Lc) (tl_slice kp_env tvc Lc go_none (go_some p1)) (by decide) (by decide)) (by decide) (by decide) (by decide))
        (al_cons kp_env ((gd_rev tvc).imp fun d e => by
          subst e
          exact gg_mono (lg_tup (lg_rev Lc) (by decide)).1 (by decide) (by decide))
        (al_cons kp_env ((gd_listOf tvc).imp fun d e => by
          subst e
          exact gg_mono (lg_tup Lc (by decide)).2 (by decide) (by decide))
        (al_cons kp_env (tvn.imp fun d e => by
          subst e
          exact gg_mono gN (by decide) (by decide))
        (al_cons kp_env (tl_gg (tl_cat kp_env (tl_of tvc Lc) (tl_one kp_env gnon) (by decide) (by decide)) (by decide) (by decide) (by decide)) al_nil)))))) (by decide)
    dsimp only [List.set]
    have k13 := k12.trans k3
    have hN3 := hN2.up k3.same
    have hC3 := hC2.up k3.same
    have hd3 := hd2.up k3.same
    refine ⟨.int e, rfl, e, 6, rfl, rfl, _, rfl, ?_⟩
    have tn3 : ∀ {M o7 o8}, GD l (KX.Env l ([some (.ref l), some (.ref a), some v1, some (.ref y), some (.int (n : Int)), some (.int e), some u, o7, o8] : L2.St) [(.ref a, .tuple [.tuple N, .tuple C]), (v1, .tuple N), (.ref y, .tuple C)] M) (· = .tuple N) (tVar 2) := fun {M o7 o8} => gd_env (v := v1) (d := .tuple N) rfl (by simp)
    have tc3 : ∀ {M o7 o8}, GD l (KX.Env l ([some (.ref l), some (.ref a), some v1, some (.ref y), some (.int (n : Int)), some (.int e), some u, o7, o8] : L2.St) [(.ref a, .tuple [.tuple N, .tuple C]), (v1, .tuple N), (.ref y, .tuple C)] M) (· = .tuple C) (tVar 3) := fun {M o7 o8} => gd_env (v := .ref y) (d := .tuple C) rfl (by simp)
    have tt3 : ∀ {M o7 o8}, GD l (KX.Env l ([some (.ref l), some (.ref a), some v1, some (.ref y), some (.int (n : Int)), some (.int e), some u, o7, o8] : L2.St) [(.ref a, .tuple [.tuple N, .tuple C]), (v1, .tuple N), (.ref y, .tuple C)] M) (· = .tuple [.tuple N, .tuple C]) (tVar 1) := fun {M o7 o8} => gd_env (v := .ref a) (d := .tuple [.tuple N, .tuple C]) rfl (by simp)
    have ti3 : ∀ {M o7 o8}, GI l (KX.Env l ([some (.ref l), some (.ref a), some v1, some (.ref y), some (.int (n : Int)), some (.int e), some u, o7, o8] : L2.St) [(.ref a, .tuple [.tuple N, .tuple C]), (v1, .tuple N), (.ref y, .tuple C)] M) (· = (n : Int)) (tVar 4) := fun {M o7 o8} => gi_env rfl
    have fin : ∀ (d : PyData), (∃ x z, d = .tuple [x, z] ∧ Gg 3700 3 x ∧ Gg 3700 3 z) → ChG d := fun d hh => by
      obtain ⟨x, z, rfl, hx, hz⟩ := hh
      exact gg_ch (lg_tup (lg_cons hx (lg_cons hz lg_nil)) (by decide)).1 (by decide) (by decide)
    by_cases h6 : e < 6
    · refine ite_to (decide_eq_true h6) ?_
      refine ((gd_twoC (S := Gg 3700 3) (S2 := Gg 3700 3) kp_env (tn3.imp fun d e => by
          subst e
          exact gg_mono gN (by decide) (by decide)) (tl_gg (tl_ins (b := 120) (n := 1) (p := 2) kp_env (lg_mono LC (Nat.le_refl _) (Nat.le_refl _) (by decide)) hnC (by decide) (by decide) tc3 ti3 (gi_add1 ti3) (tl_one kp_env (al_ix (S := Gg 120 2) (n := 6) (m := 6) kp_env ((gm_env (xs := xs3) (ds := ds3) rfl (by simp)).imp fun _ e => by subst e; exact g3) (gi_drawS (n := 6) 0 rfl (gi_val fun σ H Q q => q) (by decide) (by decide)) rfl))) (by decide) (by decide) (by decide))).imp fin) _ _ _ st3
        (show KX.Env l _ [(.ref a, .tuple [.tuple N, .tuple C]), (v1, .tuple N), (.ref y, .tuple C)] [(p3, xs3, ds3)] _ H3 from ⟨rfl, alld_cons hd3 (alld_cons hN3 (alld_cons hC3 alld_nil)), allm_one n3 e3 x3⟩) fun H4 v4 d4 g4 k4 st4 x4 => q H4 v4 d4 (k13.trans k4) st4 x4 g4
    refine ite_not (decide_eq_false h6) ?_
    refine ⟨.int e, rfl, rfl, _, rfl, ?_⟩
    by_cases h7 : V.int e = V.int 6
    · refine ite_to (decide_eq_true h7) ?_
      refine gm_seq (S := Al (Gg 3700 3) 4) (P := KX.Env l _ [(.ref a, .tuple [.tuple N, .tuple C]), (v1, .tuple N), (.ref y, .tuple C)] []) ?_ st3 ⟨rfl, alld_cons hd3 (alld_cons hN3 (alld_cons hC3 alld_nil)), allm_nil⟩ fun H4 p4 xs4 ds4 g4 k4 st4 n4 e4 x4 => ?_
      · refine al_lst (al_cons kp_env (tl_gg (tl_del kp_env LC hnC (by decide) tc3 ti3 (gi_add1 ti3)) (by decide) (by decide) (by decide))
          (al_cons kp_env (tl_gg (tl_cat kp_env (tl_of tc3 LC) (tl_one kp_env gnil) (by decide) (by decide)) (by decide) (by decide) (by decide))
          (al_cons kp_env ((gd_rev tc3).imp fun d e => by
            subst e
            exact gg_mono (lg_tup (lg_rev LC) (by decide)).1 (by decide) (by decide))
          (al_cons kp_env ((gd_listOf tc3).imp fun d e => by
            subst e
            exact gg_mono (lg_tup LC (by decide)).2 (by decide) (by decide)) al_nil)))) (by decide)
      dsimp only [List.set]
      refine ((gd_twoC (S := Gg 3700 3) (S2 := Gg 3700 3) kp_env (tn3.imp fun d e => by
          subst e
          exact gg_mono gN (by decide) (by decide)) (al_ix (S := Gg 3700 3) (n := 4) (m := 4) kp_env ((gm_env (xs := xs4) (ds := ds4) rfl (by simp)).imp fun _ e => by subst e; exact g4) (gi_drawS (n := 4) 0 rfl (gi_val fun σ H Q q => q) (by decide) (by decide)) rfl)).imp fin) _ _ _ st4
        (show KX.Env l _ [(.ref a, .tuple [.tuple N, .tuple C]), (v1, .tuple N), (.ref y, .tuple C)] [(p4, xs4, ds4)] _ H4 from ⟨rfl, alld_up k4 (alld_cons hd3 (alld_cons hN3 (alld_cons hC3 alld_nil))), allm_one n4 e4 x4⟩) fun H5 v5 d5 g5 k5 st5 x5 => q H5 v5 d5 ((k13.trans k4).trans k5) st5 x5 g5
    refine ite_not (decide_eq_false h7) ?_
    refine ⟨.int e, rfl, rfl, _, rfl, ?_⟩
    by_cases h8 : V.int e = V.int 7
    · refine ite_to (decide_eq_true h8) ?_
      refine gm_seq (S := Al (Gg 3700 3) 5) (P := KX.Env l _ [(.ref a, .tuple [.tuple N, .tuple C]), (v1, .tuple N), (.ref y, .tuple C)] []) ?_ st3 ⟨rfl, alld_cons hd3 (alld_cons hN3 (alld_cons hC3 alld_nil)), allm_nil⟩ fun H4 p4 xs4 ds4 g4 k4 st4 n4 e4 x4 => ?_
      · refine al_lst (al_cons kp_env ((gd_rev tn3).imp fun d e => by
            subst e
            exact gg_mono (lg_tup (lg_rev LN) (by decide)).1 (by decide) (by decide))
          (al_cons kp_env (tl_gg (tl_cat kp_env (tl_of tn3 LN) (tl_slice kp_env tn3 LN go_none (go_some p1)) (by decide) (by decide)) (by decide) (by decide) (by decide))
          (al_cons kp_env ((gd_listOf tn3).imp fun d e => by
            subst e
            exact gg_mono (lg_tup LN (by decide)).2 (by decide) (by decide))
          (al_cons kp_env (tl_gg (tl_slice kp_env tn3 LN (go_some p1) go_none) (by decide) (by decide) (by decide))
          (al_cons kp_env (tl_gg (tl_cat kp_env (tl_of tn3 LN) (tl_one kp_env gstr) (by decide) (by decide)) (by decide) (by decide) (by decide)) al_nil))))) (by decide)
      dsimp only [List.set]
      refine ((gd_twoC (S := Gg 3700 3) (S2 := Gg 3700 3) kp_env (al_ix (S := Gg 3700 3) (n := 5) (m := 5) kp_env ((gm_env (xs := xs4) (ds := ds4) rfl (by simp)).imp fun _ e => by subst e; exact g4) (gi_drawS (n := 5) 0 rfl (gi_val fun σ H Q q => q) (by decide) (by decide)) rfl) (tc3.imp fun d e => by
          subst e
          exact gg_mono gC (by decide) (by decide))).imp fin) _ _ _ st4
        (show KX.Env l _ [(.ref a, .tuple [.tuple N, .tuple C]), (v1, .tuple N), (.ref y, .tuple C)] [(p4, xs4, ds4)] _ H4 from ⟨rfl, alld_up k4 (alld_cons hd3 (alld_cons hN3 (alld_cons hC3 alld_nil))), allm_one n4 e4 x4⟩) fun H5 v5 d5 g5 k5 st5 x5 => q H5 v5 d5 ((k13.trans k4).trans k5) st5 x5 g5
    refine ite_not (decide_eq_false h8) ?_
    have LT : Lg 3530 2 3 [.tuple N, .tuple C] := lg_mono (lg_cons (gg_mono gN (Nat.le_refl _) (show 1 ≤ 3 by decide)) (lg_cons (gg_mono gC (Nat.le_refl _) (show 2 ≤ 3 by decide)) lg_nil)) (by decide) (by decide) (Nat.le_refl _)
    refine al_ix (S := ChG) (n := 6) (m := 6) kp_env (al_lst (al_cons kp_env (tn3.imp fun d e => by
            subst e
            exact gg_ch gN (by decide) (by decide))
        (al_cons kp_env (tc3.imp fun d e => by
            subst e
            exact gg_ch gC (by decide) (by decide))
        (al_cons kp_env ((gd_twoC kp_env tc3 tn3).imp fun d e => by
            obtain ⟨x, z, rfl, rfl, rfl⟩ := e
            exact fin _ ⟨_, _, rfl, gg_mono gC (by decide) (by decide), gg_mono gN (by decide) (by decide)⟩)
        (al_cons kp_env ((tl_gg (b := 7000) (r := 8) (tl_cat kp_env (tl_of tt3 LT) (tl_mono (tl_one kp_env gnil) (Nat.le_refl _) (Nat.le_refl _) (show 1 ≤ 3 by decide)) (by decide) (by decide)) (by decide) (by decide) (by decide)).imp fun d h => gg_ch h (by decide) (by decide))
        (al_cons kp_env ((gd_listOf tt3).imp fun d e => by
            subst e
            exact gg_ch (lg_tup LT (by decide)).2 (by decide) (by decide))
        (al_cons kp_env ((gd_oneC kp_env tn3).imp fun d e => by
            obtain ⟨x, rfl, rfl⟩ := e
            exact gg_ch (lg_tup (lg_cons gN lg_nil) (by decide)).1 (by decide) (by decide)) al_nil)))))) (by decide)) (gi_drawS (n := 6) 0 rfl (gi_val fun σ H Q q => q) (by decide) (by decide)) rfl _ _ _ st3
      (show KX.Env l _ [(.ref a, .tuple [.tuple N, .tuple C]), (v1, .tuple N), (.ref y, .tuple C)] [] _ H3 from ⟨rfl, alld_cons hd3 (alld_cons hN3 (alld_cons hC3 alld_nil)), allm_nil⟩) fun H4 v4 d4 g4 k4 st4 x4 => q H4 v4 d4 (k13.trans k4) st4 x4 g4
end

end E1

set_option maxRecDepth 100000
set_option maxHeartbeats 1000000
namespace E1
open PySem PySem.Spec PyProof.Rows L2 KX
/-! ### the law -/
def SD (d : PyData) (t : TE) : Prop := ∀ (σ : L2.St) (H : Hp) (Q : VK), (∀ H' v, Same H H' → Dx H' v d → Q v H') → t σ H Q
def MD (ds : List PyData) (t : TA) : Prop := ∀ (σ : L2.St) (H : Hp) (Q : List V → Hp → Prop), (∀ H' vs, Same H H' → Dxs H' vs ds → Q vs H') → t σ H Q
theorem md_nil : MD [] tNil := fun σ H Q q => q H [] (Same.refl H) .nil
theorem md_cons {d : PyData} {ds : List PyData} {t : TE} {ts : TA} (h : SD d t) (hs : MD ds ts) : MD (d :: ds) (tCons t ts) := fun σ H Q q => h σ H _ fun H1 v s1 hv => hs σ H1 _ fun H2 vs s2 hvs => q H2 (v :: vs) (s1.trans s2) (.cons (hv.up s2) hvs)
theorem sd_tup {ds : List PyData} {ts : TA} (h : MD ds ts) (l : ds.length ≤ 1000) : SD (.tuple ds) (tTup ts) := fun σ H Q q => h σ H _ fun H1 vs s1 hvs => ⟨by
  have big : (1000 : Nat) < sizeLine := by decide
  rw [hvs.len]
  omega, fun p np => q _ _ (s1.trans (same_new np)) (.tup upd_same (hvs.up (same_new np)))⟩
theorem sd_str {x : Str} : SD (.str x) (tC (.str x)) := fun σ H Q q => q H _ (Same.refl H) (.str x)
theorem tup_of {H : Hp} {v : V} {ds : List PyData} (h : Dx H v (.tuple ds)) : ∃ a xs, v = .ref a ∧ H a = some (.tup xs) ∧ Dxs H xs ds := by
  cases h with
  | tup e x => exact ⟨_, _, rfl, e, x⟩
theorem md_seq {ds : List PyData} {t : TA} {u : TS} {i : Nat} {D : Ends} {σ : L2.St} {H : Hp} (h : MD ds t) (k : ∀ H' vs, Same H H' → Dxs H' vs ds → vs.length ≤ sizeLine ∧ ∀ p, H' p = none → u D (σ.set i (some (.ref p))) (upd H' p (.lst vs))) :
    tSeq (tAsg (tLst t) (gName i)) u D σ H := h σ H _ fun H' vs s x => k H' vs s x
theorem nt_sd {sp : Sp} {d : PyData} {t : TE} {σ : L2.St} {H : Hp} {R : Bool → Hp → Prop} (h : SD d t) (k : ∀ G v, Same H G → Dx G v d → tNot (tB (tCall sp [] E0 (tCons (tC v) tNil))) σ G R) : tNot (tB (tCall sp [] E0 (tCons t tNil))) σ H R := h σ H _ fun G v s x => k G v s x
theorem op_sd {sp : Sp} {r : R2} {d : PyData} {t b : TE} {σ : L2.St} {H : Hp} {Q : VK} (h : SD d t) (k : ∀ G v, Same H G → Dx G v d → tOp r (tCall sp [] E0 (tCons (tC v) tNil)) b σ G Q) : tOp r (tCall sp [] E0 (tCons t tNil)) b σ H Q := h σ H _ fun G v s x => k G v s x
theorem ext_hid {l : Addr} {H G : Hp} (e : LamX.ExtN H G) : LamX.ExtN (KX.hid l H) (KX.hid l G) := fun b o h nt => by
  obtain ⟨n, h⟩ := hid_some h
  rw [hid_at n]
  exact e _ _ h nt
theorem keep_ext2 {l : Addr} {H G F : Hp} (e : LamX.ExtN H G) (n : H l = none) (k : Keep l G F) : LamX.ExtN H F := fun b o h nt => k _ _ (ne_of_none h n) (e _ _ h nt)
theorem enc_vt {ns : List Str} {ks : List Nat} (ok : TOk ns ks) : Vt (encT ns ks) := by
  obtain ⟨h1, h2, h3, h4⟩ := gg_enc ok
  exact ⟨fine_le (show 10 ^ 39 ≤ 10 ^ 40 from Nat.pow_le_pow_right (by decide) (by decide)) _ h1, by omega, by omega, by omega⟩
theorem un_vt {d : PyData} (h : d ∈ unL) : Vt d := by
  obtain ⟨a, b, c, e⟩ := un_facts h
  exact ⟨fine_le (show 10 ^ 39 ≤ 10 ^ 40 from Nat.pow_le_pow_right (by decide) (by decide)) _ a, by omega, by omega, by omega⟩
theorem up_one : 10 ^ 39 + 2 ≤ 10 ^ 40 := by decide +kernel
theorem up_two : 10 ^ 39 + 2 + 2 ≤ 10 ^ 40 := by decide +kernel
theorem ch_vt {d : PyData} (h : ChG d) : Vt d := ⟨fine_le up_one _ h.f, by have := h.w; omega, by have := h.n; omega, by have := h.p; omega⟩
theorem ch_dmi {d : PyData} (h : ChG d) : DmI d := ⟨fine_le up_one _ h.f, by have := h.w; omega, by have := h.n; omega⟩
theorem dm_vt {d e : PyData} (h : ChG d) (g : DmG d e) : Vt e := ⟨fine_le up_two _ (g.f _ (Nat.le_add_right _ _) h.f), by have := h.w; have := g.w; omega, by have := h.n; have := g.n; omega, by have := h.p; have := g.p; omega⟩
theorem tblF_dx {H : Hp} {v : V} {ns : List Str} {ks : List Nat} (h : TblF H v ns ks) : Dx H v (encT ns ks) := by
  obtain ⟨a, z, y, ws, rfl, ea, ez, ey, hw⟩ := h
  exact .tup ea (.cons (.tup ez (dxs_strs _)) (.cons (.tup ey (dxs_pair (f := fun c : List Str => PyData.tuple (c.map .str)) hw)) .nil))
def n7 : List Str := ["a", "b", "c", "d", "e", "f", "g"]
def setsD (ns : List Str) (n : Nat) : PyData := .tuple ((List.range n).map fun i => .tuple ((subN ns (i + 1)).map .str))
def d7 : PyData := .tuple [.tuple (n7.map .str), setsD n7 127]
def d6 : PyData := .tuple [.tuple ((n7.take 6).map .str), setsD n7 63]
def d0 : PyData := .tuple [.tuple [], .tuple []]
def dZ : PyData := .tuple [.tuple [.str "a", .str "b"], .tuple [.tuple [.str "a"], .tuple [], .tuple [.str "b"]]]
theorem d7_vt : Vt d7 := ⟨by decide +kernel, by decide +kernel, by decide +kernel, by decide +kernel⟩
theorem d6_vt : Vt d6 := ⟨by decide +kernel, by decide +kernel, by decide +kernel, by decide +kernel⟩
theorem d0_vt : Vt d0 := ⟨by decide +kernel, by decide +kernel, by decide +kernel, by decide +kernel⟩
theorem dZ_vt : Vt dZ := ⟨by decide +kernel, by decide +kernel, by decide +kernel, by decide +kernel⟩
def ns2 : List Str := ["a", "b"]
theorem tn2 : TNs ns2 := ⟨by decide, by decide, by decide +kernel, by decide +kernel⟩
theorem okZ : TOk ns2 [0, 1, 0, 2] := by
  refine ⟨tn2, rfl, rfl, fun m k hk => ?_⟩
  match m, hk with
  | 0, hk => cases hk; rfl
  | 1, hk => cases hk; rfl
  | 2, hk => cases hk; rfl
  | 3, hk => cases hk; rfl
  | m + 4, hk => exact absurd hk (by simp)
theorem encZ : dZ = encT ns2 [0, 1, 0, 2] := rfl
theorem selZ : selN ns2 [0, 1, 0, 2] = (["a"] : List Str) := by decide +kernel
abbrev sLaw : Stmt := topS 60
abbrev NLw : List Str := ["script", "at", "stream", "table", "turn", "value", "names", "seven", "mask", "six"]
theorem scLaw : FnScope NLw ["script"] (defScope sLaw) := ⟨rfl, rfl, rfl, by decide +kernel, rfl, by decide +kernel, by decide +kernel⟩
def spLaw (K : PySem.W.Frag) (P0 : Addr) : Sp := fun vs H Q _ => ∃ (a : Addr) (ns : List Int), vs = [.ref a] ∧ SqL K H a (ns.map V.int) ∧ ns.length ≤ 63 ∧ H P0 = some (.tbl #[]) ∧ ∀ H', Q (.bl true) H'
theorem tabs_one {P0 : Addr} {H : Hp} (h0 : H P0 = some (.tbl #[])) : LamX.Tabs [(P0, lamQ)] H := fun p hp => by
  cases List.mem_singleton.mp hp
  exact LamX.TabS.nil h0
section
variable {P : Program} {w : World} {K : PySem.W.Frag} {mg : Str → Option Value} {base : Heap} {R P0 : Addr}
theorem ok_law {k : Nat} {f fS fT fI fR fU fC fM fX fE : Addr} {fd gS gT gI gR gU gC gM gX gE : FuncData} (B : Bl mg) (cm : ∃ t, mg "MAX_NAMES" = some (.int 6 t)) (F : Fun K "law" "law" sLaw f fd) (DS : Df K mg "_law_stream" sStream ["script", "at"] fS gS) (DT : Df K mg "_law_drawn_table" sDt ["stream"] fT gT) (DI : Df K mg "is_table" sIt ["value"] fI gI) (DR : Df K mg "_law_right" sRi ["value"] fR gR)
    (DU : Df K mg "_law_unrelated" sUn ["stream"] fU gU) (DC : Df K mg "_law_changed" sCh ["stream", "table"] fC gC) (DM : Df K mg "_law_damaged" sDm ["stream", "value", "deep"] fM gM) (DX : Df K mg "_law_subset" sSu ["names", "mask"] fX gX) (DE : Df K mg "selectable_names" sSe ["table"] fE gE)
    (GS : FnOk P w K mg base CX0 k fS gS ["script", "at"] (spStream K)) (GT : FnOk P w K mg base CX0 k fT gT ["stream"] spDt) (GI : FnOk P w K mg base CX0 k fI gI ["value"] spItD) (GR : FnG P w K mg base CX0 k fR gR ["value"] (spRi P0)) (GU : FnOk P w K mg base CX0 k fU gU ["stream"] spUn) (GC : FnOk P w K mg base CX0 k fC gC ["stream", "table"] spCh)
    (GM : FnOk P w K mg base CX0 k fM gM ["stream", "value", "deep"] (spDm 3)) (GX : FnOk P w K mg base CX0 k fX gX ["names", "mask"] spMb) (GE : FnOk P w K mg base (L2.CX P w) k fE gE ["table"] (spSe R)) : FnG P w K mg base CX0 (k + 1) f fd ["script"] (spLaw K P0) := by
  obtain ⟨tm, mm⟩ := cm
  refine okG F scLaw (fun vs H Q E h => ?_) (fun cdv A outer s H vs Q E hgd hr h => ?_)
  · obtain ⟨a, ns, rfl, _⟩ := h
    rfl
  · obtain ⟨a, ns, rfl, hS, hl, hP0, q⟩ := h
    have nd := scLaw.nd
    have big : (1000 : Nat) < sizeLine := by decide
    refine ⟨_, pss_cons (ps_for PassesOwn.never rfl (pi_range1 (by rfl) B.range (pa_cons (pe_callB (call_max2 rfl) (by rfl) B.max (by decide +kernel) (pa_cons pe_int (pa_cons (pe_callB (call_min2 rfl) (by rfl) B.min (by decide +kernel)
          (pa_cons pe_int (pa_cons (pe_callB call_len_seq (by rfl) B.len PySem.boot_len (pa_cons (pv 0) pa_nil)) pa_nil))) pa_nil))) pa_nil)) (pg_name (i := 1) nd rfl (.inl rfl))
        (pss_cons (ps_set (i := 2) nd rfl (.inl rfl) (pe_call GS hr (by rfl) DS.g DS.F.kp DS.b .nil pass0 (pa_cons (pv 0) (pa_cons (pv 1) pa_nil))))
        (pss_cons (ps_set (i := 3) nd rfl (.inl rfl) (pe_call GT hr (by rfl) DT.g DT.F.kp DT.b .nil pass0 (pa_cons (pv 2) pa_nil)))
        (pss_cons (ps_if (PW.pt (pw_or (pt_cmpR op_isnot_bl (pe_call GI hr (by rfl) DI.g DI.F.kp DI.b .nil pass0 (pa_cons (pv 3) pa_nil)) pe_bl (nomark _)) (pw_or (pt_not (pt_val (pe_callG GR hgd hr (by rfl) DR.g DR.F.kp DR.b .nil pass0 (pa_cons (pv 3) pa_nil))))
            (pw_or1 (pt_not (pt_val (pe_callG GR hgd hr (by rfl) DR.g DR.F.kp DR.b .nil pass0 (pa_cons (pe_call GU hr (by rfl) DU.g DU.F.kp DU.b .nil pass0 (pa_cons (pv 2) pa_nil)) pa_nil)))))))) (pss_one (ps_ret pe_bl)) pss_nil)
        (pss_one (ps_for PassesOwn.never rfl (pi_range1 (by rfl) B.range (pa_cons pe_int pa_nil)) (pg_name (i := 4) nd rfl (.inl rfl))
          (pss_cons (ps_set (i := 5) nd rfl (.inl rfl) (pe_call GC hr (by rfl) DC.g DC.F.kp DC.b .nil pass0 (pa_cons (pv 2) (pa_cons (pv 3) pa_nil))))
          (pss_one (ps_if (PW.pt (pw_or (pt_not (pt_val (pe_callG GR hgd hr (by rfl) DR.g DR.F.kp DR.b .nil pass0 (pa_cons (pv 5) pa_nil)))) (pw_or1 (pt_not (pt_val (pe_callG GR hgd hr (by rfl) DR.g DR.F.kp DR.b .nil pass0 (pa_cons (pe_call GM hr (by rfl) DM.g DM.F.kp DM.b .nil pass0 (pa_cons (pv 2) (pa_cons (pv 5) (pa_cons pe_int pa_nil)))) pa_nil))))))) (pss_one (ps_ret pe_bl)) pss_nil)))))))))
      (pss_cons (ps_set (i := 6) nd rfl (.inr rfl) (pe_tup (pa_cons pe_str (pa_cons pe_str (pa_cons pe_str (pa_cons pe_str (pa_cons pe_str (pa_cons pe_str (pa_cons pe_str pa_nil)))))))))
      (pss_cons (ps_set (i := 7) nd rfl (.inl rfl) (pe_tup (pa_cons (pv 6) (pa_cons (pe_callTy call_tuple_of (by rfl) B.tuple (by decide +kernel) (pa_cons (pe_lc (own := [("mask", 8)]) (g := gName 8) rfl nd (pi_range2 (by rfl) B.range (pa_cons pe_int (pa_cons pe_int pa_nil))) (blkOk_by (N := NLw) (sc := defScope sLaw) (by decide +kernel))
          (fun _ _ _ _ _ => pg_name (i := 8) nd rfl (Or.inl rfl)) (fun _ _ _ _ _ => pts_nil) (fun _ _ _ _ _ => pe_call GX hr (by rfl) DX.g DX.F.kp DX.b .nil pass0 (pa_cons (pv 6) (pa_cons (pv 8) pa_nil)))) pa_nil)) pa_nil))))
      (pss_cons (ps_set (i := 9) nd rfl (.inl rfl) (pe_tup (pa_cons (pe_slice (r := rSlA K) sl_tupA (pv 6) po_none (po_some pe_int)) (pa_cons (pe_callTy call_tuple_of (by rfl) B.tuple (by decide +kernel) (pa_cons (pe_lc (own := [("mask", 8)]) (g := gName 8) rfl nd (pi_range2 (by rfl) B.range (pa_cons pe_int (pa_cons pe_int pa_nil))) (blkOk_by (N := NLw) (sc := defScope sLaw) (by decide +kernel))
          (fun _ _ _ _ _ => pg_name (i := 8) nd rfl (Or.inl rfl)) (fun _ _ _ _ _ => pts_nil) (fun _ _ _ _ _ => pe_call GX hr (by rfl) DX.g DX.F.kp DX.b .nil pass0 (pa_cons (pv 6) (pa_cons (pv 8) pa_nil)))) pa_nil)) pa_nil))))
      (pss_cons (ps_if (PW.pt (pw_or (pt_not (pt_val (pe_callG GR hgd hr (by rfl) DR.g DR.F.kp DR.b .nil pass0 (pa_cons (pv 7) pa_nil)))) (pw_or (pt_not (pt_val (pe_callG GR hgd hr (by rfl) DR.g DR.F.kp DR.b .nil pass0 (pa_cons (pv 9) pa_nil))))
          (pw_or1 (pt_not (pt_val (pe_callG GR hgd hr (by rfl) DR.g DR.F.kp DR.b .nil pass0 (pa_cons (pe_tup (pa_cons (pe_tup pa_nil) (pa_cons (pe_tup pa_nil) pa_nil))) pa_nil)))))))) (pss_one (ps_ret pe_bl)) pss_nil)
      (pss_one (ps_ret (pe_and (pe_cmpR op_eq (pe_glob (v := .int 6) (by rfl) mm ⟨_, rfl⟩) pe_int (nomark _)) (pe_one (pe_cmpR (op_eqP hr.units) (pe_call GE hr (by rfl) DE.g DE.F.kp DE.b .nil passL (pa_cons (pe_tup (pa_cons (pe_tup (pa_cons pe_str (pa_cons pe_str pa_nil))) (pa_cons (pe_tup (pa_cons (pe_tup (pa_cons pe_str pa_nil)) (pa_cons (pe_tup pa_nil) (pa_cons (pe_tup (pa_cons pe_str pa_nil)) pa_nil)))) pa_nil))) pa_nil)) (pe_tup (pa_cons pe_str pa_nil)) (nomark _)))))))))), ?_⟩
    refine ⟨.ref a, rfl, a, _, rfl, .inl hS, 16, _, rfl, 1, _, rfl, ?_⟩
    have hj : ∃ j : Nat, j ≤ 1000 ∧ (if (if ((ns.map V.int).length : Int) < 16 then ((ns.map V.int).length : Int) else 16) > 1 then (if ((ns.map V.int).length : Int) < 16 then ((ns.map V.int).length : Int) else 16) else 1) = (j : Int) := by
      rw [List.length_map]
      by_cases h1 : (ns.length : Int) < 16
      · rw [if_pos h1]
        by_cases h2 : (ns.length : Int) > 1
        · rw [if_pos h2]
          exact ⟨ns.length, by omega, rfl⟩
        · rw [if_neg h2]
          exact ⟨1, by decide, rfl⟩
      · rw [if_neg h1]
        exact ⟨16, by decide, rfl⟩
    obtain ⟨j, hj1, ej⟩ := hj
    refine ⟨_, rfl, ?_, ?_, ?_⟩
    · show (-(2 ^ 62) : Int) ≤ _
      rw [ej]
      omega
    · show (_ : Int) < 2 ^ 62
      rw [ej]
      omega
    refine for_range (lo := 0) (n := Int.toNat _) (fun i σ G => LamX.ExtN H G ∧ LamX.Tabs [(P0, lamQ)] G ∧ ∃ o1 o2 o3 o4 o5, σ = [some (.ref a), o1, o2, o3, o4, o5, none, none, none, none]) ⟨LamX.ExtN.refl H, tabs_one hP0, none, none, none, none, none, rfl⟩ (fun i σ G hi hp => ?_) (fun σ G hp => ?_)
    · obtain ⟨eG, tG, o1, o2, o3, o4, o5, rfl⟩ := hp
      have hi3 : i < j := by
        have h := hi
        rw [show Int.toNat _ = j from congrArg Int.toNat ej] at h
        exact h
      refine ⟨.ref a, rfl, .int (0 + (i : Int)), rfl, a, ns, 0 + (i : Int), rfl, KX.seq_ext hS eG, by omega, by omega, fun H1 l s1 nl st1 => ?_⟩
      refine gn_to (σ' := ([some (.ref a), some (.int (0 + (i : Int))), some (.ref l), o3, o4, o5, none, none, none, none] : L2.St)) rfl ?_
      try dsimp only
      have e1 : LamX.ExtN G H1 := ext_same s1
      have t1 := tabs_same s1 tG
      refine ⟨.ref l, rfl, l, rfl, st1, fun H2 v own ks k2 st2 hT ok => ?_⟩
      refine gn_to (σ' := ([some (.ref a), some (.int (0 + (i : Int))), some (.ref l), some v, o4, o5, none, none, none, none] : L2.St)) rfl ?_
      try dsimp only
      have hd2 := tblF_dx hT
      have e2 := keep_ext2 e1 nl k2
      have t2 := KX.tabs_keep k2 st1 t1
      have vtE := enc_vt ok
      refine ⟨v, rfl, v, encT own ks, rfl, hd2.up (KX.hid_same l H2), vtE, fun H3 s3 => ?_⟩
      rw [tbl_enc ok]
      refine ⟨true, true, rfl, rfl, _, rfl, iteF ?_⟩
      have hd3 := hd2.up (Keep.of (l := l) s3).same
      have st3 := st2.same s3
      have e3 := e2.trans (ext_same s3)
      have t3 := tabs_same s3 t2
      refine ⟨v, rfl, v, encT own ks, rfl, t3, hd3.up (KX.hid_same l H3), vtE, fun H4 e4 t4 => ⟨_, rfl, iteF ?_⟩⟩
      have st4 := KX.sto_ext st3 e4
      have hd4 := hd3.ext (ext_hid (l := l) e4)
      have e04 := e3.trans e4
      refine ⟨.ref l, rfl, l, rfl, st4, fun H5 u du k5 st5 mu hu => ?_⟩
      have hd5 := hd4.up k5.same
      have e05 := keep_ext2 e04 nl k5
      have t5 := KX.tabs_keep k5 st4 t4
      refine ⟨u, du, rfl, t5, hu.up (KX.hid_same l H5), un_vt mu, fun H6 e6 t6 => ⟨_, rfl, iteF ?_⟩⟩
      have st6 := KX.sto_ext st5 e6
      have hd6 := hd5.ext (ext_hid (l := l) e6)
      have e06 := e05.trans e6
      refine ⟨6, rfl, by decide, by decide, ?_⟩
      refine for_range (lo := 0) (n := Int.toNat _) (fun m σ F => LamX.ExtN G F ∧ LamX.Tabs [(P0, lamQ)] F ∧ StO F l ∧ Dx (KX.hid l F) v (encT own ks) ∧ ∃ o4 o5, σ = [some (.ref a), some (.int (0 + (i : Int))), some (.ref l), some v, o4, o5, none, none, none, none])
        ⟨e06, t6, st6, hd6, o4, o5, rfl⟩ (fun m σ F hm hP => ?_) (fun σ F hP => ?_)
      · obtain ⟨eF, tF, sF, dF, o4, o5, rfl⟩ := hP
        refine gn_to (σ' := ([some (.ref a), some (.int (0 + (i : Int))), some (.ref l), some v, some (.int (0 + (m : Int))), o5, none, none, none, none] : L2.St)) rfl ?_
        try dsimp only
        refine ⟨.ref l, rfl, v, rfl, l, v, own, ks, rfl, sF, dF, ok, fun F1 x dx k1 sF1 hx cx => ?_⟩
        refine gn_to (σ' := ([some (.ref a), some (.int (0 + (i : Int))), some (.ref l), some v, some (.int (0 + (m : Int))), some x, none, none, none, none] : L2.St)) rfl ?_
        try dsimp only
        have eF1 := keep_ext2 eF nl k1
        have tF1 := KX.tabs_keep k1 sF tF
        have dF1 := dF.up k1.same
        refine ⟨x, rfl, x, dx, rfl, tF1, hx.up (KX.hid_same l F1), ch_vt cx, fun F2 g2 tF2 => ⟨_, rfl, iteF ?_⟩⟩
        have sF2 := KX.sto_ext sF1 g2
        have hx2 := hx.ext (ext_hid (l := l) g2)
        have dF2 := dF1.ext (ext_hid (l := l) g2)
        refine ⟨.ref l, rfl, x, rfl, l, x, dx, rfl, sF2, hx2, ch_dmi cx, fun F3 y dy k3 sF3 hy gy => ?_⟩
        have eF3 := keep_ext2 (eF1.trans g2) nl k3
        have tF3 := KX.tabs_keep k3 sF2 tF2
        have dF3 := dF2.up k3.same
        refine ⟨y, dy, rfl, tF3, hy.up (KX.hid_same l F3), dm_vt cx gy, fun F4 g4 tF4 => ⟨_, rfl, iteF ?_⟩⟩
        exact ⟨eF3.trans g4, tF4, KX.sto_ext sF3 g4, dF3.ext (ext_hid (l := l) g4), _, _, rfl⟩
      · obtain ⟨eF, tF, sF, dF, o4, o5, rfl⟩ := hP
        exact ⟨eG.trans eF, tF, _, _, _, _, _, rfl⟩
    · obtain ⟨eG, tG, o1, o2, o3, o4, o5, rfl⟩ := hp
      refine ⟨by show 7 ≤ sizeLine; decide, fun z nz => ?_⟩
      have s1 : Same G (upd G z (.tup (n7.map V.str))) := same_new nz
      have ez : (upd G z (.tup (n7.map V.str))) z = some (.tup (n7.map V.str)) := upd_same
      have eG1 := eG.trans (ext_same s1)
      have tG1 := tabs_same s1 tG
      refine (show ∀ G1 : Hp, LamX.ExtN H G1 → LamX.Tabs [(P0, lamQ)] G1 → G1 z = some (.tup (n7.map V.str)) → tSeq _ _ _ ([some (.ref a), o1, o2, o3, o4, o5, some (.ref z), none, none, none] : L2.St) G1 from fun G1 eG1 tG1 ez => ?_) _ eG1 tG1 ez
      refine ⟨.ref z, rfl, 1, 128, rfl, ⟨by decide, by decide, by decide, by decide⟩, fun L nL => ?_⟩
      rw [show ((128 : Int) - 1).toNat = 127 from rfl]
      refine lc_gen (xs := (List.range 127).map fun i => V.int (1 + (i : Nat))) (as := List.range 127) (fun i => some (subN n7 (i + 1))) GtAt (fun _ _ _ _ k h => GtAt.tk k h) (walk_rangeL (by rw [List.length_map, List.length_range])) nL (fun _ _ => trivial) (by rw [List.length_map]) (by rw [List.length_range]; decide) (fun m x i F hxm him sF Pt Pf kt kf => ?_) (fun F ys sF eL hp _ => ?_)
      · have hm := List.mem_range.mp (List.mem_of_getElem? him)
        have e1 : i = m := by
          have := List.getElem?_range (n := 127) (i := m) (by
            have := (List.getElem?_eq_some_iff.mp him).1
            rwa [List.length_range] at this)
          rw [this] at him
          exact (Option.some.inj him).symm
        subst e1
        rw [List.getElem?_map, him] at hxm
        cases hxm
        refine ⟨rfl, .ref z, rfl, .int (1 + (i : Int)), rfl, .ref z, n7, i + 1, by rw [show ((i + 1 : Nat) : Int) = 1 + (i : Int) by omega]; rfl, strs_dz (.inl (sF _ _ ez)), by decide, fun G2 p s2 _ e2 => kt _ rfl _ _ s2 (gt_mk e2)⟩
      have e2 : (List.range 127).filterMap (fun i => some (subN n7 (i + 1))) = (List.range 127).map (fun i => subN n7 (i + 1)) := List.filterMap_eq_map ▸ rfl
      rw [e2] at hp
      refine ⟨L, ys, rfl, .inl ⟨.inl (.inl eL), fun y ny => ?_⟩⟩
      have s2 := same_new (o := .tup ys) ny
      refine ⟨by show 2 ≤ sizeLine; decide, fun t nt => ?_⟩
      have s3 := same_new (o := .tup [V.ref z, .ref y]) nt
      have sA := (sF.trans s2).trans s3
      have h7 : Dx (upd (upd F y (.tup ys)) t (.tup [.ref z, .ref y])) (.ref t) d7 := by
        refine .tup upd_same (.cons (.tup (sA _ _ ez) (dxs_strs n7)) (.cons (.tup (s3 _ _ upd_same) ?_) .nil))
        have := dxs_pair (H := upd (upd F y (.tup ys)) t (.tup [.ref z, .ref y])) (f := fun c : List Str => PyData.tuple (c.map .str)) (pair_tk (Rel := GtAt) (fun _ _ _ _ k h => GtAt.tk k h) (TK.same (s2.trans s3)) hp)
        rw [List.map_map] at this
        exact this
      have e7 := eG1.trans (ext_same sA)
      have t7 := tabs_same sA tG1
      have ez7 := sA _ _ ez
      clear ez tG1 eG1 hp eL nL
      generalize upd (upd F y (.tup ys)) t (.tup [.ref z, .ref y]) = G7 at h7 e7 t7 ez7
      refine (show ∀ G7 : Hp, LamX.ExtN H G7 → LamX.Tabs [(P0, lamQ)] G7 → G7 z = some (.tup (n7.map V.str)) → Dx G7 (.ref t) d7 → tSeq _ _ _ ([some (.ref a), o1, o2, o3, o4, o5, some (.ref z), some (.ref t), none, none] : L2.St) G7 from fun G7 e7 t7 ez h7 => ?_) _ e7 t7 ez7 h7
      refine ⟨.ref z, rfl, 6, rfl, slA_to ez fun F0 z6 f0 ez6 => ?_⟩
      rw [show (6 : Int) = ((6 : Nat) : Int) from rfl, cutV_to, ← List.map_take] at ez6
      have ez := f0 _ _ ez
      refine ⟨1, 64, rfl, ⟨by decide, by decide, by decide, by decide⟩, fun L nL => ?_⟩
      rw [show ((64 : Int) - 1).toNat = 63 from rfl]
      refine lc_gen (xs := (List.range 63).map fun i => V.int (1 + (i : Nat))) (as := List.range 63) (fun i => some (subN n7 (i + 1))) GtAt (fun _ _ _ _ k h => GtAt.tk k h) (walk_rangeL (by rw [List.length_map, List.length_range])) nL (fun _ _ => trivial) (by rw [List.length_map]) (by rw [List.length_range]; decide) (fun m x i F hxm him sF Pt Pf kt kf => ?_) (fun F ys sF eL hp _ => ?_)
      · have hm := List.mem_range.mp (List.mem_of_getElem? him)
        have e1 : i = m := by
          have := List.getElem?_range (n := 63) (i := m) (by
            have := (List.getElem?_eq_some_iff.mp him).1
            rwa [List.length_range] at this)
          rw [this] at him
          exact (Option.some.inj him).symm
        subst e1
        rw [List.getElem?_map, him] at hxm
        cases hxm
        refine ⟨rfl, .ref z, rfl, .int (1 + (i : Int)), rfl, .ref z, n7, i + 1, by rw [show ((i + 1 : Nat) : Int) = 1 + (i : Int) by omega]; rfl, strs_dz (.inl (sF _ _ ez)), by decide, fun G2 p s2 _ e2 => kt _ rfl _ _ s2 (gt_mk e2)⟩
      have e2 : (List.range 63).filterMap (fun i => some (subN n7 (i + 1))) = (List.range 63).map (fun i => subN n7 (i + 1)) := List.filterMap_eq_map ▸ rfl
      rw [e2] at hp
      refine ⟨L, ys, rfl, .inl ⟨.inl (.inl eL), fun y ny => ?_⟩⟩
      have s2 := same_new (o := .tup ys) ny
      refine ⟨by show 2 ≤ sizeLine; decide, fun u nu => ?_⟩
      have s3 := same_new (o := .tup [V.ref z6, .ref y]) nu
      have sB := (sF.trans s2).trans s3
      have h6 : Dx (upd (upd F y (.tup ys)) u (.tup [.ref z6, .ref y])) (.ref u) d6 := by
        refine .tup upd_same (.cons (.tup (sB _ _ ez6) (dxs_strs (n7.take 6))) (.cons (.tup (s3 _ _ upd_same) ?_) .nil))
        have := dxs_pair (H := upd (upd F y (.tup ys)) u (.tup [.ref z6, .ref y])) (f := fun c : List Str => PyData.tuple (c.map .str)) (pair_tk (Rel := GtAt) (fun _ _ _ _ k h => GtAt.tk k h) (TK.same (s2.trans s3)) hp)
        rw [List.map_map] at this
        exact this
      have sC := f0.trans sB
      have e8 := e7.trans (ext_same sC)
      have t8 := tabs_same sC t7
      have h7 := h7.up sC
      refine (show ∀ G8 : Hp, LamX.ExtN H G8 → LamX.Tabs [(P0, lamQ)] G8 → Dx G8 (.ref t) d7 → Dx G8 (.ref u) d6 → tSeq _ _ _ ([some (.ref a), o1, o2, o3, o4, o5, some (.ref z), some (.ref t), none, some (.ref u)] : L2.St) G8 from fun G8 e8 t8 h7 h6 => ?_) _ e8 t8 h7 h6
      refine ⟨.ref t, rfl, .ref t, d7, rfl, t8, h7, d7_vt, fun G9 e9 t9 => ⟨_, rfl, iteF ?_⟩⟩
      refine ⟨.ref u, rfl, .ref u, d6, rfl, t9, h6.ext e9, d6_vt, fun GA eA tA => ⟨_, rfl, iteF ?_⟩⟩
      have s0 : SD d0 (tTup (tCons (tTup tNil) (tCons (tTup tNil) tNil))) := sd_tup (md_cons (sd_tup md_nil (by decide)) (md_cons (sd_tup md_nil (by decide)) md_nil)) (by show 2 ≤ 1000; decide)
      refine nt_sd s0 fun GB v0 sB h0 => ?_
      refine ⟨v0, d0, rfl, tabs_same sB tA, h0, d0_vt, fun GC eC tC' => ⟨_, rfl, iteF ?_⟩⟩
      refine ⟨rfl, _, rfl, ite_to (decide_eq_true rfl) ?_⟩
      have sZ : SD dZ (tTup (tCons (tTup (tCons (tC (.str "a")) (tCons (tC (.str "b")) tNil))) (tCons (tTup (tCons (tTup (tCons (tC (.str "a")) tNil)) (tCons (tTup tNil) (tCons (tTup (tCons (tC (.str "b")) tNil)) tNil)))) tNil))) :=
        sd_tup (md_cons (sd_tup (md_cons sd_str (md_cons sd_str md_nil)) (by show 2 ≤ 1000; decide)) (md_cons (sd_tup (md_cons (sd_tup (md_cons sd_str md_nil) (by show 1 ≤ 1000; decide)) (md_cons (sd_tup md_nil (by decide)) (md_cons (sd_tup (md_cons sd_str md_nil) (by show 1 ≤ 1000; decide)) md_nil))) (by show 3 ≤ 1000; decide)) md_nil)) (by show 2 ≤ 1000; decide)
      refine op_sd sZ fun GD vz sD hz => ?_
      refine ⟨vz, dZ, rfl, hz, dZ_vt, fun e => absurd e (by rw [encZ, tbl_enc okZ]; decide), fun ns' ks' e ok' GE' x sE hx => ?_⟩
      obtain ⟨rfl, rfl⟩ := enc_inj (encZ ▸ e) okZ ok'
      rw [selZ] at hx
      refine ⟨by show 1 ≤ sizeLine; decide, fun b nb => ?_⟩
      exact eq_strT (hx.up (same_new nb)) (gt_mk (g := ["a"]) upd_same) (q _)
end

end E1

set_option maxRecDepth 100000
set_option maxHeartbeats 8000000
namespace E1
open PySem PySem.Spec PyProof.Rows L2 KX
/-! ### what the top has written -/
theorem df_mk {K : PySem.W.Frag} {h : Heap} {mg : Str → Option Value} {x : String} {st : Stmt} {ps : List Str} {f : Addr} {oc : Value} {od an : Option Addr} {sl : Array (Option Value)} {kV doc pm cd ct : Value} (X : K.In h) (G : h.Ns mainGlobals mg)
    (a : PySem.W.nsIn K mainGlobals x = some (some (.ref f))) (l : K.lookup f = some ⟨oc, od, .func (PySem.W.fnOf x x (defArgs st) (defBody st) (defScope st) .none kV doc pm an cd ct), sl⟩) (c : PySem.W.codeIn K cd x = true)
    (k : PySem.W.keepIn K (.ref f) = true) (hb : ∀ (kV doc pm : Value) (an : Option Addr) (cdv ct : Value) (us : List Value), us.length = ps.length → bindArgs (PySem.W.fnOf x x (defArgs st) (defBody st) (defScope st) .none kV doc pm an cdv ct) ⟨us, []⟩ = pure (ps.zip us)) :
    Df K mg x st ps f (PySem.W.fnOf x x (defArgs st) (defBody st) (defScope st) .none kV doc pm an cd ct) :=
  ⟨fun_mk l c k, (fun_mk l c k).binds hb, PySem.W.mg_of X G a⟩
theorem all_mk {l : PySem.W.OpenLaw} {w : World} {K : PySem.W.Frag} {h : Heap} {mg : Str → Option Value} {fa : Addr} {S R RI RQ : Addr} {PL0 : Addr} {eL0 : Value} {ddL0 : Option Addr} {vsL0 : Array Value} {slL0 : Array (Option Value)} (X : K.In h) (G : h.Ns mainGlobals mg) (hfa : mg "law" = some (.ref fa))
    {f0 : Addr} {oc0 : Value} {od0 an0 : Option Addr} {sl0 : Array (Option Value)} {kV0 doc0 pm0 cd0 ct0 : Value} (a0 : PySem.W.nsIn K mainGlobals "is_tuple_between" = some (some (.ref f0))) (l0 : K.lookup f0 = some ⟨oc0, od0, .func (PySem.W.fnOf "is_tuple_between" "is_tuple_between" (defArgs sTupB) (defBody sTupB) (defScope sTupB) .none kV0 doc0 pm0 an0 cd0 ct0), sl0⟩) (c0 : PySem.W.codeIn K cd0 "is_tuple_between" = true) (k0 : PySem.W.keepIn K (.ref f0) = true)
    {f1 : Addr} {oc1 : Value} {od1 an1 : Option Addr} {sl1 : Array (Option Value)} {kV1 doc1 pm1 cd1 ct1 : Value} (a1 : PySem.W.nsIn K mainGlobals "is_ascending" = some (some (.ref f1))) (l1 : K.lookup f1 = some ⟨oc1, od1, .func (PySem.W.fnOf "is_ascending" "is_ascending" (defArgs sAsc) (defBody sAsc) (defScope sAsc) .none kV1 doc1 pm1 an1 cd1 ct1), sl1⟩) (c1 : PySem.W.codeIn K cd1 "is_ascending" = true) (k1 : PySem.W.keepIn K (.ref f1) = true)
    {f2 : Addr} {oc2 : Value} {od2 an2 : Option Addr} {sl2 : Array (Option Value)} {kV2 doc2 pm2 cd2 ct2 : Value} (a2 : PySem.W.nsIn K mainGlobals "are_among" = some (some (.ref f2))) (l2 : K.lookup f2 = some ⟨oc2, od2, .func (PySem.W.fnOf "are_among" "are_among" (defArgs sAm) (defBody sAm) (defScope sAm) .none kV2 doc2 pm2 an2 cd2 ct2), sl2⟩) (c2 : PySem.W.codeIn K cd2 "are_among" = true) (k2 : PySem.W.keepIn K (.ref f2) = true)
    {f3 : Addr} {oc3 : Value} {od3 an3 : Option Addr} {sl3 : Array (Option Value)} {kV3 doc3 pm3 cd3 ct3 : Value} (a3 : PySem.W.nsIn K mainGlobals "are_ascending_among" = some (some (.ref f3))) (l3 : K.lookup f3 = some ⟨oc3, od3, .func (PySem.W.fnOf "are_ascending_among" "are_ascending_among" (defArgs sAa) (defBody sAa) (defScope sAa) .none kV3 doc3 pm3 an3 cd3 ct3), sl3⟩) (c3 : PySem.W.codeIn K cd3 "are_ascending_among" = true) (k3 : PySem.W.keepIn K (.ref f3) = true)
    {f4 : Addr} {oc4 : Value} {od4 an4 : Option Addr} {sl4 : Array (Option Value)} {kV4 doc4 pm4 cd4 ct4 : Value} (a4 : PySem.W.nsIn K mainGlobals "is_name" = some (some (.ref f4))) (l4 : K.lookup f4 = some ⟨oc4, od4, .func (PySem.W.fnOf "is_name" "is_name" (defArgs sName) (defBody sName) (defScope sName) .none kV4 doc4 pm4 an4 cd4 ct4), sl4⟩) (c4 : PySem.W.codeIn K cd4 "is_name" = true) (k4 : PySem.W.keepIn K (.ref f4) = true)
    {f5 : Addr} {oc5 : Value} {od5 an5 : Option Addr} {sl5 : Array (Option Value)} {kV5 doc5 pm5 cd5 ct5 : Value} (a5 : PySem.W.nsIn K mainGlobals "are_table_names" = some (some (.ref f5))) (l5 : K.lookup f5 = some ⟨oc5, od5, .func (PySem.W.fnOf "are_table_names" "are_table_names" (defArgs sTn) (defBody sTn) (defScope sTn) .none kV5 doc5 pm5 an5 cd5 ct5), sl5⟩) (c5 : PySem.W.codeIn K cd5 "are_table_names" = true) (k5 : PySem.W.keepIn K (.ref f5) = true)
    {f6 : Addr} {oc6 : Value} {od6 an6 : Option Addr} {sl6 : Array (Option Value)} {kV6 doc6 pm6 cd6 ct6 : Value} (a6 : PySem.W.nsIn K mainGlobals "is_table" = some (some (.ref f6))) (l6 : K.lookup f6 = some ⟨oc6, od6, .func (PySem.W.fnOf "is_table" "is_table" (defArgs sIt) (defBody sIt) (defScope sIt) .none kV6 doc6 pm6 an6 cd6 ct6), sl6⟩) (c6 : PySem.W.codeIn K cd6 "is_table" = true) (k6 : PySem.W.keepIn K (.ref f6) = true)
    {f7 : Addr} {oc7 : Value} {od7 an7 : Option Addr} {sl7 : Array (Option Value)} {kV7 doc7 pm7 cd7 ct7 : Value} (a7 : PySem.W.nsIn K mainGlobals "check_table" = some (some (.ref f7))) (l7 : K.lookup f7 = some ⟨oc7, od7, .func (PySem.W.fnOf "check_table" "check_table" (defArgs sCt) (defBody sCt) (defScope sCt) .none kV7 doc7 pm7 an7 cd7 ct7), sl7⟩) (c7 : PySem.W.codeIn K cd7 "check_table" = true) (k7 : PySem.W.keepIn K (.ref f7) = true)
    {f8 : Addr} {oc8 : Value} {od8 an8 : Option Addr} {sl8 : Array (Option Value)} {kV8 doc8 pm8 cd8 ct8 : Value} (a8 : PySem.W.nsIn K mainGlobals "members_of" = some (some (.ref f8))) (l8 : K.lookup f8 = some ⟨oc8, od8, .func (PySem.W.fnOf "members_of" "members_of" (defArgs sMb) (defBody sMb) (defScope sMb) .none kV8 doc8 pm8 an8 cd8 ct8), sl8⟩) (c8 : PySem.W.codeIn K cd8 "members_of" = true) (k8 : PySem.W.keepIn K (.ref f8) = true)
    {f9 : Addr} {oc9 : Value} {od9 an9 : Option Addr} {sl9 : Array (Option Value)} {kV9 doc9 pm9 cd9 ct9 : Value} (a9 : PySem.W.nsIn K mainGlobals "nonempty_sets" = some (some (.ref f9))) (l9 : K.lookup f9 = some ⟨oc9, od9, .func (PySem.W.fnOf "nonempty_sets" "nonempty_sets" (defArgs sNs) (defBody sNs) (defScope sNs) .none kV9 doc9 pm9 an9 cd9 ct9), sl9⟩) (c9 : PySem.W.codeIn K cd9 "nonempty_sets" = true) (k9 : PySem.W.keepIn K (.ref f9) = true)
    {f10 : Addr} {oc10 : Value} {od10 an10 : Option Addr} {sl10 : Array (Option Value)} {kV10 doc10 pm10 cd10 ct10 : Value} (a10 : PySem.W.nsIn K mainGlobals "number_of" = some (some (.ref f10))) (l10 : K.lookup f10 = some ⟨oc10, od10, .func (PySem.W.fnOf "number_of" "number_of" (defArgs sNo) (defBody sNo) (defScope sNo) .none kV10 doc10 pm10 an10 cd10 ct10), sl10⟩) (c10 : PySem.W.codeIn K cd10 "number_of" = true) (k10 : PySem.W.keepIn K (.ref f10) = true)
    {f11 : Addr} {oc11 : Value} {od11 an11 : Option Addr} {sl11 : Array (Option Value)} {kV11 doc11 pm11 cd11 ct11 : Value} (a11 : PySem.W.nsIn K mainGlobals "table_choice" = some (some (.ref f11))) (l11 : K.lookup f11 = some ⟨oc11, od11, .func (PySem.W.fnOf "table_choice" "table_choice" (defArgs sTc) (defBody sTc) (defScope sTc) .none kV11 doc11 pm11 an11 cd11 ct11), sl11⟩) (c11 : PySem.W.codeIn K cd11 "table_choice" = true) (k11 : PySem.W.keepIn K (.ref f11) = true)
    {f12 : Addr} {oc12 : Value} {od12 an12 : Option Addr} {sl12 : Array (Option Value)} {kV12 doc12 pm12 cd12 ct12 : Value} (a12 : PySem.W.nsIn K mainGlobals "choice_of" = some (some (.ref f12))) (l12 : K.lookup f12 = some ⟨oc12, od12, .func (PySem.W.fnOf "choice_of" "choice_of" (defArgs sCo) (defBody sCo) (defScope sCo) .none kV12 doc12 pm12 an12 cd12 ct12), sl12⟩) (c12 : PySem.W.codeIn K cd12 "choice_of" = true) (k12 : PySem.W.keepIn K (.ref f12) = true)
    {f13 : Addr} {oc13 : Value} {od13 an13 : Option Addr} {sl13 : Array (Option Value)} {kV13 doc13 pm13 cd13 ct13 : Value} (a13 : PySem.W.nsIn K mainGlobals "find_violation" = some (some (.ref f13))) (l13 : K.lookup f13 = some ⟨oc13, od13, .func (PySem.W.fnOf "find_violation" "find_violation" (defArgs sFv) (defBody sFv) (defScope sFv) .none kV13 doc13 pm13 an13 cd13 ct13), sl13⟩) (c13 : PySem.W.codeIn K cd13 "find_violation" = true) (k13 : PySem.W.keepIn K (.ref f13) = true)
    {f14 : Addr} {oc14 : Value} {od14 an14 : Option Addr} {sl14 : Array (Option Value)} {kV14 doc14 pm14 cd14 ct14 : Value} (a14 : PySem.W.nsIn K mainGlobals "is_violation" = some (some (.ref f14))) (l14 : K.lookup f14 = some ⟨oc14, od14, .func (PySem.W.fnOf "is_violation" "is_violation" (defArgs sIv) (defBody sIv) (defScope sIv) .none kV14 doc14 pm14 an14 cd14 ct14), sl14⟩) (c14 : PySem.W.codeIn K cd14 "is_violation" = true) (k14 : PySem.W.keepIn K (.ref f14) = true)
    {f15 : Addr} {oc15 : Value} {od15 an15 : Option Addr} {sl15 : Array (Option Value)} {kV15 doc15 pm15 cd15 ct15 : Value} (a15 : PySem.W.nsIn K mainGlobals "selectable_names" = some (some (.ref f15))) (l15 : K.lookup f15 = some ⟨oc15, od15, .func (PySem.W.fnOf "selectable_names" "selectable_names" (defArgs sSe) (defBody sSe) (defScope sSe) .none kV15 doc15 pm15 an15 cd15 ct15), sl15⟩) (c15 : PySem.W.codeIn K cd15 "selectable_names" = true) (k15 : PySem.W.keepIn K (.ref f15) = true)
    {f16 : Addr} {oc16 : Value} {od16 an16 : Option Addr} {sl16 : Array (Option Value)} {kV16 doc16 pm16 cd16 ct16 : Value} (a16 : PySem.W.nsIn K mainGlobals "find_orderings" = some (some (.ref f16))) (l16 : K.lookup f16 = some ⟨oc16, od16, .func (PySem.W.fnOf "find_orderings" "find_orderings" (defArgs sFo) (defBody sFo) (defScope sFo) .none kV16 doc16 pm16 an16 cd16 ct16), sl16⟩) (c16 : PySem.W.codeIn K cd16 "find_orderings" = true) (k16 : PySem.W.keepIn K (.ref f16) = true)
    {f17 : Addr} {oc17 : Value} {od17 an17 : Option Addr} {sl17 : Array (Option Value)} {kV17 doc17 pm17 cd17 ct17 : Value} (a17 : PySem.W.nsIn K mainGlobals "are_orderings" = some (some (.ref f17))) (l17 : K.lookup f17 = some ⟨oc17, od17, .func (PySem.W.fnOf "are_orderings" "are_orderings" (defArgs sAo) (defBody sAo) (defScope sAo) .none kV17 doc17 pm17 an17 cd17 ct17), sl17⟩) (c17 : PySem.W.codeIn K cd17 "are_orderings" = true) (k17 : PySem.W.keepIn K (.ref f17) = true)
    {f18 : Addr} {oc18 : Value} {od18 an18 : Option Addr} {sl18 : Array (Option Value)} {kV18 doc18 pm18 cd18 ct18 : Value} (a18 : PySem.W.nsIn K mainGlobals "_law_stream" = some (some (.ref f18))) (l18 : K.lookup f18 = some ⟨oc18, od18, .func (PySem.W.fnOf "_law_stream" "_law_stream" (defArgs sStream) (defBody sStream) (defScope sStream) .none kV18 doc18 pm18 an18 cd18 ct18), sl18⟩) (c18 : PySem.W.codeIn K cd18 "_law_stream" = true) (k18 : PySem.W.keepIn K (.ref f18) = true)
    {f19 : Addr} {oc19 : Value} {od19 an19 : Option Addr} {sl19 : Array (Option Value)} {kV19 doc19 pm19 cd19 ct19 : Value} (a19 : PySem.W.nsIn K mainGlobals "_law_draw" = some (some (.ref f19))) (l19 : K.lookup f19 = some ⟨oc19, od19, .func (PySem.W.fnOf "_law_draw" "_law_draw" (defArgs sDraw) (defBody sDraw) (defScope sDraw) .none kV19 doc19 pm19 an19 cd19 ct19), sl19⟩) (c19 : PySem.W.codeIn K cd19 "_law_draw" = true) (k19 : PySem.W.keepIn K (.ref f19) = true)
    {f20 : Addr} {oc20 : Value} {od20 an20 : Option Addr} {sl20 : Array (Option Value)} {kV20 doc20 pm20 cd20 ct20 : Value} (a20 : PySem.W.nsIn K mainGlobals "_law_name" = some (some (.ref f20))) (l20 : K.lookup f20 = some ⟨oc20, od20, .func (PySem.W.fnOf "_law_name" "_law_name" (defArgs sNm) (defBody sNm) (defScope sNm) .none kV20 doc20 pm20 an20 cd20 ct20), sl20⟩) (c20 : PySem.W.codeIn K cd20 "_law_name" = true) (k20 : PySem.W.keepIn K (.ref f20) = true)
    {f21 : Addr} {oc21 : Value} {od21 an21 : Option Addr} {sl21 : Array (Option Value)} {kV21 doc21 pm21 cd21 ct21 : Value} (a21 : PySem.W.nsIn K mainGlobals "_law_table" = some (some (.ref f21))) (l21 : K.lookup f21 = some ⟨oc21, od21, .func (PySem.W.fnOf "_law_table" "_law_table" (defArgs sLt) (defBody sLt) (defScope sLt) .none kV21 doc21 pm21 an21 cd21 ct21), sl21⟩) (c21 : PySem.W.codeIn K cd21 "_law_table" = true) (k21 : PySem.W.keepIn K (.ref f21) = true)
    {f22 : Addr} {oc22 : Value} {od22 an22 : Option Addr} {sl22 : Array (Option Value)} {kV22 doc22 pm22 cd22 ct22 : Value} (a22 : PySem.W.nsIn K mainGlobals "_law_unrelated" = some (some (.ref f22))) (l22 : K.lookup f22 = some ⟨oc22, od22, .func (PySem.W.fnOf "_law_unrelated" "_law_unrelated" (defArgs sUn) (defBody sUn) (defScope sUn) .none kV22 doc22 pm22 an22 cd22 ct22), sl22⟩) (c22 : PySem.W.codeIn K cd22 "_law_unrelated" = true) (k22 : PySem.W.keepIn K (.ref f22) = true)
    {f23 : Addr} {oc23 : Value} {od23 an23 : Option Addr} {sl23 : Array (Option Value)} {kV23 doc23 pm23 cd23 ct23 : Value} (a23 : PySem.W.nsIn K mainGlobals "_law_damaged" = some (some (.ref f23))) (l23 : K.lookup f23 = some ⟨oc23, od23, .func (PySem.W.fnOf "_law_damaged" "_law_damaged" (defArgs sDm) (defBody sDm) (defScope sDm) .none kV23 doc23 pm23 an23 cd23 ct23), sl23⟩) (c23 : PySem.W.codeIn K cd23 "_law_damaged" = true) (k23 : PySem.W.keepIn K (.ref f23) = true)
    {f24 : Addr} {oc24 : Value} {od24 an24 : Option Addr} {sl24 : Array (Option Value)} {kV24 doc24 pm24 cd24 ct24 : Value} (a24 : PySem.W.nsIn K mainGlobals "_law_distinct_names" = some (some (.ref f24))) (l24 : K.lookup f24 = some ⟨oc24, od24, .func (PySem.W.fnOf "_law_distinct_names" "_law_distinct_names" (defArgs sDn) (defBody sDn) (defScope sDn) .none kV24 doc24 pm24 an24 cd24 ct24), sl24⟩) (c24 : PySem.W.codeIn K cd24 "_law_distinct_names" = true) (k24 : PySem.W.keepIn K (.ref f24) = true)
    {f25 : Addr} {oc25 : Value} {od25 an25 : Option Addr} {sl25 : Array (Option Value)} {kV25 doc25 pm25 cd25 ct25 : Value} (a25 : PySem.W.nsIn K mainGlobals "_law_subset" = some (some (.ref f25))) (l25 : K.lookup f25 = some ⟨oc25, od25, .func (PySem.W.fnOf "_law_subset" "_law_subset" (defArgs sSu) (defBody sSu) (defScope sSu) .none kV25 doc25 pm25 an25 cd25 ct25), sl25⟩) (c25 : PySem.W.codeIn K cd25 "_law_subset" = true) (k25 : PySem.W.keepIn K (.ref f25) = true)
    {f26 : Addr} {oc26 : Value} {od26 an26 : Option Addr} {sl26 : Array (Option Value)} {kV26 doc26 pm26 cd26 ct26 : Value} (a26 : PySem.W.nsIn K mainGlobals "_law_random_table" = some (some (.ref f26))) (l26 : K.lookup f26 = some ⟨oc26, od26, .func (PySem.W.fnOf "_law_random_table" "_law_random_table" (defArgs sRt) (defBody sRt) (defScope sRt) .none kV26 doc26 pm26 an26 cd26 ct26), sl26⟩) (c26 : PySem.W.codeIn K cd26 "_law_random_table" = true) (k26 : PySem.W.keepIn K (.ref f26) = true)
    {f27 : Addr} {oc27 : Value} {od27 an27 : Option Addr} {sl27 : Array (Option Value)} {kV27 doc27 pm27 cd27 ct27 : Value} (a27 : PySem.W.nsIn K mainGlobals "_law_one_choice_changed" = some (some (.ref f27))) (l27 : K.lookup f27 = some ⟨oc27, od27, .func (PySem.W.fnOf "_law_one_choice_changed" "_law_one_choice_changed" (defArgs sOc) (defBody sOc) (defScope sOc) .none kV27 doc27 pm27 an27 cd27 ct27), sl27⟩) (c27 : PySem.W.codeIn K cd27 "_law_one_choice_changed" = true) (k27 : PySem.W.keepIn K (.ref f27) = true)
    {f28 : Addr} {oc28 : Value} {od28 an28 : Option Addr} {sl28 : Array (Option Value)} {kV28 doc28 pm28 cd28 ct28 : Value} (a28 : PySem.W.nsIn K mainGlobals "_law_drawn_table" = some (some (.ref f28))) (l28 : K.lookup f28 = some ⟨oc28, od28, .func (PySem.W.fnOf "_law_drawn_table" "_law_drawn_table" (defArgs sDt) (defBody sDt) (defScope sDt) .none kV28 doc28 pm28 an28 cd28 ct28), sl28⟩) (c28 : PySem.W.codeIn K cd28 "_law_drawn_table" = true) (k28 : PySem.W.keepIn K (.ref f28) = true)
    {f29 : Addr} {oc29 : Value} {od29 an29 : Option Addr} {sl29 : Array (Option Value)} {kV29 doc29 pm29 cd29 ct29 : Value} (a29 : PySem.W.nsIn K mainGlobals "_law_valid_name" = some (some (.ref f29))) (l29 : K.lookup f29 = some ⟨oc29, od29, .func (PySem.W.fnOf "_law_valid_name" "_law_valid_name" (defArgs sVN) (defBody sVN) (defScope sVN) .none kV29 doc29 pm29 an29 cd29 ct29), sl29⟩) (c29 : PySem.W.codeIn K cd29 "_law_valid_name" = true) (k29 : PySem.W.keepIn K (.ref f29) = true)
    {f30 : Addr} {oc30 : Value} {od30 an30 : Option Addr} {sl30 : Array (Option Value)} {kV30 doc30 pm30 cd30 ct30 : Value} (a30 : PySem.W.nsIn K mainGlobals "_law_valid_table" = some (some (.ref f30))) (l30 : K.lookup f30 = some ⟨oc30, od30, .func (PySem.W.fnOf "_law_valid_table" "_law_valid_table" (defArgs sVT) (defBody sVT) (defScope sVT) .none kV30 doc30 pm30 an30 cd30 ct30), sl30⟩) (c30 : PySem.W.codeIn K cd30 "_law_valid_table" = true) (k30 : PySem.W.keepIn K (.ref f30) = true)
    {f31 : Addr} {oc31 : Value} {od31 an31 : Option Addr} {sl31 : Array (Option Value)} {kV31 doc31 pm31 cd31 ct31 : Value} (a31 : PySem.W.nsIn K mainGlobals "_law_outcome" = some (some (.ref f31))) (l31 : K.lookup f31 = some ⟨oc31, od31, .func (PySem.W.fnOf "_law_outcome" "_law_outcome" (defArgs sOut) (defBody sOut) (defScope sOut) .none kV31 doc31 pm31 an31 cd31 ct31), sl31⟩) (c31 : PySem.W.codeIn K cd31 "_law_outcome" = true) (k31 : PySem.W.keepIn K (.ref f31) = true)
    {f32 : Addr} {oc32 : Value} {od32 an32 : Option Addr} {sl32 : Array (Option Value)} {kV32 doc32 pm32 ct32 : Value} {cL0 : Addr} (a32 : PySem.W.nsIn K mainGlobals "_law_all_raise" = some (some (.ref f32))) (l32 : K.lookup f32 = some ⟨oc32, od32, .func (PySem.W.fnOf "_law_all_raise" "_law_all_raise" (defArgs sAR) (defBody sAR) (defScope sAR) .none kV32 doc32 pm32 an32 (.ref cL0) ct32), sl32⟩) (c32 : PySem.W.codeIn K (.ref cL0) "_law_all_raise" = true) (k32 : PySem.W.keepIn K (.ref f32) = true)
    {f33 : Addr} {oc33 : Value} {od33 an33 : Option Addr} {sl33 : Array (Option Value)} {kV33 doc33 pm33 cd33 ct33 : Value} (a33 : PySem.W.nsIn K mainGlobals "_law_right" = some (some (.ref f33))) (l33 : K.lookup f33 = some ⟨oc33, od33, .func (PySem.W.fnOf "_law_right" "_law_right" (defArgs sRi) (defBody sRi) (defScope sRi) .none kV33 doc33 pm33 an33 cd33 ct33), sl33⟩) (c33 : PySem.W.codeIn K cd33 "_law_right" = true) (k33 : PySem.W.keepIn K (.ref f33) = true)
    {f34 : Addr} {oc34 : Value} {od34 an34 : Option Addr} {sl34 : Array (Option Value)} {kV34 doc34 pm34 cd34 ct34 : Value} (a34 : PySem.W.nsIn K mainGlobals "_law_changed" = some (some (.ref f34))) (l34 : K.lookup f34 = some ⟨oc34, od34, .func (PySem.W.fnOf "_law_changed" "_law_changed" (defArgs sCh) (defBody sCh) (defScope sCh) .none kV34 doc34 pm34 an34 cd34 ct34), sl34⟩) (c34 : PySem.W.codeIn K cd34 "_law_changed" = true) (k34 : PySem.W.keepIn K (.ref f34) = true)
    {f35 : Addr} {oc35 : Value} {od35 an35 : Option Addr} {sl35 : Array (Option Value)} {kV35 doc35 pm35 cd35 ct35 : Value} (a35 : PySem.W.nsIn K mainGlobals "law" = some (some (.ref f35))) (l35 : K.lookup f35 = some ⟨oc35, od35, .func (PySem.W.fnOf "law" "law" (defArgs sLaw) (defBody sLaw) (defScope sLaw) .none kV35 doc35 pm35 an35 cd35 ct35), sl35⟩) (c35 : PySem.W.codeIn K cd35 "law" = true) (k35 : PySem.W.keepIn K (.ref f35) = true)
    (b0 : PySem.W.nsIn K mainGlobals "isinstance" = some none)
    (b1 : PySem.W.nsIn K mainGlobals "bool" = some none)
    (b2 : PySem.W.nsIn K mainGlobals "int" = some none)
    (b3 : PySem.W.nsIn K mainGlobals "str" = some none)
    (b4 : PySem.W.nsIn K mainGlobals "tuple" = some none)
    (b5 : PySem.W.nsIn K mainGlobals "list" = some none)
    (b6 : PySem.W.nsIn K mainGlobals "len" = some none)
    (b7 : PySem.W.nsIn K mainGlobals "all" = some none)
    (b8 : PySem.W.nsIn K mainGlobals "range" = some none)
    (b9 : PySem.W.nsIn K mainGlobals "max" = some none)
    (b10 : PySem.W.nsIn K mainGlobals "min" = some none)
    (b11 : PySem.W.nsIn K mainGlobals "abs" = some none)
    (b12 : PySem.W.nsIn K mainGlobals "repr" = some none)
    (b13 : PySem.W.nsIn K mainGlobals "sorted" = some none)
    (b14 : PySem.W.nsIn K mainGlobals "IndexError" = some none)
    (b15 : PySem.W.nsIn K mainGlobals "ValueError" = some none)
    (b16 : PySem.W.nsIn K mainGlobals "zip" = some none)
    (b17 : PySem.W.nsIn K mainGlobals "any" = some none)
    (b18 : PySem.W.nsIn K mainGlobals "KeyError" = some none)
    (b19 : PySem.W.nsIn K mainGlobals "sum" = some none)
    (b20 : PySem.W.nsIn K mainGlobals "dict" = some none)
    (b21 : PySem.W.nsIn K mainGlobals "enumerate" = some none)
    {t0 : Tok} (v0 : PySem.W.nsIn K mainGlobals "MAX_LETTERS" = some (some (.int 8 t0)))
    {t1 : Tok} (v1 : PySem.W.nsIn K mainGlobals "LETTERS" = some (some (.str "abcdefghijklmnopqrstuvwxyz" t1)))
    {t2 : Tok} (v2 : PySem.W.nsIn K mainGlobals "MAX_NAMES" = some (some (.int 6 t2)))
    (aS : PySem.W.nsIn K mainGlobals "SparesError" = some (some (.ref S)))
    (s1 : PySem.W.subIn K (.ref S) (.type "BaseException") = some true)
    (s2 : PySem.W.hasDictIn K S = true)
    (s3 : PySem.W.typeIn K (.ref S) = some (.type "type"))
    (aI : PySem.W.nsIn K mainGlobals "InvalidRowset" = some (some (.ref RI)))
    (aQ : PySem.W.nsIn K mainGlobals "InvalidQuery" = some (some (.ref RQ)))
    (aR : PySem.W.nsIn K mainGlobals "InvalidTable" = some (some (.ref R)))
    (q1 : PySem.W.excIn K R [.type "ValueError", .type "Exception", .type "BaseException", .type "object"] "ValueError.__new__" = true)
    (q2 : PySem.W.keepIn K (.ref R) = true)
    (q3 : PySem.W.subIn K (.ref R) (.type "BaseException") = some true)
    (q4 : PySem.W.typeIn K (.ref R) = some (.type "type"))
    (q5 : PySem.W.hasDictIn K R = true)
    (i1 : PySem.W.findIn K (.ref R) "__getattribute__" = some (some (.builtin "BaseException.__getattribute__")))
    (i2 : PySem.W.findIn K (.ref R) "__getattr__" = some none)
    (i3 : PySem.W.findIn K (.ref R) "__class__" = some (some (.builtin "object.__class__")))
    (i6 : PySem.W.mroIn K R (.type "object") = some true)
    (y4 : PySem.W.specialIn K (.builtin "object.__class__") "__get__" = some (some (.builtin "getset_descriptor.__get__")))
    (y5 : PySem.W.takesIn K (.builtin "object.__class__") = some true)
    (e1 : PySem.W.subIn K (.ref R) (.ref S) = some true)
    (r1 : PySem.W.kitOne K (.ref R) (.ref R) = some true)
    (r2 : PySem.W.kitAny K (.ref R) [.ref RI, .ref RQ] = some false)
    (bs : PySem.W.nsIn K mainGlobals "set" = some none)
    (g01 : K.lookup cL0 = some ⟨eL0, ddL0, .fields vsL0, slL0⟩)
    (g02 : vsL0[11]? = some (.ref PL0))
    (g03 : PySem.W.codeHdIn K cL0 PL0 = true)
    (g04 : K.lookup PL0 = none)
    (g05 : h.get? PL0 = some { cls := .none, data := .fields #[] })
    : ∃ (fd : FuncData) (cs : List (Addr × Addr)) (sp : Sp), (∀ p ∈ cs, h.get? p.2 = some { cls := .none, data := .fields #[] }) ∧ (∀ p ∈ cs, K.lookup p.2 = none) ∧ (∀ p ∈ cs, PySem.W.CodeHd h p.1 p.2) ∧ (∀ (s : Shared) (u : Value), BindsTo s fd ⟨[u], []⟩ [("script", u)]) ∧
        (∀ (H : Hp) (a : Addr) (ns : List Int), ns.length ≤ 63 → (∀ p ∈ cs, H p.2 = some (.tbl #[])) → SqL K H a (ns.map V.int) → sp [.ref a] H (fun v _ => v = .bl true) fun _ _ _ => False) ∧
        ∀ base : Heap, K.In base → base.Ns mainGlobals mg → (∀ p ∈ cs, LamX.TabB base mg p.1 p.2) → FnG l.prog w K mg base CX0 12 fa fd ["script"] sp := by
  have e := hfa.symm.trans (PySem.W.mg_of X G a35)
  cases e
  have E0 := df_mk (ps := ["value", "low", "high"]) X G a0 l0 c0 k0 (fun _ _ _ _ _ _ us hl => match us, hl with | [_, _, _], _ => rfl)
  have E1 := df_mk (ps := ["names"]) X G a1 l1 c1 k1 (fun _ _ _ _ _ _ us hl => match us, hl with | [_], _ => rfl)
  have E2 := df_mk (ps := ["known", "value"]) X G a2 l2 c2 k2 (fun _ _ _ _ _ _ us hl => match us, hl with | [_, _], _ => rfl)
  have E3 := df_mk (ps := ["known", "value"]) X G a3 l3 c3 k3 (fun _ _ _ _ _ _ us hl => match us, hl with | [_, _], _ => rfl)
  have E4 := df_mk (ps := ["value"]) X G a4 l4 c4 k4 (fun _ _ _ _ _ _ us hl => match us, hl with | [_], _ => rfl)
  have E5 := df_mk (ps := ["value"]) X G a5 l5 c5 k5 (fun _ _ _ _ _ _ us hl => match us, hl with | [_], _ => rfl)
  have E6 := df_mk (ps := ["value"]) X G a6 l6 c6 k6 (fun _ _ _ _ _ _ us hl => match us, hl with | [_], _ => rfl)
  have E7 := df_mk (ps := ["table"]) X G a7 l7 c7 k7 (fun _ _ _ _ _ _ us hl => match us, hl with | [_], _ => rfl)
  have E8 := df_mk (ps := ["parts", "number"]) X G a8 l8 c8 k8 (fun _ _ _ _ _ _ us hl => match us, hl with | [_, _], _ => rfl)
  have E9 := df_mk (ps := ["parts"]) X G a9 l9 c9 k9 (fun _ _ _ _ _ _ us hl => match us, hl with | [_], _ => rfl)
  have E10 := df_mk (ps := ["names", "chosen"]) X G a10 l10 c10 k10 (fun _ _ _ _ _ _ us hl => match us, hl with | [_, _], _ => rfl)
  have E11 := df_mk (ps := ["table", "names"]) X G a11 l11 c11 k11 (fun _ _ _ _ _ _ us hl => match us, hl with | [_, _], _ => rfl)
  have E12 := df_mk (ps := ["table", "names"]) X G a12 l12 c12 k12 (fun _ _ _ _ _ _ us hl => match us, hl with | [_, _], _ => rfl)
  have E13 := df_mk (ps := ["table"]) X G a13 l13 c13 k13 (fun _ _ _ _ _ _ us hl => match us, hl with | [_], _ => rfl)
  have E14 := df_mk (ps := ["table", "value"]) X G a14 l14 c14 k14 (fun _ _ _ _ _ _ us hl => match us, hl with | [_, _], _ => rfl)
  have E15 := df_mk (ps := ["table"]) X G a15 l15 c15 k15 (fun _ _ _ _ _ _ us hl => match us, hl with | [_], _ => rfl)
  have E16 := df_mk (ps := ["table"]) X G a16 l16 c16 k16 (fun _ _ _ _ _ _ us hl => match us, hl with | [_], _ => rfl)
  have E17 := df_mk (ps := ["table", "value"]) X G a17 l17 c17 k17 (fun _ _ _ _ _ _ us hl => match us, hl with | [_, _], _ => rfl)
  have E18 := df_mk (ps := ["script", "at"]) X G a18 l18 c18 k18 (fun _ _ _ _ _ _ us hl => match us, hl with | [_, _], _ => rfl)
  have E19 := df_mk (ps := ["stream", "total"]) X G a19 l19 c19 k19 (fun _ _ _ _ _ _ us hl => match us, hl with | [_, _], _ => rfl)
  have E20 := df_mk (ps := ["stream", "at"]) X G a20 l20 c20 k20 (fun _ _ _ _ _ _ us hl => match us, hl with | [_, _], _ => rfl)
  have E21 := df_mk (ps := ["stream", "names"]) X G a21 l21 c21 k21 (fun _ _ _ _ _ _ us hl => match us, hl with | [_, _], _ => rfl)
  have E22 := df_mk (ps := ["stream"]) X G a22 l22 c22 k22 (fun _ _ _ _ _ _ us hl => match us, hl with | [_], _ => rfl)
  have E23 := df_mk (ps := ["stream", "value", "deep"]) X G a23 l23 c23 k23 (fun _ _ _ _ _ _ us hl => match us, hl with | [_, _, _], _ => rfl)
  have E24 := df_mk (ps := ["stream", "total"]) X G a24 l24 c24 k24 (fun _ _ _ _ _ _ us hl => match us, hl with | [_, _], _ => rfl)
  have E25 := df_mk (ps := ["names", "mask"]) X G a25 l25 c25 k25 (fun _ _ _ _ _ _ us hl => match us, hl with | [_, _], _ => rfl)
  have E26 := df_mk (ps := ["stream", "names"]) X G a26 l26 c26 k26 (fun _ _ _ _ _ _ us hl => match us, hl with | [_, _], _ => rfl)
  have E27 := df_mk (ps := ["stream", "table"]) X G a27 l27 c27 k27 (fun _ _ _ _ _ _ us hl => match us, hl with | [_, _], _ => rfl)
  have E28 := df_mk (ps := ["stream"]) X G a28 l28 c28 k28 (fun _ _ _ _ _ _ us hl => match us, hl with | [_], _ => rfl)
  have E29 := df_mk (ps := ["value"]) X G a29 l29 c29 k29 (fun _ _ _ _ _ _ us hl => match us, hl with | [_], _ => rfl)
  have E30 := df_mk (ps := ["value"]) X G a30 l30 c30 k30 (fun _ _ _ _ _ _ us hl => match us, hl with | [_], _ => rfl)
  have E31 := df_mk (ps := ["call"]) X G a31 l31 c31 k31 (fun _ _ _ _ _ _ us hl => match us, hl with | [_], _ => rfl)
  have E32 := df_mk (ps := ["value"]) X G a32 l32 c32 k32 (fun _ _ _ _ _ _ us hl => match us, hl with | [_], _ => rfl)
  have E33 := df_mk (ps := ["value"]) X G a33 l33 c33 k33 (fun _ _ _ _ _ _ us hl => match us, hl with | [_], _ => rfl)
  have E34 := df_mk (ps := ["stream", "table"]) X G a34 l34 c34 k34 (fun _ _ _ _ _ _ us hl => match us, hl with | [_, _], _ => rfl)
  have B : Bl mg := ⟨PySem.W.mg_none_of X G b0, PySem.W.mg_none_of X G b1, PySem.W.mg_none_of X G b2, PySem.W.mg_none_of X G b3, PySem.W.mg_none_of X G b4, PySem.W.mg_none_of X G b5, PySem.W.mg_none_of X G b6, PySem.W.mg_none_of X G b7, PySem.W.mg_none_of X G b8, PySem.W.mg_none_of X G b9, PySem.W.mg_none_of X G b10, PySem.W.mg_none_of X G b11, PySem.W.mg_none_of X G b12, PySem.W.mg_none_of X G b13, PySem.W.mg_none_of X G b14, PySem.W.mg_none_of X G b15, PySem.W.mg_none_of X G b16, PySem.W.mg_none_of X G b17, PySem.W.mg_none_of X G b18, PySem.W.mg_none_of X G b19, PySem.W.mg_none_of X G b20, PySem.W.mg_none_of X G b21⟩
  have Ck : Cs mg := ⟨⟨_, PySem.W.mg_of X G v0⟩, ⟨_, PySem.W.mg_of X G v1⟩⟩
  have cm : ∃ t, mg "MAX_NAMES" = some (.int 6 t) := ⟨_, PySem.W.mg_of X G v2⟩
  have hs : mg "set" = none := PySem.W.mg_none_of X G bs
  have T : OC K mg "InvalidTable" R := ⟨PySem.W.mg_of X G aR, q1, q2, q3, q4⟩
  have Z : XS K mg S R RI RQ := ⟨PySem.W.mg_of X G aS, PySem.W.mg_of X G aI, PySem.W.mg_of X G aQ, PySem.W.exm_ref s1 s2 s3 e1, ⟨i1, i2, q3, q5, i3, y4, y5, i6⟩, r1, r2⟩
  refine ⟨PySem.W.fnOf "law" "law" (defArgs sLaw) (defBody sLaw) (defScope sLaw) .none kV35 doc35 pm35 an35 cd35 ct35, [(cL0, PL0)], spLaw K PL0, fun p hp => ?_, fun p hp => ?_, fun p hp => ?_, fun s v => .of_eq rfl, fun H a ns hl hP hS => ⟨a, ns, rfl, hS, hl, hP (cL0, PL0) (List.mem_singleton.mpr rfl), fun _ => rfl⟩, fun base _ _ hT => ?_⟩
  · cases List.mem_singleton.mp hp
    exact g05
  · cases List.mem_singleton.mp hp
    exact g04
  · cases List.mem_singleton.mp hp
    exact PySem.W.codeHd_of_K X g03
  have TB0 := hT (cL0, PL0) (List.mem_singleton.mpr rfl)
  have oTB := ok_tupB (P := l.prog) (w := w) (base := base) B E0
  have oAs := ok_asc (P := l.prog) (w := w) (base := base) B E1
  have oAm := ok_am (P := l.prog) (w := w) (base := base) B E2
  have oNm := ok_name (P := l.prog) (w := w) (base := base) B Ck E4
  have oAa := ok_aa (P := l.prog) (w := w) (base := base) (k := 2) E3 E2 E1 oAm (oAs.mono (by decide))
  have oMb := ok_mb (P := l.prog) (w := w) (base := base) B E8
  have oNs := ok_ns (P := l.prog) (w := w) (base := base) (k := 1) B E9 E8 oMb
  have oNo := ok_no (P := l.prog) (w := w) (base := base) B E10
  have oTn := ok_tnD (P := l.prog) (w := w) (base := base) (k := 1) B cm E5 E0 E4 E1 oTB oNm oAs
  have oIt := ok_itD (P := l.prog) (w := w) (base := base) (k := 3) B E6 E0 E5 E9 E3 (oTB.mono (by decide)) (oTn.mono (by decide)) (oNs.mono (by decide)) oAa
  have oCt := ok_ctD (P := l.prog) (w := w) (base := base) (k := 4) T E7 E6 oIt
  have oCo := ok_co (P := l.prog) (w := w) (base := base) (k := 2) E12 E10 oNo
  have oSe := ok_se (P := l.prog) (w := w) (base := base) (k := 5) B E15 E7 E12 oCt (oCo.mono (by decide))
  have oFv := ok_fvB (P := l.prog) (w := w) (base := base) (k := 5) E13 E7 oCt
  have oIv := ok_ivB (P := l.prog) (w := w) (base := base) (k := 5) E14 E7 oCt
  have oAo := ok_aoB (P := l.prog) (w := w) (base := base) (k := 5) E17 E7 oCt
  have oTc := ok_tcB (P := l.prog) (w := w) (base := base) (k := 5) E11 E7 oCt
  have oFo := ok_foB (P := l.prog) (w := w) (base := base) (k := 6) E16 E13 oFv
  have oAr := ok_ar (P := l.prog) (w := w) (base := base) (k := 7) B T Z l32 c32 TB0 E31 l31 c31 E11 (oTc.mono (by decide)) E13 (oFv.mono (by decide)) E14 (oIv.mono (by decide)) E15 (oSe.mono (by decide)) E16 oFo E17 (oAo.mono (by decide))
  have oD := ok_draw (P := l.prog) (w := w) (base := base) B E19
  have oSu := ok_su (P := l.prog) (w := w) (base := base) B E25
  have oVn := ok_vn (P := l.prog) (w := w) (base := base) B E29
  have oVt := ok_vt (P := l.prog) (w := w) (base := base) (k := 1) B hs E30 E29 E25 oVn oSu
  have oRi := ok_ri (P := l.prog) (w := w) (base := base) (k := 10) B E33 E30 E6 E32 E15 (oVt.mono (by decide)) (oIt.mono (by decide)) oAr (oSe.mono (by decide))
  have oDn := ok_dn (P := l.prog) (w := w) (base := base) (k := 2) B E24 E19 E20 (oD.mono (by decide)) (ok_nm B E20 E19)
  have oLt := ok_lt (P := l.prog) (w := w) (base := base) (k := 1) B E21 E19 oD
  have oRt := ok_rt (P := l.prog) (w := w) (base := base) (k := 1) B E26 E19 E25 oD oSu
  have oOc := ok_oc (P := l.prog) (w := w) (base := base) (k := 1) B E27 E19 E25 oD oSu
  have oDt := ok_dt (P := l.prog) (w := w) (base := base) (k := 3) B E28 E19 E24 E26 E21 E27 (oD.mono (by decide)) oDn (oRt.mono (by decide)) (oLt.mono (by decide)) (oOc.mono (by decide))
  have oUn := ok_un (P := l.prog) (w := w) (base := base) (k := 1) B E22 E19 oD
  have oDm := ok_dm (P := l.prog) (w := w) (base := base) B E23 E19 E22 3
  have oCh := ok_ch (P := l.prog) (w := w) (base := base) (k := 6) B E34 E19 E23 (oD.mono (by decide)) oDm
  exact ok_law (P := l.prog) (w := w) (base := base) (k := 11) B cm (fun_mk l35 c35 k35) E18 E28 E6 E33 E22 E34 E23 E25 E15 ((ok_stream B E18).mono (by decide)) (oDt.mono (by decide)) (oIt.mono (by decide)) oRi (oUn.mono (by decide)) (oCh.mono (by decide)) (oDm.mono (by decide)) (oSu.mono (by decide)) (oSe.mono (by decide))
end E1
open PySem PySem.W PyProof.Rows
set_option maxHeartbeats 0 in
theorem PySem.Challenge.cw_spareskept_k31_tables_validated_holds : PySem.Challenge.rw_spareskept_k31_tables_validated.Holds := by
  w_on; o_law; k_head; (case hw => w_witness2)
  k_fill
  refine KX.walkGY (l := PySem.Challenge.rw_spareskept_k31_tables_validated) (n := 63) (k := 12) (x := "script") rfl (by decide) rfl ⟨rfl, by decide, by decide⟩ (fun w h Y => PySem.W.km_in_of Y) ?F
  case F =>
    intro w mg fa h KX G hmg Y
    refine' E1.all_mk KX G hmg ?a0 ?l0 ?c0 ?k0 ?a1 ?l1 ?c1 ?k1 ?a2 ?l2 ?c2 ?k2 ?a3 ?l3 ?c3 ?k3 ?a4 ?l4 ?c4 ?k4 ?a5 ?l5 ?c5 ?k5 ?a6 ?l6 ?c6 ?k6 ?a7 ?l7 ?c7 ?k7 ?a8 ?l8 ?c8 ?k8 ?a9 ?l9 ?c9 ?k9 ?a10 ?l10 ?c10 ?k10 ?a11 ?l11 ?c11 ?k11 ?a12 ?l12 ?c12 ?k12 ?a13 ?l13 ?c13 ?k13 ?a14 ?l14 ?c14 ?k14 ?a15 ?l15 ?c15 ?k15 ?a16 ?l16 ?c16 ?k16 ?a17 ?l17 ?c17 ?k17 ?a18 ?l18 ?c18 ?k18 ?a19 ?l19 ?c19 ?k19 ?a20 ?l20 ?c20 ?k20 ?a21 ?l21 ?c21 ?k21 ?a22 ?l22 ?c22 ?k22 ?a23 ?l23 ?c23 ?k23 ?a24 ?l24 ?c24 ?k24 ?a25 ?l25 ?c25 ?k25 ?a26 ?l26 ?c26 ?k26 ?a27 ?l27 ?c27 ?k27 ?a28 ?l28 ?c28 ?k28 ?a29 ?l29 ?c29 ?k29 ?a30 ?l30 ?c30 ?k30 ?a31 ?l31 ?c31 ?k31 ?a32 ?l32 ?c32 ?k32 ?a33 ?l33 ?c33 ?k33 ?a34 ?l34 ?c34 ?k34 ?a35 ?l35 ?c35 ?k35 ?b0 ?b1 ?b2 ?b3 ?b4 ?b5 ?b6 ?b7 ?b8 ?b9 ?b10 ?b11 ?b12 ?b13 ?b14 ?b15 ?b16 ?b17 ?b18 ?b19 ?b20 ?b21 ?v0 ?v1 ?v2 ?aS ?s1 ?s2 ?s3 ?aI ?aQ ?aR ?q1 ?q2 ?q3 ?q4 ?q5 ?i1 ?i2 ?i3 ?i6 ?y4 ?y5 ?e1 ?r1 ?r2 ?bs ?g01 ?g02 ?g03 ?g04 ?g05
    (case a0 => k_is); (case l0 => k_is); (case c0 => k_is); (case k0 => k_is)
    (case a1 => k_is); (case l1 => k_is); (case c1 => k_is); (case k1 => k_is)
    (case a2 => k_is); (case l2 => k_is); (case c2 => k_is); (case k2 => k_is)
    (case a3 => k_is); (case l3 => k_is); (case c3 => k_is); (case k3 => k_is)
    (case a4 => k_is); (case l4 => k_is); (case c4 => k_is); (case k4 => k_is)
    (case a5 => k_is); (case l5 => k_is); (case c5 => k_is); (case k5 => k_is)
    (case a6 => k_is); (case l6 => k_is); (case c6 => k_is); (case k6 => k_is)
    (case a7 => k_is); (case l7 => k_is); (case c7 => k_is); (case k7 => k_is)
    (case a8 => k_is); (case l8 => k_is); (case c8 => k_is); (case k8 => k_is)
    (case a9 => k_is); (case l9 => k_is); (case c9 => k_is); (case k9 => k_is)
    (case a10 => k_is); (case l10 => k_is); (case c10 => k_is); (case k10 => k_is)
    (case a11 => k_is); (case l11 => k_is); (case c11 => k_is); (case k11 => k_is)
    (case a12 => k_is); (case l12 => k_is); (case c12 => k_is); (case k12 => k_is)
    (case a13 => k_is); (case l13 => k_is); (case c13 => k_is); (case k13 => k_is)
    (case a14 => k_is); (case l14 => k_is); (case c14 => k_is); (case k14 => k_is)
    (case a15 => k_is); (case l15 => k_is); (case c15 => k_is); (case k15 => k_is)
    (case a16 => k_is); (case l16 => k_is); (case c16 => k_is); (case k16 => k_is)
    (case a17 => k_is); (case l17 => k_is); (case c17 => k_is); (case k17 => k_is)
    (case a18 => k_is); (case l18 => k_is); (case c18 => k_is); (case k18 => k_is)
    (case a19 => k_is); (case l19 => k_is); (case c19 => k_is); (case k19 => k_is)
    (case a20 => k_is); (case l20 => k_is); (case c20 => k_is); (case k20 => k_is)
    (case a21 => k_is); (case l21 => k_is); (case c21 => k_is); (case k21 => k_is)
    (case a22 => k_is); (case l22 => k_is); (case c22 => k_is); (case k22 => k_is)
    (case a23 => k_is); (case l23 => k_is); (case c23 => k_is); (case k23 => k_is)
    (case a24 => k_is); (case l24 => k_is); (case c24 => k_is); (case k24 => k_is)
    (case a25 => k_is); (case l25 => k_is); (case c25 => k_is); (case k25 => k_is)
    (case a26 => k_is); (case l26 => k_is); (case c26 => k_is); (case k26 => k_is)
    (case a27 => k_is); (case l27 => k_is); (case c27 => k_is); (case k27 => k_is)
    (case a28 => k_is); (case l28 => k_is); (case c28 => k_is); (case k28 => k_is)
    (case a29 => k_is); (case l29 => k_is); (case c29 => k_is); (case k29 => k_is)
    (case a30 => k_is); (case l30 => k_is); (case c30 => k_is); (case k30 => k_is)
    (case a31 => k_is); (case l31 => k_is); (case c31 => k_is); (case k31 => k_is)
    (case a32 => k_is); (case l32 => k_is); (case c32 => k_is); (case k32 => k_is)
    (case a33 => k_is); (case l33 => k_is); (case c33 => k_is); (case k33 => k_is)
    (case a34 => k_is); (case l34 => k_is); (case c34 => k_is); (case k34 => k_is)
    (case a35 => k_is); (case l35 => k_is); (case c35 => k_is); (case k35 => k_is)
    (case b0 => k_is); (case b1 => k_is); (case b2 => k_is); (case b3 => k_is); (case b4 => k_is); (case b5 => k_is); (case b6 => k_is); (case b7 => k_is); (case b8 => k_is); (case b9 => k_is); (case b10 => k_is); (case b11 => k_is); (case b12 => k_is); (case b13 => k_is); (case b14 => k_is); (case b15 => k_is); (case b16 => k_is); (case b17 => k_is); (case b18 => k_is); (case b19 => k_is); (case b20 => k_is); (case b21 => k_is)
    (case v0 => k_is); (case v1 => k_is); (case v2 => k_is)
    (case aS => first | k_is | rfl | k_exc)
    (case aR => first | k_is | rfl | k_exc)
    (case aI => first | k_is | rfl | k_exc)
    (case aQ => first | k_is | rfl | k_exc)
    (case g01 => first | k_is | rfl | k_exc)
    (case g02 => first | k_is | rfl | k_exc)
    (case s1 => first | k_is | rfl | k_exc)
    (case s2 => first | k_is | rfl | k_exc)
    (case s3 => first | k_is | rfl | k_exc)
    (case q1 => first | k_is | rfl | k_exc)
    (case q2 => first | k_is | rfl | k_exc)
    (case q3 => first | k_is | rfl | k_exc)
    (case q4 => first | k_is | rfl | k_exc)
    (case q5 => first | k_is | rfl | k_exc)
    (case i1 => first | k_is | rfl | k_exc)
    (case i2 => first | k_is | rfl | k_exc)
    (case i3 => first | k_is | rfl | k_exc)
    (case i6 => first | k_is | rfl | k_exc)
    (case y4 => first | k_is | rfl | k_exc)
    (case y5 => first | k_is | rfl | k_exc)
    (case e1 => first | k_is | rfl | k_exc)
    (case r1 => first | k_is | rfl | k_exc)
    (case r2 => first | k_is | rfl | k_exc)
    (case bs => first | k_is | rfl | k_exc)
    (case g03 => first | k_is | rfl | k_exc)
    (case g04 => first | k_is | rfl | k_exc)
    (case g05 => exact PySem.W.km_tabs_of Y _ (by first | k_mem | simp))
