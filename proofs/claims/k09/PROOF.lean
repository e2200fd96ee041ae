import PyProof.Rows.All
import Wide.All
import OpenK.AllK
import Wide.FinOn
import HandS.ForMost
import HandS.Wide
import HandS.TupAny
import HandS.TupMul
import HandS.IsInst
import HandS.Style
import PyProof.ReprRoads
import KE.DataEq
import HandS.Walk
import PyProof.StrLawsRepr
import PyProof.FitsInt
import KE.SortData
import KE.KExcInit
import KE.KExcIs
import KE.KIsAll
import HandS.ExcInit
import HandS.ExcField
import HandS.TryOnly
import HandS.Strs
import HandS.SetBool
import HandS.Conv
import HandS.Dict
import HandS.SetFor
import HandS.Zip
import KE.GoesZip
import KE.GoesMore
import KE.KEqDict
import KE.DataCmp
import HandS.Lambda
import HandS.Nested
import HandS.EndTab
import HandS.EndOwn
import HandS.ForExc
import PyProof.Rows.ReprOcc
import HandS.ExcIs
import HandS.TupLe
import KE.KNestM
import PySem.Challenge.RW_spareskept_k09_is_condition
set_option Elab.async false
set_option linter.all false
set_option maxRecDepth 100000
set_option maxHeartbeats 2000000
namespace KX
open PySem PySem.Spec PyProof.Rows L2

/-! ### data: what a value holds, through the tracked heap -/
mutual
inductive Dx (H : Hp) : V → PyData → Prop
  | non : Dx H .non .none
  | bl (b : Bool) : Dx H (.bl b) (.bool b)
  | int (i : Int) : Dx H (.int i) (.int i)
  | str (x : Str) : Dx H (.str x) (.str x)
  | lst {a : Addr} {xs : List V} {ds : List PyData} (e : H a = some (.lst xs)) (n : a ≠ sysModules) (h : Dxs H xs ds) : Dx H (.ref a) (.list ds)
  | tup {a : Addr} {xs : List V} {ds : List PyData} (e : H a = some (.tup xs)) (h : Dxs H xs ds) : Dx H (.ref a) (.tuple ds)
  | dic {a : Addr} (e : H a = some (.dK [])) : Dx H (.ref a) (.dict [])
  | dic1 {a : Addr} {x : Str} {i : Int} (e : H a = some (.dK [(.inr x, .int i)])) : Dx H (.ref a) (.dict [(.str x, .int i)])
inductive Dxs (H : Hp) : List V → List PyData → Prop
  | nil : Dxs H [] []
  | cons {v : V} {vs : List V} {d : PyData} {ds : List PyData} (h : Dx H v d) (t : Dxs H vs ds) : Dxs H (v :: vs) (d :: ds)
end

mutual
theorem Dx.mono {H H' : Hp} (s : Same H H') : ∀ (d : PyData) (v : V), Dx H v d → Dx H' v d
  | .none, _, h => by cases h; exact .non
  | .bool b, _, h => by cases h; exact .bl b
  | .int i, _, h => by cases h; exact .int i
  | .str x, _, h => by cases h; exact .str x
  | .list ds, _, h => by
    cases h with
    | lst e n h => exact .lst (s _ _ e) n (Dxs.mono s ds _ h)
  | .tuple ds, _, h => by
    cases h with
    | tup e h => exact .tup (s _ _ e) (Dxs.mono s ds _ h)
  | .dict ks, _, h => by
    cases h with
    | dic e => exact .dic (s _ _ e)
    | dic1 e => exact .dic1 (s _ _ e)
theorem Dxs.mono {H H' : Hp} (s : Same H H') : ∀ (ds : List PyData) (vs : List V), Dxs H vs ds → Dxs H' vs ds
  | [], _, h => by cases h; exact .nil
  | d :: ds, _, h => by
    cases h with
    | cons h t => exact .cons (Dx.mono s d _ h) (Dxs.mono s ds _ t)
end
theorem Dx.up {H H' : Hp} {v : V} {d : PyData} (h : Dx H v d) (s : Same H H') : Dx H' v d := Dx.mono s d v h
theorem Dxs.up {H H' : Hp} {v : List V} {d : List PyData} (h : Dxs H v d) (s : Same H H') : Dxs H' v d := Dxs.mono s d v h
theorem Dxs.len {H : Hp} : ∀ {vs : List V} {ds : List PyData}, Dxs H vs ds → vs.length = ds.length
  | _, _, .nil => rfl
  | _, _, .cons _ t => by simp [Dxs.len t]
theorem Dxs.get {H : Hp} : ∀ {vs : List V} {ds : List PyData} {i : Nat} {d : PyData}, Dxs H vs ds → ds[i]? = some d → ∃ v, vs[i]? = some v ∧ Dx H v d
  | _, _, i, d, .nil, e => by simp at e
  | _, _, 0, d, .cons h _, e => by simp at e; subst e; exact ⟨_, rfl, h⟩
  | _, _, i + 1, d, .cons _ t, e => by
    obtain ⟨v, e1, h⟩ := Dxs.get (i := i) t (by simpa using e)
    exact ⟨v, by simpa using e1, h⟩
theorem Dxs.get' {H : Hp} : ∀ {vs : List V} {ds : List PyData} {i : Nat} {v : V}, Dxs H vs ds → vs[i]? = some v → ∃ d, ds[i]? = some d ∧ Dx H v d
  | _, _, i, d, .nil, e => by simp at e
  | _, _, 0, d, .cons h _, e => by simp at e; subst e; exact ⟨_, rfl, h⟩
  | _, _, i + 1, d, .cons _ t, e => by
    obtain ⟨v, e1, h⟩ := Dxs.get' (i := i) t (by simpa using e)
    exact ⟨v, by simpa using e1, h⟩
theorem Dxs.app {H : Hp} : ∀ {vs : List V} {ds : List PyData} {ws : List V} {es : List PyData}, Dxs H vs ds → Dxs H ws es → Dxs H (vs ++ ws) (ds ++ es)
  | _, _, _, _, .nil, h => h
  | _, _, _, _, .cons h t, k => .cons h (Dxs.app t k)
theorem Dxs.take {H : Hp} : ∀ {vs : List V} {ds : List PyData} (n : Nat), Dxs H vs ds → Dxs H (vs.take n) (ds.take n)
  | _, _, 0, _ => .nil
  | _, _, _ + 1, .nil => .nil
  | _, _, n + 1, .cons h t => .cons h (Dxs.take n t)
theorem Dxs.drop {H : Hp} : ∀ {vs : List V} {ds : List PyData} (n : Nat), Dxs H vs ds → Dxs H (vs.drop n) (ds.drop n)
  | _, _, 0, h => h
  | _, _, _ + 1, .nil => .nil
  | _, _, n + 1, .cons _ t => Dxs.drop n t
theorem Dxs.rev {H : Hp} : ∀ {vs : List V} {ds : List PyData}, Dxs H vs ds → Dxs H vs.reverse ds.reverse
  | _, _, .nil => .nil
  | _, _, .cons h t => by
    rw [List.reverse_cons, List.reverse_cons]
    exact (Dxs.rev t).app (.cons h .nil)

section
variable {X : Cx} {pins : List (Addr × Obj)} {σ : L2.St} {H : Hp} {s : Shared}
mutual
theorem Dx.reads (I : Inv X pins σ H s) : ∀ (d : PyData) (v : V) (u : Value), Dx H v d → RelV v u → ∃ as, Reads s.heap u d as ∧ sysModules ∉ as
  | .none, _, _, h, r => by
    cases h
    cases r
    exact ⟨_, Reads.none, by simp⟩
  | .bool b, _, _, h, r => by
    cases h
    cases r
    exact ⟨_, Reads.bool b, by simp⟩
  | .int i, _, _, h, r => by
    cases h
    obtain ⟨t, rfl⟩ := r
    exact ⟨_, Reads.int i t, by simp⟩
  | .str x, _, _, h, r => by
    cases h
    obtain ⟨t, rfl⟩ := r
    exact ⟨_, Reads.str x t, by simp⟩
  | .list ds, _, _, h, r => by
    cases h with
    | @lst a xs _ e ne h =>
      cases r
      have hs : SqL X.K H a xs := .inl (.inl e)
      obtain ⟨its, rv, ⟨o, n, ho, hc, _, hd⟩, _⟩ := I.list hs
      obtain ⟨as, hr, hn⟩ := Dxs.reads I ds _ its h rv
      refine ⟨_, Reads.list ho hc hd hr, fun z => ?_⟩
      rcases List.mem_cons.mp z with z | z
      · exact ne z.symm
      · exact hn z
  | .tuple ds, _, _, h, r => by
    cases h with
    | @tup a xs _ e h =>
      cases r
      have hs : SqT X.K H a xs := .inl (.inl e)
      obtain ⟨its, rv, ⟨o, ho, hc, n, hd⟩, _⟩ := I.tuple hs
      obtain ⟨as, hr, hn⟩ := Dxs.reads I ds _ its h rv
      exact ⟨_, Reads.tuple ho hc hd hr, hn⟩
  | .dict ks, _, _, h, r => by
    cases h with
    | @dic a e =>
      cases r
      obtain ⟨z, y, vs, r, o, es, ep, e1, ex, ed, hm⟩ := (show ObjOk X.prog X.w H s.heap a (.dK []) from I.hok a _ e)
      cases r
      have hes : es = #[] := by
        obtain ⟨es⟩ := es
        have hl := hm.2.1.length
        cases es with
        | nil => rfl
        | cons x l => simp at hl
      subst hes
      refine ⟨_, Reads.dict (kvs := []) e1 ex.1 ed .nil .nil, fun z => ?_⟩
      have z : sysModules = a := by simpa using z
      rw [z] at y
      simp at y
    | @dic1 a x i e =>
      cases r
      obtain ⟨z, y, vs, r, o, es, ep, e1, ex, ed, hm⟩ := (show ObjOk X.prog X.w H s.heap a (.dK [(.inr x, .int i)]) from I.hok a _ e)
      obtain ⟨es⟩ := es
      obtain ⟨_, hp, _⟩ := hm
      match vs, r, hp with
      | [(k, u)], .cons ⟨hk, tk, hu⟩ .nil, hp =>
        dsimp only at hk hu
        subst hk hu
        match es, hp, ed with
        | [en], .cons a1 a2 .nil, ed =>
          have a1' : keyIs (Sum.inr x) en.key = true := a1
          obtain ⟨q, t, hq1, hq2⟩ := (keyIs_shape a1').resolve_left (fun z => by obtain ⟨_, _, z, _⟩ := z; cases z)
          cases hq1
          refine ⟨_, Reads.dict (kvs := [(.str x, .int i)]) (as := []) (bs := []) e1 ex.1 ed ?_ ?_, fun z => ?_⟩
          · show ReadsAll s.heap [en.key] [PyData.str x] _
            rw [hq2]
            exact ReadsAll.cons (as := []) (bs := []) (.str x t) .nil
          · show ReadsAll s.heap [en.val] [PyData.int i] _
            rw [a2]
            exact ReadsAll.cons (as := []) (bs := []) (.int i tk) .nil
          · have z : sysModules = a := by simpa using z
            rw [z] at y
            simp at y
theorem Dxs.reads (I : Inv X pins σ H s) : ∀ (ds : List PyData) (vs : List V) (us : List Value), Dxs H vs ds → Vals vs us → ∃ as, ReadsAll s.heap us ds as ∧ sysModules ∉ as
  | [], _, _, h, r => by
    cases h
    cases r
    exact ⟨_, ReadsAll.nil, by simp⟩
  | d :: ds, _, _, h, r => by
    cases h with
    | cons h1 h2 =>
      cases r with
      | cons r1 r2 =>
        obtain ⟨as, q1, n1⟩ := Dx.reads I d _ _ h1 r1
        obtain ⟨bs, q2, n2⟩ := Dxs.reads I ds _ _ h2 r2
        exact ⟨_, ReadsAll.cons q1 q2, by simp [n1, n2]⟩
end
/-- a new address is none of the first ones -/
theorem new_big (I : Inv X pins σ H s) {p : Addr} (h : s.heap.objs.size ≤ p) : p ≠ sysModules := by
  intro z
  have h1 : mainGlobals < X.base.objs.size := I.ok.mod.glob.lt
  have h2 := I.ok.bsz
  have h3 := I.sz
  have h4 : sysModules < mainGlobals := by decide
  rw [z] at h
  exact absurd (Nat.lt_of_lt_of_le h4 (Nat.le_trans (Nat.le_of_lt h1) (Nat.le_trans h2 (Nat.le_trans h3 h)))) (Nat.lt_irrefl _)
end

section
variable {X : Cx}
/-- a list that is written, its address none of the first -/
def tLstS (t : TA) : TE := fun σ H Q => t σ H fun xs H1 => xs.length ≤ sizeLine ∧ ∀ p, H1 p = none → p ≠ sysModules → Q (.ref p) (upd H1 p (.lst xs))
theorem pe_lstS {es : List Expr} {t : TA} {pos : Pos} (ha : PA X es t) : PE X (.List es pos) (tLstS t) := by
  constructor
  intro pins s σ H Q I hq
  refine wpAny_List_spliced (thn (ha.run pos pins s σ H _ I hq) fun us s1 hh => ?_)
  obtain ⟨xs, H1, I1, r, z, q⟩ := hh
  have nf : H1 s1.heap.objs.size = none := I1.hok.fresh (Nat.le_refl _)
  refine ⟨by rw [← r.length]; exact z, .ref s1.heap.objs.size, upd H1 s1.heap.objs.size (.lst xs), ?_, rfl, q _ nf (new_big I1 (Nat.le_refl _))⟩
  exact I1.laid (t' := s1.toks) (fun b u e => Heap.get?_push_of_some _ e) (Nat.le_refl _) ⟨z, us, 0, r, Heap.get?_push_size _ rfl⟩
/-- list(t), t a tuple or a list of data -/
theorem call_listS : CallR X (.type "list") (fun xs H Q => ∃ p ys, xs = [.ref p] ∧ (SqL X.K H p ys ∨ SqT X.K H p ys) ∧ ∀ l, H l = none → l ≠ sysModules → Q (.ref l) (upd H l (.lst ys))) := by
  intro pins s σ H xs us Q I r h
  obtain ⟨p, ys, e, hq, q⟩ := h
  subst e
  obtain ⟨u, rfl, rx⟩ := vals1 r
  cases rx
  have nf : H s.heap.objs.size = none := I.hok.fresh (Nat.le_refl _)
  have fin : ∀ (its : List Value), Vals ys its → ys.length ≤ sizeLine → ∀ (g : Heap) (c : Nat), (∀ b o', s.heap.get? b = some o' → g.get? b = some o') →
      g.get? s.heap.objs.size = some { cls := .type "list", dict := none, data := .seq its.toArray c, slots := #[] } → EP X pins σ Q (.ref s.heap.objs.size) { s with heap := g } := by
    intro its rv hz g c kp e
    refine ⟨.ref s.heap.objs.size, _, I.laid (t' := s.toks) kp (Nat.le_refl _) (o := .lst ys) ⟨hz, its, c, rv, e⟩, rfl, q _ nf (new_big I (Nat.le_refl _))⟩
  rcases hq with hq | hq
  · obtain ⟨its, rv, pl, hz⟩ := I.list hq
    have hlen := rv.length
    obtain ⟨o, ho, hc, n, hd⟩ := pl.isList
    exact call_list_seq p (.inl rfl) ho hc hd (fun g c kp e => fin its rv hz g c kp e) (by simp only [List.size_toArray] <;> omega)
  · obtain ⟨its, rv, pl, hz⟩ := I.tuple hq
    have hlen := rv.length
    obtain ⟨o, ho, hc, n, hd⟩ := pl
    exact call_list_seq p (.inr rfl) ho hc hd (fun g c kp e => fin its rv hz g c kp e) (by simp only [List.size_toArray] <;> omega)
/-- repr(x), x data -/
def rReprD : List V → Hp → VK → Prop := fun xs H Q => ∃ x d, xs = [x] ∧ Dx H x d ∧ d.showable = true ∧ d.depth ≤ 100 ∧ d.shown.length ≤ sizeLine ∧ Q (.str d.shown) H
theorem call_reprD {k : Nat} (hr : Room k X.A) (hg : X.A.guards = some []) : CallR X (.builtin "repr") rReprD := by
  intro pins s σ H xs us Q I r h
  obtain ⟨x, d, e, hd, hs, hdp, hz, q⟩ := h
  subst e
  obtain ⟨u, rfl, rx⟩ := vals1 r
  obtain ⟨as, hrd, hn⟩ := Dx.reads I d x u hd rx
  have hu := hr.un
  have fin : ∀ h' u' tk, (∀ b o, s.heap.get? b = some o → h'.get? b = some o) → EP X pins σ Q (.str d.shown u') { s with heap := h', toks := tk } := fun h' u' tk hk =>
    ⟨.str d.shown, H, I.kept (t' := tk) hk, ⟨_, rfl⟩, q⟩
  cases hd with
  | non =>
    cases (show u = Value.none from rx)
    simp only [PyData.shown] at fin
    exact PySem.P.repr_of_none (fin _ _ _ fun _ _ e => e)
  | bl b =>
    cases (show u = Value.bool b from rx)
    simp only [PyData.shown] at fin
    exact PySem.P.repr_of_bool (fin _ _ _ fun _ _ e => e)
  | int i =>
    obtain ⟨t, z⟩ := (show ∃ t, u = Value.int i t from rx)
    cases z
    simp only [PyData.shown] at fin
    exact PySem.P.repr_of_int (by simpa [PyData.showable] using hs) (fin _ _ _ fun _ _ e => e)
  | str y =>
    obtain ⟨t, z⟩ := (show ∃ t, u = Value.str y t from rx)
    cases z
    simp only [PyData.shown] at fin hz
    exact PySem.P.repr_of_str (fin _ _ _ fun _ _ e => e) hz
  | lst e n h =>
    cases (show u = Value.ref _ from rx)
    exact repr_of_reads' hrd hs (fun _ => hn) hg (by omega) (fun _ _ e => e) fin hz
  | tup e h =>
    cases (show u = Value.ref _ from rx)
    exact repr_of_reads' hrd hs (fun _ => hn) hg (by omega) (fun _ _ e => e) fin hz
  | dic e =>
    cases (show u = Value.ref _ from rx)
    exact repr_of_reads' hrd hs (fun _ => hn) hg (by omega) (fun _ _ e => e) fin hz
  | dic1 e =>
    cases (show u = Value.ref _ from rx)
    exact repr_of_reads' hrd hs (fun _ => hn) hg (by omega) (fun _ _ e => e) fin hz
end
end KX

set_option maxRecDepth 100000
set_option maxHeartbeats 4000000
namespace KX
open PySem PySem.Spec PyProof.Rows L2 HT
section
variable {prog : Program} {w : World} {A : Around} {E : Value → Shared → Prop} {s : Shared}
theorem rev_adjust (n : Nat) : Builtin.Slice.sliceAdjust none none (-1) (n : Int) = ((n : Int) - 1, -1) := by
  unfold Builtin.Slice.sliceAdjust
  simp
theorem rev_places (n : Nat) : Builtin.Slice.slicePlaces ((n : Int) - 1) (-1) (-1) = n := by
  unfold Builtin.Slice.slicePlaces
  rw [if_neg (by decide)]
  by_cases h : (n : Int) - 1 > -1
  · rw [if_pos h]
    have : ((n : Int) - 1 - -1 - 1) / (- -1) + 1 = (n : Int) := by
      rw [show (- -1 : Int) = 1 by decide, Int.ediv_one]
      omega
    rw [this, Int.toNat_natCast]
  · rw [if_neg h]
    have : n = 0 := by omega
    subst this
    rfl
theorem rev_pick (xs : Array Value) : ((List.range xs.size).filterMap fun (k : Nat) => xs[(((xs.size : Nat) : Int) - 1 + (k : Int) * (-1)).toNat]?).toArray = xs.toList.reverse.toArray := by
  have e : (fun (k : Nat) => xs[(((xs.size : Nat) : Int) - 1 + (k : Int) * (-1)).toNat]?) = fun (k : Nat) => xs[xs.size - 1 - k]? := by
    funext k
    have : (((xs.size : Nat) : Int) - 1 + (k : Int) * (-1)).toNat = xs.size - 1 - k := by omega
    rw [this]
  rw [e]
  have e2 : (fun (k : Nat) => xs[xs.size - 1 - k]?) = (fun i => xs[i]?) ∘ fun k => xs.size - 1 - k := rfl
  rw [e2, ← List.filterMap_map, PySem.W.krv_range, List.filterMap_reverse, PySem.W.krv_all]
theorem applied_rev {sl : Addr} {vs : Value} {n : Nat} {Q : Int × Int × Nat → Shared → Prop} (hs : s.heap.IsSliceOf sl .none .none vs) (ps : IsPart vs (some (-1)))
    (h : Q ((n : Int) - 1, -1, n) s) : wpAny (model prog w) A (Builtin.Slice.sliceApplied (.ref sl) (pure (n : Int))) Q E s := by
  obtain ⟨os, hos, hcs, hds⟩ := id hs
  unfold Builtin.Slice.sliceApplied Builtin.Slice.sliceFields
  refine wpAny_bind (wpAny_bind (wpAny_field hos hds (x := .none) rfl (wpAny_bind (wpAny_field hos hds (x := .none) rfl (wpAny_bind (wpAny_field hos hds (x := vs) rfl (wpAny_pure ?_)))))))
  refine wpAny_bind (slicePart_ ps ?_)
  show wpAny _ _ (if ((-1 : Int) == 0) = true then _ else _) _ _ s
  rw [if_neg (by decide)]
  refine wpAny_bind (slicePart_none (wpAny_bind (slicePart_none (wpAny_bind (wpAny_pure ?_)))))
  show wpAny _ _ (match Builtin.Slice.sliceAdjust none none (-1) (n : Int) with | (lo, hi) => pure (lo, (-1 : Int), Builtin.Slice.slicePlaces lo hi (-1))) _ _ s
  rw [rev_adjust n]
  show wpAny _ _ (pure ((n : Int) - 1, (-1 : Int), Builtin.Slice.slicePlaces ((n : Int) - 1) (-1) (-1))) _ _ s
  rw [rev_places]
  exact wpAny_pure h
theorem getItem_tuple_rev {t sl : Addr} {items : Array Value} {vs : Value} {Q : Value → Shared → Prop} (ht : IsTup s.heap t items) (hs : s.heap.IsSliceOf sl .none .none vs) (ps : IsPart vs (some (-1)))
    (h : Q (.ref s.heap.objs.size) { s with heap := s.heap.push { cls := .type "tuple", data := .seq items.toList.reverse.toArray } })
    (hsz : items.size ≤ sizeLine) : wpAny (model prog w) A (getItem (.ref t) (.ref sl)) Q E s := by
  have htk : sizeOk (.seq items.toList.reverse.toArray) := by
    show items.toList.reverse.toArray.size ≤ sizeLine
    rw [List.size_toArray, List.length_reverse, Array.length_toList]
    exact hsz
  obtain ⟨os, hos, hcs, hds⟩ := id hs
  have hTs : s.TypeIs (.ref sl) "slice" := ⟨os, hos, hcs⟩
  unfold getItem
  try with_reducible refine wpAny_holding ?_
  first | refine wpAny_bind (wpAny_pure ?_) | skip
  refine wpAny_bind (wpAny_sequenceKey ht.typeIs (by decide) ?_)
  refine wpAny_bind (wpAny_callSpecial?_slot (name := Str.ofString "__getitem__") ht.typeIs PyProof.Rows.slot_tuple_getitem
    (wpAny_call_entry PyProof.Rows.slot_tuple_getitem ht.typeIs entry_tuple_getitem ?_ (args_tuple_getitem _ _)))
  show wpAny _ _ (Builtin.Tuple.tupleItemsOf (.ref t) >>= _) _ _ s
  refine wpAny_bind (tupleItemsOf_ ht ?_)
  refine wpAny_bind (wpAny_typeOf hTs ?_)
  rw [if_pos (by decide)]
  refine wpAny_bind (applied_rev hs ps ?_)
  have hno : ¬ ((((items.size : Nat) : Int) - 1 == 0 && (-1 : Int) == 1 && items.size == items.size) = true) := by
    intro q
    rw [Bool.and_eq_true, Bool.and_eq_true] at q
    exact absurd q.1.2 (by decide)
  show wpAny _ _ (if (((items.size : Nat) : Int) - 1 == 0 && (-1 : Int) == 1 && items.size == items.size) = true then _ else _) _ _ s
  rw [if_neg hno, rev_pick]
  first
    | exact wpAny_bind (m := Builtin.Tuple.tupleExact _) (wpAny_newObj_type (wpAny_pure ⟨_, rfl, wpAny_pure h⟩) htk)
    | exact wpAny_bind (m := Builtin.Tuple.tupleExact _) (wpAny_newObj_type (wpAny_bind (wpAny_pure (wpAny_pure ⟨_, rfl, wpAny_pure h⟩))) htk)
    | exact wpAny_bind (wpAny_bind (m := Builtin.Tuple.tupleExact _) (wpAny_newObj_type (wpAny_pure (wpAny_pure ⟨_, rfl, wpAny_pure h⟩)) htk))
    | exact wpAny_bind (wpAny_bind (m := Builtin.Tuple.tupleExact _) (wpAny_newObj_type (wpAny_pure ⟨_, rfl, wpAny_pure h⟩) htk))
end
section
variable {X : Cx}
/-- t[::-1], t a tuple: a new tuple -/
def tRevT (K : PySem.W.Frag) (te : TE) : TE := fun σ H Q => te σ H fun x H1 => ∃ a xs, x = .ref a ∧ SqT K H1 a xs ∧ ∀ p, H1 p = none → Q (.ref p) (upd H1 p (.tup xs.reverse))
theorem pe_revT {e : Expr} {te : TE} {k : Nat} {p1 p2 p3 pos : Pos} (he : PE X e te) : PE X (.Subscript e (.Slice none none (some (.UnaryOp .USub (.Constant (.int 1) k p1) p2)) p3) pos) (tRevT X.K te) := by
  constructor
  intro pins s σ H Q I h
  refine Subscript_ (thn (he.run pins s σ H _ I h) fun v s1 hh => ?_)
  obtain ⟨x, H1, I1, r1, a, xs, ex, hx, q⟩ := hh
  subst ex
  cases r1
  have hst : PO X (some (.UnaryOp .USub (.Constant (.int 1) k p1) p2)) (tPart (tUn (rU fun i => .int (-i)) (tC (.int 1)))) := po_some (pe_un un_neg pe_int)
  refine wpAny_Slice (thn (po_none.run pins s1 σ H1 (fun o H2 => o = none ∧ H2 = H1) I1 ⟨rfl, rfl⟩) fun vl s2 hh2 => ?_)
  obtain ⟨l, H2, I2, pl, el, e2⟩ := hh2
  subst el e2
  refine thn (po_none.run pins s2 σ H2 (fun o H3 => o = none ∧ H3 = H2) I2 ⟨rfl, rfl⟩) fun vu s3 hh3 => ?_
  obtain ⟨u, H3, I3, pu, eu, e3⟩ := hh3
  subst eu e3
  refine thn (hst.run pins s3 σ H3 (fun o H4 => o = some (-1) ∧ H4 = H3) I3 ⟨1, rfl, -1, rfl, rfl, rfl⟩) fun vs s4 hh4 => ?_
  obtain ⟨o, H4, I4, ps, eo, e4⟩ := hh4
  subst eo e4
  cases pl
  cases pu
  have I5 : Inv X pins σ H4 { s4 with heap := s4.heap.push { cls := .type "slice", data := .fields #[.none, .none, vs] } } := I4.kept (t' := s4.toks) fun b ob q => Heap.get?_push_of_some _ q
  obtain ⟨its, r, ht, hz⟩ := I5.tuple hx
  have hlen := r.length
  show wpAny (model X.prog X.w) X.A (subscriptTail e (.Slice none none (some (.UnaryOp .USub (.Constant (.int 1) k p1) p2)) p3) (.ref a) (.ref s4.heap.objs.size)) (EP X pins σ Q) X.xe { s4 with heap := s4.heap.push { cls := .type "slice", data := .fields #[.none, .none, vs] } }
  refine tail_any (ops := [.ref a, .ref s4.heap.objs.size]) ht.typeIs (PyProof.Rows.slot_tuple_getitem.lookup) ?_ (by with_unfolding_all rfl)
  refine getItem_tuple_rev ht (Heap.IsSliceOf.new _ .none .none vs) ps ?_ (by rw [List.size_toArray]; omega)
  refine ⟨.ref _, _, I5.laid (t' := s4.toks) (o := .tup xs.reverse) (fun b ob q => Heap.get?_push_of_some _ q) (Nat.le_refl _) ?_, rfl, q _ (I5.hok.fresh (Nat.le_refl _))⟩
  exact ⟨by rw [List.length_reverse]; exact hz, _, r.reverse, IsTup.new _ _⟩
/-- a power, great -/
theorem op_powW : OpR X (binaryOp .Pow) (rI (fun i j => 0 ≤ j ∧ (Builtin.Int.intBits i : Int) * j ≤ 2 ^ 27) fun i j => .int (i ^ j.toNat)) := opI fun _ _ _ _ _ _ _ hc q => pow_int hc.1 hc.2 q
end
end KX

set_option maxRecDepth 100000
set_option maxHeartbeats 4000000
namespace KX
open PySem PySem.Spec PyProof.Rows L2
/-! ### a def that shows data (repr): its promise where no repr runs around it -/
structure FnG (P : Program) (w : World) (K : PySem.W.Frag) (mg : Str → Option Value) (base : Heap) (CX : CXT) (k : Nat) (f : Addr) (fd : FuncData) (ps : List Str) (sp : Sp) : Prop where
  len : ∀ vs H Q E, sp vs H Q E → vs.length = ps.length
  run : ∀ (B : Around) (outs : List Env) (t : Shared) (H : Hp) (given : Args) (us : List Value) (vs : List V) (Q : VK) (E : XK), B.guards = some [] → Room k B → Env0 P w K mg base B outs t H →
    BindsTo t fd given (ps.zip us) → Vals vs us → sp vs H Q E → codeAny (model P w) B (.call (.ref f) given) (CR CX outs P w H t Q E) t
theorem FnG.mono {P : Program} {w : World} {K : PySem.W.Frag} {mg : Str → Option Value} {base : Heap} {CX : CXT} {j k : Nat} {f : Addr} {fd : FuncData} {ps : List Str} {sp : Sp} (F : FnG P w K mg base CX j f fd ps sp) (h : j ≤ k) :
    FnG P w K mg base CX k f fd ps sp := ⟨F.len, fun B outs t H given us vs Q E hg hr => F.run B outs t H given us vs Q E hg (hr.mono h)⟩
section
variable {X : Cx} {CX : CXT} {k : Nat} {f : Addr} {fd : FuncData} {ps : List Str} {sp : Sp} {dvs : List V} {ds : List Value} {E : XK} {x : Str} {p pos : Pos} {e : Expr} {es : List Expr} {t : TA}
theorem run_fnG {pins : List (Addr × Obj)} {σ : L2.St} {H : Hp} {s : Shared} {Q : VK} {us : List Value} {vs : List V} (F : FnG X.prog X.w X.K X.mg X.base CX k f fd ps sp) (hg : X.A.guards = some []) (hr : Room k X.A) (hb : Binds X.K fd ps ds)
    (hd : Vals dvs ds) (hx : Passes CX X E) (I : Inv X pins σ H s) (r : Vals vs us) (h : sp (vs ++ dvs) H Q E) : wpAny (model X.prog X.w) X.A (call (.ref f) us) (EP X pins σ Q) X.xe s := by
  have r2 : Vals (vs ++ dvs) (us ++ ds) := r.append hd
  have hl : (us ++ ds).length = ps.length := by
    rw [← r2.length]
    exact F.len _ _ _ _ h
  refine wpAny_call (codeAny_mono (F.run X.A X.stack s H ⟨us, []⟩ (us ++ ds) (vs ++ dvs) Q E hg hr I.env0 (hb s us I.kIn hl) r2 h) fun r s' hq => ?_)
  match r, hq with
  | .error e, hq => exact hx pins σ H s e s' I hq
  | .ok (.ret u), hq => exact I.after hq
theorem pe_callG (F : FnG X.prog X.w X.K X.mg X.base CX k f fd ps sp) (hgd : X.A.guards = some []) (hr : Room k X.A) (hg : Gl X x) (hm : X.mg x = some (.ref f)) (hk : PySem.W.keepIn X.K (.ref f) = true) (hb : Binds X.K fd ps ds)
    (hd : Vals dvs ds) (hx : Passes CX X E) (ha : PA X (e :: es) t) (hdb : (x == ("__debug__" : Str)) = false := by decide) (he : starEach (e :: es) X.env = (false, eval e X.env) :: starEach es X.env := by rfl)
    (hpl : (backTo pos (starEach es X.env)).any (·.1) = false := by rfl) : PE X (.Call (.Name x p) (e :: es) [] pos) (tCall sp dvs E t) := by
  constructor
  intro pins s σ H Q I h
  refine wpAny_Call_Name_kw (ld_glob I hg hm ?_ hdb)
  refine PySem.W.callWith_K (h₀ := X.base) I.ok.mod.kin hk (thn (ha.run pos pins s σ H _ I h) fun us s1 hh => ?_) he hpl
  obtain ⟨vs, H1, I1, r, q⟩ := hh
  exact ⟨I1.kIn, run_fnG F hgd hr hb hd hx I1 r q⟩
end
/-- a def of the text, where no repr runs around it -/
theorem fn_ofG {CX : CXT} {P : Program} {w : World} {K : PySem.W.Frag} {mg : Str → Option Value} {base : Heap} {k : Nat} {f : Addr} {name qual : Str} {params : Arguments} {body : List Stmt} {scope : Scope} {dV kV doc pm cdv ct oc : Value}
    {an od : Option Addr} {osl : Array (Option Value)} {N ps : List Str} {sp : Sp} (lk : K.lookup f = some ⟨oc, od, .func (PySem.W.fnOf name qual params body scope dV kV doc pm an cdv ct), osl⟩) (hcd : PySem.W.codeIn K cdv qual = true)
    (S : FnScope N ps scope) (len : ∀ vs H Q E, sp vs H Q E → vs.length = ps.length)
    (hbody : ∀ (B : Around) (outs : List Env) (s : Shared) (H : Hp) (vs : List V) (Q : VK) (E : XK), (B.deeper (envOfC qual scope s.heap.objs.size f cdv)).guards = some [] → Room k (B.deeper (envOfC qual scope s.heap.objs.size f cdv)) → sp vs H Q E →
      ∃ t, PSs (cxOf CX P w K mg base N qual scope f cdv B outs s H E) body t ∧ t { nx := fun _ H' => Q .non H', rt := Q } (start N vs) H) :
    FnG P w K mg base CX (k + 1) f (PySem.W.fnOf name qual params body scope dV kV doc pm an cdv ct) ps sp := by
  refine ⟨len, fun B outs s H given us vs Q E hg hr e0 hb r hsp => ?_⟩
  have hl := len _ _ _ _ hsp
  have KX : K.In s.heap := e0.mod.kin.keeps fun b o e => (e0.bs b o e).1
  have lim : s.heap.NoLimit := e0.mod.nolimit.keeps fun b o e => (e0.bs b o e).1
  have hkind : ∀ y ∈ ps.zip us, scope.names.lookup y.1 = some .local ∨ (scope.names.lookup y.1 = some .cell ∧ ((cellsFrom (s.heap.objs.size + 1) scope.names []).lookup y.1).isSome = true) := by
    rintro ⟨n, v⟩ hy
    rcases S.par n (List.of_mem_zip hy).1 with q | q
    · exact .inl q
    · exact .inr ⟨q, PySem.W.cellsFrom_some _ _ _ (.inl q)⟩
  refine codeAny_call_function hr.depth (KX _ _ lk) rfl S.co S.gen rfl (PySem.W.codeRec_of KX hcd) (hb _ _ _ _ ?_)
  refine wpAny_newFunctionEnv_cells S.kind hkind fun env he s1 x => ?_
  subst he
  refine ⟨lim.keeps x.toInCall.keep, codeAny_func ?_⟩
  obtain ⟨t, ht, hq⟩ := hbody B outs s H vs Q E hg (hr.deeper _) hsp
  have I : Inv (cxOf CX P w K mg base N qual scope f cdv B outs s H E) [] (start N vs) H s1 := inv_start S hr.hd e0 hl r x
  refine wpAny_mono (ht.run [] s1 (start N vs) H _ I hq) (fun fl s' hs => ?_) fun e s' hs => hs
  match fl, hs with
  | .ret u, hs =>
    obtain ⟨v, σ', H', J, rv, q⟩ := hs
    exact ⟨v, H', J.os, J.bare, J.base, J.hok, rv, q⟩
  | .next, hs =>
    obtain ⟨σ', H', J, q⟩ := hs
    exact ⟨V.non, H', J.os, J.bare, J.base, J.hok, rfl, q⟩
  | .brk, hs =>
    obtain ⟨_, _, _, q⟩ := hs
    exact False.elim q
  | .cont, hs =>
    obtain ⟨_, _, _, q⟩ := hs
    exact False.elim q
theorem okG {P : Program} {w : World} {K : PySem.W.Frag} {mg : Str → Option Value} {base : Heap} {x qual : Str} {st : Stmt} {f : Addr} {fd : FuncData} {N ps : List Str} {k : Nat} {sp : Sp} (F : Fun K x qual st f fd) (S : FnScope N ps (defScope st))
    (len : ∀ vs H Q E, sp vs H Q E → vs.length = ps.length)
    (hbody : ∀ (cdv : Value) (B : Around) (outs : List Env) (s : Shared) (H : Hp) (vs : List V) (Q : VK) (E : XK), (B.deeper (envOfC qual (defScope st) s.heap.objs.size f cdv)).guards = some [] → Room k (B.deeper (envOfC qual (defScope st) s.heap.objs.size f cdv)) →
      sp vs H Q E → ∃ t, PSs (cxOf CX0 P w K mg base N qual (defScope st) f cdv B outs s H E).nox (defBody st) t ∧ t { nx := fun _ H' => Q .non H', rt := Q } (start N vs) H) : FnG P w K mg base CX0 (k + 1) f fd ps sp := by
  obtain ⟨oc, od, kV, doc, pm, an, cdv, ct, osl, rfl, lk, hcd⟩ := F.ex
  refine fn_ofG lk hcd S len fun B outs s H vs Q E hg hr hsp => ?_
  obtain ⟨t, h, q⟩ := hbody cdv B outs s H vs Q E hg hr hsp
  exact ⟨t, h.nox, q⟩

/-! ### the law's call -/
theorem lawG {P : Program} {w : World} {K : PySem.W.Frag} {mg mb : Str → Option Value} {k : Nat} {fa a : Addr} {fd : FuncData} {x : Str} {sp : Sp} {s1 : Shared} {vs : List Value} {ns : List Int}
    (KX : K.In s1.heap) (hns : s1.heap.Ns mainGlobals mg) (hb : s1.heap.Ns builtinsNs mb) (hbb : ∀ x : Str, x ≠ "__name__" → mb x = bootBuiltins x) (hlim : s1.heap.NoLimit) (hg : s1.gens = #[])
    (ha : s1.heap.get? a = some { cls := .type "list", data := .seq vs.toArray }) (hi : IntsAre vs ns) (hl : ns.length ≤ sizeLine) (hr : Room k callerA)
    (F : ∀ base : Heap, K.In base → base.Ns mainGlobals mg → FnG P w K mg base CX0 k fa fd [x] sp) (hbind : ∀ (s : Shared) (u : Value), BindsTo s fd ⟨[u], []⟩ [(x, u)])
    (hsp : ∀ H : Hp, SqL K H a (ns.map V.int) → (∀ b o, H b = some o → ∃ ob u, o = .frz ob u) → sp [.ref a] H (fun v _ => v = .bl true) fun _ _ _ => False) :
    codeAny (model P w) callerA (.call (.ref fa) ⟨[.ref a], []⟩) (fun r s' => r = .ok (.ret (.bool true)) ∧ OldK s1.heap s'.heap ∧ s'.os = s1.os ∧ AllBare s'.gens) s1 := by
  have rv := vals_ints hi
  have lenV := hi.length
  -- the script at a, known to the object, where it is no object of the module; nothing else
  have main : ∀ H : Hp, (∀ b o, H b = some o → b = a ∧ K.lookup a = none ∧ o = .frz { cls := .type "list", data := .seq vs.toArray } (.lst (ns.map V.int))) → SqL K H a (ns.map V.int) →
      codeAny (model P w) callerA (.call (.ref fa) ⟨[.ref a], []⟩) (fun r s' => r = .ok (.ret (.bool true)) ∧ OldK s1.heap s'.heap ∧ s'.os = s1.os ∧ AllBare s'.gens) s1 := by
    intro H hO hS
    have hok : HOk P w H s1.heap := fun b o e => by
      obtain ⟨e1, _, e2⟩ := hO b o e
      subst e1 e2
      exact ⟨ha, by rw [List.length_map]; exact hl, vs, _, rv, ha⟩
    have keep : ∀ {b : Addr} {o : Obj}, s1.heap.get? b = some o → (b = a → False) → (hidT s1.heap H).get? b = some o := fun {b o} e n => hidT_get e (by
      cases q : H b with
      | none => rfl
      | some u => exact (n (hO b u q).1).elim)
    have nsK : ∀ {b : Addr} {m : Str → Option Value}, s1.heap.Ns b m → (hidT s1.heap H).Ns b m := fun {b m} hn => by
      obtain ⟨o, es, ep, e, d, r⟩ := hn
      refine ⟨o, es, ep, keep e fun z => ?_, d, r⟩
      subst z
      rw [ha] at e
      cases e
      cases d
    have hKb : K.In (hidT s1.heap H) := fun b o e => hidT_get (KX b o e) (by
      cases q : H b with
      | none => rfl
      | some u =>
        obtain ⟨e1, e2, _⟩ := hO b u q
        rw [e1, e2] at e
        cases e)
    have hM : Mod K mg (hidT s1.heap H) := ⟨hKb, nsK hns, ⟨mb, nsK hb, hbb⟩, let ⟨mc, h1, h2⟩ := hlim; ⟨mc, nsK h1, h2⟩⟩
    have e0 : Env0 P w K mg (hidT s1.heap H) callerA [] s1 H := ⟨rfl, hM, fun b o e => of_hidT e, Nat.le_of_eq (hidT_size _ _), trivial, fun b hb => absurd (show b ∈ ([] : List Addr) from hb) (by simp), hok, .of_eq hg⟩
    have fr : ∀ b o, H b = some o → ∃ ob u, o = .frz ob u := fun b o e => ⟨_, _, (hO b o e).2.2⟩
    refine codeAny_mono ((F _ hKb (nsK hns)).run callerA [] s1 H ⟨[.ref a], []⟩ [.ref a] [.ref a] _ _ rfl hr e0 (hbind s1 (.ref a)) (.cons rfl .nil) (hsp H hS fr)) fun r s' h => ?_
    match r, h with
    | .error e, h => exact h.elim
    | .ok (.ret u), h =>
      obtain ⟨v, H', os, bare, un, hok', r', q⟩ := h
      have q' : v = .bl true := q
      subst q'
      obtain rfl : u = Value.bool true := r'
      refine ⟨rfl, OldK.of_keep fun b o e => ?_, os, bare⟩
      cases q : H b with
      | none => exact un.keep b o e q (fun z => absurd (show b ∈ ([] : List Addr) from z) (by simp)) (by simp)
      | some u =>
        obtain ⟨e1, _, e2⟩ := hO b u q
        rw [e2] at q
        obtain ⟨f1, _⟩ := hok b _ q
        obtain ⟨f2, _⟩ := hok' b _ (un.frzs b _ _ q)
        rw [e] at f1
        cases f1
        exact f2
  cases hk : K.lookup a with
  | some o =>
    have e := KX a o hk
    rw [ha] at e
    cases e
    exact main (fun _ => none) (fun b u z => by cases (show (none : Option HO) = some u from z)) (.inr ⟨_, vs.toArray, _, hk, rfl, rfl, rfl, by rw [List.size_toArray, lenV]; exact hl, by simpa using rv⟩)
  | none =>
    refine main (fun b => if b = a then some (.frz { cls := .type "list", data := .seq vs.toArray } (.lst (ns.map V.int))) else none) (fun b u z => ?_) (.inl (.inr ⟨_, if_pos rfl⟩))
    by_cases hb : b = a
    · have z' := (if_pos hb).symm.trans z
      cases z'
      exact ⟨hb, hk, rfl⟩
    · have z' := (if_neg hb).symm.trans z
      cases z'
theorem walkG {l : PySem.W.OpenLaw} {n k : Nat} {q : Program} {loose : List Str} {XP : (Str → Option Value) → Heap → Prop} {YP : World → Heap → Prop} {d : DefRec} {K : Params → PySem.W.Frag} {sp : PySem.W.Frag → Sp} {x : Str}
    (hn : l.most = some n) (hn2 : n ≤ sizeLine) (hdf : d.params.defaults = []) (hr : Room k callerA) (hY : ∀ (w : World) (h : Heap), YP w h → (K w.params).In h)
    (F : ∀ (w : World) (mg : Str → Option Value) (fa : Addr) (h : Heap), (K w.params).In h → h.Ns mainGlobals mg → mg d.name = some (.ref fa) →
      ∃ fd : FuncData, (∀ (s : Shared) (u : Value), BindsTo s fd ⟨[u], []⟩ [(x, u)]) ∧ ∀ base : Heap, (K w.params).In base → base.Ns mainGlobals mg → FnG l.prog w (K w.params) mg base CX0 k fa fd [x] (sp (K w.params)))
    (hsp : ∀ (K : PySem.W.Frag) (H : Hp) (a : Addr) (ns : List Int), ns.length ≤ n → SqL K H a (ns.map V.int) → (∀ b o, H b = some o → ∃ ob u, o = .frz ob u) → sp K [.ref a] H (fun v _ => v = .bl true) fun _ _ _ => False) :
    PySem.W.WalkO q loose XP YP l.row.toRowW d [] (fun f vs => PySem.call f vs) := by
  refine Att.attach_call hn hdf fun w s₀ s1 mg mb fa o pm cd doc a vs ns G Y ho hd hcd hmg hobj hints hlen hg => ?_
  have KX := hY w _ Y
  obtain ⟨fd, hb, hF⟩ := F w mg fa _ KX G.T.g hmg
  exact lawG KX G.T.g G.T.b G.T.builtins G.T.nolimit hg hobj hints (Nat.le_trans hlen hn2) hr hF hb fun H hS hO => hsp (K w.params) H a ns hlen hS hO
end KX

set_option maxRecDepth 100000
set_option maxHeartbeats 4000000
namespace KX
open PySem PySem.Spec PyProof.Rows L2
section
variable {X : Cx}
/-- == and != of data without dicts -/
def rEqP (K : PySem.W.Frag) (f : Bool → Bool) : R2 := fun x y H Q => ∃ d e, Dp K H x d ∧ Dp K H y e ∧ d.plain = true ∧ e.plain = true ∧ min d.depth e.depth ≤ 64 ∧ Q (.bl (f (PyData.eqv d e))) H
theorem op_eqP (hu : X.A.units + 64 < cLine) : OpR X (compareOp .Eq) (rEqP X.K id) := by
  intro pins s σ H x y v u Q I rx ry h
  obtain ⟨d, e, hd, he, pd, pe, hm, q⟩ := h
  obtain ⟨as, r1⟩ := Dp.reads I d x v hd rx
  obtain ⟨bs, r2⟩ := Dp.reads I e y u he ry
  exact SeqAt.eq_plain r1 r2 pd pe (by omega) ⟨.bl _, H, I, rfl, q⟩
theorem op_neP (hu : X.A.units + 64 < cLine) : OpR X (compareOp .NotEq) (rEqP X.K not) := by
  intro pins s σ H x y v u Q I rx ry h
  obtain ⟨d, e, hd, he, pd, pe, hm, q⟩ := h
  obtain ⟨as, r1⟩ := Dp.reads I d x v hd rx
  obtain ⟨bs, r2⟩ := Dp.reads I e y u he ry
  exact SeqAt.ne_plain r1 r2 pd pe (by omega) ⟨.bl _, H, I, rfl, q⟩
end
/-- a list of ones against the empty list -/
theorem dp_ints {K : PySem.W.Frag} {H : Hp} : ∀ (ns : List Int), DpAll K H (ns.map V.int) (ns.map PyData.int)
  | [] => .nil
  | n :: ns => .cons (.int n) (dp_ints ns)
theorem dp_strs {K : PySem.W.Frag} {H : Hp} : ∀ (ns : List Str), DpAll K H (ns.map V.str) (ns.map PyData.str)
  | [] => .nil
  | n :: ns => .cons (.str n) (dp_strs ns)
theorem pl_ints : ∀ ns : List Int, PyData.plainAll (ns.map PyData.int) = true
  | [] => rfl
  | n :: ns => by simp [PyData.plainAll, PyData.plain, pl_ints ns]
theorem pl_strs : ∀ ns : List Str, PyData.plainAll (ns.map PyData.str) = true
  | [] => rfl
  | n :: ns => by simp [PyData.plainAll, PyData.plain, pl_strs ns]
theorem eqv_nil (ds : List PyData) : PyData.eqv (.list ds) (.list []) = ds.isEmpty := by
  cases ds <;> simp [PyData.eqv, PyData.eqvAll]
theorem min_nil (d : PyData) : min d.depth (PyData.list []).depth ≤ 64 := by
  have : (PyData.list []).depth ≤ 64 := by decide
  omega
end KX

set_option maxRecDepth 100000
set_option maxHeartbeats 4000000
namespace KX
open PySem PySem.Spec PyProof.Rows L2
/-! ### how great data are -/
/-- {} and {text: int} -/
def fineK (B : Nat) : List (PyData × PyData) → Bool
  | [] => true
  | [(.str x, .int i)] => (x.cps.toList.all fun c => decide (c < 128)) && decide (x.length ≤ 20) && decide (i.natAbs ≤ B)
  | _ => false
theorem fineK_is {B : Nat} {kvs : List (PyData × PyData)} (h : fineK B kvs = true) : kvs = [] ∨ ∃ x i, kvs = [(.str x, .int i)] ∧ (∀ c ∈ x.cps.toList, c < 128) ∧ x.length ≤ 20 ∧ i.natAbs ≤ B := by
  unfold fineK at h
  split at h
  · exact .inl rfl
  · rename_i x i
    simp only [Bool.and_eq_true, decide_eq_true_eq, List.all_eq_true] at h
    exact .inr ⟨x, i, rfl, h.1.1, h.1.2, h.2⟩
  · cases h
mutual
/-- ints within B, texts of plain signs, no dict but {} and {text: int} -/
def fine (B : Nat) : PyData → Bool
  | .none => true
  | .bool _ => true
  | .int i => decide (i.natAbs ≤ B)
  | .str x => x.cps.toList.all fun c => decide (c < 128)
  | .list xs => fineAll B xs
  | .tuple xs => fineAll B xs
  | .dict kvs => fineK B kvs
def fineAll (B : Nat) : List PyData → Bool
  | [] => true
  | x :: xs => fine B x && fineAll B xs
end
mutual
def wt : PyData → Nat
  | .str x => x.length + 1
  | .list xs => wtAll xs + 1
  | .tuple xs => wtAll xs + 1
  | _ => 1
def wtAll : List PyData → Nat
  | [] => 0
  | x :: xs => wt x + wtAll xs
end
theorem fineAll_app (B : Nat) : ∀ xs ys, fineAll B (xs ++ ys) = (fineAll B xs && fineAll B ys)
  | [], ys => by simp [fineAll]
  | x :: xs, ys => by simp [fineAll, fineAll_app B xs ys, Bool.and_assoc]
theorem wtAll_app : ∀ xs ys, wtAll (xs ++ ys) = wtAll xs + wtAll ys
  | [], ys => by simp [wtAll]
  | x :: xs, ys => by simp [wtAll, wtAll_app xs ys, Nat.add_assoc]
theorem fineAll_mem {B : Nat} : ∀ {xs : List PyData}, fineAll B xs = true ↔ ∀ x ∈ xs, fine B x = true
  | [] => by simp [fineAll]
  | x :: xs => by simp [fineAll, fineAll_mem (xs := xs)]
theorem wt_mem : ∀ {xs : List PyData} {x : PyData}, x ∈ xs → wt x ≤ wtAll xs
  | y :: xs, x, h => by
    rcases List.mem_cons.mp h with rfl | h
    · simp [wtAll]
    · have := wt_mem h
      simp [wtAll]
      omega
theorem wtAll_take (n : Nat) : ∀ xs, wtAll (xs.take n) + wtAll (xs.drop n) = wtAll xs := fun xs => by
  rw [← wtAll_app, List.take_append_drop]
theorem wtAll_rev : ∀ xs, wtAll xs.reverse = wtAll xs
  | [] => rfl
  | x :: xs => by
    rw [List.reverse_cons, wtAll_app, wtAll_rev xs]
    simp [wtAll]
    omega
theorem len_wt : ∀ xs : List PyData, xs.length ≤ wtAll xs
  | [] => Nat.zero_le _
  | x :: xs => by
    have := len_wt xs
    have h : 1 ≤ wt x := by cases x <;> simp [wt]
    simp [wtAll]
    omega
mutual
theorem fine_le {B C : Nat} (h : B ≤ C) : ∀ d : PyData, fine B d = true → fine C d = true
  | .none, _ => by simp [fine]
  | .bool _, _ => by simp [fine]
  | .int i, q => by simp [fine] at q ⊢; omega
  | .str x, q => by simpa [fine] using q
  | .list xs, q => by simp only [fine] at q ⊢; exact fineAll_le h xs q
  | .tuple xs, q => by simp only [fine] at q ⊢; exact fineAll_le h xs q
  | .dict kvs, q => by
    rcases fineK_is (show fineK B kvs = true from q) with rfl | ⟨x, i, rfl, h1, h2, h3⟩
    · rfl
    · show fineK C [(.str x, .int i)] = true
      simp only [fineK, Bool.and_eq_true, decide_eq_true_eq, List.all_eq_true]
      exact ⟨⟨h1, h2⟩, by omega⟩
theorem fineAll_le {B C : Nat} (h : B ≤ C) : ∀ ds : List PyData, fineAll B ds = true → fineAll C ds = true
  | [], _ => by simp [fineAll]
  | x :: xs, q => by
    simp only [fineAll, Bool.and_eq_true] at q ⊢
    exact ⟨fine_le h x q.1, fineAll_le h xs q.2⟩
end
theorem piled_cons' (t : Str) (r : List Str) : piled (t :: r) = t.length + 2 + piled r := by
  rw [piled_cons]
theorem listText_le (ts : List Str) : (listText ts).length ≤ piled ts + 2 := by
  unfold listText
  rw [strLen_append]
  cases ts with
  | nil => show 1 + 1 ≤ _; simp [piled]
  | cons t r =>
    show (textFrom 1 ((("[" : Str) ++ ("" : Str)) ++ t) r).length + 1 ≤ _
    rw [textFrom_length_pos _ _ _ (by decide), strLen_append, strLen_append, piled_cons']
    show 1 + 0 + t.length + piled r + 1 ≤ _
    omega
theorem tupleText_le (ts : List Str) : (tupleText ts).length ≤ piled ts + 3 := by
  unfold tupleText
  rw [strLen_append, strLen_append]
  have h2 : ((if ts.length == 1 then ",)" else ")" : String) : Str).length ≤ 2 := by
    split <;> decide
  have h1 : (("(" : Str)).length = 1 := rfl
  by_cases h : ts = []
  · subst h
    have : (Str.join ", " ([] : List Str)).length = 0 := rfl
    omega
  · have := join_length_add ts h
    omega
mutual
theorem shown_le {B : Nat} (hB : B < 10 ^ 400) : ∀ d : PyData, fine B d = true → d.shown.length + 10 ≤ 1000 * wt d
  | .none, _ => by simp only [PyData.shown]; show 4 + 10 ≤ 1000 * 1; decide
  | .bool b, _ => by cases b <;> simp only [PyData.shown] <;> decide
  | .int i, q => by
    have q : i.natAbs ≤ B := by simpa [fine] using q
    have h : (toString i).length ≤ 400 + 1 := PySem.int_text_length_le10 (a := i) (k := 400) (by decide) (by omega)
    simp only [PyData.shown, wt]
    have e : (Str.ofString (toString i)).length = (toString i).length := PySem.ofString_length _
    show (Str.ofString (toString i)).length + 10 ≤ _
    omega
  | .str x, q => by
    have q : ∀ c ∈ x.cps.toList, c < 128 := by
      have q : (x.cps.toList.all fun c => decide (c < 128)) = true := q
      intro c hc
      exact of_decide_eq_true (List.all_eq_true.mp q c hc)
    have h := PySem.StrLaws.reprText_len x fun c hc => Nat.lt_trans (q c hc) (by decide)
    simp only [PyData.shown, wt]
    omega
  | .list xs, q => by
    have q : fineAll B xs = true := by simpa only [fine] using q
    have h1 := listText_le (PyData.shownAll xs)
    have h2 := shownAll_le hB xs q
    simp only [PyData.shown, wt]
    omega
  | .tuple xs, q => by
    have q : fineAll B xs = true := by simpa only [fine] using q
    have h1 := tupleText_le (PyData.shownAll xs)
    have h2 := shownAll_le hB xs q
    simp only [PyData.shown, wt]
    omega
  | .dict kvs, q => by
    rcases fineK_is (show fineK B kvs = true from q) with rfl | ⟨x, i, rfl, h1, h2, h3⟩
    · simp only [PyData.shown, PyData.shownKv]
      show (2 : Nat) + 10 ≤ 1000 * 1
      decide
    · have h := PySem.StrLaws.reprText_len x fun c hc => Nat.lt_trans (h1 c hc) (by decide)
      have h5 : (toString i).length ≤ 400 + 1 := PySem.int_text_length_le10 (a := i) (k := 400) (by decide) (by omega)
      have e : (Str.ofString (toString i)).length = (toString i).length := PySem.ofString_length _
      have h6 := dictText_len_le (PyData.shownKv [(.str x, .int i)])
      simp only [PyData.shown, PyData.shownKv, wt, List.map_cons, List.map_nil, List.sum_cons, List.sum_nil, List.length_cons, List.length_nil, strLen_append] at h6 ⊢
      have e2 : ((": " : Str)).length = 2 := rfl
      have e3 : (Str.ofString (toString i)).length ≤ 401 := by omega
      change _ ≤ (reprText x).length + (": " : Str).length + (Str.ofString (toString i)).length + 0 + 2 * (0 + 1) + 3 at h6
      omega
theorem shownAll_le {B : Nat} (hB : B < 10 ^ 400) : ∀ ds : List PyData, fineAll B ds = true → piled (PyData.shownAll ds) ≤ 1000 * wtAll ds
  | [], _ => by simp [PyData.shownAll, piled]
  | x :: xs, q => by
    simp only [fineAll, Bool.and_eq_true] at q
    have h1 := shown_le hB x q.1
    have h2 := shownAll_le hB xs q.2
    simp only [PyData.shownAll, wtAll]
    rw [piled_cons']
    have h : 1 ≤ wt x := by cases x <;> simp [wt]
    omega
end
end KX
namespace KX
open PySem PySem.Spec PyProof.Rows L2
theorem log_of_fine {B : Nat} (hB : B < 10 ^ 400) {i : Int} (h : i.natAbs ≤ B) : i.natAbs.log2 < 1920 := by
  by_cases z : i.natAbs = 0
  · rw [z]; decide
  · refine (Nat.log2_lt z).mpr ?_
    have : (10 : Nat) ^ 400 < 2 ^ 1920 := by decide +kernel
    omega
mutual
theorem showable_fine {B : Nat} (hB : B < 10 ^ 400) : ∀ d : PyData, fine B d = true → d.showable = true
  | .none, _ => by simp only [PyData.showable]
  | .bool b, _ => by simp only [PyData.showable]
  | .int i, q => by
    have q : i.natAbs ≤ B := by simpa [fine] using q
    simp only [PyData.showable]
    exact decide_eq_true (log_of_fine hB q)
  | .str x, _ => by simp only [PyData.showable]
  | .list xs, q => by
    simp only [PyData.showable]
    exact showableAll_fine hB xs (by simpa only [fine] using q)
  | .tuple xs, q => by
    simp only [PyData.showable]
    exact showableAll_fine hB xs (by simpa only [fine] using q)
  | .dict kvs, q => by
    rcases fineK_is (show fineK B kvs = true from q) with rfl | ⟨x, i, rfl, h1, h2, h3⟩
    · simp only [PyData.showable, PyData.showableKv]
    · simp only [PyData.showable, PyData.showableKv, Bool.and_true, Bool.true_and]
      exact decide_eq_true (log_of_fine hB h3)
theorem showableAll_fine {B : Nat} (hB : B < 10 ^ 400) : ∀ ds : List PyData, fineAll B ds = true → PyData.showableAll ds = true
  | [], _ => by simp only [PyData.showableAll]
  | x :: xs, q => by
    simp only [fineAll, Bool.and_eq_true] at q
    simp only [PyData.showableAll, showable_fine hB x q.1, showableAll_fine hB xs q.2, Bool.and_self]
end
mutual
theorem depth_wt {B : Nat} : ∀ d : PyData, fine B d = true → d.depth ≤ wt d
  | .none, _ => by simp [PyData.depth]
  | .bool b, _ => by simp [PyData.depth]
  | .int i, _ => by simp [PyData.depth]
  | .str x, _ => by simp [PyData.depth]
  | .list xs, q => by
    have := depthAll_wt xs (B := B) (by simpa only [fine] using q)
    simp only [PyData.depth, wt]
    omega
  | .tuple xs, q => by
    have := depthAll_wt xs (B := B) (by simpa only [fine] using q)
    simp only [PyData.depth, wt]
    omega
  | .dict kvs, q => by
    rcases fineK_is (show fineK B kvs = true from q) with rfl | ⟨x, i, rfl, h1, h2, h3⟩ <;> simp [PyData.depth, PyData.depthKv, wt]
theorem depthAll_wt {B : Nat} : ∀ ds : List PyData, fineAll B ds = true → PyData.depthAll ds ≤ wtAll ds
  | [], _ => by simp [PyData.depthAll]
  | x :: xs, q => by
    simp only [fineAll, Bool.and_eq_true] at q
    have h1 := depth_wt x q.1
    have h2 := depthAll_wt xs q.2
    simp only [PyData.depthAll, wtAll]
    omega
end
/-- data that can be shown -/
structure Good (B n : Nat) (d : PyData) : Prop where
  f : fine B d = true
  w : wt d ≤ n
theorem Good.show {B n : Nat} {d : PyData} (g : Good B n d) (hB : B < 10 ^ 400) (hn : n ≤ 100) : d.showable = true ∧ d.depth ≤ 100 ∧ d.shown.length ≤ sizeLine := by
  have h1 := depth_wt d g.f
  have h2 := shown_le hB d g.f
  have h3 := g.w
  refine ⟨showable_fine hB d g.f, by omega, ?_⟩
  rw [sizeLine_eq]
  omega
theorem Good.mono {B n B' n' : Nat} {d : PyData} (g : Good B n d) (h : B ≤ B') (h' : n ≤ n') : Good B' n' d := ⟨fine_le h d g.f, Nat.le_trans g.w h'⟩
/-- new objects beside a stream -/
def hid (l : Addr) (H : Hp) : Hp := fun b => if b = l then none else H b
theorem hid_at {l b : Addr} {H : Hp} (h : b ≠ l) : hid l H b = H b := if_neg h
theorem hid_some {l b : Addr} {H : Hp} {o : HO} (h : hid l H b = some o) : b ≠ l ∧ H b = some o := by
  unfold hid at h
  split at h
  · cases h
  · exact ⟨by assumption, h⟩
/-- all but what stands at l is as it was -/
def Keep (l : Addr) (H H' : Hp) : Prop := ∀ b o, b ≠ l → H b = some o → H' b = some o
theorem Keep.same {l : Addr} {H H' : Hp} (k : Keep l H H') : Same (hid l H) (hid l H') := fun b o e => by
  obtain ⟨n, e⟩ := hid_some e
  rw [hid_at n]
  exact k b o n e
theorem Keep.refl (l : Addr) (H : Hp) : Keep l H H := fun _ _ _ e => e
theorem Keep.trans {l : Addr} {H H1 H2 : Hp} (a : Keep l H H1) (b : Keep l H1 H2) : Keep l H H2 := fun c o n e => b c o n (a c o n e)
theorem Keep.of {l : Addr} {H H' : Hp} (s : Same H H') : Keep l H H' := fun b o _ e => s b o e
theorem Keep.at {l : Addr} {H : Hp} {o : HO} : Keep l H (upd H l o) := fun b u n e => by rw [upd_ne n]; exact e
theorem Keep.new {l p : Addr} {H H' : Hp} {o : HO} (k : Keep l H H') (n : H' p = none) : Keep l H (upd H' p o) := k.trans (Keep.of fun b u e => by rw [upd_ne (ne_of_none e n)]; exact e)
theorem Keep.upd {l : Addr} {H H' : Hp} {o : HO} (k : Keep l H H') : Keep l H (upd H' l o) := k.trans Keep.at
theorem hid_same (l : Addr) (H : Hp) : Same (hid l H) H := fun b o e => (hid_some e).2
/-- a stream stands at l -/
def StO (H : Hp) (l : Addr) : Prop := ∃ a b c : Int, H l = some (.lst [.int a, .int b, .int c])
theorem StO.ne {l p : Addr} {H : Hp} (h : StO H l) (n : H p = none) : p ≠ l := by
  obtain ⟨a, b, c, e⟩ := h
  exact (ne_of_none e n).symm
theorem StO.new {l p : Addr} {H : Hp} {o : HO} (h : StO H l) (n : H p = none) : StO (upd H p o) l := by
  obtain ⟨a, b, c, e⟩ := id h
  exact ⟨a, b, c, by rw [upd_ne (h.ne n).symm]; exact e⟩
theorem StO.same {l : Addr} {H H' : Hp} (h : StO H l) (s : Same H H') : StO H' l := by
  obtain ⟨a, b, c, e⟩ := h
  exact ⟨a, b, c, s _ _ e⟩
theorem hnew {l p : Addr} {H : Hp} {o : HO} (n : H p = none) : Same (hid l H) (hid l (L2.upd H p o)) := ((Keep.refl l H).new n).same
theorem dx_tup {l p : Addr} {H : Hp} {xs : List V} {ds : List PyData} (n : H p = none) (st : StO H l) (h : Dxs (hid l H) xs ds) : Dx (hid l (L2.upd H p (.tup xs))) (.ref p) (.tuple ds) :=
  .tup (by rw [hid_at (st.ne n)]; exact upd_same) (h.up (hnew n))
theorem dx_lst {l p : Addr} {H : Hp} {xs : List V} {ds : List PyData} (n : H p = none) (z : p ≠ sysModules) (st : StO H l) (h : Dxs (hid l H) xs ds) : Dx (hid l (L2.upd H p (.lst xs))) (.ref p) (.list ds) :=
  .lst (by rw [hid_at (st.ne n)]; exact upd_same) z (h.up (hnew n))
theorem dx_dic1 {l p : Addr} {H : Hp} {x : Str} {i : Int} (n : H p = none) (st : StO H l) : Dx (hid l (L2.upd H p (.dK [(.inr x, .int i)]))) (.ref p) (.dict [(.str x, .int i)]) :=
  .dic1 (by rw [hid_at (st.ne n)]; exact upd_same)
theorem dx_dic {l p : Addr} {H : Hp} (n : H p = none) (st : StO H l) : Dx (hid l (L2.upd H p (.dK []))) (.ref p) (.dict []) :=
  .dic (by rw [hid_at (st.ne n)]; exact upd_same)
end KX

set_option maxRecDepth 100000
set_option maxHeartbeats 4000000
namespace KX
open PySem PySem.Spec PyProof.Rows L2
open PySem.W (AllAlike Sortable EachIs dataLe)
theorem each_pairs {β : Type} {R : Value → β → Prop} : ∀ {us : List Value} {bs : List β}, (us.length = bs.length) → (∀ (i : Nat) u b, us[i]? = some u → bs[i]? = some b → R u b) → EachIs R us bs
  | [], [], _, _ => .nil
  | u :: us, b :: bs, hl, h => .cons (h 0 u b rfl rfl) (each_pairs (by simpa using hl) fun i u b e f => h (i + 1) u b (by simpa using e) (by simpa using f))
  | [], _ :: _, hl, _ => by simp at hl
  | _ :: _, [], hl, _ => by simp at hl
section
variable {X : Cx}
/-- sorted(xs), xs alike data -/
def rSortE {β : Type} (K : PySem.W.Frag) (enc : β → PyData) : List V → Hp → VK → Prop := fun vs H Q => ∃ (a : Addr) (bs : List (V × β)), vs = [.ref a] ∧ SqL K H a (bs.map (·.1)) ∧ (∀ b ∈ bs, Dp K H b.1 (enc b.2)) ∧ AllAlike (bs.map fun b => enc b.2) ∧ Sortable (bs.map fun b => enc b.2) ∧
  (∀ b ∈ bs, (enc b.2).depth ≤ 50) ∧ ∀ p, H p = none → Q (.ref p) (L2.upd H p (.lst ((bs.mergeSort (dataLe false fun b => enc b.2)).map (·.1))))
theorem cr_sortE {β : Type} {enc : β → PyData} {k : Nat} (hr : Room k X.A) : CallR X (.builtin "sorted") (rSortE X.K enc) := by
  intro pins s σ H vs us Q I r h
  obtain ⟨a, bs, e, hS, hd, hal, hk, hu, q⟩ := h
  subst e
  obtain ⟨u, rfl, ru⟩ := vals1 r
  cases ru
  obtain ⟨its, rv, pl, hz⟩ := I.list hS
  have hlen := rv.length
  rw [List.length_map] at hlen hz
  have er : EachIs (fun v (b : V × β) => ∃ as, Reads s.heap v (enc b.2) as) its bs := each_pairs (by omega) fun i u b e f => by
    obtain ⟨u', e', ru⟩ := rv.get (i := i) (x := b.1) (by rw [List.getElem?_map, f]; rfl)
    rw [e] at e'
    cases e'
    exact Dp.reads I (enc b.2) b.1 u (hd b (List.mem_of_getElem? f)) ru
  have eR : EachIs (fun v (b : V × β) => RelV b.1 v) its bs := each_pairs (by omega) fun i u b e f => by
    obtain ⟨u', e', ru⟩ := rv.get (i := i) (x := b.1) (by rw [List.getElem?_map, f]; rfl)
    rw [e] at e'
    cases e'
    exact ru
  have hun := hr.un
  refine PySem.W.sorted_data (enc := fun b : V × β => enc b.2) pl.isList eR er hal hk (by omega) (fun b hb => by have := hu b hb; omega) fun out hl he => ?_
  obtain ⟨c, hc⟩ := PyProof.Rows.sortedAll_at s.heap its out.toArray
  have rel : ∀ {ws : List Value} {ps : List (V × β)}, EachIs (fun v (b : V × β) => RelV b.1 v) ws ps → Vals (ps.map (·.1)) ws := by
    intro ws ps e
    induction e with
    | nil => exact .nil
    | cons h t ih => exact .cons h ih
  have keep : ∀ b o, s.heap.get? b = some o → (PyProof.Rows.sortedAll s.heap its out.toArray).get? b = some o := fun _ _ => PyProof.Rows.sortedAll_old
  refine ⟨.ref (s.heap.objs.size + 1), _, I.laid (t' := s.toks) keep (Nat.le_succ _) (o := .lst ((bs.mergeSort (dataLe false fun b => enc b.2)).map (·.1))) ⟨?_, out, c, rel he, hc⟩, rfl, q _ (I.hok.fresh (Nat.le_succ _))⟩
  rw [List.length_map, List.length_mergeSort]
  omega
end
mutual
/-- without dicts: the layer's own data -/
theorem dp_dx {K : PySem.W.Frag} {H : Hp} : ∀ (d : PyData) (v : V), d.plain = true → Dx H v d → Dp K H v d
  | .none, _, _, h => by cases h; exact .non
  | .bool b, _, _, h => by cases h; exact .bl b
  | .int i, _, _, h => by cases h; exact .int i
  | .str x, _, _, h => by cases h; exact .str x
  | .list ds, _, p, h => by
    cases h with
    | lst e n h => exact .lst (.inl (.inl e)) (dps_dx ds _ (by simpa [PyData.plain] using p) h)
  | .tuple ds, _, p, h => by
    cases h with
    | tup e h => exact .tup (.inl (.inl e)) (dps_dx ds _ (by simpa [PyData.plain] using p) h)
  | .dict ks, _, p, _ => by simp [PyData.plain] at p
theorem dps_dx {K : PySem.W.Frag} {H : Hp} : ∀ (ds : List PyData) (vs : List V), PyData.plainAll ds = true → Dxs H vs ds → DpAll K H vs ds
  | [], _, _, h => by cases h; exact .nil
  | d :: ds, _, p, h => by
    have p' : d.plain = true ∧ PyData.plainAll ds = true := by simpa [PyData.plainAll] using p
    cases h with
    | cons h t => exact .cons (dp_dx d _ p'.1 h) (dps_dx ds _ p'.2 t)
end
end KX

set_option maxRecDepth 100000
set_option maxHeartbeats 4000000
namespace KX
open PySem PySem.Spec PyProof.Rows L2
section
variable {X : Cx}
/-- text * 0, text * 1 -/
theorem op_mul_s : OpR X (binaryOp .Mult) (fun x y H Q => ∃ (z : Str) (n : Int), x = .str z ∧ y = .int n ∧ (n = 0 ∨ n = 1) ∧ Q (.str (if n = 1 then z else "")) H) := by
  intro pins s σ H x y v u Q I rx ry h
  obtain ⟨z, n, rfl, rfl, hn, q⟩ := h
  obtain ⟨t, rfl⟩ := rx
  obtain ⟨t', rfl⟩ := ry
  have ok : MulOk z n := by
    rcases hn with rfl | rfl
    · exact ⟨by decide, fun h => absurd (by decide) h, fun h => absurd (by decide) h⟩
    · exact ⟨by decide, fun _ h => by simp at h, fun _ h => by simp at h⟩
  have e : Txt.mul z n = (if n = 1 then z else "") := by
    rcases hn with rfl | rfl
    · rfl
    · simp [Txt.mul]
  refine SB.mul ok fun t1 k => ?_
  rw [e]
  exact ⟨.str _, H, I.tok _, ⟨_, rfl⟩, q⟩
end
end KX

set_option maxRecDepth 100000
set_option maxHeartbeats 4000000
namespace KX
open PySem PySem.Spec PyProof.Rows L2
section
variable {X : Cx}
/-- t != (), t any tuple -/
def rNe0 (K : PySem.W.Frag) : R2 := fun x y H Q => ∃ a b xs, x = .ref a ∧ y = .ref b ∧ SqT K H a xs ∧ SqT K H b [] ∧ Q (.bl (!xs.isEmpty)) H
theorem op_ne0 (hu : X.A.units < cLine) : OpR X (compareOp .NotEq) (rNe0 X.K) := by
  intro pins s σ H x y v u Q I rx ry h
  obtain ⟨a, b, xs, rfl, rfl, ha, hb, q⟩ := h
  cases rx
  cases ry
  obtain ⟨its, r1, p1, _⟩ := I.tuple ha
  obtain ⟨its2, r2, p2, _⟩ := I.tuple hb
  cases r2
  have e : (!((List.range (min its.toArray.size ([] : List Value).toArray.size)).all (fun _ => true) && its.toArray.size == ([] : List Value).toArray.size)) = !xs.isEmpty := by
    have := r1.length
    cases xs with
    | nil =>
      cases its with
      | nil => rfl
      | cons _ _ => simp at this
    | cons _ _ =>
      cases its with
      | nil => simp at this
      | cons _ _ => simp
  refine SeqAt.RcNeAt.tuples (e := fun _ => true) p1 p2 hu (fun j h1 h2 => absurd h2 (by simp)) X.prog X.w X.xe (EP X pins σ Q) ?_
  rw [e]
  exact ⟨.bl _, H, I, rfl, q⟩
end
/-! ### tuples of data, whatever object holds them -/
def cutD (ds : List PyData) (lo hi : Option Int) : List PyData := (ds.drop (HT.sIx ds.length 0 lo)).take (HT.sIx ds.length ds.length hi - HT.sIx ds.length 0 lo)
theorem cutD_to (ds : List PyData) (k : Nat) : cutD ds none (some (k : Int)) = ds.take k := by
  unfold cutD
  rw [HT.sIx_none, HT.sIx_nat, List.drop_zero, Nat.sub_zero]
  by_cases h : k ≤ ds.length
  · rw [Nat.min_eq_left h]
  · rw [Nat.min_eq_right (by omega), List.take_length, List.take_of_length_le (by omega)]
theorem cutD_from (ds : List PyData) (k : Nat) : cutD ds (some (k : Int)) none = ds.drop k := by
  unfold cutD
  rw [HT.sIx_none, HT.sIx_nat]
  by_cases h : k ≤ ds.length
  · rw [Nat.min_eq_left h]
    exact List.take_of_length_le (by rw [List.length_drop]; exact Nat.le_refl _)
  · rw [Nat.min_eq_right (by omega), Nat.sub_self, List.take_zero, List.drop_of_length_le (by omega)]
theorem cutD_one (ds : List PyData) (k : Nat) : cutD ds (some (k : Int)) (some ((k : Int) + 1)) = (ds.drop k).take 1 := by
  unfold cutD
  rw [show ((k : Int) + 1) = ((k + 1 : Nat) : Int) by omega, HT.sIx_nat, HT.sIx_nat]
  by_cases h : k < ds.length
  · rw [Nat.min_eq_left (by omega), Nat.min_eq_left (by omega), Nat.add_sub_cancel_left]
  · rw [Nat.min_eq_right (by omega), Nat.min_eq_right (by omega), Nat.sub_self, List.take_zero, List.drop_of_length_le (by omega)]
    rfl
theorem dxs_cut {H : Hp} {xs : List V} {ds : List PyData} (h : Dxs H xs ds) (lo hi : Option Int) : Dxs H (cutV xs lo hi) (cutD ds lo hi) := by
  unfold cutV cutD
  rw [h.len]
  exact (h.drop _).take _
theorem dx_sqT {K : PySem.W.Frag} {H : Hp} {l a : Addr} {ds : List PyData} (h : Dx (hid l H) (.ref a) (.tuple ds)) : ∃ xs, SqT K H a xs ∧ Dxs (hid l H) xs ds := by
  cases h with
  | @tup a xs _ e h => exact ⟨xs, .inl (.inl (hid_some e).2), h⟩
theorem dx_tupOf {H : Hp} {l : Addr} {v : V} {ds : List PyData} (h : Dx (hid l H) v (.tuple ds)) : ∃ a xs, v = .ref a ∧ a ≠ l ∧ H a = some (.tup xs) ∧ Dxs (hid l H) xs ds := by
  cases h with
  | @tup a xs _ e h => exact ⟨a, xs, rfl, (hid_some e).1, (hid_some e).2, h⟩
section
variable {K : PySem.W.Frag} {H : Hp} {l a b : Addr} {ds es : List PyData} {Q : VK}
theorem sl_of {lo hi : Option Int} {v : V} (hd : Dx (hid l H) v (.tuple ds)) (st : StO H l) (q : ∀ H' p, Keep l H H' → StO H' l → Dx (hid l H') (.ref p) (.tuple (cutD ds lo hi)) → Q (.ref p) H') : rSlA K v lo hi H Q := by
  obtain ⟨a, xs, rfl, na, ea, h⟩ := dx_tupOf hd
  refine ⟨a, xs, rfl, .inl (.inl ea), fun hw => q H a (Keep.refl l H) st ?_, fun _ p np => q _ p ((Keep.refl l H).new np) (st.new np) (dx_tup np st (dxs_cut h lo hi))⟩
  have : cutD ds lo hi = ds := by
    unfold cutD
    rw [← h.len, hw.1, hw.2, List.drop_zero, Nat.sub_zero, List.take_of_length_le (by rw [h.len]; exact Nat.le_refl _)]
  rw [this]
  exact hd
theorem cat_of {v u : V} (hd : Dx (hid l H) v (.tuple ds)) (he : Dx (hid l H) u (.tuple es)) (st : StO H l) (hz : ds.length + es.length ≤ sizeLine)
    (q : ∀ H' p, Keep l H H' → StO H' l → Dx (hid l H') (.ref p) (.tuple (ds ++ es)) → Q (.ref p) H') : rCatA K v u H Q := by
  obtain ⟨a, xs, rfl, na, ea, h⟩ := dx_tupOf hd
  obtain ⟨b, ys, rfl, nb, eb, h2⟩ := dx_tupOf he
  have l1 := h.len
  have l2 := h2.len
  refine ⟨a, b, xs, ys, rfl, rfl, .inl (.inl ea), .inl (.inl eb), by omega, fun z => ?_, fun _ z => ?_, fun _ _ p np => q _ p ((Keep.refl l H).new np) (st.new np) (dx_tup np st (h.app h2))⟩
  · subst z
    have : ds = [] := List.eq_nil_of_length_eq_zero (by simpa using l1.symm)
    subst this
    exact q H b (Keep.refl l H) st he
  · subst z
    have : es = [] := List.eq_nil_of_length_eq_zero (by simpa using l2.symm)
    subst this
    rw [List.append_nil] at q
    exact q H a (Keep.refl l H) st hd
end
end KX

set_option maxRecDepth 100000
set_option maxHeartbeats 4000000
namespace KX
open PySem PySem.Spec PyProof.Rows L2
/-! ### expressions that make data -/
def tD (d : PyData) : TE := fun _ H Q => ∀ H' v, Same H H' → Dx H' v d → Q v H'
def tDs (ds : List PyData) : TA := fun _ H Q => ∀ H' vs, Same H H' → Dxs H' vs ds → Q vs H'
/-- a new list of data -/
def tL (ds : List PyData) : TE := fun _ H Q => ∀ H' p xs, Same H H' → H p = none → H' p = some (.lst xs) → Dxs H' xs ds → Q (.ref p) H'
section
variable {X : Cx} {e : Expr} {es : List Expr} {pos : Pos} {d : PyData} {ds : List PyData}
theorem PE.imp {t t' : TE} (h : PE X e t) (i : ∀ σ H Q, t' σ H Q → t σ H Q) : PE X e t' := ⟨fun pins s σ H Q I q => h.run pins s σ H Q I (i σ H Q q)⟩
theorem PA.imp {t t' : TA} (h : PA X es t) (i : ∀ σ H Q, t' σ H Q → t σ H Q) : PA X es t' := ⟨fun pos pins s σ H Q I q => h.run pos pins s σ H Q I (i σ H Q q)⟩
theorem pd_int {i : Int} {j} : PE X (.Constant (.int i) j pos) (tD (.int i)) := PE.imp pe_int fun _ H Q q => q H _ (Same.refl H) (.int i)
theorem pd_str {x : Str} {j} : PE X (.Constant (.str x) j pos) (tD (.str x)) := PE.imp pe_str fun _ H Q q => q H _ (Same.refl H) (.str x)
theorem pd_bl {b : Bool} {j} : PE X (.Constant (.bool b) j pos) (tD (.bool b)) := PE.imp pe_bl fun _ H Q q => q H _ (Same.refl H) (.bl b)
theorem pd_val {t : TE} {i : Int} (h : PE X e t) (hv : ∀ (σ : L2.St) (H : Hp) (Q : VK), Q (.int i) H → t σ H Q) : PE X e (tD (.int i)) := PE.imp h fun σ H Q q => hv σ H Q (q H _ (Same.refl H) (.int i))
theorem pd_nil : PA X [] (tDs []) := PA.imp pa_nil fun _ H Q q => q H _ (Same.refl H) .nil
theorem pd_cons (h : PE X e (tD d)) (t : PA X es (tDs ds)) (hs : starEach (e :: es) X.env = (false, eval e X.env) :: starEach es X.env := by rfl) : PA X (e :: es) (tDs (d :: ds)) :=
  PA.imp (pa_cons h t hs) fun _ H Q q H1 v s1 dv H2 vs s2 dvs => q H2 (v :: vs) (s1.trans s2) (.cons (dv.up s2) dvs)
theorem pd_tup {x1} (h : PA X es (tDs ds)) (hz : ds.length ≤ sizeLine := by decide) : PE X (.Tuple es x1 pos) (tD (.tuple ds)) :=
  PE.imp (pe_tup h) fun _ H Q q H1 vs s1 dvs => ⟨by rw [dvs.len]; exact hz, fun p np => q _ _ (s1.trans fun b x e => by rw [upd_ne (ne_of_none e np)]; exact e) (.tup upd_same (dvs.up fun b x e => by rw [upd_ne (ne_of_none e np)]; exact e))⟩
theorem pd_lstS (h : PA X es (tDs ds)) (hz : ds.length ≤ sizeLine := by decide) : PE X (.List es pos) (tD (.list ds)) :=
  PE.imp (pe_lstS h) fun _ H Q q H1 vs s1 dvs => ⟨by rw [dvs.len]; exact hz, fun p np zp => q _ _ (s1.trans fun b x e => by rw [upd_ne (ne_of_none e np)]; exact e) (.lst upd_same zp (dvs.up fun b x e => by rw [upd_ne (ne_of_none e np)]; exact e))⟩
theorem pd_lst (h : PA X es (tDs ds)) (hz : ds.length ≤ sizeLine := by decide) : PE X (.List es pos) (tL ds) :=
  PE.imp (pe_lst h) fun _ H Q q H1 vs s1 dvs => ⟨by rw [dvs.len]; exact hz, fun p np => q _ p vs (s1.trans fun b x e => by rw [upd_ne (ne_of_none e np)]; exact e) (s1.free np) upd_same (dvs.up fun b x e => by rw [upd_ne (ne_of_none e np)]; exact e)⟩
theorem dxs_rep {H : Hp} {xs : List V} {es : List PyData} (h : Dxs H xs es) : ∀ n : Nat, Dxs H (List.replicate n xs).flatten (List.replicate n es).flatten
  | 0 => .nil
  | n + 1 => by
    rw [List.replicate_succ, List.replicate_succ, List.flatten_cons, List.flatten_cons]
    exact h.app (dxs_rep h n)
/-- t * k -/
theorem pd_rep {b : Expr} {k : Int} {tb : TE} (h : PE X e (tD (.tuple ds))) (hb : PE X b tb) (hk : ∀ (σ : L2.St) (H : Hp) (Q : VK), Q (.int k) H → tb σ H Q) (k2 : 2 ≤ k) (k1 : k ≤ 1000) (hn : ds ≠ []) (hz : ds.length ≤ 1000) :
    PE X (.BinOp e .Mult b pos) (tD (.tuple (List.replicate k.toNat ds).flatten)) :=
  PE.imp (pe_op op_repT h hb) fun σ H Q q H1 v s1 dv => hk σ H1 _ (by
    cases dv with
    | @tup a xs _ ea hx =>
      have hl := hx.len
      refine ⟨a, k, xs, rfl, rfl, .inl (.inl ea), ?_, k2, k1, by omega, fun p np => q _ _ (s1.trans fun b x e => by rw [upd_ne (ne_of_none e np)]; exact e) (.tup upd_same ((dxs_rep hx k.toNat).up fun b x e => by rw [upd_ne (ne_of_none e np)]; exact e))⟩
      intro z
      subst z
      exact hn (List.eq_nil_of_length_eq_zero (by simpa using hl.symm)))
end
end KX

set_option maxRecDepth 100000
set_option maxHeartbeats 4000000
/-! an own exception class right over a built-in one, whose __init__ says B.__init__(self, x) and then stores -/
namespace KX
open PySem PySem.Spec PyProof.Rows L2
/-- what the library knows of the built-in class B -/
structure XB (B newI iniI : String) (tl : List Value) : Prop where
  fb : PySem.ExcBaseFacts B newI iniI tl
  sf : PySem.StoreFacts B tl "object.__setattr__" "object"
/-- what the written part says of the class at C -/
structure XC (K : PySem.W.Frag) (B newI iniI : String) (tl : List Value) (C : Addr) : Prop where
  b : XB B newI iniI tl
  ini : PySem.W.excInitIn K C tl newI = true
  ovr : PySem.W.excOver K C tl = true
  sa : PySem.W.findIn K (.ref C) "__setattr__" = some (some (.builtin "object.__setattr__"))
  hd : PySem.W.hasDictIn K C = true
  sub : PySem.W.subIn K (.ref C) (.type "BaseException") = some true
  ty : PySem.W.typeIn K (.ref C) = some (.type "type")
  kp : PySem.W.keepIn K (.ref C) = true
section
open PySem.W PySem.Calls PySem.HandSPX Builtin Builtin.ObjectAttr
variable {prog : Program} {w : World} {A : Around} {E : Value → Shared → Prop} {R : Result → Shared → Prop} {hp : Heap} {g : Array GenState} {d : Drawn} {t : Nat} {os : OsState}
/-- the first store into such an exception -/
theorem osa_first {K : PySem.W.Frag} {nm : Str} {tk : Tok} {v : Value} {x C : Addr} {fv : Array Value} {B newI iniI : String} {tl : List Value} (T : XC K B newI iniI tl C)
    (X : K.In hp) (hx : hp.get? x = some { cls := .ref C, data := .fields fv }) (ha : PySem.W.findIn K (.ref C) nm = some none)
    (done : ∀ h2 tk2 dx, (∀ b o, b ≠ x → hp.get? b = some o → h2.get? b = some o) → hp.objs.size ≤ dx → dx ≠ x → h2.get? x = some { cls := .ref C, dict := some dx, data := .fields fv } →
      h2.Ns1 dx (fun y => if y = nm then some v else none) → R (.ok (.ret .none)) ⟨h2, g, d, tk2, os⟩) :
    codeAny (model prog w) A (.call (.builtin "object.__setattr__") ⟨[.ref x, .str nm tk, v], []⟩) R ⟨hp, g, d, t, os⟩ := by
  have tkr : PySem.W.takerIn K C nm = some none := by unfold PySem.W.takerIn; rw [ha]; rfl
  refine PySem.W.osa_openX (s := ⟨hp, g, d, t, os⟩) (od := none) T.b.sf X ⟨hx, rfl, rfl, trivial⟩ T.ovr tkr fun b => ?_
  obtain ⟨cd, hc, hdd⟩ := PySem.W.any_some T.hd
  have hcls : PySem.W.Looks (model prog w) hp (classData C) cd := PySem.W.looks_clsIn X hc
  have far : x ≠ hp.objs.size := Nat.ne_of_lt (Heap.lt_size hx)
  obtain ⟨nm', bs, mro, ns, qn, hd', sn, sb, ab, col, del⟩ := cd
  dsimp only at hdd
  subst hdd
  dsimp only
  unfold storeInOwnDict ownDictForStores
  repeat (first | with_reducible refine store_in_new ?_ ?_ | with_reducible refine wpAny_loadPart_at hx ?_ | with_reducible refine hcls.at ?_ | wp_step)
  · exact ⟨_, #[], _, (Heap.get?_update_ne _ _ _ _ far.symm).trans (Heap.get?_push_at rfl rfl), rfl, fun e he => absurd he (by simp), fun _ => rfl⟩
  · intro h2 tk2 hn2 hs
    have hx1 : (hp.push { cls := .type "dict", data := .dict #[] }).get? x = some { cls := .ref C, data := .fields fv } := Heap.get?_push_of_some _ hx
    refine done h2 tk2 hp.objs.size (fun b o hb ho => ?_) (Nat.le_refl _) far.symm ?_ hn2
    · have z := Heap.get?_push_of_some { cls := .type "dict", data := .dict #[] } ho
      exact (hs.2 b (Nat.ne_of_lt (Heap.lt_size ho))).trans ((Heap.get?_update_ne _ _ _ _ hb).trans z)
    · have z := Heap.get?_update_self (fun o => { o with dict := some hp.objs.size }) hx1 rfl
      exact (hs.2 x far).trans z
end
section
variable {X : Cx} {pins : List (Addr × Obj)} {σ : L2.St} {H : Hp} {s : Shared} {a C dx : Addr} {f : Str} {y : V} {u : Value} {E : Value → Shared → Prop} {A : Around} {B newI iniI : String} {tl : List Value}
/-- self.f = y, the first store -/
theorem store_first {Q : Unit → Shared → Prop} (T : XC X.K B newI iniI tl C) (I : Inv X pins σ H s) (e : H a = some (exo a C none)) (hno : PySem.W.findIn X.K (.ref C) f = some none) (ry : RelV y u)
    (go : ∀ dx s2, H dx = none → dx ≠ a → Inv X pins σ (upd (upd H dx (exd dx [(f, y)])) a (exo a C (some dx))) s2 → Q () s2) :
    wpAny (model X.prog X.w) A (setAttr (.ref a) f u) Q E s := by
  obtain ⟨t1, ho⟩ := exo_at I.hok e
  obtain ⟨hp, g, d, t, os⟩ := s
  refine PySem.W.set_plain I.kIn (ox := { cls := .ref C, dict := none, data := .fields #[.ref t1, .none, .none, .none, .bool false, .none] })
    (od := none) ⟨ho, rfl, rfl, trivial⟩ T.sa (osa_first T I.kIn ho hno (fun h2 tk2 dx k dn dne hx hn => ?_))
  have hnd : H dx = none := I.hok.fresh dn
  have new : ∀ {b : Addr} {o : Obj}, hp.get? b = some o → b ≠ dx := fun {b o} q => Nat.ne_of_lt (Nat.lt_of_lt_of_le (Heap.lt_size q) dn)
  have notA : ∀ {b : Addr}, H b = none → b ≠ a := fun {b} n z => by
    rw [z, e] at n
    cases n
  have U : Un X.fs [] H (upd (upd H dx (exd dx [(f, y)])) a (exo a C (some dx))) hp h2 := {
    keep := fun b o q n _ _ => k b o (notA n) q
    slot := fun b o q n _ _ => ⟨o.slots, k b o (notA n) q⟩
    free := fun b o q n _ => by rw [upd_ne (notA n), upd_ne (new q)]; exact n
    there := fun b o q _ => by
      by_cases hb : b = a
      · exact ⟨_, by rw [hb]; exact hx⟩
      · exact ⟨o, k b o hb q⟩
    tups := fun b xs q => by rw [upd_ne (at_ne e q exo_tup), upd_ne (ne_of_none q hnd)]; exact q
    frzs := fun b o v q => by rw [upd_ne (at_ne e q exo_frz), upd_ne (ne_of_none q hnd)]; exact q
    tbls := fun b ps q => ⟨#[], by rw [upd_ne (at_ne e q exo_tbl), upd_ne (ne_of_none q hnd), q]; simp⟩ }
  refine go dx _ hnd dne (I.un (t' := tk2) U fun b o q => ?_)
  by_cases hb : b = a
  · subst hb
    rw [upd_same] at q
    cases q
    exact exo_ok hx
  · rw [upd_ne hb] at q
    by_cases hd : b = dx
    · subst hd
      rw [upd_same] at q
      cases q
      exact exd_ok hn (relO_put (fs := []) ry fun g => True.intro)
    · rw [upd_ne hd] at q
      refine (I.hok b o q).stay (fun c v hc z => k c v ?_ z) (fun c hc => ?_) (fun c xs hc => ?_)
      · rcases hc with hc | hc
        · rw [hc]
          exact hb
        · exact at_ne e hc exo_own
      · rw [upd_ne (at_ne e hc exo_own), upd_ne (ne_of_none hc hnd)]
        exact hc
      · rw [upd_ne (at_ne e hc exo_tup), upd_ne (ne_of_none hc hnd)]
        exact hc
/-- B.__init__(self, ..): nothing of it is told -/
theorem init_told {us : List Value} {Q : Value → Shared → Prop} (T : XC X.K B newI iniI tl C) (I : Inv X pins σ H s) (e : H a = some (exo a C none)) (hl : us.length ≤ sizeLine) (go : ∀ s2, Inv X pins σ H s2 → Q .none s2) :
    wpAny (model X.prog X.w) A (call (.builtin iniI) (.ref a :: us)) Q E s := by
  obtain ⟨nm, N, qn, bs, bm, hdct, sn, sub, ab, col, dd, k0, k1, k2, k3, k5, hC, hT⟩ := PySem.W.excInit_of I.kIn T.ini
  obtain ⟨t1, ho⟩ := exo_at I.hok e
  obtain ⟨hp, g, d, t, os⟩ := s
  refine wpAny_call (PySem.HandSPX.init_base T.b.fb hT hC ho hl fun h2 t2 k hx => go _ ?_)
  have J := I.write (t' := t) (x := a) (e := a) (o := exo a C none) (by rw [e]; exact True.intro) (.inl rfl) k ⟨_, hx⟩ (exo_ok hx)
  have same : upd H a (exo a C none) = H := by
    funext b
    by_cases hb : b = a
    · rw [hb, upd_same, e]
    · rw [upd_ne hb]
  rw [same] at J
  exact J
end
/-- B.__init__(self, ..) -/
def tBini (K : PySem.W.Frag) (B newI iniI : String) (tl : List Value) (ta : TA) : TE := fun σ H Q => ta σ H fun vs H1 =>
  ∃ (a C : Addr) (ws : List V), vs = .ref a :: ws ∧ ws.length ≤ 1000 ∧ XC K B newI iniI tl C ∧ H1 a = some (exo a C none) ∧ Q .non H1
/-- self.f = e, the first store -/
def tFst (K : PySem.W.Frag) (B newI iniI : String) (tl : List Value) (f : Str) (to te : TE) : TS := fun D σ H => te σ H fun y H1 => to σ H1 fun x H2 =>
  ∃ a C : Addr, x = .ref a ∧ XC K B newI iniI tl C ∧ PySem.W.findIn K (.ref C) f = some none ∧ H2 a = some (exo a C none) ∧
    ∀ dx, H2 dx = none → dx ≠ a → D.nx σ (upd (upd H2 dx (exd dx [(f, y)])) a (exo a C (some dx)))
section
variable {X : Cx} {o e : Expr} {es : List Expr} {to te : TE} {ta : TA} {f : Str} {p p' p1 p2 pos : Pos} {B newI iniI : String} {tl : List Value}
theorem ps_fst (ho : PE X o to) (he : PE X e te) (hs : swapsWith e (some (.Attribute o f p')) pos.line X.env = pure false := by rfl) : PS X (.Assign [.Attribute o f p'] e pos) (tFst X.K B newI iniI tl f to te) := by
  refine ⟨fun pins s σ H D I h => ?_⟩
  refine plainObj_wpAny_Assign_Attribute (thn (he.run pins s σ H _ I h) fun v s1 z1 => ?_) hs
  obtain ⟨y, H1, I1, r1, q1⟩ := z1
  refine thn (ho.run pins s1 σ H1 _ I1 q1) fun u s2 z2 => ?_
  obtain ⟨x, H2, I2, r2, a, C, ex, T, hno, ea, q⟩ := z2
  subst ex
  obtain rfl : u = Value.ref a := r2
  exact store_first T I2 ea hno r1 fun dx s3 n ne J => ⟨σ, _, J, q dx n ne⟩
theorem pe_bini {pl : Sem Bool} (hg : Gl X "IndexError") (hm : X.mg "IndexError" = none) (vV : PySem.W.findCls X.K (.type "IndexError") (.type "type") "__init__" = some (.val (.builtin "IndexError.__init__"))) (ha : PA X (e :: es) ta)
    (hc : eval (.Call (.Attribute (.Name "IndexError" p1) "__init__" p2) (e :: es) [] pos) X.env = (do
      let cv ← eval (.Name "IndexError" p1) X.env
      standAt p2.atName
      let (fn, ahead) ← holding [cv] (getMethod cv "__init__" pl)
      callWith pos fn ahead (backTo pos (starEach (e :: es) X.env)) (backToKw pos (keywordEach [] X.env))) := by rfl)
    (he : starEach (e :: es) X.env = (false, eval e X.env) :: starEach es X.env := by rfl) (hpl : (backTo pos (starEach es X.env)).any (·.1) = false := by rfl) :
    PE X (.Call (.Attribute (.Name "IndexError" p1) "__init__" p2) (e :: es) [] pos) (tBini X.K "IndexError" newI "IndexError.__init__" tl ta) := by
  refine ⟨fun pins s σ H Q I h => ?_⟩
  have ty : typeOf (.type "IndexError") = pure (.type "type") := by kernel_rfl
  refine PySem.W.methodCall_KW (ld_blt I hg hm PyProof.Rows.Boot.«IndexError» ?_ (by decide) (by decide)) hc
  obtain ⟨m, fr⟩ := I.fr
  refine PySem.W.method_type fr I.ok.mod.kin ty (by decide +kernel) vV (by decide +kernel) ?_
  show wpAny _ _ (callWith pos (Value.builtin "IndexError.__init__") [] (backTo pos (starEach (e :: es) X.env)) []) _ _ _
  refine PyProof.Rows.callWith_method1 (thn (ha.run pos pins _ σ H _ (I.tok _) h) fun us s1 z => ?_) he hpl
  obtain ⟨vs, H1, I1, r1, a, C, ws, ev, hl, T, ea, q⟩ := z
  subst ev
  cases r1 with
  | @cons _ u0 _ ur ra rw' =>
    obtain rfl : u0 = Value.ref a := ra
    have hlen : ur.length ≤ sizeLine := by
      rw [← Paired.length rw', sizeLine_eq]
      omega
    exact init_told T I1 ea hlen fun s2 J => ⟨.non, H1, J, rfl, q⟩
/-- C(e, ..) -/
theorem pmk_x {CX : CXT} {x : Str} {C fI : Addr} {k : Nat} {fd : FuncData} {ps : List Str} {sp : Sp} (T : XC X.K B newI iniI tl C) (iC : PySem.W.findIn X.K (.ref C) "__init__" = some (some (.ref fI)))
    (tI : PySem.W.typeIn X.K (.ref fI) = some (.type "function")) (F1 : FnOk X.prog X.w X.K X.mg X.base CX k fI fd ps sp) (hr : Room (k + 1) X.A) (hb : Binds X.K fd ps []) (hx : Passes CX X (fun _ _ _ => False)) (hg : Gl X x)
    (hm : X.mg x = some (.ref C)) (ha : PA X (e :: es) ta) (hdb : (x == ("__debug__" : Str)) = false := by decide) (he : starEach (e :: es) X.env = (false, eval e X.env) :: starEach es X.env := by rfl)
    (hpl : (backTo pos (starEach es X.env)).any (·.1) = false := by rfl) : PMk X (.Call (.Name x p) (e :: es) [] pos) (tMkO C sp [] ta) := by
  intro pins s σ H Q I h
  obtain ⟨nm, N, qn, bs, bm, hdct, sn, sub, ab, col, dd, k0, k1, k2, k3, k5, hC, hT⟩ := PySem.W.excInit_of I.kIn T.ini
  refine wpAny_Call_Name_kw (ld_glob I hg hm ?_ hdb)
  refine PySem.W.callWith_K (h₀ := X.base) I.ok.mod.kin T.kp (thn (ha.run pos pins s σ H _ I h) fun us s1 z => ?_) he hpl
  obtain ⟨vs, H1, I1, r1, hz, q1⟩ := z
  have X1 := I1.kIn
  refine ⟨X1, ?_⟩
  obtain ⟨nm, N, qn, bs, bm, hdct, sn, sub, ab, col, dd, k0, k1, k2, k3, k5, hC, hT⟩ := PySem.W.excInit_of X1 T.ini
  show wpAny _ _ (call (.ref C) us) _ _ _
  obtain ⟨hp, g, dr, tk, os⟩ := s1
  have up : hp.objs.size ≤ hp.objs.size + 1 := Nat.le_succ _
  have hq := q1 (hp.objs.size + 1) (I1.hok.fresh up)
  have kk : ∀ b o, hp.get? b = some o → ((hp.push (PySem.W.kdv_tup us)).push (PySem.HandSPX.excO C hp.objs.size)).get? b = some o :=
    fun b o e => Heap.get?_push_of_some _ (Heap.get?_push_of_some _ e)
  have hget : ((hp.push (PySem.W.kdv_tup us)).push (PySem.HandSPX.excO C hp.objs.size)).get? (hp.objs.size + 1) = some (PySem.HandSPX.excO C hp.objs.size) := by heap_get
  have I2 : Inv X pins σ (upd H1 (hp.objs.size + 1) (exo (hp.objs.size + 1) C none)) ⟨(hp.push (PySem.W.kdv_tup us)).push (PySem.HandSPX.excO C hp.objs.size), g, dr, tk, os⟩ :=
    I1.laid (t' := tk) (a := hp.objs.size + 1) (o := exo (hp.objs.size + 1) C none) (h' := (hp.push (PySem.W.kdv_tup us)).push (PySem.HandSPX.excO C hp.objs.size)) kk up (exo_ok hget)
  have r2 : Vals (V.ref (hp.objs.size + 1) :: (vs ++ [])) (Value.ref (hp.objs.size + 1) :: us) := .cons rfl (by rw [List.append_nil]; exact r1)
  have hl : (Value.ref (hp.objs.size + 1) :: us).length = ps.length := by
    rw [← r2.length]
    exact F1.len _ _ _ _ hq
  have hus : us.length ≤ sizeLine := by
    rw [← Paired.length r1, sizeLine_eq]
    omega
  have hbd := hb ⟨(hp.push (PySem.W.kdv_tup us)).push (PySem.HandSPX.excO C hp.objs.size), g, dr, tk, os⟩ (Value.ref (hp.objs.size + 1) :: us) I2.kIn (by rw [List.append_nil]; exact hl)
  rw [List.append_nil] at hbd
  have go := F1.run _ X.stack _ _ ⟨Value.ref (hp.objs.size + 1) :: us, []⟩ (Value.ref (hp.objs.size + 1) :: us) _ _ (fun _ _ _ => False) (hr.make C us []) (I2.env0.make C us []) hbd r2 hq
  refine wpAny_call (PySem.HandSPX.call_own T.b.fb hT hC (PySem.W.looks_findIn X1 iC) (fun self => PySem.W.bind_fn X1 self tI) hus (codeAny_mono go fun r s2 z => ?_))
  cases r with
  | error er => exact hx pins σ _ _ er s2 I2 z
  | ok fl =>
    cases fl with
    | ret u =>
      obtain ⟨v, H2, os2, bare2, un2, hok2, rv, ev, d, fs, ea, ed, hd1, q2⟩ := z
      subst ev
      obtain ⟨h2, g2, d2, t2, os'⟩ := s2
      exact ⟨rv, mk_end (raises_own T.sub T.ty) I1 up kk un2 hok2 os2 bare2 ea ed hd1 q2⟩
    | next => exact False.elim z
    | brk => exact False.elim z
    | cont => exact False.elim z
end
end KX

set_option maxRecDepth 100000
set_option maxHeartbeats 4000000
namespace KX
open PySem PySem.Spec PyProof.Rows L2
/-- isinstance(e, T), isinstance(e, (T, U)): e the exception that the suite holds, an instance of a class of the program with fields of its own -/
structure XI (K : PySem.W.Frag) (C : Addr) : Prop where
  ga : PySem.W.findIn K (.ref C) "__getattribute__" = some (some (.builtin "BaseException.__getattribute__"))
  gg : PySem.W.findIn K (.ref C) "__getattr__" = some none
  sub : PySem.W.subIn K (.ref C) (.type "BaseException") = some true
  hd : PySem.W.hasDictIn K C = true
  hcl : PySem.W.findIn K (.ref C) "__class__" = some (some (.builtin "object.__class__"))
  sp : PySem.W.specialIn K (.builtin "object.__class__") "__get__" = some (some (.builtin "getset_descriptor.__get__"))
  tk : PySem.W.takesIn K (.builtin "object.__class__") = some true
  mro : PySem.W.mroIn K C (.type "object") = some true
theorem XI.xf {K : PySem.W.Frag} {C : Addr} (T : XI K C) : XfC K C := ⟨T.ga, T.gg, T.sub, T.hd⟩
def rIsX (K : PySem.W.Frag) (a : Addr) (cls : Value) (d : Option Addr) : List V → Hp → VK → Prop := fun xs H Q =>
  ∃ (C dd : Addr) (fs : List (Str × V)) (c : V) (b : Bool), XI K C ∧ cls = .ref C ∧ d = some dd ∧ H dd = some (.xd fs) ∧ xs = [.ref a, c] ∧
    ((∃ cv, (∀ u, RelV c u → u = cv) ∧ PySem.W.kitOne K (.ref C) cv = some b) ∨
      ∃ (tp : Addr) (ys : List V) (its : List Value), c = .ref tp ∧ H tp = some (.tup ys) ∧ (∀ us, Vals ys us → us = its) ∧ PySem.W.kitAny K (.ref C) its = some b) ∧ Q (.bl b) H
theorem call_isX {X : Cx} {a : Addr} {oe : Obj} {cls : Value} {d : Option Addr} {pn : List (Addr × Obj)} (hz : Zc cls d oe) (hf : ∃ vs, oe.data = .fields vs) :
    CallR (X.suite a ((a, oe) :: pn)) (.builtin "isinstance") (rIsX X.K a cls d) := by
  intro pins s σ H xs us Q I r h
  obtain ⟨C, dd, fs, c, b, T, ec, ed, eH, rfl, hc, q⟩ := h
  subst ec ed
  obtain ⟨hget, _⟩ := I.pin (a, oe) (List.mem_append.mpr (.inl List.mem_cons_self))
  obtain ⟨vs, hv⟩ := hf
  have hx : ObjOk X.prog X.w H s.heap dd (.xd fs) := I.hok dd _ eH
  obtain ⟨mA, hns, _⟩ := hx
  obtain ⟨od, ho, _⟩ := lookIn_ns hns
  have J : PySem.W.InstAt s.heap a oe C (some od) := ⟨hget, hz.1, by unfold PySem.W.notCls; rw [hv] <;> rfl, by rw [hz.2]; exact ho⟩
  have hcl : (PySem.W.clsIn X.K C).isSome = true := by
    obtain ⟨cd, hc, _⟩ := PySem.W.any_some T.hd
    rw [hc]; rfl
  have Z : PySem.W.KitX X.K (.ref a) (.ref C) (fun h => PySem.W.InstAt h a oe C (some od)) := PySem.W.kitx_exc hcl T.ga T.gg T.sub T.hcl T.sp T.tk T.mro
  obtain ⟨u, rfl, ru, uc, rc⟩ : ∃ u2, us = [.ref a, u2] ∧ RelV c u2 ∧ True ∧ True := by
    cases r with
    | cons r1 r2 =>
      cases r2 with
      | cons r3 r4 =>
        cases r4
        cases r1
        exact ⟨_, rfl, r3, trivial, trivial⟩
  rcases hc with ⟨cv, hcv, e⟩ | ⟨tp, ys, its, rfl, hH, hits, e⟩
  · have eu := hcv _ ru
    subst eu
    exact PySem.W.kia_one Z I.kIn J e (fun z => nomatch z) fun tk => ⟨.bl b, H, I.kept (t' := tk) fun _ _ z => z, rfl, q⟩
  · obtain rfl : u = Value.ref tp := ru
    obtain ⟨_, us2, r2, o, h1, h2, n, h3⟩ := (show ObjOk X.prog X.w H s.heap tp (.tup ys) from I.hok tp _ hH)
    have eu := hits us2 r2
    subst eu
    obtain ⟨oc, od2, oda, osl⟩ := o
    dsimp only at h2 h3
    subst h2 h3
    exact PySem.W.kia_tup Z I.kIn J h1 e (fun z => nomatch z) fun tk => ⟨.bl b, H, I.kept (t' := tk) fun _ _ z => z, rfl, q⟩
end KX

set_option maxRecDepth 100000
set_option maxHeartbeats 4000000
namespace KX
open PySem PySem.Spec PyProof.Rows L2
section
variable {X : Cx}
/-- x in t, x not in t: t a tuple of data, x data, no dicts -/
def rInT (K : PySem.W.Frag) (f : Bool → Bool) : R2 := fun x y H Q => ∃ d ds, Dp K H x d ∧ Dp K H y (.tuple ds) ∧ d.plain = true ∧ PyData.plainAll ds = true ∧ PyData.depthAll ds ≤ 60 ∧ Q (.bl (f (ds.any fun z => PyData.eqv z d))) H
theorem op_inTD (hu : X.A.units + 64 < cLine) : OpR X (compareOp .In) (rInT X.K id) := by
  intro pins s σ H x y v u Q I rx ry h
  obtain ⟨d, ds, hd, he, pd, pe, hm, q⟩ := h
  obtain ⟨as, r1⟩ := Dp.reads I d x v hd rx
  obtain ⟨bs, r2⟩ := Dp.reads I (.tuple ds) y u he ry
  exact SeqAt.in_tuple_data r2 r1 pe pd (by omega) ⟨.bl _, H, I, rfl, q⟩
theorem op_ninTD (hu : X.A.units + 64 < cLine) : OpR X (compareOp .NotIn) (rInT X.K not) := by
  intro pins s σ H x y v u Q I rx ry h
  obtain ⟨d, ds, hd, he, pd, pe, hm, q⟩ := h
  obtain ⟨as, r1⟩ := Dp.reads I d x v hd rx
  obtain ⟨bs, r2⟩ := Dp.reads I (.tuple ds) y u he ry
  exact SeqAt.notIn_tuple_data r2 r1 pe pd (by omega) ⟨.bl _, H, I, rfl, q⟩
/-- len(s), s a set of numbers -/
theorem call_lenZ : CallR X (.builtin "len") (fun xs H Q => ∃ (a : Addr) (S : Int → Bool) (n : Nat), xs = [.ref a] ∧ H a = some (SetO X.w a S n) ∧ Q (.int n) H) := by
  intro pins s σ H xs us Q I r h
  obtain ⟨a, S, n, rfl, ha, q⟩ := h
  obtain ⟨u, rfl, ru⟩ := vals1 r
  obtain rfl : u = Value.ref a := ru
  obtain ⟨o, es, ep, t, ho, hex, hd, _, _, _, hb, hf, hn, _⟩ := setO_get I ha
  have hb' : (scanBound : Nat) < 2 ^ 63 := by decide
  exact call_len_set ho hex hd hf (by omega) ⟨.int n, H, I.tok _, ⟨_, by rw [hn]⟩, q⟩
/-- what a turn of {k for x in t} leaves -/
def addS (w : World) (D : Addr) (S : Int → Bool) (n : Nat) (k : Int) (H : Hp) : Hp := upd H D (SetO w D (fun j => S j || decide (j = k)) (if S k = true then n else n + 1))
theorem into_set {pins : List (Addr × Obj)} {σ : L2.St} {H : Hp} {s : Shared} {E : Value → Shared → Prop} {D : Addr} {S : Int → Bool} {n : Nat} {k : Int} {tk : Tok} {Q : Value → Shared → Prop} (I : Inv X pins σ H s)
    (hD : H D = some (SetO X.w D S n)) (room : n + 1 < scanBound) (go : ∀ s2, Inv X pins σ (addS X.w D S n k H) s2 → Q .none s2) : wpAny (model X.prog X.w) X.A (call (.builtin "set.add") [.ref D, .int k tk]) Q E s := by
  refine setR_add (setO_get I hD) room fun h2 sb new => go _ ?_
  have ex : ∃ u, h2.get? D = some u := by
    obtain ⟨o, _, _, _, ho, _⟩ := new
    exact ⟨o, ho⟩
  exact I.write (e := D) (t' := s.toks + 1) (by rw [hD]; trivial) (.inl rfl) (fun b u hb hu => (sb.2 b hb).trans hu) ex (setO_new new)
/-- {e for x in t}, no ifs, e a number: D the new set -/
def tSetI (w : World) (wi : TI) (g : TG) (te : TE) (vs : List Nat) : TE := fun σ H Q => wi σ H fun J H1 => ∀ D, H1 D = none → ∃ W : Nat → Nat → Hp → Prop, (∃ m, W 0 m (upd H1 D (SetO w D (fun _ => false) 0))) ∧
  ∀ i m G, W i m G → (J.stop i G ∧ Q (.ref D) G) ∨ (J.go i G ∧ ∀ x G1, J.yld i G x G1 → g x (wipe σ vs) G1 fun σ2 G2 => wipe σ2 vs = wipe σ vs ∧
    te σ2 G2 fun y G3 => ∃ (k : Int) (S : Int → Bool) (n : Nat), y = .int k ∧ G3 D = some (SetO w D S n) ∧ n + 1 < scanBound ∧ ∃ m2, m2 < m ∧ W (i + 1) m2 (addS w D S n k G3))
abbrev freshSet (w : World) : Obj := { cls := .type "set", dict := none, data := .set #[] 0 (.fresh 0 0 (!w.params.followText "set-order")) }
theorem pe_setI {elt tg iter : Expr} {scope : Scope} {own : List (PySem.Str × Nat)} {pos : Pos} {wi : TI} {g : TG} {te : TE} (hc : X.calm = true) (hN : X.N.Nodup) (hi : PI X tg iter wi) (ok : BlkOk X.N X.env.scope scope own)
    (hg : ∀ (s : Shared) (H : Hp) (C : Addr) (cl : List (PySem.Str × Addr)) (fp : List Addr), PG (X.blk s H scope (compEnvC scope cl C X.env) fp) tg g)
    (he : ∀ (s : Shared) (H : Hp) (C : Addr) (cl : List (PySem.Str × Addr)) (fp : List Addr), PE (X.blk s H scope (compEnvC scope cl C X.env) fp) elt te)
    (hs : ∀ x, foldedSetIterable iter X.env x = pure x := by intro _; rfl) :
    PE X (.SetComp elt [⟨tg, iter, [], 0⟩] scope pos) (tSetI X.w wi g te (own.map (·.2))) := by
  refine ⟨fun pins s σ H Q I h => ?_⟩
  rw [PpSet.eval_SetComp]
  have cap : ∀ y ∈ scope.names, y.2 = .free → ∃ c, X.env.cells.lookup y.1 = some c := fun y hy e => (ok.free y hy e).elim (fun k => I.ok.has _ (.inl k)) fun k => I.ok.has _ (.inr k)
  refine wpAny_comprehension_free rfl hs (closure_ok cap) ok.kind (fun y hy e => by rw [ok.uniq y hy, e]) (thn (hi.run pins s σ H _ I h) fun xv s1 hx => thn hx fun itv s2 z => ?_)
  obtain ⟨it, fp, tn, J, H2, rfl, I2, T, at0, own2, q⟩ := z
  refine PpSet.newSet_ok (newEnv_comp ?_)
  obtain ⟨D, hD⟩ : ∃ D, D = s2.heap.objs.size := ⟨_, rfl⟩
  rw [← hD]
  obtain ⟨W, ⟨m0, w0⟩, turn⟩ := q D (I2.hok.fresh (Nat.le_of_eq hD.symm))
  obtain ⟨s3, es3⟩ : ∃ s3 : Shared, s3 = { s2 with heap := s2.heap.push (freshSet X.w) } := ⟨_, rfl⟩
  obtain ⟨H3, eH3⟩ : ∃ H3, H3 = upd H2 D (SetO X.w D (fun _ => false) 0) := ⟨_, rfl⟩
  have I3 : Inv X pins σ H3 s3 := by
    rw [es3, eH3]
    refine I2.laid (t' := s2.toks) (fun b o e => Heap.get?_push_of_some _ e) (Nat.le_of_eq hD.symm) ?_
    rw [hD]
    exact setO_new (setR_fresh X.w)
  have kp3 : ∀ b o, s2.heap.get? b = some o → s3.heap.get? b = some o := fun b o e => by rw [es3]; exact Heap.get?_push_of_some _ e
  have own3 : ∀ b ∈ fp, FpOk X pins H3 b ∧ b < s3.heap.objs.size := fun b hb => by
    obtain ⟨o, eo, _⟩ := T.obj _ _ at0 b hb
    have lt := Heap.lt_size eo
    refine ⟨⟨?_, (own2 b hb).2⟩, Heap.lt_size (kp3 b o eo)⟩
    rw [eH3, upd_ne (by rw [hD]; exact Nat.ne_of_lt lt)]
    exact (own2 b hb).1
  have I4 := block_start I3 ok hN own3
  obtain ⟨C, eC⟩ : ∃ C, C = s3.heap.objs.size := ⟨_, rfl⟩
  obtain ⟨cl, ecl⟩ : ∃ cl, cl = cellsFrom (s3.heap.objs.size + 1) scope.names (cloFrom X.env.cells scope.names []) := ⟨_, rfl⟩
  have at3 : tn 0 s3.heap := T.keep _ _ _ at0 fun b _ o e => kp3 b o e
  rw [← es3, ← ecl, ← eC]
  rw [← ecl, ← eC] at I4
  obtain ⟨s4, es4⟩ : ∃ s4 : Shared, s4 = { s3 with heap := pushCells (s3.heap.push { cls := .type "dict", data := .dict #[] }) scope.names } := ⟨_, rfl⟩
  rw [← es4] at I4 ⊢
  have at4 : tn 0 s4.heap := T.keep _ _ _ at3 fun b _ o e => by rw [es4]; exact pushCells_keeps _ _ _ _ (Heap.get?_push_of_some _ e)
  obtain ⟨Y, eY⟩ : ∃ Y, Y = X.blk s3 H3 scope (compEnvC scope cl C X.env) fp := ⟨_, rfl⟩
  have pg := hg s3 H3 C cl fp
  have pe := he s3 H3 C cl fp
  rw [← eY] at pg pe I4
  have calmY : Y.calm = true := by rw [eY]; exact hc
  have still : ∀ {σ' : L2.St} {H' : Hp} {s' : Shared}, Inv Y [] σ' H' s' → (∀ b ∈ fp, H' b = none) → ∀ b ∈ fp, FpOk Y [] H' b := fun {σ' H' s'} I' hn b hb => by
    subst eY
    exact ⟨hn b hb, (I'.ok.exf b hb).1, I'.ok.exfs b hb, .inl hb, fun x c e => (I'.ok.exf b hb).2 x c e, fun p hp => absurd (show p ∈ ([] : List (Addr × Obj)) ++ [] from hp) (by simp)⟩
  have loop : codeAny (model X.prog X.w) X.A (.compLoop (.SetComp elt [⟨tg, iter, [], 0⟩] scope pos) 0 (.ref it) (.ref D) (compEnvC scope cl C X.env)) (compPost (model X.prog X.w) X.A X.xe none (EP X pins σ Q) (.ref D) C) s4 := by
    refine PpSet.compLoopS_any (fun m s' => ∃ i G, Inv Y [] (wipe σ (own.map (·.2))) G s' ∧ tn i s'.heap ∧ (∀ b ∈ fp, G b = none) ∧ W i m G) ?_ m0
      ⟨0, H3, I4, at4, fun b hb => (own3 b hb).1.1, by rw [eH3]; exact w0⟩
    rintro m s5 ⟨i, G, I5, at5, n5, w5⟩
    rcases turn i m G w5 with ⟨stop, qq⟩ | ⟨go, step⟩
    · have td := T.done Y (by rw [eY]) (by rw [eY]) (by rw [eY]) calmY i [] s5 _ G (fun _ _ => False) I5 (still I5 n5) at5 stop
      have cL : (compEnvC scope cl C X.env).locals = C := rfl
      subst eY
      refine thnF td fun r s6 z => ?_
      obtain ⟨hr, I6⟩ := z
      subst hr
      have back : ∀ b ∈ fp, (b ∈ X.ex ∨ X.s_0.heap.objs.size ≤ b) ∧ b ≠ X.env.locals ∧ (∀ x c, X.env.cells.lookup x = some c → c ≠ b) ∧ ∀ p ∈ X.pn ++ pins, p.1 ≠ b := fun b hb => by
        obtain ⟨_, a1, _, a3, a4, a5⟩ := (own3 b hb).1
        exact ⟨a3, a1, a4, a5⟩
      have I7 : Inv X pins σ G s6 := I3.call' (ch := fp) I6.os I6.base I6.hok I6.bare back
      have nC : G C = none := I6.free
      obtain ⟨mm, hn, _⟩ := I6.loc
      refine ⟨mm, hn, fun h2 sb => ?_⟩
      obtain ⟨f0, f1, f2, f3, f4, f5⟩ := I3.fpOk (Nat.le_of_eq eC.symm) nC
      exact ⟨.ref D, G, I7.turned (t' := s6.toks) (fun b o hb e => (sb.2 b hb).trans e) f0 f1 f3 f4 f5, rfl, qq⟩
    · have ti := T.item Y (by rw [eY]) (by rw [eY]) (by rw [eY]) calmY i [] s5 _ G (fun _ _ => False) I5 (still I5 n5) at5 go
      have xeY : Y.xe = fun _ _ => False := by rw [eY]
      have AY : Y.A = X.A := by rw [eY]
      have pY : Y.prog = X.prog := by rw [eY]
      have wY : Y.w = X.w := by rw [eY]
      subst eY
      refine thnF ti fun r s6 z => ?_
      obtain ⟨u, hr, h6⟩ := z
      subst hr
      refine thnF h6 fun _ s7 z => ?_
      obtain ⟨x, G7, I7, r7, y7, at7, n7⟩ := z
      have I7p := I7.pinned (still I7 n7) (T.obj _ _ at7)
      refine thnF (pg.run _ s7 _ G7 x u _ I7p r7 (step x G7 y7)) fun _ s8 z => ?_
      obtain ⟨σ8, G8, I8, hw8, q8⟩ := z
      show wpAny _ _ (forIn [] true _) _ _ s8
      refine wpAny_pure ?_
      rw [if_pos rfl]
      refine thnF (pe.run _ s8 σ8 G8 _ I8 q8) fun v s9 z => ?_
      obtain ⟨yv, G9, I9, r9, k, S, n, ey, hD9, room, m2, lt2, w2⟩ := z
      subst ey
      obtain ⟨tk, rfl⟩ := r9
      refine into_set (X := X.blk s3 H3 scope (compEnvC scope cl C X.env) fp) I9 hD9 room fun s10 I10 => ?_
      have pinned : ∀ b ∈ fp, ∀ o, s7.heap.get? b = some o → s10.heap.get? b = some o ∧ addS X.w D S n k G9 b = none := fun b hb o e =>
        have z := I10.pin (b, o) (List.mem_append_right _ (List.mem_append_right _ (mem_pinsAt hb e)))
        ⟨z.1, z.2.1⟩
      have hl : (wipe σ (own.map (·.2))).length = σ8.length := by rw [← hw8, wipe_length]
      refine ⟨m2, lt2, i + 1, _, (I10.unpinned (pins := [])).weak hl (fun j v e => ?_), T.keep _ _ _ at7 fun b hb o e => (pinned b hb o e).1, fun b hb => ?_, w2⟩
      · rw [← hw8] at e
        exact (wipe_some e).1
      · obtain ⟨o, e, _⟩ := T.obj _ _ at7 b hb
        exact (pinned b hb o e).2
  exact PpSet.codeAny_compStart_set loop (T.self X.A 0 _ _ _ at4 loop)
end
end KX
namespace KX
open PySem PySem.Spec PyProof.Rows L2
/-- {e for x in t}, t a tuple that stays -/
theorem setI_tup {w : World} {K : PySem.W.Frag} {a D : Addr} {xs : List V} {g : TG} {te : TE} {vs : List Nat} {σ : L2.St} {H1 : Hp} {Qd : Hp → Prop} (Pv : Nat → Hp → Prop) (h0 : Pv 0 (upd H1 D (SetO w D (fun _ => false) 0)))
    (hl : ∀ i G, i ≤ xs.length → Pv i G → SqT K G a xs)
    (hs : ∀ i x G, xs[i]? = some x → Pv i G → g x (wipe σ vs) G fun σ2 G2 => wipe σ2 vs = wipe σ vs ∧ te σ2 G2 fun y G3 => ∃ (k : Int) (S : Int → Bool) (n : Nat), y = .int k ∧ G3 D = some (SetO w D S n) ∧ n + 1 < scanBound ∧ Pv (i + 1) (addS w D S n k G3))
    (hd : ∀ G, Pv xs.length G → Qd G) :
    ∃ W : Nat → Nat → Hp → Prop, (∃ m, W 0 m (upd H1 D (SetO w D (fun _ => false) 0))) ∧ ∀ i m G, W i m G → ((Itt K a).stop i G ∧ Qd G) ∨ ((Itt K a).go i G ∧ ∀ x G1, (Itt K a).yld i G x G1 → g x (wipe σ vs) G1 fun σ2 G2 => wipe σ2 vs = wipe σ vs ∧
      te σ2 G2 fun y G3 => ∃ (k : Int) (S : Int → Bool) (n : Nat), y = .int k ∧ G3 D = some (SetO w D S n) ∧ n + 1 < scanBound ∧ ∃ m2, m2 < m ∧ W (i + 1) m2 (addS w D S n k G3)) := by
  refine ⟨fun i m G => m = xs.length - i ∧ i ≤ xs.length ∧ Pv i G, ⟨xs.length, by simp, Nat.zero_le _, h0⟩, fun i m G hw => ?_⟩
  obtain ⟨rfl, hi, p⟩ := hw
  have q := hl i G hi p
  by_cases lt : i < xs.length
  · refine .inr ⟨⟨xs, xs[i], q, List.getElem?_eq_getElem lt⟩, fun x G1 y => ?_⟩
    obtain ⟨rfl, y⟩ := y
    have z := hs i x G1 (y xs q) p
    have mono : ∀ {σ2 : L2.St} {G2 : Hp} {y : V} {G3 : Hp}, (∃ (k : Int) (S : Int → Bool) (n : Nat), y = .int k ∧ G3 D = some (SetO w D S n) ∧ n + 1 < scanBound ∧ Pv (i + 1) (addS w D S n k G3)) →
        ∃ (k : Int) (S : Int → Bool) (n : Nat), y = .int k ∧ G3 D = some (SetO w D S n) ∧ n + 1 < scanBound ∧ ∃ m2, m2 < xs.length - i ∧ m2 = xs.length - (i + 1) ∧ i + 1 ≤ xs.length ∧ Pv (i + 1) (addS w D S n k G3) :=
      fun {σ2 G2 y G3} h => by
        obtain ⟨k, S, n, e1, e2, e3, e4⟩ := h
        exact ⟨k, S, n, e1, e2, e3, _, by omega, rfl, by omega, e4⟩
    have key : (fun (y : V) (G3 : Hp) => ∃ (k : Int) (S : Int → Bool) (n : Nat), y = .int k ∧ G3 D = some (SetO w D S n) ∧ n + 1 < scanBound ∧ ∃ m2, m2 < xs.length - i ∧ m2 = xs.length - (i + 1) ∧ i + 1 ≤ xs.length ∧ Pv (i + 1) (addS w D S n k G3)) =
        fun (y : V) (G3 : Hp) => ∃ (k : Int) (S : Int → Bool) (n : Nat), y = .int k ∧ G3 D = some (SetO w D S n) ∧ n + 1 < scanBound ∧ Pv (i + 1) (addS w D S n k G3) := by
      funext y G3
      refine propext ⟨fun h => ?_, fun h => mono (σ2 := []) (G2 := G3) h⟩
      obtain ⟨k, S, n, e1, e2, e3, m2, _, _, _, e4⟩ := h
      exact ⟨k, S, n, e1, e2, e3, e4⟩
    rw [key]
    exact z
  · have e : i = xs.length := by omega
    subst e
    exact .inl ⟨⟨xs, q, Nat.le_refl _⟩, hd G p⟩
end KX

set_option maxRecDepth 100000
set_option maxHeartbeats 4000000
namespace KX
open PySem PySem.Spec PyProof.Rows L2
/-! ### what an expression of a law's generator makes, its stream at l: S is what is known of the data, P of the names -/
abbrev PSt := L2.St → Hp → Prop
def Kp (l : Addr) (P : PSt) : Prop := ∀ σ H H', Keep l H H' → StO H' l → P σ H → P σ H'
def GD (l : Addr) (P : PSt) (S : PyData → Prop) (t : TE) : Prop := ∀ σ H Q, StO H l → P σ H → (∀ H' v d, S d → Keep l H H' → StO H' l → Dx (hid l H') v d → Q v H') → t σ H Q
def GDs (l : Addr) (P : PSt) (S : List PyData → Prop) (t : TA) : Prop := ∀ σ H Q, StO H l → P σ H → (∀ H' vs ds, S ds → Keep l H H' → StO H' l → Dxs (hid l H') vs ds → Q vs H') → t σ H Q
def GI (l : Addr) (P : PSt) (S : Int → Prop) (t : TE) : Prop := ∀ σ H Q, StO H l → P σ H → (∀ H' i, S i → Keep l H H' → StO H' l → Q (.int i) H') → t σ H Q
/-- a new list, read by its items only -/
def GM (l : Addr) (P : PSt) (S : List PyData → Prop) (t : TE) : Prop := ∀ σ H Q, StO H l → P σ H → (∀ H' p xs ds, S ds → Keep l H H' → StO H' l → p ≠ l → H' p = some (.lst xs) → Dxs (hid l H') xs ds → Q (.ref p) H') → t σ H Q
def GO (l : Addr) (P : PSt) (o : Option Int) (t : TO) : Prop := ∀ σ H Q, StO H l → P σ H → (∀ H', Keep l H H' → StO H' l → Q o H') → t σ H Q
section
variable {l : Addr} {P : PSt} {K : PySem.W.Frag} {S S2 : PyData → Prop} {Ss Ss2 : List PyData → Prop} {N : Int → Prop} {t ta tb : TE} {ts : TA} {d : PyData} {ds : List PyData}
theorem GD.imp (h : GD l P S t) (i : ∀ d, S d → S2 d) : GD l P S2 t := fun σ H Q st p q => h σ H Q st p fun H' v d s => q H' v d (i d s)
theorem GDs.imp (h : GDs l P Ss ts) (i : ∀ d, Ss d → Ss2 d) : GDs l P Ss2 ts := fun σ H Q st p q => h σ H Q st p fun H' v d s => q H' v d (i d s)
theorem GM.imp (h : GM l P Ss t) (i : ∀ d, Ss d → Ss2 d) : GM l P Ss2 t := fun σ H Q st p q => h σ H Q st p fun H' v xs d s => q H' v xs d (i d s)
theorem gd_var {i : Nat} (h : ∀ σ H, P σ H → ∃ v d, σ[i]? = some (some v) ∧ S d ∧ Dx (hid l H) v d) : GD l P S (tVar i) := fun σ H Q st p q => by
  obtain ⟨v, d, e, s, x⟩ := h σ H p
  exact ⟨v, e, q H v d s (Keep.refl l H) st x⟩
theorem gd_c {v : V} (h : ∀ H, Dx H v d) : GD l P (· = d) (tC v) := fun σ H Q st p q => q H v d rfl (Keep.refl l H) st (h _)
theorem gi_val {n : Int} (h : ∀ (σ : L2.St) (H : Hp) (Q : VK), Q (.int n) H → t σ H Q) : GI l P (· = n) t := fun σ H Q st p q => h σ H Q (q H n rfl (Keep.refl l H) st)
theorem gi_var {i : Nat} (h : ∀ σ H, P σ H → ∃ n, σ[i]? = some (some (.int n)) ∧ N n) : GI l P N (tVar i) := fun σ H Q st p q => by
  obtain ⟨n, e, s⟩ := h σ H p
  exact ⟨.int n, e, q H n s (Keep.refl l H) st⟩
theorem gd_int (h : GI l P N t) : GD l P (fun d => ∃ i, N i ∧ d = .int i) t := fun σ H Q st p q => h σ H Q st p fun H' i s k st' => q H' _ _ ⟨i, s, rfl⟩ k st' (.int i)
theorem gds_nil : GDs l P (· = []) tNil := fun σ H Q st p q => q H _ _ rfl (Keep.refl l H) st .nil
theorem gds_cons (kp : Kp l P) (h : GD l P S t) (hs : GDs l P Ss ts) : GDs l P (fun x => ∃ d ds, x = d :: ds ∧ S d ∧ Ss ds) (tCons t ts) := fun σ H Q st p q =>
  h σ H _ st p fun H1 v d s k st1 x => hs σ H1 _ st1 (kp _ _ _ k st1 p) fun H2 vs ds ss k2 st2 xs => q H2 _ _ ⟨d, ds, rfl, s, ss⟩ (k.trans k2) st2 (.cons (x.up k2.same) xs)
theorem gd_tup (h : GDs l P Ss ts) (hz : ∀ ds, Ss ds → ds.length ≤ sizeLine) : GD l P (fun d => ∃ ds, d = .tuple ds ∧ Ss ds) (tTup ts) := fun σ H Q st p q =>
  h σ H _ st p fun H1 vs ds s k st1 x => ⟨by rw [x.len]; exact hz ds s, fun a na => q _ _ _ ⟨ds, rfl, s⟩ (k.new na) (st1.new na) (dx_tup na st1 x)⟩
theorem gd_lst (h : GDs l P Ss ts) (hz : ∀ ds, Ss ds → ds.length ≤ sizeLine) : GD l P (fun d => ∃ ds, d = .list ds ∧ Ss ds) (tLstS ts) := fun σ H Q st p q =>
  h σ H _ st p fun H1 vs ds s k st1 x => ⟨by rw [x.len]; exact hz ds s, fun a na za => q _ _ _ ⟨ds, rfl, s⟩ (k.new na) (st1.new na) (dx_lst na za st1 x)⟩
theorem gm_lst (h : GDs l P Ss ts) (hz : ∀ ds, Ss ds → ds.length ≤ sizeLine) : GM l P Ss (tLst ts) := fun σ H Q st p q =>
  h σ H _ st p fun H1 vs ds s k st1 x => ⟨by rw [x.len]; exact hz ds s, fun a na => q _ a vs ds s (k.new na) (st1.new na) (st1.ne na) upd_same (x.up (hnew na))⟩
theorem gm_var {i : Nat} (h : ∀ σ H, P σ H → ∃ p xs ds, σ[i]? = some (some (.ref p)) ∧ Ss ds ∧ p ≠ l ∧ H p = some (.lst xs) ∧ Dxs (hid l H) xs ds) : GM l P Ss (tVar i) := fun σ H Q st p q => by
  obtain ⟨a, xs, ds, e, s, na, ea, x⟩ := h σ H p
  exact ⟨.ref a, e, q H a xs ds s (Keep.refl l H) st na ea x⟩
theorem gm_cat (kp : Kp l P) (h : GM l P Ss ta) (h2 : GM l P Ss2 tb) (hz : ∀ x y, Ss x → Ss2 y → x.length + y.length ≤ sizeLine) : GM l P (fun z => ∃ x y, z = x ++ y ∧ Ss x ∧ Ss2 y) (tOp rCat ta tb) := fun σ H Q st p q =>
  h σ H _ st p fun H1 a xs ds s k st1 na ea x => h2 σ H1 _ st1 (kp _ _ _ k st1 p) fun H2 b ys es s2 k2 st2 nb eb y =>
    ⟨a, b, xs, ys, rfl, rfl, k2 _ _ na ea, eb, by rw [x.len, y.len]; exact hz _ _ s s2, fun c nc => q _ c _ _ ⟨ds, es, rfl, s, s2⟩ ((k.trans k2).new nc) (st2.new nc) (st2.ne nc) upd_same (((x.up k2.same).app y).up (hnew nc))⟩
theorem gd_ixM {n : Int} (kp : Kp l P) (h : GM l P Ss ta) (hi : GI l P (fun k => 0 ≤ k ∧ k < n) tb) (hn : ∀ ds, Ss ds → (ds.length : Int) = n) : GD l P (fun d => ∃ ds, Ss ds ∧ d ∈ ds) (tOp (rIxL K) ta tb) := fun σ H Q st p q =>
  h σ H _ st p fun H1 a xs ds s k st1 na ea x => hi σ H1 _ st1 (kp _ _ _ k st1 p) fun H2 i hb k2 st2 => by
    have hl := hn ds s
    have hx := x.len
    have lt : i.toNat < xs.length := by omega
    obtain ⟨d, ed, hd⟩ := x.get' (List.getElem?_eq_getElem lt)
    have ix : atI xs i = some xs[i.toNat] := by
      have z := atI_nat (xs := xs) (j := i.toNat) (List.getElem?_eq_getElem lt)
      rwa [show ((i.toNat : Nat) : Int) = i by omega] at z
    exact ⟨a, xs, i, _, rfl, rfl, .inl (.inl (k2 _ _ na ea)), ix, q H2 _ d ⟨ds, s, List.mem_of_getElem? ed⟩ (k.trans k2) st2 (hd.up k2.same)⟩
/-- t[k], t a tuple that is known -/
theorem gd_ixT {k : Nat} (kp : Kp l P) (h : GD l P (· = .tuple ds) ta) (hi : GI l P (· = (k : Int)) tb) (hk : ds[k]? = some d) : GD l P (· = d) (tOp (rIxT K) ta tb) := fun σ H Q st p q =>
  h σ H _ st p fun H1 v e s k1 st1 x => hi σ H1 _ st1 (kp _ _ _ k1 st1 p) fun H2 i hb k2 st2 => by
    subst s hb
    obtain ⟨a, xs, rfl, na, ea, hx⟩ := dx_tupOf x
    have lt : k < ds.length := by
      rcases Nat.lt_or_ge k ds.length with z | z
      · exact z
      · rw [List.getElem?_eq_none z] at hk; cases hk
    have lt2 : k < xs.length := by rw [hx.len]; exact lt
    obtain ⟨d2, ed, hd⟩ := hx.get' (List.getElem?_eq_getElem lt2)
    rw [hk] at ed
    cases ed
    exact ⟨a, xs, k, _, rfl, rfl, .inl (.inl (k2 _ _ na ea)), atI_nat (List.getElem?_eq_getElem lt2), q H2 _ d rfl (k1.trans k2) st2 (hd.up k2.same)⟩
theorem go_none : GO l P none tNoPart := fun σ H Q st p q => q H (Keep.refl l H) st
theorem go_some {n : Int} (h : GI l P (· = n) t) : GO l P (some n) (tPart t) := fun σ H Q st p q => h σ H _ st p fun H' i s k st' => ⟨i, rfl, by subst s; exact q H' k st'⟩
theorem gd_slice {lo hi : Option Int} {tl th : TO} (kp : Kp l P) (h : GD l P (· = .tuple ds) ta) (hl : GO l P lo tl) (hh : GO l P hi th) : GD l P (· = .tuple (cutD ds lo hi)) (L2.tSl (rSlA K) ta tl th) := fun σ H Q st p q =>
  h σ H _ st p fun H1 v e s k1 st1 x => hl σ H1 _ st1 (kp _ _ _ k1 st1 p) fun H2 k2 st2 => hh σ H2 _ st2 (kp _ _ _ (k1.trans k2) st2 p) fun H3 k3 st3 => by
    subst s
    exact sl_of ((x.up k2.same).up k3.same) st3 fun H4 a k4 st4 y => q H4 _ _ rfl (((k1.trans k2).trans k3).trans k4) st4 y
theorem gd_cat (kp : Kp l P) (h : GD l P S ta) (h2 : GD l P S2 tb) (t1 : ∀ d, S d → ∃ ds, d = .tuple ds ∧ ds.length ≤ 1000) (t2 : ∀ d, S2 d → ∃ ds, d = .tuple ds ∧ ds.length ≤ 1000) :
    GD l P (fun d => ∃ x y, S (.tuple x) ∧ S2 (.tuple y) ∧ d = .tuple (x ++ y)) (tOp (rCatA K) ta tb) := fun σ H Q st p q =>
  h σ H _ st p fun H1 v e s k1 st1 x => h2 σ H1 _ st1 (kp _ _ _ k1 st1 p) fun H2 u e2 s2 k2 st2 y => by
    obtain ⟨ds, rfl, z1⟩ := t1 e s
    obtain ⟨es, rfl, z2⟩ := t2 e2 s2
    have hb : (2000 : Nat) ≤ sizeLine := by decide
    exact cat_of (x.up k2.same) y st2 (by omega) fun H3 a k3 st3 z => q H3 _ _ ⟨ds, es, s, s2, rfl⟩ ((k1.trans k2).trans k3) st3 z
def rLst2 (K : PySem.W.Frag) : List V → Hp → VK → Prop := fun xs H Q => ∃ p ys, xs = [.ref p] ∧ (SqL K H p ys ∨ SqT K H p ys) ∧ ∀ l, H l = none → l ≠ sysModules → Q (.ref l) (upd H l (.lst ys))
theorem call_lst2 {X : Cx} : CallR X (.type "list") (rLst2 X.K) := call_listS
theorem gd_listOf (h : GD l P (· = .tuple ds) t) : GD l P (· = .list ds) (tCB (rLst2 K) (tCons t tNil)) := fun σ H Q st p q =>
  h σ H _ st p fun H1 v e s k1 st1 x => by
    subst s
    obtain ⟨a, xs, rfl, na, ea, hx⟩ := dx_tupOf x
    exact ⟨a, xs, rfl, .inr (.inl (.inl ea)), fun b nb zb => q _ _ _ rfl (k1.new nb) (st1.new nb) (dx_lst nb zb st1 hx)⟩
theorem gd_rep {k : Int} (kp : Kp l P) (h : GD l P (· = .tuple ds) ta) (hb : GI l P (· = k) tb) (k2 : 2 ≤ k) (k1 : k ≤ 1000) (hn : ds ≠ []) (hz : ds.length ≤ 1000) :
    GD l P (· = .tuple (List.replicate k.toNat ds).flatten) (tOp (rRepT K) ta tb) := fun σ H Q st p q =>
  h σ H _ st p fun H1 v e s k1' st1 x => hb σ H1 _ st1 (kp _ _ _ k1' st1 p) fun H2 i hb k2' st2 => by
    subst s hb
    obtain ⟨a, xs, rfl, na, ea, hx⟩ := dx_tupOf (x.up k2'.same)
    have hl := hx.len
    refine ⟨a, i, xs, rfl, rfl, .inl (.inl ea), fun z => ?_, k2, k1, by omega, fun b nb => q _ _ _ rfl ((k1'.trans k2').new nb) (st2.new nb) (dx_tup nb st2 (dxs_rep hx _))⟩
    subst z
    exact hn (List.eq_nil_of_length_eq_zero (by simpa using hl.symm))
theorem gd_dict : GD l P (· = .dict []) tDNewK := fun σ H Q st p q b nb => q _ _ _ rfl ((Keep.refl l H).new nb) (st.new nb) (dx_dic nb st)
end
end KX

set_option maxRecDepth 100000
set_option maxHeartbeats 4000000
namespace KX
open PySem PySem.Spec PyProof.Rows L2
/-! ### known names, and data of a bounded weight -/
def Env (l : Addr) (σ0 : L2.St) (L : List (V × PyData)) (M : List (Addr × List V × List PyData)) : PSt := fun σ H =>
  σ = σ0 ∧ (∀ p ∈ L, Dx (hid l H) p.1 p.2) ∧ ∀ m ∈ M, m.1 ≠ l ∧ H m.1 = some (.lst m.2.1) ∧ Dxs (hid l H) m.2.1 m.2.2
theorem kp_env {l : Addr} {σ0 : L2.St} {L : List (V × PyData)} {M : List (Addr × List V × List PyData)} : Kp l (Env l σ0 L M) := fun σ H H' k st h =>
  ⟨h.1, fun p hp => (h.2.1 p hp).up k.same, fun m hm => by
    obtain ⟨h1, h2, h3⟩ := h.2.2 m hm
    exact ⟨h1, k _ _ h1 h2, h3.up k.same⟩⟩
def Gp (n : Nat) (d : PyData) : Prop := fine (10 ^ 40) d = true ∧ wt d ≤ n ∧ d.plain = true
def Lp (n : Nat) (ds : List PyData) : Prop := fineAll (10 ^ 40) ds = true ∧ wtAll ds ≤ n ∧ PyData.plainAll ds = true
def TpS (n : Nat) (d : PyData) : Prop := ∃ ds, d = .tuple ds ∧ Lp n ds
def Al (S : PyData → Prop) (n : Nat) (ds : List PyData) : Prop := ds.length = n ∧ ∀ d ∈ ds, S d
theorem plainAll_app : ∀ xs ys : List PyData, PyData.plainAll (xs ++ ys) = (PyData.plainAll xs && PyData.plainAll ys)
  | [], ys => by simp [PyData.plainAll]
  | x :: xs, ys => by simp [PyData.plainAll, plainAll_app xs ys, Bool.and_assoc]
theorem Lp.nil : Lp 0 [] := ⟨rfl, Nat.le_refl _, rfl⟩
theorem Lp.cons {a b : Nat} {d : PyData} {ds : List PyData} (h : Gp a d) (t : Lp b ds) : Lp (a + b) (d :: ds) := by
  refine ⟨by simp [fineAll, h.1, t.1], ?_, by simp [PyData.plainAll, h.2.2, t.2.2]⟩
  have h1 := h.2.1
  have h2 := t.2.1
  simp [wtAll]
  omega
theorem Lp.app {a b : Nat} {x y : List PyData} (h : Lp a x) (t : Lp b y) : Lp (a + b) (x ++ y) := by
  refine ⟨by rw [fineAll_app, h.1, t.1]; rfl, ?_, by rw [plainAll_app, h.2.2, t.2.2]; rfl⟩
  have h1 := h.2.1
  have h2 := t.2.1
  rw [wtAll_app]
  omega
theorem Lp.mono {a b : Nat} {x : List PyData} (h : Lp a x) (le : a ≤ b) : Lp b x := ⟨h.1, Nat.le_trans h.2.1 le, h.2.2⟩
theorem Gp.mono {a b : Nat} {x : PyData} (h : Gp a x) (le : a ≤ b) : Gp b x := ⟨h.1, Nat.le_trans h.2.1 le, h.2.2⟩
theorem Lp.split {n k : Nat} {x : List PyData} (h : Lp n x) : Lp n (x.take k) ∧ Lp n (x.drop k) := by
  obtain ⟨h1, h2, h3⟩ := h
  rw [← List.take_append_drop k x, fineAll_app, Bool.and_eq_true] at h1
  rw [← List.take_append_drop k x, wtAll_app] at h2
  rw [← List.take_append_drop k x, plainAll_app, Bool.and_eq_true] at h3
  exact ⟨⟨h1.1, by omega, h3.1⟩, ⟨h1.2, by omega, h3.2⟩⟩
theorem Lp.cut {n : Nat} {x : List PyData} (h : Lp n x) (lo hi : Option Int) : Lp n (cutD x lo hi) := (h.split.2).split.1
theorem Lp.len {n : Nat} {x : List PyData} (h : Lp n x) : x.length ≤ n := Nat.le_trans (len_wt x) h.2.1
theorem Lp.tup {n : Nat} {x : List PyData} (h : Lp n x) : Gp (n + 1) (.tuple x) := ⟨by simpa [fine] using h.1, by have := h.2.1; simp [wt]; omega, by simpa [PyData.plain] using h.2.2⟩
theorem Lp.lst {n : Nat} {x : List PyData} (h : Lp n x) : Gp (n + 1) (.list x) := ⟨by simpa [fine] using h.1, by have := h.2.1; simp [wt]; omega, by simpa [PyData.plain] using h.2.2⟩
theorem TpS.gp {n : Nat} {d : PyData} (h : TpS n d) : Gp (n + 1) d := by
  obtain ⟨ds, rfl, h⟩ := h
  exact h.tup
theorem TpS.mono {a b : Nat} {d : PyData} (h : TpS a d) (le : a ≤ b) : TpS b d := by
  obtain ⟨ds, rfl, h⟩ := h
  exact ⟨ds, rfl, h.mono le⟩
theorem big_line : (1000 : Nat) ≤ sizeLine := by decide
section
variable {l : Addr} {P : PSt} {K : PySem.W.Frag} {S : PyData → Prop} {t ta tb : TE} {ts : TA} {ds : List PyData} {a b n : Nat} {σ0 : L2.St} {L : List (V × PyData)} {M : List (Addr × List V × List PyData)}
theorem gd_env {i : Nat} {v : V} {d : PyData} (h : σ0[i]? = some (some v)) (hm : (v, d) ∈ L) : GD l (Env l σ0 L M) (· = d) (tVar i) :=
  gd_var fun σ H p => ⟨v, d, by rw [p.1]; exact h, rfl, p.2.1 _ hm⟩
theorem gi_env {i : Nat} {k : Int} (h : σ0[i]? = some (some (.int k))) : GI l (Env l σ0 L M) (· = k) (tVar i) := gi_var fun σ H p => ⟨k, by rw [p.1]; exact h, rfl⟩
theorem gm_env {i : Nat} {p : Addr} {xs : List V} (h : σ0[i]? = some (some (.ref p))) (hm : (p, xs, ds) ∈ M) : GM l (Env l σ0 L M) (· = ds) (tVar i) :=
  gm_var fun σ H q => ⟨p, xs, ds, by rw [q.1]; exact h, rfl, (q.2.2 _ hm).1, (q.2.2 _ hm).2.1, (q.2.2 _ hm).2.2⟩
theorem gl_nil : GDs l P (Lp 0) tNil := gds_nil.imp fun _ e => by subst e; exact Lp.nil
theorem gl_cons (kp : Kp l P) (h : GD l P (Gp a) t) (hs : GDs l P (Lp b) ts) : GDs l P (Lp (a + b)) (tCons t ts) := (gds_cons kp h hs).imp fun _ z => by
  obtain ⟨d, ds, rfl, z1, z2⟩ := z
  exact Lp.cons z1 z2
theorem gl_tup (h : GDs l P (Lp n) ts) (hn : n ≤ 1000) : GD l P (TpS n) (tTup ts) := (gd_tup h fun ds z => Nat.le_trans z.len (Nat.le_trans hn big_line)).imp fun _ z => by
  obtain ⟨ds, rfl, z⟩ := z
  exact ⟨ds, rfl, z⟩
theorem gl_cat (kp : Kp l P) (h : GD l P (TpS a) ta) (h2 : GD l P (TpS b) tb) (ha : a ≤ 1000) (hb : b ≤ 1000) : GD l P (TpS (a + b)) (tOp (rCatA K) ta tb) :=
  (gd_cat kp h h2 (fun d z => by obtain ⟨ds, rfl, z⟩ := z; exact ⟨ds, rfl, Nat.le_trans z.len ha⟩) fun d z => by obtain ⟨ds, rfl, z⟩ := z; exact ⟨ds, rfl, Nat.le_trans z.len hb⟩).imp fun d z => by
    obtain ⟨x, y, ⟨x', e1, h1⟩, ⟨y', e2, h2⟩, rfl⟩ := z
    cases e1
    cases e2
    exact ⟨_, rfl, h1.app h2⟩
theorem gl_slice {lo hi : Option Int} {tl th : TO} (kp : Kp l P) (h : GD l P (· = .tuple ds) ta) (z : Lp n ds) (hl : GO l P lo tl) (hh : GO l P hi th) : GD l P (TpS n) (L2.tSl (rSlA K) ta tl th) :=
  (gd_slice kp h hl hh).imp fun d e => ⟨_, e, z.cut lo hi⟩
theorem al_nil : GDs l P (Al S 0) tNil := gds_nil.imp fun _ e => by subst e; exact ⟨rfl, fun d h => by cases h⟩
theorem al_cons (kp : Kp l P) (h : GD l P S t) (hs : GDs l P (Al S n) ts) : GDs l P (Al S (n + 1)) (tCons t ts) := (gds_cons kp h hs).imp fun _ z => by
  obtain ⟨d, ds, rfl, z1, z2, z3⟩ := z
  refine ⟨by simp [z2], fun x hx => ?_⟩
  rcases List.mem_cons.mp hx with e | hx
  · rw [e]; exact z1
  · exact z3 x hx
theorem al_lst (h : GDs l P (Al S n) ts) (hn : n ≤ 1000) : GM l P (Al S n) (tLst ts) := gm_lst h fun ds z => by rw [z.1]; exact Nat.le_trans hn big_line
theorem al_cat {m : Nat} (kp : Kp l P) (h : GM l P (Al S n) ta) (h2 : GM l P (Al S m) tb) (hn : n + m ≤ 1000) : GM l P (Al S (n + m)) (tOp rCat ta tb) :=
  (gm_cat kp h h2 fun x y z1 z2 => by rw [z1.1, z2.1]; exact Nat.le_trans hn big_line).imp fun z w => by
    obtain ⟨x, y, rfl, w1, w2⟩ := w
    refine ⟨by rw [List.length_append, w1.1, w2.1], fun d hd => ?_⟩
    rcases List.mem_append.mp hd with q | q
    · exact w1.2 d q
    · exact w2.2 d q
/-- one of a list, by a number within it -/
theorem al_ix {m : Int} (kp : Kp l P) (h : GM l P (Al S n) ta) (hi : GI l P (fun k => 0 ≤ k ∧ k < m) tb) (hn : (n : Int) = m) : GD l P S (tOp (rIxL K) ta tb) :=
  (gd_ixM kp h hi fun ds z => by rw [z.1]; exact hn).imp fun d z => by
    obtain ⟨ds, z1, z2⟩ := z
    exact z1.2 d z2
end
theorem GI.imp {l : Addr} {P : PSt} {N N2 : Int → Prop} {t : TE} (h : GI l P N t) (i : ∀ d, N d → N2 d) : GI l P N2 t := fun σ H Q st p q => h σ H Q st p fun H' v s => q H' v (i v s)
theorem gp_int {i : Int} (h : i.natAbs ≤ 10 ^ 40) {n : Nat} (hn : 1 ≤ n) : Gp n (.int i) := ⟨by simpa [fine] using h, by simpa [wt] using hn, rfl⟩
theorem gcn {l : Addr} {P : PSt} {n : Nat} {v : V} {d : PyData} (h : ∀ H, Dx H v d) (g : Gp n d) : GD l P (Gp n) (tC v) := (gd_c h).imp fun _ e => by subst e; exact g
theorem gin {l : Addr} {P : PSt} {n : Nat} {k : Int} {t : TE} (h : GI l P (· = k) t) (hk : k.natAbs ≤ 10 ^ 40) (hn : 1 ≤ n) : GD l P (Gp n) t := (gd_int h).imp fun d e => by
  obtain ⟨i, rfl, rfl⟩ := e
  exact gp_int hk hn
theorem alld_nil {l : Addr} {H : Hp} : ∀ p ∈ ([] : List (V × PyData)), Dx (hid l H) p.1 p.2 := fun p h => by cases h
theorem alld_cons {l : Addr} {H : Hp} {v : V} {d : PyData} {L : List (V × PyData)} (h : Dx (hid l H) v d) (t : ∀ p ∈ L, Dx (hid l H) p.1 p.2) : ∀ p ∈ (v, d) :: L, Dx (hid l H) p.1 p.2 := fun p hp => by
  rcases List.mem_cons.mp hp with e | hp
  · rw [e]; exact h
  · exact t p hp
theorem alld_up {l : Addr} {H H' : Hp} {L : List (V × PyData)} (k : Keep l H H') (t : ∀ p ∈ L, Dx (hid l H) p.1 p.2) : ∀ p ∈ L, Dx (hid l H') p.1 p.2 := fun p hp => (t p hp).up k.same
theorem allm_nil {l : Addr} {H : Hp} : ∀ m ∈ ([] : List (Addr × List V × List PyData)), m.1 ≠ l ∧ H m.1 = some (.lst m.2.1) ∧ Dxs (hid l H) m.2.1 m.2.2 := fun p h => by cases h
theorem allm_one {l : Addr} {H : Hp} {p : Addr} {xs : List V} {ds : List PyData} (n : p ≠ l) (e : H p = some (.lst xs)) (x : Dxs (hid l H) xs ds) :
    ∀ m ∈ [(p, xs, ds)], m.1 ≠ l ∧ H m.1 = some (.lst m.2.1) ∧ Dxs (hid l H) m.2.1 m.2.2 := fun q h => by
  obtain rfl := List.mem_singleton.mp h
  exact ⟨n, e, x⟩
/-- a name gets data; a name gets a list -/
theorem gd_seq {l : Addr} {P : PSt} {S : PyData → Prop} {t : TE} {u : TS} {i : Nat} {D : Ends} {σ : L2.St} {H : Hp} (h : GD l P S t) (st : StO H l) (p : P σ H) (k : ∀ H' v d, S d → Keep l H H' → StO H' l → Dx (hid l H') v d → u D (σ.set i (some v)) H') :
    tSeq (tAsg t (gName i)) u D σ H := h σ H _ st p fun H' v d s k1 st1 x => k H' v d s k1 st1 x
theorem gm_seq {l : Addr} {P : PSt} {S : List PyData → Prop} {t : TE} {u : TS} {i : Nat} {D : Ends} {σ : L2.St} {H : Hp} (h : GM l P S t) (st : StO H l) (p : P σ H)
    (k : ∀ H' a xs ds, S ds → Keep l H H' → StO H' l → a ≠ l → H' a = some (.lst xs) → Dxs (hid l H') xs ds → u D (σ.set i (some (.ref a))) H') :
    tSeq (tAsg t (gName i)) u D σ H := h σ H _ st p fun H' a xs ds s k1 st1 n e x => k H' a xs ds s k1 st1 n e x
end KX

set_option maxRecDepth 100000
set_option maxHeartbeats 4000000
namespace KX
open PySem PySem.Spec PyProof.Rows L2
theorem countP_eqU {x : V} : ∀ {xs : List V} {us : List Value}, Vals xs us → xs.all flatV = true → us.countP (eqU x) = xs.countP fun y => eqV y x
  | _, _, .nil, _ => rfl
  | y :: xs, u :: us, .cons r t, f => by
    rw [List.all_cons, Bool.and_eq_true] at f
    rw [List.countP_cons, List.countP_cons, eqU_of r f.1, countP_eqU t f.2]
section
variable {X : Cx}
/-- xs.count(y), flat items -/
def rCntF (K : PySem.W.Frag) : V → List V → Hp → VK → Prop := fun x xs H Q => ∃ (p : Addr) (ys : List V) (y : V), x = .ref p ∧ xs = [y] ∧ SqL K H p ys ∧ flatV y = true ∧ ys.all flatV = true ∧ Q (.int (ys.countP fun z => eqV z y : Nat)) H
theorem mt_countF : MtR X "list.count" (rCntF X.K) := by
  intro pins s σ H x xs v us Q I rx rxs h
  obtain ⟨p, ys, y, rfl, rfl, hs, fy, fs, q⟩ := h
  cases rx
  obtain ⟨u, rfl, ru⟩ := rxs.one
  obtain ⟨its, rv, ⟨⟨cls, dd, data, sl⟩, n, ho, hc, hdn, hd⟩, hlen⟩ := I.list hs
  dsimp only at hc hd
  subst hc hd
  have same : its.toArray.toList.countP (eqU y) = ys.countP fun z => eqV z y := countP_eqU rv fs
  refine call_meets PySem.F.slot_list_count ⟨_, ho, rfl⟩ PySem.F.entry_list_count (PySem.F.args_list_count_2 _ _) (SeqAt.list_countAt p its.toArray n dd sl u (eqU y)) ⟨ho, fun z hz => mem_eqAt ru fy rv fs z (by simpa using hz), ?_⟩
  refine ⟨.int (ys.countP fun z => eqV z y : Nat), H, I.tok _, ⟨s.toks, ?_⟩, q⟩
  rw [same]
end
/-- isinstance(e, T), isinstance(e, (T, ..)): e a caught error without fields of its own -/
def rIsN (K : PySem.W.Frag) (a : Addr) (cls : Value) (d : Option Addr) : List V → Hp → VK → Prop := fun xs H Q =>
  ∃ (C : Addr) (c : V) (b : Bool), XI K C ∧ cls = .ref C ∧ d = none ∧ xs = [.ref a, c] ∧
    ((∃ cv, (∀ u, RelV c u → u = cv) ∧ PySem.W.kitOne K (.ref C) cv = some b) ∨
      ∃ (tp : Addr) (ys : List V) (its : List Value), c = .ref tp ∧ H tp = some (.tup ys) ∧ (∀ us, Vals ys us → us = its) ∧ PySem.W.kitAny K (.ref C) its = some b) ∧ Q (.bl b) H
theorem call_isN {X : Cx} {a : Addr} {oe : Obj} {cls : Value} {d : Option Addr} {pn : List (Addr × Obj)} (hz : Zc cls d oe) (hf : ∃ vs, oe.data = .fields vs) :
    CallR (X.suite a ((a, oe) :: pn)) (.builtin "isinstance") (rIsN X.K a cls d) := by
  intro pins s σ H xs us Q I r h
  obtain ⟨C, c, b, T, ec, ed, rfl, hc, q⟩ := h
  subst ec ed
  obtain ⟨hget, _⟩ := I.pin (a, oe) (List.mem_append.mpr (.inl List.mem_cons_self))
  obtain ⟨vs, hv⟩ := hf
  have J : PySem.W.InstAt s.heap a oe C none := ⟨hget, hz.1, by unfold PySem.W.notCls; rw [hv] <;> rfl, by rw [hz.2]; trivial⟩
  have hcl : (PySem.W.clsIn X.K C).isSome = true := by
    obtain ⟨cd, hc, _⟩ := PySem.W.any_some T.hd
    rw [hc]; rfl
  have Z : PySem.W.KitX X.K (.ref a) (.ref C) (fun h => PySem.W.InstAt h a oe C none) := PySem.W.kitx_exc hcl T.ga T.gg T.sub T.hcl T.sp T.tk T.mro
  obtain ⟨u, rfl, ru⟩ : ∃ u2, us = [.ref a, u2] ∧ RelV c u2 := by
    cases r with
    | cons r1 r2 =>
      cases r2 with
      | cons r3 r4 =>
        cases r4
        cases r1
        exact ⟨_, rfl, r3⟩
  rcases hc with ⟨cv, hcv, e⟩ | ⟨tp, ys, its, rfl, hH, hits, e⟩
  · have eu := hcv _ ru
    subst eu
    exact PySem.W.kia_one Z I.kIn J e (fun z => nomatch z) fun tk => ⟨.bl b, H, I.kept (t' := tk) fun _ _ z => z, rfl, q⟩
  · obtain rfl : u = Value.ref tp := ru
    obtain ⟨_, us2, r2, o, h1, h2, n, h3⟩ := (show ObjOk X.prog X.w H s.heap tp (.tup ys) from I.hok tp _ hH)
    have eu := hits us2 r2
    subst eu
    obtain ⟨oc, od2, oda, osl⟩ := o
    dsimp only at h2 h3
    subst h2 h3
    exact PySem.W.kia_tup Z I.kIn J h1 e (fun z => nomatch z) fun tk => ⟨.bl b, H, I.kept (t' := tk) fun _ _ z => z, rfl, q⟩
end KX

set_option maxRecDepth 100000
set_option maxHeartbeats 4000000
/-! zip of a list and a tuple -/
namespace KX
open PySem PySem.Spec PyProof.Rows L2
def ItM (K : PySem.W.Frag) (a b : Addr) : It :=
  ⟨fun i H => ∃ (xs ys : List V) (x y : V), SqL K H a xs ∧ SqT K H b ys ∧ xs[i]? = some x ∧ ys[i]? = some y,
    fun i H v G => ∃ T x y, v = .ref T ∧ H T = none ∧ G = upd H T (.tup [x, y]) ∧ (∀ xs, SqL K H a xs → xs[i]? = some x) ∧ ∀ ys, SqT K H b ys → ys[i]? = some y,
    fun i H => ∃ xs ys : List V, SqL K H a xs ∧ SqT K H b ys ∧ xs.length = i ∧ ys.length = i⟩
theorem sep_of {z TI TO i1 i2 a b : Addr} (D : ZipApart z TI TO i1 i2 a b) : ZipSep2 z TI TO i1 i2 [i1, a] [i2, b] := by
  have e1 := D.TIz
  refine ⟨D.TIz, D.TOz, D.TITO, D.TIi1, by simp, ?_, ?_, D.TIi2, by simp, ?_, ?_, ?_, ?_⟩
  · simp [D.i1z.symm, D.l1z.symm]
  · simp [D.TOi1, D.l1TO.symm]
  · simp [D.i2z.symm, D.l2z.symm]
  · simp [D.TOi2, D.l2TO.symm]
  · simp [D.i12, D.l2i1.symm]
  · simp [D.i12.symm, D.l1i2.symm]
theorem turn_m {P : Program} {w : World} {K : PySem.W.Frag} {elts : List Expr} {kk : Nat} {tpos : Pos} {a b z TI TO i1 i2 : Addr} (D : ZipApart z TI TO i1 i2 a b) :
    Turn P w K (.Tuple elts kk tpos) (ItM K a b) [z, TI, TO, i1, i2] z (fun i h => IsZip h z TI TO .none ∧ IsPair h TI (.ref i1) (.ref i2) ∧ (∃ x y, IsPair h TO x y) ∧ h.IsListIter i1 a i ∧ h.IsTupleIter i2 b i) where
  mem := by simp
  obj := fun i h st c hc => by
    obtain ⟨hz, hTI, ⟨x, y, hTO⟩, ⟨o1, e1, _, d1⟩, ⟨o2, e2, _, d2⟩⟩ := st
    simp only [List.mem_cons, List.not_mem_nil, or_false] at hc
    rcases hc with rfl | rfl | rfl | rfl | rfl
    · exact ⟨_, hz, fun v q => nomatch q⟩
    · exact ⟨_, hTI, fun v q => nomatch q⟩
    · exact ⟨_, hTO, fun v q => nomatch q⟩
    · exact ⟨o1, e1, fun v q => by rw [d1] at q; cases q⟩
    · exact ⟨o2, e2, fun v q => by rw [d2] at q; cases q⟩
  keep := fun i h h' st k => by
    obtain ⟨hz, hTI, ⟨x, y, hTO⟩, t1, t2⟩ := st
    exact ⟨k z (by simp) _ hz, k TI (by simp) _ hTI, ⟨x, y, k TO (by simp) _ hTO⟩, t1.at fun o q => k i1 (by simp) o q, t2.at fun o q => k i2 (by simp) o q⟩
  item := by
    intro X hP hw hK hc i pins s σ H E I hf st hg
    subst hP hw hK
    obtain ⟨hz, hTI, ⟨x0, y0, hTO⟩, t1, t2⟩ := st
    obtain ⟨xs, ys, x, y, hqx, hqy, hx, hy⟩ := hg
    obtain ⟨its, rv, pl, _⟩ := I.list hqx
    obtain ⟨its2, rv2, pt, _⟩ := I.tuple hqy
    obtain ⟨u, hu, ru⟩ := rv.get hx
    obtain ⟨u2, hu2, ru2⟩ := rv2.get hy
    have zl : z < s.heap.objs.size := Heap.lt_size hz
    have hh : X.A.in1.handled = none := I.ok.hd hc
    have li : i < its.toArray.size := by simpa using (List.getElem?_eq_some_iff.mp hu).1
    have li2 : i < its2.toArray.size := by simpa using (List.getElem?_eq_some_iff.mp hu2).1
    refine wpAny_pyNext_zipD2_item (sep_of D) (Draws.list hh i1 a D.l1i1 its.toArray) (Draws.tuple hh i2 b D.l2i2 its2.toArray) hz hTI hTO ⟨t1, pl.isList⟩ ⟨t2, pt⟩ li li2 fun x1 x2 h' tk q1 q2 z' TO' s1' s2' hT hsz hk => ?_
    have e1 : x1 = u := Option.some.inj (q1.symm.trans (by simpa using hu))
    have e2 : x2 = u2 := Option.some.inj (q2.symm.trans (by simpa using hu2))
    subst e1 e2
    refine ⟨_, rfl, wpAny_letOwnedTupleGo_zip (s := { s with heap := h', toks := tk }) z' fun h'' z'' sb => ?_⟩
    have hT2 : h''.get? s.heap.objs.size = some { cls := .type "tuple", data := .seq #[x1, x2] } := (sb.2 _ (Nat.ne_of_gt zl)).trans hT
    have new : ObjOk X.prog X.w (upd H s.heap.objs.size (.tup [x, y])) h'' s.heap.objs.size (.tup [x, y]) := ⟨by show 2 ≤ sizeLine; decide, [x1, x2], .cons ru (.cons ru2 .nil), ⟨_, hT2, rfl, _, rfl⟩⟩
    have moved : ∀ c o, c ∉ [z, TI, TO, i1, i2] → s.heap.get? c = some o → h''.get? c = some o := fun c o hb q => by
      simp only [List.mem_cons, List.not_mem_nil, or_false, not_or] at hb
      exact (sb.2 c hb.1).trans (hk c o hb.1 hb.2.2.1 hb.2.2.2.1 hb.2.2.2.2 q)
    have I1 : Inv X pins σ (upd H s.heap.objs.size (.tup [x, y])) { s with heap := h'', toks := tk } := I.turnedNew (t' := tk) (ch := [z, TI, TO, i1, i2]) moved hf (Nat.le_refl _) new
    refine ⟨.ref s.heap.objs.size, _, I1, rfl, ⟨_, x, y, rfl, I.hok.fresh (Nat.le_refl _), rfl, fun l hl => by rw [I.list_inj hl hqx]; exact hx, fun l hl => by rw [I.tuple_inj hl hqy]; exact hy⟩,
      ⟨z'', (sb.2 _ D.TIz).trans (hk _ _ D.TIz D.TITO D.TIi1 D.TIi2 hTI), ⟨x1, x2, (sb.2 _ D.TOz).trans TO'⟩, s1'.1.at fun o q => (sb.2 _ D.i1z).trans q, s2'.1.at fun o q => (sb.2 _ D.i2z).trans q⟩, fun c hcm => ?_⟩
    have lt : c < s.heap.objs.size := by
      simp only [List.mem_cons, List.not_mem_nil, or_false] at hcm
      rcases hcm with rfl | rfl | rfl | rfl | rfl
      · exact zl
      · exact Heap.lt_size hTI
      · exact Heap.lt_size hTO
      · obtain ⟨_, q, _⟩ := t1; exact Heap.lt_size q
      · obtain ⟨_, q, _⟩ := t2; exact Heap.lt_size q
    rw [upd_ne (Nat.ne_of_lt lt)]
    exact (hf c hcm).1
  done := by
    intro X hP hw hK hc i pins s σ H E I hf st hg
    subst hP hw hK
    obtain ⟨hz, hTI, ⟨x0, y0, hTO⟩, t1, t2⟩ := st
    obtain ⟨xs, ys, hqx, hqy, e1, e2⟩ := hg
    obtain ⟨its, rv, pl, _⟩ := I.list hqx
    obtain ⟨its2, rv2, pt, _⟩ := I.tuple hqy
    have l1 := rv.length
    have l2 := rv2.length
    have hh : X.A.in1.handled = none := I.ok.hd hc
    have s1 : its.toArray.size = i := by simp; omega
    have s2 : its2.toArray.size = i := by simp; omega
    refine wpAny_pyNext_zipD2_end (sep_of D) (Draws.list hh i1 a D.l1i1 its.toArray) (Draws.tuple hh i2 b D.l2i2 its2.toArray) hz hTI hTO ⟨t1, pl.isList⟩ ⟨t2, pt⟩ (by omega) (by omega) (.inl s1.symm) fun h' tk hk => ⟨rfl, ?_⟩
    refine I.turnedL (t' := tk) (ch := [z, TI, TO, i1, i2]) (fun c o hb q => ?_) hf
    simp only [List.mem_cons, List.not_mem_nil, or_false, not_or] at hb
    exact hk c o hb.1 hb.2.2.1 hb.2.2.2.1 hb.2.2.2.2 q
  self := fun A i s Q E st h => wpAny_pyIter_zip st.1 h
/-! the call -/
abbrev zm1 (h : Heap) (a : Addr) : Heap := h.push { cls := .type "list_iterator", data := .fields #[.ref a, .int 0 0] }
abbrev zm2 (h : Heap) (a b : Addr) : Heap := (zm1 h a).push { cls := .type "tuple_iterator", data := .fields #[.ref b, .int 0 0] }
abbrev zm3 (h : Heap) (a b : Addr) : Heap := (zm2 h a b).push { cls := .type "tuple", data := .seq #[.ref h.objs.size, .ref (zm1 h a).objs.size] }
abbrev zm4 (h : Heap) (a b : Addr) : Heap := (zm3 h a b).push { cls := .type "tuple", data := .seq #[.none, .none] }
abbrev zm5 (h : Heap) (a b : Addr) : Heap := (zm4 h a b).push { cls := .type "zip", data := .fields #[.none, .bool false, .bool false, .ref (zm2 h a b).objs.size, .ref (zm3 h a b).objs.size] }
theorem meets_zm (a b : Addr) (xs ys : Array Value) :
    Meets (Builtin.«zip.__new__» ⟨[.type "zip", .ref a, .ref b], []⟩) (fun _ R s => s.heap.IsList a xs ∧ s.heap.IsTuple b ys ∧ R (.ok (.ret (.ref (zm4 s.heap a b).objs.size))) { s with heap := zm5 s.heap a b }) :=
  .of_wp fun prog w A R s h => by
    obtain ⟨hp, g, d, tk, os⟩ := s
    obtain ⟨ha, hb, h⟩ := h
    have hsub := sub_zip
    have La : Heap.IsList (Shared.heap ⟨hp, g, d, tk, os⟩) a xs := ha
    have Lb : Heap.IsTuple (Shared.heap ⟨hp.push { cls := .type "list_iterator", data := .fields #[.ref a, .int 0 0] }, g, d, tk, os⟩) b ys := Heap.IsTuple.push hb _
    wp_walk using wpAny_pyIter_list La, wpAny_pyIter_tuple Lb
    exact ⟨_, rfl, h⟩
section
variable {prog : Program} {w : World} {A : Around} {E : Value → Shared → Prop} {s : Shared}
theorem call_zm {a b : Addr} {xs ys : Array Value} {Q : Value → Shared → Prop} (ha : s.heap.IsList a xs) (hb : s.heap.IsTuple b ys)
    (go : ∀ h', IsZip h' (s.heap.objs.size + 4) (s.heap.objs.size + 2) (s.heap.objs.size + 3) .none → IsPair h' (s.heap.objs.size + 2) (.ref s.heap.objs.size) (.ref (s.heap.objs.size + 1)) → IsPair h' (s.heap.objs.size + 3) .none .none →
      h'.IsListIter s.heap.objs.size a 0 → h'.IsTupleIter (s.heap.objs.size + 1) b 0 → (∀ c o, s.heap.get? c = some o → h'.get? c = some o) → Q (.ref (s.heap.objs.size + 4)) { s with heap := h' }) :
    wpAny (model prog w) A (call (.type "zip") [.ref a, .ref b]) Q E s := by
  refine callType_new F.called_zip (by decide) (F.typeCall_zip_2 _ _) (F.newCall_zip_2 _ _) (fun obj => F.args_object_init_3 obj _ _) F.entry_zip_new (meets_zm a b xs ys) ⟨ha, hb, ?_⟩
  have n1 : (zm1 s.heap a).objs.size = s.heap.objs.size + 1 := by rw [Heap.size_push]
  have n2 : (zm2 s.heap a b).objs.size = s.heap.objs.size + 2 := by rw [Heap.size_push, n1]
  have n3 : (zm3 s.heap a b).objs.size = s.heap.objs.size + 3 := by rw [Heap.size_push, n2]
  have n4 : (zm4 s.heap a b).objs.size = s.heap.objs.size + 4 := by rw [Heap.size_push, n3]
  have k45 : ∀ {c o}, (zm4 s.heap a b).get? c = some o → (zm5 s.heap a b).get? c = some o := fun e => Heap.get?_push_of_some _ e
  have k35 : ∀ {c o}, (zm3 s.heap a b).get? c = some o → (zm5 s.heap a b).get? c = some o := fun e => k45 (Heap.get?_push_of_some _ e)
  have k25 : ∀ {c o}, (zm2 s.heap a b).get? c = some o → (zm5 s.heap a b).get? c = some o := fun e => k35 (Heap.get?_push_of_some _ e)
  have k15 : ∀ {c o}, (zm1 s.heap a).get? c = some o → (zm5 s.heap a b).get? c = some o := fun e => k25 (Heap.get?_push_of_some _ e)
  have o5 : (zm5 s.heap a b).get? (zm4 s.heap a b).objs.size = some _ := Heap.get?_push_size _ rfl
  have o4 := k45 (c := (zm3 s.heap a b).objs.size) (Heap.get?_push_size _ rfl)
  have o3 := k35 (c := (zm2 s.heap a b).objs.size) (Heap.get?_push_size _ rfl)
  have o2 := k25 (c := (zm1 s.heap a).objs.size) (Heap.get?_push_size _ rfl)
  have o1 := k15 (c := s.heap.objs.size) (Heap.get?_push_size _ rfl)
  show _ ∧ _
  rw [n2, n3, n4] at o5
  rw [n3] at o4
  rw [n1, n2] at o3
  rw [n1] at o2
  rw [n4]
  exact ⟨⟨_, o5, rfl⟩, go _ o5 o3 o4 ⟨_, o1, rfl, rfl⟩ ⟨_, o2, rfl, rfl⟩ fun c o x => k15 (Heap.get?_push_of_some _ x)⟩
end
def iZipM (K : PySem.W.Frag) (ta : TA) : TI := fun σ H R => ta σ H fun vs H1 => ∃ a b xs ys, vs = [.ref a, .ref b] ∧ SqL K H1 a xs ∧ SqT K H1 b ys ∧ R (ItM K a b) H1
theorem pi_zipM {X : Cx} {e e2 : Expr} {ta : TA} {p pos tpos : Pos} {elts : List Expr} {kk : Nat} (hg : Gl X "zip") (hm : X.mg "zip" = none) (ha : PA X [e, e2] ta)
    (hs : starEach [e, e2] X.env = (false, eval e X.env) :: starEach [e2] X.env := by rfl) (hpl : (backTo pos (starEach [e2] X.env)).any (·.1) = false := by rfl) :
    PI X (.Tuple elts kk tpos) (.Call (.Name "zip" p) [e, e2] [] pos) (iZipM X.K ta) := by
  refine ⟨fun pins s σ H R I h => ?_⟩
  refine Call_ (ld_blt I hg hm PyProof.Rows.boot_zip (PyProof.Rows.callWith_type1 (thn (ha.run pos pins s σ H _ I h) fun us s1 z => ?_) hs hpl))
  obtain ⟨vs, H1, I1, r1, a, b, xs, ys, ex, hqx, hqy, q⟩ := z
  subst ex
  obtain rfl : us = [.ref a, .ref b] := by
    cases r1 with
    | cons r rr =>
      cases rr with
      | cons r' rr =>
        cases rr
        cases r
        cases r'
        rfl
  obtain ⟨its, rv, pl, _⟩ := I1.list hqx
  obtain ⟨its2, rv2, pt, _⟩ := I1.tuple hqy
  have ltb : b < s1.heap.objs.size := by
    obtain ⟨o, ho, _⟩ := id pt
    exact Heap.lt_size ho
  refine call_zm pl.isList (show s1.heap.IsTuple b its2.toArray from pt) fun h' hz hTI hTO t1 t2 hk => wpAny_pyIter_zip hz ?_
  have I2 : Inv X pins σ H1 { s1 with heap := h' } := I1.kept (t' := s1.toks) hk
  refine ⟨s1.heap.objs.size + 4, [s1.heap.objs.size + 4, s1.heap.objs.size + 2, s1.heap.objs.size + 3, s1.heap.objs.size, s1.heap.objs.size + 1], _, _, H1, rfl, I2, turn_m (PySem.W.ktu_apart s1.heap.objs.size a b pl.lt ltb), ⟨hz, hTI, ⟨_, _, hTO⟩, t1, t2⟩, fun c hcm => ?_, q⟩
  have le : s1.heap.objs.size ≤ c := by
    simp only [List.mem_cons, List.not_mem_nil, or_false] at hcm
    rcases hcm with rfl | rfl | rfl | rfl | rfl <;> omega
  exact I1.fpOk le (I1.hok.fresh le)
/-- [e for x, y in zip(l, t)] -/
theorem lc_zipM {K : PySem.W.Frag} {a b : Addr} {xs ys : List V} {g : TG} {tt : TT} {te : TE} {vs : List Nat} {σ : L2.St} {H1 : Hp} {D : Addr} {Qd : Hp → Prop} (hl : xs.length = ys.length) (Pv : Nat → Hp → Prop) (h0 : Pv 0 (upd H1 D (.lst [])))
    (hq : ∀ i G, i ≤ xs.length → Pv i G → SqL K G a xs ∧ SqT K G b ys)
    (hs : ∀ (i : Nat) (x y : V) (T : Addr) (G : Hp), xs[i]? = some x → ys[i]? = some y → Pv i G → G T = none → g (.ref T) (wipe σ vs) (upd G T (.tup [x, y])) fun σ2 H2 => wipe σ2 vs = wipe σ vs ∧ tt σ2 H2 fun b H3 =>
      if b = true then te σ2 H3 fun y H4 => ∃ zs, H4 D = some (.lst zs) ∧ zs.length < sizeLine ∧ Pv (i + 1) (upd H4 D (.lst (zs ++ [y]))) else Pv (i + 1) H3) (hd : ∀ G, Pv xs.length G → Qd G) :
    ∃ W : Nat → Nat → Hp → Prop, (∃ m, W 0 m (upd H1 D (.lst []))) ∧ ∀ i m H, W i m H → ((ItM K a b).stop i H ∧ Qd H) ∨ ((ItM K a b).go i H ∧ ∃ Nx : Hp → Prop, (∀ H', Nx H' → ∃ m', m' < m ∧ W (i + 1) m' H') ∧ ∀ x H', (ItM K a b).yld i H x H' →
      g x (wipe σ vs) H' fun σ2 H2 => wipe σ2 vs = wipe σ vs ∧ tt σ2 H2 fun b H3 => if b = true then te σ2 H3 fun y H4 => ∃ zs, H4 D = some (.lst zs) ∧ zs.length < sizeLine ∧ Nx (upd H4 D (.lst (zs ++ [y]))) else Nx H3) := by
  refine ⟨fun i m H => m = xs.length - i ∧ i ≤ xs.length ∧ Pv i H, ⟨xs.length, by simp, Nat.zero_le _, h0⟩, fun i m H hw => ?_⟩
  obtain ⟨rfl, hi, p⟩ := hw
  obtain ⟨qx, qy⟩ := hq i H hi p
  by_cases lt : i < xs.length
  · refine .inr ⟨⟨xs, ys, xs[i], ys[i], qx, qy, List.getElem?_eq_getElem lt, List.getElem?_eq_getElem (by omega)⟩, Pv (i + 1), fun H' p' => ⟨xs.length - (i + 1), by omega, rfl, lt, p'⟩, fun v H' y => ?_⟩
    obtain ⟨T, x, y, rfl, nT, rfl, e1, e2⟩ := y
    exact hs i x y T H (e1 xs qx) (e2 ys qy) p nT
  · have e : i = xs.length := by omega
    subst e
    exact .inl ⟨⟨xs, ys, qx, qy, rfl, hl.symm⟩, hd H p⟩
end KX

set_option maxRecDepth 100000
set_option maxHeartbeats 4000000
/-! == of a text and a dict; x in t where x may be a dict -/
namespace KX
open PySem PySem.Spec PyProof.Rows L2
theorem str_eq_declines_dict (b : Str) (u : Tok) (l : Addr) (es : Array DictEntry) (ep : Nat) (dd : Option Addr) (sl : Array (Option Value)) :
    Meets (Builtin.«str.__eq__» ⟨[.str b u, .ref l], []⟩) (fun _ R s => s.heap.get? l = some { cls := .type "dict", dict := dd, data := .dict es ep, slots := sl } ∧ R (.ok (.ret .notImplemented)) s) :=
  .of_wp fun prog w A R s h => by obtain ⟨hp, g, d, tk, os⟩ := s; obtain ⟨hl, h⟩ := h; wp_walk using AutoSeq1.wpAny_loadPart' hl, wpAny_load hl; exact ⟨_, rfl, h⟩
theorem dict_eq_declines_str (b : Str) (u : Tok) (l : Addr) (es : Array DictEntry) (ep : Nat) (dd : Option Addr) (sl : Array (Option Value)) :
    Meets (Builtin.«dict.__eq__» ⟨[.ref l, .str b u], []⟩) (fun _ R s => s.heap.get? l = some { cls := .type "dict", dict := dd, data := .dict es ep, slots := sl } ∧ R (.ok (.ret .notImplemented)) s) :=
  .of_wp fun prog w A R s h => by obtain ⟨hp, g, d, tk, os⟩ := s; obtain ⟨hl, h⟩ := h; have f1 : isSubtype (.type "str") (.type "dict") = pure false := by rw [isSubtype_type]; kernel_rfl
                                  wp_walk using AutoSeq1.wpAny_loadPart' hl, wpAny_load hl; exact ⟨_, rfl, h⟩
section
open MeetsSeq MeetsSeq2 MeetsSeq3 SeqRoads2 SeqAt
variable {A : Around} {s : Shared}
theorem rc_str_dict {l : Addr} {o : Obj} {es : Array DictEntry} {ep : Nat} (b : Str) (u : Tok) (ho : s.heap.get? l = some o) (hc : o.cls = .type "dict") (hd : o.data = .dict es ep) (hu : A.units < cLine) : SeqAt.RcAt A s (.str b u) (.ref l) false := fun prog w E Q h => by
  obtain ⟨cls, dd, data, sl⟩ := o
  simp only at hc hd
  subst hc hd
  exact rc_eq_decline_or (k := false) (typeIs_str s b u) ⟨_, ho, rfl⟩ (by decide) PySem.F.sub_dict_str PySem.F.slot_str_eq PySem.F.slot_dict_eq_refl
    (fun _ hq => call_meets PySem.F.slot_str_eq (typeIs_str s b u) PySem.F.entry_str_eq (PySem.F.args_str_eq_2 _ _) (str_eq_declines_dict b u l es ep dd sl) ⟨ho, hq⟩)
    (fun _ hq => call_meets PySem.F.slot_dict_eq_refl ⟨_, ho, rfl⟩ PySem.F.entry_dict_eq (PySem.F.args_dict_eq_2 _ _) (dict_eq_declines_str b u l es ep dd sl) ⟨ho, hq⟩)
    (fun _ hq => wpAny_of_eq (rfl : isSame (.str b u) (.ref l) = pure false) hq) (.inr hu) h
theorem eq_str_dict {l : Addr} {o : Obj} {es : Array DictEntry} {ep : Nat} (b : Str) (u : Tok) (ho : s.heap.get? l = some o) (hc : o.cls = .type "dict") (hd : o.data = .dict es ep) (hu : A.units < cLine) : SeqAt.EqAt A s (.str b u) (.ref l) false := fun prog w E Q h => by
  unfold eqBool
  refine wpAny_holding ?_
  refine wpAny_ite_split (fun hab => absurd (eq_of_beq hab) nofun) (fun _ => ?_)
  exact wpAny_bind (rc_str_dict b u ho hc hd hu prog w E _ (wpAny_truthy_bool h))
end
/-- data without dicts, or a dict -/
def okP (d : PyData) : Prop := d.plain = true ∨ ∃ kvs, d = .dict kvs
section
variable {X : Cx}
/-- x in t: t a tuple of texts, x data, or a dict -/
def rInX (K : PySem.W.Frag) (f : Bool → Bool) : R2 := fun x y H Q => ∃ (d : PyData) (t : Addr) (ns : List Str), Dx H x d ∧ okP d ∧ y = .ref t ∧ SqT K H t (ns.map V.str) ∧ Q (.bl (f ((ns.map PyData.str).any fun z => PyData.eqv z d))) H
theorem dp_strsX {K : PySem.W.Frag} {H : Hp} : ∀ ns : List Str, DpAll K H (ns.map V.str) (ns.map PyData.str)
  | [] => .nil
  | n :: ns => .cons (.str n) (dp_strsX ns)
theorem strs_plain : ∀ ns : List Str, PyData.plainAll (ns.map PyData.str) = true ∧ PyData.depthAll (ns.map PyData.str) = 0
  | [] => ⟨rfl, by simp [PyData.depthAll]⟩
  | n :: ns => by
    obtain ⟨h1, h2⟩ := strs_plain ns
    exact ⟨by simp [PyData.plainAll, PyData.plain, h1], by simp [PyData.depthAll, PyData.depth, h2]⟩
theorem op_inX (hu : X.A.units + 64 < cLine) : OpR X (compareOp .In) (rInX X.K id) := by
  intro pins s σ H x y v u Q I rx ry h
  obtain ⟨d, t, ns, hd, od, rfl, ht, q⟩ := h
  rcases od with pd | ⟨kvs, rfl⟩
  · exact op_inTD hu pins s σ H x (.ref t) v u Q I rx ry ⟨d, ns.map PyData.str, dp_dx d x pd hd, .tup ht (dp_strsX ns), pd, (strs_plain ns).1, by rw [(strs_plain ns).2]; omega, q⟩
  · have hq : ((ns.map PyData.str).any fun z => PyData.eqv z (.dict kvs)) = false := List.any_eq_false.mpr fun z hz => by
      obtain ⟨n, _, rfl⟩ := List.mem_map.mp hz
      simp [PyData.eqv]
    rw [hq] at q
    obtain ⟨a, rfl⟩ : ∃ a, x = .ref a := by
      cases hd with
      | dic e => exact ⟨_, rfl⟩
      | dic1 e => exact ⟨_, rfl⟩
    cases ry
    cases rx
    obtain ⟨its, rv, ⟨o, ho, hc, n, hdat⟩, _⟩ := I.tuple ht
    have hdic : ∃ o es ep, s.heap.get? a = some o ∧ o.cls = .type "dict" ∧ o.data = .dict es ep := by
      cases hd with
      | dic e =>
        obtain ⟨_, _, _, _, o, es, ep, e1, ex, ed, _⟩ := (show ObjOk X.prog X.w H s.heap a (.dK []) from I.hok a _ e)
        exact ⟨o, es, ep, e1, ex.1, ed⟩
      | dic1 e =>
        obtain ⟨_, _, _, _, o, es, ep, e1, ex, ed, _⟩ := (show ObjOk X.prog X.w H s.heap a (.dK _) from I.hok a _ e)
        exact ⟨o, es, ep, e1, ex.1, ed⟩
    obtain ⟨o2, es, ep, h1, h2, h3⟩ := hdic
    refine SeqAt.in_tupleAt (e := fun _ => false) (hl := ⟨o, ho, hc, n, hdat⟩) (he := fun y hy => ?_) (h := ?_)
    · have hm : ∃ n t, y = Value.str n t := by
        have : ∀ (ns : List Str) (us : List Value), Vals (ns.map V.str) us → ∀ z ∈ us, ∃ n t, z = Value.str n t := fun ns => by
          induction ns with
          | nil => intro us r z hz; cases r; cases hz
          | cons n ns ih =>
            intro us r z hz
            cases r with
            | cons r1 r2 =>
              rcases List.mem_cons.mp hz with rfl | hz
              · obtain ⟨t, rfl⟩ := r1
                exact ⟨n, t, rfl⟩
              · exact ih _ r2 z hz
        exact this ns its rv y (by simpa using hy)
      obtain ⟨n, t, rfl⟩ := hm
      exact eq_str_dict n t h1 h2 h3 (by have : X.A.units + 64 < cLine := hu; show X.A.in1.units < cLine; exact Nat.lt_of_le_of_lt (by show X.A.units + 1 ≤ X.A.units + 64; omega) this)
    · have : (its.toArray.any fun _ => false) = false := by
        rw [← Array.any_toList]
        exact List.any_eq_false.mpr fun _ _ => by simp
      rw [this]
      exact ⟨.bl false, H, I, rfl, q⟩
end
end KX

set_option maxRecDepth 100000
set_option maxHeartbeats 4000000
/-! < of data that are alike -/
namespace KX
open PySem PySem.Spec PyProof.Rows L2
section
variable {X : Cx}
def rLtD (K : PySem.W.Frag) : R2 := fun x y H Q => ∃ d e, Dp K H x d ∧ Dp K H y e ∧ PySem.W.alike d e = true ∧ d ≠ .none ∧ min d.depth e.depth ≤ 60 ∧ Q (.bl (PySem.W.dataLt d e)) H
theorem op_ltD (hu : X.A.units + 64 < cLine) : OpR X (compareOp .Lt) (rLtD X.K) := by
  intro pins s σ H x y v u Q I rx ry h
  obtain ⟨d, e, hd, he, ha, hn, hm, q⟩ := h
  obtain ⟨as, r1⟩ := Dp.reads I d x v hd rx
  obtain ⟨bs, r2⟩ := Dp.reads I e y u he ry
  exact PySem.W.lt_data r1 r2 ha hn (by omega) ⟨.bl _, H, I, rfl, q⟩
end
end KX

set_option maxRecDepth 100000
set_option maxHeartbeats 4000000
/-! l != [], l any list -/
namespace KX
open PySem PySem.Spec PyProof.Rows L2
section
variable {X : Cx}
def rNeL0 (K : PySem.W.Frag) : R2 := fun x y H Q => ∃ a b xs, x = .ref a ∧ y = .ref b ∧ SqL K H a xs ∧ SqL K H b [] ∧ Q (.bl (!xs.isEmpty)) H
theorem op_neL0 (hu : X.A.units < cLine) : OpR X (compareOp .NotEq) (rNeL0 X.K) := by
  intro pins s σ H x y v u Q I rx ry h
  obtain ⟨a, b, xs, rfl, rfl, ha, hb, q⟩ := h
  cases rx
  cases ry
  obtain ⟨its, r1, p1, _⟩ := I.list ha
  obtain ⟨its2, r2, p2, _⟩ := I.list hb
  cases r2
  cases xs with
  | nil =>
    cases r1
    refine SeqAt.RcNeAt.lists (e := fun _ => true) p1.isList p2.isList rfl hu (fun j h1 h2 => absurd h2 (by simp)) X.prog X.w X.xe (EP X pins σ Q) ?_
    exact ⟨.bl _, H, I, rfl, q⟩
  | cons x xs =>
    cases r1
    exact SeqAt.RcNeAt.lists_lengths p1.isList p2.isList (by simp) hu X.prog X.w X.xe (EP X pins σ Q) ⟨.bl _, H, I, rfl, q⟩
end
end KX

set_option maxRecDepth 100000
set_option maxHeartbeats 400000
namespace KX
open PySem PySem.Spec PyProof.Rows L2 LamX NdefX
/-! ### a lambda with one parameter, captured names, handed to a def and called there -/
abbrev lamF (q : Str) (params : Arguments) (scope : Scope) (cl : List (Str × Addr)) (c : Addr) : NF := ⟨"<lambda>", q, params, [], scope, cl, c⟩
theorem cells_later {cl : List (Str × Addr)} {fr : List Str} {ws : List (Option V)} {fs : List Addr} {h h2 : Heap} {H H2 : Hp} (C : CellsAt cl fr ws h H) (un : Un fs [] H H2 h h2) : CellsAt cl fr ws h2 H2 := by
  have kp : ∀ y c, cl.lookup y = some c → ∀ v, h.IsCell c v → h2.IsCell c v := fun y c e v ⟨o, ho, hd⟩ => by
    obtain ⟨sl, q⟩ := un.any ho (C.all y c e).1 (by simp)
    exact ⟨_, q, hd⟩
  refine ⟨C.len, fun y c e => ?_, C.inj, fun i y e => ?_⟩
  · obtain ⟨n, v, z⟩ := C.all y c e
    refine ⟨?_, v, kp y c e v z⟩
    obtain ⟨o, ho, _⟩ := z
    exact un.free c o ho n (by simp)
  · obtain ⟨c, hc, hv⟩ := C.has i y e
    refine ⟨c, hc, fun v ev => ?_⟩
    obtain ⟨u, r, z⟩ := hv v ev
    exact ⟨u, r, kp y c hc _ z⟩
theorem vals_one {v : V} {us : List Value} (r : Vals [v] us) : ∃ u0, us = [u0] := by
  cases r with
  | cons r0 rr =>
    cases rr
    exact ⟨_, rfl⟩
/-- it runs -/
theorem lam_run {CX : CXT} {P : Program} {w : World} {K : PySem.W.Frag} {mg : Str → Option Value} {base : Heap} {N ps fr : List Str} {q : Str} {params : Arguments} {scope : Scope} {cl : List (Str × Addr)} {c' f : Addr} {body : Expr} {k : Nat} {A : Around} {outer : List PySem.Env} {s : Shared} {H : Hp}
    {us : List Value} {vs : List V} {ws : List (Option V)} {Q : VK} {E : XK} {pm ctv : Value} {t : TE} (S : NScope N ps fr scope) (hb : bindArgs (PySem.W.kla_fn "<lambda>" q params body scope cl pm (.ref c') ctv) ⟨us, []⟩ = pure (ps.zip us)) (hr : Room (k + 1) A)
    (e0 : Env0 P w K mg base A outer s H) (ho : s.heap.get? f = some (PySem.W.kla_obj "<lambda>" q params body scope cl pm c' ctv)) (hc : H c' = some (CodeO c' q)) (C : CellsAt cl fr ws s.heap H) (r : Vals vs us) (hl : vs.length = ps.length)
    (hbody : Room k (A.deeper (envF (lamF q params scope cl c') f s.heap.objs.size)) → PE (ncx CX P w K mg base N (lamF q params scope cl c') f A outer s H E) body t) (ht : t (startF N vs ws) H Q) : codeAny (model P w) A (.call (.ref f) ⟨us, []⟩) (CR CX outer P w H s Q E) s := by
  have lim : s.heap.NoLimit := e0.mod.nolimit.keeps fun b o e => (e0.bs b o e).1
  refine PySem.W.kla_callFunE hr.depth ho rfl S.co S.gen rfl (codeO_at e0.hok hc) ?_
  rw [hb]
  refine wpAny_pure (wpAny_newFunctionEnv S.nocell (fun ⟨n, _⟩ hy => S.par n (List.of_mem_zip hy).1) (fun h₁ hns hsb => ⟨lim.fresh _ hsb, ?_⟩) S.kind)
  show codeAny _ _ (.expr body (envF (lamF q params scope cl c') f s.heap.objs.size)) _ _
  have kp : ∀ b o, s.heap.get? b = some o → h₁.get? b = some o := fun b o e => hsb.extBut b o (Nat.ne_of_lt (Heap.lt_size e)) (Heap.get?_push_of_some _ e)
  have I : Inv (ncx CX P w K mg base N (lamF q params scope cl c') f A outer s H E) [] (startF N vs ws) H { s with heap := h₁, toks := s.toks + (ps.zip us).length } := inv_startN S hr.hd e0 hl r C hns kp
  refine PySem.W.kla_codeExpr (wpAny_mono ((hbody (hr.deeper _)).run [] _ _ H Q I ht) (fun v s' hq => ?_) fun e s' hq => hq)
  obtain ⟨w', H', J', rv, q⟩ := hq
  exact ⟨w', H', J'.os, J'.bare, J'.base, J'.hok, rv, q⟩
section
variable {X : Cx} {pins : List (Addr × Obj)} {σ : L2.St} {H : Hp} {s : Shared}
/-- a(e), in the def that got the lambda as a -/
theorem pe_act1 {CXg : CXT} {Eg : XK} {Ng : List Str} {qg : Str} {sg : Scope} {g f c' : Addr} {cdg pm ctv : Value} {q : Str} {params : Arguments} {body : Expr} {scope : Scope} {cl : List (Str × Addr)} {k i : Nat} {a p : Str} {pn : List (Addr × Obj)} {xe : Value → Shared → Prop} {W : WX} {tb : XK → TE} {te : TE} {e : Expr} {p1 p2 : Pos} {N fr : List Str} {ws : List (Option V)}
    (S : NScope N [p] fr scope) (C : CellsAt cl fr ws s.heap H) (hf : s.heap.get? f = some (PySem.W.kla_obj "<lambda>" q params body scope cl pm c' ctv)) (hfn : H f = none) (hfr : f ∉ frs X.stack)
    (hbind : ∀ u, bindArgs (PySem.W.kla_fn "<lambda>" q params body scope cl pm (.ref c') ctv) ⟨[u], []⟩ = pure [(p, u)])
    (tk : Takes ((cxOf CXg X.prog X.w X.K X.mg X.base Ng qg sg g cdg X.A X.stack s H Eg).tr pn xe) W) (hr : Room (k + 1) (X.A.deeper (envOfC qg sg s.heap.objs.size g cdg)))
    (hbody : ∀ (A : Around) (outer : List PySem.Env) (s : Shared) (H : Hp) (E : XK), Room k (A.deeper (envF (lamF q params scope cl c') f s.heap.objs.size)) → PE (ncx (L2.CX X.prog X.w) X.prog X.w X.K X.mg X.base N (lamF q params scope cl c') f A outer s H E) body (tb E))
    (ha : PE ((cxOf CXg X.prog X.w X.K X.mg X.base Ng qg sg g cdg X.A X.stack s H Eg).tr pn xe) e te) (he : ∀ env, starEach [e] env = (false, eval e env) :: starEach [] env)
    (hN : Ng[i]? = some a) (hv : Vis sg a) (hd : (a == ("__debug__" : Str)) = false := by decide) (hcd : (a == ("__classdict__" : Str)) = false := by decide) :
    PE ((cxOf CXg X.prog X.w X.K X.mg X.base Ng qg sg g cdg X.A X.stack s H Eg).tr pn xe) (.Call (.Name a p1) [e] [] p2)
      (fun σZ HZ Q => σZ[i]? = some (some (.ref f)) ∧ te σZ HZ fun v H1 => H1 c' = some (CodeO c' q) ∧ tb (fun cls d H' => W cls d σZ H') (startF N [v] ws) H1 Q) := by
  refine ⟨fun pinsZ sZ σZ HZ Q IZ h => ?_⟩
  obtain ⟨hs, ht⟩ := h
  refine wpAny_Call_Name_kw (thn ((pe_var (pos := p1) (i := i) hN hv hd hcd).run pinsZ sZ σZ HZ (fun v H1 => v = .ref f ∧ H1 = HZ) IZ ⟨.ref f, hs, rfl, rfl⟩) fun u s1 ⟨v, H1, I1, r1, q1⟩ => ?_)
  obtain ⟨ev, eH⟩ := q1
  subst ev
  rw [eH] at I1
  obtain rfl : u = Value.ref f := r1
  have of1 : s1.heap.get? f = some (PySem.W.kla_obj "<lambda>" q params body scope cl pm c' ctv) := I1.base.keep f _ hf hfn hfr (fun z => nomatch (show f ∈ ([] : List Addr) from z))
  refine PySem.W.callWith_F (first := []) ⟨_, _, _, _, of1⟩ (thn ((pa_cons ha pa_nil (he _)).run p2 pinsZ s1 σZ HZ (fun vs H' => ∃ v, vs = [v] ∧ H' c' = some (CodeO c' q) ∧ tb (fun cls d H' => W cls d σZ H') (startF N [v] ws) H' Q) I1 ?_) fun us s2 ⟨vs, H2, I2, r, q2⟩ => ?_) (he _) (by rfl)
  · show te σZ HZ fun v H1 => _
    have : (fun v H1 => H1 c' = some (CodeO c' q) ∧ tb (fun cls d H' => W cls d σZ H') (startF N [v] ws) H1 Q) = (fun v H1 => ∃ v', [v] = [v'] ∧ H1 c' = some (CodeO c' q) ∧ tb (fun cls d H' => W cls d σZ H') (startF N [v'] ws) H1 Q) := by
      funext v H1
      refine propext ⟨fun h => ⟨v, rfl, h⟩, fun ⟨v', e, h⟩ => ?_⟩
      cases e
      exact h
    rw [this] at ht
    exact ht
  obtain ⟨v, ev, hc, hb⟩ := q2
  subst ev
  have of2 : s2.heap.get? f = some (PySem.W.kla_obj "<lambda>" q params body scope cl pm c' ctv) := I2.base.keep f _ hf hfn hfr (fun z => nomatch (show f ∈ ([] : List Addr) from z))
  refine ⟨⟨_, _, _, _, of2⟩, ?_⟩
  show wpAny _ _ (call (.ref f) us) _ _ _
  have un : Un (frs X.stack) [] H H2 s.heap s2.heap := I2.base
  obtain ⟨u0, eu⟩ := vals_one r
  subst eu
  have rc : codeAny (model X.prog X.w) (X.A.deeper (envOfC qg sg s.heap.objs.size g cdg)) (.call (.ref f) ⟨[u0], []⟩) (CR (L2.CX X.prog X.w) (envOfC qg sg s.heap.objs.size g cdg :: X.stack) X.prog X.w H2 s2 Q (fun cls d H' => W cls d σZ H')) s2 :=
    lam_run (k := k) S (hbind u0) hr I2.env0 of2 hc (cells_later C un) r rfl (fun hr2 => hbody _ _ _ _ _ hr2) hb
  refine wpAny_call (codeAny_mono rc fun r s' hq => ?_)
  cases r with
  | error e => exact tk e s' (XE.of_call I2 (fun cls d H' h => h) hq)
  | ok fl =>
    cases fl with
    | ret u => exact I2.after hq
    | next => exact False.elim hq
    | brk => exact False.elim hq
    | cont => exact False.elim hq
end
/-- the def g (two parameters, the second is called): TT is what it makes of the lambda's reading -/
def GivesTo1 (X : Cx) (k : Nat) (Ng : List Str) (x : Str) (sg : Scope) (g : Addr) (cdg : Value) (bg : List Stmt) (a : Str) (q : Str) (TT : (XK → V → Hp → VK → Prop) → V → Hp → VK → Prop) : Prop :=
  ∀ (f c' : Addr) (s : Shared) (H : Hp) (v0 : V) (Q : VK) (tl : XK → V → Hp → VK → Prop), Room k (X.A.deeper (envOfC x sg s.heap.objs.size g cdg)) →
    (∀ (W : WX) (pn : List (Addr × Obj)) (xe : Value → Shared → Prop) (e : Expr) (te : TE) (p1 p2 : Pos), Takes ((cxOf C8.CX0 X.prog X.w X.K X.mg X.base Ng x sg g cdg X.A X.stack s H C8.E0).tr pn xe) W →
      PE ((cxOf C8.CX0 X.prog X.w X.K X.mg X.base Ng x sg g cdg X.A X.stack s H C8.E0).tr pn xe) e te → (∀ env, starEach [e] env = (false, eval e env) :: starEach [] env) →
      PE ((cxOf C8.CX0 X.prog X.w X.K X.mg X.base Ng x sg g cdg X.A X.stack s H C8.E0).tr pn xe) (.Call (.Name a p1) [e] [] p2) (fun σZ HZ Q => σZ[1]? = some (some (.ref f)) ∧ te σZ HZ fun v H1 => H1 c' = some (CodeO c' q) ∧ tl (fun cls d H' => W cls d σZ H') v H1 Q)) →
    H c' = some (CodeO c' q) → TT tl v0 H Q →
    ∃ t, PSs (cxOf C8.CX0 X.prog X.w X.K X.mg X.base Ng x sg g cdg X.A X.stack s H C8.E0).nox bg t ∧ t { nx := fun _ H' => Q .non H', rt := Q } (L2.start Ng [v0, .ref f]) H
def tLam1 (T : List (Addr × Str)) (TT : (XK → V → Hp → VK → Prop) → V → Hp → VK → Prop) (t0 : TE) (t : XK → L2.St → V → Hp → VK → Prop) : TE := fun σ H Q => t0 σ H fun v0 H0 => Tabs T H0 ∧ ∀ H1, ExtN H0 H1 → Tabs T H1 → TT (fun E v H' Q' => t E σ v H' Q') v0 H1 Q
section
variable {X : Cx}
/-- x(e, lambda p: body) -/
theorem pe_lamcall1 {T : List (Addr × Str)} {TT : (XK → V → Hp → VK → Prop) → V → Hp → VK → Prop} {x a a0 p : Str} {g c P : Addr} {k : Nat} {pg : Arguments} {bg : List Stmt} {sg : Scope} {dV kV doc pm cdv ct oc : Value} {an od : Option Addr} {osl : Array (Option Value)} {Ng N fr : List Str} {js : List Nat}
    {params : Arguments} {body e : Expr} {scope : Scope} {t : XK → TE} {t0 : TE} {pp lpos pos : Pos} (hg : Gl X x) (hm : X.mg x = some (.ref g)) (hk : PySem.W.keepIn X.K (.ref g) = true)
    (lk : X.K.lookup g = some ⟨oc, od, .func (PySem.W.fnOf x x pg bg sg dV kV doc pm an cdv ct), osl⟩) (hcg : PySem.W.codeIn X.K cdv x = true) (hb : L2.Binds X.K (PySem.W.fnOf x x pg bg sg dV kV doc pm an cdv ct) [a0, a] []) (Sg : FnScope Ng [a0, a] sg) (hNg : Ng[1]? = some a) (hva : Vis sg a)
    (hG : GivesTo1 X (k + 1) Ng x sg g cdv bg a (X.env.qual ++ "<lambda>") TT)
    (TB : TabB X.base X.mg c P) (hcode : X.env.code = .ref c) (hmT : (P, X.env.qual ++ "<lambda>") ∈ T) (hu : ∀ p ∈ T, p.1 = P → p.2 = X.env.qual ++ "<lambda>") (hr : Room (k + 2) X.A) (S : NScope N [p] fr scope)
    (hfree : ∀ y ∈ scope.names, y.2 = .free → X.env.scope.names.lookup y.1 = some .cell ∨ X.env.scope.names.lookup y.1 = some .free) (hfr : ∀ y ∈ fr, (y, NameKind.free) ∈ scope.names) (hjs : js.map (fun j => X.N[j]?) = fr.map some)
    (hdef : defaultsOf params X.env = ([], []))
    (hbind : ∀ (q : Str) (cl : List (Str × Addr)) (pm cv ctv u : Value), bindArgs (PySem.W.kla_fn "<lambda>" q params body scope cl pm cv ctv) ⟨[u], []⟩ = pure [(p, u)])
    (hbody : ∀ (A : Around) (outer : List PySem.Env) (s : Shared) (H : Hp) (E : XK) (f c' : Addr), Room k (A.deeper (envF (lamF (X.env.qual ++ "<lambda>") params scope (cloFrom X.env.cells scope.names []) c') f s.heap.objs.size)) →
      PE (ncx (L2.CX X.prog X.w) X.prog X.w X.K X.mg X.base N (lamF (X.env.qual ++ "<lambda>") params scope (cloFrom X.env.cells scope.names []) c') f A outer s H E) body (t E))
    (he : PE X e t0) (hse : ∀ env, starEach [e, .Lambda params body scope lpos] env = (false, eval e env) :: starEach [.Lambda params body scope lpos] env)
    (hdb : (x == ("__debug__" : Str)) = false := by decide) (hd : (a == ("__debug__" : Str)) = false := by decide) (hcd : (a == ("__classdict__" : Str)) = false := by decide) :
    PE X (.Call (.Name x pp) [e, .Lambda params body scope lpos] [] pos) (tLam1 T TT t0 fun E σ v H Q => t E (startF N [v] (js.map (slotAt σ))) H Q) := by
  refine ⟨fun pins s σ H Q I h => ?_⟩
  refine wpAny_Call_Name_kw (ld_glob I hg hm ?_ hdb)
  refine PySem.W.callWith_K (h₀ := X.base) I.ok.mod.kin hk ?_ (hse _) (by rfl)
  rw [hse]
  show wpAny _ _ (spliced ((false, eval e X.env) :: (false, eval (.Lambda params body scope lpos) X.env) :: backTo pos (starEach [] X.env))) _ _ s
  refine Calls.spliced_cons (thn (he.run pins s σ H _ I h) fun u0 s0 ⟨v0, H0, I0, r0, q0⟩ => ?_)
  obtain ⟨hT, h⟩ := q0
  have hfr2 : ∀ y ∈ scope.names, y.2 = .free → ∃ c, X.env.cells.lookup y.1 = some c := fun y hy e => (hfree y hy e).elim (fun z => I0.ok.has _ (.inl z)) fun z => I0.ok.has _ (.inr z)
  refine Calls.spliced_cons (lam_make2 I0 TB hcode hmT hu hT hdef hfr2 fun f c' pm' ctv H1 s' I1 eN T1 hf hfn hfr' hco => ?_)
  refine Calls.spliced_nil ⟨I1.kIn, ?_⟩
  have cp := cells_of I1 (Caps.made I1.ok hfree hfr hjs)
  have rc : codeAny (model X.prog X.w) X.A (.call (.ref g) ⟨[u0, .ref f], []⟩) (CR C8.CX0 X.stack X.prog X.w H1 s' Q C8.E0) s' := by
    refine run_ofS (N := Ng) (ps := [a0, a]) (us := [u0, .ref f]) (vs := [v0, .ref f]) lk hcg Sg hr I1.env0 (hb s' [u0, .ref f] I1.kIn rfl) (.cons r0 (.cons rfl .nil)) rfl fun hr' => ?_
    obtain ⟨t', ht', hq'⟩ := hG f c' s' H1 v0 Q (fun E v H' Q' => t E (startF N [v] (js.map (slotAt σ))) H' Q') hr' (fun W pn xe e te p1 p2 tk ha he => pe_act1 (i := 1) S cp hf hfn hfr' (hbind _ _ _ _ _) tk hr' (fun A outer s H E hr2 => hbody A outer s H E f c' hr2) ha he hNg hva hd hcd) hco (h H1 eN T1)
    exact ⟨t', ht'.nox, hq'⟩
  refine wpAny_call (codeAny_mono rc fun r s2 hq => ?_)
  cases r with
  | error e => exact (show False from hq).elim
  | ok fl =>
    cases fl with
    | ret u => exact I1.after hq
    | next => exact False.elim hq
    | brk => exact False.elim hq
    | cont => exact False.elim hq
end
end KX

set_option maxRecDepth 100000
set_option maxHeartbeats 1000000
namespace KX
open PySem PySem.Spec PyProof.Rows L2 LamX
/-! ### the law's call where defs make lambdas, and repr shows data -/
theorem lawGT {P : Program} {w : World} {K : PySem.W.Frag} {mg mb : Str → Option Value} {k : Nat} {fa a : Addr} {cs : List (Addr × Addr)} {fd : FuncData} {x : Str} {sp : Sp} {s1 : Shared} {vs : List Value} {ns : List Int}
    (KX : K.In s1.heap) (hns : s1.heap.Ns mainGlobals mg) (hb : s1.heap.Ns builtinsNs mb) (hbb : ∀ x : Str, x ≠ "__name__" → mb x = bootBuiltins x) (hlim : s1.heap.NoLimit) (hg : s1.gens = #[])
    (hT : ∀ p ∈ cs, s1.heap.get? p.2 = some { cls := .none, data := .fields #[] }) (nT : ∀ p ∈ cs, K.lookup p.2 = none) (C : ∀ p ∈ cs, PySem.W.CodeHd s1.heap p.1 p.2)
    (hbm : ∃ (bm : Addr) (ob : Obj), mg "__builtins__" = some (.ref bm) ∧ bm ≠ builtinsNs ∧ s1.heap.get? bm = some ob ∧ ob.cls = .type "module" ∧ ob.dict = some builtinsNs ∧ ob.data = .plain)
    (ha : s1.heap.get? a = some { cls := .type "list", data := .seq vs.toArray }) (hi : IntsAre vs ns) (hl : ns.length ≤ sizeLine) (hr : Room k callerA)
    (F : ∀ base : Heap, K.In base → base.Ns mainGlobals mg → (∀ p ∈ cs, TabB base mg p.1 p.2) → FnG P w K mg base CX0 k fa fd [x] sp) (hbind : ∀ (s : Shared) (u : Value), BindsTo s fd ⟨[u], []⟩ [(x, u)])
    (hsp : ∀ H : Hp, (∀ p ∈ cs, H p.2 = some (.tbl #[])) → SqL K H a (ns.map V.int) → sp [.ref a] H (fun v _ => v = .bl true) fun _ _ _ => False) :
    codeAny (model P w) callerA (.call (.ref fa) ⟨[.ref a], []⟩) (fun r s' => r = .ok (.ret (.bool true)) ∧ OldK s1.heap s'.heap ∧ s'.os = s1.os ∧ AllBare s'.gens) s1 := by
  have rv := vals_ints hi
  have lenV := hi.length
  have neA : ∀ p ∈ cs, p.2 ≠ a := fun p hp z => by
    have e := hT p hp
    rw [z, ha] at e
    cases e
  have main : ∀ H : Hp, (∀ b o, H b = some o → (b = a ∧ K.lookup a = none ∧ o = .frz { cls := .type "list", data := .seq vs.toArray } (.lst (ns.map V.int))) ∨ ∃ p ∈ cs, b = p.2 ∧ o = .tbl #[]) → (∀ p ∈ cs, H p.2 = some (.tbl #[])) → SqL K H a (ns.map V.int) →
      codeAny (model P w) callerA (.call (.ref fa) ⟨[.ref a], []⟩) (fun r s' => r = .ok (.ret (.bool true)) ∧ OldK s1.heap s'.heap ∧ s'.os = s1.os ∧ AllBare s'.gens) s1 := by
    intro H hO hH hS
    have hok : HOk P w H s1.heap := fun b o e => by
      rcases hO b o e with ⟨e1, _, e2⟩ | ⟨p, hp, e1, e2⟩
      · subst e1 e2
        exact ⟨ha, by rw [List.length_map]; exact hl, vs, _, rv, ha⟩
      · subst e1 e2
        exact hT p hp
    have none_of : ∀ {b : Addr} {o : Obj}, s1.heap.get? b = some o → (∀ vs n, o.data ≠ .seq vs n) → o.data ≠ .fields #[] → H b = none := fun {b o} e n1 n2 => by
      cases q : H b with
      | none => rfl
      | some u =>
        rcases hO b u q with ⟨e1, _, _⟩ | ⟨p, hp, e1, _⟩
        · rw [e1, ha] at e
          cases e
          exact (n1 _ _ rfl).elim
        · rw [e1, hT p hp] at e
          cases e
          exact (n2 rfl).elim
    have keep : ∀ {b : Addr} {o : Obj}, s1.heap.get? b = some o → (∀ vs n, o.data ≠ .seq vs n) → o.data ≠ .fields #[] → (hidT s1.heap H).get? b = some o := fun e n1 n2 => hidT_get e (none_of e n1 n2)
    have nsK : ∀ {b : Addr} {m : Str → Option Value}, s1.heap.Ns b m → (hidT s1.heap H).Ns b m := fun {b m} hn => by
      obtain ⟨o, es, ep, e, d, r⟩ := hn
      exact ⟨o, es, ep, keep e (fun vs n z => by rw [d] at z; cases z) (fun z => by rw [d] at z; cases z), d, r⟩
    have hKb : K.In (hidT s1.heap H) := fun b o e => hidT_get (KX b o e) (by
      cases q : H b with
      | none => rfl
      | some u =>
        rcases hO b u q with ⟨e1, e2, _⟩ | ⟨p, hp, e1, _⟩
        · rw [e1, e2] at e
          cases e
        · rw [e1, nT p hp] at e
          cases e)
    have hM : Mod K mg (hidT s1.heap H) := ⟨hKb, nsK hns, ⟨mb, nsK hb, hbb⟩, let ⟨mc, h1, h2⟩ := hlim; ⟨mc, nsK h1, h2⟩⟩
    have e0 : Env0 P w K mg (hidT s1.heap H) callerA [] s1 H := ⟨rfl, hM, fun b o e => of_hidT e, Nat.le_of_eq (hidT_size _ _), trivial, fun b hb => absurd (show b ∈ ([] : List Addr) from hb) (by simp), hok, .of_eq hg⟩
    have TB : ∀ p ∈ cs, TabB (hidT s1.heap H) mg p.1 p.2 := fun p hp => by
      refine ⟨?_, ?_, fun z => ?_⟩
      · obtain ⟨o, us, file, tf, flags, tg, inF, text, tt, e1, r1, r2, r3, rest⟩ := C p hp
        refine ⟨o, us, file, tf, flags, tg, inF, text, tt, keep e1 (fun vs n z => by rw [r2] at z; cases z) (fun z => ?_), r1, r2, r3, rest⟩
        rw [r2] at z
        cases z
        simp at r3
      · obtain ⟨bm, ob, b1, b2, b3, b4, b5, b6⟩ := hbm
        have n1 : ∀ vs n, ob.data ≠ .seq vs n := fun vs n z => by rw [b6] at z; cases z
        have n2 : ob.data ≠ .fields #[] := fun z => by rw [b6] at z; cases z
        refine ⟨bm, ob, b1, b2, fun q => ?_, fun q => ?_, keep b3 n1 n2, b4, b5, b6⟩
        · obtain ⟨o, es, ep, e, hd, _⟩ := hns
          rw [q, e] at b3
          cases b3
          rw [hd] at b6
          cases b6
        · rw [q, hT p hp] at b3
          cases b3
          cases b6
      · obtain ⟨o, es, ep, e, hd, _⟩ := hns
        rw [z, hT p hp] at e
        cases e
        cases hd
    refine codeAny_mono ((F _ hKb (nsK hns) TB).run callerA [] s1 H ⟨[.ref a], []⟩ [.ref a] [.ref a] _ _ rfl hr e0 (hbind s1 (.ref a)) (.cons rfl .nil) (hsp H hH hS)) fun r s' h => ?_
    match r, h with
    | .error e, h => exact h.elim
    | .ok (.ret u), h =>
      obtain ⟨v, H', os, bare, un, hok', r', q⟩ := h
      have q' : v = .bl true := q
      subst q'
      obtain rfl : u = Value.bool true := r'
      have key : ∀ b o, (∀ p ∈ cs, b ≠ p.2) → s1.heap.get? b = some o → s'.heap.get? b = some o := fun b o nb e => by
        cases q : H b with
        | none => exact un.keep b o e q (fun z => absurd (show b ∈ ([] : List Addr) from z) (by simp)) (by simp)
        | some u =>
          rcases hO b u q with ⟨e1, _, e2⟩ | ⟨p, hp, e1, _⟩
          · rw [e2] at q
            obtain ⟨f1, _⟩ := hok b _ q
            obtain ⟨f2, _⟩ := hok' b _ (un.frzs b _ _ q)
            rw [e] at f1
            cases f1
            exact f2
          · exact (nb p hp e1).elim
      have grown : ∀ p ∈ cs, ∃ more : Array Value, s'.heap.get? p.2 = some { cls := .none, data := .fields more } := fun p hp => by
        obtain ⟨more, z⟩ := un.tbls p.2 #[] (hH p hp)
        exact ⟨_, hok' p.2 _ z⟩
      refine ⟨rfl, ⟨fun b o e => ?_, fun b o e => ?_⟩, os, bare⟩
      · by_cases hb : ∃ p ∈ cs, b = p.2
        · obtain ⟨p, hp, ep⟩ := hb
          obtain ⟨more, hm⟩ := grown p hp
          rw [ep] at e ⊢
          rw [hT p hp] at e
          cases e
          exact .inr (.inl ⟨((C p hp).tab (hT p hp)).isCodeTable, rfl, #[], more, rfl, by rw [Array.empty_append]; exact hm⟩)
        · exact .inl (key b o (fun p hp z => hb ⟨p, hp, z⟩) e)
      · by_cases hb : ∃ p ∈ cs, b = p.2
        · obtain ⟨p, hp, ep⟩ := hb
          obtain ⟨more, hm⟩ := grown p hp
          rw [ep]
          exact ⟨_, hm⟩
        · exact ⟨o, key b o (fun p hp z => hb ⟨p, hp, z⟩) e⟩
  cases hk : K.lookup a with
  | some o =>
    have e := KX a o hk
    rw [ha] at e
    cases e
    refine main (fun b => if ∃ p ∈ cs, b = p.2 then some (.tbl #[]) else none) (fun b u z => ?_) (fun p hp => if_pos ⟨p, hp, rfl⟩) (.inr ⟨_, vs.toArray, _, hk, rfl, rfl, rfl, by rw [List.size_toArray, lenV]; exact hl, by simpa using rv⟩)
    by_cases hb : ∃ p ∈ cs, b = p.2
    · have z' := (if_pos hb).symm.trans z
      cases z'
      obtain ⟨p, hp, e⟩ := hb
      exact .inr ⟨p, hp, e, rfl⟩
    · have z' := (if_neg hb).symm.trans z
      cases z'
  | none =>
    refine main (fun b => if b = a then some (.frz { cls := .type "list", data := .seq vs.toArray } (.lst (ns.map V.int))) else if ∃ p ∈ cs, b = p.2 then some (.tbl #[]) else none) (fun b u z => ?_) (fun p hp => (if_neg (neA p hp)).trans (if_pos ⟨p, hp, rfl⟩)) (.inl (.inr ⟨_, if_pos rfl⟩))
    by_cases hb : b = a
    · have z' := (if_pos hb).symm.trans z
      cases z'
      exact .inl ⟨hb, hk, rfl⟩
    · have z1 := (if_neg hb).symm.trans z
      by_cases hb2 : ∃ p ∈ cs, b = p.2
      · have z' := (if_pos hb2).symm.trans z1
        cases z'
        obtain ⟨p, hp, e⟩ := hb2
        exact .inr ⟨p, hp, e, rfl⟩
      · have z' := (if_neg hb2).symm.trans z1
        cases z'
/-- the table of the def that stands at f is empty -/
def EmptyTab (K : PySem.W.Frag) (f : Addr) (h : Heap) : Prop := OwnTab K f h
theorem walkGT {l : PySem.W.OpenLaw} {n k : Nat} {q : Program} {loose : List Str} {XP : (Str → Option Value) → Heap → Prop} {YP : World → Heap → Prop} {d : DefRec} {K : Params → PySem.W.Frag} {x : Str}
    (hn : l.most = some n) (hn2 : n ≤ sizeLine) (hdf : d.params.defaults = []) (hr : Room k callerA) (hY : ∀ (w : World) (h : Heap), YP w h → (K w.params).In h)
    (F : ∀ (w : World) (mg : Str → Option Value) (fa : Addr) (h : Heap), (K w.params).In h → h.Ns mainGlobals mg → mg d.name = some (.ref fa) → (∀ y : Str, ((recsOf q).any fun e => e.name == y) = true → ∀ f : Addr, mg y = some (.ref f) → OwnTab (K w.params) f h) →
      ∃ (fd : FuncData) (cs : List (Addr × Addr)) (sp : Sp), (∀ p ∈ cs, h.get? p.2 = some { cls := .none, data := .fields #[] }) ∧ (∀ p ∈ cs, (K w.params).lookup p.2 = none) ∧ (∀ p ∈ cs, PySem.W.CodeHd h p.1 p.2) ∧ (∀ (s : Shared) (u : Value), BindsTo s fd ⟨[u], []⟩ [(x, u)]) ∧
        (∀ (H : Hp) (a : Addr) (ns : List Int), ns.length ≤ n → (∀ p ∈ cs, H p.2 = some (.tbl #[])) → SqL (K w.params) H a (ns.map V.int) → sp [.ref a] H (fun v _ => v = .bl true) fun _ _ _ => False) ∧
        ∀ base : Heap, (K w.params).In base → base.Ns mainGlobals mg → (∀ p ∈ cs, TabB base mg p.1 p.2) → FnG l.prog w (K w.params) mg base CX0 k fa fd [x] sp) :
    PySem.W.WalkO q loose XP YP l.row.toRowW d [] (fun f vs => PySem.call f vs) := by
  refine Att.attach_callB hn hdf fun w s₀ s₁ mg mb fa o pm cd doc a vs ns G Y ho hd hcd hmg hobj hints hlen hbits hg => ?_
  have KX := hY w _ Y
  have own : ∀ y : Str, ((recsOf q).any fun e => e.name == y) = true → ∀ f : Addr, mg y = some (.ref f) → OwnTab (K w.params) f s₁.heap := fun y hrec f hf c P o1 fd1 e dd vs1 sl k1 k2 k3 k4 k5 => by
    obtain ⟨dL, hm, hn1⟩ := List.any_eq_true.mp hrec
    have hn2 : dL.name = y := beq_iff_eq.mp hn1
    obtain ⟨a', o', fd', c', P', h1, h2, h3, h4, h5, h6⟩ := G.T.tab dL hm
    rw [hn2, hf] at h1
    cases h1
    have g1 := KX _ _ k1
    rw [g1] at h2
    cases h2
    rw [k2] at h3
    cases h3
    rw [k3] at h4
    cases h4
    obtain ⟨⟨oc, vc, e1, _, e3, e4⟩, hP⟩ := h6
    have g2 := KX _ _ k4
    rw [g2] at e1
    cases e1
    cases e3
    rw [k5] at e4
    cases e4
    exact hP
  obtain ⟨fd, cs, sp, hT, nT, C, hb, hsp, hF⟩ := F w mg fa _ KX G.T.g hmg own
  exact lawGT KX G.T.g G.T.b G.T.builtins G.T.nolimit hg hT nT C G.T.bmain hobj hints (Nat.le_trans hlen hn2) hr hF hb fun H hH hS => hsp H a ns hlen hH hS
end KX

set_option maxRecDepth 100000
set_option maxHeartbeats 1000000
namespace KX
open PySem PySem.Spec PyProof.Rows L2 LamX
/-! ### tables beside the stream; data where tables grow -/
theorem tabs_keep {l : Addr} {T : List (Addr × Str)} {H H' : Hp} (k : Keep l H H') (st : StO H l) (t : Tabs T H) : Tabs T H' := fun p hp => by
  obtain ⟨ps, h1, h2, h3⟩ := t p hp
  obtain ⟨x, y, z, el⟩ := st
  refine ⟨ps, k _ _ (fun e => ?_) h1, h2, fun pos cv hc => ?_⟩
  · rw [e, el] at h1
    cases h1
  · obtain ⟨c, e1, e2⟩ := h3 pos cv hc
    refine ⟨c, e1, k _ _ (fun e => ?_) e2⟩
    rw [e, el] at e2
    unfold CodeO at e2
    cases e2
/-- without the tables -/
def noT (H : Hp) : Hp := fun b => match H b with
  | some (.tbl _) => none
  | o => o
theorem noT_same {H : Hp} : Same (noT H) H := fun b o e => by
  unfold noT at e
  cases h : H b with
  | none => rw [h] at e; cases e
  | some u =>
    rw [h] at e
    cases u <;> first | exact e | cases e
theorem noT_at {H : Hp} {b : Addr} {o : HO} (h : H b = some o) (n : ∀ ps, o ≠ .tbl ps) : noT H b = some o := by
  unfold noT
  rw [h]
  cases o <;> first | rfl | exact (n _ rfl).elim
theorem noT_ext {H H' : Hp} (e : ExtN H H') : Same (noT H) (noT H') := fun b o h => by
  have n : ∀ ps, o ≠ .tbl ps := fun ps z => by
    subst z
    unfold noT at h
    cases q : H b with
    | none => rw [q] at h; cases h
    | some u =>
      rw [q] at h
      cases u <;> cases h
  exact noT_at (e b o (noT_same b o h) n) n
mutual
theorem Dx.noT {H : Hp} {v : V} {d : PyData} : Dx H v d → Dx (KX.noT H) v d
  | .non => .non
  | .bl b => .bl b
  | .int i => .int i
  | .str x => .str x
  | .tup e h => .tup (noT_at e fun _ z => by cases z) (Dxs.noT h)
  | .lst e n h => .lst (noT_at e fun _ z => by cases z) n (Dxs.noT h)
  | .dic e => .dic (noT_at e fun _ z => by cases z)
  | .dic1 e => .dic1 (noT_at e fun _ z => by cases z)
theorem Dxs.noT {H : Hp} {vs : List V} {ds : List PyData} : Dxs H vs ds → Dxs (KX.noT H) vs ds
  | .nil => .nil
  | .cons h hs => .cons (Dx.noT h) (Dxs.noT hs)
end
theorem Dx.ext {H H' : Hp} {v : V} {d : PyData} (h : Dx H v d) (e : ExtN H H') : Dx H' v d := (h.noT.up (noT_ext e)).up noT_same
theorem sto_ext {l : Addr} {H H' : Hp} (st : StO H l) (e : ExtN H H') : StO H' l := by
  obtain ⟨x, y, z, el⟩ := st
  exact ⟨x, y, z, e _ _ el fun ps q => by cases q⟩
theorem seq_ext {K : PySem.W.Frag} {H H' : Hp} {a : Addr} {xs : List V} (h : SqL K H a xs) (e : ExtN H H') : SqL K H' a xs := by
  rcases h with (h | ⟨o, h⟩) | h
  · exact .inl (.inl (e _ _ h fun ps q => by cases q))
  · exact .inl (.inr ⟨o, e _ _ h fun ps q => by cases q⟩)
  · exact .inr h
end KX

set_option maxRecDepth 100000
set_option maxHeartbeats 1000000
namespace KX
open PySem PySem.Spec PyProof.Rows L2 LamX
/-! ### a callee that doesn't get the list at p: it leaves it, and what it makes doesn't hold it -/
def frameL (sp : Sp) : Sp := fun vs H Q E => ∃ p xs, H p = some (.lst xs) ∧ sp vs (hid p H) (fun v H' => H' p = none → Q v (upd H' p (.lst xs))) E
section
variable {P : Program} {w : World} {K : PySem.W.Frag} {mg : Str → Option Value} {base : Heap} {k : Nat} {f : Addr} {fd : FuncData} {ps : List Str} {sp : Sp}
theorem hok_hid {H : Hp} {h : Heap} {p : Addr} {xs : List V} (ok : HOk P w H h) (e : H p = some (.lst xs)) : HOk P w (hid p H) h := fun b o q => by
  obtain ⟨n, q⟩ := hid_some q
  refine (ok b o q).stay (fun _ _ _ z => z) (fun c z => ?_) fun c ys z => ?_
  · rw [hid_at (fun y => by rw [y, e] at z; cases z)]
    exact z
  · rw [hid_at (fun y => by rw [y, e] at z; cases z)]
    exact z
theorem hok_back {H : Hp} {h : Heap} {p : Addr} {xs : List V} (ok : HOk P w H h) (n : H p = none) (x : ObjOk P w H h p (.lst xs)) : HOk P w (upd H p (.lst xs)) h := fun b o q => by
  by_cases hb : b = p
  · subst hb
    rw [upd_same] at q
    cases q
    exact x
  · rw [upd_ne hb] at q
    refine (ok b o q).stay (fun _ _ _ z => z) (fun c z => ?_) fun c ys z => ?_
    · rw [upd_ne (ne_of_none z n)]
      exact z
    · rw [upd_ne (ne_of_none z n)]
      exact z
theorem FnOk.frame (F : FnOk P w K mg base CX0 k f fd ps sp) : FnOk P w K mg base CX0 k f fd ps (frameL sp) := by
  refine ⟨fun vs H Q E h => ?_, fun A outer s H args us vs Q E hr e0 hb hv h => ?_⟩
  · obtain ⟨p, xs, _, h⟩ := h
    exact F.len _ _ _ _ h
  · obtain ⟨p, xs, e, h⟩ := h
    have nf : p ∉ frs outer := fun z => by
      rw [e0.frf p z] at e
      cases e
    have e1 : Env0 P w K mg base A outer s (hid p H) := ⟨e0.frames, e0.mod, fun b o z => ⟨(e0.bs b o z).1, by
      unfold hid
      split
      · rfl
      · exact (e0.bs b o z).2⟩, e0.bsz, e0.funs, fun b z => by
      unfold hid
      split
      · rfl
      · exact e0.frf b z, hok_hid e0.hok e, e0.bare⟩
    refine codeAny_mono (F.run A outer s (hid p H) args us vs _ E hr e1 hb hv h) fun r s' hq => ?_
    match r, hq with
    | .ok (.ret u), hq =>
      obtain ⟨v, H', os, bare, un, hok, r, q⟩ := hq
      have hn : hid p H p = none := if_pos rfl
      have x0 := e0.hok p _ e
      obtain ⟨ob, ho⟩ : ∃ ob, s.heap.get? p = some ob := by
        obtain ⟨_, its, n, _, z⟩ := x0
        exact ⟨_, z⟩
      have hp : H' p = none := un.free p ob ho hn (by simp)
      have kp := un.keep p ob ho hn nf (by simp)
      have x1 : ObjOk P w H' s'.heap p (.lst xs) := by
        obtain ⟨z, its, n, r, z2⟩ := x0
        rw [ho] at z2
        cases z2
        exact ⟨z, its, n, r, kp⟩
      have cs : ∀ {b : Addr} {o : HO}, H b = some o → (∀ ys, o ≠ .lst ys) → hid p H b = some o ∧ b ≠ p := fun {b o} z n => by
        have ne : b ≠ p := fun y => by
          rw [y, e] at z
          cases z
          exact n _ rfl
        exact ⟨by rw [hid_at ne]; exact z, ne⟩
      refine ⟨v, upd H' p (.lst xs), os, bare, ⟨fun b o z n => un.keep b o z (by unfold hid; split <;> first | rfl | exact n), fun b o z n => un.slot b o z (by unfold hid; split <;> first | rfl | exact n), fun b o z n nx => ?_, un.there, fun b ys z => ?_, fun b o u z => ?_, fun b us z => ?_⟩, hok_back hok hp x1, r, q hp⟩
      · have ne : b ≠ p := fun y => by
          rw [y, e] at n
          cases n
        rw [upd_ne ne]
        exact un.free b o z (by rw [hid_at ne]; exact n) nx
      · obtain ⟨c1, c2⟩ := cs z (fun _ y => by cases y)
        rw [upd_ne c2]
        exact un.tups b ys c1
      · obtain ⟨c1, c2⟩ := cs z (fun _ y => by cases y)
        rw [upd_ne c2]
        exact un.frzs b o u c1
      · obtain ⟨c1, c2⟩ := cs z (fun _ y => by cases y)
        rw [upd_ne c2]
        exact un.tbls b us c1
    | .error e, hq => exact (show False from hq).elim
end
/-- the values that a comprehension has made so far, beside the stream -/
theorem hid_comm {a b : Addr} {H : Hp} : hid a (hid b H) = hid b (hid a H) := by
  funext c
  unfold hid
  by_cases h1 : c = a <;> by_cases h2 : c = b <;> simp [h1, h2]
theorem hid_upd {p : Addr} {H : Hp} {o : HO} (n : H p = none) : hid p (upd H p o) = H := by
  funext c
  by_cases h : c = p
  · subst h
    unfold hid
    rw [if_pos rfl, n]
  · rw [hid_at h, upd_ne h]
/-- the law's call, the tables by what the top says -/
theorem walkGY {l : PySem.W.OpenLaw} {n k : Nat} {q : Program} {loose : List Str} {XP : (Str → Option Value) → Heap → Prop} {YP : World → Heap → Prop} {d : DefRec} {K : Params → PySem.W.Frag} {x : Str}
    (hn : l.most = some n) (hn2 : n ≤ sizeLine) (hdf : d.params.defaults = []) (hr : Room k callerA) (hY : ∀ (w : World) (h : Heap), YP w h → (K w.params).In h)
    (F : ∀ (w : World) (mg : Str → Option Value) (fa : Addr) (h : Heap), (K w.params).In h → h.Ns mainGlobals mg → mg d.name = some (.ref fa) → YP w h →
      ∃ (fd : FuncData) (cs : List (Addr × Addr)) (sp : Sp), (∀ p ∈ cs, h.get? p.2 = some { cls := .none, data := .fields #[] }) ∧ (∀ p ∈ cs, (K w.params).lookup p.2 = none) ∧ (∀ p ∈ cs, PySem.W.CodeHd h p.1 p.2) ∧ (∀ (s : Shared) (u : Value), BindsTo s fd ⟨[u], []⟩ [(x, u)]) ∧
        (∀ (H : Hp) (a : Addr) (ns : List Int), ns.length ≤ n → (∀ p ∈ cs, H p.2 = some (.tbl #[])) → SqL (K w.params) H a (ns.map V.int) → sp [.ref a] H (fun v _ => v = .bl true) fun _ _ _ => False) ∧
        ∀ base : Heap, (K w.params).In base → base.Ns mainGlobals mg → (∀ p ∈ cs, TabB base mg p.1 p.2) → FnG l.prog w (K w.params) mg base CX0 k fa fd [x] sp) :
    PySem.W.WalkO q loose XP YP l.row.toRowW d [] (fun f vs => PySem.call f vs) := by
  refine Att.attach_callB hn hdf fun w s₀ s₁ mg mb fa o pm cd doc a vs ns G Y ho hd hcd hmg hobj hints hlen hbits hg => ?_
  have KX := hY w _ Y
  obtain ⟨fd, cs, sp, hT, nT, C, hb, hsp, hF⟩ := F w mg fa _ KX G.T.g hmg Y
  exact lawGT KX G.T.g G.T.b G.T.builtins G.T.nolimit hg hT nT C G.T.bmain hobj hints (Nat.le_trans hlen hn2) hr hF hb fun H hH hS => hsp H a ns hlen hH hS
end KX

set_option maxRecDepth 100000
set_option maxHeartbeats 1000000
/-! any data against a text: ==, and in a tuple of texts -/
namespace KX
open PySem PySem.Spec PyProof.Rows L2
section
open MeetsSeq MeetsSeq2 MeetsSeq3 SeqRoads2 SeqAt
variable {A : Around} {s : Shared}
theorem rc_dict_str {l : Addr} {o : Obj} {es : Array DictEntry} {ep : Nat} (b : Str) (u : Tok) (ho : s.heap.get? l = some o) (hc : o.cls = .type "dict") (hd : o.data = .dict es ep) (hu : A.units < cLine) : SeqAt.RcAt A s (.ref l) (.str b u) false := fun prog w E Q h => by
  obtain ⟨cls, dd, data, sl⟩ := o
  simp only at hc hd
  subst hc hd
  exact rc_eq_decline_or (k := false) ⟨_, ho, rfl⟩ (typeIs_str s b u) (by decide) PySem.F.sub_str_dict PySem.F.slot_dict_eq PySem.F.slot_str_eq_refl
    (fun _ hq => call_meets PySem.F.slot_dict_eq ⟨_, ho, rfl⟩ PySem.F.entry_dict_eq (PySem.F.args_dict_eq_2 _ _) (dict_eq_declines_str b u l es ep dd sl) ⟨ho, hq⟩)
    (fun _ hq => call_meets PySem.F.slot_str_eq_refl (typeIs_str s b u) PySem.F.entry_str_eq (PySem.F.args_str_eq_2 _ _) (str_eq_declines_dict b u l es ep dd sl) ⟨ho, hq⟩)
    (fun _ hq => wpAny_of_eq (rfl : isSame (.ref l) (.str b u) = pure false) hq) (.inr hu) h
end
section
variable {X : Cx}
theorem dic_at {pins : List (Addr × Obj)} {σ : L2.St} {H : Hp} {s : Shared} {a : Addr} {kvs : List (Key × V)} (I : Inv X pins σ H s) (e : H a = some (.dK kvs)) : ∃ o es ep, s.heap.get? a = some o ∧ o.cls = .type "dict" ∧ o.data = .dict es ep := by
  obtain ⟨_, _, _, _, o, es, ep, e1, ex, ed, _⟩ := (show ObjOk X.prog X.w H s.heap a (.dK kvs) from I.hok a _ e)
  exact ⟨o, es, ep, e1, ex.1, ed⟩
/-- the data d is the text n -/
def isSt (n : Str) : PyData → Bool
  | .str m => decide (m = n)
  | _ => false
theorem isSt_is {n : Str} {d : PyData} (h : isSt n d = true) : d = .str n := by
  cases d with
  | str m => rw [of_decide_eq_true h]
  | _ => cases h
theorem rc_data_str {pins : List (Addr × Obj)} {σ : L2.St} {H : Hp} {s : Shared} {A : Around} {x : V} {d : PyData} {v : Value} {n : Str} {u : Tok} (I : Inv X pins σ H s) (hd : Dx H x d) (r : RelV x v) (hu : A.units < cLine) : SeqAt.RcAt A s v (.str n u) (isSt n d) := by
  cases hd with
  | non =>
    cases r
    exact SeqAt.RcAt.none_str n u
  | bl b =>
    cases r
    exact SeqAt.RcAt.bool_str b n u
  | int i =>
    obtain ⟨t, rfl⟩ := (show ∃ t, v = Value.int i t from r)
    exact SeqAt.RcAt.int_str i t n u
  | str y =>
    obtain ⟨t, rfl⟩ := (show ∃ t, v = Value.str y t from r)
    rw [show isSt n (.str y) = (y == n) by
      show decide (y = n) = (y == n)
      by_cases h : y = n
      · subst h; simp
      · rw [decide_eq_false h]; symm; simpa using h]
    exact SeqAt.RcAt.str_str y t n u
  | @tup a xs ds e h =>
    cases (show v = Value.ref a from r)
    obtain ⟨its, r1, p1, _⟩ := I.tuple (show SqT X.K H a xs from .inl (.inl e))
    exact SeqAt.RcAt.tuple_str n u p1 hu
  | @lst a xs ds e _ h =>
    cases (show v = Value.ref a from r)
    obtain ⟨_, its, k, _, z⟩ := (show ObjOk X.prog X.w H s.heap a (.lst xs) from I.hok a _ e)
    exact SeqAt.RcAt.list_str n u ⟨_, z, rfl, _, rfl⟩ hu
  | @dic a e =>
    cases (show v = Value.ref a from r)
    obtain ⟨o, es, ep, h1, h2, h3⟩ := dic_at I e
    exact rc_dict_str n u h1 h2 h3 hu
  | @dic1 a _ _ e =>
    cases (show v = Value.ref a from r)
    obtain ⟨o, es, ep, h1, h2, h3⟩ := dic_at I e
    exact rc_dict_str n u h1 h2 h3 hu
theorem eq_str_data {pins : List (Addr × Obj)} {σ : L2.St} {H : Hp} {s : Shared} {A : Around} {x : V} {d : PyData} {v : Value} {n : Str} {u : Tok} (I : Inv X pins σ H s) (hd : Dx H x d) (r : RelV x v) (hu : A.units < cLine) : SeqAt.EqAt A s (.str n u) v (isSt n d) := by
  cases hd with
  | non =>
    cases r
    exact SeqAt.EqAt.str_none n u
  | bl b =>
    cases r
    exact SeqAt.EqAt.str_bool n u b
  | int i =>
    obtain ⟨t, rfl⟩ := (show ∃ t, v = Value.int i t from r)
    exact SeqAt.EqAt.str_int n u i t
  | str y =>
    obtain ⟨t, rfl⟩ := (show ∃ t, v = Value.str y t from r)
    rw [show isSt n (.str y) = (n == y) by
      show decide (y = n) = (n == y)
      by_cases h : y = n
      · subst h; simp
      · rw [decide_eq_false h]; symm; simpa using fun z : n = y => h z.symm]
    exact SeqAt.EqAt.str_str n u y t
  | @tup a xs ds e h =>
    cases (show v = Value.ref a from r)
    obtain ⟨its, r1, p1, _⟩ := I.tuple (show SqT X.K H a xs from .inl (.inl e))
    exact SeqAt.EqAt.str_tuple n u p1 hu
  | @lst a xs ds e _ h =>
    cases (show v = Value.ref a from r)
    obtain ⟨_, its, k, _, z⟩ := (show ObjOk X.prog X.w H s.heap a (.lst xs) from I.hok a _ e)
    exact SeqAt.EqAt.str_list n u ⟨_, z, rfl, _, rfl⟩ hu
  | @dic a e =>
    cases (show v = Value.ref a from r)
    obtain ⟨o, es, ep, h1, h2, h3⟩ := dic_at I e
    exact eq_str_dict n u h1 h2 h3 hu
  | @dic1 a _ _ e =>
    cases (show v = Value.ref a from r)
    obtain ⟨o, es, ep, h1, h2, h3⟩ := dic_at I e
    exact eq_str_dict n u h1 h2 h3 hu
/-- x == 'n', x any data -/
def rEqS : R2 := fun x y H Q => ∃ d n, Dx H x d ∧ y = .str n ∧ Q (.bl (isSt n d)) H
theorem op_eqS (hu : X.A.units < cLine) : OpR X (compareOp .Eq) rEqS := by
  intro pins s σ H x y v u Q I rx ry h
  obtain ⟨d, n, hd, rfl, q⟩ := h
  obtain ⟨t, rfl⟩ := (show ∃ t, u = Value.str n t from ry)
  exact rc_data_str I hd rx hu X.prog X.w X.xe _ ⟨.bl _, H, I, rfl, q⟩
/-- x in t, x not in t: t a tuple of texts, x any data -/
def rInA (K : PySem.W.Frag) (f : Bool → Bool) : R2 := fun x y H Q => ∃ (d : PyData) (t : Addr) (ns : List Str), Dx H x d ∧ y = .ref t ∧ SqT K H t (ns.map V.str) ∧ Q (.bl (f (ns.any fun n => isSt n d))) H
theorem vals_strs : ∀ (ns : List Str) (us : List Value), Vals (ns.map V.str) us → ∀ z ∈ us, ∃ n t, z = Value.str n t := fun ns => by
  induction ns with
  | nil => intro us r z hz; cases r; cases hz
  | cons n ns ih =>
    intro us r z hz
    cases r with
    | cons r1 r2 =>
      rcases List.mem_cons.mp hz with rfl | hz
      · obtain ⟨t, rfl⟩ := r1
        exact ⟨n, t, rfl⟩
      · exact ih _ r2 z hz
def isS (d : PyData) : Value → Bool
  | .str m _ => isSt m d
  | _ => false
theorem any_isS {d : PyData} : ∀ (ns : List Str) (us : List Value), Vals (ns.map V.str) us → us.any (isS d) = ns.any fun n => isSt n d := fun ns => by
  induction ns with
  | nil => intro us r; cases r; rfl
  | cons n ns ih =>
    intro us r
    cases r with
    | cons r1 r2 =>
      obtain ⟨t, rfl⟩ := r1
      rw [List.any_cons, List.any_cons, ih _ r2]
      rfl
theorem op_inA (hu : X.A.units + 64 < cLine) : OpR X (compareOp .In) (rInA X.K id) := by
  intro pins s σ H x y v u Q I rx ry h
  obtain ⟨d, t, ns, hd, rfl, ht, q⟩ := h
  cases ry
  obtain ⟨its, rv, ⟨o, ho, hc, n, hdat⟩, _⟩ := I.tuple ht
  refine SeqAt.in_tupleAt (e := isS d) (hl := ⟨o, ho, hc, n, hdat⟩) (he := fun y hy => ?_) (h := ?_)
  · obtain ⟨m, t, rfl⟩ := vals_strs ns its rv y (by simpa using hy)
    exact eq_str_data I hd rx (by have : X.A.units + 64 < cLine := hu; show X.A.in1.units < cLine; exact Nat.lt_of_le_of_lt (by show X.A.units + 1 ≤ X.A.units + 64; omega) this)
  · have e : its.toArray.any (isS d) = ns.any fun n => isSt n d := by
      rw [← Array.any_toList]
      exact any_isS ns its rv
    rw [e]
    exact ⟨.bl _, H, I, rfl, q⟩
theorem op_ninA (hu : X.A.units + 64 < cLine) : OpR X (compareOp .NotIn) (rInA X.K not) := by
  intro pins s σ H x y v u Q I rx ry h
  obtain ⟨d, t, ns, hd, rfl, ht, q⟩ := h
  cases ry
  obtain ⟨its, rv, ⟨o, ho, hc, n, hdat⟩, _⟩ := I.tuple ht
  refine SeqAt.notIn_tupleAt (e := isS d) (hl := ⟨o, ho, hc, n, hdat⟩) (he := fun y hy => ?_) (h := ?_)
  · obtain ⟨m, t, rfl⟩ := vals_strs ns its rv y (by simpa using hy)
    exact eq_str_data I hd rx (by have : X.A.units + 64 < cLine := hu; show X.A.in1.units < cLine; exact Nat.lt_of_le_of_lt (by show X.A.units + 1 ≤ X.A.units + 64; omega) this)
  · have e : its.toArray.any (isS d) = ns.any fun n => isSt n d := by
      rw [← Array.any_toList]
      exact any_isS ns its rv
    rw [e]
    exact ⟨.bl _, H, I, rfl, q⟩
/-- t == (), t any tuple -/
def rEq0 (K : PySem.W.Frag) : R2 := fun x y H Q => ∃ a b xs, x = .ref a ∧ y = .ref b ∧ SqT K H a xs ∧ SqT K H b [] ∧ Q (.bl xs.isEmpty) H
theorem op_eq0 (hu : X.A.units < cLine) : OpR X (compareOp .Eq) (rEq0 X.K) := by
  intro pins s σ H x y v u Q I rx ry h
  obtain ⟨a, b, xs, rfl, rfl, ha, hb, q⟩ := h
  cases rx
  cases ry
  obtain ⟨its, r1, p1, _⟩ := I.tuple ha
  obtain ⟨its2, r2, p2, _⟩ := I.tuple hb
  cases r2
  have e : ((List.range (min its.toArray.size ([] : List Value).toArray.size)).all (fun _ => true) && its.toArray.size == ([] : List Value).toArray.size) = xs.isEmpty := by
    have := r1.length
    cases xs with
    | nil =>
      cases its with
      | nil => rfl
      | cons _ _ => simp at this
    | cons _ _ =>
      cases its with
      | nil => simp at this
      | cons _ _ => simp
  refine SeqAt.RcAt.tuples (e := fun _ => true) p1 p2 hu (fun j h1 h2 => absurd h2 (by simp)) X.prog X.w X.xe (EP X pins σ Q) ?_
  rw [e]
  exact ⟨.bl _, H, I, rfl, q⟩
end
end KX

set_option maxRecDepth 100000
set_option maxHeartbeats 4000000
namespace R1
open PySem PySem.Spec PyProof.Rows L2 KX
/-! ### the text -/
def topS (i : Nat) : Stmt := PySem.Challenge.pw_spareskept_k09_is_condition.main.body.getD i (.Pass ⟨0, 0, 0, 0⟩)
abbrev sBetween : Stmt := topS 3
abbrev sTupB : Stmt := topS 5
/-- a def of the text as it stands behind the top -/
structure Df (K : PySem.W.Frag) (mg : Str → Option Value) (x : String) (st : Stmt) (ps : List Str) (f : Addr) (fd : FuncData) : Prop where
  F : Fun K x x st f fd
  b : Binds K fd ps []
  g : mg x = some (.ref f)
/-- the built-in names that the text uses -/
structure Bl (mg : Str → Option Value) : Prop where
  isi : mg "isinstance" = none
  bool : mg "bool" = none
  int : mg "int" = none
  str : mg "str" = none
  tuple : mg "tuple" = none
  list : mg "list" = none
  len : mg "len" = none
  all : mg "all" = none
  range : mg "range" = none
  max : mg "max" = none
  min : mg "min" = none
  abs : mg "abs" = none
  repr : mg "repr" = none
  sorted : mg "sorted" = none
  ixe : mg "IndexError" = none
  vae : mg "ValueError" = none

/-! ### kinds of data -/
def tyN : PyData → String
  | .none => "NoneType" | .bool _ => "bool" | .int _ => "int" | .str _ => "str" | .list _ => "list" | .tuple _ => "tuple" | .dict _ => "dict"
def isaN (T : String) : PyData → Bool := fun d => (kitB (tyN d) T).getD false
theorem Dx.ty {K : PySem.W.Frag} {H : Hp} {v : V} {d : PyData} (h : Dx H v d) : TyX K H v (.type (tyN d)) := by
  cases h with
  | non => exact .base .non
  | bl b => exact .base (.bl b)
  | int i => exact .base (.int i)
  | str x => exact .base (.str x)
  | lst e n h => exact .base (.lst e)
  | tup e h => exact .base (.tup e)
  | dic e => exact .base (.dK e)
  | dic1 e => exact .base (.dK e)
def okT (T : String) : Bool := (["NoneType", "bool", "int", "str", "list", "tuple", "dict"].all fun a => (kitB a T).isSome)
section
variable {X : Cx}
/-- isinstance(x, T), x data, T a built-in class -/
def rIsD (T : String) : List V → Hp → VK → Prop := fun xs H Q => match xs with
  | [x, c] => c = .ty T ∧ ∃ d, Dx H x d ∧ Q (.bl (isaN T d)) H
  | _ => False
theorem call_isD {T : String} (hT : okT T = true) : CallR X (.builtin "isinstance") (rIsD T) := by
  intro pins s σ H xs us Q I r h
  match xs, h with
  | [x, c], h =>
  obtain ⟨e, d, hd, q⟩ := h
  subst e
  have ha := List.all_eq_true.mp hT
  have hs : (kitB (tyN d) T).isSome = true := ha (tyN d) (by cases d <;> simp [tyN])
  obtain ⟨b, hb⟩ := Option.isSome_iff_exists.mp hs
  have q2 : Q (.bl b) H := by
    have : isaN T d = b := by unfold isaN; rw [hb]; rfl
    rw [← this]; exact q
  exact call_isi pins s σ H _ us Q I r ⟨x, .ty T, .type (tyN d), .type T, b, rfl, .ty T, Dx.ty hd, kit_ty hb, q2⟩
/-- isinstance(x, T) as an expression -/
theorem pe_isD {T x : String} {e : Expr} {te : TE} {p p2 pos : Pos} (hT : okT T = true) (mi : X.mg "isinstance" = none) (hm : X.mg x = none) (hv : bootBuiltins x = some (.type T)) (he : PE X e te) (hg0 : Gl X "isinstance") (hg : Gl X x)
    (hn : (x : Str) ≠ "__name__" := by decide) (hd : ((x : Str) == ("__debug__" : Str)) = false := by decide)
    (h1 : starEach [e, .Name x p2] X.env = (false, eval e X.env) :: starEach [.Name x p2] X.env := by rfl) (h2 : starEach [.Name x p2] X.env = (false, eval (.Name x p2) X.env) :: starEach [] X.env := by rfl)
    (hpl : (backTo pos (starEach [.Name x p2] X.env)).any (·.1) = false := by rfl) :
    PE X (.Call (.Name "isinstance" p) [e, .Name x p2] [] pos) (tCB (rIsD T) (tCons te (tCons (tC (.ty T)) tNil))) := by
  refine ⟨fun pins s σ H Q I h => ?_⟩
  refine (pe_callB (call_isD hT) hg0 mi (by decide +kernel) (pa_cons he (pa_cons (pe_bltn (v := .ty T) hg hm hv rfl hn hd) pa_nil h2) h1) (by decide) (by decide) h1 hpl).run pins s σ H Q I ?_
  exact h
end
/-! ### is_between -/
def betw (lo hi : Int) : PyData → Bool
  | .int i => decide (lo ≤ i) && decide (i ≤ hi)
  | _ => false
def spBetween : Sp := fun vs H Q _ => ∃ v d lo hi, vs = [v, .int lo, .int hi] ∧ Dx H v d ∧ Q (.bl (betw lo hi d)) H
theorem scBetween : FnScope ["value", "low", "high"] ["value", "low", "high"] (defScope sBetween) := ⟨rfl, rfl, rfl, by decide +kernel, rfl, by decide +kernel, by decide +kernel⟩
section
variable {P : Program} {w : World} {K : PySem.W.Frag} {mg : Str → Option Value} {base : Heap}
theorem ok_between {f : Addr} {fd : FuncData} (B : Bl mg) (D : Df K mg "is_between" sBetween ["value", "low", "high"] f fd) : FnOk P w K mg base CX0 1 f fd ["value", "low", "high"] spBetween := by
  refine D.F.ok scBetween (fun vs H Q E h => ?_) (fun cdv A outer s H vs Q E hr h => ?_)
  · obtain ⟨v, d, lo, hi, rfl, _⟩ := h
    rfl
  · obtain ⟨v, d, lo, hi, rfl, hd, q⟩ := h
    refine ⟨_, pss_cons (ps_if (PW.pt (pw_or (pt_val (pe_isD (T := "bool") (x := "bool") (by decide +kernel) B.isi B.bool (by decide +kernel) (pv 0) (by rfl) (by rfl)))
        (pw_or1 (pt_not (pt_val (pe_isD (T := "int") (x := "int") (by decide +kernel) B.isi B.int (by decide +kernel) (pv 0) (by rfl) (by rfl))))))) (pss_one (ps_ret pe_bl)) pss_nil)
      (pss_one (ps_ret (pe_chain op_le op_le (pv 1) (pv 0) (pv 2)))), ?_⟩
    refine ⟨v, rfl, rfl, d, hd, _, rfl, ?_⟩
    cases d with
    | bool b => exact q
    | int i =>
      refine iteF ⟨v, rfl, rfl, _, hd, _, rfl, ?_⟩
      refine iteF ⟨_, rfl, v, rfl, ?_⟩
      cases hd
      refine ⟨lo, i, rfl, rfl, _, rfl, ?_⟩
      have e : betw lo hi (.int i) = (decide (lo ≤ i) && decide (i ≤ hi)) := rfl
      rw [e] at q
      by_cases h : lo ≤ i
      · rw [decide_eq_true h] at q ⊢
        exact iteT ⟨_, rfl, _, _, rfl, rfl, q⟩
      · rw [decide_eq_false h] at q ⊢
        exact iteF q
    | _ => exact iteF ⟨v, rfl, rfl, _, hd, _, rfl, q⟩
end
end R1

namespace R1
open PySem PySem.Spec PyProof.Rows L2 KX
/-! ### is_tuple_between -/
def tupB (lo hi : Int) : PyData → Bool
  | .tuple ds => decide (lo ≤ (ds.length : Int)) && decide ((ds.length : Int) ≤ hi)
  | _ => false
def spTupB : Sp := fun vs H Q _ => ∃ v d lo hi, vs = [v, .int lo, .int hi] ∧ Dx H v d ∧ Q (.bl (tupB lo hi d)) H
theorem scTupB : FnScope ["value", "low", "high"] ["value", "low", "high"] (defScope sTupB) := ⟨rfl, rfl, rfl, by decide +kernel, rfl, by decide +kernel, by decide +kernel⟩
theorem isa_tuple {d : PyData} : isaN "tuple" d = match d with | .tuple _ => true | _ => false := by
  cases d <;> (simp only [isaN, tyN]; decide +kernel)
theorem isa_str {d : PyData} : isaN "str" d = match d with | .str _ => true | _ => false := by
  cases d <;> (simp only [isaN, tyN]; decide +kernel)
theorem isa_int {d : PyData} : isaN "int" d = match d with | .int _ => true | .bool _ => true | _ => false := by
  cases d <;> (simp only [isaN, tyN]; decide +kernel)
theorem isa_bool {d : PyData} : isaN "bool" d = match d with | .bool _ => true | _ => false := by
  cases d <;> (simp only [isaN, tyN]; decide +kernel)
section
variable {P : Program} {w : World} {K : PySem.W.Frag} {mg : Str → Option Value} {base : Heap}
theorem ok_tupB {f : Addr} {fd : FuncData} (B : Bl mg) (D : Df K mg "is_tuple_between" sTupB ["value", "low", "high"] f fd) : FnOk P w K mg base CX0 1 f fd ["value", "low", "high"] spTupB := by
  refine D.F.ok scTupB (fun vs H Q E h => ?_) (fun cdv A outer s H vs Q E hr h => ?_)
  · obtain ⟨v, d, lo, hi, rfl, _⟩ := h
    rfl
  · obtain ⟨v, d, lo, hi, rfl, hd, q⟩ := h
    refine ⟨_, pss_one (ps_ret (pe_and (pe_isD (T := "tuple") (x := "tuple") (by decide +kernel) B.isi B.tuple (by decide +kernel) (pv 0) (by rfl) (by rfl))
      (pe_one (pe_chain op_le op_le (pv 1) (pe_callB call_len_seq (by rfl) B.len PySem.boot_len (pa_cons (pv 0) pa_nil)) (pv 2))))), ?_⟩
    refine ⟨v, rfl, rfl, d, hd, _, rfl, ?_⟩
    rw [isa_tuple]
    cases d with
    | tuple ds =>
      cases hd with
      | @tup a xs _ e h =>
        refine iteT ⟨_, rfl, _, rfl, a, xs, rfl, .inr (.inl (.inl e)), _, _, rfl, rfl, _, rfl, ?_⟩
        rw [h.len]
        have e : tupB lo hi (.tuple ds) = (decide (lo ≤ (ds.length : Int)) && decide ((ds.length : Int) ≤ hi)) := rfl
        rw [e] at q
        by_cases h : lo ≤ (ds.length : Int)
        · rw [decide_eq_true h] at q ⊢
          exact iteT ⟨_, rfl, _, _, rfl, rfl, q⟩
        · rw [decide_eq_false h] at q ⊢
          exact iteF q
    | _ => exact iteF q
end
theorem same_new {H : Hp} {p : Addr} {o : HO} (h : H p = none) : Same H (upd H p o) := fun b x e => by
  rw [upd_ne (ne_of_none e h)]
  exact e
theorem same_at {H H' : Hp} {p : Addr} {o : HO} (h : Same H H') (n : H p = none) : Same H (upd H' p o) := fun b x e => by
  rw [upd_ne (ne_of_none e n)]
  exact h _ _ e
end R1

set_option maxRecDepth 100000
set_option maxHeartbeats 4000000
namespace R1
open PySem PySem.Spec PyProof.Rows L2 KX
/-- the constants of the text -/
structure Cj (K : PySem.W.Frag) (mg : Str → Option Value) : Prop where
  wid : ∃ t, mg "MAX_WIDTH" = some (.int 4 t)
  val : ∃ t, mg "MAX_VALUE" = some (.int 1000000000 t)
  nest : ∃ t, mg "MAX_CONDITION_NESTING" = some (.int 3 t)
  parts : ∃ t, mg "MAX_PARTS" = some (.int 4 t)
  cmps : ∃ t, mg "COMPARISONS" = some (.ref t) ∧ ∃ (o : Obj) (its : Array Value) (n : Nat), K.lookup t = some o ∧ o.cls = .type "tuple" ∧ o.data = .seq its n ∧ its.size ≤ sizeLine ∧ Vals [.str "ge", .str "le", .str "eq"] its.toList
  cons : ∃ t, mg "CONNECTIVES" = some (.ref t) ∧ ∃ (o : Obj) (its : Array Value) (n : Nat), K.lookup t = some o ∧ o.cls = .type "tuple" ∧ o.data = .seq its n ∧ its.size ≤ sizeLine ∧ Vals [.str "and", .str "or"] its.toList
theorem plain_at {ds : List PyData} {d : PyData} {i : Nat} (h : PyData.plainAll ds = true) (e : ds[i]? = some d) : d.plain = true := by
  induction ds generalizing i with
  | nil => simp at e
  | cons c cs ih =>
    have h' : c.plain = true ∧ PyData.plainAll cs = true := by simpa [PyData.plainAll] using h
    cases i with
    | zero =>
      simp at e
      subst e
      exact h'.1
    | succ i => exact ih h'.2 (by simpa using e)
theorem plain_tup {ds : List PyData} (h : (PyData.tuple ds).plain = true) : PyData.plainAll ds = true := by simpa [PyData.plain] using h
theorem at_of {H : Hp} {xs : List V} {ds : List PyData} (h : Dxs H xs ds) {i : Nat} (hi : i < ds.length) : ∃ v, xs[i]? = some v ∧ Dx H v (ds.getD i .none) := by
  have hx : i < xs.length := by rw [h.len]; exact hi
  obtain ⟨d, ed, hd⟩ := h.get' (List.getElem?_eq_getElem hx)
  refine ⟨_, List.getElem?_eq_getElem hx, ?_⟩
  rw [List.getD_eq_getElem?_getD, ed]
  exact hd
theorem nodup_snoc {l : List Int} {k : Int} : (l ++ [k]).Nodup ↔ l.Nodup ∧ k ∉ l := by
  rw [List.nodup_append]
  constructor
  · intro h
    exact ⟨h.1, fun hk => h.2.2 k hk k (by simp) rfl⟩
  · intro h
    refine ⟨h.1, by simp, fun a ha b hb e => ?_⟩
    simp at hb
    subst hb
    exact h.2 (e ▸ ha)
def clsB : Stmt → List Stmt
  | .ClassDef (body := b) .. => b
  | _ => []
abbrev sInit : Stmt := (clsB (topS 1)).getD 0 (.Pass ⟨0, 0, 0, 0⟩)
abbrev sCk : Stmt := topS 4
abbrev sCw : Stmt := topS 9
def ixTl : List Value := [.type "IndexError", .type "LookupError", .type "Exception", .type "BaseException", .type "object"]
theorem ixB : XB "IndexError" "IndexError.__new__" "IndexError.__init__" ixTl := ⟨PySem.F.excBase_IndexError, PySem.F.store_IndexError⟩
/-- the class InvalidNumber, at C; its __init__ at fI -/
structure IN (K : PySem.W.Frag) (mg : Str → Option Value) (C fI : Addr) (gI : FuncData) : Prop where
  g : mg "InvalidNumber" = some (.ref C)
  x : XC K "IndexError" "IndexError.__new__" "IndexError.__init__" ixTl C
  i : XI K C
  no : PySem.W.findIn K (.ref C) "value" = some none
  iC : PySem.W.findIn K (.ref C) "__init__" = some (some (.ref fI))
  tI : PySem.W.typeIn K (.ref fI) = some (.type "function")
  vV : PySem.W.findCls K (.type "IndexError") (.type "type") "__init__" = some (.val (.builtin "IndexError.__init__"))
  F : Fun K "__init__" "InvalidNumber.__init__" sInit fI gI
  b : Binds K gI ["self", "value"] []
def spInit (C : Addr) : Sp := fun vs H Q _ => ∃ a v, vs = [.ref a, v] ∧ H a = some (exo a C none) ∧ ∀ dx, H dx = none → dx ≠ a → Q .non (upd (upd H dx (exd dx [("value", v)])) a (exo a C (some dx)))
theorem scInit : FnScope ["self", "value"] ["self", "value"] (defScope sInit) := ⟨rfl, rfl, rfl, by decide +kernel, rfl, by decide +kernel, by decide +kernel⟩
section
variable {P : Program} {w : World} {K : PySem.W.Frag} {mg : Str → Option Value} {base : Heap} {C fI : Addr} {gI : FuncData}
theorem ok_init (B : Bl mg) (T : IN K mg C fI gI) : FnOk P w K mg base CX0 1 fI gI ["self", "value"] (spInit C) := by
  refine T.F.ok scInit (fun vs H Q E h => ?_) (fun cdv A outer s H vs Q E hr h => ?_)
  · obtain ⟨a, v, rfl, _⟩ := h
    rfl
  · obtain ⟨a, v, rfl, ea, q⟩ := h
    refine ⟨_, pss_cons (ps_expr (pe_bini (newI := "IndexError.__new__") (tl := ixTl) (by rfl) B.ixe T.vV (pa_cons (pv 0) (pa_cons (pv 1) pa_nil))))
      (pss_one (ps_fst (B := "IndexError") (newI := "IndexError.__new__") (iniI := "IndexError.__init__") (tl := ixTl) (pv 0) (pv 1))), ?_⟩
    refine ⟨.ref a, rfl, v, rfl, a, C, [v], rfl, by simp, T.x, ea, ?_⟩
    exact ⟨v, rfl, .ref a, rfl, a, C, rfl, T.x, T.no, ea, fun dx n ne => q dx n ne⟩
/-! ### check_between -/
def spCk (C : Addr) : Sp := fun vs H Q E => ∃ v d lo hi, vs = [v, .int lo, .int hi] ∧ Dx H v d ∧
  (if betw lo hi d = true then Q .non H else ∀ H' dd, Same H H' → H' dd = some (.xd [("value", v)]) → E (.ref C) (some dd) H')
theorem scCk : FnScope ["value", "low", "high"] ["value", "low", "high"] (defScope sCk) := ⟨rfl, rfl, rfl, by decide +kernel, rfl, by decide +kernel, by decide +kernel⟩
theorem ok_ck {f fB : Addr} {fd fdB : FuncData} (B : Bl mg) (T : IN K mg C fI gI) (D : Df K mg "check_between" sCk ["value", "low", "high"] f fd) (DB : Df K mg "is_between" sBetween ["value", "low", "high"] fB fdB) :
    FnOk P w K mg base (L2.CX P w) 3 f fd ["value", "low", "high"] (spCk C) := by
  have GB : FnOk P w K mg base CX0 1 fB fdB _ spBetween := ok_between B DB
  have GI : FnOk P w K mg base CX0 1 fI gI _ (spInit C) := ok_init B T
  refine D.F.okX scCk (fun vs H Q E h => ?_) (fun cdv A outer s H vs Q E hr h => ?_)
  · obtain ⟨v, d, lo, hi, rfl, _⟩ := h
    rfl
  · obtain ⟨v, d, lo, hi, rfl, hd, q⟩ := h
    refine ⟨_, pss_one (ps_if (pt_not (pt_val (pe_call GB (hr.mono (by decide)) (by rfl) DB.g DB.F.kp DB.b .nil pass0 (pa_cons (pv 0) (pa_cons (pv 1) (pa_cons (pv 2) pa_nil))))))
      (pss_one (ps_raise rfl (takes_of rfl rfl rfl rfl) (pmk_x T.x T.iC T.tI GI hr T.b pass0 (by rfl) T.g (pa_cons (pv 0) pa_nil)))) pss_nil), ?_⟩
    refine ⟨v, rfl, .int lo, rfl, .int hi, rfl, v, d, lo, hi, rfl, hd, _, rfl, ?_⟩
    cases eb : betw lo hi d with
    | true =>
      rw [eb] at q
      exact iteF q
    | false =>
      rw [eb] at q
      refine iteT ⟨v, rfl, by simp, fun a na => ⟨a, v, rfl, upd_same, fun dx ndx ne => ⟨rfl, dx, [("value", v)], upd_same, ?_, ?_, ?_⟩⟩⟩
      · rw [upd_ne ne, upd_same]
      · rw [upd_ne ne] at ndx
        exact ndx
      · rw [upd_ne ne] at ndx
        refine q _ dx (fun b o e => ?_) upd_same
        rw [upd_ne (ne_of_none e ndx), del_ne (ne_of_none e na), upd_ne (ne_of_none e na), upd_ne (ne_of_none e ndx), upd_ne (ne_of_none e na)]
        exact e
/-! ### check_width -/
def spCw (C : Addr) : Sp := fun vs H Q E => ∃ v d, vs = [v] ∧ Dx H v d ∧
  (if betw 1 4 d = true then Q .non H else ∀ H' dd, Same H H' → H' dd = some (.xd [("value", v)]) → E (.ref C) (some dd) H')
theorem scCw : FnScope ["width"] ["width"] (defScope sCw) := ⟨rfl, rfl, rfl, by decide +kernel, rfl, by decide +kernel, by decide +kernel⟩
theorem ok_cw {f fC fB : Addr} {fd fdC fdB : FuncData} (B : Bl mg) (Cc : Cj K mg) (T : IN K mg C fI gI) (D : Df K mg "check_width" sCw ["width"] f fd) (DC : Df K mg "check_between" sCk ["value", "low", "high"] fC fdC)
    (DB : Df K mg "is_between" sBetween ["value", "low", "high"] fB fdB) : FnOk P w K mg base (L2.CX P w) 4 f fd ["width"] (spCw C) := by
  obtain ⟨tw, mw⟩ := Cc.wid
  have GC : FnOk P w K mg base (L2.CX P w) 3 fC fdC _ (spCk C) := ok_ck B T DC DB
  refine D.F.okX scCw (fun vs H Q E h => ?_) (fun cdv A outer s H vs Q E hr h => ?_)
  · obtain ⟨v, d, rfl, _⟩ := h
    rfl
  · obtain ⟨v, d, rfl, hd, q⟩ := h
    refine ⟨_, pss_one (ps_expr (pe_callS GC hr (by rfl) DC.g DC.F.kp DC.b (fun σ => passAt (takes_of rfl rfl rfl rfl) σ) (pa_cons (pv 0) (pa_cons pe_int (pa_cons (pe_glob (v := .int 4) (by rfl) mw ⟨_, rfl⟩) pa_nil))))), ?_⟩
    exact ⟨v, rfl, v, d, 1, 4, rfl, hd, q⟩
end
end R1

set_option maxRecDepth 100000
set_option maxHeartbeats 4000000
namespace R1
open PySem PySem.Spec PyProof.Rows L2 KX
abbrev sDraw : Stmt := topS 20
abbrev sStream : Stmt := topS 19
def spDraw : Sp := fun vs H Q _ => ∃ (l : Addr) (t : Int), vs = [.ref l, .int t] ∧ StO H l ∧ 0 < t ∧ t < 2 ^ 64 ∧ ∀ H' n, Keep l H H' → StO H' l → 0 ≤ n → n < t → Q (.int n) H'
theorem scDraw : FnScope ["stream", "total", "found", "one", "stir", "two"] ["stream", "total"] (defScope sDraw) := ⟨rfl, rfl, rfl, by decide +kernel, rfl, by decide +kernel, by decide +kernel⟩
theorem i63 {a b c : Int} : atI [V.int a, V.int b, V.int c] 0 = some (V.int a) ∧ atI [V.int a, V.int b, V.int c] 1 = some (V.int b) ∧ atI [V.int a, V.int b, V.int c] 2 = some (V.int c) := ⟨rfl, rfl, rfl⟩
theorem mod_bd {x m : Int} (h : 0 < m) (h2 : m < 2 ^ 64) : -(2 ^ 64) < x % m ∧ x % m < 2 ^ 64 := by
  have a := Int.emod_nonneg x (show m ≠ 0 by omega)
  have b := Int.emod_lt_of_pos x h
  omega
section
variable {P : Program} {w : World} {K : PySem.W.Frag} {mg : Str → Option Value} {base : Heap}
theorem ok_draw {f : Addr} {fd : FuncData} (B : Bl mg) (D : Df K mg "_law_draw" sDraw ["stream", "total"] f fd) : FnOk P w K mg base CX0 1 f fd ["stream", "total"] spDraw := by
  refine D.F.ok scDraw (fun vs H Q E h => ?_) (fun cdv A outer s H vs Q E hr h => ?_)
  · obtain ⟨l, t, rfl, _⟩ := h
    rfl
  · obtain ⟨l, t, rfl, ⟨a, b, c, el⟩, t0, t1, q⟩ := h
    have nd := scDraw.nd
    refine ⟨_, pss_cons (ps_if (pt_cmpR op_gt (pe_ix ix_list (pv 0) pe_int (fun _ _ => rfl)) pe_int (nomark _))
        (pss_cons (ps_set (i := 2) nd rfl (.inl rfl) (pe_op op_mod (pe_ix ix_list (pv 0) pe_int (fun _ _ => rfl)) (pv 1)))
        (pss_cons (ps_asg (pe_op op_fdivW (pe_ix ix_list (pv 0) pe_int (fun _ _ => rfl)) (pv 1)) (pg_sub (pv 0) pe_int set_list))
        (pss_one (ps_ret (pv 2))))) pss_nil)
      (pss_cons (ps_asg (pe_op op_add (pe_ix ix_list (pv 0) pe_int (fun _ _ => rfl)) pe_int) (pg_sub (pv 0) pe_int set_list))
      (pss_cons (ps_set (i := 3) nd rfl (.inl rfl) (pe_op op_mod (pe_op op_add (pe_ix ix_list (pv 0) pe_int (fun _ _ => rfl)) (pe_op op_mul pe_int (pe_ix ix_list (pv 0) pe_int (fun _ _ => rfl)))) pe_int))
      (pss_cons (ps_set (i := 4) nd rfl (.inl rfl) (pe_op op_add (pe_op op_mul (pe_op op_mod (pe_op op_mul (pv 3) (pv 3)) pe_int) (pv 3)) (pe_op op_mul pe_int (pe_ix ix_list (pv 0) pe_int (fun _ _ => rfl)))))
      (pss_cons (ps_set (i := 5) nd rfl (.inl rfl) (pe_op op_mod (pe_op op_add (pv 4) (pe_op op_mod (pe_ix ix_list (pv 0) pe_int (fun _ _ => rfl)) pe_int)) pe_int))
      (pss_one (ps_ret (pe_op op_mod (pe_op op_add (pe_op op_fdiv (pe_op op_mod (pe_op op_mul (pv 5) (pv 5)) pe_int) pe_int)
        (pe_op op_mul (pe_op op_mul (pv 3) pe_int) (pe_callTy call_int1 (by rfl) B.int (by decide +kernel) (pa_cons (pe_cmpR op_gt (pv 1) (pe_op op_pow pe_int pe_int) (nomark _)) pa_nil)))) (pv 1)))))))), ?_⟩
    refine ⟨.ref l, rfl, l, _, 0, .int a, rfl, rfl, .inl (.inl el), rfl, a, 0, rfl, rfl, _, rfl, ite2 (fun h => ?_) fun h => ?_⟩
    · refine ⟨.ref l, rfl, l, _, 0, .int a, rfl, rfl, .inl (.inl el), rfl, .int t, rfl, a, t, rfl, rfl, t0, ?_⟩
      refine ⟨.ref l, rfl, l, _, 0, .int a, rfl, rfl, .inl (.inl el), rfl, .int t, rfl, a, t, rfl, rfl, wide_div (b := 64) t0 (by omega) (by decide) (by decide), ?_⟩
      refine ⟨.ref l, rfl, l, _, 0, 0, rfl, rfl, el, rfl, .int (a % t), rfl, ?_⟩
      exact q _ _ Keep.at ⟨_, _, _, upd_same⟩ (Int.emod_nonneg a (by omega)) (Int.emod_lt_of_pos a t0)
    · refine ⟨.ref l, rfl, l, _, 2, .int c, rfl, rfl, .inl (.inl el), rfl, c, 1, rfl, rfl, .ref l, rfl, l, _, 2, 2, rfl, rfl, el, rfl, ?_⟩
      have e2 : (upd H l (.lst [.int a, .int b, .int (c + 1)])) l = some (.lst [.int a, .int b, .int (c + 1)]) := upd_same
      refine ⟨.ref l, rfl, l, _, 1, .int b, rfl, rfl, .inl (.inl e2), rfl, .ref l, rfl, l, _, 2, .int (c + 1), rfl, rfl, .inl (.inl e2), rfl, 1500450271, c + 1, rfl, rfl, .inl ⟨by decide, by decide⟩,
        b, _, rfl, rfl, _, 4294967279, rfl, rfl, (show (0 : Int) < 4294967279 by decide), ?_⟩
      have o1 := mod_bd (x := b + 1500450271 * (c + 1)) (m := 4294967279) (by decide) (by decide)
      refine ⟨_, rfl, _, rfl, _, _, rfl, rfl, .inl o1, _, 4294967231, rfl, rfl, (show (0 : Int) < 4294967231 by decide), _, rfl, _, _, rfl, rfl, .inr o1,
        .ref l, rfl, l, _, 2, .int (c + 1), rfl, rfl, .inl (.inl e2), rfl, 10007, c + 1, rfl, rfl, .inl ⟨by decide, by decide⟩, _, _, rfl, rfl, ?_⟩
      refine ⟨_, rfl, .ref l, rfl, l, _, 1, .int b, rfl, rfl, .inl (.inl e2), rfl, b, 65537, rfl, rfl, (show (0 : Int) < 65537 by decide), _, _, rfl, rfl, _, 4294967197, rfl, rfl, (show (0 : Int) < 4294967197 by decide), ?_⟩
      have o2 : ∀ x : Int, -(2 ^ 64) < x % 4294967197 ∧ x % 4294967197 < 2 ^ 64 := fun x => mod_bd (x := x) (m := 4294967197) (by decide) (by decide)
      refine ⟨_, rfl, _, rfl, _, _, rfl, rfl, .inl (o2 _), _, 4294967189, rfl, rfl, (show (0 : Int) < 4294967189 by decide), _, 64, rfl, rfl, (show (0 : Int) < 64 ∧ (64 : Int) < 1073741824 by decide), ?_⟩
      refine ⟨_, rfl, _, 67108864, rfl, rfl, .inl o1, .int t, rfl, 10, 6, rfl, rfl, ⟨by decide, by decide, by decide⟩, t, _, rfl, rfl, .inr ⟨_, rfl, ?_⟩⟩
      refine ⟨_, _, rfl, rfl, .inr ?_, _, _, rfl, rfl, .int t, rfl, _, t, rfl, rfl, t0, ?_⟩
      · split <;> decide
      · exact q _ _ Keep.at ⟨_, _, _, upd_same⟩ (Int.emod_nonneg _ (by omega)) (Int.emod_lt_of_pos _ t0)
end
/-! ### _law_stream -/
def spStream (K : PySem.W.Frag) : Sp := fun vs H Q _ => ∃ (a : Addr) (ns : List Int) (k : Int), vs = [.ref a, .int k] ∧ SqL K H a (ns.map V.int) ∧ 0 ≤ k ∧ k ≤ 1000 ∧ ∀ H' p, Same H H' → H p = none → StO H' p → Q (.ref p) H'
theorem scStream : FnScope ["script", "at", "cell", "great"] ["script", "at"] (defScope sStream) := ⟨rfl, rfl, rfl, by decide +kernel, rfl, by decide +kernel, by decide +kernel⟩
section
variable {P : Program} {w : World} {K : PySem.W.Frag} {mg : Str → Option Value} {base : Heap}
theorem ok_stream {f : Addr} {fd : FuncData} (B : Bl mg) (D : Df K mg "_law_stream" sStream ["script", "at"] f fd) : FnOk P w K mg base CX0 1 f fd ["script", "at"] (spStream K) := by
  refine D.F.ok scStream (fun vs H Q E h => ?_) (fun cdv A outer s H vs Q E hr h => ?_)
  · obtain ⟨a, ns, k, rfl, _⟩ := h
    rfl
  · obtain ⟨a, ns, k, rfl, hS, k0, k1, q⟩ := h
    have nd := scStream.nd
    refine ⟨_, pss_cons (ps_set (i := 2) nd rfl (.inl rfl) (pe_op op_add (pe_op op_mul pe_int (pv 1)) pe_int))
      (pss_cons (ps_if (pt_cmpR op_lt (pv 1) (pe_callB call_len_seq (by rfl) B.len PySem.boot_len (pa_cons (pv 0) pa_nil)) (nomark _))
        (pss_one (ps_set (i := 2) nd rfl (.inl rfl) (pe_ix ix_list (pv 0) (pv 1) (fun _ _ => rfl)))) pss_nil)
      (pss_cons (ps_set (i := 3) nd rfl (.inl rfl) (pe_op op_mod (pe_callB call_abs (by rfl) B.abs (by decide +kernel) (pa_cons (pv 2) pa_nil)) (pe_op op_powW (pe_op op_pow pe_int pe_int) pe_int)))
      (pss_one (ps_ret (pe_lst (pa_cons (pe_callB (call_max2 rfl) (by rfl) B.max (by decide +kernel) (pa_cons pe_int (pa_cons (pe_op op_sub (pv 3) (pe_op op_pow pe_int pe_int)) pa_nil)))
        (pa_cons (pe_op op_mod (pe_op op_add (pe_op op_add (pe_op op_add (pe_op op_mul (pv 3) pe_int) (pe_op op_mul pe_int (pv 1))) (pe_op op_mul pe_int (pe_callTy call_int1 (by rfl) B.int (by decide +kernel) (pa_cons (pe_cmpR op_lt (pv 2) pe_int (nomark _)) pa_nil)))) pe_int) pe_int)
        (pa_cons pe_int pa_nil)))))))), ?_⟩
    refine ⟨.int k, rfl, 5, k, rfl, rfl, .inl ⟨by decide, by decide⟩, _, 3, rfl, rfl, ?_⟩
    have c1 : (0 : Int) ≤ 60 ∧ (60 : Int) ≤ 1000000 ∧ (10 : Int).natAbs < 2 ^ 64 := by decide
    have c2 : (0 : Int) ≤ 12 ∧ ((Builtin.Int.intBits ((10 : Int) ^ (60 : Int).toNat) : Nat) : Int) * 12 ≤ 2 ^ 27 := by decide +kernel
    have c3 : (0 : Int) < ((10 : Int) ^ (60 : Int).toNat) ^ (12 : Int).toNat := by decide +kernel
    have c4 : (0 : Int) ≤ 17 ∧ (17 : Int) ≤ 1000000 ∧ (10 : Int).natAbs < 2 ^ 64 := by decide
    have c5 : (0 : Int) < 4294967291 := by decide
    refine ⟨.int k, rfl, .ref a, rfl, a, _, rfl, .inl hS, k, _, rfl, rfl, _, rfl, ite2 (fun h => ?_) (fun h => ?_)⟩
    · have hk : k < (ns.map V.int).length := of_decide_eq_true h
      rw [List.length_map] at hk
      have hk2 : k.toNat < ns.length := by omega
      refine ⟨.ref a, rfl, .int k, rfl, a, _, k, .int ns[k.toNat], rfl, rfl, hS, ?_, ?_⟩
      · have e : ((k.toNat : Nat) : Int) = k := by omega
        have z : atI (ns.map V.int) ((k.toNat : Nat) : Int) = some (.int ns[k.toNat]) := atI_nat (by
          rw [List.getElem?_map, List.getElem?_eq_getElem hk2]
          rfl)
        rw [e] at z
        exact z
      · refine ⟨_, rfl, _, rfl, 10, 60, rfl, rfl, c1, _, 12, rfl, rfl, c2, _, _, rfl, rfl, c3, ?_⟩
        refine ⟨_, rfl, 10, 17, rfl, rfl, c4, _, _, rfl, rfl, _, _, rfl, ?_⟩
        refine ⟨_, rfl, _, 9576890767, rfl, rfl, .inr ⟨by decide, by decide⟩, .int k, rfl, 611953, k, rfl, rfl, .inl ⟨by decide, by decide⟩, _, _, rfl, rfl, ?_⟩
        refine ⟨_, rfl, _, 0, rfl, rfl, .inr ⟨_, rfl, 2, _, rfl, rfl, .inl ⟨by decide, by decide⟩, _, _, rfl, rfl, _, 7, rfl, rfl, _, _, rfl, rfl, c5, ?_⟩⟩
        refine ⟨by show 3 ≤ sizeLine; decide, fun p np => ?_⟩
        exact q _ p (same_new np) np ⟨_, _, _, upd_same⟩
    · refine ⟨_, rfl, _, rfl, 10, 60, rfl, rfl, c1, _, 12, rfl, rfl, c2, _, _, rfl, rfl, c3, ?_⟩
      refine ⟨_, rfl, 10, 17, rfl, rfl, c4, _, _, rfl, rfl, _, _, rfl, ?_⟩
      refine ⟨_, rfl, _, 9576890767, rfl, rfl, .inr ⟨by decide, by decide⟩, .int k, rfl, 611953, k, rfl, rfl, .inl ⟨by decide, by decide⟩, _, _, rfl, rfl, ?_⟩
      refine ⟨_, rfl, _, 0, rfl, rfl, .inr ⟨_, rfl, 2, _, rfl, rfl, .inl ⟨by decide, by decide⟩, _, _, rfl, rfl, _, 7, rfl, rfl, _, _, rfl, rfl, c5, ?_⟩⟩
      refine ⟨by show 3 ≤ sizeLine; decide, fun p np => ?_⟩
      exact q _ p (same_new np) np ⟨_, _, _, upd_same⟩
end
end R1

set_option maxRecDepth 100000
set_option maxHeartbeats 2000000
namespace R1
open PySem PySem.Spec PyProof.Rows L2 KX
/-! ### conditions, for any data -/
def isCmp (d : PyData) : Bool := [("ge" : Str), "le", "eq"].any fun n => isSt n d
def isCon (d : PyData) : Bool := [("and" : Str), "or"].any fun n => isSt n d
def cmp3 (w : Int) (x b c : PyData) : Bool := isCmp x && betw 0 (w - 1) b && betw (-1000000000) 1000000000 c
def itemsD : PyData → List PyData
  | .tuple es => es
  | _ => []
def conD (w : Int) : Nat → PyData → Bool
  | 0, _ => false
  | n + 1, .tuple [x, b, c] => cmp3 w x b c
  | n + 1, .tuple [x, e] => if isSt "not" x = true then conD w n e else isCon x && (tupB 2 4 e && (itemsD e).all (conD w n))
  | _ + 1, _ => false
theorem con_three (w : Int) (n : Nat) (x b c : PyData) : conD w (n + 1) (.tuple [x, b, c]) = cmp3 w x b c := by simp [conD]
theorem con_two (w : Int) (n : Nat) (x e : PyData) : conD w (n + 1) (.tuple [x, e]) = if isSt "not" x = true then conD w n e else isCon x && (tupB 2 4 e && (itemsD e).all (conD w n)) := by simp [conD]
theorem con_not {w : Int} {n : Nat} {d : PyData} (h : tupB 2 3 d = false) : conD w (n + 1) d = false := by
  cases d with
  | tuple ds =>
    have e : tupB 2 3 (.tuple ds) = (decide (2 ≤ (ds.length : Int)) && decide ((ds.length : Int) ≤ 3)) := rfl
    match ds, e, h with
    | [], _, _ => simp [conD]
    | [_], _, _ => simp [conD]
    | [_, _], _, h => cases h
    | [_, _, _], _, h => cases h
    | _ :: _ :: _ :: _ :: _, _, _ => simp [conD]
  | _ => simp [conD]
theorem tupB23 {ds : List PyData} : tupB 2 3 (.tuple ds) = (decide (2 ≤ (ds.length : Int)) && decide ((ds.length : Int) ≤ 3)) := rfl
theorem tupB24 {ds : List PyData} : tupB 2 4 (.tuple ds) = (decide (2 ≤ (ds.length : Int)) && decide ((ds.length : Int) ≤ 4)) := rfl
theorem tup23 {d : PyData} (h : tupB 2 3 d = true) : (∃ x e, d = .tuple [x, e]) ∨ ∃ x b c, d = .tuple [x, b, c] := by
  cases d with
  | tuple ds =>
    rw [tupB23, Bool.and_eq_true] at h
    have h1 := of_decide_eq_true h.1
    have h2 := of_decide_eq_true h.2
    match ds, h1, h2 with
    | [x, e], _, _ => exact .inl ⟨x, e, rfl⟩
    | [x, b, c], _, _ => exact .inr ⟨x, b, c, rfl⟩
    | [], h1, _ => simp at h1
    | [_], h1, _ => simp at h1
    | _ :: _ :: _ :: _ :: _, _, h2 =>
      simp at h2
      omega
  | _ => cases h
theorem dec_str (x y : Str) : decide (V.str x = V.str y) = decide (x = y) := by
  by_cases h : x = y
  · rw [decide_eq_true h, decide_eq_true (by rw [h])]
  · rw [decide_eq_false h, decide_eq_false (fun z => h (V.str.inj z))]
theorem dec_int (x y : Int) : decide (V.int x = V.int y) = decide (x = y) := by
  by_cases h : x = y
  · rw [decide_eq_true h, decide_eq_true (by rw [h])]
  · rw [decide_eq_false h, decide_eq_false (fun z => h (V.int.inj z))]
theorem dec_bl (a b : Bool) : decide (V.bl a = V.bl b) = (a == b) := by cases a <;> cases b <;> rfl
/-! ### is_comparison -/
abbrev sIC : Stmt := topS 15
abbrev sWi : Stmt := topS 16
abbrev sCp : Stmt := topS 17
def spCp : Sp := fun vs H Q _ => ∃ v w x b c, vs = [.int w, v] ∧ Dx H v (.tuple [x, b, c]) ∧ Q (.bl (cmp3 w x b c)) H
theorem scCp : FnScope ["width", "triple", "word", "column", "number"] ["width", "triple"] (defScope sCp) := ⟨rfl, rfl, rfl, by decide +kernel, rfl, by decide +kernel, by decide +kernel⟩
def spWi (n : Nat) : Sp := fun vs H Q _ => ∃ v d w, vs = [.int w, v, .int (n : Int)] ∧ Dx H v d ∧ ∀ H', Same H H' → Q (.bl (conD w n d)) H'
theorem scWi : FnScope ["width", "value", "nesting", "part"] ["width", "value", "nesting"] (defScope sWi) := ⟨rfl, rfl, rfl, by decide +kernel, rfl, by decide +kernel, by decide +kernel⟩
section
variable {P : Program} {w : World} {K : PySem.W.Frag} {mg : Str → Option Value} {base : Heap}
theorem ok_cp {f fB : Addr} {fd fdB : FuncData} (B : Bl mg) (Z : Cj K mg) (D : Df K mg "is_comparison" sCp ["width", "triple"] f fd) (DB : Df K mg "is_between" sBetween ["value", "low", "high"] fB fdB) :
    FnOk P w K mg base CX0 2 f fd ["width", "triple"] spCp := by
  obtain ⟨t, mt, ot, its, n0, lt, c1, c2, c3, c4⟩ := Z.cmps
  obtain ⟨tv, mv⟩ := Z.val
  have GB : FnOk P w K mg base CX0 1 fB fdB _ spBetween := ok_between B DB
  refine D.F.ok scCp (fun vs H Q E h => ?_) (fun cdv A outer s H vs Q E hr h => ?_)
  · obtain ⟨v, w', x, b, c, rfl, _⟩ := h
    rfl
  · obtain ⟨v, w', x, b, c, rfl, hd, q⟩ := h
    have nd := scCp.nd
    refine ⟨_, pss_cons (ps_asg (pv 1) (pg_tup (by rfl) (pgs_cons (pg_name (i := 2) nd rfl (.inl rfl)) (pgs_cons (pg_name (i := 3) nd rfl (.inl rfl)) (pgs_cons (pg_name (i := 4) nd rfl (.inl rfl)) pgs_nil)))))
      (pss_cons (ps_if (PW.pt (pw_or (pt_cmpR (op_ninA hr.units) (pv 2) (pe_glob (v := .ref t) (by rfl) mt rfl) (by rfl)) (pw_or1 (pt_not (pt_val (pe_call GB hr (by rfl) DB.g DB.F.kp DB.b .nil pass0 (pa_cons (pv 3) (pa_cons pe_int (pa_cons (pe_op op_sub (pv 0) pe_int) pa_nil)))))))))
        (pss_one (ps_ret pe_bl)) pss_nil)
      (pss_one (ps_ret (pe_call GB hr (by rfl) DB.g DB.F.kp DB.b .nil pass0 (pa_cons (pv 4) (pa_cons (pe_un un_neg (pe_glob (v := .int 1000000000) (by rfl) mv ⟨_, rfl⟩)) (pa_cons (pe_glob (v := .int 1000000000) (by rfl) mv ⟨_, rfl⟩) pa_nil))))))), ?_⟩
    cases hd with
    | @tup a xs _ ea h =>
      match xs, h, ea with
      | [vx, vb, vc], .cons hx (.cons hb (.cons hc .nil)), ea =>
      have er : cmp3 w' x b c = (isCmp x && betw 0 (w' - 1) b && betw (-1000000000) 1000000000 c) := rfl
      rw [er] at q
      refine ⟨.ref a, rfl, a, _, rfl, .inl (.inl ea), rfl, _, _, rfl, _, _, rfl, _, _, rfl, rfl, ?_⟩
      refine ⟨vx, rfl, x, t, ["ge", "le", "eq"], hx, rfl, .inr ⟨ot, its, n0, lt, c1, c2, c3, c4⟩, _, rfl, ?_⟩
      have e0 : (!(([("ge" : Str), "le", "eq"].any fun n => isSt n x))) = !isCmp x := rfl
      cases e1 : isCmp x with
      | false =>
        rw [e1] at q
        refine ite2 (fun _ => iteT q) fun z => absurd (show (!isCmp x) = true by rw [e1]; rfl) z
      | true =>
        rw [e1, Bool.true_and] at q
        refine ite2 (fun z => absurd (show (!isCmp x) = true from z) (by rw [e1]; decide)) fun _ => ?_
        refine ⟨vb, rfl, .int w', rfl, w', 1, rfl, rfl, vb, b, 0, w' - 1, rfl, hb, _, rfl, ?_⟩
        cases e2 : betw 0 (w' - 1) b with
        | false =>
          rw [e2] at q
          exact iteT q
        | true =>
          rw [e2, Bool.true_and] at q
          exact iteF ⟨vc, rfl, _, rfl, vc, c, -1000000000, 1000000000, rfl, hc, q⟩
/-! ### is_condition_within -/
theorem all_take {f : PyData → Bool} {ds : List PyData} {n : Nat} (h : n = ds.length) : ds.take n = ds := by subst h; exact List.take_length
theorem ok_wi1 {k n : Nat} {sp' : Sp} {f fT fC : Addr} {fd fdT fdC : FuncData} (B : Bl mg) (Z : Cj K mg) (D : Df K mg "is_condition_within" sWi ["width", "value", "nesting"] f fd) (DT : Df K mg "is_tuple_between" sTupB ["value", "low", "high"] fT fdT)
    (DC : Df K mg "is_comparison" sCp ["width", "triple"] fC fdC) (GT : FnOk P w K mg base CX0 k fT fdT ["value", "low", "high"] spTupB) (GC : FnOk P w K mg base CX0 k fC fdC ["width", "triple"] spCp)
    (GS : FnOk P w K mg base CX0 k f fd ["width", "value", "nesting"] sp') (hs : ∀ m, n = m + 1 → ∀ vs H Q E, spWi m vs H Q E → sp' vs H Q E) : FnOk P w K mg base CX0 (k + 1) f fd ["width", "value", "nesting"] (spWi n) := by
  obtain ⟨t, mt, ot, its, n0, lt, c1, c2, c3, c4⟩ := Z.cons
  obtain ⟨tp, mp⟩ := Z.parts
  refine D.F.ok scWi (fun vs H Q E h => ?_) (fun cdv A outer s H vs Q E hr h => ?_)
  · obtain ⟨v, d, w', rfl, _⟩ := h
    rfl
  · obtain ⟨v, d, w', rfl, hd, q⟩ := h
    have nd := scWi.nd
    refine ⟨_, pss_cons (ps_if (PW.pt (pw_or (pt_cmpR op_eq (pv 2) pe_int (nomark _)) (pw_or1 (pt_not (pt_val (pe_call GT hr (by rfl) DT.g DT.F.kp DT.b .nil pass0 (pa_cons (pv 1) (pa_cons pe_int (pa_cons pe_int pa_nil))))))))) (pss_one (ps_ret pe_bl)) pss_nil)
      (pss_cons (ps_if (pt_cmpR op_eq (pe_callB call_len_seq (by rfl) B.len PySem.boot_len (pa_cons (pv 1) pa_nil)) pe_int (nomark _)) (pss_one (ps_ret (pe_call GC hr (by rfl) DC.g DC.F.kp DC.b .nil pass0 (pa_cons (pv 0) (pa_cons (pv 1) pa_nil))))) pss_nil)
      (pss_cons (ps_if (pt_cmpR (op_eqS hr.units0) (pe_ix ix_tup (pv 1) pe_int (fun _ _ => rfl)) pe_str (nomark _)) (pss_one (ps_ret (pe_call GS hr (by rfl) D.g D.F.kp D.b .nil pass0 (pa_cons (pv 0) (pa_cons (pe_ix ix_tup (pv 1) pe_int (fun _ _ => rfl)) (pa_cons (pe_op op_sub (pv 2) pe_int) pa_nil)))))) pss_nil)
      (pss_cons (ps_if (PW.pt (pw_or (pt_cmpR (op_ninA hr.units) (pe_ix ix_tup (pv 1) pe_int (fun _ _ => rfl)) (pe_glob (v := .ref t) (by rfl) mt rfl) (by rfl)) (pw_or1 (pt_not (pt_val (pe_call GT hr (by rfl) DT.g DT.F.kp DT.b .nil pass0 (pa_cons (pe_ix ix_tup (pv 1) pe_int (fun _ _ => rfl)) (pa_cons pe_int (pa_cons (pe_glob (v := .int 4) (by rfl) mp ⟨_, rfl⟩) pa_nil))))))))) (pss_one (ps_ret pe_bl)) pss_nil)
      (pss_one (ps_ret (pe_callB (cr_all rfl) (by rfl) B.all (by decide +kernel) (pa_cons (pe_lc (own := [("part", 3)]) (g := gName 3) rfl nd (pi_tup (pe_ix ix_tup (pv 1) pe_int (fun _ _ => rfl))) (blkOk_by (N := ["width", "value", "nesting", "part"]) (sc := defScope sWi) (by decide +kernel))
          (fun _ _ _ _ _ => pg_name (i := 3) nd rfl (Or.inl rfl)) (fun _ _ _ _ _ => pts_nil)
          (fun _ _ _ _ _ => pe_call GS hr (by rfl) D.g D.F.kp D.b .nil pass0 (pa_cons (pv 0) (pa_cons (pv 3) (pa_cons (pe_op op_sub (pv 2) pe_int) pa_nil))))) pa_nil))))))), ?_⟩
    refine ⟨.int (n : Int), rfl, rfl, _, rfl, ?_⟩
    rw [dec_int]
    cases n with
    | zero =>
      rw [decide_eq_true (by rfl)]
      exact iteT (iteT (q H (Same.refl H)))
    | succ m =>
      rw [decide_eq_false (by omega)]
      refine iteF ⟨v, rfl, v, d, 2, 3, rfl, hd, _, rfl, ?_⟩
      have pre : ((m + 1 : Nat) : Int) - 1 = (m : Int) := by omega
      cases et : tupB 2 3 d with
      | false =>
        have := q H (Same.refl H)
        rw [con_not et] at this
        exact iteT this
      | true =>
        refine iteF ?_
        rcases tup23 et with ⟨x, e, rfl⟩ | ⟨x, b, c, rfl⟩
        · cases hd with
          | @tup a xs _ ea hh =>
          match xs, hh, ea with
          | [vx, ve], .cons hx (.cons he .nil), ea =>
          refine ⟨.ref a, rfl, a, _, rfl, .inr (.inl (.inl ea)), rfl, _, rfl, ?_⟩
          rw [show decide (V.int (([vx, ve] : List V).length : Int) = V.int 3) = false from rfl]
          refine iteF ⟨.ref a, rfl, a, _, 0, vx, rfl, rfl, .inl (.inl ea), rfl, x, "not", hx, rfl, _, rfl, ?_⟩
          rw [con_two] at q
          cases en : isSt "not" x with
          | true =>
            rw [en, if_pos rfl] at q
            refine iteT ⟨.int w', rfl, .ref a, rfl, a, _, 1, ve, rfl, rfl, .inl (.inl ea), rfl, .int ((m + 1 : Nat) : Int), rfl, ((m + 1 : Nat) : Int), 1, rfl, rfl, ?_⟩
            refine hs m rfl _ _ _ _ ⟨ve, e, w', ?_, he, fun H1 s1 => q H1 s1⟩
            show [V.int w', ve, V.int (((m + 1 : Nat) : Int) - 1)] = _
            rw [pre]
          | false =>
            rw [en, if_neg (by decide)] at q
            refine iteF ⟨.ref a, rfl, a, _, 0, vx, rfl, rfl, .inl (.inl ea), rfl, x, t, ["and", "or"], hx, rfl, .inr ⟨ot, its, n0, lt, c1, c2, c3, c4⟩, _, rfl, ?_⟩
            cases ec : isCon x with
            | false =>
              have := q H (Same.refl H)
              rw [ec] at this
              refine ite2 (fun _ => iteT this) fun z => absurd (show (!isCon x) = true by rw [ec]; rfl) z
            | true =>
              rw [ec, Bool.true_and] at q
              refine ite2 (fun z => absurd (show (!isCon x) = true from z) (by rw [ec]; decide)) fun _ => ?_
              refine ⟨.ref a, rfl, a, _, 1, ve, rfl, rfl, .inl (.inl ea), rfl, ve, e, 2, 4, rfl, he, _, rfl, ?_⟩
              cases e4 : tupB 2 4 e with
              | false =>
                have := q H (Same.refl H)
                rw [e4] at this
                exact iteT this
              | true =>
                rw [e4, Bool.true_and] at q
                cases e with
                | tuple es =>
                  cases he with
                  | @tup p ps _ ep hp =>
                  have l4 : es.length ≤ 4 := by
                    rw [tupB24, Bool.and_eq_true] at e4
                    have := of_decide_eq_true e4.2
                    omega
                  refine iteF ⟨.ref a, rfl, a, _, 1, .ref p, rfl, rfl, .inl (.inl ea), rfl, p, rfl, ⟨_, .inl (.inl ep)⟩, fun L nL => ?_⟩
                  refine lc_tup (xs := ps) (fun i G => Same H G ∧ G L = some (.lst (((es.take i).map (conD w' m)).map V.bl))) ⟨same_new nL, upd_same⟩ (fun i G _ hG => .inl (.inl (hG.1 _ _ ep))) (fun i x1 G hx1 hG => ?_) (fun G hG => ?_)
                  · obtain ⟨d1, ed, hd1⟩ := hp.get' hx1
                    refine ⟨rfl, .int w', rfl, x1, rfl, .int ((m + 1 : Nat) : Int), rfl, ((m + 1 : Nat) : Int), 1, rfl, rfl, ?_⟩
                    refine hs m rfl _ _ _ _ ⟨x1, d1, w', ?_, hd1.up hG.1, fun G1 s1 => ⟨_, s1 _ _ hG.2, ?_, same_at (hG.1.trans s1) nL, ?_⟩⟩
                    · show [V.int w', x1, V.int (((m + 1 : Nat) : Int) - 1)] = _
                      rw [pre]
                    · rw [List.length_map, List.length_map, List.length_take]
                      have hb : (4 : Nat) < sizeLine := by decide
                      omega
                    · rw [upd_same, List.take_add_one, ed]
                      simp
                  · have hx : es.take ps.length = es := List.take_of_length_le (by rw [hp.len]; exact Nat.le_refl _)
                    rw [hx] at hG
                    refine ⟨L, _, rfl, .inl (.inl hG.2), ?_⟩
                    have e5 : (es.map (conD w' m)).all id = es.all (conD w' m) := by rw [List.all_map]; rfl
                    rw [e5]
                    exact q G hG.1
                | _ => cases e4
        · cases hd with
          | @tup a xs _ ea hh =>
          have lx := hh.len
          refine ⟨.ref a, rfl, a, xs, rfl, .inr (.inl (.inl ea)), rfl, _, rfl, ?_⟩
          rw [lx, show decide (V.int (([x, b, c] : List PyData).length : Int) = V.int 3) = true from rfl]
          refine iteT ⟨.int w', rfl, .ref a, rfl, .ref a, w', x, b, c, rfl, .tup ea hh, ?_⟩
          have := q H (Same.refl H)
          rw [con_three] at this
          exact this
theorem ok_wi {f fB fT fC : Addr} {fd fdB fdT fdC : FuncData} (B : Bl mg) (Z : Cj K mg) (D : Df K mg "is_condition_within" sWi ["width", "value", "nesting"] f fd) (DB : Df K mg "is_between" sBetween ["value", "low", "high"] fB fdB) (DT : Df K mg "is_tuple_between" sTupB ["value", "low", "high"] fT fdT)
    (DC : Df K mg "is_comparison" sCp ["width", "triple"] fC fdC) : ∀ n, FnOk P w K mg base CX0 (3 + n) f fd ["width", "value", "nesting"] (spWi n)
  | 0 => ok_wi1 (k := 2) (sp' := fun _ _ _ _ => False) B Z D DT DC ((ok_tupB B DT).mono (by decide)) (ok_cp B Z DC DB) (D.F.ok scWi (fun _ _ _ _ h => h.elim) fun _ _ _ _ _ _ _ _ _ h => h.elim) (fun m e => by cases e)
  | n + 1 => ok_wi1 (k := 3 + n) (sp' := spWi n) B Z D DT DC ((ok_tupB B DT).mono (by omega)) ((ok_cp B Z DC DB).mono (by omega)) (ok_wi B Z D DB DT DC n) (fun m e vs H Q E h => by cases e; exact h)
end
/-! ### is_condition -/
theorem betw_is {lo hi : Int} {d : PyData} (h : betw lo hi d = true) : ∃ i, d = .int i ∧ lo ≤ i ∧ i ≤ hi := by
  cases d with
  | int i =>
    have e : betw lo hi (.int i) = (decide (lo ≤ i) && decide (i ≤ hi)) := rfl
    rw [e, Bool.and_eq_true] at h
    exact ⟨i, rfl, of_decide_eq_true h.1, of_decide_eq_true h.2⟩
  | _ => cases h
def spIC (C : Addr) : Sp := fun vs H Q E => ∃ v d wv wd, vs = [wv, v] ∧ Dx H wv wd ∧ Dx H v d ∧
  (if betw 1 4 wd = true then ∀ wi, wd = .int wi → ∀ H', Same H H' → Q (.bl (conD wi 3 d)) H' else ∀ H' dd, Same H H' → H' dd = some (.xd [("value", wv)]) → E (.ref C) (some dd) H')
theorem scIC : FnScope ["width", "value"] ["width", "value"] (defScope sIC) := ⟨rfl, rfl, rfl, by decide +kernel, rfl, by decide +kernel, by decide +kernel⟩
section
variable {P : Program} {w : World} {K : PySem.W.Frag} {mg : Str → Option Value} {base : Heap} {C : Addr}
theorem ok_ic {f fW fI : Addr} {fd fdW fdI : FuncData} (Z : Cj K mg) (D : Df K mg "is_condition" sIC ["width", "value"] f fd) (DW : Df K mg "check_width" sCw ["width"] fW fdW) (DI : Df K mg "is_condition_within" sWi ["width", "value", "nesting"] fI fdI)
    (GW : FnOk P w K mg base (L2.CX P w) 6 fW fdW ["width"] (spCw C)) (GI' : FnOk P w K mg base CX0 6 fI fdI ["width", "value", "nesting"] (spWi 3)) : FnOk P w K mg base (L2.CX P w) 7 f fd ["width", "value"] (spIC C) := by
  obtain ⟨tn, mn⟩ := Z.nest
  refine D.F.okX scIC (fun vs H Q E h => ?_) (fun cdv A outer s H vs Q E hr h => ?_)
  · obtain ⟨v, d, wv, wd, rfl, _⟩ := h
    rfl
  · obtain ⟨v, d, wv, wd, rfl, hw, hd, q⟩ := h
    refine ⟨_, pss_cons (ps_expr (pe_callS GW hr (by rfl) DW.g DW.F.kp DW.b (fun σ => passAt (takes_of rfl rfl rfl rfl) σ) (pa_cons (pv 0) pa_nil)))
      (pss_one (ps_ret (pe_call GI' hr (by rfl) DI.g DI.F.kp DI.b .nil pass0 (pa_cons (pv 0) (pa_cons (pv 1) (pa_cons (pe_glob (v := .int 3) (by rfl) mn ⟨_, rfl⟩) pa_nil)))))), ?_⟩
    refine ⟨wv, rfl, wv, wd, rfl, hw, ?_⟩
    cases eb : betw 1 4 wd with
    | false =>
      rw [eb, if_neg (by simp)] at q
      rw [if_neg (by simp)]
      exact q
    | true =>
    rw [eb, if_pos rfl] at q
    rw [if_pos rfl]
    obtain ⟨wi, rfl, w1, w4⟩ := betw_is eb
    cases hw
    exact ⟨.int wi, rfl, v, rfl, v, d, wi, rfl, hd, q wi rfl⟩
end
end R1

set_option maxRecDepth 100000
set_option maxHeartbeats 4000000
namespace R1
open PySem PySem.Spec PyProof.Rows L2 KX
theorem pick {α : Type} {f : α → V} {ns : List α} {d : Int} (h0 : 0 ≤ d) (h1 : d < (ns.length : Int)) : ∃ t, t ∈ ns ∧ atI (ns.map f) d = some (f t) := by
  have hl : d.toNat < ns.length := by omega
  refine ⟨ns[d.toNat], List.getElem_mem hl, ?_⟩
  have := atI_nat (xs := ns.map f) (j := d.toNat) (v := f ns[d.toNat]) (by rw [List.getElem?_map, List.getElem?_eq_getElem hl]; rfl)
  rw [show ((d.toNat : Nat) : Int) = d by omega] at this
  exact this
theorem gds_seq {l : Addr} {P : KX.PSt} {Ss : List PyData → Prop} {ts : TA} {u : TS} {i : Nat} {D : Ends} {σ : L2.St} {H : Hp} (h : GDs l P Ss ts) (st : StO H l) (p : P σ H)
    (k : ∀ Hb xs ds, Ss ds → Keep l H Hb → StO Hb l → Dxs (hid l Hb) xs ds → xs.length ≤ sizeLine ∧ ∀ a, Hb a = none → u D (σ.set i (some (.ref a))) (upd Hb a (.lst xs))) : tSeq (tAsg (tLst ts) (gName i)) u D σ H := h σ H _ st p fun Hb xs ds s kb stb xb => k Hb xs ds s kb stb xb
theorem gds_par {l : Addr} {P : KX.PSt} {Ss : List PyData → Prop} {ts : TA} {u : TS} {i j : Nat} {D : Ends} {σ : L2.St} {H : Hp} (h : GDs l P Ss ts) (hz : ∀ ds, Ss ds → ds.length = 2) (st : StO H l) (p : P σ H)
    (k : ∀ Hb v1 v2 d1 d2, Ss [d1, d2] → Keep l H Hb → StO Hb l → Dx (hid l Hb) v1 d1 → Dx (hid l Hb) v2 d2 → u D ((σ.set i (some v1)).set j (some v2)) Hb) : tSeq (tPar i j ts) u D σ H := h σ H _ st p fun Hb xs ds s kb stb xb => by
  have z := hz ds s
  match ds, z with
  | [d1, d2], _ =>
  match xs, xb with
  | [v1, v2], .cons h1 (.cons h2 .nil) => exact ⟨v1, v2, rfl, k Hb v1 v2 d1 d2 s kb stb h1 h2⟩
theorem last_at {α : Type} : ∀ {xs : List α}, xs ≠ [] → ∃ v ys, xs = ys ++ [v] ∧ atI xs (-1) = some v := fun {xs} h =>
  ⟨xs.getLast h, xs.dropLast, (List.dropLast_concat_getLast h).symm, by
    have := atI_last xs.dropLast (xs.getLast h)
    rwa [List.dropLast_concat_getLast h] at this⟩
theorem dxs_last {H : Hp} {v : V} : ∀ {ys : List V} {ds : List PyData}, Dxs H (ys ++ [v]) ds → ∃ es d, ds = es ++ [d] ∧ Dx H v d
  | [], [d], .cons h .nil => ⟨[], d, rfl, h⟩
  | y :: ys, d :: ds, .cons h t => by
    obtain ⟨es, e, rfl, z⟩ := dxs_last t
    exact ⟨d :: es, e, rfl, z⟩
theorem t3 {sp : Sp} {σ : L2.St} {i j k : Nat} {v1 v2 v3 : V} {H : Hp} {Q : VK} (h1 : σ[i]? = some (some v1)) (h2 : σ[j]? = some (some v2)) (h3 : σ[k]? = some (some v3)) (h : sp [v1, v2, v3] H Q E0) : tCall sp [] E0 (tCons (tVar i) (tCons (tVar j) (tCons (tVar k) tNil))) σ H Q :=
  ⟨v1, h1, v2, h2, v3, h3, h⟩
abbrev sLCo : Stmt := topS 21
def cmpW (x : Str) : Prop := x = "ge" ∨ x = "le" ∨ x = "eq"
def conW (x : Str) : Prop := x = "and" ∨ x = "or"
def IsC (w : Int) : Nat → PyData → Prop
  | 0, _ => False
  | n + 1, d => (∃ x c k, d = .tuple [.str x, .int c, .int k] ∧ cmpW x ∧ 0 ≤ c ∧ c < w ∧ -1000000000 ≤ k ∧ k ≤ 1000000000) ∨ (∃ e, d = .tuple [.str "not", e] ∧ IsC w n e) ∨
      (∃ x es, d = .tuple [.str x, .tuple es] ∧ conW x ∧ 2 ≤ es.length ∧ es.length ≤ 4 ∧ ∀ e ∈ es, IsC w n e)
theorem isc_tup {w : Int} : ∀ {n : Nat} {d : PyData}, IsC w n d → ∃ ds, d = .tuple ds
  | 0, _, h => h.elim
  | n + 1, d, h => by
    rcases h with ⟨x, c, k, rfl, _⟩ | ⟨e, rfl, _⟩ | ⟨x, es, rfl, _⟩ <;> exact ⟨_, rfl⟩
theorem isc_mono {w : Int} : ∀ {n : Nat} {d : PyData}, IsC w n d → IsC w (n + 1) d
  | 0, _, h => h.elim
  | n + 1, d, h => by
    rcases h with h | ⟨e, rfl, h⟩ | ⟨x, es, rfl, hx, h1, h2, h⟩
    · exact .inl h
    · exact .inr (.inl ⟨e, rfl, isc_mono h⟩)
    · exact .inr (.inr ⟨x, es, rfl, hx, h1, h2, fun e he => isc_mono (h e he)⟩)
theorem isc_le {w : Int} {n m : Nat} {d : PyData} (h : IsC w n d) (le : n ≤ m) : IsC w m d := by
  obtain ⟨k, rfl⟩ := Nat.le.dest le
  clear le
  induction k with
  | zero => exact h
  | succ k ih => exact isc_mono ih
theorem gi_drawS {l : Addr} {σ0 : L2.St} {L : List (V × PyData)} {M : List (Addr × List V × List PyData)} {n : Int} {tn : TE} (i : Nat) (h0 : σ0[i]? = some (some (.ref l))) (h : GI l (KX.Env l σ0 L M) (· = n) tn) (n0 : 0 < n) (n1 : n < 2 ^ 64) :
    GI l (KX.Env l σ0 L M) (fun k => 0 ≤ k ∧ k < n) (tCall spDraw [] E0 (tCons (tVar i) (tCons tn tNil))) := fun σ H Q st p q =>
  ⟨.ref l, by rw [p.1]; exact h0, h σ H _ st p fun H1 i e k st1 => ⟨l, i, rfl, st1, by omega, by omega, fun H2 m k2 st2 m0 m1 => q H2 m ⟨m0, by omega⟩ (k.trans k2) st2⟩⟩
/-! ### what is new since a heap -/
def fresh (H G : Hp) : Hp := fun b => if H b = none then G b else none
theorem fresh_some {H G : Hp} {b : Addr} {o : HO} (h : fresh H G b = some o) : H b = none ∧ G b = some o := by
  unfold fresh at h
  split at h
  · exact ⟨by assumption, h⟩
  · cases h
theorem fresh_at {H G : Hp} {b : Addr} (h : H b = none) : fresh H G b = G b := if_pos h
theorem fresh_hid {l : Addr} {H G : Hp} (st : StO H l) : Same (fresh H G) (hid l G) := fun b o e => by
  obtain ⟨n, e⟩ := fresh_some e
  rw [hid_at (fun z => by obtain ⟨x, y, q, z2⟩ := st; rw [z, z2] at n; cases n)]
  exact e
theorem fresh_up {H G G' : Hp} (k : ∀ b o, H b = none → G b = some o → G' b = some o) : Same (fresh H G) (fresh H G') := fun b o e => by
  obtain ⟨n, e⟩ := fresh_some e
  rw [fresh_at n]
  exact k b o n e
theorem fresh_keep {l : Addr} {H G G' : Hp} (st : StO H l) (k : Keep l G G') : Same (fresh H G) (fresh H G') := fresh_up fun b o n e => k b o (fun z => by obtain ⟨x, y, q, z2⟩ := st; rw [z, z2] at n; cases n) e
theorem fresh_same {H G G' : Hp} (k : Same G G') : Same (fresh H G) (fresh H G') := fresh_up fun b o n e => k b o e
/-- an earlier start shows more -/
theorem fresh_less {H H1 G : Hp} (k : ∀ b, H1 b = none → H b = none) : Same (fresh H1 G) (fresh H G) := fun b o e => by
  obtain ⟨n, e⟩ := fresh_some e
  rw [fresh_at (k b n)]
  exact e
theorem none_of {l : Addr} {H G : Hp} (st : StO G l) (k : Keep l H G) : ∀ b, G b = none → H b = none := fun b n => by
  cases e : H b with
  | none => rfl
  | some o =>
    by_cases hb : b = l
    · rw [hb] at n
      obtain ⟨x, y, q, z2⟩ := st
      rw [z2] at n
      cases n
    · rw [k b o hb e] at n
      cases n
theorem fresh_tup {H G : Hp} {p : Addr} {xs : List V} {ds : List PyData} (nH : H p = none) (nG : G p = none) (h : Dxs (fresh H G) xs ds) : Dx (fresh H (upd G p (.tup xs))) (.ref p) (.tuple ds) :=
  .tup (by rw [fresh_at nH]; exact upd_same) (h.up (fresh_same fun b o e => by rw [upd_ne (ne_of_none e nG)]; exact e))
def Num9 (d : PyData) : Prop := ∃ k : Int, d = .int k ∧ -1000000000 ≤ k ∧ k ≤ 1000000000
/-! ### _law_condition, its depth m + 1 -/
def spLCo (m : Nat) : Sp := fun vs H Q _ => ∃ (l : Addr) (w : Int), vs = [.ref l, .int w, .int ((m : Int) + 1)] ∧ StO H l ∧ 1 ≤ w ∧ w ≤ 4 ∧ ∀ H' v d, Keep l H H' → StO H' l → Dx (fresh H H') v d → IsC w (m + 1) d → Q v H'
theorem scLCo : FnScope ["stream", "wide", "deep", "way", "number", "total", "turn"] ["stream", "wide", "deep"] (defScope sLCo) := ⟨rfl, rfl, rfl, by decide +kernel, rfl, by decide +kernel, by decide +kernel⟩
theorem cmp_of {x : Str} (h : x ∈ [("ge" : Str), "le", "eq"]) : cmpW x := by simpa [cmpW] using h
theorem con_of {x : Str} (h : x ∈ [("and" : Str), "or"]) : conW x := by simpa [conW] using h
section
variable {P : Program} {w : World} {K : PySem.W.Frag} {mg : Str → Option Value} {base : Heap}
theorem gi_sub {l : Addr} {Pp : KX.PSt} {N : Int → Prop} {k : Int} {ta tb : TE} (kp : Kp l Pp) (h : GI l Pp N ta) (h2 : GI l Pp (· = k) tb) : GI l Pp (fun z => ∃ i, N i ∧ z = i - k) (tOp (rI0 fun i j => V.int (i - j)) ta tb) := fun σ H Q st p q =>
  h σ H _ st p fun H1 i e k1 st1 => h2 σ H1 _ st1 (kp _ _ _ k1 st1 p) fun H2 j e2 k2 st2 => ⟨i, j, rfl, rfl, q H2 _ ⟨i, e, by rw [e2]⟩ (k1.trans k2) st2⟩
theorem ok_lco1 {k m : Nat} {sp' : Sp} {f fD : Addr} {fd fdD : FuncData} (B : Bl mg) (D : Df K mg "_law_condition" sLCo ["stream", "wide", "deep"] f fd) (DD : Df K mg "_law_draw" sDraw ["stream", "total"] fD fdD) (GDr : FnOk P w K mg base CX0 k fD fdD ["stream", "total"] spDraw)
    (GS : FnOk P w K mg base CX0 k f fd ["stream", "wide", "deep"] sp') (hs : ∀ j, m = j + 1 → ∀ vs H Q E, spLCo j vs H Q E → sp' vs H Q E) : FnOk P w K mg base CX0 (k + 1) f fd ["stream", "wide", "deep"] (spLCo m) := by
  refine D.F.ok scLCo (fun vs H Q E h => ?_) (fun cdv A outer s H vs Q E hr h => ?_)
  · obtain ⟨l, w', rfl, _⟩ := h
    rfl
  · obtain ⟨l, w', rfl, st, w1, w4, q⟩ := h
    have nd := scLCo.nd
    refine ⟨_, pss_cons (ps_set (i := 3) nd rfl (.inl rfl) (pe_call GDr hr (by rfl) DD.g DD.F.kp DD.b .nil pass0 (pa_cons (pv 0) (pa_cons pe_int pa_nil))))
      (pss_cons (ps_if (PW.pt (pw_or (pt_cmpR op_lt (pv 2) pe_int (nomark _)) (pw_or1 (pt_cmpR op_lt (pv 3) pe_int (nomark _)))))
        (pss_cons (ps_set (i := 4) nd rfl (.inl rfl) (pe_ix ix_list (pe_lst (pa_cons pe_int (pa_cons pe_int (pa_cons (pe_un un_neg pe_int) (pa_cons pe_int (pa_cons (pe_op op_pow pe_int pe_int)
            (pa_cons (pe_op op_sub (pe_call GDr hr (by rfl) DD.g DD.F.kp DD.b .nil pass0 (pa_cons (pv 0) (pa_cons (pe_op op_add (pe_op op_mul pe_int (pe_op op_pow pe_int pe_int)) pe_int) pa_nil))) (pe_op op_pow pe_int pe_int)) pa_nil)))))))
            (pe_call GDr hr (by rfl) DD.g DD.F.kp DD.b .nil pass0 (pa_cons (pv 0) (pa_cons pe_int pa_nil))) (fun _ _ => rfl)))
        (pss_one (ps_ret (pe_tup (pa_cons (pe_ix ix_list (pe_lst (pa_cons pe_str (pa_cons pe_str (pa_cons pe_str pa_nil)))) (pe_op op_mod (pv 3) pe_int) (fun _ _ => rfl)) (pa_cons (pe_call GDr hr (by rfl) DD.g DD.F.kp DD.b .nil pass0 (pa_cons (pv 0) (pa_cons (pv 1) pa_nil))) (pa_cons (pv 4) pa_nil))))))) pss_nil)
      (pss_cons (ps_if (pt_cmpR op_eq (pv 3) pe_int (nomark _)) (pss_one (ps_ret (pe_tup (pa_cons pe_str (pa_cons (pe_call GS hr (by rfl) D.g D.F.kp D.b .nil pass0 (pa_cons (pv 0) (pa_cons (pv 1) (pa_cons (pe_op op_sub (pv 2) pe_int) pa_nil)))) pa_nil))))) pss_nil)
      (pss_cons (ps_set (i := 5) nd rfl (.inl rfl) (pe_op op_add pe_int (pe_call GDr hr (by rfl) DD.g DD.F.kp DD.b .nil pass0 (pa_cons (pv 0) (pa_cons pe_int pa_nil)))))
      (pss_one (ps_ret (pe_tup (pa_cons (pe_ix ix_list (pe_lst (pa_cons pe_str (pa_cons pe_str pa_nil))) (pe_op op_sub (pv 3) pe_int) (fun _ _ => rfl))
        (pa_cons (pe_callTy call_tuple_of (by rfl) B.tuple (by decide +kernel) (pa_cons (pe_lc (own := [("turn", 6)]) (g := gName 6) rfl nd (pi_range1 (by rfl) B.range (pa_cons (pv 5) pa_nil))
          (blkOk_by (N := ["stream", "wide", "deep", "way", "number", "total", "turn"]) (sc := defScope sLCo) (by decide +kernel)) (fun _ _ _ _ _ => pg_name (i := 6) nd rfl (Or.inl rfl)) (fun _ _ _ _ _ => pts_nil)
          (fun _ _ _ _ _ => pe_call GS hr (by rfl) D.g D.F.kp D.b .nil pass0 (pa_cons (pv 0) (pa_cons (pv 1) (pa_cons (pe_op op_sub (pv 2) pe_int) pa_nil))))) pa_nil)) pa_nil)))))))), ?_⟩
    -- way
    refine ⟨.ref l, rfl, l, 6, rfl, st, by decide, by decide, fun H1 wy k1 st1 y0 y6 => ?_⟩
    have nH : ∀ {G : Hp}, Keep l H1 G → StO G l → ∀ b, G b = none → H b = none := fun k s => none_of s (k1.trans k)
    refine ⟨.int ((m : Int) + 1), rfl, (m : Int) + 1, 2, rfl, rfl, _, rfl, ?_⟩
    by_cases h2 : (m : Int) + 1 < 2
    · rw [decide_eq_true h2]
      refine iteT (iteT ?_)
      dsimp only
      change tSeq (tAsg _ (gName 4)) _ _ ([some (.ref l), some (.int w'), some (.int ((m : Int) + 1)), some (.int wy), none, none, none] : L2.St) H1
      refine gd_seq (S := Num9) (P := KX.Env l _ [] []) ?_ st1 ⟨rfl, alld_nil, allm_nil⟩ fun H2 v4 d4 hn k2 st2 x4 => ?_
      · have ci : ∀ {z : Int} {t : TE} {σ0 : L2.St}, GI l (KX.Env l σ0 [] []) (· = z) t → -1000000000 ≤ z ∧ z ≤ 1000000000 → GD l (KX.Env l σ0 [] []) Num9 t := fun {z t σ0} h g => (gd_int h).imp fun d e => by
          obtain ⟨i, rfl, rfl⟩ := e
          exact ⟨_, rfl, g.1, g.2⟩
        refine al_ix (n := 6) (m := 6) kp_env (al_lst (al_cons kp_env (ci (gi_val (n := 0) fun σ H Q q => q) (by decide)) (al_cons kp_env (ci (gi_val (n := 1) fun σ H Q q => q) (by decide)) (al_cons kp_env (ci (gi_val (n := -1) fun σ H Q q => ⟨_, rfl, q⟩) (by decide))
          (al_cons kp_env (ci (gi_val (n := 2) fun σ H Q q => q) (by decide)) (al_cons kp_env (ci (gi_val (n := 10 ^ (9 : Int).toNat) fun σ H Q q => ⟨10, 9, rfl, rfl, ⟨by decide, by decide, by decide⟩, q⟩) (by decide))
          (al_cons kp_env ((gd_int (gi_sub (k := 10 ^ (9 : Int).toNat) kp_env (gi_drawS 0 rfl (gi_val (n := 2 * 10 ^ (9 : Int).toNat + 1) fun σ H Q q => ⟨10, 9, rfl, rfl, ⟨by decide, by decide, by decide⟩, 2, _, rfl, rfl, .inl ⟨by decide, by decide⟩, _, 1, rfl, rfl, q⟩) (by decide) (by decide))
            (gi_val fun σ H Q q => ⟨10, 9, rfl, rfl, ⟨by decide, by decide, by decide⟩, q⟩))).imp fun d e => ?_) al_nil)))))) (by decide)) (gi_drawS 0 rfl (gi_val (n := 6) fun σ H Q q => q) (by decide) (by decide)) rfl
        obtain ⟨z, ⟨i, hi, rfl⟩, rfl⟩ := e
        have e9 : (10 : Int) ^ (9 : Int).toNat = 1000000000 := by decide
        rw [e9] at hi
        exact ⟨_, rfl, by rw [e9]; omega, by rw [e9]; omega⟩
      obtain ⟨k4, rfl, b0, b1⟩ := hn
      cases x4
      obtain ⟨x, mx, ex⟩ := pick (f := V.str) (ns := [("ge" : Str), "le", "eq"]) (d := wy % 3) (Int.emod_nonneg _ (by decide)) (Int.emod_lt_of_pos _ (by decide))
      refine ⟨by show 3 ≤ sizeLine; decide, fun p np => ?_⟩
      refine ⟨.int wy, rfl, wy, 3, rfl, rfl, (show (0 : Int) < 3 by decide), p, _, wy % 3, .str x, rfl, rfl, .inl (.inl upd_same), ex, ?_⟩
      refine ⟨.ref l, rfl, .int w', rfl, l, w', rfl, st2.new np, by omega, by omega, fun H3 c k3 st3 c0 c1 => ⟨.int k4, rfl, by show 3 ≤ sizeLine; decide, fun p4 np4 => ?_⟩⟩
      have kk : Keep l H H3 := ((k1.trans k2).new np).trans k3
      exact q _ _ _ (kk.new np4) (st3.new np4) (fresh_tup (none_of st3 kk _ np4) np4 (.cons (.str x) (.cons (.int c) (.cons (.int k4) .nil)))) (.inl ⟨x, c, k4, rfl, cmp_of mx, c0, c1, b0, b1⟩)
    · rw [decide_eq_false h2]
      obtain ⟨j, rfl⟩ : ∃ j, m = j + 1 := ⟨m - 1, by omega⟩
      refine iteF ⟨.int wy, rfl, wy, 3, rfl, rfl, _, rfl, ?_⟩
      by_cases h3 : wy < 3
      · rw [decide_eq_true h3]
        refine iteT ?_
        dsimp only
        change tSeq (tAsg _ (gName 4)) _ _ ([some (.ref l), some (.int w'), some (.int (((j + 1 : Nat) : Int) + 1)), some (.int wy), none, none, none] : L2.St) H1
        refine gd_seq (S := Num9) (P := KX.Env l _ [] []) ?_ st1 ⟨rfl, alld_nil, allm_nil⟩ fun H2 v4 d4 hn k2 st2 x4 => ?_
        · have ci : ∀ {z : Int} {t : TE} {σ0 : L2.St}, GI l (KX.Env l σ0 [] []) (· = z) t → -1000000000 ≤ z ∧ z ≤ 1000000000 → GD l (KX.Env l σ0 [] []) Num9 t := fun {z t σ0} h g => (gd_int h).imp fun d e => by
            obtain ⟨i, rfl, rfl⟩ := e
            exact ⟨_, rfl, g.1, g.2⟩
          refine al_ix (n := 6) (m := 6) kp_env (al_lst (al_cons kp_env (ci (gi_val (n := 0) fun σ H Q q => q) (by decide)) (al_cons kp_env (ci (gi_val (n := 1) fun σ H Q q => q) (by decide)) (al_cons kp_env (ci (gi_val (n := -1) fun σ H Q q => ⟨_, rfl, q⟩) (by decide))
            (al_cons kp_env (ci (gi_val (n := 2) fun σ H Q q => q) (by decide)) (al_cons kp_env (ci (gi_val (n := 10 ^ (9 : Int).toNat) fun σ H Q q => ⟨10, 9, rfl, rfl, ⟨by decide, by decide, by decide⟩, q⟩) (by decide))
            (al_cons kp_env ((gd_int (gi_sub (k := 10 ^ (9 : Int).toNat) kp_env (gi_drawS 0 rfl (gi_val (n := 2 * 10 ^ (9 : Int).toNat + 1) fun σ H Q q => ⟨10, 9, rfl, rfl, ⟨by decide, by decide, by decide⟩, 2, _, rfl, rfl, .inl ⟨by decide, by decide⟩, _, 1, rfl, rfl, q⟩) (by decide) (by decide))
              (gi_val fun σ H Q q => ⟨10, 9, rfl, rfl, ⟨by decide, by decide, by decide⟩, q⟩))).imp fun d e => ?_) al_nil)))))) (by decide)) (gi_drawS 0 rfl (gi_val (n := 6) fun σ H Q q => q) (by decide) (by decide)) rfl
          obtain ⟨z, ⟨i, hi, rfl⟩, rfl⟩ := e
          have e9 : (10 : Int) ^ (9 : Int).toNat = 1000000000 := by decide
          rw [e9] at hi
          exact ⟨_, rfl, by rw [e9]; omega, by rw [e9]; omega⟩
        obtain ⟨k4, rfl, b0, b1⟩ := hn
        cases x4
        obtain ⟨x, mx, ex⟩ := pick (f := V.str) (ns := [("ge" : Str), "le", "eq"]) (d := wy % 3) (Int.emod_nonneg _ (by decide)) (Int.emod_lt_of_pos _ (by decide))
        refine ⟨by show 3 ≤ sizeLine; decide, fun p np => ?_⟩
        refine ⟨.int wy, rfl, wy, 3, rfl, rfl, (show (0 : Int) < 3 by decide), p, _, wy % 3, .str x, rfl, rfl, .inl (.inl upd_same), ex, ?_⟩
        refine ⟨.ref l, rfl, .int w', rfl, l, w', rfl, st2.new np, by omega, by omega, fun H3 c k3 st3 c0 c1 => ⟨.int k4, rfl, by show 3 ≤ sizeLine; decide, fun p4 np4 => ?_⟩⟩
        have kk : Keep l H H3 := ((k1.trans k2).new np).trans k3
        exact q _ _ _ (kk.new np4) (st3.new np4) (fresh_tup (none_of st3 kk _ np4) np4 (.cons (.str x) (.cons (.int c) (.cons (.int k4) .nil)))) (.inl ⟨x, c, k4, rfl, cmp_of mx, c0, c1, b0, b1⟩)
      · rw [decide_eq_false h3]
        refine iteF ⟨.int wy, rfl, rfl, _, rfl, ?_⟩
        rw [dec_int]
        have ej : (((j + 1 : Nat) : Int) + 1) - 1 = (j : Int) + 1 := by omega
        by_cases h4 : wy = 3
        · rw [decide_eq_true h4]
          refine iteT ⟨.ref l, rfl, .int w', rfl, .int (((j + 1 : Nat) : Int) + 1), rfl, _, 1, rfl, rfl, ?_⟩
          refine hs j rfl _ _ _ _ ⟨l, w', ?_, st1, w1, w4, fun H2 v d k2 st2 x2 hc => ⟨by show 2 ≤ sizeLine; decide, fun p np => ?_⟩⟩
          · show [V.ref l, V.int w', V.int ((((j + 1 : Nat) : Int) + 1) - 1)] = _
            rw [ej]
          · have kk := k1.trans k2
            exact q _ _ _ (kk.new np) (st2.new np) (fresh_tup (none_of st2 kk _ np) np (.cons (.str _) (.cons (x2.up (fresh_less (none_of st1 k1))) .nil))) (.inr (.inl ⟨d, rfl, hc⟩))
        · rw [decide_eq_false h4]
          refine iteF ⟨.ref l, rfl, l, 3, rfl, st1, by decide, by decide, fun H2 t k2 st2 t0 t3 => ⟨2, t, rfl, rfl, ?_⟩⟩
          obtain ⟨tn, etn⟩ : ∃ tn : Nat, 2 + t = (tn : Int) := ⟨(2 + t).toNat, by omega⟩
          dsimp only
          rw [etn]
          obtain ⟨x, mx, ex⟩ := pick (f := V.str) (ns := [("and" : Str), "or"]) (d := wy - 4) (by omega) (by show wy - 4 < (2 : Int); omega)
          refine ⟨by show 2 ≤ sizeLine; decide, fun p np => ?_⟩
          refine ⟨.int wy, rfl, wy, 4, rfl, rfl, p, _, wy - 4, .str x, rfl, rfl, .inl (.inl upd_same), ex, ?_⟩
          have k02 : Keep l H (upd H2 p (.lst [.str "and", .str "or"])) := (k1.trans k2).new np
          have st3 := st2.new (o := .lst [.str "and", .str "or"]) np
          refine ⟨.int (tn : Int), rfl, tn, rfl, by omega, by omega, fun L nL => ?_⟩
          have hLl : L ≠ l := st3.ne nL
          have hHL : H L = none := none_of st3 k02 _ nL
          refine lc_range (lo := 0) (n := tn) (fun i G => Keep l (upd H2 p (.lst [.str "and", .str "or"])) G ∧ StO G l ∧ ∃ vs ds, G L = some (.lst vs) ∧ Dxs (hid L (fresh H G)) vs ds ∧ ds.length = i ∧ ∀ d ∈ ds, IsC w' (j + 1) d)
            ⟨(Keep.refl l _).new nL, st3.new nL, [], [], upd_same, .nil, rfl, fun d h => by cases h⟩ (fun i G hi hG => ?_) (fun G hG => ?_)
          · obtain ⟨kG, sG, vs, ds, eL, hx, hlen, hall⟩ := hG
            refine ⟨rfl, .ref l, rfl, .int w', rfl, .int (((j + 1 : Nat) : Int) + 1), rfl, _, 1, rfl, rfl, ?_⟩
            refine hs j rfl _ _ _ _ ⟨l, w', ?_, sG, w1, w4, fun G1 v d k5 sG1 xd hc => ⟨vs, k5 _ _ hLl eL, ?_, ?_, ?_, vs ++ [v], ds ++ [d], upd_same, ?_, ?_, ?_⟩⟩
            · show [V.ref l, V.int w', V.int ((((j + 1 : Nat) : Int) + 1) - 1)] = _
              rw [ej]
            · have hl := hx.len
              have hb : (4 : Nat) < sizeLine := by decide
              omega
            · exact fun b o nb e => by
                rw [upd_ne (ne_of_none e nL)]
                exact k5 _ _ nb (kG _ _ nb e)
            · obtain ⟨x1, x2, x3, e⟩ := sG1
              exact ⟨x1, x2, x3, by rw [upd_ne hLl.symm]; exact e⟩
            · refine (hx.up fun b o e => ?_).app (.cons (xd.up fun b o e => ?_) .nil)
              · obtain ⟨nb, e⟩ := hid_some e
                obtain ⟨n, e⟩ := fresh_some e
                rw [hid_at nb, fresh_at n, upd_ne nb]
                exact k5 b o (fun z => by obtain ⟨y1, y2, y3, z2⟩ := st; rw [z, z2] at n; cases n) e
              · obtain ⟨n, e⟩ := fresh_some e
                have nb : b ≠ L := fun z => by rw [z, eL] at n; cases n
                rw [hid_at nb, fresh_at (none_of sG (k02.trans kG) _ n), upd_ne nb]
                exact e
            · rw [List.length_append, hlen]
              rfl
            · intro d' hd'
              rcases List.mem_append.mp hd' with h | h
              · exact hall d' h
              · rw [List.mem_singleton.mp h]
                exact hc
          · obtain ⟨kG, sG, vs, ds, eL, hx, hlen, hall⟩ := hG
            refine ⟨L, vs, rfl, .inl ⟨.inl (.inl eL), fun p2 np2 => ⟨by show 2 ≤ sizeLine; decide, fun p3 np3 => ?_⟩⟩⟩
            have kk := k02.trans kG
            have n2 := none_of sG kk _ np2
            have n3 := none_of (sG.new np2) (kk.new np2) _ np3
            exact q _ _ _ ((kk.new np2).new np3) ((sG.new np2).new np3) (fresh_tup n3 np3 (.cons (.str x) (.cons (fresh_tup n2 np2 (hx.up (hid_same L _))) .nil))) (.inr (.inr ⟨x, ds, rfl, con_of mx, by omega, by omega, hall⟩))
theorem ok_lco {f fD : Addr} {fd fdD : FuncData} (B : Bl mg) (D : Df K mg "_law_condition" sLCo ["stream", "wide", "deep"] f fd) (DD : Df K mg "_law_draw" sDraw ["stream", "total"] fD fdD) : ∀ m, FnOk P w K mg base CX0 (2 + m) f fd ["stream", "wide", "deep"] (spLCo m)
  | 0 => ok_lco1 (k := 1) (sp' := fun _ _ _ _ => False) B D DD (ok_draw B DD) (D.F.ok scLCo (fun _ _ _ _ h => h.elim) fun _ _ _ _ _ _ _ _ _ h => h.elim) (fun m e => by cases e)
  | m + 1 => ok_lco1 (k := 2 + m) (sp' := spLCo m) B D DD ((ok_draw B DD).mono (by omega)) (ok_lco B D DD m) (fun j e vs H Q E h => by cases e; exact h)
end
end R1

set_option maxRecDepth 100000
set_option maxHeartbeats 4000000
namespace R1
open PySem PySem.Spec PyProof.Rows L2 KX
abbrev sAV : Stmt := topS 22
abbrev sMu : Stmt := topS 23
/-! ### any value -/
structure AnyP (n : Nat) (d : PyData) : Prop where
  o : okP d
  f : fine (10 ^ 40) d = true
  w : wt d ≤ n
theorem AnyP.mono {n m : Nat} {d : PyData} (h : AnyP n d) (le : n ≤ m) : AnyP m d := ⟨h.o, h.f, Nat.le_trans h.w le⟩
def spAV : Sp := fun vs H Q _ => ∃ (l : Addr), vs = [.ref l] ∧ StO H l ∧ ∀ H' v d, Keep l H H' → StO H' l → Dx (hid l H') v d → AnyP 10 d → Q v H'
theorem scAV : FnScope ["stream", "samples"] ["stream"] (defScope sAV) := ⟨rfl, rfl, rfl, by decide +kernel, rfl, by decide +kernel, by decide +kernel⟩
theorem gd_dict1 {l : Addr} {P : KX.PSt} {x : Str} {i : Int} : GD l P (· = .dict [(.str x, .int i)]) (tDisp [(tC (.str x), tC (.int i))]) := fun σ H Q st p q b nb =>
  ⟨upd_same, [(.inr x, .int i)], rfl, by show 1 ≤ 15; decide, by
    have e : (upd (upd H b (.dK [])) b (.dK (mergeK [] [(.inr x, V.int i)]))) = upd H b (.dK [(.inr x, .int i)]) := by
      funext c
      by_cases h : c = b
      · subst h
        rw [upd_same, upd_same]
        rfl
      · rw [upd_ne h, upd_ne h, upd_ne h]
    rw [e]
    exact q _ _ _ rfl ((Keep.refl l H).new nb) (st.new nb) (dx_dic1 nb st)⟩
theorem gd_rev {l : Addr} {P : KX.PSt} {K : PySem.W.Frag} {ds : List PyData} {te : TE} (h : GD l P (· = .tuple ds) te) : GD l P (· = .tuple ds.reverse) (tRevT K te) := fun σ H Q st p q =>
  h σ H _ st p fun H1 v d e k st1 x => by
    subst e
    obtain ⟨a, xs, rfl, na, ea, hx⟩ := dx_tupOf x
    exact ⟨a, xs, rfl, .inl (.inl ea), fun p1 np1 => q _ _ _ rfl (k.new np1) (st1.new np1) (dx_tup np1 st1 hx.rev)⟩
theorem anyc {d : PyData} (h : d.plain = true) (f : fine (10 ^ 40) d = true) (w : wt d ≤ 10) : AnyP 10 d := ⟨.inl h, f, w⟩
section
variable {P : Program} {w : World} {K : PySem.W.Frag} {mg : Str → Option Value} {base : Heap}
theorem ok_av {f fD : Addr} {fd fdD : FuncData} (B : Bl mg) (D : Df K mg "_law_any_value" sAV ["stream"] f fd) (DD : Df K mg "_law_draw" sDraw ["stream", "total"] fD fdD) : FnOk P w K mg base CX0 2 f fd ["stream"] spAV := by
  have GDr : FnOk P w K mg base CX0 1 fD fdD _ spDraw := ok_draw B DD
  refine D.F.ok scAV (fun vs H Q E h => ?_) (fun cdv A outer s H vs Q E hr h => ?_)
  · obtain ⟨l, rfl, _⟩ := h
    rfl
  · obtain ⟨l, rfl, st, q⟩ := h
    have nd := scAV.nd
    refine ⟨_, pss_cons (ps_set (i := 1) nd rfl (.inl rfl) (pe_lst (pa_cons pe_non (pa_cons pe_bl (pa_cons pe_bl (pa_cons (pe_un un_neg pe_int) (pa_cons pe_int (pa_cons pe_int (pa_cons pe_int (pa_cons (pe_op op_pow pe_int pe_int) (pa_cons pe_str (pa_cons pe_str (pa_cons pe_str (pa_cons pe_str
          (pa_cons (pe_tup pa_nil) (pa_cons (pe_lstS pa_nil) (pa_cons pe_dnewK (pa_cons (pe_tup (pa_cons pe_non pa_nil)) (pa_cons (pe_tup (pa_cons pe_int (pa_cons pe_str pa_nil))) pa_nil)))))))))))))))))))
      (pss_cons (ps_set (i := 1) nd rfl (.inl rfl) (pe_op op_cat (pv 1) (pe_lst (pa_cons (pe_lstS (pa_cons pe_int (pa_cons pe_str pa_nil))) (pa_cons (pe_tup (pa_cons (pe_tup (pa_cons pe_int (pa_cons pe_str pa_nil))) pa_nil)) (pa_cons (pe_tup (pa_cons (pe_tup (pa_cons pe_str (pa_cons pe_int pa_nil))) pa_nil))
          (pa_cons (pe_tup (pa_cons pe_str (pa_cons pe_int pa_nil))) (pa_cons (pe_tup (pa_cons pe_str (pa_cons (pe_tup pa_nil) pa_nil))) (pa_cons (pe_tup (pa_cons pe_str pa_nil)) (pa_cons (pe_disp (pps_cons pe_str pe_int pps_nil) rfl rfl (by simp) (by decide)) (pa_cons (pe_tup (pa_cons (pe_tup pa_nil) pa_nil)) pa_nil)))))))))))
      (pss_cons (ps_set (i := 1) nd rfl (.inl rfl) (pe_op op_cat (pv 1) (pe_lst (pa_cons (pe_tup (pa_cons pe_bl (pa_cons pe_str pa_nil))) (pa_cons pe_str pa_nil)))))
      (pss_one (ps_ret (pe_ix ix_list (pv 1) (pe_call GDr hr (by rfl) DD.g DD.F.kp DD.b .nil pass0 (pa_cons (pv 0) (pa_cons pe_int pa_nil))) (fun _ _ => rfl)))))), ?_⟩
    change tSeq (tAsg _ (gName 1)) _ _ ([some (.ref l), none] : L2.St) H
    have con : ∀ {v : V} {d : PyData} {σ0 : L2.St} {M}, (∀ H, Dx H v d) → AnyP 10 d → GD l (KX.Env l σ0 [] M) (AnyP 10) (tC v) := fun {v d σ0 M} h g => (gd_c h).imp fun _ e => by subst e; exact g
    have ci : ∀ {k : Int} {t : TE} {σ0 : L2.St} {M}, GI l (KX.Env l σ0 [] M) (· = k) t → AnyP 10 (.int k) → GD l (KX.Env l σ0 [] M) (AnyP 10) t := fun {k t σ0 M} h g => (gd_int h).imp fun d e => by
      obtain ⟨i, rfl, rfl⟩ := e
      exact g
    have t2 : ∀ {v1 v2 : V} {d1 d2 : PyData} {σ0 : L2.St} {M}, (∀ H, Dx H v1 d1) → (∀ H, Dx H v2 d2) → GD l (KX.Env l σ0 [] M) (· = .tuple [d1, d2]) (tTup (tCons (tC v1) (tCons (tC v2) tNil))) := fun {v1 v2 d1 d2 σ0 M} h1 h2 =>
      (gd_tup (gds_cons kp_env (gd_c h1) (gds_cons kp_env (gd_c h2) gds_nil)) fun ds z => by obtain ⟨x, y, rfl, _, x, y, rfl, _, rfl⟩ := z; show 2 ≤ sizeLine; decide).imp fun d e => by
        obtain ⟨ds, rfl, x, y, rfl, rfl, x, y, rfl, rfl, rfl⟩ := e
        rfl
    have t1 : ∀ {t : TE} {d1 : PyData} {σ0 : L2.St} {M}, GD l (KX.Env l σ0 [] M) (· = d1) t → GD l (KX.Env l σ0 [] M) (· = .tuple [d1]) (tTup (tCons t tNil)) := fun {t d1 σ0 M} h1 =>
      (gd_tup (gds_cons kp_env h1 gds_nil) fun ds z => by obtain ⟨x, y, rfl, _, rfl⟩ := z; show 1 ≤ sizeLine; decide).imp fun d e => by
        obtain ⟨ds, rfl, x, y, rfl, rfl, rfl⟩ := e
        rfl
    have t0 : ∀ {σ0 : L2.St} {M}, GD l (KX.Env l σ0 [] M) (· = .tuple []) (tTup tNil) := fun {σ0 M} => (gd_tup gds_nil fun ds e => by subst e; exact Nat.zero_le _).imp fun d e => by
      obtain ⟨ds, rfl, rfl⟩ := e
      rfl
    refine gm_seq (S := Al (AnyP 10) 17) (P := KX.Env l _ [] []) ?_ st ⟨rfl, alld_nil, allm_nil⟩ fun H1 p1 xs1 ds1 g1 k1 st1 n1 e1 x1 => ?_
    · exact al_lst (al_cons kp_env (con (d := .none) (fun H => .non) (anyc rfl rfl (by decide))) (al_cons kp_env (con (d := .bool true) (fun H => .bl true) (anyc rfl rfl (by decide))) (al_cons kp_env (con (d := .bool false) (fun H => .bl false) (anyc rfl rfl (by decide)))
        (al_cons kp_env (ci (gi_val (n := -1) fun σ H Q q => ⟨_, rfl, q⟩) (anyc rfl (by decide +kernel) (by decide))) (al_cons kp_env (con (d := .int 0) (fun H => .int 0) (anyc rfl (by decide +kernel) (by decide))) (al_cons kp_env (con (d := .int 1) (fun H => .int 1) (anyc rfl (by decide +kernel) (by decide))) (al_cons kp_env (con (d := .int 4) (fun H => .int 4) (anyc rfl (by decide +kernel) (by decide)))
        (al_cons kp_env (ci (gi_val (n := 10 ^ (39 : Int).toNat) fun σ H Q q => ⟨10, 39, rfl, rfl, ⟨by decide, by decide, by decide⟩, q⟩) (anyc rfl (by decide +kernel) (by decide)))
        (al_cons kp_env (con (d := .str "") (fun H => .str _) (anyc rfl (by decide +kernel) (by decide +kernel))) (al_cons kp_env (con (d := .str "asc") (fun H => .str _) (anyc rfl (by decide +kernel) (by decide +kernel))) (al_cons kp_env (con (d := .str "ge") (fun H => .str _) (anyc rfl (by decide +kernel) (by decide +kernel))) (al_cons kp_env (con (d := .str "not") (fun H => .str _) (anyc rfl (by decide +kernel) (by decide +kernel)))
        (al_cons kp_env (t0.imp fun d e => by subst e; exact anyc rfl (by decide +kernel) (by decide))
        (al_cons kp_env ((gd_lst gds_nil fun ds z => by subst z; exact Nat.zero_le _).imp fun d e => by obtain ⟨ds, rfl, rfl⟩ := e; exact anyc rfl (by decide +kernel) (by decide))
        (al_cons kp_env (gd_dict.imp fun d e => by subst e; exact ⟨.inr ⟨_, rfl⟩, rfl, by decide⟩)
        (al_cons kp_env ((t1 (gd_c (v := .non) fun H => .non)).imp fun d e => by subst e; exact anyc rfl (by decide +kernel) (by decide))
        (al_cons kp_env ((t2 (v1 := .int 0) (v2 := .str "asc") (fun H => .int 0) (fun H => .str _)).imp fun d e => by subst e; exact anyc rfl (by decide +kernel) (by decide +kernel)) al_nil))))))))))))))))) (by decide)
    change tSeq (tAsg _ (gName 1)) _ _ ([some (.ref l), some (.ref p1)] : L2.St) H1
    refine gm_seq (S := Al (AnyP 10) (17 + 8)) (P := KX.Env l _ [] [(p1, xs1, ds1)]) ?_ st1 ⟨rfl, alld_nil, allm_one n1 e1 x1⟩ fun H2 p2 xs2 ds2 g2 k2 st2 n2 e2 x2 => ?_
    · exact al_cat kp_env ((gm_env rfl (List.mem_singleton.mpr rfl)).imp fun _ e => by subst e; exact g1)
        (al_lst (al_cons kp_env ((gd_lst (gds_cons kp_env (gd_c (v := .int 0) (d := .int 0) fun H => .int 0) (gds_cons kp_env (gd_c (v := .str "asc") (d := .str "asc") fun H => .str _) gds_nil)) fun ds z => by obtain ⟨x, y, rfl, _, x, y, rfl, _, rfl⟩ := z; show 2 ≤ sizeLine; decide).imp fun d e => by
            obtain ⟨ds, rfl, x, y, rfl, rfl, x, y, rfl, rfl, rfl⟩ := e
            exact anyc rfl (by decide +kernel) (by decide +kernel))
        (al_cons kp_env ((t1 (t2 (v1 := .int 0) (v2 := .str "asc") (fun H => .int 0) (fun H => .str _))).imp fun d e => by subst e; exact anyc rfl (by decide +kernel) (by decide +kernel))
        (al_cons kp_env ((t1 (t2 (v1 := .str "asc") (v2 := .int 0) (fun H => .str _) (fun H => .int 0))).imp fun d e => by subst e; exact anyc rfl (by decide +kernel) (by decide +kernel))
        (al_cons kp_env ((t2 (v1 := .str "ge") (v2 := .int 0) (fun H => .str _) (fun H => .int 0)).imp fun d e => by subst e; exact anyc rfl (by decide +kernel) (by decide +kernel))
        (al_cons kp_env ((gd_tup (gds_cons kp_env (gd_c (v := .str "and") (d := .str "and") fun H => .str _) (gds_cons kp_env t0 gds_nil)) fun ds z => by obtain ⟨x, y, rfl, _, x, y, rfl, _, rfl⟩ := z; show 2 ≤ sizeLine; decide).imp fun d e => by
            obtain ⟨ds, rfl, x, y, rfl, rfl, x, y, rfl, rfl, rfl⟩ := e
            exact anyc rfl (by decide +kernel) (by decide +kernel))
        (al_cons kp_env ((t1 (gd_c (v := .str "not") (d := .str "not") fun H => .str _)).imp fun d e => by subst e; exact anyc rfl (by decide +kernel) (by decide +kernel))
        (al_cons kp_env (gd_dict1.imp fun d e => by subst e; exact ⟨.inr ⟨_, rfl⟩, by decide +kernel, by decide⟩)
        (al_cons kp_env ((t1 t0).imp fun d e => by subst e; exact anyc rfl (by decide +kernel) (by decide +kernel)) al_nil)))))))) (by decide)) (by decide)
    change tSeq (tAsg _ (gName 1)) _ _ ([some (.ref l), some (.ref p2)] : L2.St) H2
    refine gm_seq (S := Al (AnyP 10) (17 + 8 + 2)) (P := KX.Env l _ [] [(p2, xs2, ds2)]) ?_ st2 ⟨rfl, alld_nil, allm_one n2 e2 x2⟩ fun H3 p3 xs3 ds3 g3 k3 st3 n3 e3 x3 => ?_
    · exact al_cat kp_env ((gm_env rfl (List.mem_singleton.mpr rfl)).imp fun _ e => by subst e; exact g2)
        (al_lst (al_cons kp_env ((t2 (v1 := .bl true) (v2 := .str "asc") (fun H => .bl true) (fun H => .str _)).imp fun d e => by subst e; exact anyc rfl (by decide +kernel) (by decide +kernel))
        (al_cons kp_env (con (d := .str "desc") (fun H => .str _) (anyc rfl (by decide +kernel) (by decide +kernel))) al_nil)) (by decide)) (by decide)
    exact al_ix (P := KX.Env l ([some (.ref l), some (.ref p3)] : L2.St) [] [(p3, xs3, ds3)]) (n := 27) (m := 27) kp_env ((gm_env rfl (List.mem_singleton.mpr rfl)).imp fun _ e => by subst e; exact g3) (gi_drawS 0 rfl (gi_val (n := 27) fun σ H Q q => q) (by decide) (by decide)) rfl _ _ _ st3 ⟨rfl, alld_nil, allm_one n3 e3 x3⟩ fun H4 v4 d4 b k4 st4 x4 => q H4 v4 d4 (((k1.trans k2).trans k3).trans k4) st4 x4 b
end
end R1

set_option maxRecDepth 100000
set_option maxHeartbeats 4000000
namespace R1
open PySem PySem.Spec PyProof.Rows L2 KX
/-! ### _law_mutated -/
def MuP : Nat → PyData → Prop
  | 0, d => okP d
  | n + 1, d => okP d ∨ ∃ ds, d = .tuple ds ∧ ∀ x ∈ ds, MuP n x
theorem MuP.of {d : PyData} (h : okP d) : ∀ n, MuP n d
  | 0 => h
  | n + 1 => .inl h
structure MuG (n m k : Nat) (d : PyData) : Prop where
  o : MuP n d
  f : fine (10 ^ 40) d = true
  w : wt d ≤ m
  p : d.depth ≤ k
/-- any value, its depth told -/
structure AnyQ (n k : Nat) (d : PyData) : Prop where
  o : okP d
  f : fine (10 ^ 40) d = true
  w : wt d ≤ n
  p : d.depth ≤ k
theorem AnyP.q {n : Nat} {d : PyData} (h : AnyP n d) : AnyQ n n d := ⟨h.o, h.f, h.w, Nat.le_trans (depth_wt d h.f) h.w⟩
theorem depth_tup (ds : List PyData) : (PyData.tuple ds).depth = PyData.depthAll ds + 1 := by simp [PyData.depth]
theorem depth_lst (ds : List PyData) : (PyData.list ds).depth = PyData.depthAll ds + 1 := by simp [PyData.depth]
theorem depth_mem : ∀ {ds : List PyData} {d : PyData}, d ∈ ds → d.depth ≤ PyData.depthAll ds
  | e :: ds, d, h => by
    simp only [PyData.depthAll]
    rcases List.mem_cons.mp h with rfl | h
    · omega
    · have := depth_mem h
      omega
theorem depth_all : ∀ {ds : List PyData} {m : Nat}, (∀ d ∈ ds, d.depth ≤ m) → PyData.depthAll ds ≤ m
  | [], m, _ => by simp [PyData.depthAll]
  | d :: ds, m, h => by
    simp only [PyData.depthAll]
    have h1 := h d (by simp)
    have h2 : PyData.depthAll ds ≤ m := depth_all fun e he => h e (List.mem_cons_of_mem _ he)
    omega
theorem depth_sub {xs ys : List PyData} (s : ∀ x ∈ xs, x ∈ ys) : PyData.depthAll xs ≤ PyData.depthAll ys := depth_all fun x hx => depth_mem (s x hx)
structure InG (d : PyData) : Prop where
  p : d.plain = true
  f : fine (10 ^ 9) d = true
  w : wt d ≤ 200
theorem fine_up {d : PyData} (h : fine (10 ^ 9) d = true) : fine (10 ^ 40) d = true := fine_le (by decide +kernel) d h
theorem plain_okP {d : PyData} (h : d.plain = true) : okP d := .inl h
theorem InG.item {ds : List PyData} (h : InG (.tuple ds)) {d : PyData} (m : d ∈ ds) : InG d := by
  have p := h.p
  have f := h.f
  have w := h.w
  simp only [PyData.plain] at p
  simp only [fine] at f
  simp only [wt] at w
  refine ⟨?_, fineAll_mem.mp f d m, by have := wt_mem m; omega⟩
  obtain ⟨i, hi, e⟩ := List.getElem_of_mem m
  exact plain_at p (i := i) (by rw [List.getElem?_eq_getElem hi, e])
def spMu (n : Nat) : Sp := fun vs H Q _ => ∃ (l : Addr) (v : V) (d : PyData), vs = [.ref l, v, .int (n : Int)] ∧ StO H l ∧ Dx (hid l H) v d ∧ InG d ∧ ∀ H' v' d', Keep l H H' → StO H' l → Dx (hid l H') v' d' → MuG n (2 * wt d + 20) (d.depth + 12) d' → Q v' H'
theorem scMu : FnScope ["stream", "value", "deep", "way", "at"] ["stream", "value", "deep"] (defScope sMu) := ⟨rfl, rfl, rfl, by decide +kernel, rfl, by decide +kernel, by decide +kernel⟩
theorem int_text_fine {i : Int} (h : i.natAbs ≤ 10 ^ 9) : fine (10 ^ 40) (.str (Str.ofString (toString i))) = true ∧ wt (.str (Str.ofString (toString i))) ≤ 12 := by
  refine ⟨List.all_eq_true.mpr fun c hc => decide_eq_true ?_, ?_⟩
  · rcases Nat.lt_or_ge c 128 with z | z
    · exact z
    · exact absurd hc (int_text_free' c ⟨by omega, by omega⟩ i)
  · have h5 : (toString i).length ≤ 10 + 1 := PySem.int_text_length_le10 (a := i) (k := 10) (by decide) (by omega)
    have e : (Str.ofString (toString i)).length = (toString i).length := PySem.ofString_length _
    simp only [wt]
    omega
theorem mu_words {x : Str} (h : x ∈ [("asc" : Str), "desc", "Up", "eq", "le", "or", "and", "not", "up ", ""]) : AnyP 10 (.str x) := by
  simp only [List.mem_cons, List.not_mem_nil, or_false] at h
  rcases h with rfl | rfl | rfl | rfl | rfl | rfl | rfl | rfl | rfl | rfl <;> exact ⟨.inl rfl, by decide +kernel, by decide +kernel⟩
theorem plainAll_sub {xs ys : List PyData} (h : PyData.plainAll ys = true) (s : ∀ x ∈ xs, x ∈ ys) : PyData.plainAll xs = true := by
  induction xs with
  | nil => rfl
  | cons x xs ih =>
    have hx := s x (by simp)
    obtain ⟨i, hi, e⟩ := List.getElem_of_mem hx
    have := plain_at h (i := i) (d := x) (by rw [List.getElem?_eq_getElem hi, e])
    simp only [PyData.plainAll, this, Bool.true_and]
    exact ih fun z hz => s z (by simp [hz])
theorem fineAll_sub {B : Nat} {xs ys : List PyData} (h : fineAll B ys = true) (s : ∀ x ∈ xs, x ∈ ys) : fineAll B xs = true := fineAll_mem.mpr fun x hx => fineAll_mem.mp h x (s x hx)
theorem cut_sub {ds : List PyData} {lo hi : Option Int} : ∀ x ∈ KX.cutD ds lo hi, x ∈ ds := fun x hx => List.mem_of_mem_drop (List.mem_of_mem_take hx)
theorem cut_wt {ds : List PyData} {lo hi : Option Int} : wtAll (KX.cutD ds lo hi) ≤ wtAll ds := by
  unfold KX.cutD
  have h1 := wtAll_take (HT.sIx ds.length ds.length hi - HT.sIx ds.length 0 lo) (ds.drop (HT.sIx ds.length 0 lo))
  have h2 := wtAll_take (HT.sIx ds.length 0 lo) ds
  omega
section
variable {P : Program} {w : World} {K : PySem.W.Frag} {mg : Str → Option Value} {base : Heap}
theorem ok_mu1 {k n : Nat} {sp' : Sp} {f fD fA : Addr} {fd fdD fdA : FuncData} (B : Bl mg) (D : Df K mg "_law_mutated" sMu ["stream", "value", "deep"] f fd) (DD : Df K mg "_law_draw" sDraw ["stream", "total"] fD fdD) (DA : Df K mg "_law_any_value" sAV ["stream"] fA fdA)
    (GDr : FnOk P w K mg base CX0 k fD fdD ["stream", "total"] spDraw) (GA : FnOk P w K mg base CX0 k fA fdA ["stream"] spAV)
    (GS : FnOk P w K mg base CX0 k f fd ["stream", "value", "deep"] sp') (hs : ∀ j, n = j + 1 → ∀ vs H Q E, spMu j vs H Q E → sp' vs H Q E) : FnOk P w K mg base CX0 (k + 1) f fd ["stream", "value", "deep"] (spMu n) := by
  refine D.F.ok scMu (fun vs H Q E h => ?_) (fun cdv A outer s H vs Q E hr h => ?_)
  · obtain ⟨l, v, d, rfl, _⟩ := h
    rfl
  · obtain ⟨l, v, d, rfl, st, hd, hg, q⟩ := h
    have nd := scMu.nd
    refine ⟨_, pss_cons (ps_set (i := 3) nd rfl (.inl rfl) (pe_call GDr hr (by rfl) DD.g DD.F.kp DD.b .nil pass0 (pa_cons (pv 0) (pa_cons pe_int pa_nil))))
      (pss_cons (ps_if (PW.pt (pw_and (pt_val (pe_isD (T := "tuple") (x := "tuple") (by decide +kernel) B.isi B.tuple (by decide +kernel) (pv 1) (by rfl) (by rfl)))
          (pw_and (pt_cmpR (op_ne0 hr.units0) (pv 1) (pe_tup pa_nil) (nomark _)) (pw_and (pt_cmpR op_gt (pv 2) pe_int (nomark _)) (pw_and1 (pt_cmpR op_gt (pv 3) pe_int (nomark _)))))))
        (pss_cons (ps_set (i := 4) nd rfl (.inl rfl) (pe_call GDr hr (by rfl) DD.g DD.F.kp DD.b .nil pass0 (pa_cons (pv 0) (pa_cons (pe_callB call_len_seq (by rfl) B.len PySem.boot_len (pa_cons (pv 1) pa_nil)) pa_nil))))
        (pss_one (ps_ret (pe_op op_catA (pe_op op_catA (pe_slice sl_tupA (pv 1) po_none (po_some (pv 4)))
            (pe_tup (pa_cons (pe_call GS hr (by rfl) D.g D.F.kp D.b .nil pass0 (pa_cons (pv 0) (pa_cons (pe_ix ix_tup (pv 1) (pv 4) (fun _ _ => rfl)) (pa_cons (pe_op op_sub (pv 2) pe_int) pa_nil)))) pa_nil)))
            (pe_slice sl_tupA (pv 1) (po_some (pe_op op_add (pv 4) pe_int)) po_none))))) pss_nil)
      (pss_cons (ps_if (PW.pt (pw_and (pt_val (pe_isD (T := "tuple") (x := "tuple") (by decide +kernel) B.isi B.tuple (by decide +kernel) (pv 1) (by rfl) (by rfl))) (pw_and1 (pt_cmpR op_eq (pv 3) pe_int (nomark _)))))
        (pss_one (ps_ret (pe_ix ix_list (pe_lst (pa_cons (pe_callTy call_lst2 (by rfl) B.list (by decide +kernel) (pa_cons (pv 1) pa_nil)) (pa_cons (pe_op op_catA (pv 1) (pe_slice sl_tupA (pv 1) (po_some (pe_un un_neg pe_int)) po_none)) (pa_cons (pe_slice sl_tupA (pv 1) po_none (po_some (pe_un un_neg pe_int)))
            (pa_cons (pe_revT (pv 1)) (pa_cons (pe_tup (pa_cons (pv 1) pa_nil)) pa_nil)))))) (pe_call GDr hr (by rfl) DD.g DD.F.kp DD.b .nil pass0 (pa_cons (pv 0) (pa_cons pe_int pa_nil))) (fun _ _ => rfl)))) pss_nil)
      (pss_cons (ps_if (PW.pt (pw_and (pt_val (pe_isD (T := "str") (x := "str") (by decide +kernel) B.isi B.str (by decide +kernel) (pv 1) (by rfl) (by rfl))) (pw_and1 (pt_cmpR op_lt (pv 3) pe_int (nomark _)))))
        (pss_one (ps_ret (pe_ix ix_list (pe_lst (pa_cons pe_str (pa_cons pe_str (pa_cons pe_str (pa_cons pe_str (pa_cons pe_str (pa_cons pe_str (pa_cons pe_str (pa_cons pe_str (pa_cons pe_str (pa_cons pe_str pa_nil))))))))))) (pe_call GDr hr (by rfl) DD.g DD.F.kp DD.b .nil pass0 (pa_cons (pv 0) (pa_cons pe_int pa_nil))) (fun _ _ => rfl)))) pss_nil)
      (pss_cons (ps_if (PW.pt (pw_and (pt_val (pe_isD (T := "int") (x := "int") (by decide +kernel) B.isi B.int (by decide +kernel) (pv 1) (by rfl) (by rfl)))
          (pw_and (pt_not (pt_val (pe_isD (T := "bool") (x := "bool") (by decide +kernel) B.isi B.bool (by decide +kernel) (pv 1) (by rfl) (by rfl)))) (pw_and1 (pt_cmpR op_lt (pv 3) pe_int (nomark _))))))
        (pss_one (ps_ret (pe_ix ix_list (pe_lst (pa_cons (pe_op op_add (pv 1) pe_int) (pa_cons (pe_op op_sub (pv 1) pe_int) (pa_cons (pe_cmpR op_eq (pv 1) pe_int (nomark _)) (pa_cons (pe_callTy call_str_int (by rfl) B.str (by decide +kernel) (pa_cons (pv 1) pa_nil)) (pa_cons pe_int pa_nil)))))) (pv 3) (fun _ _ => rfl)))) pss_nil)
      (pss_one (ps_ret (pe_call GA hr (by rfl) DA.g DA.F.kp DA.b .nil pass0 (pa_cons (pv 0) pa_nil)))))))), ?_⟩
    refine ⟨.ref l, rfl, l, 7, rfl, st, by decide, by decide, fun H1 way k1 st1 y0 y7 => ?_⟩
    have hd1 := hd.up k1.same
    have fd := fine_up hg.f
    have w2 := hg.w
    have wp : 1 ≤ wt d := by cases d <;> simp [wt]
    have anyq : ∀ {G : Hp} {v' : V} {d' : PyData} {m c : Nat}, Keep l H1 G → StO G l → Dx (hid l G) v' d' → AnyQ m c d' → m ≤ 2 * wt d + 20 → c ≤ d.depth + 12 → Q v' G := fun kG sG x' a le lc => q _ _ _ (k1.trans kG) sG x' ⟨.of a.o n, a.f, Nat.le_trans a.w le, Nat.le_trans a.p lc⟩
    have last : ∀ {G : Hp}, Keep l H1 G → StO G l → ∀ {σ : L2.St}, σ[0]? = some (some (.ref l)) → tCall spAV [] E0 (tCons (tVar 0) tNil) σ G Q := fun {G} kG sG {σ} e =>
      ⟨.ref l, e, l, rfl, sG, fun G2 v2 d2 k2 s2 x2 a2 => anyq (kG.trans k2) s2 x2 a2.q (by omega) (by omega)⟩
    refine ⟨v, rfl, rfl, d, hd1.up (hid_same l H1), _, rfl, ?_⟩
    cases d with
    | tuple ds =>
      rw [isa_tuple]
      obtain ⟨a, xs, ev, na, ea, hx⟩ := dx_tupOf hd1
      subst ev
      have hlen := hx.len
      have lw := len_wt ds
      have big : (5000 : Nat) ≤ sizeLine := by decide
      have gf : fineAll (10 ^ 40) ds = true := by simpa only [fine] using fd
      have gp : PyData.plainAll ds = true := by have := hg.p; simpa only [PyData.plain] using this
      have gw : wtAll ds + 1 ≤ 200 := hg.w
      have ew : wt (.tuple ds) = wtAll ds + 1 := by simp [wt]
      have dd := depth_tup ds
      rw [dd] at anyq q
      rw [ew] at anyq q
      have es : isaN "str" (.tuple ds) = false := isa_str
      have ei : isaN "int" (.tuple ds) = false := isa_int
      refine iteT ⟨.ref a, rfl, by show 0 ≤ sizeLine; decide, fun p np => ?_⟩
      have s2 := st1.new (o := .tup []) np
      have k2 : Keep l H1 (upd H1 p (.tup [])) := (Keep.refl l H1).new np
      have ea2 := k2 _ _ na ea
      refine ⟨a, p, xs, rfl, rfl, .inl (.inl ea2), .inl (.inl upd_same), _, rfl, ?_⟩
      cases hxe : xs.isEmpty with
      | true =>
        refine iteF (iteF ?_)
        refine ⟨.ref a, rfl, rfl, .tuple ds, (hd1.up k2.same).up (hid_same l _), _, rfl, ?_⟩
        rw [isa_tuple]
        refine iteT ⟨.int way, rfl, rfl, _, rfl, ?_⟩
        rw [dec_int]
        by_cases h0 : way = 0
        · rw [decide_eq_true h0]
          refine iteT ?_
          have tv : GD l (KX.Env l ([some (.ref l), some (.ref a), some (.int (n : Int)), some (.int way), none] : L2.St) [(.ref a, .tuple ds)] []) (· = .tuple ds) (tVar 1) := gd_env (v := .ref a) (d := .tuple ds) rfl (by simp)
          refine al_ix (S := AnyQ (2 * (wtAll ds + 1)) (PyData.depthAll ds + 2)) (P := KX.Env l ([some (.ref l), some (.ref a), some (.int (n : Int)), some (.int way), none] : L2.St) [(.ref a, .tuple ds)] []) (n := 5) (m := 5) kp_env (al_lst (al_cons kp_env ((gd_listOf tv).imp fun d e => ?_)
              (al_cons kp_env ((gd_cat kp_env tv (gd_slice kp_env tv (go_some (gi_val (n := -1) fun σ H Q q => ⟨_, rfl, q⟩)) go_none) (fun d e => ⟨_, e, by omega⟩) (fun d e => ⟨_, e, ?_⟩)).imp fun d e => ?_)
              (al_cons kp_env ((gd_slice kp_env tv go_none (go_some (gi_val (n := -1) fun σ H Q q => ⟨_, rfl, q⟩))).imp fun d e => ?_)
              (al_cons kp_env ((gd_rev tv).imp fun d e => ?_)
              (al_cons kp_env ((gd_tup (gds_cons kp_env tv gds_nil) fun ds z => by obtain ⟨x, y, rfl, _, rfl⟩ := z; show 1 ≤ sizeLine; decide).imp fun d e => ?_) al_nil))))) (by decide)) (gi_drawS 0 rfl (gi_val (n := 5) fun σ H Q q => q) (by decide) (by decide)) rfl _ _ _ s2 ⟨rfl, alld_cons (hd1.up k2.same) alld_nil, allm_nil⟩ fun G2 v2 d2 b k9 s9 x9 => anyq (k2.trans k9) s9 x9 b (by omega) (by omega)
          · subst e
            exact ⟨.inl (by simpa only [PyData.plain] using gp), by simpa only [fine] using gf, by simp only [wt]; omega, by rw [depth_lst]; omega⟩
          · have h1 := len_wt (KX.cutD ds (some (-1)) none)
            have h2 := cut_wt (ds := ds) (lo := some (-1)) (hi := none)
            omega
          · obtain ⟨x, y, e1, e2, rfl⟩ := e
            cases e1
            cases e2
            have h2 := cut_wt (ds := ds) (lo := some (-1)) (hi := none)
            exact ⟨.inl (by simp only [PyData.plain]; rw [plainAll_app, gp, plainAll_sub gp cut_sub]; rfl), by simp only [fine]; rw [fineAll_app, gf, fineAll_sub gf cut_sub]; rfl, by simp only [wt]; rw [wtAll_app]; omega, by rw [depth_tup]; have := depth_sub (xs := ds ++ KX.cutD ds (some (-1)) none) (ys := ds) (fun x hx => (List.mem_append.mp hx).elim id (cut_sub x)); omega⟩
          · subst e
            have h2 := cut_wt (ds := ds) (lo := none) (hi := some (-1))
            exact ⟨.inl (by simp only [PyData.plain]; exact plainAll_sub gp cut_sub), by simp only [fine]; exact fineAll_sub gf cut_sub, by simp only [wt]; omega, by rw [depth_tup]; have := depth_sub (xs := KX.cutD ds none (some (-1))) (ys := ds) cut_sub; omega⟩
          · subst e
            exact ⟨.inl (by simp only [PyData.plain]; exact plainAll_sub gp fun x hx => List.mem_reverse.mp hx), by simp only [fine]; exact fineAll_sub gf fun x hx => List.mem_reverse.mp hx, by simp only [wt]; rw [wtAll_rev]; omega, by rw [depth_tup]; have := depth_sub (xs := ds.reverse) (ys := ds) (fun x hx => List.mem_reverse.mp hx); omega⟩
          · obtain ⟨es, rfl, x, y, rfl, rfl, rfl⟩ := e
            exact ⟨.inl (by simp only [PyData.plain, PyData.plainAll, gp, Bool.and_true]), by simp only [fine, fineAll, gf, Bool.and_true], by simp only [wt, wtAll]; omega, by rw [depth_tup]; simp only [PyData.depthAll]; rw [depth_tup]; omega⟩
        · rw [decide_eq_false h0]
          refine iteF ⟨.ref a, rfl, rfl, .tuple ds, (hd1.up k2.same).up (hid_same l _), _, rfl, ?_⟩
          rw [es]
          refine iteF (iteF ⟨.ref a, rfl, rfl, .tuple ds, (hd1.up k2.same).up (hid_same l _), _, rfl, ?_⟩)
          rw [ei]
          exact iteF (iteF (last k2 s2 rfl))
      | false =>
        refine iteT ⟨.int (n : Int), rfl, (n : Int), 0, rfl, rfl, _, rfl, ?_⟩
        by_cases hdp : (0 : Int) < (n : Int)
        · rw [decide_eq_true hdp]
          refine iteT ⟨.int way, rfl, way, 2, rfl, rfl, _, rfl, ?_⟩
          by_cases hw : 2 < way
          · rw [decide_eq_true hw]
            obtain ⟨j, rfl⟩ : ∃ j, n = j + 1 := ⟨n - 1, by omega⟩
            have hne : 0 < ds.length := by
              cases xs with
              | nil => cases hxe
              | cons _ _ => rw [← hlen]; simp
            refine iteT ⟨.ref l, rfl, .ref a, rfl, a, xs, rfl, .inr (.inl (.inl ea2)), l, _, rfl, s2, by omega, by omega, fun G3 at1 k3 s3 a0 a1 => ?_⟩
            obtain ⟨i, rfl⟩ : ∃ i : Nat, at1 = (i : Int) := ⟨at1.toNat, by omega⟩
            have hn : i < ds.length := by omega
            have k13 := k2.trans k3
            refine ⟨.ref a, rfl, .int i, rfl, i, rfl, sl_of (hd1.up k13.same) s3 fun G4 q4 k4 s4 f4 => ?_⟩
            rw [cutD_to] at f4
            have k14 := k13.trans k4
            obtain ⟨a', xs', ea', na', e4, hx4⟩ := dx_tupOf (hd1.up k14.same)
            cases ea'
            obtain ⟨y, ey, dy⟩ := hx4.get (List.getElem?_eq_getElem hn)
            have wy := wt_mem (List.getElem_mem hn)
            have gy : InG ds[i] := hg.item (List.getElem_mem hn)
            refine ⟨.ref l, rfl, .ref a, rfl, .int i, rfl, a, xs', i, y, rfl, rfl, .inl (.inl e4), atI_nat ey, .int ((j + 1 : Nat) : Int), rfl, _, 1, rfl, rfl, ?_⟩
            refine hs j rfl _ _ _ _ ⟨l, y, ds[i], ?_, s4, dy, gy, fun G5 v5 d5 k5 s5 f5 g5 => ?_⟩
            · show [V.ref l, y, V.int (((j + 1 : Nat) : Int) - 1)] = _
              rw [show ((j + 1 : Nat) : Int) - 1 = (j : Int) by omega]
            refine ⟨by show 1 ≤ sizeLine; decide, fun pt npt => ?_⟩
            have s6 := s5.new (o := .tup [v5]) npt
            refine cat_of ((f4.up k5.same).up (hnew npt)) (dx_tup npt s5 (.cons f5 .nil)) s6 (by rw [List.length_take, List.length_singleton]; omega) fun G7 q7 k7 s7 f7 => ?_
            have k17 := ((k14.trans k5).new (o := .tup [v5]) npt).trans k7
            refine ⟨.ref a, rfl, .int i, rfl, i, 1, rfl, rfl, ((i : Int) + 1), rfl, ?_⟩
            refine (show ∀ {σ : L2.St} {H : Hp} {Q : Option Int → Hp → Prop}, Q none H → tNoPart σ H Q from fun h => h) (sl_of (hd1.up k17.same) s7 fun G8 q8 k8 s8 f8 => ?_)
            rw [show ((i : Int) + 1) = ((i + 1 : Nat) : Int) by omega, cutD_from] at f8
            refine cat_of (f7.up k8.same) f8 s8 (by rw [List.length_append, List.length_take, List.length_drop, List.length_singleton]; omega) fun G9 q9 k9 s9 f9 => ?_
            refine q G9 _ _ (((k1.trans k17).trans k8).trans k9) s9 f9 ⟨.inr ⟨_, rfl, fun z hz => ?_⟩, ?_, ?_, ?_⟩
            · rcases List.mem_append.mp hz with hz | hz
              · rcases List.mem_append.mp hz with hz | hz
                · exact .of (.inl (hg.item (List.mem_of_mem_take hz)).p) j
                · rw [List.mem_singleton.mp hz]
                  exact g5.o
              · exact .of (.inl (hg.item (List.mem_of_mem_drop hz)).p) j
            · simp only [fine]
              refine fineAll_mem.mpr fun z hz => ?_
              rcases List.mem_append.mp hz with hz | hz
              · rcases List.mem_append.mp hz with hz | hz
                · exact fineAll_mem.mp gf z (List.mem_of_mem_take hz)
                · rw [List.mem_singleton.mp hz]
                  exact g5.f
              · exact fineAll_mem.mp gf z (List.mem_of_mem_drop hz)
            · have w1 := wtAll_take i ds
              rw [List.drop_eq_getElem_cons hn] at w1
              have w3 : wtAll (ds[i] :: ds.drop (i + 1)) = wt ds[i] + wtAll (ds.drop (i + 1)) := by simp [wtAll]
              have w5 := g5.w
              simp only [wt]
              rw [wtAll_app, wtAll_app]
              simp only [wtAll]
              omega
            · rw [depth_tup]
              have h1 := g5.p
              have h2 := depth_mem (List.getElem_mem hn)
              have h3 := depth_all (m := PyData.depthAll ds + 12) (ds := ds.take i ++ [d5] ++ ds.drop (i + 1)) fun z hz => by
                rcases List.mem_append.mp hz with hz | hz
                · rcases List.mem_append.mp hz with hz | hz
                  · have := depth_mem (List.mem_of_mem_take hz)
                    omega
                  · rw [List.mem_singleton.mp hz]
                    omega
                · have := depth_mem (List.mem_of_mem_drop hz)
                  omega
              omega
          · rw [decide_eq_false hw]
            refine iteF ?_
            refine ⟨.ref a, rfl, rfl, .tuple ds, (hd1.up k2.same).up (hid_same l _), _, rfl, ?_⟩
            rw [isa_tuple]
            refine iteT ⟨.int way, rfl, rfl, _, rfl, ?_⟩
            rw [dec_int]
            by_cases h0 : way = 0
            · rw [decide_eq_true h0]
              refine iteT ?_
              have tv : GD l (KX.Env l ([some (.ref l), some (.ref a), some (.int (n : Int)), some (.int way), none] : L2.St) [(.ref a, .tuple ds)] []) (· = .tuple ds) (tVar 1) := gd_env (v := .ref a) (d := .tuple ds) rfl (by simp)
              refine al_ix (S := AnyQ (2 * (wtAll ds + 1)) (PyData.depthAll ds + 2)) (P := KX.Env l ([some (.ref l), some (.ref a), some (.int (n : Int)), some (.int way), none] : L2.St) [(.ref a, .tuple ds)] []) (n := 5) (m := 5) kp_env (al_lst (al_cons kp_env ((gd_listOf tv).imp fun d e => ?_)
                  (al_cons kp_env ((gd_cat kp_env tv (gd_slice kp_env tv (go_some (gi_val (n := -1) fun σ H Q q => ⟨_, rfl, q⟩)) go_none) (fun d e => ⟨_, e, by omega⟩) (fun d e => ⟨_, e, ?_⟩)).imp fun d e => ?_)
                  (al_cons kp_env ((gd_slice kp_env tv go_none (go_some (gi_val (n := -1) fun σ H Q q => ⟨_, rfl, q⟩))).imp fun d e => ?_)
                  (al_cons kp_env ((gd_rev tv).imp fun d e => ?_)
                  (al_cons kp_env ((gd_tup (gds_cons kp_env tv gds_nil) fun ds z => by obtain ⟨x, y, rfl, _, rfl⟩ := z; show 1 ≤ sizeLine; decide).imp fun d e => ?_) al_nil))))) (by decide)) (gi_drawS 0 rfl (gi_val (n := 5) fun σ H Q q => q) (by decide) (by decide)) rfl _ _ _ s2 ⟨rfl, alld_cons (hd1.up k2.same) alld_nil, allm_nil⟩ fun G2 v2 d2 b k9 s9 x9 => anyq (k2.trans k9) s9 x9 b (by omega) (by omega)
              · subst e
                exact ⟨.inl (by simpa only [PyData.plain] using gp), by simpa only [fine] using gf, by simp only [wt]; omega, by rw [depth_lst]; omega⟩
              · have h1 := len_wt (KX.cutD ds (some (-1)) none)
                have h2 := cut_wt (ds := ds) (lo := some (-1)) (hi := none)
                omega
              · obtain ⟨x, y, e1, e2, rfl⟩ := e
                cases e1
                cases e2
                have h2 := cut_wt (ds := ds) (lo := some (-1)) (hi := none)
                exact ⟨.inl (by simp only [PyData.plain]; rw [plainAll_app, gp, plainAll_sub gp cut_sub]; rfl), by simp only [fine]; rw [fineAll_app, gf, fineAll_sub gf cut_sub]; rfl, by simp only [wt]; rw [wtAll_app]; omega, by rw [depth_tup]; have := depth_sub (xs := ds ++ KX.cutD ds (some (-1)) none) (ys := ds) (fun x hx => (List.mem_append.mp hx).elim id (cut_sub x)); omega⟩
              · subst e
                have h2 := cut_wt (ds := ds) (lo := none) (hi := some (-1))
                exact ⟨.inl (by simp only [PyData.plain]; exact plainAll_sub gp cut_sub), by simp only [fine]; exact fineAll_sub gf cut_sub, by simp only [wt]; omega, by rw [depth_tup]; have := depth_sub (xs := KX.cutD ds none (some (-1))) (ys := ds) cut_sub; omega⟩
              · subst e
                exact ⟨.inl (by simp only [PyData.plain]; exact plainAll_sub gp fun x hx => List.mem_reverse.mp hx), by simp only [fine]; exact fineAll_sub gf fun x hx => List.mem_reverse.mp hx, by simp only [wt]; rw [wtAll_rev]; omega, by rw [depth_tup]; have := depth_sub (xs := ds.reverse) (ys := ds) (fun x hx => List.mem_reverse.mp hx); omega⟩
              · obtain ⟨es, rfl, x, y, rfl, rfl, rfl⟩ := e
                exact ⟨.inl (by simp only [PyData.plain, PyData.plainAll, gp, Bool.and_true]), by simp only [fine, fineAll, gf, Bool.and_true], by simp only [wt, wtAll]; omega, by rw [depth_tup]; simp only [PyData.depthAll]; rw [depth_tup]; omega⟩
            · rw [decide_eq_false h0]
              refine iteF ⟨.ref a, rfl, rfl, .tuple ds, (hd1.up k2.same).up (hid_same l _), _, rfl, ?_⟩
              rw [es]
              refine iteF (iteF ⟨.ref a, rfl, rfl, .tuple ds, (hd1.up k2.same).up (hid_same l _), _, rfl, ?_⟩)
              rw [ei]
              exact iteF (iteF (last k2 s2 rfl))
        · rw [decide_eq_false hdp]
          refine iteF (iteF ?_)
          refine ⟨.ref a, rfl, rfl, .tuple ds, (hd1.up k2.same).up (hid_same l _), _, rfl, ?_⟩
          rw [isa_tuple]
          refine iteT ⟨.int way, rfl, rfl, _, rfl, ?_⟩
          rw [dec_int]
          by_cases h0 : way = 0
          · rw [decide_eq_true h0]
            refine iteT ?_
            have tv : GD l (KX.Env l ([some (.ref l), some (.ref a), some (.int (n : Int)), some (.int way), none] : L2.St) [(.ref a, .tuple ds)] []) (· = .tuple ds) (tVar 1) := gd_env (v := .ref a) (d := .tuple ds) rfl (by simp)
            refine al_ix (S := AnyQ (2 * (wtAll ds + 1)) (PyData.depthAll ds + 2)) (P := KX.Env l ([some (.ref l), some (.ref a), some (.int (n : Int)), some (.int way), none] : L2.St) [(.ref a, .tuple ds)] []) (n := 5) (m := 5) kp_env (al_lst (al_cons kp_env ((gd_listOf tv).imp fun d e => ?_)
                (al_cons kp_env ((gd_cat kp_env tv (gd_slice kp_env tv (go_some (gi_val (n := -1) fun σ H Q q => ⟨_, rfl, q⟩)) go_none) (fun d e => ⟨_, e, by omega⟩) (fun d e => ⟨_, e, ?_⟩)).imp fun d e => ?_)
                (al_cons kp_env ((gd_slice kp_env tv go_none (go_some (gi_val (n := -1) fun σ H Q q => ⟨_, rfl, q⟩))).imp fun d e => ?_)
                (al_cons kp_env ((gd_rev tv).imp fun d e => ?_)
                (al_cons kp_env ((gd_tup (gds_cons kp_env tv gds_nil) fun ds z => by obtain ⟨x, y, rfl, _, rfl⟩ := z; show 1 ≤ sizeLine; decide).imp fun d e => ?_) al_nil))))) (by decide)) (gi_drawS 0 rfl (gi_val (n := 5) fun σ H Q q => q) (by decide) (by decide)) rfl _ _ _ s2 ⟨rfl, alld_cons (hd1.up k2.same) alld_nil, allm_nil⟩ fun G2 v2 d2 b k9 s9 x9 => anyq (k2.trans k9) s9 x9 b (by omega) (by omega)
            · subst e
              exact ⟨.inl (by simpa only [PyData.plain] using gp), by simpa only [fine] using gf, by simp only [wt]; omega, by rw [depth_lst]; omega⟩
            · have h1 := len_wt (KX.cutD ds (some (-1)) none)
              have h2 := cut_wt (ds := ds) (lo := some (-1)) (hi := none)
              omega
            · obtain ⟨x, y, e1, e2, rfl⟩ := e
              cases e1
              cases e2
              have h2 := cut_wt (ds := ds) (lo := some (-1)) (hi := none)
              exact ⟨.inl (by simp only [PyData.plain]; rw [plainAll_app, gp, plainAll_sub gp cut_sub]; rfl), by simp only [fine]; rw [fineAll_app, gf, fineAll_sub gf cut_sub]; rfl, by simp only [wt]; rw [wtAll_app]; omega, by rw [depth_tup]; have := depth_sub (xs := ds ++ KX.cutD ds (some (-1)) none) (ys := ds) (fun x hx => (List.mem_append.mp hx).elim id (cut_sub x)); omega⟩
            · subst e
              have h2 := cut_wt (ds := ds) (lo := none) (hi := some (-1))
              exact ⟨.inl (by simp only [PyData.plain]; exact plainAll_sub gp cut_sub), by simp only [fine]; exact fineAll_sub gf cut_sub, by simp only [wt]; omega, by rw [depth_tup]; have := depth_sub (xs := KX.cutD ds none (some (-1))) (ys := ds) cut_sub; omega⟩
            · subst e
              exact ⟨.inl (by simp only [PyData.plain]; exact plainAll_sub gp fun x hx => List.mem_reverse.mp hx), by simp only [fine]; exact fineAll_sub gf fun x hx => List.mem_reverse.mp hx, by simp only [wt]; rw [wtAll_rev]; omega, by rw [depth_tup]; have := depth_sub (xs := ds.reverse) (ys := ds) (fun x hx => List.mem_reverse.mp hx); omega⟩
            · obtain ⟨es, rfl, x, y, rfl, rfl, rfl⟩ := e
              exact ⟨.inl (by simp only [PyData.plain, PyData.plainAll, gp, Bool.and_true]), by simp only [fine, fineAll, gf, Bool.and_true], by simp only [wt, wtAll]; omega, by rw [depth_tup]; simp only [PyData.depthAll]; rw [depth_tup]; omega⟩
          · rw [decide_eq_false h0]
            refine iteF ⟨.ref a, rfl, rfl, .tuple ds, (hd1.up k2.same).up (hid_same l _), _, rfl, ?_⟩
            rw [es]
            refine iteF (iteF ⟨.ref a, rfl, rfl, .tuple ds, (hd1.up k2.same).up (hid_same l _), _, rfl, ?_⟩)
            rw [ei]
            exact iteF (iteF (last k2 s2 rfl))
    | str x =>
      have es : isaN "str" (.str x) = true := isa_str
      have ei : isaN "int" (.str x) = false := isa_int
      cases hd1
      rw [isa_tuple]
      refine iteF (iteF ⟨.str x, rfl, rfl, .str x, .str x, _, rfl, ?_⟩)
      rw [isa_tuple]
      refine iteF (iteF ⟨.str x, rfl, rfl, .str x, .str x, _, rfl, ?_⟩)
      rw [es]
      refine iteT ⟨.int way, rfl, way, 4, rfl, rfl, _, rfl, ?_⟩
      by_cases hw : way < 4
      · rw [decide_eq_true hw]
        refine iteT ⟨by show 10 ≤ sizeLine; decide, fun p np => ⟨.ref l, rfl, l, 10, rfl, st1.new np, by decide, by decide, fun G2 i k2 s2 i0 i1 => ?_⟩⟩
        obtain ⟨y, my, ey⟩ := pick (f := V.str) (ns := [("asc" : Str), "desc", "Up", "eq", "le", "or", "and", "not", "up ", ""]) i0 i1
        exact ⟨p, _, i, .str y, rfl, rfl, .inl (.inl (k2 _ _ (st1.ne np) upd_same)), ey, anyq (((Keep.refl l H1).new np).trans k2) s2 (.str y) (mu_words my).q (by omega) (by omega)⟩
      · rw [decide_eq_false hw]
        refine iteF ⟨.str x, rfl, rfl, .str x, .str x, _, rfl, ?_⟩
        rw [ei]
        exact iteF (iteF (last (Keep.refl l H1) st1 rfl))
    | int i =>
      have es : isaN "str" (.int i) = false := isa_str
      have ei : isaN "int" (.int i) = true := isa_int
      have eb : isaN "bool" (.int i) = false := isa_bool
      have hi : i.natAbs ≤ 10 ^ 9 := by have := hg.f; simpa [fine] using this
      cases hd1
      rw [isa_tuple]
      refine iteF (iteF ⟨.int i, rfl, rfl, .int i, .int i, _, rfl, ?_⟩)
      rw [isa_tuple]
      refine iteF (iteF ⟨.int i, rfl, rfl, .int i, .int i, _, rfl, ?_⟩)
      rw [es]
      refine iteF (iteF ⟨.int i, rfl, rfl, .int i, .int i, _, rfl, ?_⟩)
      rw [ei]
      refine iteT ⟨.int i, rfl, rfl, .int i, .int i, _, rfl, ?_⟩
      rw [eb]
      refine iteT ⟨.int way, rfl, way, 5, rfl, rfl, _, rfl, ?_⟩
      by_cases hw : way < 5
      · rw [decide_eq_true hw]
        have hlog : i.natAbs.log2 < 1920 := log_of_fine (B := 10 ^ 9) (by decide +kernel) hi
        obtain ⟨t1, t2⟩ := int_text_fine hi
        refine iteT ⟨.int i, rfl, i, 1, rfl, rfl, .int i, rfl, i, 1, rfl, rfl, .int i, rfl, rfl, .int i, rfl, i, rfl, hlog, by show 5 ≤ sizeLine; decide, fun p np => ?_⟩
        obtain ⟨y, my, ey⟩ := pick (f := id) (ns := [V.int (i + 1), V.int (i - 1), V.bl (decide (V.int i = V.int 1)), V.str (toString i), V.int 4]) y0 hw
        have hy : ∃ dy, Dx (hid l (upd H1 p (.lst [V.int (i + 1), V.int (i - 1), V.bl (decide (V.int i = V.int 1)), V.str (toString i), V.int 4]))) y dy ∧ AnyP 12 dy := by
          simp only [List.mem_cons, List.not_mem_nil, or_false] at my
          have e40 : (10 : Nat) ^ 9 + 1 ≤ 10 ^ 40 := by decide +kernel
          rcases my with rfl | rfl | rfl | rfl | rfl
          · exact ⟨_, .int _, .inl rfl, by simp only [fine]; exact decide_eq_true (by omega), by simp [wt]⟩
          · exact ⟨_, .int _, .inl rfl, by simp only [fine]; exact decide_eq_true (by omega), by simp [wt]⟩
          · exact ⟨_, .bl _, .inl rfl, rfl, by simp [wt]⟩
          · exact ⟨_, .str _, .inl rfl, t1, t2⟩
          · exact ⟨_, .int _, .inl rfl, by decide +kernel, by simp [wt]⟩
        obtain ⟨dy, hy, ay⟩ := hy
        exact ⟨.int way, rfl, p, _, way, y, rfl, rfl, .inl (.inl upd_same), ey, anyq ((Keep.refl l H1).new np) (st1.new np) hy ay.q (by omega) (by omega)⟩
      · rw [decide_eq_false hw]
        exact iteF (last (Keep.refl l H1) st1 rfl)
    | bool b =>
      have es : isaN "str" (.bool b) = false := isa_str
      have ei : isaN "int" (.bool b) = true := isa_int
      have eb : isaN "bool" (.bool b) = true := isa_bool
      cases hd1
      rw [isa_tuple]
      refine iteF (iteF ⟨.bl b, rfl, rfl, .bool b, .bl b, _, rfl, ?_⟩)
      rw [isa_tuple]
      refine iteF (iteF ⟨.bl b, rfl, rfl, .bool b, .bl b, _, rfl, ?_⟩)
      rw [es]
      refine iteF (iteF ⟨.bl b, rfl, rfl, .bool b, .bl b, _, rfl, ?_⟩)
      rw [ei]
      refine iteT ⟨.bl b, rfl, rfl, .bool b, .bl b, _, rfl, ?_⟩
      rw [eb]
      exact iteF (iteF (last (Keep.refl l H1) st1 rfl))
    | none =>
      have es : isaN "str" (PyData.none) = false := isa_str
      have ei : isaN "int" (PyData.none) = false := isa_int
      rw [isa_tuple]
      refine iteF (iteF ⟨v, rfl, rfl, _, hd1.up (hid_same l H1), _, rfl, ?_⟩)
      rw [isa_tuple]
      refine iteF (iteF ⟨v, rfl, rfl, _, hd1.up (hid_same l H1), _, rfl, ?_⟩)
      rw [es]
      refine iteF (iteF ⟨v, rfl, rfl, _, hd1.up (hid_same l H1), _, rfl, ?_⟩)
      rw [ei]
      exact iteF (iteF (last (Keep.refl l H1) st1 rfl))
    | list ds =>
      have es : isaN "str" (PyData.list ds) = false := isa_str
      have ei : isaN "int" (PyData.list ds) = false := isa_int
      rw [isa_tuple]
      refine iteF (iteF ⟨v, rfl, rfl, _, hd1.up (hid_same l H1), _, rfl, ?_⟩)
      rw [isa_tuple]
      refine iteF (iteF ⟨v, rfl, rfl, _, hd1.up (hid_same l H1), _, rfl, ?_⟩)
      rw [es]
      refine iteF (iteF ⟨v, rfl, rfl, _, hd1.up (hid_same l H1), _, rfl, ?_⟩)
      rw [ei]
      exact iteF (iteF (last (Keep.refl l H1) st1 rfl))
    | dict ks => cases hg.p
theorem ok_mu {f fD fA : Addr} {fd fdD fdA : FuncData} (B : Bl mg) (D : Df K mg "_law_mutated" sMu ["stream", "value", "deep"] f fd) (DD : Df K mg "_law_draw" sDraw ["stream", "total"] fD fdD) (DA : Df K mg "_law_any_value" sAV ["stream"] fA fdA) : ∀ n, FnOk P w K mg base CX0 (3 + n) f fd ["stream", "value", "deep"] (spMu n)
  | 0 => ok_mu1 (k := 2) (sp' := fun _ _ _ _ => False) B D DD DA ((ok_draw B DD).mono (by decide)) (ok_av B DA DD) (D.F.ok scMu (fun _ _ _ _ h => h.elim) fun _ _ _ _ _ _ _ _ _ h => h.elim) (fun m e => by cases e)
  | n + 1 => ok_mu1 (k := 3 + n) (sp' := spMu n) B D DD DA ((ok_draw B DD).mono (by omega)) ((ok_av B DA DD).mono (by omega)) (ok_mu B D DD DA n) (fun j e vs H Q E h => by cases e; exact h)
end
end R1

set_option maxRecDepth 100000
set_option maxHeartbeats 2000000
namespace R1
open PySem PySem.Spec PyProof.Rows L2 KX
abbrev sVa : Stmt := topS 25
theorem sl_same {K : PySem.W.Frag} {H : Hp} {ds : List PyData} {Q : VK} {lo hi : Option Int} {v : V} (hd : Dx H v (.tuple ds)) (q : ∀ H' p, Same H H' → Dx H' (.ref p) (.tuple (KX.cutD ds lo hi)) → Q (.ref p) H') : rSlA K v lo hi H Q := by
  cases hd with
  | @tup a xs _ ea h =>
    refine ⟨a, xs, rfl, .inl (.inl ea), fun hw => q H a (Same.refl H) ?_, fun _ p np => q _ p (same_new np) (.tup upd_same ((dxs_cut h lo hi).up (same_new np)))⟩
    have : KX.cutD ds lo hi = ds := by
      unfold KX.cutD
      rw [← h.len, hw.1, hw.2, List.drop_zero, Nat.sub_zero, List.take_of_length_le (by rw [h.len]; exact Nat.le_refl _)]
    rw [this]
    exact .tup ea h
def intD : PyData → Bool
  | .int _ => true
  | _ => false
theorem dp_bools {K : PySem.W.Frag} {H : Hp} : ∀ (bs : List Bool), DpAll K H (bs.map V.bl) (bs.map PyData.bool)
  | [] => .nil
  | b :: bs => .cons (.bl b) (dp_bools bs)
theorem pl_bools : ∀ bs : List Bool, PyData.plainAll (bs.map PyData.bool) = true ∧ PyData.depthAll (bs.map PyData.bool) = 0
  | [] => ⟨rfl, by simp [PyData.depthAll]⟩
  | b :: bs => by
    obtain ⟨h1, h2⟩ := pl_bools bs
    exact ⟨by simp [PyData.plainAll, PyData.plain, h1], by simp [PyData.depthAll, PyData.depth, h2]⟩
theorem in_cmp (x : Str) : inV (.str x) [.str "ge", .str "le", .str "eq"] = isCmp (.str x) := by
  have e : ∀ y : Str, eqV (.str y) (.str x) = isSt y (.str x) := fun y => by
    show (y == x) = decide (x = y)
    by_cases h : x = y
    · subst h; simp
    · rw [decide_eq_false h]; simpa using fun z : y = x => h z.symm
  unfold inV isCmp
  simp only [List.any_cons, List.any_nil, e]
theorem in_con (x : Str) : inV (.str x) [.str "and", .str "or"] = isCon (.str x) := by
  have e : ∀ y : Str, eqV (.str y) (.str x) = isSt y (.str x) := fun y => by
    show (y == x) = decide (x = y)
    by_cases h : x = y
    · subst h; simp
    · rw [decide_eq_false h]; simpa using fun z : y = x => h z.symm
  unfold inV isCon
  simp only [List.any_cons, List.any_nil, e]
theorem in_false : ∀ bs : List Bool, inV (.bl false) (bs.map V.bl) = !bs.all id
  | [] => rfl
  | b :: bs => by
    have ih := in_false bs
    unfold inV at ih ⊢
    rw [List.map_cons, List.any_cons, ih, List.all_cons]
    cases b <;> rfl
theorem flat_bools (bs : List Bool) : (bs.map V.bl).all flatV = true := by
  rw [List.all_eq_true]
  intro x hx
  obtain ⟨k, _, rfl⟩ := List.mem_map.mp hx
  rfl
theorem con_no {w : Int} {m : Nat} {x : PyData} {ds : List PyData} (h1 : isCmp x = false) (h2 : isSt "not" x = false) (h3 : isCon x = false) : conD w (m + 1) (.tuple (x :: ds)) = false := by
  match ds with
  | [] => simp [conD]
  | [e] => rw [con_two, h2, if_neg (by decide), h3]; rfl
  | [b, c] =>
    rw [con_three]
    unfold cmp3
    rw [h1]
    rfl
  | _ :: _ :: _ :: _ => simp [conD]
theorem con_long {w : Int} {m : Nat} {x : PyData} {ds : List PyData} (h1 : isCmp x = false) (h : ds.length ≠ 1) : conD w (m + 1) (.tuple (x :: ds)) = false := by
  match ds, h with
  | [], _ => simp [conD]
  | [b, c], _ =>
    rw [con_three]
    unfold cmp3
    rw [h1]
    rfl
  | _ :: _ :: _ :: _, _ => simp [conD]
  | [e], h => simp at h
theorem cmp_other {s : Str} (h : isCmp (.str s) = true) : isSt "not" (.str s) = false ∧ isCon (.str s) = false := by
  unfold isCmp at h
  simp only [List.any_cons, List.any_nil, Bool.or_false, Bool.or_eq_true] at h
  rcases h with h | h | h <;> rw [isSt_is h] <;> exact ⟨by decide +kernel, by decide +kernel⟩
theorem not_con {s : Str} (h : s = "not") : isCon (.str s) = false := by subst h; decide +kernel
theorem eqv_tt : ∀ bs : List Bool, PyData.eqv (.list (bs.map .bool)) (.list [.bool true, .bool true]) = decide (bs = [true, true])
  | [] => by simp [PyData.eqv, PyData.eqvAll]
  | [a] => by cases a <;> simp [PyData.eqv, PyData.eqvAll]
  | [a, b] => by cases a <;> cases b <;> simp [PyData.eqv, PyData.eqvAll]
  | a :: b :: c :: l => by cases a <;> cases b <;> simp [PyData.eqv, PyData.eqvAll]
theorem no_int {lo hi : Int} {d : PyData} (h : intD d = false) : betw lo hi d = false := by
  cases d with
  | int i => cases h
  | _ => rfl
theorem in_234 (n : Nat) : inV (.int (n : Int)) [.int 2, .int 3, .int 4] = (decide (2 ≤ (n : Int)) && decide ((n : Int) ≤ 4)) := by
  have e : inV (.int (n : Int)) [.int 2, .int 3, .int 4] = ((2 : Int) == (n : Int) || ((3 : Int) == (n : Int) || ((4 : Int) == (n : Int) || false))) := rfl
  rw [e]
  by_cases h2 : (n : Int) = 2
  · rw [h2]; rfl
  · by_cases h3 : (n : Int) = 3
    · rw [h3]; rfl
    · by_cases h4 : (n : Int) = 4
      · rw [h4]; rfl
      · have : ¬ (2 ≤ (n : Int) ∧ (n : Int) ≤ 4) := by omega
        have z : (decide (2 ≤ (n : Int)) && decide ((n : Int) ≤ 4)) = false := by
          rw [Bool.and_eq_false_iff]
          by_cases h : 2 ≤ (n : Int)
          · exact .inr (decide_eq_false fun z => this ⟨h, z⟩)
          · exact .inl (decide_eq_false h)
        rw [z]
        have a2 : ((2 : Int) == (n : Int)) = false := by simpa using fun z : (2 : Int) = n => h2 z.symm
        have a3 : ((3 : Int) == (n : Int)) = false := by simpa using fun z : (3 : Int) = n => h3 z.symm
        have a4 : ((4 : Int) == (n : Int)) = false := by simpa using fun z : (4 : Int) = n => h4 z.symm
        rw [a2, a3, a4]
        rfl
theorem con_kinds {w : Int} {m : Nat} {y : Str} {ds : List PyData} (h1 : isCmp (.str y) = true) (h : ds.map intD ≠ [true, true]) : conD w (m + 1) (.tuple (.str y :: ds)) = false := by
  obtain ⟨c1, c2⟩ := cmp_other h1
  match ds, h with
  | [], _ => simp [conD]
  | [e], _ => rw [con_two, c1, if_neg (by decide), c2]; rfl
  | [b, c], h =>
    rw [con_three]
    unfold cmp3
    cases eb : intD b with
    | false => rw [no_int eb, Bool.and_false]; rfl
    | true =>
      cases ec : intD c with
      | false => rw [no_int ec, Bool.and_false]
      | true => exact (h (by simp [eb, ec])).elim
  | _ :: _ :: _ :: _, _ => simp [conD]
theorem kinds_is {ds : List PyData} (h : ds.map intD = [true, true]) : ∃ j k, ds = [.int j, .int k] := by
  match ds, h with
  | [], h => simp at h
  | [_], h => simp at h
  | _ :: _ :: _ :: _, h => simp at h
  | [b, c], h =>
    simp only [List.map_cons, List.map_nil, List.cons.injEq] at h
    obtain ⟨h1, h2, _⟩ := h
    cases b <;> first | cases h1 | skip
    cases c <;> first | cases h2 | skip
    exact ⟨_, _, rfl⟩
theorem abs_betw (k : Int) : decide ((if k < 0 then -k else k) ≤ 10 ^ (9 : Int).toNat) = betw (-1000000000) 1000000000 (.int k) := by
  have e : betw (-1000000000) 1000000000 (.int k) = (decide (-1000000000 ≤ k) && decide (k ≤ 1000000000)) := rfl
  have e9 : (10 : Int) ^ (9 : Int).toNat = 1000000000 := by decide
  rw [e, e9]
  by_cases h0 : k < 0
  · rw [if_pos h0]
    by_cases h : -k ≤ 1000000000
    · rw [decide_eq_true h, decide_eq_true (by omega), decide_eq_true (by omega)]; rfl
    · rw [decide_eq_false h, decide_eq_false (show ¬ -1000000000 ≤ k by omega)]; rfl
  · rw [if_neg h0]
    by_cases h : k ≤ 1000000000
    · rw [decide_eq_true h, decide_eq_true (by omega)]; rfl
    · rw [decide_eq_false h, Bool.and_false]
/-! ### the law's own check -/
def spVa (n : Nat) : Sp := fun vs H Q _ => ∃ v d w, vs = [.int w, v, .int (n : Int)] ∧ Dx H v d ∧ wt d ≤ 1000 ∧ ∀ H', Same H H' → Q (.bl (conD w n d)) H'
theorem scVa : FnScope ["width", "value", "deep", "parts", "kinds", "part"] ["width", "value", "deep"] (defScope sVa) := ⟨rfl, rfl, rfl, by decide +kernel, rfl, by decide +kernel, by decide +kernel⟩
section
variable {P : Program} {w : World} {K : PySem.W.Frag} {mg : Str → Option Value} {base : Heap}
theorem ok_va1 {k n : Nat} {sp' : Sp} {f : Addr} {fd : FuncData} (B : Bl mg) (D : Df K mg "_law_is_valid" sVa ["width", "value", "deep"] f fd)
    (GS : FnOk P w K mg base CX0 k f fd ["width", "value", "deep"] sp') (hs : ∀ m, n = m + 1 → ∀ vs H Q E, spVa m vs H Q E → sp' vs H Q E) : FnOk P w K mg base CX0 (k + 1) f fd ["width", "value", "deep"] (spVa n) := by
  refine D.F.ok scVa (fun vs H Q E h => ?_) (fun cdv A outer s H vs Q E hr h => ?_)
  · obtain ⟨v, d, w', rfl, _⟩ := h
    rfl
  · obtain ⟨v, d, w', rfl, hd, wd, q⟩ := h
    have nd := scVa.nd
    refine ⟨_, pss_cons (ps_if (PW.pt (pw_or (pt_cmpR op_eq (pv 2) pe_int (nomark _)) (pw_or (pt_not (pt_val (pe_isD (T := "tuple") (x := "tuple") (by decide +kernel) B.isi B.tuple (by decide +kernel) (pv 1) (by rfl) (by rfl))))
        (pw_or (pt_cmpR (op_eq0 hr.units0) (pv 1) (pe_tup pa_nil) (nomark _)) (pw_or1 (pt_not (pt_val (pe_isD (T := "str") (x := "str") (by decide +kernel) B.isi B.str (by decide +kernel) (pe_ix ix_tup (pv 1) pe_int (fun _ _ => rfl)) (by rfl) (by rfl))))))))) (pss_one (ps_ret pe_bl)) pss_nil)
      (pss_cons (ps_set (i := 3) nd rfl (.inl rfl) (pe_slice sl_tupA (pv 1) (po_some pe_int) po_none))
      (pss_cons (ps_if (pt_cmpR op_in_seq (pe_ix ix_tup (pv 1) pe_int (fun _ _ => rfl)) (pe_lst (pa_cons pe_str (pa_cons pe_str (pa_cons pe_str pa_nil)))) (by rfl))
        (pss_cons (ps_setLc (i := 4) (own := [("part", 5)]) (g := gName 5) rfl nd rfl rfl (sw_true rfl rfl rfl (by decide +kernel)) (pi_tup (pv 3)) (blkOk_by (N := ["width", "value", "deep", "parts", "kinds", "part"]) (sc := defScope sVa) (by decide +kernel))
            (fun _ _ _ _ _ => pg_name (i := 5) nd rfl (Or.inl rfl)) (fun _ _ _ _ _ => pts_nil)
            (fun _ _ _ _ _ => pe_and (pe_isD (T := "int") (x := "int") (by decide +kernel) B.isi B.int (by decide +kernel) (pv 5) (by rfl) (by rfl)) (pe_one (pe_not (pe_isD (T := "bool") (x := "bool") (by decide +kernel) B.isi B.bool (by decide +kernel) (pv 5) (by rfl) (by rfl))))))
        (pss_one (ps_ret (pe_and (pe_cmpR (op_eqP hr.units) (pv 4) (pe_lst (pa_cons pe_bl (pa_cons pe_bl pa_nil))) (nomark _))
          (pe_and (pe_chain op_le op_lt pe_int (pe_ix ix_tup (pv 3) pe_int (fun _ _ => rfl)) (pv 0))
          (pe_one (pe_cmpR op_le (pe_callB call_abs (by rfl) B.abs (by decide +kernel) (pa_cons (pe_ix ix_tup (pv 3) pe_int (fun _ _ => rfl)) pa_nil)) (pe_op op_pow pe_int pe_int) (nomark _))))))) ) pss_nil)
      (pss_cons (ps_if (pt_cmpR op_ne (pe_callB call_len_seq (by rfl) B.len PySem.boot_len (pa_cons (pv 3) pa_nil)) pe_int (nomark _)) (pss_one (ps_ret pe_bl)) pss_nil)
      (pss_cons (ps_if (pt_cmpR op_eq (pe_ix ix_tup (pv 1) pe_int (fun _ _ => rfl)) pe_str (nomark _)) (pss_one (ps_ret (pe_call GS hr (by rfl) D.g D.F.kp D.b .nil pass0 (pa_cons (pv 0) (pa_cons (pe_ix ix_tup (pv 3) pe_int (fun _ _ => rfl)) (pa_cons (pe_op op_sub (pv 2) pe_int) pa_nil)))))) pss_nil)
      (pss_cons (ps_if (PW.pt (pw_or (pt_cmpR op_notIn_seq (pe_ix ix_tup (pv 1) pe_int (fun _ _ => rfl)) (pe_lst (pa_cons pe_str (pa_cons pe_str pa_nil))) (by rfl)) (pw_or1 (pt_not (pt_val (pe_isD (T := "tuple") (x := "tuple") (by decide +kernel) B.isi B.tuple (by decide +kernel) (pe_ix ix_tup (pv 3) pe_int (fun _ _ => rfl)) (by rfl) (by rfl))))))) (pss_one (ps_ret pe_bl)) pss_nil)
      (pss_cons (ps_if (pt_cmpR op_notIn_seq (pe_callB call_len_seq (by rfl) B.len PySem.boot_len (pa_cons (pe_ix ix_tup (pv 3) pe_int (fun _ _ => rfl)) pa_nil)) (pe_lst (pa_cons pe_int (pa_cons pe_int (pa_cons pe_int pa_nil)))) (by rfl)) (pss_one (ps_ret pe_bl)) pss_nil)
      (pss_one (ps_ret (pe_cmpR op_notIn_seq pe_bl (pe_lc (own := [("part", 5)]) (g := gName 5) rfl nd (pi_tup (pe_ix ix_tup (pv 3) pe_int (fun _ _ => rfl))) (blkOk_by (N := ["width", "value", "deep", "parts", "kinds", "part"]) (sc := defScope sVa) (by decide +kernel))
            (fun _ _ _ _ _ => pg_name (i := 5) nd rfl (Or.inl rfl)) (fun _ _ _ _ _ => pts_nil)
            (fun _ _ _ _ _ => pe_call GS hr (by rfl) D.g D.F.kp D.b .nil pass0 (pa_cons (pv 0) (pa_cons (pv 5) (pa_cons (pe_op op_sub (pv 2) pe_int) pa_nil))))) (by rfl)))))))))), ?_⟩
    refine ⟨.int (n : Int), rfl, rfl, _, rfl, ?_⟩
    rw [dec_int]
    cases n with
    | zero =>
      rw [decide_eq_true (by rfl)]
      exact iteT (iteT (q H (Same.refl H)))
    | succ m =>
      rw [decide_eq_false (by omega)]
      have pre : ((m + 1 : Nat) : Int) - 1 = (m : Int) := by omega
      refine iteF ⟨v, rfl, rfl, d, hd, _, rfl, ?_⟩
      rw [isa_tuple]
      cases d with
      | tuple ds =>
        cases hd with
        | @tup a xs _ ea h =>
        refine iteF ⟨.ref a, rfl, by show 0 ≤ sizeLine; decide, fun p np => ⟨a, p, xs, rfl, rfl, .inl (.inl (same_new np _ _ ea)), .inl (.inl upd_same), _, rfl, ?_⟩⟩
        have s1 : Same H (upd H p (.tup [])) := same_new np
        match xs, ds, h, ea, wd, q with
        | [], [], .nil, ea, wd, q =>
          have := q _ s1
          rw [show conD w' (m + 1) (.tuple []) = false by simp [conD]] at this
          exact iteT (iteT this)
        | vx :: xs, x :: ds, .cons hx h, ea, wd, q =>
        have no : conD w' (m + 1) (.tuple (x :: ds)) = false → ∀ G, Same H G → Q (.bl false) G := fun z G s => by
          have := q G s
          rwa [z] at this
        refine iteF ⟨.ref a, rfl, a, _, 0, vx, rfl, rfl, .inl (.inl (s1 _ _ ea)), atI_nat (j := 0) rfl, rfl, x, hx.up s1, _, rfl, ?_⟩
        rw [isa_str]
        cases x with
        | str y =>
          cases hx
          refine iteF ?_
          have hd1 : Dx (upd H p (.tup [])) (.ref a) (.tuple (.str y :: ds)) := .tup (s1 _ _ ea) (.cons (.str y) (h.up s1))
          refine ⟨.ref a, rfl, 1, rfl, ?_⟩
          refine (show ∀ {σ : L2.St} {H : Hp} {Q : Option Int → Hp → Prop}, Q none H → tNoPart σ H Q from fun h => h) (sl_same hd1 fun H2 pp s2 dp => ?_)
          rw [show (1 : Int) = ((1 : Nat) : Int) from rfl, cutD_from, List.drop_one, List.tail_cons] at dp
          have s02 := s1.trans s2
          have ea2 := s02 _ _ ea
          cases dp with
          | @tup _ ps _ ep hp =>
          have lps := hp.len
          have lds : ds.length ≤ 1000 := by
            have h1 := len_wt ds
            have h2 : wt (.tuple (.str y :: ds)) = wtAll (.str y :: ds) + 1 := by simp [wt]
            have h3 : wtAll (.str y :: ds) = wt (.str y) + wtAll ds := by simp [wtAll]
            omega
          have big : (1001 : Nat) < sizeLine := by decide
          refine ⟨.ref a, rfl, a, _, 0, .str y, rfl, rfl, .inl (.inl ea2), atI_nat (j := 0) rfl, by show 3 ≤ sizeLine; decide, fun p2 np2 => ⟨p2, _, rfl, .inl (.inl (.inl upd_same)), rfl, rfl, _, rfl, ?_⟩⟩
          have s3 : Same H (upd H2 p2 (.lst [.str "ge", .str "le", .str "eq"])) := s02.trans (same_new np2)
          have ea3 := s3 _ _ ea
          have ep3 := same_new (o := .lst [.str "ge", .str "le", .str "eq"]) np2 _ _ ep
          have hp3 := hp.up (same_new (o := .lst [.str "ge", .str "le", .str "eq"]) np2)
          rw [if_neg (by decide), in_cmp]
          generalize (upd H2 p2 (.lst [.str "ge", .str "le", .str "eq"])) = H3 at *
          cases ec : isCmp (.str y) with
          | true =>
            refine iteT ?_
            -- kinds
            refine ⟨.ref pp, rfl, pp, rfl, ⟨_, .inl (.inl ep3)⟩, fun L nL => ?_⟩
            refine lc_tup (xs := ps) (fun i G => Same H3 G ∧ G L = some (.lst (((ds.take i).map intD).map V.bl))) ⟨same_new nL, upd_same⟩ (fun i G _ hG => .inl (.inl (hG.1 _ _ ep3))) (fun i x1 G hx1 hG => ?_) (fun G hG => ?_)
            · obtain ⟨d1, ed, hd1⟩ := hp3.get' hx1
              have hdG := hd1.up hG.1
              have fin : ∃ acc, G L = some (.lst acc) ∧ acc.length < sizeLine ∧ (Same H3 (upd G L (.lst (acc ++ [.bl (intD d1)]))) ∧ (upd G L (.lst (acc ++ [.bl (intD d1)]))) L = some (.lst (((ds.take (i + 1)).map intD).map V.bl))) := by
                refine ⟨_, hG.2, ?_, same_at hG.1 nL, ?_⟩
                · rw [List.length_map, List.length_map, List.length_take]
                  omega
                · rw [upd_same, List.take_add_one, ed]
                  simp
              refine ⟨rfl, x1, rfl, rfl, d1, hdG, _, rfl, ?_⟩
              rw [isa_int]
              cases d1 with
              | int k => exact iteT ⟨x1, rfl, rfl, _, hdG, _, rfl, by rw [isa_bool]; exact fin⟩
              | bool b => exact iteT ⟨x1, rfl, rfl, _, hdG, _, rfl, by rw [isa_bool]; exact fin⟩
              | _ => exact iteF fin
            · obtain ⟨sG, eL⟩ := hG
              rw [List.take_of_length_le (show ds.length ≤ ps.length by omega)] at eL
              have sHG := s3.trans sG
              refine ⟨.ref L, rfl, by show 2 ≤ sizeLine; decide, fun p3 np3 => ⟨.list ((ds.map intD).map .bool), .list [.bool true, .bool true], .lst (.inl (.inl (same_new np3 _ _ eL))) (dp_bools _), .lst (.inl (.inl upd_same)) (.cons (.bl _) (.cons (.bl _) .nil)), ?_, by decide, ?_, _, rfl, ?_⟩⟩
              · have := (pl_bools (ds.map intD)).1
                simpa [PyData.plain] using this
              · have : (PyData.list [.bool true, .bool true]).depth ≤ 64 := by decide
                omega
              have sG3 := sHG.trans (same_new (o := .lst [.bl true, .bl true]) np3)
              have epG := same_new (o := .lst [.bl true, .bl true]) np3 _ _ (sG _ _ ep3)
              refine ite2 (fun t => ?_) fun t => ?_
              · have t2 : ds.map intD = [true, true] := of_decide_eq_true ((eqv_tt _).symm.trans t)
                obtain ⟨j, k, rfl⟩ := kinds_is t2
                cases hp with
                | @cons vj _ _ _ hj hp =>
                cases hp with
                | @cons vk _ _ _ hk hp =>
                cases hp
                cases hj
                cases hk
                have z := q _ sG3
                rw [con_three] at z
                unfold cmp3 at z
                rw [ec, Bool.true_and, show betw 0 (w' - 1) (.int j) = (decide (0 ≤ j) && decide (j ≤ w' - 1)) from rfl, ← abs_betw] at z
                refine ⟨.ref pp, rfl, pp, _, 0, .int j, rfl, rfl, .inl (.inl epG), atI_nat (j := 0) rfl, 0, j, rfl, rfl, _, rfl, ?_⟩
                by_cases j0 : 0 ≤ j
                · rw [decide_eq_true j0] at z ⊢
                  refine iteT ⟨.int w', rfl, j, w', rfl, rfl, _, rfl, ?_⟩
                  by_cases j1 : j < w'
                  · rw [decide_eq_true (show j ≤ w' - 1 by omega)] at z
                    rw [decide_eq_true j1]
                    exact iteT ⟨.ref pp, rfl, pp, _, 1, .int k, rfl, rfl, .inl (.inl epG), atI_nat (j := 1) rfl, k, rfl, 10, 9, rfl, rfl, ⟨by decide, by decide, by decide⟩, _, _, rfl, rfl, z⟩
                  · rw [decide_eq_false (show ¬ j ≤ w' - 1 by omega)] at z
                    rw [decide_eq_false j1]
                    exact iteF z
                · rw [decide_eq_false j0] at z ⊢
                  exact iteF ⟨_, rfl, iteF z⟩
              · exact no (con_kinds ec fun e => t ((eqv_tt _).trans (decide_eq_true e))) _ sG3
          | false =>
            refine iteF ?_
            refine ⟨.ref pp, rfl, pp, ps, rfl, .inr (.inl (.inl ep3)), rfl, _, rfl, ?_⟩
            by_cases l1 : ds.length = 1
            · obtain ⟨e, rfl⟩ := List.length_eq_one_iff.mp l1
              cases hp3 with
              | @cons ve _ _ _ he hp4 =>
              cases hp4
              refine ite2 (fun z => absurd z (by rw [show (([ve] : List V).length : Int) = 1 from rfl]; simp)) fun _ => ?_
              refine ⟨.ref a, rfl, a, _, 0, .str y, rfl, rfl, .inl (.inl ea3), atI_nat (j := 0) rfl, rfl, _, rfl, ?_⟩
              rw [dec_str]
              rw [con_two] at q no
              by_cases hn : y = "not"
              · rw [decide_eq_true hn]
                rw [show isSt "not" (.str y) = true from decide_eq_true hn, if_pos rfl] at q
                refine iteT ⟨.int w', rfl, .ref pp, rfl, pp, _, 0, ve, rfl, rfl, .inl (.inl ep3), atI_nat (j := 0) rfl, .int ((m + 1 : Nat) : Int), rfl, _, 1, rfl, rfl, ?_⟩
                refine hs m rfl _ _ _ _ ⟨ve, e, w', ?_, he, ?_, fun H1 s1 => q H1 (s3.trans s1)⟩
                · show [V.int w', ve, V.int (((m + 1 : Nat) : Int) - 1)] = _
                  rw [pre]
                · have h2 : wt (.tuple [.str y, e]) = wt (.str y) + wt e + 1 := by simp [wt, wtAll]
                  omega
              · rw [decide_eq_false hn]
                rw [show isSt "not" (.str y) = false from decide_eq_false hn, if_neg (by decide)] at q no
                refine iteF ⟨.ref a, rfl, a, _, 0, .str y, rfl, rfl, .inl (.inl ea3), atI_nat (j := 0) rfl, by show 2 ≤ sizeLine; decide, fun p4 np4 => ⟨p4, _, rfl, .inl (.inl (.inl upd_same)), rfl, rfl, _, rfl, ?_⟩⟩
                have s4 := s3.trans (same_new (o := .lst [.str "and", .str "or"]) np4)
                have ep4 := same_new (o := .lst [.str "and", .str "or"]) np4 _ _ ep3
                have he4 := he.up (same_new (o := .lst [.str "and", .str "or"]) np4)
                rw [if_pos rfl, in_con]
                generalize (upd H3 p4 (.lst [.str "and", .str "or"])) = H4 at *
                cases eo : isCon (.str y) with
                | false => exact iteT (iteT (no (by rw [eo]; rfl) _ s4))
                | true =>
                  rw [eo, Bool.true_and] at q no
                  refine iteF ⟨.ref pp, rfl, pp, _, 0, ve, rfl, rfl, .inl (.inl ep4), atI_nat (j := 0) rfl, rfl, e, he4, _, rfl, ?_⟩
                  rw [isa_tuple]
                  cases e with
                  | tuple es =>
                    cases he4 with
                    | @tup b bs _ eb hb =>
                    have lbs := hb.len
                    refine iteF ⟨.ref pp, rfl, pp, _, 0, .ref b, rfl, rfl, .inl (.inl ep4), atI_nat (j := 0) rfl, b, bs, rfl, .inr (.inl (.inl eb)), by show 3 ≤ sizeLine; decide, fun p5 np5 => ⟨p5, _, rfl, .inl (.inl (.inl upd_same)), rfl, rfl, _, rfl, ?_⟩⟩
                    have s5 := s4.trans (same_new (o := .lst [.int 2, .int 3, .int 4]) np5)
                    have ep5 := same_new (o := .lst [.int 2, .int 3, .int 4]) np5 _ _ ep4
                    have eb5 := same_new (o := .lst [.int 2, .int 3, .int 4]) np5 _ _ eb
                    have hb5 := hb.up (same_new (o := .lst [.int 2, .int 3, .int 4]) np5)
                    rw [if_pos rfl, in_234, lbs]
                    rw [tupB24] at q no
                    generalize (upd H4 p5 (.lst [.int 2, .int 3, .int 4])) = H5 at *
                    cases e4 : (decide (2 ≤ (es.length : Int)) && decide ((es.length : Int) ≤ 4)) with
                    | false => exact iteT (no (by rw [e4]; rfl) _ s5)
                    | true =>
                      rw [e4, Bool.true_and] at q
                      have les : es.length ≤ 4 := by
                        rw [Bool.and_eq_true] at e4
                        have := of_decide_eq_true e4.2
                        omega
                      refine iteF ⟨.ref pp, rfl, pp, _, 0, .ref b, rfl, rfl, .inl (.inl ep5), atI_nat (j := 0) rfl, b, rfl, ⟨_, .inl (.inl eb5)⟩, fun L nL => ?_⟩
                      refine lc_tup (xs := bs) (fun i G => Same H5 G ∧ G L = some (.lst (((es.take i).map (conD w' m)).map V.bl))) ⟨same_new nL, upd_same⟩ (fun i G _ hG => .inl (.inl (hG.1 _ _ eb5))) (fun i x1 G hx1 hG => ?_) (fun G hG => ?_)
                      · obtain ⟨d1, ed, hd1⟩ := hb5.get' hx1
                        refine ⟨rfl, .int w', rfl, x1, rfl, .int ((m + 1 : Nat) : Int), rfl, ((m + 1 : Nat) : Int), 1, rfl, rfl, ?_⟩
                        refine hs m rfl _ _ _ _ ⟨x1, d1, w', ?_, hd1.up hG.1, ?_, fun G1 s1 => ⟨_, s1 _ _ hG.2, ?_, same_at (hG.1.trans s1) nL, ?_⟩⟩
                        · show [V.int w', x1, V.int (((m + 1 : Nat) : Int) - 1)] = _
                          rw [pre]
                        · have h2 : wt (.tuple [.str y, .tuple es]) = wt (.str y) + (wtAll es + 1) + 1 := by simp [wt, wtAll]
                          have h3 := wt_mem (List.mem_of_getElem? ed)
                          omega
                        · rw [List.length_map, List.length_map, List.length_take]
                          omega
                        · rw [upd_same, List.take_add_one, ed]
                          simp
                      · obtain ⟨sG, eL⟩ := hG
                        rw [List.take_of_length_le (show es.length ≤ bs.length by omega)] at eL
                        refine ⟨L, _, rfl, .inl (.inl (.inl eL)), rfl, flat_bools _, ?_⟩
                        rw [if_pos rfl, in_false, Bool.not_not]
                        have e5 : (es.map (conD w' m)).all id = es.all (conD w' m) := by rw [List.all_map]; rfl
                        rw [e5]
                        exact q G (s5.trans sG)
                  | _ => exact iteT (no rfl _ s4)
            · exact ite2 (fun _ => no (con_long ec l1) _ s3) fun z => absurd (by rw [lps]; exact (by simpa using fun h : (ds.length : Int) = 1 => l1 (by omega))) z
        | _ => exact iteT (no (con_no rfl rfl rfl) _ s1)
      | _ => exact iteT (iteT (by have := q H (Same.refl H); rwa [con_not rfl] at this))
theorem ok_va {f : Addr} {fd : FuncData} (B : Bl mg) (D : Df K mg "_law_is_valid" sVa ["width", "value", "deep"] f fd) : ∀ n, FnOk P w K mg base CX0 (2 + n) f fd ["width", "value", "deep"] (spVa n)
  | 0 => ok_va1 (k := 1) (sp' := fun _ _ _ _ => False) B D (D.F.ok scVa (fun _ _ _ _ h => h.elim) fun _ _ _ _ _ _ _ _ _ h => h.elim) (fun m e => by cases e)
  | n + 1 => ok_va1 (k := 2 + n) (sp' := spVa n) B D (ok_va B D n) (fun m e vs H Q E h => by cases e; exact h)
end
end R1

set_option maxRecDepth 100000
set_option maxHeartbeats 2000000
namespace R1
open PySem PySem.Spec PyProof.Rows L2 KX
abbrev sRj : Stmt := topS 24
section
variable {X : Cx}
theorem call_reprU (hu : X.A.units + 200 < cLine) (hg : X.A.guards = some []) : CallR X (.builtin "repr") rReprD := by
  intro pins s σ H xs us Q I r h
  obtain ⟨x, d, e, hd, hs, hdp, hz, q⟩ := h
  subst e
  obtain ⟨u, rfl, rx⟩ := vals1 r
  obtain ⟨as, hrd, hn⟩ := Dx.reads I d x u hd rx
  have fin : ∀ h' u' tk, (∀ b o, s.heap.get? b = some o → h'.get? b = some o) → EP X pins σ Q (.str d.shown u') { s with heap := h', toks := tk } := fun h' u' tk hk =>
    ⟨.str d.shown, H, I.kept (t' := tk) hk, ⟨_, rfl⟩, q⟩
  cases hd with
  | non =>
    cases (show u = Value.none from rx)
    simp only [PyData.shown] at fin
    exact PySem.P.repr_of_none (fin _ _ _ fun _ _ e => e)
  | bl b =>
    cases (show u = Value.bool b from rx)
    simp only [PyData.shown] at fin
    exact PySem.P.repr_of_bool (fin _ _ _ fun _ _ e => e)
  | int i =>
    obtain ⟨t, z⟩ := (show ∃ t, u = Value.int i t from rx)
    cases z
    simp only [PyData.shown] at fin
    exact PySem.P.repr_of_int (by simpa [PyData.showable] using hs) (fin _ _ _ fun _ _ e => e)
  | str y =>
    obtain ⟨t, z⟩ := (show ∃ t, u = Value.str y t from rx)
    cases z
    simp only [PyData.shown] at fin hz
    exact PySem.P.repr_of_str (fin _ _ _ fun _ _ e => e) hz
  | lst e n h =>
    cases (show u = Value.ref _ from rx)
    exact repr_of_reads' hrd hs (fun _ => hn) hg (by omega) (fun _ _ e => e) fin hz
  | tup e h =>
    cases (show u = Value.ref _ from rx)
    exact repr_of_reads' hrd hs (fun _ => hn) hg (by omega) (fun _ _ e => e) fin hz
  | dic e =>
    cases (show u = Value.ref _ from rx)
    exact repr_of_reads' hrd hs (fun _ => hn) hg (by omega) (fun _ _ e => e) fin hz
  | dic1 e =>
    cases (show u = Value.ref _ from rx)
    exact repr_of_reads' hrd hs (fun _ => hn) hg (by omega) (fun _ _ e => e) fin hz
end
/-! ### _law_rejects_width -/
structure BadOk (d : PyData) : Prop where
  b : betw 1 4 d = false
  g : Good (10 ^ 40) 20 d
theorem scRj : FnScope ["stream", "call", "invalid", "e"] ["stream", "call"] (defScope sRj) := ⟨rfl, rfl, rfl, by decide +kernel, rfl, by decide +kernel, by decide +kernel⟩
/-- what it makes of the lambda: a bad value is handed in, InvalidNumber with this value must come back -/
def TTrej (C : Addr) : (XK → V → Hp → VK → Prop) → V → Hp → VK → Prop := fun tl v0 H Q => ∃ l, v0 = .ref l ∧ StO H l ∧ ∀ H1 v d, Keep l H H1 → StO H1 l → Dx H1 v d → BadOk d →
  ∀ E : XK, (∀ dd H2, Same H1 H2 → H2 dd = some (.xd [("value", v)]) → (∀ H3, Same H2 H3 → Q (.bl true) H3) → E (.ref C) (some dd) H2) → ∀ Q' : VK, tl E v H1 Q'
def tSuiteRj (C : Addr) : Addr → Value → Option Addr → TS := fun a cls d =>
  tRet (tOp rEq (tCB rReprD (tCons (tXf a cls d C "value" (tVar 3)) tNil)) (tCB rReprD (tCons (tVar 2) tNil)))
section
variable {X : Cx} {C fI fD g : Addr} {gI fdD : FuncData} {k : Nat} {cdg : Value} {q : Str}
abbrev zRj (X : Cx) (s : Shared) (H : Hp) (g : Addr) (cdg : Value) : Cx := (cxOf C8.CX0 X.prog X.w X.K X.mg X.base ["stream", "call", "invalid", "e"] "_law_rejects_width" (defScope sRj) g cdg X.A X.stack s H C8.E0).nox
theorem rej_gives (B : Bl X.mg) (T : IN X.K X.mg C fI gI) (TS' : PySem.W.subIn X.K (.ref C) (.ref C) = some true) (DD : Df X.K X.mg "_law_draw" sDraw ["stream", "total"] fD fdD) (GDr : FnOk X.prog X.w X.K X.mg X.base CX0 k fD fdD ["stream", "total"] spDraw)
    (hgd : ∀ s : Shared, (X.A.deeper (envOfC "_law_rejects_width" (defScope sRj) s.heap.objs.size g cdg)).guards = some []) :
    GivesTo1 X k ["stream", "call", "invalid", "e"] "_law_rejects_width" (defScope sRj) g cdg (defBody sRj) "call" q (TTrej C) := by
  intro f c' s H v0 Q tl hr act hc h
  obtain ⟨l, rfl, st, h⟩ := h
  have nd := scRj.nd
  have hg := hgd s
  refine ⟨_, pss_cons (ps_set (i := 2) nd rfl (.inl rfl) (pe_ix ix_list (pe_lst (pa_cons pe_int (pa_cons pe_int (pa_cons (pe_un un_neg pe_int) (pa_cons pe_bl (pa_cons pe_non (pa_cons pe_str (pa_cons (pe_tup (pa_cons pe_int pa_nil)) (pa_cons (pe_op op_pow pe_int pe_int) pa_nil)))))))))
        (pe_call (X := zRj X s H g cdg) GDr hr (by rfl) DD.g DD.F.kp DD.b .nil pass0 (pa_cons (pv 0) (pa_cons pe_int pa_nil))) (fun _ _ => rfl)))
    (pss_cons (ps_try_as (X := zRj X s H g cdg) (i := 3) (tb := fun W => tDrop (fun σZ HZ Q => σZ[1]? = some (some (.ref f)) ∧ tVar 2 σZ HZ fun v H1 => H1 c' = some (LamX.CodeO c' q) ∧ tl (fun cls d H' => W cls d σZ H') v H1 Q)) (ts := tSuiteRj C) (Wout := fun _ _ _ _ => False) rfl rfl nd rfl rfl ⟨rfl, by decide, .inl T.g⟩ takes0
        (fun W pn xe tk _ => pss_one (ps_expr (by exact act W pn xe _ _ _ _ tk (pv 2) (fun _ => rfl))))
        (fun a oe cls d pn hz hf => pss_one (ps_ret (by exact pe_cmpR op_eq (pe_callB (call_reprU (by have := hr.un; show X.A.units + 3 + 200 < _; have z : X.A.units + 3 + 16 * k + 200 < cLine := this; omega) hg) (by rfl) B.repr (by decide +kernel) (pa_cons (pe_xf T.i.xf T.no hz hf (pv 3)) pa_nil)) (pe_callB (call_reprU (by have := hr.un; show X.A.units + 3 + 200 < _; have z : X.A.units + 3 + 16 * k + 200 < cLine := this; omega) hg) (by rfl) B.repr (by decide +kernel) (pa_cons (pv 2) pa_nil)) (nomark _)))))
    (pss_one (ps_ret pe_bl))), ?_⟩
  change tSeq (tAsg _ (gName 2)) _ _ ([some (.ref l), some (.ref f), none, none] : L2.St) H
  refine gd_seq (S := BadOk) (P := KX.Env l _ [] []) ?_ st ⟨rfl, alld_nil, allm_nil⟩ fun F4 bv bd hb f4 sF4 xb => ?_
  · have con : ∀ {v : V} {d : PyData}, (∀ H, Dx H v d) → BadOk d → ∀ σ0 : L2.St, GD l (KX.Env l σ0 [] []) BadOk (tC v) := fun {v d} h g σ0 => (gd_c h).imp fun _ e => by subst e; exact g
    have ci : ∀ {k : Int} {t : TE} {σ0 : L2.St}, GI l (KX.Env l σ0 [] []) (· = k) t → BadOk (.int k) → GD l (KX.Env l σ0 [] []) BadOk t := fun {k t σ0} h g => (gd_int h).imp fun d e => by
      obtain ⟨i, rfl, rfl⟩ := e
      exact g
    exact al_ix (n := 8) (m := 8) kp_env
      (al_lst (al_cons kp_env (con (d := .int 0) (fun H => .int 0) ⟨by decide, by decide +kernel, by decide⟩ _) (al_cons kp_env (con (d := .int 5) (fun H => .int 5) ⟨by decide, by decide +kernel, by decide⟩ _)
      (al_cons kp_env (ci (gi_val (n := -1) fun σ H Q q => ⟨_, rfl, q⟩) ⟨by decide, by decide +kernel, by decide⟩) (al_cons kp_env (con (d := .bool true) (fun H => .bl true) ⟨by decide, by decide +kernel, by decide⟩ _)
      (al_cons kp_env (con (d := .none) (fun H => .non) ⟨by decide, by decide +kernel, by decide⟩ _) (al_cons kp_env (con (d := .str "2") (fun H => .str _) ⟨by decide +kernel, by decide +kernel, by decide +kernel⟩ _)
      (al_cons kp_env ((gd_tup (gds_cons kp_env (gd_c (v := .int 1) fun H => .int 1) gds_nil) fun ds z => by obtain ⟨x, y, rfl, rfl, rfl⟩ := z; decide).imp fun d e => by
          obtain ⟨ds, rfl, x, y, rfl, rfl, rfl⟩ := e
          exact ⟨by decide, by decide +kernel, by decide⟩)
      (al_cons kp_env (ci (gi_val (n := 10 ^ (30 : Int).toNat) fun σ H Q q => ⟨10, 30, rfl, rfl, ⟨by decide, by decide, by decide⟩, q⟩) ⟨by decide +kernel, by decide +kernel, by decide +kernel⟩) al_nil)))))))) (by decide))
      (gi_drawS (n := 8) 0 rfl (gi_val fun σ H Q q => q) (by decide) (by decide)) rfl
  have xb0 := xb.up (hid_same l F4)
  obtain ⟨g1, g2, g3⟩ := hb.g.show (by decide) (by decide)
  have cl : c' ≠ l := fun z => by
    obtain ⟨x, y, w, e⟩ := st
    rw [z, e] at hc
    unfold LamX.CodeO at hc
    cases hc
  refine ⟨rfl, bv, rfl, f4 _ _ cl hc, h F4 bv bd f4 sF4 xb0 hb _ (fun dd H2 s2 edd fin => ?_) _⟩
  refine ⟨true, PySem.W.exm_ref T.x.sub T.x.hd T.x.ty TS', fun _ a na => ?_, fun z => by cases z⟩
  have l1 : List.lookup ("value" : Str) [(("value" : Str), bv)] = some bv := by simp [List.lookup]
  refine ⟨.ref a, rfl, rfl, rfl, dd, [("value", bv)], bv, rfl, edd, l1, bv, bd, rfl, xb0.up s2, g1, g2, g3, ?_⟩
  refine ⟨bv, rfl, bv, bd, rfl, xb0.up s2, g1, g2, g3, rfl, ?_⟩
  rw [decide_eq_true rfl]
  exact fin H2 (Same.refl H2)
end
end R1

set_option maxRecDepth 100000
set_option maxHeartbeats 2000000
namespace R1
open PySem PySem.Spec PyProof.Rows L2 KX
abbrev sSm : Stmt := topS 26
/-! ### conditions measured -/
structure CW (a b : Nat) (d : PyData) : Prop where
  p : d.plain = true
  f : fine (10 ^ 9) d = true
  w : wt d ≤ a
  h : d.depth ≤ b
structure CWs (a b : Nat) (ds : List PyData) : Prop where
  p : PyData.plainAll ds = true
  f : fineAll (10 ^ 9) ds = true
  w : wtAll ds ≤ a
  h : PyData.depthAll ds ≤ b
theorem CWs.nil : CWs 0 0 [] := ⟨rfl, rfl, by simp [wtAll], by simp [PyData.depthAll]⟩
theorem CWs.cons {a a' b b' : Nat} {d : PyData} {ds : List PyData} (h : CW a b d) (t : CWs a' b' ds) : CWs (a + a') (max b b') (d :: ds) :=
  ⟨by simp [PyData.plainAll, h.p, t.p], by simp [fineAll, h.f, t.f], by have := h.w; have := t.w; simp only [wtAll]; omega, by have := h.h; have := t.h; simp only [PyData.depthAll]; omega⟩
theorem CWs.tup {a b : Nat} {ds : List PyData} (h : CWs a b ds) : CW (a + 1) (b + 1) (.tuple ds) :=
  ⟨by simpa [PyData.plain] using h.p, by simpa [fine] using h.f, by have := h.w; simp only [wt]; omega, by have := h.h; rw [depth_tup]; omega⟩
theorem CW.cons' {a b c : Nat} {x y z : PyData} (h : CW a 0 x) (h2 : CW b 0 y) (h3 : CW c 0 z) : CW (a + (b + (c + 0)) + 1) 1 (.tuple [x, y, z]) := (CWs.cons h (CWs.cons h2 (CWs.cons h3 .nil))).tup
theorem CW.mono {a b a' b' : Nat} {d : PyData} (h : CW a b d) (ha : a ≤ a') (hb : b ≤ b') : CW a' b' d := ⟨h.p, h.f, Nat.le_trans h.w ha, Nat.le_trans h.h hb⟩
theorem cw_str {x : Str} {a : Nat} (h : (x.cps.toList.all fun c => decide (c < 128)) = true) (l : x.length + 1 ≤ a) : CW a 0 (.str x) := ⟨rfl, h, by simpa [wt] using l, by simp [PyData.depth]⟩
theorem cw_int {i : Int} (h : i.natAbs ≤ 10 ^ 9) : CW 1 0 (.int i) := ⟨rfl, by simpa [fine] using h, by simp [wt], by simp [PyData.depth]⟩
def wn : Nat → Nat
  | 0 => 0
  | n + 1 => 6 + 4 * wn n
theorem cws_all {a b : Nat} : ∀ {ds : List PyData}, (∀ d ∈ ds, CW a b d) → CWs (ds.length * a) b ds
  | [], _ => ⟨rfl, rfl, by simp [wtAll], by simp [PyData.depthAll]⟩
  | d :: ds, h => by
    have h1 := h d (by simp)
    have h2 : CWs (ds.length * a) b ds := cws_all fun e he => h e (List.mem_cons_of_mem _ he)
    refine ⟨by simp [PyData.plainAll, h1.p, h2.p], by simp [fineAll, h1.f, h2.f], ?_, ?_⟩
    · have := h1.w
      have := h2.w
      simp only [wtAll, List.length_cons, Nat.succ_mul]
      omega
    · have := h1.h
      have := h2.h
      simp only [PyData.depthAll]
      omega
theorem cmp_cw {x : Str} (h : cmpW x) : CW 3 0 (.str x) := by rcases h with rfl | rfl | rfl <;> exact cw_str (by decide +kernel) (by decide +kernel)
theorem con_cw {x : Str} (h : conW x) : CW 4 0 (.str x) := by rcases h with rfl | rfl <;> exact cw_str (by decide +kernel) (by decide +kernel)
theorem isc_cw {w : Int} (hw : w ≤ 4) : ∀ {n : Nat} {d : PyData}, IsC w n d → CW (wn n) (2 * n) d
  | 0, _, h => h.elim
  | n + 1, d, h => by
    have e9 : (4 : Nat) ≤ 10 ^ 9 := by decide
    rcases h with ⟨x, c, k, rfl, hx, c0, c1, k0, k1⟩ | ⟨e, rfl, he⟩ | ⟨x, es, rfl, hx, l2, l4, hes⟩
    · exact ((cmp_cw hx).cons' (cw_int (by omega)) (cw_int (by omega))).mono (by simp only [wn]; omega) (by omega)
    · have h1 := isc_cw hw he
      exact (CWs.cons (cw_str (x := "not") (a := 4) (by decide +kernel) (by decide +kernel)) (CWs.cons h1 .nil)).tup.mono (by simp only [wn]; omega) (by omega)
    · have h1 := cws_all fun e he => isc_cw hw (hes e he)
      have h2 : es.length * wn n ≤ 4 * wn n := Nat.mul_le_mul_right _ l4
      exact (CWs.cons (con_cw hx) (CWs.cons h1.tup .nil)).tup.mono (by simp only [wn]; omega) (by omega)
structure SmOk (d : PyData) : Prop where
  f : fine (10 ^ 40) d = true
  w : wt d ≤ 200
  p : d.depth ≤ 20
theorem CW.sm {a b : Nat} {d : PyData} (h : CW a b d) (ha : a ≤ 200) (hb : b ≤ 20) : SmOk d := ⟨fine_up h.f, Nat.le_trans h.w ha, Nat.le_trans h.h hb⟩
/-- the samples: the first three may be changed -/
def SmL (n : Nat) (ds : List PyData) : Prop := Al SmOk n ds ∧ ∀ d ∈ ds.take 3, InG d
theorem SmL.app {n m : Nat} {x y : List PyData} (h : SmL n x) (h2 : Al SmOk m y) (n3 : 3 ≤ n) : SmL (n + m) (x ++ y) := by
  refine ⟨⟨by rw [List.length_append, h.1.1, h2.1], fun d hd => ?_⟩, fun d hd => ?_⟩
  · rcases List.mem_append.mp hd with hd | hd
    · exact h.1.2 d hd
    · exact h2.2 d hd
  · rw [List.take_append_of_le_length (by rw [h.1.1]; exact n3)] at hd
    exact h.2 d hd
theorem smL_cat {l : Addr} {P : KX.PSt} {n m : Nat} {ta tb : TE} (kp : Kp l P) (h : GM l P (SmL n) ta) (h2 : GM l P (Al SmOk m) tb) (n3 : 3 ≤ n) (hn : n + m ≤ 1000) : GM l P (SmL (n + m)) (tOp rCat ta tb) :=
  (gm_cat kp h h2 fun x y hx hy => by rw [hx.1.1, hy.1]; exact Nat.le_trans hn big_line).imp fun z e => by
    obtain ⟨x, y, rfl, hx, hy⟩ := e
    exact hx.app hy n3
section
variable {l : Addr} {Pp : KX.PSt} {a a' b b' : Nat} {t : TE} {ts : TA}
theorem gcw_nil : GDs l Pp (CWs 0 0) tNil := gds_nil.imp fun _ e => by subst e; exact .nil
theorem gcw_cons (kp : Kp l Pp) (h : GD l Pp (CW a b) t) (hs : GDs l Pp (CWs a' b') ts) : GDs l Pp (CWs (a + a') (max b b')) (tCons t ts) := (gds_cons kp h hs).imp fun _ z => by
  obtain ⟨d, ds, rfl, h1, h2⟩ := z
  exact CWs.cons h1 h2
theorem gcw_tup (h : GDs l Pp (CWs a b) ts) (ha : a ≤ 1000) : GD l Pp (CW (a + 1) (b + 1)) (tTup ts) := (gd_tup h fun ds z => Nat.le_trans (len_wt ds) (Nat.le_trans z.w (Nat.le_trans ha big_line))).imp fun _ z => by
  obtain ⟨ds, rfl, h⟩ := z
  exact h.tup
theorem gcw_c {v : V} {d : PyData} (h : ∀ H, Dx H v d) (g : CW a b d) : GD l Pp (CW a b) (tC v) := (gd_c h).imp fun _ e => by subst e; exact g
theorem gcw_i {k : Int} (h : GI l Pp (· = k) t) (hk : k.natAbs ≤ 10 ^ 9) : GD l Pp (CW 1 0) t := (gd_int h).imp fun d e => by
  obtain ⟨i, rfl, rfl⟩ := e
  exact cw_int hk
end
def spSm : Sp := fun vs H Q _ => ∃ (l : Addr) (w : Int), vs = [.ref l, .int w] ∧ StO H l ∧ 1 ≤ w ∧ w ≤ 4 ∧ ∀ H' p xs ds, Keep l H H' → StO H' l → p ≠ l → H' p = some (.lst xs) → Dxs (hid l H') xs ds → SmL 14 ds → Q (.ref p) H'
theorem scSm : FnScope ["stream", "width", "one", "other", "plain", "samples"] ["stream", "width"] (defScope sSm) := ⟨rfl, rfl, rfl, by decide +kernel, rfl, by decide +kernel, by decide +kernel⟩
section
variable {P : Program} {w : World} {K : PySem.W.Frag} {mg : Str → Option Value} {base : Heap}
theorem ok_sm {k : Nat} {f fC : Addr} {fd fdC : FuncData} (B : Bl mg) (D : Df K mg "_law_samples" sSm ["stream", "width"] f fd) (DC : Df K mg "_law_condition" sLCo ["stream", "wide", "deep"] fC fdC)
    (G3 : FnOk P w K mg base CX0 k fC fdC ["stream", "wide", "deep"] (spLCo 2)) (G2 : FnOk P w K mg base CX0 k fC fdC ["stream", "wide", "deep"] (spLCo 1)) (G1 : FnOk P w K mg base CX0 k fC fdC ["stream", "wide", "deep"] (spLCo 0)) :
    FnOk P w K mg base CX0 (k + 1) f fd ["stream", "width"] spSm := by
  refine D.F.ok scSm (fun vs H Q E h => ?_) (fun cdv A outer s H vs Q E hr h => ?_)
  · obtain ⟨l, w', rfl, _⟩ := h
    rfl
  · obtain ⟨l, w', rfl, st, w1, w4, q⟩ := h
    have nd := scSm.nd
    refine ⟨_, pss_cons (ps_par (i := 2) (j := 3) (by rfl) nd rfl rfl (by decide) rfl rfl (pa_cons (pe_call G3 hr (by rfl) DC.g DC.F.kp DC.b .nil pass0 (pa_cons (pv 0) (pa_cons (pv 1) (pa_cons pe_int pa_nil)))) (pa_cons (pe_call G2 hr (by rfl) DC.g DC.F.kp DC.b .nil pass0 (pa_cons (pv 0) (pa_cons (pv 1) (pa_cons pe_int pa_nil)))) pa_nil)) (by rfl))
      (pss_cons (ps_set (i := 4) nd rfl (.inl rfl) (pe_call G1 hr (by rfl) DC.g DC.F.kp DC.b .nil pass0 (pa_cons (pv 0) (pa_cons (pv 1) (pa_cons pe_int pa_nil)))))
      (pss_cons (ps_set (i := 5) nd rfl (.inl rfl) (pe_lst (pa_cons (pv 2) (pa_cons (pe_tup (pa_cons pe_str (pa_cons (pv 2) pa_nil))) (pa_cons (pe_tup (pa_cons pe_str (pa_cons (pe_tup (pa_cons (pv 3) (pa_cons (pv 2) pa_nil))) pa_nil))) (pa_cons (pe_tup (pa_cons pe_str (pa_cons (pe_tup (pa_cons (pv 4) pa_nil)) pa_nil))) pa_nil))))))
      (pss_cons (ps_set (i := 5) nd rfl (.inl rfl) (pe_op op_cat (pv 5) (pe_lst (pa_cons (pe_tup (pa_cons pe_str (pa_cons (pe_op op_repT (pe_tup (pa_cons (pv 4) pa_nil)) pe_int) pa_nil))) (pa_cons (pe_tup (pa_cons pe_str (pa_cons (pe_op op_repT (pe_tup (pa_cons (pv 4) pa_nil)) pe_int) pa_nil))) pa_nil)))))
      (pss_cons (ps_set (i := 5) nd rfl (.inl rfl) (pe_op op_cat (pv 5) (pe_lst (pa_cons (pe_tup (pa_cons pe_str (pa_cons (pe_tup (pa_cons pe_str (pa_cons (pv 4) pa_nil))) pa_nil))) (pa_cons (pe_tup (pa_cons pe_str (pa_cons (pe_tup (pa_cons pe_str (pa_cons (pe_tup (pa_cons pe_str (pa_cons (pv 4) pa_nil))) pa_nil))) pa_nil))) pa_nil)))))
      (pss_cons (ps_set (i := 5) nd rfl (.inl rfl) (pe_op op_cat (pv 5) (pe_lst (pa_cons (pe_tup (pa_cons pe_str (pa_cons (pe_tup (pa_cons (pv 4) (pa_cons (pv 3) pa_nil))) pa_nil))) (pa_cons (pe_tup (pa_cons pe_str (pa_cons (pv 4) (pa_cons (pv 3) pa_nil)))) (pa_cons (pe_tup (pa_cons pe_str (pa_cons pe_int (pa_cons pe_int pa_nil)))) pa_nil))))))
      (pss_one (ps_ret (pe_op op_cat (pv 5) (pe_lst (pa_cons (pe_tup (pa_cons pe_str (pa_cons pe_int (pa_cons (pe_op op_add (pe_op op_pow pe_int pe_int) pe_int) pa_nil)))) (pa_cons (pe_tup (pa_cons pe_str (pa_cons pe_int (pa_cons (pe_op op_sub (pe_op op_sub pe_int (pe_op op_pow pe_int pe_int)) pe_int) pa_nil))))
          (pa_cons (pe_tup (pa_cons pe_str (pa_cons (pe_op op_sub (pv 1) pe_int) (pa_cons (pe_op op_sub pe_int (pe_op op_pow pe_int pe_int)) pa_nil)))) pa_nil)))))))))))), ?_⟩
    refine ⟨.ref l, rfl, .int w', rfl, l, w', rfl, st, w1, w4, fun H1 v1 d1 k1 st1 x1 c1 => ?_⟩
    refine ⟨.ref l, rfl, .int w', rfl, l, w', rfl, st1, w1, w4, fun H2 v2 d2 k2 st2 x2 c2 => ?_⟩
    refine ⟨_, _, rfl, ?_⟩
    refine ⟨.ref l, rfl, .int w', rfl, l, w', rfl, st2, w1, w4, fun H3 v3 d3 k3 st3 x3 c3 => ?_⟩
    have y1 : Dx (hid l H3) v1 d1 := ((x1.up (fresh_hid st)).up k2.same).up k3.same
    have y2 : Dx (hid l H3) v2 d2 := (x2.up (fresh_hid st1)).up k3.same
    have y3 : Dx (hid l H3) v3 d3 := x3.up (fresh_hid st2)
    have g1 : CW 126 6 d1 := isc_cw w4 c1
    have g2 : CW 30 4 d2 := isc_cw w4 c2
    have g3 : CW 6 2 d3 := isc_cw w4 c3
    have e1 : ∀ {σ0 : L2.St} {M}, σ0[2]? = some (some v1) → GD l (KX.Env l σ0 [(v1, d1), (v2, d2), (v3, d3)] M) (CW 126 6) (tVar 2) := fun h => (gd_env (v := v1) (d := d1) h (by simp)).imp fun _ e => by subst e; exact g1
    have e2 : ∀ {σ0 : L2.St} {M}, σ0[3]? = some (some v2) → GD l (KX.Env l σ0 [(v1, d1), (v2, d2), (v3, d3)] M) (CW 30 4) (tVar 3) := fun h => (gd_env (v := v2) (d := d2) h (by simp)).imp fun _ e => by subst e; exact g2
    have e3' : ∀ {σ0 : L2.St} {M}, σ0[4]? = some (some v3) → GD l (KX.Env l σ0 [(v1, d1), (v2, d2), (v3, d3)] M) (· = d3) (tVar 4) := fun h => (gd_env (v := v3) (d := d3) h (by simp)).imp fun _ e => e
    have e3 : ∀ {σ0 : L2.St} {M}, σ0[4]? = some (some v3) → GD l (KX.Env l σ0 [(v1, d1), (v2, d2), (v3, d3)] M) (CW 6 2) (tVar 4) := fun h => (e3' h).imp fun _ e => by subst e; exact g3
    have tO : ∀ {σ0 : L2.St} {M}, GD l (KX.Env l σ0 [(v1, d1), (v2, d2), (v3, d3)] M) (CW 3 0) (tC (.str "or")) := gcw_c (d := .str "or") (fun H => .str _) (cw_str (by decide +kernel) (by decide +kernel))
    have tA : ∀ {σ0 : L2.St} {M}, GD l (KX.Env l σ0 [(v1, d1), (v2, d2), (v3, d3)] M) (CW 4 0) (tC (.str "and")) := gcw_c (d := .str "and") (fun H => .str _) (cw_str (by decide +kernel) (by decide +kernel))
    have tN : ∀ {σ0 : L2.St} {M}, GD l (KX.Env l σ0 [(v1, d1), (v2, d2), (v3, d3)] M) (CW 4 0) (tC (.str "not")) := gcw_c (d := .str "not") (fun H => .str _) (cw_str (by decide +kernel) (by decide +kernel))
    have tE : ∀ {σ0 : L2.St} {M}, GD l (KX.Env l σ0 [(v1, d1), (v2, d2), (v3, d3)] M) (CW 3 0) (tC (.str "eq")) := gcw_c (d := .str "eq") (fun H => .str _) (cw_str (by decide +kernel) (by decide +kernel))
    have tL : ∀ {σ0 : L2.St} {M}, GD l (KX.Env l σ0 [(v1, d1), (v2, d2), (v3, d3)] M) (CW 3 0) (tC (.str "le")) := gcw_c (d := .str "le") (fun H => .str _) (cw_str (by decide +kernel) (by decide +kernel))
    have tF : ∀ {σ0 : L2.St} {M}, GD l (KX.Env l σ0 [(v1, d1), (v2, d2), (v3, d3)] M) (CW 5 0) (tC (.str "From")) := gcw_c (d := .str "From") (fun H => .str _) (cw_str (by decide +kernel) (by decide +kernel))
    have rep : ∀ {σ0 : L2.St} {M} {n : Nat}, 2 ≤ n → n ≤ 5 → σ0[4]? = some (some v3) → GD l (KX.Env l σ0 [(v1, d1), (v2, d2), (v3, d3)] M) (CW 31 3) (tOp (rRepT K) (tTup (tCons (tVar 4) tNil)) (tC (.int (n : Int)))) := fun {σ0 M n} n2 n5 h =>
      (gd_rep (k := (n : Int)) kp_env ((gd_tup (gds_cons kp_env (e3' h) gds_nil) fun ds z => by obtain ⟨x, y, rfl, _, rfl⟩ := z; show 1 ≤ sizeLine; decide).imp (S2 := (· = .tuple [d3])) fun d e => by
          obtain ⟨ds, rfl, x, y, rfl, rfl, rfl⟩ := e
          rfl) (gi_val fun σ H Q q => q) (by omega) (by omega) (by simp) (by simp)).imp fun d e => by
        subst e
        have hm : ∀ x ∈ (List.replicate (n : Int).toNat [d3]).flatten, CW 6 2 x := fun x hx => by
          obtain ⟨ys, hy, hx⟩ := List.mem_flatten.mp hx
          rw [(List.mem_replicate.mp hy).2] at hx
          rw [List.mem_singleton.mp hx]
          exact g3
        have hl : (List.replicate (n : Int).toNat [d3]).flatten.length = n := by simp
        have := (cws_all hm).tup
        rw [hl] at this
        exact this.mono (by omega) (by omega)
    dsimp only
    change tSeq (tAsg _ (gName 5)) _ _ ([some (.ref l), some (.int w'), some v1, some v2, some v3, none] : L2.St) H3
    refine gm_seq (S := SmL 4) (P := KX.Env l _ [(v1, d1), (v2, d2), (v3, d3)] []) ?_ st3 ⟨rfl, alld_cons y1 (alld_cons y2 (alld_cons y3 alld_nil)), allm_nil⟩ fun H4 p4 xs4 ds4 g4 k4 st4 n4 e4 x4 => ?_
    · refine (al_lst (S := CW 200 20) (al_cons kp_env ((e1 rfl).imp fun d h => h.mono (a' := 200) (b' := 20) (by decide) (by decide)) (al_cons kp_env ((gcw_tup (gcw_cons kp_env tN (gcw_cons kp_env (e1 rfl) gcw_nil)) (by decide)).imp fun d h => h.mono (a' := 200) (b' := 20) (by decide) (by decide))
        (al_cons kp_env ((gcw_tup (gcw_cons kp_env tA (gcw_cons kp_env (gcw_tup (gcw_cons kp_env (e2 rfl) (gcw_cons kp_env (e1 rfl) gcw_nil)) (by decide)) gcw_nil)) (by decide)).imp fun d h => h.mono (a' := 200) (b' := 20) (by decide) (by decide))
        (al_cons kp_env ((gcw_tup (gcw_cons kp_env tO (gcw_cons kp_env (gcw_tup (gcw_cons kp_env (e3 rfl) gcw_nil) (by decide)) gcw_nil)) (by decide)).imp fun d h => h.mono (a' := 200) (b' := 20) (by decide) (by decide)) al_nil)))) (by decide)).imp fun ds g => ⟨⟨g.1, fun d hd => (g.2 d hd).sm (by decide) (by decide)⟩, fun d hd => ?_⟩
      have := g.2 d (List.mem_of_mem_take hd)
      exact ⟨this.p, this.f, this.w⟩
    have z1 := y1.up k4.same
    have z2 := y2.up k4.same
    have z3 := y3.up k4.same
    change tSeq (tAsg _ (gName 5)) _ _ ([some (.ref l), some (.int w'), some v1, some v2, some v3, some (.ref p4)] : L2.St) H4
    refine gm_seq (S := SmL (4 + 2)) (P := KX.Env l _ [(v1, d1), (v2, d2), (v3, d3)] [(p4, xs4, ds4)]) ?_ st4 ⟨rfl, alld_cons z1 (alld_cons z2 (alld_cons z3 alld_nil)), allm_one n4 e4 x4⟩ fun H5 p5 xs5 ds5 g5 k5 st5 n5 e5 x5 => ?_
    · exact smL_cat kp_env ((gm_env rfl (List.mem_singleton.mpr rfl)).imp fun _ e => by subst e; exact g4)
        (al_lst (al_cons kp_env ((gcw_tup (gcw_cons kp_env tO (gcw_cons kp_env (rep (n := 4) (by decide) (by decide) rfl) gcw_nil)) (by decide)).imp fun d h => h.sm (by decide) (by decide))
        (al_cons kp_env ((gcw_tup (gcw_cons kp_env tO (gcw_cons kp_env (rep (n := 5) (by decide) (by decide) rfl) gcw_nil)) (by decide)).imp fun d h => h.sm (by decide) (by decide)) al_nil)) (by decide)) (by decide) (by decide)
    replace z1 := z1.up k5.same
    replace z2 := z2.up k5.same
    replace z3 := z3.up k5.same
    change tSeq (tAsg _ (gName 5)) _ _ ([some (.ref l), some (.int w'), some v1, some v2, some v3, some (.ref p5)] : L2.St) H5
    refine gm_seq (S := SmL (4 + 2 + 2)) (P := KX.Env l _ [(v1, d1), (v2, d2), (v3, d3)] [(p5, xs5, ds5)]) ?_ st5 ⟨rfl, alld_cons z1 (alld_cons z2 (alld_cons z3 alld_nil)), allm_one n5 e5 x5⟩ fun H6 p6 xs6 ds6 g6 k6 st6 n6 e6 x6 => ?_
    · exact smL_cat kp_env ((gm_env rfl (List.mem_singleton.mpr rfl)).imp fun _ e => by subst e; exact g5)
        (al_lst (al_cons kp_env ((gcw_tup (gcw_cons kp_env tN (gcw_cons kp_env (gcw_tup (gcw_cons kp_env tN (gcw_cons kp_env (e3 rfl) gcw_nil)) (by decide)) gcw_nil)) (by decide)).imp fun d h => h.sm (by decide) (by decide))
        (al_cons kp_env ((gcw_tup (gcw_cons kp_env tN (gcw_cons kp_env (gcw_tup (gcw_cons kp_env tN (gcw_cons kp_env (gcw_tup (gcw_cons kp_env tN (gcw_cons kp_env (e3 rfl) gcw_nil)) (by decide)) gcw_nil)) (by decide)) gcw_nil)) (by decide)).imp fun d h => h.sm (by decide) (by decide)) al_nil)) (by decide)) (by decide) (by decide)
    replace z1 := z1.up k6.same
    replace z2 := z2.up k6.same
    replace z3 := z3.up k6.same
    change tSeq (tAsg _ (gName 5)) _ _ ([some (.ref l), some (.int w'), some v1, some v2, some v3, some (.ref p6)] : L2.St) H6
    refine gm_seq (S := SmL (4 + 2 + 2 + 3)) (P := KX.Env l _ [(v1, d1), (v2, d2), (v3, d3)] [(p6, xs6, ds6)]) ?_ st6 ⟨rfl, alld_cons z1 (alld_cons z2 (alld_cons z3 alld_nil)), allm_one n6 e6 x6⟩ fun H7 p7 xs7 ds7 g7 k7 st7 n7 e7 x7 => ?_
    · exact smL_cat kp_env ((gm_env rfl (List.mem_singleton.mpr rfl)).imp fun _ e => by subst e; exact g6)
        (al_lst (al_cons kp_env ((gcw_tup (gcw_cons kp_env tA (gcw_cons kp_env (gcw_tup (gcw_cons kp_env (e3 rfl) (gcw_cons kp_env (e2 rfl) gcw_nil)) (by decide)) gcw_nil)) (by decide)).imp fun d h => h.sm (by decide) (by decide))
        (al_cons kp_env ((gcw_tup (gcw_cons kp_env tA (gcw_cons kp_env (e3 rfl) (gcw_cons kp_env (e2 rfl) gcw_nil))) (by decide)).imp fun d h => h.sm (by decide) (by decide))
        (al_cons kp_env ((gcw_tup (gcw_cons kp_env tF (gcw_cons kp_env (gcw_i (k := 0) (gi_val fun σ H Q q => q) (by decide)) (gcw_cons kp_env (gcw_i (k := 0) (gi_val fun σ H Q q => q) (by decide)) gcw_nil))) (by decide)).imp fun d h => h.sm (by decide) (by decide)) al_nil))) (by decide)) (by decide) (by decide)
    replace z1 := z1.up k7.same
    replace z2 := z2.up k7.same
    replace z3 := z3.up k7.same
    have e9 : (10 : Int) ^ (9 : Int).toNat = 1000000000 := by decide
    have three : ∀ {x : Str} {ta tb : TE} {j k : Int} {σ0 : L2.St} {M}, (x.cps.toList.all fun c => decide (c < 128)) = true → x.length ≤ 4 → j.natAbs ≤ 10 ^ 40 → k.natAbs ≤ 10 ^ 40 → GI l (KX.Env l σ0 [(v1, d1), (v2, d2), (v3, d3)] M) (· = j) ta → GI l (KX.Env l σ0 [(v1, d1), (v2, d2), (v3, d3)] M) (· = k) tb →
        GD l (KX.Env l σ0 [(v1, d1), (v2, d2), (v3, d3)] M) SmOk (tTup (tCons (tC (.str x)) (tCons ta (tCons tb tNil)))) := fun {x ta tb j k σ0 M} hx lx hj hk h1 h2 =>
      (gd_tup (gds_cons kp_env (gd_c (v := .str x) (d := .str x) fun H => .str x) (gds_cons kp_env (gd_int h1) (gds_cons kp_env (gd_int h2) gds_nil))) fun ds z => by obtain ⟨x, y, rfl, _, x, y, rfl, _, x, y, rfl, _, rfl⟩ := z; show 3 ≤ sizeLine; decide).imp fun d e => by
        obtain ⟨ds, rfl, x', y, rfl, rfl, x', y, rfl, ⟨i, rfl, rfl⟩, x', y, rfl, ⟨i, rfl, rfl⟩, rfl⟩ := e
        refine ⟨?_, ?_, ?_⟩
        · simp only [fine, fineAll, Bool.and_eq_true]
          exact ⟨hx, decide_eq_true hj, decide_eq_true hk, trivial⟩
        · simp only [wt, wtAll]
          omega
        · simp [PyData.depth, PyData.depthAll]
    have pw : ∀ {σ0 : L2.St} {M}, GI l (KX.Env l σ0 [(v1, d1), (v2, d2), (v3, d3)] M) (· = 10 ^ (9 : Int).toNat) (tOp (rI CPow fun i j => V.int (i ^ j.toNat)) (tC (.int 10)) (tC (.int 9))) := fun {σ0 M} => gi_val fun σ H Q q => ⟨10, 9, rfl, rfl, ⟨by decide, by decide, by decide⟩, q⟩
    have zr : ∀ {σ0 : L2.St} {M} {n : Int}, GI l (KX.Env l σ0 [(v1, d1), (v2, d2), (v3, d3)] M) (· = n) (tC (.int n)) := fun {σ0 M n} => gi_val fun σ H Q q => q
    have up : ∀ {σ0 : L2.St} {M}, GI l (KX.Env l σ0 [(v1, d1), (v2, d2), (v3, d3)] M) (· = 10 ^ (9 : Int).toNat + 1) (tOp (rI0 fun i j => V.int (i + j)) (tOp (rI CPow fun i j => V.int (i ^ j.toNat)) (tC (.int 10)) (tC (.int 9))) (tC (.int 1))) := fun {σ0 M} =>
      gi_val fun σ H Q q => ⟨10, 9, rfl, rfl, ⟨by decide, by decide, by decide⟩, _, 1, rfl, rfl, q⟩
    have dn : ∀ {σ0 : L2.St} {M}, GI l (KX.Env l σ0 [(v1, d1), (v2, d2), (v3, d3)] M) (· = 0 - 10 ^ (9 : Int).toNat) (tOp (rI0 fun i j => V.int (i - j)) (tC (.int 0)) (tOp (rI CPow fun i j => V.int (i ^ j.toNat)) (tC (.int 10)) (tC (.int 9)))) := fun {σ0 M} =>
      gi_val fun σ H Q q => ⟨10, 9, rfl, rfl, ⟨by decide, by decide, by decide⟩, 0, _, rfl, rfl, q⟩
    have dn1 : ∀ {σ0 : L2.St} {M}, GI l (KX.Env l σ0 [(v1, d1), (v2, d2), (v3, d3)] M) (· = 0 - 10 ^ (9 : Int).toNat - 1) (tOp (rI0 fun i j => V.int (i - j)) (tOp (rI0 fun i j => V.int (i - j)) (tC (.int 0)) (tOp (rI CPow fun i j => V.int (i ^ j.toNat)) (tC (.int 10)) (tC (.int 9)))) (tC (.int 1))) := fun {σ0 M} =>
      gi_val fun σ H Q q => ⟨10, 9, rfl, rfl, ⟨by decide, by decide, by decide⟩, 0, _, rfl, rfl, _, 1, rfl, rfl, q⟩
    have wm : ∀ {σ0 : L2.St} {M}, σ0[1]? = some (some (.int w')) → GI l (KX.Env l σ0 [(v1, d1), (v2, d2), (v3, d3)] M) (· = w' - 1) (tOp (rI0 fun i j => V.int (i - j)) (tVar 1) (tC (.int 1))) := fun {σ0 M} h => (gi_sub (k := 1) kp_env (gi_env h) zr).imp fun z e => by
      obtain ⟨i, rfl, rfl⟩ := e
      rfl
    have hw40 : (w' - 1).natAbs ≤ 10 ^ 40 := by
      have : (4 : Nat) ≤ 10 ^ 40 := by decide +kernel
      omega
    refine smL_cat (l := l) (P := KX.Env l ([some (.ref l), some (.int w'), some v1, some v2, some v3, some (.ref p7)] : L2.St) [(v1, d1), (v2, d2), (v3, d3)] [(p7, xs7, ds7)]) (n := 4 + 2 + 2 + 3) (m := 3) kp_env ((gm_env rfl (List.mem_singleton.mpr rfl)).imp fun _ e => by subst e; exact g7)
        (al_lst (al_cons kp_env (three (x := "eq") (j := 0) (k := 10 ^ (9 : Int).toNat + 1) (by decide +kernel) (by decide +kernel) (by decide) (by decide +kernel) zr up)
        (al_cons kp_env (three (x := "eq") (j := 0) (k := 0 - 10 ^ (9 : Int).toNat - 1) (by decide +kernel) (by decide +kernel) (by decide) (by decide +kernel) zr dn1)
        (al_cons kp_env (three (x := "le") (j := w' - 1) (k := 0 - 10 ^ (9 : Int).toNat) (by decide +kernel) (by decide +kernel) hw40 (by decide +kernel) (wm rfl) dn) al_nil))) (by decide)) (by decide) (by decide) _ _ _ st7 ⟨rfl, alld_cons z1 (alld_cons z2 (alld_cons z3 alld_nil)), allm_one n7 e7 x7⟩ fun H8 p8 xs8 ds8 g8 k8 st8 n8 e8 x8 => ?_
    exact q _ _ _ _ (((((((k1.trans k2).trans k3).trans k4).trans k5).trans k6).trans k7).trans k8) st8 n8 e8 x8 g8
end
end R1

set_option maxRecDepth 100000
set_option maxHeartbeats 2000000
namespace R1
open PySem PySem.Spec PyProof.Rows L2 KX
abbrev sLaw : Stmt := topS 27
structure OptS (l : Addr) (Hb : Hp) (p : Addr) (G : Hp) (xs : List V) (ds : List PyData) : Prop where
  k : Keep l Hb G
  s : StO G l
  e : G p = some (.lst xs)
  x : Dxs (hid p (hid l G)) xs ds
theorem same_hidp {l p : Addr} {Hb M : Hp} (nb : Hb p = none) (k : Keep l Hb M) : Same (hid l Hb) (hid l (hid p M)) := fun b o e => by
  obtain ⟨n, e⟩ := hid_some e
  rw [hid_at n, hid_at (ne_of_none e nb)]
  exact k b o n e
theorem ext_hid {l : Addr} {H H' : Hp} (e : LamX.ExtN H H') : LamX.ExtN (hid l H) (hid l H') := fun b o h n => by
  obtain ⟨ne, h⟩ := hid_some h
  rw [hid_at ne]
  exact e b o h n
theorem sto_hidp {l p : Addr} {M : Hp} (s : StO M l) (n : p ≠ l) : StO (hid p M) l := by
  obtain ⟨x, y, z, e⟩ := s
  exact ⟨x, y, z, by rw [hid_at (Ne.symm n)]; exact e⟩
theorem OptS.step {l p : Addr} {Hb G H' : Hp} {xs : List V} {ds : List PyData} {v : V} {d : PyData} (nb : Hb p = none) (pl : p ≠ l) (o : OptS l Hb p G xs ds) (k : Keep l (hid p G) H') (s : StO H' l) (n : H' p = none) (x : Dx (hid l H') v d) :
    OptS l Hb p (upd H' p (.lst (xs ++ [v]))) (xs ++ [v]) (ds ++ [d]) := by
  refine ⟨fun b u nl e => ?_, ?_, upd_same, ?_⟩
  · have ne := ne_of_none e nb
    rw [upd_ne ne]
    exact k b u nl (by rw [hid_at ne]; exact o.k b u nl e)
  · obtain ⟨x, y, z, e⟩ := s
    exact ⟨x, y, z, by rw [upd_ne (Ne.symm pl)]; exact e⟩
  · rw [hid_comm, hid_upd n]
    have x0 := o.x
    rw [hid_comm] at x0
    exact (x0.up k.same).app (.cons x .nil)
def spLaw (K : PySem.W.Frag) (P0 : Addr) : Sp := fun vs H Q _ => ∃ (a : Addr) (ns : List Int), vs = [.ref a] ∧ SqL K H a (ns.map V.int) ∧ ns.length ≤ 63 ∧ H P0 = some (.tbl #[]) ∧ ∀ H', Q (.bl true) H'
theorem scLaw : FnScope ["script", "at", "stream", "width", "other", "candidates", "value", "kept", "actual", "results", "samples", "turn", "more"] ["script"] (defScope sLaw) := ⟨rfl, rfl, rfl, by decide +kernel, rfl, by decide +kernel, by decide +kernel⟩
def forBody : Stmt → List Stmt
  | .For _ _ b _ _ => b
  | _ => []
abbrev bLaw : List Stmt := forBody ((defBody sLaw).getD 0 (.Pass ⟨0, 0, 0, 0⟩))
abbrev cxLaw (P : Program) (w : World) (K : PySem.W.Frag) (mg : Str → Option Value) (base : Heap) (f : Addr) (cdv : Value) (A : Around) (outer : List PySem.Env) (s : Shared) (H : Hp) (E : XK) : Cx :=
  (cxOf CX0 P w K mg base ["script", "at", "stream", "width", "other", "candidates", "value", "kept", "actual", "results", "samples", "turn", "more"] "law" (defScope sLaw) f cdv A outer s H E).nox
/-- what the defs promise -/
structure Ds (P : Program) (w : World) (K : PySem.W.Frag) (mg : Str → Option Value) (base : Heap) (k : Nat) (C fI : Addr) (gI : FuncData) (fS fD fL fA fV fR fM fJ : Addr) (gS gD gL gA gV gR gM gJ : FuncData) : Prop where
  S : Df K mg "_law_stream" sStream ["script", "at"] fS gS
  D : Df K mg "_law_draw" sDraw ["stream", "total"] fD gD
  L : Df K mg "_law_samples" sSm ["stream", "width"] fL gL
  A : Df K mg "is_condition" sIC ["width", "value"] fA gA
  V : Df K mg "_law_is_valid" sVa ["width", "value", "deep"] fV gV
  R : Df K mg "_law_mutated" sMu ["stream", "value", "deep"] fR gR
  M : Df K mg "_law_any_value" sAV ["stream"] fM gM
  J : Df K mg "_law_rejects_width" sRj ["stream", "call"] fJ gJ
  T : IN K mg C fI gI
  cc : PySem.W.subIn K (.ref C) (.ref C) = some true
  oS : FnOk P w K mg base CX0 k fS gS ["script", "at"] (spStream K)
  oD : FnOk P w K mg base CX0 k fD gD ["stream", "total"] spDraw
  oL : FnOk P w K mg base CX0 k fL gL ["stream", "width"] spSm
  oA : FnOk P w K mg base (L2.CX P w) k fA gA ["width", "value"] (spIC C)
  oV : FnOk P w K mg base CX0 k fV gV ["width", "value", "deep"] (spVa 3)
  oR : FnOk P w K mg base CX0 k fR gR ["stream", "value", "deep"] (spMu 4)
  oM : FnOk P w K mg base CX0 k fM gM ["stream"] spAV
  o1 : FnOk P w K mg base CX0 1 fD gD ["stream", "total"] spDraw
  o7 : FnOk P w K mg base (L2.CX P w) 7 fA gA ["width", "value"] (spIC C)
abbrev lawQ : Str := (envOfC "law" (defScope sLaw) 0 0 .none).qual ++ "<lambda>"
def lamOf : Stmt → Arguments × Expr × Scope
  | .If (.UnaryOp _ (.Call _ [_, .Lambda p b sc _] _ _) _) _ _ _ => (p, b, sc)
  | _ => (⟨[], [], none, [], [], none, []⟩, .Constant .none 0 ⟨0, 0, 0, 0⟩, ⟨.function, [], false, false, []⟩)
abbrev lamL := lamOf (bLaw.getD 5 (.Pass ⟨0, 0, 0, 0⟩))
theorem lamSc : NdefX.NScope ["invalid", "samples"] ["invalid"] ["samples"] lamL.2.2 := NdefX.nscope_by (by decide +kernel)
structure VG (d : PyData) : Prop where
  f : fine (10 ^ 40) d = true
  w : wt d ≤ 420
  p : d.depth ≤ 40
theorem VG.show {d : PyData} (h : VG d) : d.showable = true ∧ d.depth ≤ 100 ∧ d.shown.length ≤ sizeLine := by
  have h1 := shown_le (B := 10 ^ 40) (by decide) d h.f
  have h2 := h.w
  refine ⟨showable_fine (B := 10 ^ 40) (by decide) d h.f, Nat.le_trans h.p (by decide), ?_⟩
  rw [sizeLine_eq]
  omega
theorem bool_show (b : Bool) : (PyData.bool b).showable = true ∧ (PyData.bool b).depth ≤ 100 ∧ (PyData.bool b).shown.length ≤ sizeLine := by
  refine KX.Good.show (B := 0) (n := 1) ⟨by cases b <;> rfl, by cases b <;> decide⟩ (by decide) (by decide)
theorem betw_int {lo hi i : Int} (h0 : lo ≤ i) (h1 : i ≤ hi) : betw lo hi (.int i) = true := by
  have e : betw lo hi (.int i) = (decide (lo ≤ i) && decide (i ≤ hi)) := rfl
  rw [e, decide_eq_true h0, decide_eq_true h1]
  rfl
/-- a condition for a width is one for a larger width -/
theorem betw_more {w v : Int} {d : PyData} (h : betw 0 (w - 1) d = true) (le : w ≤ v) : betw 0 (v - 1) d = true := by
  obtain ⟨i, rfl, h0, h1⟩ := betw_is h
  exact betw_int h0 (by omega)
theorem con_more {w v : Int} (le : w ≤ v) : ∀ {n : Nat} {d : PyData}, conD w n d = true → conD v n d = true
  | 0, d, h => by simp [conD] at h
  | n + 1, d, h => by
    cases et : tupB 2 3 d with
    | false => rw [con_not et] at h; cases h
    | true =>
      rcases tup23 et with ⟨x, e, rfl⟩ | ⟨x, b, c, rfl⟩
      · rw [con_two] at h ⊢
        cases en : isSt "not" x with
        | true =>
          rw [en, if_pos rfl] at h
          rw [if_pos rfl]
          exact con_more le h
        | false =>
          rw [en, if_neg (by decide)] at h
          rw [if_neg (by decide)]
          rw [Bool.and_eq_true, Bool.and_eq_true] at h
          rw [h.1, h.2.1, Bool.true_and, Bool.true_and, List.all_eq_true]
          exact fun d hd => con_more le (List.all_eq_true.mp h.2.2 d hd)
      · rw [con_three] at h ⊢
        unfold cmp3 at h ⊢
        rw [Bool.and_eq_true, Bool.and_eq_true] at h
        rw [h.1.1, betw_more h.1.2 le, h.2]
        rfl
/-- f(i, j) -/
theorem t2i {sp : Sp} {E : XK} {σ : L2.St} {i j : Nat} {v1 v2 : V} {H : Hp} {Q : VK} (h1 : σ[i]? = some (some v1)) (h2 : σ[j]? = some (some v2)) (h : sp [v1, v2] H Q E) : tCall sp [] E (tCons (tVar i) (tCons (tVar j) tNil)) σ H Q := ⟨v1, h1, v2, h2, h⟩
/-- is_condition for a width that is one -/
theorem ic_call {C : Addr} {wi : Int} {v : V} {d : PyData} {H : Hp} {Q : VK} {E : XK} (w1 : 1 ≤ wi) (w4 : wi ≤ 4) (hd : Dx H v d) (q : ∀ H', Same H H' → Q (.bl (conD wi 3 d)) H') : spIC C [.int wi, v] H Q E := by
  refine ⟨v, d, .int wi, .int wi, rfl, .int wi, hd, ?_⟩
  rw [if_pos (betw_int w1 w4)]
  intro w2 e
  cases e
  exact q
theorem count_all : ∀ {bs : List Bool}, (∀ b ∈ bs, b = true) → (bs.map V.bl).countP (fun z => eqV z (.bl true)) = bs.length
  | [], _ => rfl
  | b :: bs, h => by
    rw [List.map_cons, List.countP_cons, count_all fun c hc => h c (by simp [hc]), h b (by simp)]
    rfl
section
variable {P : Program} {w : World} {K : PySem.W.Frag} {mg : Str → Option Value} {base : Heap} {C fI : Addr} {gI : FuncData}
theorem body_law {k : Nat} (h7 : 7 ≤ k) {fS fD fL fA fV fR fM fJ : Addr} {gS gD gL gA gV gR gM gJ : FuncData} (B : Bl mg) (T : Ds P w K mg base (k + 2) C fI gI fS fD fL fA fV fR fM fJ gS gD gL gA gV gR gM gJ)
    {f c0 P0 : Addr} {A : Around} {outer : List PySem.Env} {s : Shared} {H : Hp} {E : XK} (TB : LamX.TabB base mg c0 P0) (hgd : (cxLaw P w K mg base f (.ref c0) A outer s H E).A.guards = some []) (hr : Room (k + 2) (cxLaw P w K mg base f (.ref c0) A outer s H E).A) {a : Addr} {ns : List Int} :
    ∃ t, PSs (cxLaw P w K mg base f (.ref c0) A outer s H E) bLaw t ∧ ∀ (D : Ends) (G : Hp) (i : Nat) (o2 o3 o4 o5 o6 o7 o8 o9 o10 o11 o12 : Option V), SqL K G a (ns.map V.int) → i ≤ 1000 → LamX.Tabs [(P0, lawQ)] G →
      (∀ G' o1 o2 o3 o4 o5 o6 o7 o8 o9 o10 o11 o12, LamX.ExtN G G' → LamX.Tabs [(P0, lawQ)] G' → D.nx [some (.ref a), o1, o2, o3, o4, o5, o6, o7, o8, o9, o10, o11, o12] G') → t D [some (.ref a), some (.int (0 + (i : Int))), o2, o3, o4, o5, o6, o7, o8, o9, o10, o11, o12] G := by
  have nd := scLaw.nd
  obtain ⟨ocJ, odJ, kVJ, docJ, pmJ, anJ, cdJ, ctJ, oslJ, rfl, lkJ, hcdJ⟩ := T.J.F.ex
  have bJ := T.J.b
  refine ⟨_, pss_cons (ps_set (i := 2) nd rfl (.inr rfl) (pe_call T.oS hr (by rfl) T.S.g T.S.F.kp T.S.b .nil pass0 (pa_cons (pv 0) (pa_cons (pv 1) pa_nil))))
    (pss_cons (ps_par (i := 3) (j := 4) (by rfl) nd rfl rfl (by decide) rfl rfl (pa_cons (pe_op op_add pe_int (pe_call T.oD hr (by rfl) T.D.g T.D.F.kp T.D.b .nil pass0 (pa_cons (pv 2) (pa_cons pe_int pa_nil)))) (pa_cons (pe_op op_add pe_int (pe_call T.oD hr (by rfl) T.D.g T.D.F.kp T.D.b .nil pass0 (pa_cons (pv 2) (pa_cons pe_int pa_nil)))) pa_nil)) (by rfl))
    (pss_cons (ps_set (i := 10) nd rfl (.inr rfl) (pe_call T.oL hr (by rfl) T.L.g T.L.F.kp T.L.b .nil pass0 (pa_cons (pv 2) (pa_cons (pv 4) pa_nil))))
    (pss_cons (ps_set (i := 5) nd rfl (.inl rfl) (pe_op op_cat (pv 10) (pe_lc (own := [("turn", 11)]) (g := gName 11) rfl nd (pi_range1 (by rfl) B.range (pa_cons pe_int pa_nil)) (blkOk_by (N := ["script", "at", "stream", "width", "other", "candidates", "value", "kept", "actual", "results", "samples", "turn", "more"]) (sc := defScope sLaw) (by decide +kernel))
          (fun _ _ _ _ _ => pg_name (i := 11) nd rfl (Or.inl rfl)) (fun _ _ _ _ _ => pts_nil) (fun _ _ _ _ _ => pe_call (KX.FnOk.frame T.oR) hr (by rfl) T.R.g T.R.F.kp T.R.b .nil pass0 (pa_cons (pv 2) (pa_cons (pe_ix (r := rIxL K) ix_list (pv 10) (pe_op op_mod (pv 11) pe_int) (fun _ _ => rfl)) (pa_cons pe_int pa_nil)))))))
    (pss_cons (ps_for PassesOwn.never rfl (pi_list (pe_op op_cat (pv 5) (pe_lst (pa_cons (pe_call T.oM hr (by rfl) T.M.g T.M.F.kp T.M.b .nil pass0 (pa_cons (pv 2) pa_nil)) pa_nil)))) (pg_name (i := 6) nd rfl (.inr rfl))
      (pss_cons (ps_set (i := 7) nd rfl (.inl rfl) (pe_callB (call_reprD hr hgd) (by rfl) B.repr (by decide +kernel) (pa_cons (pv 6) pa_nil)))
      (pss_cons (ps_set (i := 8) nd rfl (.inl rfl) (pe_call T.oA hr (by rfl) T.A.g T.A.F.kp T.A.b .nil passL (pa_cons (pv 3) (pa_cons (pv 6) pa_nil))))
      (pss_cons (ps_if (PW.pt (pw_or (pt_cmpR op_ne (pe_callB (call_reprD hr hgd) (by rfl) B.repr (by decide +kernel) (pa_cons (pv 8) pa_nil))
          (pe_callB (call_reprD hr hgd) (by rfl) B.repr (by decide +kernel) (pa_cons (pe_call T.oV hr (by rfl) T.V.g T.V.F.kp T.V.b .nil pass0 (pa_cons (pv 3) (pa_cons (pv 6) (pa_cons pe_int pa_nil)))) pa_nil)) (nomark _))
        (pw_or1 (pt_cmpR op_ne (pe_callB (call_reprD hr hgd) (by rfl) B.repr (by decide +kernel) (pa_cons (pv 6) pa_nil)) (pv 7) (nomark _))))) (pss_one (ps_ret pe_bl)) pss_nil)
      (pss_cons (ps_setLc (i := 9) (own := [("more", 12)]) (g := gName 12) rfl nd rfl rfl (sw_true rfl rfl rfl (by decide +kernel)) (pi_range2 (by rfl) B.range (pa_cons (pv 3) (pa_cons pe_int pa_nil))) (blkOk_by (N := ["script", "at", "stream", "width", "other", "candidates", "value", "kept", "actual", "results", "samples", "turn", "more"]) (sc := defScope sLaw) (by decide +kernel))
          (fun _ _ _ _ _ => pg_name (i := 12) nd rfl (Or.inl rfl)) (fun _ _ _ _ _ => pts_nil) (fun _ _ _ _ _ => pe_call T.oA hr (by rfl) T.A.g T.A.F.kp T.A.b .nil passL (pa_cons (pv 12) (pa_cons (pv 6) pa_nil))))
      (pss_one (ps_if (PW.pt (pw_and (pt_val (pv 8)) (pw_and1 (pt_cmpR op_ne (pe_bm PySem.F.plainAttrs_list PySem.F.slot_list_count PySem.F.type_list_count mt_countF (pv 9) (pa_cons pe_bl pa_nil)) (pe_callB call_len_seq (by rfl) B.len PySem.boot_len (pa_cons (pv 9) pa_nil)) (nomark _))))) (pss_one (ps_ret pe_bl)) pss_nil)))))))
    (pss_one (ps_if (pt_not (pt_val (pe_lamcall1 (T := [(P0, lawQ)]) (TT := TTrej C) (k := k) (js := [10]) (by rfl) T.J.g T.J.F.kp lkJ hcdJ bJ scRj rfl (.inl rfl) (rej_gives B T.T T.cc T.D (T.o1.mono (by omega)) (fun _ => hgd)) TB rfl (List.mem_singleton.mpr rfl) (fun p hp _ => by cases List.mem_singleton.mp hp; rfl) hr lamSc (NdefX.ndef_free (sc := defScope sLaw) (fr := ["samples"]) (by decide +kernel)) (NdefX.ndef_fr (sc := defScope sLaw) (by decide +kernel)) rfl rfl (fun _ _ _ _ _ _ => rfl) (fun A2 outer2 s2 H2 E2 f2 c2 hr2 => pe_callS (T.o7.mono h7) hr2 (by rfl) T.A.g T.A.F.kp T.A.b (fun σ => passAt (takes_of rfl rfl rfl rfl) σ) (pa_cons (pv 0) (pa_cons (pe_ix (r := rIxL K) ix_list (pv 1) pe_int (fun _ _ => rfl)) pa_nil))) (pv 2) (fun _ => rfl)))) (pss_one (ps_ret pe_bl)) pss_nil)))))), fun D G i o2 o3 o4 o5 o6 o7 o8 o9 o10 o11 o12 hS hi hT q => ?_⟩
  -- stream
  refine ⟨.ref a, rfl, .int (0 + (i : Int)), rfl, a, ns, 0 + (i : Int), rfl, hS, by omega, by omega, fun H1 l s1 nl st1 => ?_⟩
  have T1 := hT.ext s1
  -- width, other
  refine ⟨.ref l, rfl, l, 4, rfl, st1, by decide, by decide, fun H2 d k2 st2 d0 d4 => ⟨1, d, rfl, rfl, ?_⟩⟩
  refine ⟨.ref l, rfl, l, 4, rfl, st2, by decide, by decide, fun H3 m k3 st3 m0 m4 => ⟨1, m, rfl, rfl, _, _, rfl, ?_⟩⟩
  obtain ⟨wd, ewd⟩ : ∃ z, z = 1 + d := ⟨_, rfl⟩
  obtain ⟨wo, ewo⟩ : ∃ z, z = 1 + m := ⟨_, rfl⟩
  dsimp only
  rw [← ewd, ← ewo]
  have w1 : 1 ≤ wd := by omega
  have w4 : wd ≤ 4 := by omega
  -- samples
  refine ⟨.ref l, rfl, .int wo, rfl, l, wo, rfl, st3, by omega, by omega, fun H5 p5 xs5 ds5 k35 st5 n5 e5 x5 g5 => ?_⟩
  have k15 : Keep l H1 H5 := (k2.trans k3).trans k35
  obtain ⟨⟨l14, hsm⟩, hin⟩ := g5
  have lx5 := x5.len
  have hvg : ∀ d ∈ ds5, VG d := fun d hd => ⟨(hsm d hd).f, Nat.le_trans (hsm d hd).w (by decide), Nat.le_trans (hsm d hd).p (by decide)⟩
  dsimp only [List.set]
  -- seven changed ones
  refine ⟨.ref p5, rfl, 7, rfl, by decide, by decide, fun D0 nD => ?_⟩
  have dl : D0 ≠ l := st5.ne nD
  refine lc_range (lo := 0) (n := 7) (fun j M => ∃ vs ds, OptS l H5 D0 M vs ds ∧ ds.length = j ∧ ∀ d ∈ ds, VG d) ⟨[], [], ⟨(Keep.refl l H5).new nD, st5.new nD, upd_same, .nil⟩, rfl, fun d h => absurd h (by simp)⟩ (fun j M hj hM => ?_) (fun M hM => ?_)
  · obtain ⟨vs, ds, o, lj, hv⟩ := hM
    refine ⟨rfl, ?_⟩
    have m0 : 0 ≤ (0 + (j : Int)) % 3 := Int.emod_nonneg _ (by decide)
    have m3 : (0 + (j : Int)) % 3 < 3 := Int.emod_lt_of_pos _ (by decide)
    obtain ⟨z, ez⟩ : ∃ z : Nat, (0 + (j : Int)) % 3 = (z : Int) := ⟨((0 + (j : Int)) % 3).toNat, by omega⟩
    have hz : z < ds5.length := by omega
    obtain ⟨y, ey, dy⟩ := x5.get (List.getElem?_eq_getElem hz)
    have gy : InG ds5[z] := hin _ (List.mem_take_iff_getElem.mpr ⟨z, by omega, rfl⟩)
    have dep := (hsm _ (List.getElem_mem hz)).p
    refine ⟨.ref l, rfl, .ref p5, rfl, .int (0 + (j : Int)), rfl, 0 + (j : Int), 3, rfl, rfl, (show (0 : Int) < 3 by decide), p5, xs5, (0 + (j : Int)) % 3, y, rfl, rfl, .inl (.inl (o.k _ _ n5 e5)), by rw [ez]; exact atI_nat ey, ?_⟩
    refine ⟨D0, vs, o.e, l, y, ds5[z], rfl, sto_hidp o.s dl, dy.up (same_hidp nD o.k), gy, fun H' v' d' k' st' x' mu hn => ⟨vs, upd_same, ?_, vs ++ [v'], ds ++ [d'], ?_, ?_, ?_⟩⟩
    · have := o.x.len
      have hb : (7 : Nat) < sizeLine := by decide
      omega
    · rw [upd_upd]
      exact o.step nD dl k' st' hn x'
    · rw [List.length_append, lj]
      rfl
    · intro d hd
      rcases List.mem_append.mp hd with hd | hd
      · exact hv d hd
      · rw [List.mem_singleton.mp hd]
        exact ⟨mu.f, by have h1 := mu.w; have h2 := gy.w; omega, by have h1 := mu.p; omega⟩
  obtain ⟨vs, ds, o, lj, hv⟩ := hM
  have lvs := o.x.len
  have e5M : M p5 = some (.lst xs5) := o.k _ _ n5 e5
  have x5M := x5.up o.k.same
  refine ⟨p5, D0, xs5, vs, rfl, rfl, e5M, o.e, ?_, fun pA nA => ?_⟩
  · have hb : (21 : Nat) ≤ sizeLine := by decide
    omega
  dsimp only [List.set, gName]
  -- any value
  refine ⟨.ref pA, rfl, .ref l, rfl, l, rfl, o.s.new nA, fun H7 va da k7 st7 xa ga => ⟨by show 1 ≤ sizeLine; decide, fun pB nB => ?_⟩⟩
  have al : pA ≠ l := o.s.ne nA
  have eA : (upd H7 pB (.lst [va])) pA = some (.lst (xs5 ++ vs)) := by
    have := k7 _ _ al upd_same
    exact same_new nB _ _ this
  refine ⟨pA, pB, xs5 ++ vs, [va], rfl, rfl, eA, upd_same, ?_, fun pC nC => ?_⟩
  · have hb : (22 : Nat) ≤ sizeLine := by decide
    simp only [List.length_append, List.length_cons, List.length_nil]
    omega
  have sB : Same H7 (upd (upd H7 pB (.lst [va])) pC (.lst (xs5 ++ vs ++ [va]))) := (same_new nB).trans (same_new nC)
  have eC : (upd (upd H7 pB (.lst [va])) pC (.lst (xs5 ++ vs ++ [va]))) pC = some (.lst (xs5 ++ vs ++ [va])) := upd_same
  have k5L : Keep l H5 (upd (upd H7 pB (.lst [va])) pC (.lst (xs5 ++ vs ++ [va]))) := ((o.k.new nA).trans k7).trans (Keep.of sB)
  have kML : Keep l M (upd (upd H7 pB (.lst [va])) pC (.lst (xs5 ++ vs ++ [va]))) := (((Keep.refl l M).new nA).trans k7).trans (Keep.of sB)
  have stL := st7.same sB
  have dL : Dxs (hid l (upd (upd H7 pB (.lst [va])) pC (.lst (xs5 ++ vs ++ [va])))) (xs5 ++ vs ++ [va]) (ds5 ++ ds ++ [da]) :=
    ((x5M.up kML.same).app ((o.x.up (hid_same D0 _)).up kML.same)).app (.cons (xa.up (Keep.of sB).same) .nil)
  generalize (upd (upd H7 pB (.lst [va])) pC (.lst (xs5 ++ vs ++ [va]))) = HL at *
  have vgL : ∀ d ∈ ds5 ++ ds ++ [da], VG d := fun d hd => by
    rcases List.mem_append.mp hd with hd | hd
    · rcases List.mem_append.mp hd with hd | hd
      · exact hvg d hd
      · exact hv d hd
    · rw [List.mem_singleton.mp hd]
      have g := ga.q
      exact ⟨g.f, Nat.le_trans g.w (by decide), Nat.le_trans g.p (by decide)⟩
  generalize xs5 ++ vs ++ [va] = W at *
  generalize ds5 ++ ds ++ [da] = dW at *
  have dF0 := dL.up (hid_same l HL)
  have kL : Keep l H1 HL := k15.trans k5L
  refine ⟨pC, rfl, ⟨_, .inl (.inl eC)⟩, ?_⟩
  refine for_list (K := K) (xs := W) (fun j σ F => Same HL F ∧ ∃ x6 x7 x8 x9 x11 x12 : Option V, σ = [some (.ref a), some (.int (0 + (i : Int))), some (.ref l), some (.int wd), some (.int wo), some (.ref pA), x6, x7, x8, x9, some (.ref p5), x11, x12])
    ⟨Same.refl HL, o6, o7, o8, o9, o11, o12, rfl⟩ (fun j σ F _ hF => .inl (.inl (hF.1 _ _ eC))) (fun j x σ F hxi hF => ?_) (fun σ F hF => ?_)
  · obtain ⟨sF, x6, x7, x8, x9, x11, x12, rfl⟩ := hF
    obtain ⟨d, ed, hdx⟩ := dF0.get' hxi
    have hdF := hdx.up sF
    have vg := vgL d (List.mem_of_getElem? ed)
    obtain ⟨g1, g2, g3⟩ := vg.show
    -- before
    refine ⟨x, rfl, x, d, rfl, hdF, g1, g2, g3, ?_⟩
    refine t2i (i := 3) (j := 6) rfl rfl (ic_call w1 w4 hdF fun F2 s2 => ?_)
    obtain ⟨c1, c2, c3⟩ := bool_show (conD wd 3 d)
    have hd2 := hdF.up s2
    -- the two answers, the value as it was
    refine ⟨.bl _, rfl, .bl _, .bool (conD wd 3 d), rfl, .bl _, c1, c2, c3, ?_⟩
    refine ⟨.int wd, rfl, x, rfl, x, d, wd, rfl, hd2, Nat.le_trans vg.w (by decide), fun F3 s3 => ?_⟩
    refine ⟨.bl _, .bool (conD wd 3 d), rfl, .bl _, c1, c2, c3, rfl, _, rfl, iteNS rfl ?_⟩
    have hd3 := hd2.up s3
    refine ⟨x, rfl, x, d, rfl, hd3, g1, g2, g3, _, rfl, rfl, _, rfl, iteNS rfl ?_⟩
    have sL3 : Same HL F3 := (sF.trans s2).trans s3
    -- the larger widths
    refine ⟨.int wd, rfl, wd, 5, rfl, ⟨by omega, by omega, by decide, by decide⟩, fun D1 nD1 => ?_⟩
    refine lc_range (lo := wd) (n := (5 - wd).toNat) (fun j M => Same F3 M ∧ ∃ bs : List Bool, M D1 = some (.lst (bs.map V.bl)) ∧ bs.length = j ∧ (conD wd 3 d = true → ∀ b ∈ bs, b = true)) ⟨same_new nD1, [], upd_same, rfl, fun _ b h => absurd h (by simp)⟩ (fun j M hj hM => ?_) (fun M hM => ?_)
    · obtain ⟨sM, bs, eD1, lbs, hbs⟩ := hM
      refine ⟨rfl, ?_⟩
      refine t2i (i := 12) (j := 6) rfl rfl (ic_call (by omega) (by omega) (hd3.up sM) fun M2 sM2 => ⟨_, sM2 _ _ eD1, ?_, same_at (sM.trans sM2) nD1, bs ++ [conD (wd + (j : Int)) 3 d], ?_, ?_, fun e b hb => ?_⟩)
      · rw [List.length_map]
        have hb : (4 : Nat) < sizeLine := by decide
        omega
      · rw [upd_same, List.map_append]
        rfl
      · rw [List.length_append, lbs]
        rfl
      · rcases List.mem_append.mp hb with hb | hb
        · exact hbs e b hb
        · rw [List.mem_singleton.mp hb]
          exact con_more (by omega) e
    · obtain ⟨sM, bs, eD1, lbs, hbs⟩ := hM
      refine ⟨.bl (conD wd 3 d), rfl, conD wd 3 d, rfl, ?_⟩
      cases eo : conD wd 3 d with
      | false => exact iteF (iteF ⟨sL3.trans sM, _, _, _, _, _, _, rfl⟩)
      | true =>
        refine iteT ?_
        refine ⟨.ref D1, rfl, .inl ⟨rfl, _, .inl (.inl eD1)⟩, D1, _, .bl true, rfl, rfl, .inl (.inl eD1), rfl, flat_bools bs, .ref D1, rfl, D1, _, rfl, .inl (.inl (.inl eD1)), rfl, _, rfl, ?_⟩
        rw [count_all (hbs eo), List.length_map]
        exact iteNS rfl ⟨sL3.trans sM, _, _, _, _, _, _, rfl⟩
  · obtain ⟨sF, x6, x7, x8, x9, x11, x12, rfl⟩ := hF
    have kF : Keep l H1 F := kL.trans (Keep.of sF)
    have stF := stL.same sF
    have TF : LamX.Tabs [(P0, lawQ)] F := tabs_keep kF st1 T1
    have k5F : Keep l H5 F := k5L.trans (Keep.of sF)
    have epF : F p5 = some (.lst xs5) := k5F _ _ n5 e5
    have eGF : Same G F := fun b o e => kF b o (ne_of_none e nl) (s1 b o e)
    have h0 : 0 < ds5.length := by omega
    obtain ⟨y, ey, dy⟩ := x5.get (List.getElem?_eq_getElem h0)
    have dpo := dy.up k5F.same
    refine ⟨.ref l, rfl, TF, fun H8 e8 T8 => ⟨l, rfl, sto_ext stF e8, fun H9 v d k9 st9 hv bad E' hE Q' => ?_⟩⟩
    have ep9 : H9 p5 = some (.lst xs5) := k9 _ _ n5 (e8 _ _ epF fun ps z => by cases z)
    refine ⟨v, rfl, .ref p5, rfl, p5, xs5, 0, y, rfl, rfl, .inl (.inl ep9), atI_nat (j := 0) ey, y, ds5[0], v, d, rfl, hv, ?_, ?_⟩
    · exact ((dpo.ext (ext_hid e8)).up k9.same).up (hid_same l H9)
    · rw [if_neg (by rw [bad.b]; decide)]
      intro H10 dd s10 edd
      refine hE dd H10 s10 edd fun H11 s11 => ⟨true, rfl, iteF ?_⟩
      exact q H11 _ _ _ _ _ _ _ _ _ _ _ _ (fun b o e n => s11 _ _ (s10 _ _ (k9 _ _ (ne_of_none e nl) (e8 _ _ (eGF _ _ e) n)))) (((tabs_keep k9 (sto_ext stF e8) T8).ext s10).ext s11)
end
end R1

set_option maxRecDepth 100000
set_option maxHeartbeats 2000000
namespace R1
open PySem PySem.Spec PyProof.Rows L2 KX
/-! ### the law -/
theorem okGc {P : Program} {w : World} {K : PySem.W.Frag} {mg : Str → Option Value} {base : Heap} {x qual : Str} {st : Stmt} {f c0 : Addr} {oc kV doc pm ct : Value} {od an : Option Addr} {osl : Array (Option Value)} {N ps : List Str} {k : Nat} {sp : Sp}
    (lk : K.lookup f = some ⟨oc, od, .func (PySem.W.fnOf x qual (defArgs st) (defBody st) (defScope st) .none kV doc pm an (.ref c0) ct), osl⟩) (hcd : PySem.W.codeIn K (.ref c0) qual = true) (S : FnScope N ps (defScope st))
    (len : ∀ vs H Q E, sp vs H Q E → vs.length = ps.length)
    (hbody : ∀ (B : Around) (outs : List PySem.Env) (s : Shared) (H : Hp) (vs : List V) (Q : VK) (E : XK), (B.deeper (envOfC qual (defScope st) s.heap.objs.size f (.ref c0))).guards = some [] → Room k (B.deeper (envOfC qual (defScope st) s.heap.objs.size f (.ref c0))) →
      sp vs H Q E → ∃ t, PSs (cxOf CX0 P w K mg base N qual (defScope st) f (.ref c0) B outs s H E).nox (defBody st) t ∧ t { nx := fun _ H' => Q .non H', rt := Q } (L2.start N vs) H) :
    FnG P w K mg base CX0 (k + 1) f (PySem.W.fnOf x qual (defArgs st) (defBody st) (defScope st) .none kV doc pm an (.ref c0) ct) ps sp := by
  refine fn_ofG lk hcd S len fun B outs s H vs Q E hg hr hsp => ?_
  obtain ⟨t, h, q⟩ := hbody B outs s H vs Q E hg hr hsp
  exact ⟨t, h.nox, q⟩
theorem tabs_new {P0 : Addr} {q : Str} {H : Hp} (h : H P0 = some (.tbl #[])) : LamX.Tabs [(P0, q)] H := fun p hp => by
  cases List.mem_singleton.mp hp
  exact LamX.TabS.nil h
section
variable {P : Program} {w : World} {K : PySem.W.Frag} {mg : Str → Option Value} {base : Heap} {C fI : Addr} {gI : FuncData}
theorem ok_law {k : Nat} (h5 : 7 ≤ k) {fS fD fL fA fV fR fM fJ f c0 P0 : Addr} {gS gD gL gA gV gR gM gJ : FuncData} {oc kV doc pm ct : Value} {od an : Option Addr} {osl : Array (Option Value)} (B : Bl mg) (T : Ds P w K mg base (k + 2) C fI gI fS fD fL fA fV fR fM fJ gS gD gL gA gV gR gM gJ)
    (lk : K.lookup f = some ⟨oc, od, .func (PySem.W.fnOf "law" "law" (defArgs sLaw) (defBody sLaw) (defScope sLaw) .none kV doc pm an (.ref c0) ct), osl⟩) (hcd : PySem.W.codeIn K (.ref c0) "law" = true) (TB : LamX.TabB base mg c0 P0) :
    FnG P w K mg base CX0 (k + 3) f (PySem.W.fnOf "law" "law" (defArgs sLaw) (defBody sLaw) (defScope sLaw) .none kV doc pm an (.ref c0) ct) ["script"] (spLaw K P0) := by
  refine okGc lk hcd scLaw (fun vs H Q E h => ?_) (fun A outer s H vs Q E hgd hr h => ?_)
  · obtain ⟨a, ns, rfl, _⟩ := h
    rfl
  · obtain ⟨a, ns, rfl, hS, hl, hP, q⟩ := h
    have nd := scLaw.nd
    obtain ⟨tb, hb, hq⟩ := body_law h5 B T (f := f) (A := A) (outer := outer) (s := s) (H := H) (E := E) TB hgd hr (a := a) (ns := ns)
    refine ⟨_, pss_cons (ps_for PassesOwn.never rfl (pi_range1 (by rfl) B.range (pa_cons (pe_callB (call_max2 rfl) (by rfl) B.max (by decide +kernel) (pa_cons pe_int (pa_cons (pe_callB (call_min2 rfl) (by rfl) B.min (by decide +kernel)
          (pa_cons pe_int (pa_cons (pe_callB call_len_seq (by rfl) B.len PySem.boot_len (pa_cons (pv 0) pa_nil)) pa_nil))) pa_nil))) pa_nil)) (pg_name (i := 1) nd rfl (.inl rfl)) hb)
      (pss_one (ps_ret pe_bl)), ?_⟩
    refine ⟨.ref a, rfl, a, _, rfl, .inl hS, 20, _, rfl, 1, _, rfl, ?_⟩
    have hj : ∃ j : Nat, j ≤ 1000 ∧ (if (if ((ns.map V.int).length : Int) < 20 then ((ns.map V.int).length : Int) else 20) > 1 then (if ((ns.map V.int).length : Int) < 20 then ((ns.map V.int).length : Int) else 20) else 1) = (j : Int) := by
      rw [List.length_map]
      by_cases h1 : (ns.length : Int) < 20
      · rw [if_pos h1]
        by_cases h2 : (ns.length : Int) > 1
        · rw [if_pos h2]
          exact ⟨ns.length, by omega, rfl⟩
        · rw [if_neg h2]
          exact ⟨1, by decide, rfl⟩
      · rw [if_neg h1]
        exact ⟨20, by decide, rfl⟩
    obtain ⟨j, hj1, ej⟩ := hj
    refine ⟨_, rfl, ?_, ?_, ?_⟩
    · show (-(2 ^ 62) : Int) ≤ _
      rw [ej]
      omega
    · show (_ : Int) < 2 ^ 62
      rw [ej]
      omega
    · refine for_range (lo := 0) (n := Int.toNat _) (fun i σ G => LamX.ExtN H G ∧ LamX.Tabs [(P0, lawQ)] G ∧ ∃ o1 o2 o3 o4 o5 o6 o7 o8 o9 o10 o11 o12, σ = [some (.ref a), o1, o2, o3, o4, o5, o6, o7, o8, o9, o10, o11, o12]) ⟨LamX.ExtN.refl H, tabs_new hP, none, none, none, none, none, none, none, none, none, none, none, none, rfl⟩ (fun i σ G hi hp => ?_) (fun σ G hp => ?_)
      · obtain ⟨sm, tm, o1, o2, o3, o4, o5, o6, o7, o8, o9, o10, o11, o12, rfl⟩ := hp
        have hi3 : i < j := by
          have h := hi
          rw [show Int.toNat _ = j from congrArg Int.toNat ej] at h
          exact h
        exact hq _ G i o2 o3 o4 o5 o6 o7 o8 o9 o10 o11 o12 (seq_ext hS sm) (by omega) tm fun G' p1 p2 p3 p4 p5 p6 p7 p8 p9 p10 p11 p12 s' t' => ⟨sm.trans s', t', p1, p2, p3, p4, p5, p6, p7, p8, p9, p10, p11, p12, rfl⟩
      · exact q _
end
end R1

set_option maxRecDepth 100000
set_option maxHeartbeats 8000000
namespace R1
open PySem PySem.Spec PyProof.Rows L2 KX
/-! ### what the top has written -/
theorem df_mk {K : PySem.W.Frag} {h : Heap} {mg : Str → Option Value} {x : String} {st : Stmt} {ps : List Str} {f : Addr} {oc : Value} {od an : Option Addr} {sl : Array (Option Value)} {kV doc pm cd ct : Value} (X : K.In h) (G : h.Ns mainGlobals mg)
    (a : PySem.W.nsIn K mainGlobals x = some (some (.ref f))) (l : K.lookup f = some ⟨oc, od, .func (PySem.W.fnOf x x (defArgs st) (defBody st) (defScope st) .none kV doc pm an cd ct), sl⟩) (c : PySem.W.codeIn K cd x = true)
    (k : PySem.W.keepIn K (.ref f) = true) (hb : ∀ (kV doc pm : Value) (an : Option Addr) (cdv ct : Value) (us : List Value), us.length = ps.length → bindArgs (PySem.W.fnOf x x (defArgs st) (defBody st) (defScope st) .none kV doc pm an cdv ct) ⟨us, []⟩ = pure (ps.zip us)) :
    Df K mg x st ps f (PySem.W.fnOf x x (defArgs st) (defBody st) (defScope st) .none kV doc pm an cd ct) :=
  ⟨fun_mk l c k, (fun_mk l c k).binds hb, PySem.W.mg_of X G a⟩
theorem all_mk {l : PySem.W.OpenLaw} {w : World} {K : PySem.W.Frag} {h : Heap} {mg : Str → Option Value} {fa : Addr} {C fI : Addr} {ocI : Value} {odI anI : Option Addr} {slI : Array (Option Value)} {kVI docI pmI cdI ctI : Value} {tq : Addr} {odtq : Option Addr} {sltq : Array (Option Value)} {ktq0 ktq1 ktq2 : Tok} {ntq : Nat} {tu : Addr} {odtu : Option Addr} {sltu : Array (Option Value)} {ktu0 ktu1 : Tok} {ntu : Nat} {PL : Addr} {eL : Value} {ddL : Option Addr} {vsL : Array Value} {slL : Array (Option Value)} (X : K.In h) (G : h.Ns mainGlobals mg) (hfa : mg "law" = some (.ref fa))
    {f0 : Addr} {oc0 : Value} {od0 an0 : Option Addr} {sl0 : Array (Option Value)} {kV0 doc0 pm0 cd0 ct0 : Value} (a0 : PySem.W.nsIn K mainGlobals "is_between" = some (some (.ref f0))) (l0 : K.lookup f0 = some ⟨oc0, od0, .func (PySem.W.fnOf "is_between" "is_between" (defArgs sBetween) (defBody sBetween) (defScope sBetween) .none kV0 doc0 pm0 an0 cd0 ct0), sl0⟩) (c0 : PySem.W.codeIn K cd0 "is_between" = true) (k0 : PySem.W.keepIn K (.ref f0) = true)
    {f1 : Addr} {oc1 : Value} {od1 an1 : Option Addr} {sl1 : Array (Option Value)} {kV1 doc1 pm1 cd1 ct1 : Value} (a1 : PySem.W.nsIn K mainGlobals "check_between" = some (some (.ref f1))) (l1 : K.lookup f1 = some ⟨oc1, od1, .func (PySem.W.fnOf "check_between" "check_between" (defArgs sCk) (defBody sCk) (defScope sCk) .none kV1 doc1 pm1 an1 cd1 ct1), sl1⟩) (c1 : PySem.W.codeIn K cd1 "check_between" = true) (k1 : PySem.W.keepIn K (.ref f1) = true)
    {f2 : Addr} {oc2 : Value} {od2 an2 : Option Addr} {sl2 : Array (Option Value)} {kV2 doc2 pm2 cd2 ct2 : Value} (a2 : PySem.W.nsIn K mainGlobals "is_tuple_between" = some (some (.ref f2))) (l2 : K.lookup f2 = some ⟨oc2, od2, .func (PySem.W.fnOf "is_tuple_between" "is_tuple_between" (defArgs sTupB) (defBody sTupB) (defScope sTupB) .none kV2 doc2 pm2 an2 cd2 ct2), sl2⟩) (c2 : PySem.W.codeIn K cd2 "is_tuple_between" = true) (k2 : PySem.W.keepIn K (.ref f2) = true)
    {f3 : Addr} {oc3 : Value} {od3 an3 : Option Addr} {sl3 : Array (Option Value)} {kV3 doc3 pm3 cd3 ct3 : Value} (a3 : PySem.W.nsIn K mainGlobals "check_width" = some (some (.ref f3))) (l3 : K.lookup f3 = some ⟨oc3, od3, .func (PySem.W.fnOf "check_width" "check_width" (defArgs sCw) (defBody sCw) (defScope sCw) .none kV3 doc3 pm3 an3 cd3 ct3), sl3⟩) (c3 : PySem.W.codeIn K cd3 "check_width" = true) (k3 : PySem.W.keepIn K (.ref f3) = true)
    {f4 : Addr} {oc4 : Value} {od4 an4 : Option Addr} {sl4 : Array (Option Value)} {kV4 doc4 pm4 cd4 ct4 : Value} (a4 : PySem.W.nsIn K mainGlobals "is_condition" = some (some (.ref f4))) (l4 : K.lookup f4 = some ⟨oc4, od4, .func (PySem.W.fnOf "is_condition" "is_condition" (defArgs sIC) (defBody sIC) (defScope sIC) .none kV4 doc4 pm4 an4 cd4 ct4), sl4⟩) (c4 : PySem.W.codeIn K cd4 "is_condition" = true) (k4 : PySem.W.keepIn K (.ref f4) = true)
    {f5 : Addr} {oc5 : Value} {od5 an5 : Option Addr} {sl5 : Array (Option Value)} {kV5 doc5 pm5 cd5 ct5 : Value} (a5 : PySem.W.nsIn K mainGlobals "is_condition_within" = some (some (.ref f5))) (l5 : K.lookup f5 = some ⟨oc5, od5, .func (PySem.W.fnOf "is_condition_within" "is_condition_within" (defArgs sWi) (defBody sWi) (defScope sWi) .none kV5 doc5 pm5 an5 cd5 ct5), sl5⟩) (c5 : PySem.W.codeIn K cd5 "is_condition_within" = true) (k5 : PySem.W.keepIn K (.ref f5) = true)
    {f6 : Addr} {oc6 : Value} {od6 an6 : Option Addr} {sl6 : Array (Option Value)} {kV6 doc6 pm6 cd6 ct6 : Value} (a6 : PySem.W.nsIn K mainGlobals "is_comparison" = some (some (.ref f6))) (l6 : K.lookup f6 = some ⟨oc6, od6, .func (PySem.W.fnOf "is_comparison" "is_comparison" (defArgs sCp) (defBody sCp) (defScope sCp) .none kV6 doc6 pm6 an6 cd6 ct6), sl6⟩) (c6 : PySem.W.codeIn K cd6 "is_comparison" = true) (k6 : PySem.W.keepIn K (.ref f6) = true)
    {f7 : Addr} {oc7 : Value} {od7 an7 : Option Addr} {sl7 : Array (Option Value)} {kV7 doc7 pm7 cd7 ct7 : Value} (a7 : PySem.W.nsIn K mainGlobals "_law_stream" = some (some (.ref f7))) (l7 : K.lookup f7 = some ⟨oc7, od7, .func (PySem.W.fnOf "_law_stream" "_law_stream" (defArgs sStream) (defBody sStream) (defScope sStream) .none kV7 doc7 pm7 an7 cd7 ct7), sl7⟩) (c7 : PySem.W.codeIn K cd7 "_law_stream" = true) (k7 : PySem.W.keepIn K (.ref f7) = true)
    {f8 : Addr} {oc8 : Value} {od8 an8 : Option Addr} {sl8 : Array (Option Value)} {kV8 doc8 pm8 cd8 ct8 : Value} (a8 : PySem.W.nsIn K mainGlobals "_law_draw" = some (some (.ref f8))) (l8 : K.lookup f8 = some ⟨oc8, od8, .func (PySem.W.fnOf "_law_draw" "_law_draw" (defArgs sDraw) (defBody sDraw) (defScope sDraw) .none kV8 doc8 pm8 an8 cd8 ct8), sl8⟩) (c8 : PySem.W.codeIn K cd8 "_law_draw" = true) (k8 : PySem.W.keepIn K (.ref f8) = true)
    {f9 : Addr} {oc9 : Value} {od9 an9 : Option Addr} {sl9 : Array (Option Value)} {kV9 doc9 pm9 cd9 ct9 : Value} (a9 : PySem.W.nsIn K mainGlobals "_law_condition" = some (some (.ref f9))) (l9 : K.lookup f9 = some ⟨oc9, od9, .func (PySem.W.fnOf "_law_condition" "_law_condition" (defArgs sLCo) (defBody sLCo) (defScope sLCo) .none kV9 doc9 pm9 an9 cd9 ct9), sl9⟩) (c9 : PySem.W.codeIn K cd9 "_law_condition" = true) (k9 : PySem.W.keepIn K (.ref f9) = true)
    {f10 : Addr} {oc10 : Value} {od10 an10 : Option Addr} {sl10 : Array (Option Value)} {kV10 doc10 pm10 cd10 ct10 : Value} (a10 : PySem.W.nsIn K mainGlobals "_law_any_value" = some (some (.ref f10))) (l10 : K.lookup f10 = some ⟨oc10, od10, .func (PySem.W.fnOf "_law_any_value" "_law_any_value" (defArgs sAV) (defBody sAV) (defScope sAV) .none kV10 doc10 pm10 an10 cd10 ct10), sl10⟩) (c10 : PySem.W.codeIn K cd10 "_law_any_value" = true) (k10 : PySem.W.keepIn K (.ref f10) = true)
    {f11 : Addr} {oc11 : Value} {od11 an11 : Option Addr} {sl11 : Array (Option Value)} {kV11 doc11 pm11 cd11 ct11 : Value} (a11 : PySem.W.nsIn K mainGlobals "_law_mutated" = some (some (.ref f11))) (l11 : K.lookup f11 = some ⟨oc11, od11, .func (PySem.W.fnOf "_law_mutated" "_law_mutated" (defArgs sMu) (defBody sMu) (defScope sMu) .none kV11 doc11 pm11 an11 cd11 ct11), sl11⟩) (c11 : PySem.W.codeIn K cd11 "_law_mutated" = true) (k11 : PySem.W.keepIn K (.ref f11) = true)
    {f12 : Addr} {oc12 : Value} {od12 an12 : Option Addr} {sl12 : Array (Option Value)} {kV12 doc12 pm12 cd12 ct12 : Value} (a12 : PySem.W.nsIn K mainGlobals "_law_rejects_width" = some (some (.ref f12))) (l12 : K.lookup f12 = some ⟨oc12, od12, .func (PySem.W.fnOf "_law_rejects_width" "_law_rejects_width" (defArgs sRj) (defBody sRj) (defScope sRj) .none kV12 doc12 pm12 an12 cd12 ct12), sl12⟩) (c12 : PySem.W.codeIn K cd12 "_law_rejects_width" = true) (k12 : PySem.W.keepIn K (.ref f12) = true)
    {f13 : Addr} {oc13 : Value} {od13 an13 : Option Addr} {sl13 : Array (Option Value)} {kV13 doc13 pm13 cd13 ct13 : Value} (a13 : PySem.W.nsIn K mainGlobals "_law_is_valid" = some (some (.ref f13))) (l13 : K.lookup f13 = some ⟨oc13, od13, .func (PySem.W.fnOf "_law_is_valid" "_law_is_valid" (defArgs sVa) (defBody sVa) (defScope sVa) .none kV13 doc13 pm13 an13 cd13 ct13), sl13⟩) (c13 : PySem.W.codeIn K cd13 "_law_is_valid" = true) (k13 : PySem.W.keepIn K (.ref f13) = true)
    {f14 : Addr} {oc14 : Value} {od14 an14 : Option Addr} {sl14 : Array (Option Value)} {kV14 doc14 pm14 cd14 ct14 : Value} (a14 : PySem.W.nsIn K mainGlobals "_law_samples" = some (some (.ref f14))) (l14 : K.lookup f14 = some ⟨oc14, od14, .func (PySem.W.fnOf "_law_samples" "_law_samples" (defArgs sSm) (defBody sSm) (defScope sSm) .none kV14 doc14 pm14 an14 cd14 ct14), sl14⟩) (c14 : PySem.W.codeIn K cd14 "_law_samples" = true) (k14 : PySem.W.keepIn K (.ref f14) = true)
    {f15 : Addr} {oc15 : Value} {od15 an15 : Option Addr} {sl15 : Array (Option Value)} {kV15 doc15 pm15 ct15 : Value} {cL : Addr} (a15 : PySem.W.nsIn K mainGlobals "law" = some (some (.ref f15))) (l15 : K.lookup f15 = some ⟨oc15, od15, .func (PySem.W.fnOf "law" "law" (defArgs sLaw) (defBody sLaw) (defScope sLaw) .none kV15 doc15 pm15 an15 (.ref cL) ct15), sl15⟩) (c15 : PySem.W.codeIn K (.ref cL) "law" = true) (k15 : PySem.W.keepIn K (.ref f15) = true)
    (b0 : PySem.W.nsIn K mainGlobals "isinstance" = some none)
    (b1 : PySem.W.nsIn K mainGlobals "bool" = some none)
    (b2 : PySem.W.nsIn K mainGlobals "int" = some none)
    (b3 : PySem.W.nsIn K mainGlobals "str" = some none)
    (b4 : PySem.W.nsIn K mainGlobals "tuple" = some none)
    (b5 : PySem.W.nsIn K mainGlobals "list" = some none)
    (b6 : PySem.W.nsIn K mainGlobals "len" = some none)
    (b7 : PySem.W.nsIn K mainGlobals "all" = some none)
    (b8 : PySem.W.nsIn K mainGlobals "range" = some none)
    (b9 : PySem.W.nsIn K mainGlobals "max" = some none)
    (b10 : PySem.W.nsIn K mainGlobals "min" = some none)
    (b11 : PySem.W.nsIn K mainGlobals "abs" = some none)
    (b12 : PySem.W.nsIn K mainGlobals "repr" = some none)
    (b13 : PySem.W.nsIn K mainGlobals "sorted" = some none)
    (b14 : PySem.W.nsIn K mainGlobals "IndexError" = some none)
    (b15 : PySem.W.nsIn K mainGlobals "ValueError" = some none)
    {t0 : Tok} (v0 : PySem.W.nsIn K mainGlobals "MAX_WIDTH" = some (some (.int 4 t0)))
    {t1 : Tok} (v1 : PySem.W.nsIn K mainGlobals "MAX_VALUE" = some (some (.int 1000000000 t1)))
    {t2 : Tok} (v2 : PySem.W.nsIn K mainGlobals "MAX_CONDITION_NESTING" = some (some (.int 3 t2)))
    {t3 : Tok} (v3 : PySem.W.nsIn K mainGlobals "MAX_PARTS" = some (some (.int 4 t3)))
    (aC : PySem.W.nsIn K mainGlobals "InvalidNumber" = some (some (.ref C)))
    (x1 : PySem.W.excInitIn K C ixTl "IndexError.__new__" = true)
    (x2 : PySem.W.excOver K C ixTl = true)
    (x3 : PySem.W.findIn K (.ref C) "__setattr__" = some (some (.builtin "object.__setattr__")))
    (x4 : PySem.W.hasDictIn K C = true)
    (x5 : PySem.W.subIn K (.ref C) (.type "BaseException") = some true)
    (x6 : PySem.W.typeIn K (.ref C) = some (.type "type"))
    (x7 : PySem.W.keepIn K (.ref C) = true)
    (y1 : PySem.W.findIn K (.ref C) "__getattribute__" = some (some (.builtin "BaseException.__getattribute__")))
    (y2 : PySem.W.findIn K (.ref C) "__getattr__" = some none)
    (y3 : PySem.W.findIn K (.ref C) "__class__" = some (some (.builtin "object.__class__")))
    (y4 : PySem.W.specialIn K (.builtin "object.__class__") "__get__" = some (some (.builtin "getset_descriptor.__get__")))
    (y5 : PySem.W.takesIn K (.builtin "object.__class__") = some true)
    (y6 : PySem.W.mroIn K C (.type "object") = some true)
    (z1 : PySem.W.findIn K (.ref C) "value" = some none)
    (z2 : PySem.W.findIn K (.ref C) "__init__" = some (some (.ref fI)))
    (z3 : PySem.W.typeIn K (.ref fI) = some (.type "function"))
    (z4 : PySem.W.findCls K (.type "IndexError") (.type "type") "__init__" = some (.val (.builtin "IndexError.__init__")))
    (z5 : K.lookup fI = some ⟨ocI, odI, .func (PySem.W.fnOf "__init__" "InvalidNumber.__init__" (defArgs sInit) (defBody sInit) (defScope sInit) .none kVI docI pmI anI cdI ctI), slI⟩)
    (z6 : PySem.W.codeIn K cdI "InvalidNumber.__init__" = true)
    (z7 : PySem.W.keepIn K (.ref fI) = true)
    (cc : PySem.W.subIn K (.ref C) (.ref C) = some true)
    (d1 : PySem.W.nsIn K mainGlobals "COMPARISONS" = some (some (.ref tq)))
    (d2 : K.lookup tq = some ⟨.type "tuple", odtq, .seq #[.str "ge" ktq0, .str "le" ktq1, .str "eq" ktq2] ntq, sltq⟩)
    (d3 : PySem.W.nsIn K mainGlobals "CONNECTIVES" = some (some (.ref tu)))
    (d4 : K.lookup tu = some ⟨.type "tuple", odtu, .seq #[.str "and" ktu0, .str "or" ktu1] ntu, sltu⟩)
    (t1 : K.lookup cL = some ⟨eL, ddL, .fields vsL, slL⟩)
    (t2 : vsL[11]? = some (.ref PL))
    (t3 : PySem.W.codeHdIn K cL PL = true)
    (t4 : K.lookup PL = none)
    (t5 : h.get? PL = some { cls := .none, data := .fields #[] })
    : ∃ (fd : FuncData) (cs : List (Addr × Addr)) (sp : Sp), (∀ p ∈ cs, h.get? p.2 = some { cls := .none, data := .fields #[] }) ∧ (∀ p ∈ cs, K.lookup p.2 = none) ∧ (∀ p ∈ cs, PySem.W.CodeHd h p.1 p.2) ∧ (∀ (s : Shared) (u : Value), BindsTo s fd ⟨[u], []⟩ [("script", u)]) ∧
        (∀ (H : Hp) (a : Addr) (ns : List Int), ns.length ≤ 63 → (∀ p ∈ cs, H p.2 = some (.tbl #[])) → SqL K H a (ns.map V.int) → sp [.ref a] H (fun v _ => v = .bl true) fun _ _ _ => False) ∧
        ∀ base : Heap, K.In base → base.Ns mainGlobals mg → (∀ p ∈ cs, LamX.TabB base mg p.1 p.2) → FnG l.prog w K mg base CX0 12 fa fd ["script"] sp := by
  have e := hfa.symm.trans (PySem.W.mg_of X G a15)
  cases e
  have E0 := df_mk (ps := ["value", "low", "high"]) X G a0 l0 c0 k0 (fun _ _ _ _ _ _ us hl => match us, hl with | [_, _, _], _ => rfl)
  have E1 := df_mk (ps := ["value", "low", "high"]) X G a1 l1 c1 k1 (fun _ _ _ _ _ _ us hl => match us, hl with | [_, _, _], _ => rfl)
  have E2 := df_mk (ps := ["value", "low", "high"]) X G a2 l2 c2 k2 (fun _ _ _ _ _ _ us hl => match us, hl with | [_, _, _], _ => rfl)
  have E3 := df_mk (ps := ["width"]) X G a3 l3 c3 k3 (fun _ _ _ _ _ _ us hl => match us, hl with | [_], _ => rfl)
  have E4 := df_mk (ps := ["width", "value"]) X G a4 l4 c4 k4 (fun _ _ _ _ _ _ us hl => match us, hl with | [_, _], _ => rfl)
  have E5 := df_mk (ps := ["width", "value", "nesting"]) X G a5 l5 c5 k5 (fun _ _ _ _ _ _ us hl => match us, hl with | [_, _, _], _ => rfl)
  have E6 := df_mk (ps := ["width", "triple"]) X G a6 l6 c6 k6 (fun _ _ _ _ _ _ us hl => match us, hl with | [_, _], _ => rfl)
  have E7 := df_mk (ps := ["script", "at"]) X G a7 l7 c7 k7 (fun _ _ _ _ _ _ us hl => match us, hl with | [_, _], _ => rfl)
  have E8 := df_mk (ps := ["stream", "total"]) X G a8 l8 c8 k8 (fun _ _ _ _ _ _ us hl => match us, hl with | [_, _], _ => rfl)
  have E9 := df_mk (ps := ["stream", "wide", "deep"]) X G a9 l9 c9 k9 (fun _ _ _ _ _ _ us hl => match us, hl with | [_, _, _], _ => rfl)
  have E10 := df_mk (ps := ["stream"]) X G a10 l10 c10 k10 (fun _ _ _ _ _ _ us hl => match us, hl with | [_], _ => rfl)
  have E11 := df_mk (ps := ["stream", "value", "deep"]) X G a11 l11 c11 k11 (fun _ _ _ _ _ _ us hl => match us, hl with | [_, _, _], _ => rfl)
  have E12 := df_mk (ps := ["stream", "call"]) X G a12 l12 c12 k12 (fun _ _ _ _ _ _ us hl => match us, hl with | [_, _], _ => rfl)
  have E13 := df_mk (ps := ["width", "value", "deep"]) X G a13 l13 c13 k13 (fun _ _ _ _ _ _ us hl => match us, hl with | [_, _, _], _ => rfl)
  have E14 := df_mk (ps := ["stream", "width"]) X G a14 l14 c14 k14 (fun _ _ _ _ _ _ us hl => match us, hl with | [_, _], _ => rfl)
  have B : Bl mg := ⟨PySem.W.mg_none_of X G b0, PySem.W.mg_none_of X G b1, PySem.W.mg_none_of X G b2, PySem.W.mg_none_of X G b3, PySem.W.mg_none_of X G b4, PySem.W.mg_none_of X G b5, PySem.W.mg_none_of X G b6, PySem.W.mg_none_of X G b7, PySem.W.mg_none_of X G b8, PySem.W.mg_none_of X G b9, PySem.W.mg_none_of X G b10, PySem.W.mg_none_of X G b11, PySem.W.mg_none_of X G b12, PySem.W.mg_none_of X G b13, PySem.W.mg_none_of X G b14, PySem.W.mg_none_of X G b15⟩
  have Cc : Cj K mg := ⟨⟨_, PySem.W.mg_of X G v0⟩, ⟨_, PySem.W.mg_of X G v1⟩, ⟨_, PySem.W.mg_of X G v2⟩, ⟨_, PySem.W.mg_of X G v3⟩, ⟨tq, PySem.W.mg_of X G d1, _, _, _, d2, rfl, rfl, by show 3 ≤ sizeLine; decide, .cons ⟨_, rfl⟩ (.cons ⟨_, rfl⟩ (.cons ⟨_, rfl⟩ .nil))⟩, ⟨tu, PySem.W.mg_of X G d3, _, _, _, d4, rfl, rfl, by show 2 ≤ sizeLine; decide, .cons ⟨_, rfl⟩ (.cons ⟨_, rfl⟩ .nil)⟩⟩
  have FI := fun_mk (st := sInit) z5 z6 z7
  have T : IN K mg C fI _ := ⟨PySem.W.mg_of X G aC, ⟨ixB, x1, x2, x3, x4, x5, x6, x7⟩, ⟨y1, y2, x5, x4, y3, y4, y5, y6⟩, z1, z2, z3, z4, FI, FI.binds (ps := ["self", "value"]) fun _ _ _ _ _ _ us hl => match us, hl with | [_, _], _ => rfl⟩
  refine ⟨PySem.W.fnOf "law" "law" (defArgs sLaw) (defBody sLaw) (defScope sLaw) .none kV15 doc15 pm15 an15 (.ref cL) ct15, [(cL, PL)], spLaw K PL, fun p hp => ?_, fun p hp => ?_, fun p hp => ?_, fun s v => .of_eq rfl, fun H a ns hl hP hS => ⟨a, ns, rfl, hS, hl, hP _ (List.mem_singleton.mpr rfl), fun _ => rfl⟩, fun base _ _ hT => ?_⟩
  · cases List.mem_singleton.mp hp
    exact t5
  · cases List.mem_singleton.mp hp
    exact t4
  · cases List.mem_singleton.mp hp
    exact PySem.W.codeHd_of_K X t3
  have TB := hT _ (List.mem_singleton.mpr rfl)
  have oCw := ok_cw (P := l.prog) (w := w) (base := base) B Cc T E3 E1 E0
  have oWi := ok_wi (P := l.prog) (w := w) (base := base) B Cc E5 E0 E2 E6 3
  have oIC := ok_ic (P := l.prog) (w := w) (base := base) Cc E4 E3 E5 (oCw.mono (by decide)) (oWi.mono (by decide))
  have oD := ok_draw (P := l.prog) (w := w) (base := base) B E8
  have oA := ok_av (P := l.prog) (w := w) (base := base) B E10 E8
  have oMu := ok_mu (P := l.prog) (w := w) (base := base) B E11 E8 E10 4
  have oV := ok_va (P := l.prog) (w := w) (base := base) B E13 3
  have oL := ok_sm (P := l.prog) (w := w) (base := base) (k := 5) B E14 E9 ((ok_lco B E9 E8 2).mono (by decide)) ((ok_lco B E9 E8 1).mono (by decide)) ((ok_lco B E9 E8 0).mono (by decide))
  exact ok_law (k := 9) (by decide) B (T := ⟨E7, E8, E14, E4, E13, E11, E10, E12, T, cc, (ok_stream B E7).mono (by decide), oD.mono (by decide), oL.mono (by decide), oIC.mono (by decide), oV.mono (by decide), oMu.mono (by decide), oA.mono (by decide), oD.mono (by decide), oIC.mono (by decide)⟩) l15 c15 TB
end R1
open PySem PySem.W PyProof.Rows
set_option maxHeartbeats 0 in
theorem PySem.Challenge.cw_spareskept_k09_is_condition_holds : PySem.Challenge.rw_spareskept_k09_is_condition.Holds := by
  w_on; o_law; k_head; (case hw => w_witness2)
  k_fill
  refine KX.walkGY (l := PySem.Challenge.rw_spareskept_k09_is_condition) (n := 63) (k := 12) (x := "script") rfl (by decide) rfl ⟨rfl, by decide, by decide⟩ (fun w h Y => PySem.W.km_in_of Y) ?F
  case F =>
    intro w mg fa h KX G hmg Y
    refine' R1.all_mk KX G hmg ?a0 ?l0 ?c0 ?k0 ?a1 ?l1 ?c1 ?k1 ?a2 ?l2 ?c2 ?k2 ?a3 ?l3 ?c3 ?k3 ?a4 ?l4 ?c4 ?k4 ?a5 ?l5 ?c5 ?k5 ?a6 ?l6 ?c6 ?k6 ?a7 ?l7 ?c7 ?k7 ?a8 ?l8 ?c8 ?k8 ?a9 ?l9 ?c9 ?k9 ?a10 ?l10 ?c10 ?k10 ?a11 ?l11 ?c11 ?k11 ?a12 ?l12 ?c12 ?k12 ?a13 ?l13 ?c13 ?k13 ?a14 ?l14 ?c14 ?k14 ?a15 ?l15 ?c15 ?k15 ?b0 ?b1 ?b2 ?b3 ?b4 ?b5 ?b6 ?b7 ?b8 ?b9 ?b10 ?b11 ?b12 ?b13 ?b14 ?b15 ?v0 ?v1 ?v2 ?v3 ?aC ?x1 ?x2 ?x3 ?x4 ?x5 ?x6 ?x7 ?y1 ?y2 ?y3 ?y4 ?y5 ?y6 ?z1 ?z2 ?z3 ?z4 ?z5 ?z6 ?z7 ?cc ?d1 ?d2 ?d3 ?d4 ?t1 ?t2 ?t3 ?t4 ?t5
    (case a0 => k_is); (case l0 => k_is); (case c0 => k_is); (case k0 => k_is)
    (case a1 => k_is); (case l1 => k_is); (case c1 => k_is); (case k1 => k_is)
    (case a2 => k_is); (case l2 => k_is); (case c2 => k_is); (case k2 => k_is)
    (case a3 => k_is); (case l3 => k_is); (case c3 => k_is); (case k3 => k_is)
    (case a4 => k_is); (case l4 => k_is); (case c4 => k_is); (case k4 => k_is)
    (case a5 => k_is); (case l5 => k_is); (case c5 => k_is); (case k5 => k_is)
    (case a6 => k_is); (case l6 => k_is); (case c6 => k_is); (case k6 => k_is)
    (case a7 => k_is); (case l7 => k_is); (case c7 => k_is); (case k7 => k_is)
    (case a8 => k_is); (case l8 => k_is); (case c8 => k_is); (case k8 => k_is)
    (case a9 => k_is); (case l9 => k_is); (case c9 => k_is); (case k9 => k_is)
    (case a10 => k_is); (case l10 => k_is); (case c10 => k_is); (case k10 => k_is)
    (case a11 => k_is); (case l11 => k_is); (case c11 => k_is); (case k11 => k_is)
    (case a12 => k_is); (case l12 => k_is); (case c12 => k_is); (case k12 => k_is)
    (case a13 => k_is); (case l13 => k_is); (case c13 => k_is); (case k13 => k_is)
    (case a14 => k_is); (case l14 => k_is); (case c14 => k_is); (case k14 => k_is)
    (case a15 => k_is); (case l15 => k_is); (case c15 => k_is); (case k15 => k_is)
    (case b0 => k_is); (case b1 => k_is); (case b2 => k_is); (case b3 => k_is); (case b4 => k_is); (case b5 => k_is); (case b6 => k_is); (case b7 => k_is); (case b8 => k_is); (case b9 => k_is); (case b10 => k_is); (case b11 => k_is); (case b12 => k_is); (case b13 => k_is); (case b14 => k_is); (case b15 => k_is)
    (case v0 => k_is); (case v1 => k_is); (case v2 => k_is); (case v3 => k_is)
    (case aC => first | k_is | rfl | k_exc)
    (case z2 => first | k_is | rfl | k_exc)
    (case d1 => first | k_is | rfl | k_exc)
    (case d3 => first | k_is | rfl | k_exc)
    (case t1 => first | k_is | rfl | k_exc)
    (case t2 => first | k_is | rfl | k_exc)
    (case x1 => first | k_is | rfl | k_exc)
    (case x2 => first | k_is | rfl | k_exc)
    (case x3 => first | k_is | rfl | k_exc)
    (case x4 => first | k_is | rfl | k_exc)
    (case x5 => first | k_is | rfl | k_exc)
    (case x6 => first | k_is | rfl | k_exc)
    (case x7 => first | k_is | rfl | k_exc)
    (case y1 => first | k_is | rfl | k_exc)
    (case y2 => first | k_is | rfl | k_exc)
    (case y3 => first | k_is | rfl | k_exc)
    (case y4 => first | k_is | rfl | k_exc)
    (case y5 => first | k_is | rfl | k_exc)
    (case y6 => first | k_is | rfl | k_exc)
    (case z1 => first | k_is | rfl | k_exc)
    (case z3 => first | k_is | rfl | k_exc)
    (case z4 => first | k_is | rfl | k_exc)
    (case z5 => first | k_is | rfl | k_exc)
    (case z6 => first | k_is | rfl | k_exc)
    (case z7 => first | k_is | rfl | k_exc)
    (case cc => first | k_is | rfl | k_exc)
    (case d2 => first | k_is | rfl | k_exc)
    (case d4 => first | k_is | rfl | k_exc)
    (case t3 => first | k_is | rfl | k_exc)
    (case t4 => first | k_is | rfl | k_exc)
    (case t5 => exact PySem.W.km_tabs_of Y _ (by first | k_mem | simp))
