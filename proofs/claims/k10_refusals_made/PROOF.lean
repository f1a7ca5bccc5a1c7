import PyProof.Rows.All
import Wide.All
import OpenK.AllK
import Wide.FinOn
import Lean
import PyProof.EqAt
import PyProof.EqKinds
import PyProof.TupleCall
import PyProof.ExcInit
import PyProof.ExcClass2
import PyProof.InstStore
import PyProof.InstStoreFacts
import PyProof.ExcArgsOwn
import PyProof.ExcAttrAll.ValueError
import PyProof.ExcBaseAll.ValueError
import PySem.Challenge.RW_sheetlay_k10_refusals_made
set_option Elab.async false
set_option linter.all false
set_option maxRecDepth 100000
set_option compiler.extract_closed false
namespace PySem
open Sem (wp)
section
variable {prog : Program} {w : World} {K : Type} [DecidableEq K] (knd : KeyKind prog w K)
inductive Its2 (h : Heap) : List (List K) → List Value → Prop
  | nil : Its2 h [] []
  | cons {ks : List K} {a : Addr} {kss : List (List K)} {vs : List Value} : IsTupleKey knd h ks a → Its2 h kss vs → Its2 h (ks :: kss) (.ref a :: vs)
def IsKey2 (h : Heap) (kss : List (List K)) (a : Addr) : Prop := ∃ ob its m, h.get? a = some ob ∧ ob.cls = .type "tuple" ∧ ob.data = .seq its m ∧ Its2 knd h kss its.toList
variable {knd}
theorem Its2.inj {h : Heap} {x y : List (List K)} {vs : List Value} (p : Its2 knd h x vs) : Its2 knd h y vs → x = y := by
  induction p generalizing y with
  | nil => intro q; cases q; rfl
  | cons h1 _ ih =>
    intro q
    cases q with
    | cons h2 t2 => rw [h1.inj h2, ih t2]
theorem IsKey2.typeIs {s : Shared} {kss : List (List K)} {a : Addr} (x : IsKey2 knd s.heap kss a) : s.TypeIs (.ref a) "tuple" := by
  obtain ⟨ob, _, _, ho, hc, _⟩ := x
  exact ⟨ob, ho, hc⟩
theorem IsKey2.inj {h : Heap} {a : Addr} {x y : List (List K)} (p : IsKey2 knd h x a) (q : IsKey2 knd h y a) : x = y := by
  obtain ⟨o1, i1, n1, a1, _, b1, c1⟩ := p
  obtain ⟨o2, i2, n2, a2, _, b2, c2⟩ := q
  rw [a1] at a2
  cases a2
  rw [b1] at b2
  injection b2 with b2 _
  subst b2
  exact c1.inj c2
theorem Its2.keeps {h h' : Heap} {kss : List (List K)} {vs : List Value} {d : Addr} {ob : Obj} {es ep} (x : Its2 knd h kss vs) (ho : h.get? d = some ob) (hd : ob.data = .dict es ep) (hs : Heap.SameBut d h h') : Its2 knd h' kss vs := by
  induction x with
  | nil => exact .nil
  | cons h1 _ ih => exact .cons (h1.keeps ho hd hs) ih
theorem IsKey2.keeps {h h' : Heap} {kss : List (List K)} {a d : Addr} {ob : Obj} {es ep} (x : IsKey2 knd h kss a) (ho : h.get? d = some ob) (hd : ob.data = .dict es ep) (hs : Heap.SameBut d h h') : IsKey2 knd h' kss a := by
  obtain ⟨o1, i1, n1, a1, c1, b1, r1⟩ := x
  have ne : a ≠ d := by
    intro e
    rw [e, ho] at a1
    cases a1
    rw [hd] at b1
    cases b1
  exact ⟨o1, i1, n1, (hs.2 a ne).trans a1, c1, b1, r1.keeps ho hd hs⟩
def hash2 (knd : KeyKind prog w K) (kss : List (List K)) : Int := reduceHash (Builtin.Tuple.tupleHashOf (kss.map (tupleKeyHash knd)))
def drw2 : List (List K) → Nat
  | [] => 0
  | ks :: r => (ks.length + 1) + drw2 r
theorem drw2_app : ∀ (x y : List (List K)), drw2 (x ++ y) = drw2 x + drw2 y
  | [], y => by simp [drw2]
  | a :: x, y => by simp only [List.cons_append, drw2, drw2_app x y]; omega
variable {A : Around} {E : Value → Shared → Prop} {s : Shared}
theorem pyHash2 {kss : List (List K)} {a : Addr} {Q : Int → Shared → Prop} (hu : A.units + 4 < cLine) (hk : IsKey2 knd s.heap kss a) (q : Q (hash2 knd kss) { s with toks := s.toks + (drw2 kss + 1) }) :
    wpAny (model prog w) A (pyHash (.ref a)) Q E s := by
  have ty := hk.typeIs
  obtain ⟨ob, its, m, ho, _, hd, hi⟩ := hk
  unfold pyHash
  first | unfold pyHashByItsType | skip
  first | refine wpAny_bind (wpAny_cRoomFor_or (.inr (by omega)) ?_) | skip
  refine wpAny_bind (wpAny_specialOf ty F.slot_tuple_hash.lookup ?_)
  show wpAny _ _ (if (some (Value.builtin "tuple.__hash__") == some Value.none) = true then _ else _) Q E s
  rw [if_neg (by rw [beq_builtin_none]; exact Bool.false_ne_true)]
  refine wpAny_bind (wpAny_specialOf ty F.slot_tuple_hash.lookup ?_)
  show wpAny _ _ (callSpecialIfBoundUnlessNone? (.ref a) "__hash__" _ >>= _) Q E s
  refine wpAny_bind (wpAny_callSpecialIfBoundUnlessNone?_slot ty F.slot_tuple_hash (wpAny_call_entry F.slot_tuple_hash ty F.entry_tuple_hash ?_ (F.args_tuple_hash_1 _)))
  show wpAny _ _ (Builtin.Tuple.tupleItemsOf (.ref a) >>= _) _ _ s
  refine wpAny_bind (wpAny_tupleItemsOf ho hd (wpAny_bind ?_))
  rw [← Array.forIn_toList]
  refine wpAny_forIn_list _ (fun rest (b : Array Int) s' => ∃ done left, kss = done ++ left ∧ Its2 knd s.heap left rest ∧ b.toList = done.map (tupleKeyHash knd) ∧ s' = { s with toks := s.toks + drw2 done }) _ ?_ ?_ _ _ ⟨[], kss, rfl, hi, rfl, rfl⟩
  · rintro x rest b s' ⟨done, left, rfl, hl, hb, rfl⟩
    cases hl with
    | @cons ks c kss' _ h1 hl' =>
      refine wpAny_bind (wpAny_pyHash_tuple (s := { s with toks := s.toks + drw2 done }) (by show A.units + 1 < cLine; omega) h1 ?_)
      have fin : ∃ dn lf, done ++ ks :: kss' = dn ++ lf ∧ Its2 knd s.heap lf rest ∧ (b.push (tupleKeyHash knd ks)).toList = dn.map (tupleKeyHash knd) ∧ ({ s with toks := s.toks + drw2 done + (ks.length + 1) } : Shared) = { s with toks := s.toks + drw2 dn } :=
        ⟨done ++ [ks], kss', by simp, hl', by simp [hb], by rw [drw2_app]; simp [drw2, Nat.add_assoc]⟩
      first
        | exact wpAny_pure fin
        | exact wpAny_bind (wpAny_pure (wpAny_pure fin))
  · rintro b s' ⟨done, left, rfl, hl, hb, rfl⟩
    cases hl
    rw [List.append_nil] at q
    show wpAny _ _ (retInt (Builtin.Tuple.tupleHashOf b.toList)) _ _ _
    rw [hb]
    refine wpAny_ret_mkInt ?_
    show wpAny _ _ (if (decide (-(2 : Int) ^ 63 ≤ Builtin.Tuple.tupleHashOf (done.map (tupleKeyHash knd))) && decide (Builtin.Tuple.tupleHashOf (done.map (tupleKeyHash knd)) < 2 ^ 63)) = true then _ else _) Q E _
    unfold hash2 reduceHash at q
    by_cases hr : (decide (-(2 : Int) ^ 63 ≤ Builtin.Tuple.tupleHashOf (done.map (tupleKeyHash knd))) && decide (Builtin.Tuple.tupleHashOf (done.map (tupleKeyHash knd)) < 2 ^ 63)) = true
    · rw [if_pos hr] at q ⊢
      exact wpAny_pure (by simpa [Nat.add_assoc] using q)
    · rw [if_neg hr] at q ⊢
      exact wpAny_bind (wpAny_rule (wpAny_pure (by simpa [Nat.add_assoc] using q)))
theorem eqTree2 {x y : List (List K)} {a b : Addr} {P : Fin → Shared → Prop} (hu : A.units + 2 < cLine) (hx : IsKey2 knd s.heap x a) (hy : IsKey2 knd s.heap y b) (q : P (.done (.ret (.bool (decide (x = y))))) s) :
    wpAny (model prog w) A (Builtin.«tuple.__eq__» ⟨[.ref a, .ref b], []⟩) P E s := by
  have ty := hy.typeIs
  obtain ⟨o1, xs, n1, ho1, _, hd1, hi1⟩ := hx
  obtain ⟨o2, ys, n2, ho2, _, hd2, hi2⟩ := hy
  show wpAny _ _ (isInstance (.ref b) (.type "tuple") >>= _) _ _ s
  refine wpAny_bind (wpAny_isInstance ty isSubtype_tuple_tuple ?_)
  simp only [Bool.not_true, Bool.false_eq_true, if_false]
  refine wpAny_bind (wpAny_tupleItemsOf ho1 hd1 (wpAny_bind (wpAny_tupleItemsOf ho2 hd2 (wpAny_bind ?_))))
  refine wpAny_forIn_list _ (fun rest r s' => r.1 = none ∧ s' = s ∧ ∃ x' y' xs' ys', rest = List.zip xs' ys' ∧ Its2 knd s.heap x' xs' ∧ Its2 knd s.heap y' ys' ∧ decide (x' = y') = decide (x = y) ∧ (xs'.length == ys'.length) = (xs.size == ys.size)) _ ?_ ?_ _ _ ⟨rfl, rfl, x, y, xs.toList, ys.toList, rfl, hi1, hi2, rfl, by simp⟩
  · rintro ⟨u, v⟩ rest r s' ⟨hr, rfl, x', y', xs', ys', hz, hx', hy', hdec, hlen⟩
    cases hx' with
    | nil => simp at hz
    | @cons k1 c1 x2 xs2 h1 hx2 =>
      cases hy' with
      | nil => simp at hz
      | @cons k2 c2 y2 ys2 h2 hy2 =>
        simp only [List.zip_cons_cons, List.cons.injEq, Prod.mk.injEq] at hz
        obtain ⟨⟨rfl, rfl⟩, rfl⟩ := hz
        refine wpAny_bind (wpAny_eqBool_tuple (x := k1) (y := k2) (by omega) h1 h2 ?_)
        by_cases hk : k1 = k2
        · subst hk
          rw [decide_eq_true rfl]
          simp only [Bool.not_true, Bool.false_eq_true, if_false]
          refine wpAny_pure ⟨rfl, rfl, x2, y2, xs2, ys2, rfl, hx2, hy2, ?_, by simpa using hlen⟩
          rw [← hdec]
          by_cases hxy : x2 = y2
          · simp [hxy]
          · simp [hxy]
        · rw [decide_eq_false hk]
          simp only [Bool.not_false, if_true]
          have hf : decide (x = y) = false := by rw [← hdec]; simp [hk]
          rw [hf] at q
          exact wpAny_bind (wpAny_pure (wpAny_pure (wpAny_pure q)))
  · rintro ⟨r1, r2⟩ s' ⟨hr, rfl, x', y', xs', ys', hz, hx', hy', hdec, hlen⟩
    simp only at hr
    subst hr
    refine wpAny_pure ?_
    have fin : (xs.size == ys.size) = decide (x = y) := by
      rw [← hdec, ← hlen]
      cases hx' with
      | nil =>
        cases hy' with
        | nil => simp
        | cons _ _ => simp
      | cons _ _ =>
        cases hy' with
        | nil => simp
        | cons _ _ => simp at hz
    show P (.done (.ret (.bool (xs.size == ys.size)))) s'
    rw [fin]
    exact q
theorem eqBool2 {x y : List (List K)} {a b : Addr} {Q : Bool → Shared → Prop} (hu : A.units + 4 < cLine) (hx : IsKey2 knd s.heap x a) (hy : IsKey2 knd s.heap y b) (q : Q (decide (x = y)) s) :
    wpAny (model prog w) A (eqBool (.ref a) (.ref b)) Q E s := by
  unfold eqBool
  try with_reducible refine wpAny_holding ?_
  show wpAny _ _ (if (Value.ref a == Value.ref b) = true then _ else _) Q E s
  by_cases hab : (Value.ref a == Value.ref b) = true
  · rw [if_pos hab]
    have e : a = b := by have := eq_of_beq hab; injection this
    subst e
    obtain rfl := hx.inj hy
    exact wpAny_bind (wpAny_rule (wpAny_pure (by simpa using q)))
  · rw [if_neg hab]
    exact wpAny_bind (wpAny_richCompare_same_room (op := .Eq) hx.typeIs hy.typeIs F.slot_tuple_eq
      (wpAny_call_entry F.slot_tuple_eq hx.typeIs F.entry_tuple_eq (eqTree2 (by show A.units + 1 + 2 < cLine; omega) hx hy ⟨_, rfl, (fun e => nomatch e), wpAny_truthy_bool q⟩) (F.args_tuple_eq_2 _ _)) (by omega))
theorem quiet1 {ks : List K} {n : Nat} {a : Addr} {Q : Bool → Shared → Prop} (hk : IsTupleKey knd s.heap ks a) (q : Q true s) : wpAny (model prog w) A (eqIsQuiet (n + 1) (.ref a)) Q E s := by
  have ty := hk.typeIs
  obtain ⟨ob, its, m, ho, _, hd, hi⟩ := hk
  unfold eqIsQuiet
  refine wpAny_bind (wpAny_specialOf ty F.slot_tuple_eq.lookup ?_)
  show wpAny _ _ (isInstance (.ref a) (.type "tuple") >>= _) _ _ s
  refine wpAny_bind (wpAny_isInstance ty isSubtype_tuple_tuple ?_)
  simp only [Bool.not_true, Bool.false_eq_true, if_false]
  refine wpAny_bind (wpAny_seqItems ho hd (wpAny_bind ?_))
  show wpAny _ _ (forIn its _ _) _ _ s
  rw [← Array.forIn_toList]
  refine wpAny_forIn_list _ (fun rest r s' => r.1 = none ∧ s' = s ∧ ∀ v ∈ rest, carriedByValue v = true) _ ?_ ?_ _ _ ⟨rfl, rfl, hi.byValue⟩
  · rintro v rest r s' ⟨hr, rfl, hall⟩
    rw [eqIsQuiet_byValue _ (hall v List.mem_cons_self)]
    refine wpAny_bind (wpAny_pure ?_)
    simp only [Bool.not_true, Bool.false_eq_true, if_false]
    exact wpAny_pure ⟨rfl, rfl, fun u hu' => hall u (List.mem_cons_of_mem _ hu')⟩
  · rintro ⟨r1, r2⟩ s' ⟨hr, rfl, _⟩
    simp only at hr
    subst hr
    exact wpAny_pure q
theorem quiet2 {kss : List (List K)} {a : Addr} {Q : Bool → Shared → Prop} (hk : IsKey2 knd s.heap kss a) (q : Q true s) : wpAny (model prog w) A (eqIsQuiet 8 (.ref a)) Q E s := by
  have ty := hk.typeIs
  obtain ⟨ob, its, m, ho, _, hd, hi⟩ := hk
  unfold eqIsQuiet
  refine wpAny_bind (wpAny_specialOf ty F.slot_tuple_eq.lookup ?_)
  show wpAny _ _ (isInstance (.ref a) (.type "tuple") >>= _) _ _ s
  refine wpAny_bind (wpAny_isInstance ty isSubtype_tuple_tuple ?_)
  simp only [Bool.not_true, Bool.false_eq_true, if_false]
  refine wpAny_bind (wpAny_seqItems ho hd (wpAny_bind ?_))
  show wpAny _ _ (forIn its _ _) _ _ s
  rw [← Array.forIn_toList]
  refine wpAny_forIn_list _ (fun rest r s' => r.1 = none ∧ s' = s ∧ ∃ kss', Its2 knd s.heap kss' rest) _ ?_ ?_ _ _ ⟨rfl, rfl, kss, hi⟩
  · rintro v rest r s' ⟨hr, rfl, kss', hl⟩
    cases hl with
    | @cons ks c kss2 _ h1 hl' =>
      refine wpAny_bind (quiet1 (n := 6) h1 ?_)
      simp only [Bool.not_true, Bool.false_eq_true, if_false]
      exact wpAny_pure ⟨rfl, rfl, kss2, hl'⟩
  · rintro ⟨r1, r2⟩ s' ⟨hr, rfl, _⟩
    simp only at hr
    subst hr
    exact wpAny_pure q
end
def kind2 {prog : Program} {w : World} {K : Type} [DecidableEq K] (knd : KeyKind prog w K) : HeapKind prog w (List (List K)) where
  is := IsKey2 knd
  hash := hash2 knd
  draws := fun kss => drw2 kss + 1
  room := fun A => A.units + 4 < cLine
  inj := fun hx hy => hx.inj hy
  keeps := fun x ho hd hs => x.keeps ho hd hs
  pyHash := fun hu hk h => pyHash2 hu hk h
  eqBool := fun hu hx hy h => eqBool2 hu hx hy h
  quiet := fun hk h => quiet2 hk h
end PySem
namespace PySem
open Sem (wp)
def DictE (h : Heap) (d : Addr) (es : Array DictEntry) (ep : Nat) : Prop := ∃ ob, h.get? d = some ob ∧ ob.ExactDict ∧ ob.data = .dict es ep
section
variable {prog : Program} {w : World} {A : Around} {E : Value → Shared → Prop} {s : Shared}
theorem DictE.at {h h' : Heap} {d : Addr} {es : Array DictEntry} {ep : Nat} (x : DictE h d es ep) (k : ∀ o, h.get? d = some o → h'.get? d = some o) : DictE h' d es ep := by
  obtain ⟨ob, h1, h2⟩ := x
  exact ⟨ob, k _ h1, h2⟩
theorem DictE.lt {h : Heap} {d : Addr} {es : Array DictEntry} {ep : Nat} (x : DictE h d es ep) : d < h.objs.size := by
  obtain ⟨ob, h1, _⟩ := x
  exact Heap.lt_size h1
end
end PySem
namespace L2
open PySem PySem.Spec PyProof.Rows
abbrev Key := Sum Int Str
def keyIs : Key → Value → Bool
  | .inl k, v => Value.isInt k v
  | .inr x, v => Value.isStrOf x v
def keyH (w : World) : Key → Int
  | .inl k => hashInt k
  | .inr x => hashStr w x
theorem keyIs_shape : ∀ {k : Key} {v : Value}, keyIs k v = true → (∃ i t, k = Sum.inl i ∧ v = Value.int i t) ∨ (∃ x t, k = Sum.inr x ∧ v = Value.str x t)
  | .inl i, v, h => by
    obtain ⟨t, e⟩ := Value.isInt_shape (k := i) (v := v) h
    exact .inl ⟨i, t, rfl, e⟩
  | .inr x, v, h => by
    obtain ⟨t, e⟩ := Value.isStrOf_shape (x := x) (v := v) h
    exact .inr ⟨x, t, rfl, e⟩
theorem key_ll (a b : Int) : decide ((Sum.inl a : Key) = Sum.inl b) = (a == b) := by
  by_cases e : a = b
  · subst e; simp
  · have h : ¬ (Sum.inl a : Key) = Sum.inl b := fun q => e (Sum.inl.inj q)
    rw [decide_eq_false h]
    exact (beq_eq_false_iff_ne.mpr e).symm
theorem key_rr (a b : Str) : decide ((Sum.inr a : Key) = Sum.inr b) = decide (a = b) := by
  by_cases e : a = b
  · subst e; simp
  · have h : ¬ (Sum.inr a : Key) = Sum.inr b := fun q => e (Sum.inr.inj q)
    rw [decide_eq_false h, decide_eq_false e]
theorem key_lr (a : Int) (b : Str) : decide ((Sum.inl a : Key) = Sum.inr b) = false := decide_eq_false (fun q => nomatch q)
theorem key_rl (a : Str) (b : Int) : decide ((Sum.inr a : Key) = Sum.inl b) = false := decide_eq_false (fun q => nomatch q)
def mixKind (prog : Program) (w : World) : PySem.KeyKind prog w Key where
  is := keyIs
  hash := keyH w
  inj := fun v a b ha hb => by
    rcases keyIs_shape ha with ⟨i, t, rfl, rfl⟩ | ⟨x, t, rfl, rfl⟩
    · rcases keyIs_shape hb with ⟨j, u, rfl, e⟩ | ⟨y, u, rfl, e⟩
      · injection e with e1 _; rw [e1]
      · exact nomatch e
    · rcases keyIs_shape hb with ⟨j, u, rfl, e⟩ | ⟨y, u, rfl, e⟩
      · exact nomatch e
      · injection e with e1 _; rw [e1]
  byValue := fun k v h => by
    rcases keyIs_shape h with ⟨i, t, rfl, rfl⟩ | ⟨x, t, rfl, rfl⟩ <;> rfl
  pyHash := fun hv h => by
    rcases keyIs_shape hv with ⟨i, t, rfl, rfl⟩ | ⟨x, t, rfl, rfl⟩
    · exact wpAny_pyHash_int h
    · exact wpAny_pyHash_str h
  eqBool := fun hu hv h => by
    rcases keyIs_shape hu with ⟨i, t, rfl, rfl⟩ | ⟨x, t, rfl, rfl⟩
    · rcases keyIs_shape hv with ⟨j, u, rfl, rfl⟩ | ⟨y, u, rfl, rfl⟩
      · rw [key_ll] at h; exact wpAny_eqBool_int h
      · rw [key_lr] at h; exact SeqAt.EqAt.int_str i t y u _ _ _ _ h
    · rcases keyIs_shape hv with ⟨j, u, rfl, rfl⟩ | ⟨y, u, rfl, rfl⟩
      · rw [key_rl] at h; exact SeqAt.EqAt.str_int x t j u _ _ _ _ h
      · rw [key_rr] at h; exact wpAny_eqBool_str h
  «strs» := fun k x t v h => by
    rcases keyIs_shape h with ⟨i, u, rfl, e⟩ | ⟨y, u, rfl, e⟩
    · exact nomatch e
    · injection e with e1 _
      subst e1
      cases v <;> rfl
end L2
namespace L2
open PySem PySem.Spec PyProof.Rows
inductive V where
  | non | bl (b : Bool) | int (i : Int) | str (x : Str) | byt (b : Array UInt8) | flt (b : UInt64) | ref (a : Addr) | ty (n : String)
  deriving DecidableEq
def RelV : V → Value → Prop
  | .non, u => u = Value.none
  | .bl b, u => u = Value.bool b
  | .int i, u => ∃ t, u = Value.int i t
  | .str x, u => ∃ t, u = Value.str x t
  | .byt b, u => ∃ t, u = Value.bytes b t
  | .flt b, u => ∃ t, u = Value.float b t
  | .ref a, u => u = Value.ref a
  | .ty n, u => u = Value.type n
abbrev Vals : List V → List Value → Prop := Paired RelV
theorem Vals.length {xs : List V} {us : List Value} (r : Vals xs us) : xs.length = us.length := Paired.length r
theorem Vals.get : ∀ {xs : List V} {us : List Value} {i : Nat} {x : V}, Vals xs us → xs[i]? = some x → ∃ u, us[i]? = some u ∧ RelV x u
  | _, _, _, _, .nil, e => by simp at e
  | _, _, 0, _, .cons r _, e => by simp at e; subst e; exact ⟨_, rfl, r⟩
  | _, _, i + 1, x, .cons _ t, e => by
    obtain ⟨u, h1, h2⟩ := Vals.get (i := i) (x := x) t (by simpa using e)
    exact ⟨u, by simpa using h1, h2⟩
theorem Vals.set {x : V} {u : Value} (r : RelV x u) : ∀ {xs : List V} {us : List Value} (i : Nat), Vals xs us → Vals (xs.set i x) (us.set i u)
  | _, _, _, .nil => .nil
  | _, _, 0, .cons _ t => .cons r t
  | _, _, i + 1, .cons q t => .cons q (Vals.set r i t)
theorem Vals.append : ∀ {xs ys : List V} {us ws : List Value}, Vals xs us → Vals ys ws → Vals (xs ++ ys) (us ++ ws)
  | _, _, _, _, .nil, s => s
  | _, _, _, _, .cons r t, s => .cons r (Vals.append t s)
def RelO : Option V → Option Value → Prop
  | some v, some u => RelV v u
  | none, none => True
  | _, _ => False
def KV {κ : Type} : List (κ × V) → List (κ × Value) → Prop := Paired fun (p : κ × V) (q : κ × Value) => p.1 = q.1 ∧ RelV p.2 q.2
def kV : Key → V
  | .inl i => .int i
  | .inr x => .str x
inductive HO where
  | lst (xs : List V)
  | tup (xs : List V)
  | dK (kvs : List (Key × V)) | dT (kvs : List (List Key × V)) | dU (kvs : List (List (List Key) × V))
  | set (S : Int → Bool) (n : Nat)
  | ins (C dx : Addr) (fs : List (Str × V))
  | own (x : Addr)
  | xd (fs : List (Str × V))
  | met (f x : Addr)
  | rng (lo hi : Int)
  | frz (o : Obj) (u : HO)
  | tbl (ps : Array Value)
  | ext (φ : Heap → Prop)
abbrev Hp := Addr → Option HO
def upd (H : Hp) (a : Addr) (o : HO) : Hp := fun b => if b = a then some o else H b
theorem upd_same {H : Hp} {a : Addr} {o : HO} : upd H a o a = some o := by unfold upd; rw [if_pos rfl]
theorem upd_ne {H : Hp} {a b : Addr} {o : HO} (h : b ≠ a) : upd H a o b = H b := by unfold upd; rw [if_neg h]
theorem upd_upd {H : Hp} {a : Addr} {o u : HO} : upd (upd H a o) a u = upd H a u := by
  funext b; unfold upd; split <;> rfl
theorem ne_of_none {H : Hp} {a b : Addr} {o : HO} (h : H a = some o) (h' : H b = none) : a ≠ b := by
  intro e; subst e; rw [h] at h'; cases h'
def KeyU (H : Hp) (kss : List (List Key)) (b : Addr) : Prop := ∃ as : List Addr, H b = some (.tup (as.map V.ref)) ∧ Paired (fun (ks : List Key) (a : Addr) => H a = some (.tup (ks.map kV))) kss as
section
variable (P : Program) (w : World)
def ObjOk (H : Hp) (h : Heap) (a : Addr) : HO → Prop
  | .lst xs => xs.length ≤ sizeLine ∧ ∃ (its : List Value) (n : Nat), Vals xs its ∧ h.get? a = some { cls := .type "list", data := .seq its.toArray n }
  | .tup xs => xs.length ≤ sizeLine ∧ ∃ its : List Value, Vals xs its ∧ IsTup h a its.toArray
  | .dK kvs => kvs.length ≤ sizeLine ∧ (a == sysModules) = false ∧ ∃ vs, KV kvs vs ∧ h.DictOf (mixKind P w) a vs
  | .dT kvs => kvs.length ≤ sizeLine ∧ (a == sysModules) = false ∧ ∃ xs : List (List Key × Addr × Value),
      Paired (fun (p : List Key × V) (q : List Key × Addr × Value) => p.1 = q.1 ∧ H q.2.1 = some (.tup (p.1.map kV)) ∧ RelV p.2 q.2.2) kvs xs ∧
      ∃ o es ep, h.get? a = some o ∧ o.ExactDict ∧ o.data = .dict es ep ∧ es.toList = xs.map (entryOfKey (tupleKind (mixKind P w))) ∧ (xs.map (·.1)).Nodup
  | .dU kvs => kvs.length ≤ sizeLine ∧ (a == sysModules) = false ∧ ∃ xs : List (List (List Key) × Addr × Value),
      Paired (fun (p : List (List Key) × V) (q : List (List Key) × Addr × Value) => p.1 = q.1 ∧ KeyU H p.1 q.2.1 ∧ RelV p.2 q.2.2) kvs xs ∧
      ∃ o es ep, h.get? a = some o ∧ o.ExactDict ∧ o.data = .dict es ep ∧ es.toList = xs.map (entryOfKey (kind2 (mixKind P w))) ∧ (xs.map (·.1)).Nodup
  | .set S n => h.SetOf (intKind P w) a S n
  | .ins C dx fs => H dx = some (.own a) ∧ fs.length ≤ 1000 ∧ dx ≠ a ∧ h.get? a = some (PySem.W.instObj C dx) ∧
      ∃ mA, h.Ns1 dx mA ∧ (∀ f, RelO (fs.lookup f) (mA f)) ∧ PySem.Within mA (fs.map (·.1))
  | .own _ => ∃ o, h.get? a = some o
  | .xd fs => ∃ mA, h.Ns1 a mA ∧ ∀ f, RelO (fs.lookup f) (mA f)
  | .rng lo hi => ∃ t u v, h.get? a = some { cls := .type "range", data := .fields #[.int lo t, .int hi u, .int 1 v] }
  | .frz o u => h.get? a = some o ∧ ObjOk H h a u
  | .tbl ps => h.get? a = some { cls := .none, data := .fields ps }
  | .met f x => h.get? a = some (PySem.W.methodObj (.ref f) (.ref x))
  | .ext φ => φ h ∧ (∃ o, h.get? a = some o) ∧ ∀ h1 h2 : Heap, φ h1 → (∀ o, h1.get? a = some o → h2.get? a = some o) → φ h2
def HOk (H : Hp) (h : Heap) : Prop := ∀ a o, H a = some o → ObjOk P w H h a o
end
section
variable {P : Program} {w : World} {H H' : Hp} {h h' : Heap} {a : Addr} {o : HO}
theorem ObjOk.lt (x : ObjOk P w H h a o) : a < h.objs.size := by
  cases o with
  | lst xs => obtain ⟨_, _, _, _, e⟩ := x; exact Heap.lt_size e
  | tup xs => obtain ⟨_, _, _, p⟩ := x; exact p.lt
  | dK kvs => obtain ⟨_, _, _, _, o, _, _, e, _⟩ := x; exact Heap.lt_size e
  | dT kvs => obtain ⟨_, _, _, _, o, _, _, e, _⟩ := x; exact Heap.lt_size e
  | dU kvs => obtain ⟨_, _, _, _, o, _, _, e, _⟩ := x; exact Heap.lt_size e
  | set S n => obtain ⟨o, _, _, _, e, _⟩ := x; exact Heap.lt_size e
  | ins C dx fs => obtain ⟨_, _, _, e, _⟩ := x; exact Heap.lt_size e
  | own y => obtain ⟨_, e⟩ := x; exact Heap.lt_size e
  | xd fs => obtain ⟨_, ⟨_, _, _, e, _⟩, _⟩ := x; exact Heap.lt_size e
  | rng lo hi => obtain ⟨_, _, _, e⟩ := x; exact Heap.lt_size e
  | frz ob u => obtain ⟨e, _⟩ := x; exact Heap.lt_size e
  | tbl ps => exact Heap.lt_size (show h.get? a = some _ from x)
  | met f y => exact Heap.lt_size (show h.get? a = some _ from x)
  | ext φ => obtain ⟨_, ⟨_, e⟩, _⟩ := x; exact Heap.lt_size e
theorem Paired.mapP {α β : Type} {F G : α → β → Prop} : ∀ {l₁ : List α} {l₂ : List β}, Paired F l₁ l₂ → (∀ a b, F a b → G a b) → Paired G l₁ l₂
  | _, _, .nil, _ => .nil
  | _, _, .cons r t, f => .cons (f _ _ r) (Paired.mapP t f)
theorem KeyU.more {H H' : Hp} {kss : List (List Key)} {b : Addr} (x : KeyU H kss b) (ht : ∀ b xs, H b = some (.tup xs) → H' b = some (.tup xs)) : KeyU H' kss b := by
  obtain ⟨as, h1, h2⟩ := x
  exact ⟨as, ht _ _ h1, Paired.mapP h2 fun _ _ z => ht _ _ z⟩
theorem ObjOk.stay (x : ObjOk P w H h a o) (k : ∀ b u, (b = a ∨ H b = some (.own a)) → h.get? b = some u → h'.get? b = some u)
    (ho : ∀ b, H b = some (.own a) → H' b = some (.own a)) (ht : ∀ b xs, H b = some (.tup xs) → H' b = some (.tup xs)) : ObjOk P w H' h' a o := by
  induction o with
  | lst xs => obtain ⟨z, its, n, r, e⟩ := x; exact ⟨z, its, n, r, k _ _ (.inl rfl) e⟩
  | tup xs => obtain ⟨z, its, r, ob, e, c⟩ := x; exact ⟨z, its, r, ob, k _ _ (.inl rfl) e, c⟩
  | dK kvs => obtain ⟨z, y, vs, r, ob, es, ep, e, c⟩ := x; exact ⟨z, y, vs, r, ob, es, ep, k _ _ (.inl rfl) e, c⟩
  | dT kvs =>
    obtain ⟨z, y, xs, r, ob, es, ep, e, c⟩ := x
    exact ⟨z, y, xs, Paired.mapP r fun p q z => ⟨z.1, ht _ _ z.2.1, z.2.2⟩, ob, es, ep, k _ _ (.inl rfl) e, c⟩
  | dU kvs =>
    obtain ⟨z, y, xs, r, ob, es, ep, e, c⟩ := x
    exact ⟨z, y, xs, Paired.mapP r fun p q z => ⟨z.1, z.2.1.more ht, z.2.2⟩, ob, es, ep, k _ _ (.inl rfl) e, c⟩
  | set S n => obtain ⟨ob, es, ep, t, e, c⟩ := x; exact ⟨ob, es, ep, t, k _ _ (.inl rfl) e, c⟩
  | ins C dx fs =>
    obtain ⟨d, z, ne, e, mA, ⟨od, es, ep, e2, c⟩, r⟩ := x
    exact ⟨ho _ d, z, ne, k _ _ (.inl rfl) e, mA, ⟨od, es, ep, k _ _ (.inr d) e2, c⟩, r⟩
  | own y => obtain ⟨ob, e⟩ := x; exact ⟨ob, k _ _ (.inl rfl) e⟩
  | xd fs => obtain ⟨mA, ⟨od, es, ep, e, c⟩, r⟩ := x; exact ⟨mA, ⟨od, es, ep, k _ _ (.inl rfl) e, c⟩, r⟩
  | rng lo hi => obtain ⟨t, u, v, e⟩ := x; exact ⟨t, u, v, k _ _ (.inl rfl) e⟩
  | frz ob u ih => obtain ⟨e, q⟩ := x; exact ⟨k _ _ (.inl rfl) e, ih q⟩
  | tbl ps =>
    have e : h.get? a = some { cls := .none, data := .fields ps } := x
    show h'.get? a = some { cls := .none, data := .fields ps }
    exact k a _ (.inl rfl) e
  | met f y =>
    have e : h.get? a = some (PySem.W.methodObj (.ref f) (.ref y)) := x
    show h'.get? a = some (PySem.W.methodObj (.ref f) (.ref y))
    exact k a _ (.inl rfl) e
  | ext φ => obtain ⟨p, ⟨o, e⟩, st⟩ := x; exact ⟨st _ _ p fun o q => k _ _ (.inl rfl) q, ⟨o, k _ _ (.inl rfl) e⟩, st⟩
theorem HOk.lt (x : HOk P w H h) (e : H a = some o) : a < h.objs.size := (x a o e).lt
theorem HOk.fresh (x : HOk P w H h) (e : h.objs.size ≤ a) : H a = none := by
  cases q : H a with
  | none => rfl
  | some u => exact absurd (Nat.lt_of_lt_of_le (x.lt q) e) (Nat.lt_irrefl _)
theorem HOk.kept (x : HOk P w H h) (k : ∀ b u, h.get? b = some u → h'.get? b = some u) : HOk P w H h' := fun a o e =>
  (x a o e).stay (fun b u _ q => k b u q) (fun _ q => q) fun _ _ q => q
theorem HOk.laid (x : HOk P w H h) (k : ∀ b u, h.get? b = some u → h'.get? b = some u) (hp : h.objs.size ≤ a) (new : ObjOk P w (upd H a o) h' a o) : HOk P w (upd H a o) h' := fun b u e => by
  have hn := x.fresh hp
  by_cases hb : b = a
  · subst hb; rw [upd_same] at e; cases e; exact new
  · rw [upd_ne hb] at e
    exact (x b u e).stay (fun c v _ q => k c v q) (fun c q => by rw [upd_ne (ne_of_none q hn)]; exact q) fun c xs q => by rw [upd_ne (ne_of_none q hn)]; exact q
end
def Rd (H : Hp) (a : Addr) (u : HO) : Prop := H a = some u ∨ ∃ o, H a = some (.frz o u)
theorem Rd.ok {P : Program} {w : World} {H : Hp} {h : Heap} {a : Addr} {u : HO} (r : Rd H a u) (x : HOk P w H h) : ObjOk P w H h a u := by
  rcases r with r | ⟨o, r⟩
  · exact x a u r
  · obtain ⟨_, q⟩ := x a _ r
    exact q
def Mut : Option HO → Prop
  | some (.lst _) => True
  | some (.dK _) => True
  | some (.dT _) => True
  | some (.dU _) => True
  | some (.set _ _) => True
  | some (.ins _ _ _) => True
  | some (.ext _) => True
  | _ => False
section
variable {P : Program} {w : World} {H : Hp} {h h' : Heap} {x e : Addr} {o' : HO}
theorem HOk.write (ok : HOk P w H h) (mu : Mut (H x)) (he : e = x ∨ H e = some (.own x)) (k : ∀ b u, b ≠ e → h.get? b = some u → h'.get? b = some u) (heo : ∃ u, h'.get? e = some u)
    (new : ObjOk P w (upd H x o') h' x o') : HOk P w (upd H x o') h' := fun b u q => by
  have nown : ∀ c y, H c = some (.own y) → c ≠ x := fun c y r z => by subst z; rw [r] at mu; exact mu
  have ntup : ∀ c xs, H c = some (.tup xs) → c ≠ x := fun c xs r z => by subst z; rw [r] at mu; exact mu
  by_cases hb : b = x
  · subst hb; rw [upd_same] at q; cases q; exact new
  · rw [upd_ne hb] at q
    by_cases hbe : b = e
    · have q' : H b = some (.own x) := by
        rcases he with z | z
        · exact absurd (hbe.trans z) hb
        · rw [hbe]; exact z
      rw [q] at q'; cases q'
      obtain ⟨v, hv⟩ := heo
      exact ⟨v, by rw [hbe]; exact hv⟩
    · refine (ok b u q).stay (fun c v hc r => k c v ?_ r) (fun c r => by rw [upd_ne (nown c b r)]; exact r) fun c xs r => by rw [upd_ne (ntup c xs r)]; exact r
      rcases hc with rfl | hc
      · exact hbe
      · rintro rfl
        rcases he with z | z
        · exact nown c b hc z
        · rw [hc] at z; cases z; exact hb rfl
end
structure Un (fs ex : List Addr) (H H' : Hp) (h h' : Heap) : Prop where
  keep : ∀ b o, h.get? b = some o → H b = none → b ∉ fs → b ∉ ex → h'.get? b = some o
  slot : ∀ b o, h.get? b = some o → H b = none → b ∈ fs → b ∉ ex → ∃ sl, h'.get? b = some { o with slots := sl }
  free : ∀ b o, h.get? b = some o → H b = none → b ∉ ex → H' b = none
  there : ∀ b o, h.get? b = some o → b ∉ ex → ∃ o', h'.get? b = some o'
  tups : ∀ b xs, H b = some (.tup xs) → H' b = some (.tup xs)
  frzs : ∀ b o u, H b = some (.frz o u) → H' b = some (.frz o u)
  tbls : ∀ b ps, H b = some (.tbl ps) → ∃ more, H' b = some (.tbl (ps ++ more))
section
variable {fs fs' ex ex' : List Addr} {H H1 H2 : Hp} {h h1 h2 h' : Heap} {a x e : Addr} {o : HO}
theorem Un.any (u : Un fs ex H H1 h h1) {b : Addr} {ob : Obj} (q : h.get? b = some ob) (n : H b = none) (hx : b ∉ ex) : ∃ sl, h1.get? b = some { ob with slots := sl } := by
  by_cases hb : b ∈ fs
  · exact u.slot b ob q n hb hx
  · exact ⟨ob.slots, u.keep b ob q n hb hx⟩
theorem Un.kept (k : ∀ b u, h.get? b = some u → h'.get? b = some u) : Un fs ex H H h h' :=
  ⟨fun b ob q _ _ _ => k b ob q, fun b ob q _ _ _ => ⟨ob.slots, k b ob q⟩, fun _ _ _ n _ => n, fun b ob q _ => ⟨ob, k b ob q⟩, fun _ _ q => q, fun _ _ _ q => q, fun _ ps q => ⟨#[], by rw [q]; simp⟩⟩
theorem Un.refl : Un fs ex H H h h := Un.kept fun _ _ q => q
theorem Un.laid (k : ∀ b u, h.get? b = some u → h'.get? b = some u) (hp : h.objs.size ≤ a) (hn : H a = none) : Un fs ex H (upd H a o) h h' where
  keep := fun b u q _ _ _ => k b u q
  slot := fun b u q _ _ _ => ⟨u.slots, k b u q⟩
  free := fun b u q n _ => by rw [upd_ne (Nat.ne_of_lt (Nat.lt_of_lt_of_le (Heap.lt_size q) hp))]; exact n
  there := fun b u q _ => ⟨u, k b u q⟩
  tups := fun b xs q => by rw [upd_ne (ne_of_none q hn)]; exact q
  frzs := fun b u xs q => by rw [upd_ne (ne_of_none q hn)]; exact q
  tbls := fun b ps q => ⟨#[], by rw [upd_ne (ne_of_none q hn), q]; simp⟩
theorem Un.write (mu : Mut (H x)) (he : e = x ∨ H e = some (.own x)) (k : ∀ b u, b ≠ e → h.get? b = some u → h'.get? b = some u) (heo : ∃ u, h'.get? e = some u) : Un fs ex H (upd H x o) h h' := by
  have hx : ∀ b, H b = none → b ≠ x := fun b n z => by subst z; rw [n] at mu; exact mu
  have hb : ∀ b, H b = none → b ≠ e := fun b n z => by
    subst z
    rcases he with r | r
    · exact hx b n r
    · rw [n] at r; cases r
  have hm : ∀ b u, H b = some u → ¬ Mut (some u) → b ≠ x := fun b u q nm z => by subst z; rw [q] at mu; exact nm mu
  refine ⟨fun b u q n _ _ => k b u (hb b n) q, fun b u q n _ _ => ⟨u.slots, k b u (hb b n) q⟩, fun b u q n _ => by rw [upd_ne (hx b n)]; exact n, fun b u q _ => ?_,
    fun b xs q => by rw [upd_ne (hm b _ q fun z => z)]; exact q, fun b u xs q => by rw [upd_ne (hm b _ q fun z => z)]; exact q, fun b ps q => ⟨#[], by rw [upd_ne (hm b _ q fun z => z), q]; simp⟩⟩
  by_cases hbe : b = e
  · subst hbe; exact heo
  · exact ⟨u, k b u hbe q⟩
end
def trk (h : Heap) (H : Hp) : List Addr := (List.range h.objs.size).filter fun a => (H a).isSome
def hidT (h : Heap) (H : Hp) : Heap := PySem.W.hideAll h (trk h H)
theorem hidT_size (h : Heap) (H : Hp) : (hidT h H).objs.size = h.objs.size := PySem.W.hideAll_size _ _
theorem hidT_get {h : Heap} {H : Hp} {b : Addr} {o : Obj} (e : h.get? b = some o) (n : H b = none) : (hidT h H).get? b = some o :=
  PySem.W.hideAll_get _ e fun hm => by
    have q : (H b).isSome = true := (List.mem_filter.mp hm).2
    rw [n] at q; simp at q
theorem of_hidT {h : Heap} {H : Hp} {b : Addr} {o : Obj} (e : (hidT h H).get? b = some o) : h.get? b = some o ∧ H b = none := by
  have e' : h.get? b = some o := PySem.W.of_hideAll (trk h H) e
  refine ⟨e', ?_⟩
  cases q : H b with
  | none => rfl
  | some x =>
    have hm : b ∈ trk h H := List.mem_filter.mpr ⟨List.mem_range.mpr (Heap.lt_size e'), by simp [q]⟩
    have z : (hidT h H).get? b = none := PySem.W.hideAll_none (trk h H) hm
    rw [z] at e; cases e
def allNews (g h : Heap) (L : Addr) : List (Addr × Obj) := (List.range h.objs.size).filterMap fun a => if a = L ∨ (g.get? a).isSome = true then none else (h.get? a).map fun o => (a, o)
def rest (g h : Heap) (L d : Addr) : List (Addr × Obj) := (allNews g h L).filter fun p => decide (p.1 ≠ d)
end L2
namespace L2
open PySem PySem.Spec PyProof.Rows
structure Mod (K : PySem.W.Frag) (mg : Str → Option Value) (base : Heap) : Prop where
  kin : K.In base
  glob : base.Ns mainGlobals mg
  blt : ∃ mb, base.Ns builtinsNs mb ∧ ∀ x : Str, x ≠ "__name__" → mb x = bootBuiltins x
  nolimit : base.NoLimit
structure Cx where
  prog : Program
  w : World
  K : PySem.W.Frag
  mg : Str → Option Value
  base : Heap
  A : Around
  N : List Str
  s₀ : Shared
  H₀ : Hp
  env : Env
  outer : List Env
  stack : List Env
  ex : List Addr
  fn : Str → Bool
  calm : Bool
  pn : List (Addr × Obj)
  xe : Value → Shared → Prop
def frs (l : List Env) : List Addr := l.filterMap (·.frame)
abbrev Cx.fs (X : Cx) : List Addr := frs X.outer
def Vis (sc : Scope) (x : Str) : Prop := sc.names.lookup x = some .local ∨ sc.names.lookup x = some .cell ∨ sc.names.lookup x = some .free
def Loc (sc : Scope) (x : Str) : Prop := sc.names.lookup x = some .local ∨ sc.names.lookup x = some .cell
def Look (env : Env) (h : Heap) (m : Str → Option Value) (x : Str) (u : Value) : Prop :=
  (env.kindOf x = some .local ∧ m x = some u) ∨ ((env.kindOf x = some .cell ∨ env.kindOf x = some .free) ∧ ∃ c, env.cells.lookup x = some c ∧ h.IsCell c (some u))
structure Cx.Ok (X : Cx) : Prop where
  mod : Mod X.K X.mg X.base
  kind : X.env.scope.kind = .function
  glob : X.env.globals = mainGlobals
  blt : X.env.builtins = builtinsNs
  above : X.s₀.heap.objs.size ≤ X.env.locals
  inj : ∀ x y c, X.env.cells.lookup x = some c → X.env.cells.lookup y = some c → x = y
  has : ∀ x, (X.env.kindOf x = some .cell ∨ X.env.kindOf x = some .free) → ∃ c, X.env.cells.lookup x = some c
  cab : ∀ x c, X.fn x = true → X.env.cells.lookup x = some c → X.s₀.heap.objs.size ≤ c
  hd : X.calm = true → X.A.handled = none
  frames : X.A.frames = some X.stack
  stk : X.stack = X.outer ∨ (X.stack = X.env :: X.outer ∧ X.env.frame = some X.env.locals)
  exf : ∀ b ∈ X.ex, b ≠ X.env.locals ∧ ∀ x c, X.env.cells.lookup x = some c → c ≠ b
  bs : ∀ b o, X.base.get? b = some o → X.s₀.heap.get? b = some o ∧ X.H₀ b = none
  bsz : X.base.objs.size ≤ X.s₀.heap.objs.size
  noex : ∀ b o, X.base.get? b = some o → b ∉ X.ex
  exfs : ∀ b ∈ X.ex, b ∉ X.fs
  funs : X.s₀.heap.FunFrames X.base X.outer
  frf : ∀ b ∈ X.fs, X.H₀ b = none
structure Inv (X : Cx) (pins : List (Addr × Obj)) (σ : List (Option V)) (H : Hp) (s : Shared) : Prop where
  ok : X.Ok
  os : s.os = X.s₀.os
  bare : AllBare s.gens
  base : Un X.fs X.ex X.H₀ H X.s₀.heap s.heap
  loc : ∃ m, s.heap.Ns X.env.locals m ∧ ∀ (i : Nat) (x : Str) (v : V), X.N[i]? = some x → σ[i]? = some (some v) → Vis X.env.scope x → ∃ u, RelV v u ∧ Look X.env s.heap m x u
  cell : ∀ x c, X.env.cells.lookup x = some c → ∃ v, s.heap.IsCell c v
  free : H X.env.locals = none
  freeC : ∀ x c, X.env.cells.lookup x = some c → H c = none
  pin : ∀ p ∈ X.pn ++ pins, s.heap.get? p.1 = some p.2 ∧ H p.1 = none ∧ p.1 ≠ X.env.locals ∧ p.1 ∉ X.fs ∧ ∀ v, p.2.data ≠ .cell v
  hok : HOk X.prog X.w H s.heap
  len : σ.length = X.N.length
section
variable {X : Cx} {pins : List (Addr × Obj)} {σ : List (Option V)} {H H' : Hp} {s : Shared} {h' : Heap}
theorem Cx.Ok.nofr (ok : X.Ok) {b : Addr} {o : Obj} (e : X.base.get? b = some o) : b ∉ X.fs := fun hb => by
  have := (ok.funs.mem hb).1
  rw [e] at this; cases this
theorem Inv.bs (I : Inv X pins σ H s) : ∀ b o, X.base.get? b = some o → s.heap.get? b = some o ∧ H b = none := fun b o e =>
  ⟨I.base.keep b o (I.ok.bs b o e).1 (I.ok.bs b o e).2 (I.ok.nofr e) (I.ok.noex b o e), I.base.free b o (I.ok.bs b o e).1 (I.ok.bs b o e).2 (I.ok.noex b o e)⟩
theorem Inv.bk (I : Inv X pins σ H s) : ∀ b o, X.base.get? b = some o → s.heap.get? b = some o := fun b o e => (I.bs b o e).1
theorem Inv.mod (I : Inv X pins σ H s) : Mod X.K X.mg X.base := I.ok.mod
theorem Inv.kIn (I : Inv X pins σ H s) : X.K.In s.heap := I.ok.mod.kin.keeps I.bk
theorem Inv.lt (I : Inv X pins σ H s) : X.env.locals < s.heap.objs.size := let ⟨_, hn, _⟩ := I.loc; hn.lt
theorem Inv.sz (I : Inv X pins σ H s) : X.s₀.heap.objs.size ≤ s.heap.objs.size := Nat.le_trans I.ok.above (Nat.le_of_lt I.lt)
theorem Inv.nofs (I : Inv X pins σ H s) {a : Addr} (h : s.heap.objs.size ≤ a) : a ∉ X.fs := fun hb => by
  obtain ⟨_, o, ho, _⟩ := I.ok.funs.mem hb
  exact absurd (Nat.lt_of_lt_of_le (Heap.lt_size ho) (Nat.le_trans I.sz h)) (Nat.lt_irrefl _)
theorem Inv.cne (I : Inv X pins σ H s) : ∀ x c, X.env.cells.lookup x = some c → c ≠ X.env.locals := fun x c e z => by
  obtain ⟨v, o, ho, hd⟩ := I.cell x c e
  obtain ⟨m, ⟨o', es, ep, ho', hd', _⟩, _⟩ := I.loc
  rw [z, ho'] at ho; cases ho; rw [hd'] at hd; cases hd
theorem Inv.funs (I : Inv X pins σ H s) : s.heap.FunFrames X.base X.outer := by
  have all : ∀ (l : List Env), (∀ b ∈ frs l, b ∈ X.fs) → X.s₀.heap.FunFrames X.base l → s.heap.FunFrames X.base l := by
    intro l
    induction l with
    | nil => intro _ _; trivial
    | cons env r ih =>
      intro hs hl
      obtain ⟨hk, ⟨L, o, hf, hn, ho, hd⟩, hr⟩ := hl
      have hL : L ∈ X.fs := hs L (by unfold frs; rw [List.filterMap_cons, hf]; exact List.mem_cons_self)
      obtain ⟨sl, e⟩ := I.base.slot L o ho (I.ok.frf L hL) hL fun z => I.ok.exfs L z hL
      exact ⟨hk, ⟨L, _, hf, hn, e, hd⟩, ih (fun b hb => hs b (by unfold frs; rw [List.filterMap_cons, hf]; exact List.mem_cons_of_mem _ hb)) hr⟩
  exact all X.outer (fun _ hb => hb) I.ok.funs
theorem Inv.stack (I : Inv X pins σ H s) : s.heap.FunFrames X.base X.stack := by
  rcases I.ok.stk with e | ⟨e, hf⟩
  · rw [e]; exact I.funs
  · rw [e]
    obtain ⟨m, hn, _⟩ := I.loc
    refine .cons (by rw [I.ok.kind]; decide) hf hn ?_ I.funs
    exact Heap.get?_none_of_le (Nat.le_trans I.ok.bsz I.ok.above)
theorem Inv.stkSub (I : Inv X pins σ H s) : ∀ b ∈ frs X.stack, b ∈ X.env.locals :: X.fs := fun b hb => by
  rcases I.ok.stk with e | ⟨e, hf⟩
  · rw [e] at hb; exact List.mem_cons_of_mem _ hb
  · rw [e] at hb
    unfold frs at hb
    rw [List.filterMap_cons, hf] at hb
    exact hb
theorem Inv.stkFree (I : Inv X pins σ H s) : ∀ b ∈ frs X.stack, H b = none := fun b hb => by
  rcases List.mem_cons.mp (I.stkSub b hb) with e | hb
  · rw [e]; exact I.free
  · obtain ⟨_, o, ho, _⟩ := I.ok.funs.mem hb
    exact I.base.free b o ho (I.ok.frf b hb) fun z => I.ok.exfs b z hb
theorem Inv.step {g' : Array GenState} {t' : Nat} {d' : Drawn} {ch : List Addr} (I : Inv X pins σ H s)
    (hch : ∀ b ∈ ch, (b ∈ X.ex ∨ X.s₀.heap.objs.size ≤ b) ∧ b ≠ X.env.locals ∧ (∀ x c, X.env.cells.lookup x = some c → c ≠ b) ∧ ∀ p ∈ X.pn ++ pins, p.1 ≠ b)
    (keep : ∀ b o, b ≠ X.env.locals → b ∉ X.fs → b ∉ ch → s.heap.get? b = some o → H b = none → h'.get? b = some o)
    (slot : ∀ b o, b ≠ X.env.locals → b ∈ X.fs → b ∉ ch → s.heap.get? b = some o → H b = none → ∃ sl, h'.get? b = some { o with slots := sl }) (free : ∀ b o, b ∉ ch → s.heap.get? b = some o → H b = none → H' b = none)
    (there : ∀ b o, b ∉ ch → s.heap.get? b = some o → ∃ o', h'.get? b = some o')
    (tups : ∀ b xs, H b = some (.tup xs) → H' b = some (.tup xs)) (frzs : ∀ b o u, H b = some (.frz o u) → H' b = some (.frz o u)) (tbls : ∀ b ps, H b = some (.tbl ps) → ∃ more, H' b = some (.tbl (ps ++ more)))
    (ns : ∀ m, s.heap.Ns X.env.locals m → h'.Ns X.env.locals m) (hok : HOk X.prog X.w H' h') (hg : AllBare g') :
    Inv X pins σ H' { s with heap := h', gens := g', drawn := d', toks := t' } := by
  have neL : ∀ b o, X.s₀.heap.get? b = some o → b ≠ X.env.locals := fun b o e => Nat.ne_of_lt (Nat.lt_of_lt_of_le (Heap.lt_size e) I.ok.above)
  have neC : ∀ b o, X.s₀.heap.get? b = some o → b ∉ X.ex → b ∉ ch := fun b o e hx hb => by
    rcases (hch b hb).1 with z | z
    · exact hx z
    · exact absurd (Nat.lt_of_lt_of_le (Heap.lt_size e) z) (Nat.lt_irrefl _)
  have cellK : ∀ x c, X.env.cells.lookup x = some c → ∀ v, s.heap.IsCell c v → h'.IsCell c v := fun x c e v ⟨o, ho, hd⟩ => by
    have nch : c ∉ ch := fun z => (hch c z).2.2.1 x c e rfl
    by_cases hc : c ∈ X.fs
    · obtain ⟨sl, q⟩ := slot c o (I.cne x c e) hc nch ho (I.freeC x c e)
      exact ⟨_, q, hd⟩
    · exact ⟨o, keep c o (I.cne x c e) hc nch ho (I.freeC x c e), hd⟩
  refine ⟨I.ok, I.os, hg, ⟨fun b o e n hb hx => ?_, fun b o e n hb hx => ?_, fun b o e n hx => ?_, fun b o e hx => ?_, fun b xs e => tups b xs (I.base.tups b xs e), fun b o xs e => frzs b o xs (I.base.frzs b o xs e), fun b ps e => ?_⟩, ?_, fun x c e => ?_, ?_, fun x c e => ?_, fun p hp => ?_, hok, I.len⟩
  · exact keep b o (neL b o e) hb (neC b o e hx) (I.base.keep b o e n hb hx) (I.base.free b o e n hx)
  · obtain ⟨sl, e1⟩ := I.base.slot b o e n hb hx
    obtain ⟨sl', e2⟩ := slot b _ (neL b o e) hb (neC b o e hx) e1 (I.base.free b o e n hx)
    exact ⟨sl', e2⟩
  · obtain ⟨o', e1⟩ := I.base.there b o e hx
    exact free b o' (neC b o e hx) e1 (I.base.free b o e n hx)
  · obtain ⟨o', e1⟩ := I.base.there b o e hx
    exact there b o' (neC b o e hx) e1
  · obtain ⟨m1, e1⟩ := I.base.tbls b ps e
    obtain ⟨m2, e2⟩ := tbls b _ e1
    exact ⟨m1 ++ m2, by rw [e2, Array.append_assoc]⟩
  · obtain ⟨m, hn, hl⟩ := I.loc
    refine ⟨m, ns m hn, fun i x v e1 e2 e3 => ?_⟩
    obtain ⟨u, r, l⟩ := hl i x v e1 e2 e3
    refine ⟨u, r, ?_⟩
    rcases l with l | ⟨k, c, e, z⟩
    · exact .inl l
    · exact .inr ⟨k, c, e, cellK x c e _ z⟩
  · obtain ⟨v, z⟩ := I.cell x c e
    exact ⟨v, cellK x c e v z⟩
  · obtain ⟨m, ⟨o, _, _, ho, _⟩, _⟩ := I.loc
    exact free _ o (fun z => (hch _ z).2.1 rfl) ho I.free
  · obtain ⟨v, o, ho, hd⟩ := I.cell x c e
    exact free c o (fun z => (hch c z).2.2.1 x c e rfl) ho (I.freeC x c e)
  · obtain ⟨e, n, ne, nf, d⟩ := I.pin p hp
    have nch : p.1 ∉ ch := fun z => (hch p.1 z).2.2.2 p hp rfl
    exact ⟨keep p.1 p.2 ne nf nch e n, free p.1 p.2 nch e n, ne, nf, d⟩
theorem Inv.un {t' : Nat} (I : Inv X pins σ H s) (u : Un X.fs [] H H' s.heap h') (hok : HOk X.prog X.w H' h') : Inv X pins σ H' { s with heap := h', toks := t' } := by
  obtain ⟨m, ⟨o, es, ep, ho, r⟩, _⟩ := id I.loc
  obtain ⟨sl, hL⟩ := u.any ho I.free (by simp)
  exact I.step (g' := s.gens) (d' := s.drawn) (ch := []) (fun _ z => nomatch z) (fun b o _ hb _ e n => u.keep b o e n hb (by simp)) (fun b o _ hb _ e n => u.slot b o e n hb (by simp)) (fun b o _ e n => u.free b o e n (by simp)) (fun b o _ e => u.there b o e (by simp)) u.tups u.frzs u.tbls (fun m' hm => by
    obtain ⟨o', es', ep', ho', r'⟩ := hm
    rw [ho] at ho'; cases ho'
    exact ⟨_, es', ep', hL, r'⟩) hok I.bare
theorem Inv.call {g' : Array GenState} {t' : Nat} {d' : Drawn} {ch : List Addr} (I : Inv X pins σ H s) (u : Un (frs X.stack) ch H H' s.heap h') (hok : HOk X.prog X.w H' h') (hg : AllBare g')
    (hch : ∀ b ∈ ch, (b ∈ X.ex ∨ X.s₀.heap.objs.size ≤ b) ∧ b ≠ X.env.locals ∧ (∀ x c, X.env.cells.lookup x = some c → c ≠ b) ∧ ∀ p ∈ X.pn ++ pins, p.1 ≠ b) :
    Inv X pins σ H' { s with heap := h', gens := g', drawn := d', toks := t' } := by
  obtain ⟨m, ⟨o, es, ep, ho, r⟩, _⟩ := id I.loc
  obtain ⟨sl, hL⟩ := u.any ho I.free fun z => (hch _ z).2.1 rfl
  exact I.step (ch := ch) hch (fun b o hL hb hc e n => u.keep b o e n (fun z => (List.mem_cons.mp (I.stkSub b z)).elim hL hb) hc) (fun b o _ _ hc e n => u.any e n hc) (fun b o hc e n => u.free b o e n hc) (fun b o hc e => u.there b o e hc) u.tups u.frzs u.tbls (fun m' hm => by
    obtain ⟨o', es', ep', ho', r'⟩ := hm
    rw [ho] at ho'; cases ho'
    exact ⟨_, es', ep', hL, r'⟩) hok hg
theorem Inv.turned {t' : Nat} {it : Addr} (I : Inv X pins σ H s) (k : ∀ b o, b ≠ it → s.heap.get? b = some o → h'.get? b = some o) (hn : H it = none) (hL : it ≠ X.env.locals)
    (h1 : it ∈ X.ex ∨ X.s₀.heap.objs.size ≤ it) (h2 : ∀ x c, X.env.cells.lookup x = some c → c ≠ it) (h3 : ∀ p ∈ X.pn ++ pins, p.1 ≠ it) : Inv X pins σ H { s with heap := h', toks := t' } := by
  have nit : ∀ b u, H b = some u → b ≠ it := fun b u e z => by rw [z, hn] at e; cases e
  refine I.step (g' := s.gens) (d' := s.drawn) (ch := [it]) (fun b hb => ?_) (fun b o _ _ hc e _ => k b o (fun z => hc (by simp [z])) e) (fun b o _ _ hc e _ => ⟨o.slots, k b o (fun z => hc (by simp [z])) e⟩) (fun _ _ _ _ n => n)
    (fun b o hc e => ⟨o, k b o (fun z => hc (by simp [z])) e⟩) (fun _ _ e => e) (fun _ _ _ e => e) (fun b ps e => ⟨#[], by rw [e]; simp⟩) (fun m hm => ?_) (fun b u e => ?_) I.bare
  · have e : b = it := by simpa using hb
    subst e
    exact ⟨h1, hL, h2, h3⟩
  · obtain ⟨o, es, ep, ho, r⟩ := hm
    exact ⟨o, es, ep, k _ o (Ne.symm hL) ho, r⟩
  · refine (I.hok b u e).stay (fun c v hc q => k c v ?_ q) (fun _ q => q) fun _ _ q => q
    rcases hc with z | z
    · rw [z]; exact nit b u e
    · exact nit c _ z
theorem Inv.tok (I : Inv X pins σ H s) (t : Nat) : Inv X pins σ H { s with toks := t } := I.un (h' := s.heap) (t' := t) Un.refl I.hok
theorem Inv.kept {t' : Nat} (I : Inv X pins σ H s) (k : ∀ b u, s.heap.get? b = some u → h'.get? b = some u) : Inv X pins σ H { s with heap := h', toks := t' } := I.un (Un.kept k) (I.hok.kept k)
theorem Inv.laid {a : Addr} {o : HO} {t' : Nat} (I : Inv X pins σ H s) (k : ∀ b u, s.heap.get? b = some u → h'.get? b = some u) (hp : s.heap.objs.size ≤ a) (new : ObjOk X.prog X.w (upd H a o) h' a o) :
    Inv X pins σ (upd H a o) { s with heap := h', toks := t' } := I.un (Un.laid k hp (I.hok.fresh hp)) (I.hok.laid k hp new)
theorem Inv.write {x e : Addr} {o : HO} {t' : Nat} (I : Inv X pins σ H s) (mu : Mut (H x)) (he : e = x ∨ H e = some (.own x)) (k : ∀ b u, b ≠ e → s.heap.get? b = some u → h'.get? b = some u) (heo : ∃ u, h'.get? e = some u)
    (new : ObjOk X.prog X.w (upd H x o) h' x o) : Inv X pins σ (upd H x o) { s with heap := h', toks := t' } := I.un (Un.write mu he k heo) (I.hok.write mu he k heo new)
theorem Inv.pins_of {pins' : List (Addr × Obj)} (I : Inv X pins σ H s) (h : ∀ p ∈ pins', s.heap.get? p.1 = some p.2 ∧ H p.1 = none ∧ p.1 ≠ X.env.locals ∧ p.1 ∉ X.fs ∧ ∀ v, p.2.data ≠ .cell v) : Inv X pins' σ H s :=
  ⟨I.ok, I.os, I.bare, I.base, I.loc, I.cell, I.free, I.freeC, fun p hp => (List.mem_append.mp hp).elim (fun z => I.pin p (List.mem_append_left _ z)) (h p), I.hok, I.len⟩
theorem nodup_ix {N : List Str} (hN : N.Nodup) {i j : Nat} {x : Str} (a : N[i]? = some x) (b : N[j]? = some x) : i = j := by
  obtain ⟨h1, e1⟩ := List.getElem?_eq_some_iff.mp a
  obtain ⟨h2, e2⟩ := List.getElem?_eq_some_iff.mp b
  exact (List.getElem_inj hN).mp (e1.trans e2.symm)
theorem store_ok2 {M : Model} {A : Around} {E : Value → Shared → Prop} {i : Nat} {x : Str} {v : V} {u : Value} {Q : Unit → Shared → Prop} (I : Inv X pins σ H s) (hN : X.N.Nodup) (hi : X.N[i]? = some x) (hx : Loc X.env.scope x) (r : RelV v u)
    (h : ∀ s', Inv X pins (σ.set i (some v)) H s' → (∃ a, Heap.SameBut a s.heap s'.heap ∧ (a = X.env.locals ∨ X.env.cells.lookup x = some a)) → Q () s') (hf : X.fn x = true ∨ X.env.scope.names.lookup x = some .local := by first | exact .inl rfl | exact .inr rfl | assumption) : wpAny M A (storeName X.env x u) Q E s := by
  obtain ⟨m, hn, hl⟩ := id I.loc
  have hcls : (X.env.scope.kind == .class || (X.env.scope.kind == .module && X.env.locals != X.env.globals)) = false := by rw [I.ok.kind]; rfl
  have hiσ : i < σ.length := by rw [I.len]; exact (List.getElem?_eq_some_iff.mp hi).1
  have cne := I.cne
  have tracked : ∀ {a : Addr} {h' : Heap}, (∃ o, s.heap.get? a = some o ∧ H a = none) → Heap.SameBut a s.heap h' → HOk X.prog X.w H h' := fun {a h'} ha hs b ob e => by
    obtain ⟨_, _, hfree⟩ := ha
    refine (I.hok b ob e).stay (fun c w' hc q => (hs.2 c ?_).trans q) (fun _ q => q) fun _ _ q => q
    rintro rfl
    rcases hc with rfl | hc
    · rw [hfree] at e; cases e
    · rw [hfree] at hc; cases hc
  rcases hx with hk | hk
  · refine wpAny_storeName_local hk hn (fun h' hn' hs => ?_) hcls
    obtain ⟨oL, _, _, hoL, _⟩ := id hn
    refine h _ ⟨I.ok, I.os, I.bare, ⟨fun b o e n hb hx => ?_, fun b o e n hb hx => ?_, I.base.free, fun b o e hx => ?_, I.base.tups, I.base.frzs, I.base.tbls⟩, ⟨_, hn', fun j y v' e1 e2 e3 => ?_⟩, fun y c e => ?_, I.free, I.freeC, fun p hp => ?_, tracked ⟨oL, hoL, I.free⟩ hs, by simpa using I.len⟩ ⟨_, hs, .inl rfl⟩
    · exact (hs.2 b (Nat.ne_of_lt (Nat.lt_of_lt_of_le (Heap.lt_size e) I.ok.above))).trans (I.base.keep b o e n hb hx)
    · obtain ⟨sl, e1⟩ := I.base.slot b o e n hb hx
      exact ⟨sl, (hs.2 b (Nat.ne_of_lt (Nat.lt_of_lt_of_le (Heap.lt_size e) I.ok.above))).trans e1⟩
    · obtain ⟨o', e1⟩ := I.base.there b o e hx
      exact ⟨o', (hs.2 b (Nat.ne_of_lt (Nat.lt_of_lt_of_le (Heap.lt_size e) I.ok.above))).trans e1⟩
    · by_cases hj : j = i
      · subst hj
        rw [hi] at e1; cases e1
        rw [List.getElem?_set_self hiσ] at e2
        cases e2
        exact ⟨u, r, .inl ⟨hk, by simp⟩⟩
      · rw [List.getElem?_set_ne (Ne.symm hj)] at e2
        obtain ⟨u', r', q⟩ := hl j y v' e1 e2 e3
        refine ⟨u', r', ?_⟩
        rcases q with ⟨k, e⟩ | ⟨k, c, e, z⟩
        · refine .inl ⟨k, ?_⟩
          have : y ≠ x := fun e => hj (nodup_ix hN e1 (e ▸ hi))
          simp [this, e]
        · exact .inr ⟨k, c, e, z.sameBut hs (cne y c e)⟩
    · obtain ⟨w', z⟩ := I.cell y c e
      exact ⟨w', z.sameBut hs (cne y c e)⟩
    · obtain ⟨e, n, ne, nf, d⟩ := I.pin p hp
      exact ⟨(hs.2 p.1 ne).trans e, n, ne, nf, d⟩
  · have hfn : X.fn x = true := by
      rcases hf with z | z
      · exact z
      · rw [z] at hk; cases hk
    obtain ⟨c, hc⟩ := I.ok.has x (.inl hk)
    obtain ⟨w', z⟩ := I.cell x c hc
    refine wpAny_storeName_cell I.ok.kind hk hc z (fun h' hc' hs => ?_)
    obtain ⟨oc, hoc, hocd⟩ := id z
    refine h { s with heap := h' } ⟨I.ok, I.os, I.bare, ⟨fun b o e n hb hx => ?_, fun b o e n hb hx => ?_, I.base.free, fun b o e hx => ?_, I.base.tups, I.base.frzs, I.base.tbls⟩, ⟨m, hn.sameBut hs (Ne.symm (cne x c hc)), fun j y v' e1 e2 e3 => ?_⟩, fun y c' e => ?_, I.free, I.freeC, fun p hp => ?_, tracked ⟨oc, hoc, I.freeC x c hc⟩ hs, by simpa using I.len⟩ ⟨c, hs, .inr hc⟩
    · exact (hs.2 b (Nat.ne_of_lt (Nat.lt_of_lt_of_le (Heap.lt_size e) (I.ok.cab x c hfn hc)))).trans (I.base.keep b o e n hb hx)
    · obtain ⟨sl, e1⟩ := I.base.slot b o e n hb hx
      exact ⟨sl, (hs.2 b (Nat.ne_of_lt (Nat.lt_of_lt_of_le (Heap.lt_size e) (I.ok.cab x c hfn hc)))).trans e1⟩
    · obtain ⟨o', e1⟩ := I.base.there b o e hx
      exact ⟨o', (hs.2 b (Nat.ne_of_lt (Nat.lt_of_lt_of_le (Heap.lt_size e) (I.ok.cab x c hfn hc)))).trans e1⟩
    · by_cases hj : j = i
      · subst hj
        rw [hi] at e1; cases e1
        rw [List.getElem?_set_self hiσ] at e2
        cases e2
        exact ⟨u, r, .inr ⟨.inl hk, c, hc, hc'⟩⟩
      · rw [List.getElem?_set_ne (Ne.symm hj)] at e2
        obtain ⟨u', r', q⟩ := hl j y v' e1 e2 e3
        refine ⟨u', r', ?_⟩
        rcases q with q | ⟨k, c', e, z'⟩
        · exact .inl q
        · refine .inr ⟨k, c', e, z'.sameBut hs ?_⟩
          rintro rfl
          exact hj (nodup_ix hN e1 (I.ok.inj _ _ _ e hc ▸ hi))
    · by_cases hcc : c' = c
      · subst hcc; exact ⟨_, hc'⟩
      · obtain ⟨w2, z2⟩ := I.cell y c' e
        exact ⟨w2, z2.sameBut hs hcc⟩
    · obtain ⟨e, n, ne, nf, d⟩ := I.pin p hp
      refine ⟨(hs.2 p.1 ?_).trans e, n, ne, nf, d⟩
      intro q
      rw [q, hoc] at e
      have q' : oc = p.2 := Option.some.inj e
      exact d w' (by rw [← q']; exact hocd)
theorem store_ok {M : Model} {A : Around} {E : Value → Shared → Prop} {i : Nat} {x : Str} {v : V} {u : Value} {Q : Unit → Shared → Prop} (I : Inv X pins σ H s) (hN : X.N.Nodup) (hi : X.N[i]? = some x) (hx : Loc X.env.scope x) (r : RelV v u)
    (h : ∀ s', Inv X pins (σ.set i (some v)) H s' → Q () s') (hf : X.fn x = true ∨ X.env.scope.names.lookup x = some .local := by first | exact .inl rfl | exact .inr rfl | assumption) : wpAny M A (storeName X.env x u) Q E s :=
  store_ok2 I hN hi hx r (fun s' I' _ => h s' I') hf
theorem Inv.call' {s' : Shared} {ch : List Addr} (I : Inv X pins σ H s) (ho : s'.os = s.os) (u : Un (frs X.stack) ch H H' s.heap s'.heap) (hok : HOk X.prog X.w H' s'.heap) (hg : AllBare s'.gens)
    (hch : ∀ b ∈ ch, (b ∈ X.ex ∨ X.s₀.heap.objs.size ≤ b) ∧ b ≠ X.env.locals ∧ (∀ x c, X.env.cells.lookup x = some c → c ≠ b) ∧ ∀ p ∈ X.pn ++ pins, p.1 ≠ b) : Inv X pins σ H' s' := by
  obtain ⟨h', g', d', t', o'⟩ := s'
  have e : o' = s.os := ho
  subst e
  exact I.call (g' := g') (t' := t') (d' := d') u hok hg hch
end
abbrev XK := Value → Option Addr → Hp → Prop
abbrev St := List (Option V)
abbrev VK := V → Hp → Prop
abbrev TE := St → Hp → VK → Prop
abbrev TT := St → Hp → (Bool → Hp → Prop) → Prop
abbrev TA := St → Hp → (List V → Hp → Prop) → Prop
structure Ends where
  nx : St → Hp → Prop
  rt : VK
  bk : St → Hp → Prop := fun _ _ => False
  ct : St → Hp → Prop := fun _ _ => False
abbrev TS := Ends → St → Hp → Prop
def EP (X : Cx) (pins : List (Addr × Obj)) (σ : St) (Q : VK) (u : Value) (s' : Shared) : Prop := ∃ v H', Inv X pins σ H' s' ∧ RelV v u ∧ Q v H'
def TP (X : Cx) (pins : List (Addr × Obj)) (σ : St) (Q : Bool → Hp → Prop) (b : Bool) (s' : Shared) : Prop := ∃ H', Inv X pins σ H' s' ∧ Q b H'
def AP (X : Cx) (pins : List (Addr × Obj)) (σ : St) (Q : List V → Hp → Prop) (us : List Value) (s' : Shared) : Prop := ∃ vs H', Inv X pins σ H' s' ∧ Vals vs us ∧ Q vs H'
def SP (X : Cx) (pins : List (Addr × Obj)) (D : Ends) (f : Flow) (s' : Shared) : Prop :=
  match f with
  | .next => ∃ σ' H', Inv X pins σ' H' s' ∧ D.nx σ' H'
  | .brk => ∃ σ' H', Inv X pins σ' H' s' ∧ D.bk σ' H'
  | .cont => ∃ σ' H', Inv X pins σ' H' s' ∧ D.ct σ' H'
  | .ret u => ∃ v σ' H', Inv X pins σ' H' s' ∧ RelV v u ∧ D.rt v H'
namespace Zu
set_option allowUnsafeReducibility true in
@[scoped irreducible] def _root_.L2.PE (X : Cx) (e : Expr) (t : TE) : Prop :=
  ∀ (pins : List (Addr × Obj)) (s : Shared) (σ : St) (H : Hp) (Q : VK), Inv X pins σ H s → t σ H Q → wpAny (model X.prog X.w) X.A (eval e X.env) (EP X pins σ Q) X.xe s
end Zu
namespace Zu
set_option allowUnsafeReducibility true in
@[scoped irreducible] def _root_.L2.PT (X : Cx) (e : Expr) (t : TT) : Prop :=
  ∀ (pins : List (Addr × Obj)) (s : Shared) (σ : St) (H : Hp) (Q : Bool → Hp → Prop), Inv X pins σ H s → t σ H Q → wpAny (model X.prog X.w) X.A (isTrue e X.env (eval e X.env)) (TP X pins σ Q) X.xe s
end Zu
namespace Zu
set_option allowUnsafeReducibility true in
@[scoped irreducible] def _root_.L2.PW (X : Cx) (e : Expr) (t : TT) : Prop :=
  ∀ (whole : Sem Value) (pins : List (Addr × Obj)) (s : Shared) (σ : St) (H : Hp) (Q : Bool → Hp → Prop), Inv X pins σ H s → t σ H Q → wpAny (model X.prog X.w) X.A (isTrue e X.env whole) (TP X pins σ Q) X.xe s
end Zu
theorem PW.pt {X : Cx} {e : Expr} {t : TT} (h : PW X e t) : PT X e t := h _
namespace Zu
set_option allowUnsafeReducibility true in
@[scoped irreducible] def _root_.L2.PA (X : Cx) (es : List Expr) (t : TA) : Prop :=
  ∀ (pos : Pos) (pins : List (Addr × Obj)) (s : Shared) (σ : St) (H : Hp) (Q : List V → Hp → Prop), Inv X pins σ H s → t σ H Q → wpAny (model X.prog X.w) X.A (spliced (backTo pos (starEach es X.env))) (AP X pins σ Q) X.xe s
end Zu
namespace Zu
set_option allowUnsafeReducibility true in
@[scoped irreducible] def _root_.L2.PS (X : Cx) (st : Stmt) (t : TS) : Prop :=
  ∀ (pins : List (Addr × Obj)) (s : Shared) (σ : St) (H : Hp) (D : Ends), Inv X pins σ H s → t D σ H → wpAny (model X.prog X.w) X.A (exec st X.env) (SP X pins D) X.xe s
end Zu
namespace Zu
set_option allowUnsafeReducibility true in
@[scoped irreducible] def _root_.L2.PSs (X : Cx) (st : List Stmt) (t : TS) : Prop :=
  ∀ (pins : List (Addr × Obj)) (s : Shared) (σ : St) (H : Hp) (D : Ends), Inv X pins σ H s → t D σ H → wpAny (model X.prog X.w) X.A (execs st X.env) (SP X pins D) X.xe s
end Zu
theorem thn {α : Type} {t : Sem α} {Q Q' : α → Shared → Prop} {M : Model} {A : Around} {E : Value → Shared → Prop} {s : Shared} (h : wpAny M A t Q E s) (hQ : ∀ a s, Q a s → Q' a s) : wpAny M A t Q' E s := wpAny_mono h hQ fun _ _ x => x
end L2
namespace L2
open PySem PySem.Spec PyProof.Rows
section
variable {X : Cx}
theorem bin {a b : Expr} {ta tb : TE} (ha : PE X a ta) (hb : PE X b tb) {pins : List (Addr × Obj)} {s : Shared} {σ : St} {H : Hp} {R : V → V → Hp → Prop} (I : Inv X pins σ H s) (h : ta σ H fun x H1 => tb σ H1 fun y H2 => R x y H2)
    {α : Type} {Q : α → Shared → Prop} {f : Value → Value → Sem α}
    (hf : ∀ v u s2 x y H2, Inv X pins σ H2 s2 → RelV x v → RelV y u → R x y H2 → wpAny (model X.prog X.w) X.A (f v u) Q X.xe s2) :
    wpAny (model X.prog X.w) X.A (eval a X.env) (fun v s₁ => wpAny (model X.prog X.w) X.A (eval b X.env) (fun u s₂ => wpAny (model X.prog X.w) X.A (f v u) Q X.xe s₂) X.xe s₁) X.xe s := by
  refine thn (ha pins s σ H _ I h) fun v s1 ⟨x, H1, I1, r1, q1⟩ => ?_
  refine thn (hb pins s1 σ H1 _ I1 q1) fun u s2 ⟨y, H2, I2, r2, q2⟩ => ?_
  exact hf v u s2 x y H2 I2 r1 r2 q2
def tVar (i : Nat) : TE := fun σ H Q => ∃ v, σ[i]? = some (some v) ∧ Q v H
def tC (v : V) : TE := fun _ H Q => Q v H
theorem pe_var {i : Nat} {x : Str} {pos : Pos} (hN : X.N[i]? = some x) (hv : Vis X.env.scope x) (hd : (x == ("__debug__" : Str)) = false := by decide) (hcd : (x == ("__classdict__" : Str)) = false := by decide) : PE X (.Name x pos) (tVar i) := by
  intro pins s σ H Q I h
  obtain ⟨v, e, h⟩ := h
  obtain ⟨m, hn, hl⟩ := I.loc
  obtain ⟨u, r, l⟩ := hl i x v hN e hv
  have fin : EP X pins σ Q u s := ⟨v, H, I, r, h⟩
  rcases l with ⟨hk, hm⟩ | ⟨hk, c, hc, hcell⟩
  · exact wpAny_Name (wpAny_loadName_local I.ok.kind hk hn hm fin) hd
  · rcases hk with hk | hk
    · exact wpAny_Name (wpAny_loadName_cell I.ok.kind hk hc hcell fin) hd
    · exact wpAny_Name (wpAny_loadName_free I.ok.kind hk hc hcell fin hcd) hd
theorem pe_int {i j pos} : PE X (.Constant (.int i) j pos) (tC (.int i)) := fun _ _ _ H _ I h => wpAny_Constant_int ⟨.int i, H, I.tok _, ⟨_, rfl⟩, h⟩
theorem pe_bl {b j pos} : PE X (.Constant (.bool b) j pos) (tC (.bl b)) := fun _ _ _ H _ I h => Constant_bool ⟨.bl b, H, I, rfl, h⟩
theorem pe_str {x j pos} : PE X (.Constant (.str x) j pos) (tC (.str x)) := fun _ _ _ H _ I h => Calls.Constant_str ⟨.str x, H, I.tok _, ⟨_, rfl⟩, h⟩
def Gl (X : Cx) (x : Str) : Prop := X.env.kindOf x = some .globalImplicit
theorem ld_glob {E : Value → Shared → Prop} {pins : List (Addr × Obj)} {s : Shared} {σ : St} {H : Hp} {x : Str} {u : Value} {pos : Pos} {Q : Value → Shared → Prop} (I : Inv X pins σ H s) (hg : Gl X x) (hm : X.mg x = some u) (h : Q u s)
    (hd : (x == ("__debug__" : Str)) = false := by decide) : wpAny (model X.prog X.w) X.A (eval (.Name x pos) X.env) Q E s :=
  Calls.Name_function_global I.ok.kind hg (Calls.loadGlobal_global (by rw [I.ok.glob]; exact I.mod.glob.keeps I.bk) hm h) hd
theorem ld_blt {E : Value → Shared → Prop} {pins : List (Addr × Obj)} {s : Shared} {σ : St} {H : Hp} {x : Str} {u : Value} {pos : Pos} {Q : Value → Shared → Prop} (I : Inv X pins σ H s) (hg : Gl X x) (hm : X.mg x = none) (hv : bootBuiltins x = some u) (h : Q u s)
    (hn : x ≠ "__name__" := by decide) (hd : (x == ("__debug__" : Str)) = false := by decide) : wpAny (model X.prog X.w) X.A (eval (.Name x pos) X.env) Q E s := by
  obtain ⟨mb, h1, h2⟩ := I.mod.blt
  exact Calls.Name_function_global I.ok.kind hg (Calls.loadGlobal_builtin (by rw [I.ok.glob]; exact I.mod.glob.keeps I.bk) hm (by rw [I.ok.blt]; exact h1.keeps I.bk) ((h2 x hn).trans hv) h) hd
theorem pe_glob {x : Str} {v : V} {u : Value} {pos : Pos} (hg : Gl X x) (hm : X.mg x = some u) (r : RelV v u) (hd : (x == ("__debug__" : Str)) = false := by decide) : PE X (.Name x pos) (tC v) :=
  fun _ _ _ H _ I h => ld_glob I hg hm ⟨v, H, I, r, h⟩ hd
theorem pe_bltn {x : Str} {v : V} {u : Value} {pos : Pos} (hg : Gl X x) (hm : X.mg x = none) (hv : bootBuiltins x = some u) (r : RelV v u) (hn : x ≠ "__name__" := by decide) (hd : (x == ("__debug__" : Str)) = false := by decide) : PE X (.Name x pos) (tC v) :=
  fun _ _ _ H _ I h => ld_blt I hg hm hv ⟨v, H, I, r, h⟩ hn hd
variable {a b : Expr} {ta tb : TE} {pos : Pos}
def PC (X : Cx) (op : CmpOp) (a b : Expr) (t : TE) : Prop :=
  ∀ (pins : List (Addr × Obj)) (s : Shared) (σ : St) (H : Hp) (Q : VK), Inv X pins σ H s → t σ H Q →
    wpAny (model X.prog X.w) X.A (eval a X.env) (fun v s₁ => wpAny (model X.prog X.w) X.A (eval b X.env) (fun u s₂ => wpAny (model X.prog X.w) X.A (compareOp op v u) (EP X pins σ Q) X.xe s₂) X.xe s₁) X.xe s
theorem nobehind (b : Expr) {op : CmpOp} (h : op ≠ .In) (h2 : op ≠ .NotIn) : behindInMarks op b = false := by
  have e1 : (op == CmpOp.In) = false := by cases op <;> first | rfl | exact absurd rfl h
  have e2 : (op == CmpOp.NotIn) = false := by cases op <;> first | rfl | exact absurd rfl h2
  cases b <;> simp [behindInMarks, e1, e2]
def tB (t : TE) : TT := fun σ H Q => t σ H fun x H1 => ∃ c, x = .bl c ∧ Q c H1
theorem pt_cmp {op : CmpOp} {t : TE} (h : PC X op a b t) (h1 : behindInMarks op b = false := by first | exact nobehind _ (by decide) (by decide) | rfl) : PT X (.Compare a [op] [b] pos) (tB t) := by
  intro pins s σ H Q I hw
  refine wpAny_isTrue_Compare1 (thn (h pins s σ H _ I hw) fun v s1 h1 => thn h1 fun u s2 h2 => thn h2 fun c s3 ⟨x, H1, I1, r1, q1⟩ => ?_) h1
  obtain ⟨d, rfl, q⟩ := q1
  cases r1
  exact wpAny_truthy_bool ⟨H1, I1, q⟩
theorem pt_val {e : Expr} {t : TE} (h : PE X e t) (he : ∀ whole, isTrue e X.env whole = (do let v ← whole; standAt e.pos; holding [v] (truthy v)) := by intro _; rfl) : PT X e (tB t) := by
  intro pins s σ H Q I hw
  refine isTrue_plain (thn (h pins s σ H _ I hw) fun v s1 ⟨x, H1, I1, r1, q1⟩ => ?_) (he _)
  obtain ⟨d, rfl, q⟩ := q1
  cases r1
  exact wpAny_truthy_bool ⟨H1, I1, q⟩
variable {tA tB' : TT} {rest : List Expr}
def tAnd (t u : TT) : TT := fun σ H Q => t σ H fun c H1 => if c = true then u σ H1 Q else Q false H1
def tOr (t u : TT) : TT := fun σ H Q => t σ H fun c H1 => if c = true then Q true H1 else u σ H1 Q
def tNot (t : TT) : TT := fun σ H Q => t σ H fun c H1 => Q (!c) H1
theorem pw_or1 (ha : PT X a tA) : PW X (.BoolOp .Or [a] pos) tA := by
  intro wh pins s σ H Q I h
  refine isTrue_or (thn (ha pins s σ H Q I h) fun c s1 e => ?_)
  cases c with
  | false => exact isTrue_or_nil e
  | true => exact e
theorem pw_or (ha : PT X a tA) (hb : PW X (.BoolOp .Or (b :: rest) pos) tB') : PW X (.BoolOp .Or (a :: b :: rest) pos) (tOr tA tB') := by
  intro wh pins s σ H Q I h
  refine isTrue_or (thn (ha pins s σ H _ I h) fun c s1 ⟨H1, I1, q1⟩ => ?_)
  cases c with
  | true => exact ⟨H1, I1, q1⟩
  | false => exact hb wh pins s1 σ H1 Q I1 q1
theorem pt_not (ha : PT X a tA) : PT X (.UnaryOp .Not a pos) (tNot tA) := by
  intro pins s σ H Q I h
  exact isTrue_not (ha pins s σ H (fun c H1 => Q (!c) H1) I h)
def tAndV (ta tb : TE) : TE := fun σ H Q => ta σ H fun x H1 => ∃ c, x = .bl c ∧ if c = true then tb σ H1 Q else Q (.bl false) H1
theorem pe_one {op} {t : TE} (h : PE X a t) : PE X (.BoolOp op [a] pos) t := fun pins s σ H Q I hw => BoolOp_one (h pins s σ H Q I hw)
theorem pe_and (ha : PE X a ta) (hb : PE X (.BoolOp .And (b :: rest) pos) tb) : PE X (.BoolOp .And (a :: b :: rest) pos) (tAndV ta tb) := by
  intro pins s σ H Q I h
  refine BoolOp_and (thn (ha pins s σ H _ I h) fun v s1 ⟨x, H1, I1, r1, q1⟩ => ?_)
  obtain ⟨c, rfl, q1⟩ := q1
  cases r1
  refine wpAny_truthy_bool ?_
  cases c with
  | true => exact hb pins s1 σ H1 Q I1 q1
  | false => exact ⟨.bl false, H1, I1, rfl, q1⟩
end
end L2
namespace L2
open PySem PySem.Spec PyProof.Rows
def SqL (K : PySem.W.Frag) (H : Hp) (a : Addr) (xs : List V) : Prop :=
  Rd H a (.lst xs) ∨
    ∃ (o : Obj) (its : Array Value) (n : Nat), K.lookup a = some o ∧ o.cls = .type "list" ∧ o.dict = none ∧ o.data = .seq its n ∧ its.size ≤ sizeLine ∧ Vals xs its.toList
def SqT (K : PySem.W.Frag) (H : Hp) (a : Addr) (xs : List V) : Prop :=
  Rd H a (.tup xs) ∨
    ∃ (o : Obj) (its : Array Value) (n : Nat), K.lookup a = some o ∧ o.cls = .type "tuple" ∧ o.data = .seq its n ∧ its.size ≤ sizeLine ∧ Vals xs its.toList
section
variable {X : Cx} {pins : List (Addr × Obj)} {σ : St} {H : Hp} {s : Shared} {a : Addr} {xs ys : List V}
theorem SqL.of {K : PySem.W.Frag} (h : H a = some (.lst xs)) : SqL K H a xs := .inl (.inl h)
theorem SqT.of {K : PySem.W.Frag} (h : H a = some (.tup xs)) : SqT K H a xs := .inl (.inl h)
theorem Inv.list (I : Inv X pins σ H s) (h : SqL X.K H a xs) : ∃ its : List Value, Vals xs its ∧ PlainL s.heap a its.toArray ∧ xs.length ≤ sizeLine := by
  rcases h with h | ⟨o, its, n, hk, hc, hd, hs, hz, r⟩
  · obtain ⟨z, its, n, r, e⟩ := h.ok I.hok
    exact ⟨its, r, ⟨_, n, e, rfl, rfl, rfl⟩, z⟩
  · refine ⟨its.toList, r, ⟨o, n, I.kIn a o hk, hc, hd, by simpa using hs⟩, ?_⟩
    have e := r.length
    simp only [Array.length_toList] at e
    omega
theorem Inv.tuple (I : Inv X pins σ H s) (h : SqT X.K H a xs) : ∃ its : List Value, Vals xs its ∧ IsTup s.heap a its.toArray ∧ xs.length ≤ sizeLine := by
  rcases h with h | ⟨o, its, n, hk, hc, hs, hz, r⟩
  · obtain ⟨z, its, r, p⟩ := h.ok I.hok
    exact ⟨its, r, p, z⟩
  · refine ⟨its.toList, r, ⟨o, I.kIn a o hk, hc, n, by simpa using hs⟩, ?_⟩
    have e := r.length
    simp only [Array.length_toList] at e
    omega
end
abbrev Cx.wish (X : Cx) (E : Value → Shared → Prop) : Cx := { X with xe := E }
abbrev Cx.nox (X : Cx) : Cx := X.wish fun _ _ => False
theorem Cx.Ok.wish {X : Cx} (ok : X.Ok) (E : Value → Shared → Prop) : (X.wish E).Ok :=
  ⟨ok.mod, ok.kind, ok.glob, ok.blt, ok.above, ok.inj, ok.has, ok.cab, ok.hd, ok.frames, ok.stk, ok.exf, ok.bs, ok.bsz, ok.noex, ok.exfs, ok.funs, ok.frf⟩
theorem Cx.Ok.unwish {X : Cx} {E : Value → Shared → Prop} (ok : (X.wish E).Ok) : X.Ok :=
  ⟨ok.mod, ok.kind, ok.glob, ok.blt, ok.above, ok.inj, ok.has, ok.cab, ok.hd, ok.frames, ok.stk, ok.exf, ok.bs, ok.bsz, ok.noex, ok.exfs, ok.funs, ok.frf⟩
section
variable {X : Cx} {pins : List (Addr × Obj)} {σ : St} {H : Hp} {s : Shared} {E : Value → Shared → Prop}
theorem Inv.wish (I : Inv X pins σ H s) (E : Value → Shared → Prop) : Inv (X.wish E) pins σ H s := ⟨I.ok.wish E, I.os, I.bare, I.base, I.loc, I.cell, I.free, I.freeC, I.pin, I.hok, I.len⟩
theorem Inv.unwish (I : Inv (X.wish E) pins σ H s) : Inv X pins σ H s := ⟨I.ok.unwish, I.os, I.bare, I.base, I.loc, I.cell, I.free, I.freeC, I.pin, I.hok, I.len⟩
theorem SP.unwish {D : Ends} {f : Flow} {s' : Shared} (h : SP (X.wish E) pins D f s') : SP X pins D f s' := by
  cases f with
  | next => obtain ⟨σ', H', I, q⟩ := h; exact ⟨σ', H', I.unwish, q⟩
  | brk => obtain ⟨σ', H', I, q⟩ := h; exact ⟨σ', H', I.unwish, q⟩
  | cont => obtain ⟨σ', H', I, q⟩ := h; exact ⟨σ', H', I.unwish, q⟩
  | ret u => obtain ⟨v, σ', H', I, r, q⟩ := h; exact ⟨v, σ', H', I.unwish, r, q⟩
theorem PSs.nox {st : List Stmt} {t : TS} (h : PSs X.nox st t) : PSs X st t := fun pins s σ H D I hw =>
  wpAny_mono (h pins s σ H D (I.wish _) hw) (fun _ _ q => q.unwish) fun _ _ z => False.elim z
end
section
variable {X : Cx} {st : Stmt} {rest : List Stmt} {t u : TS} {e : Expr} {te : TE} {pos : Pos}
def tNext : TS := fun D σ H => D.nx σ H
def tSeq (t u : TS) : TS := fun D σ H => t { D with nx := u D } σ H
theorem pss_nil : PSs X [] tNext := fun _ _ σ H _ I h => wpAny_execs_nil ⟨σ, H, I, h⟩
theorem pss_cons (h1 : PS X st t) (h2 : PSs X rest u) : PSs X (st :: rest) (tSeq t u) := by
  intro pins s σ H D I h
  refine wpAny_execs_cons (thn (h1 pins s σ H { D with nx := u D } I h) fun f s1 q => ?_)
  cases f with
  | next =>
    obtain ⟨σ', H', I', q⟩ := q
    exact h2 pins s1 σ' H' D I' q
  | ret v => exact q
  | brk => exact q
  | cont => exact q
theorem pss_one (h1 : PS X st t) : PSs X [st] t := by
  intro pins s σ H D I h
  refine wpAny_execs_cons (thn (h1 pins s σ H D I h) fun f s1 q => ?_)
  cases f with
  | next => exact wpAny_execs_nil q
  | ret v => exact q
  | brk => exact q
  | cont => exact q
def tRet (te : TE) : TS := fun D σ H => te σ H D.rt
theorem ps_ret (he : PE X e te) : PS X (.Return (some e) pos) (tRet te) := by
  intro pins s σ H D I h
  exact wpAny_Return_some (thn (he pins s σ H _ I h) fun v s1 ⟨x, H1, I1, r1, q1⟩ => ⟨x, σ, H1, I1, r1, q1⟩)
def tIfS (c : TT) (t u : TS) : TS := fun D σ H => c σ H fun b H1 => if b = true then t D σ H1 else u D σ H1
theorem ps_if {c : Expr} {a b : List Stmt} {tc : TT} (hc : PT X c tc) (ha : PSs X a t) (hb : PSs X b u) : PS X (.If c a b pos) (tIfS tc t u) := by
  intro pins s σ H D I h
  refine wpAny_If (thn (hc pins s σ H _ I h) fun d s1 ⟨H1, I1, q1⟩ => ?_)
  cases d with
  | true => exact ha pins s1 σ H1 D I1 q1
  | false => exact hb pins s1 σ H1 D I1 q1
end
abbrev TG := V → St → Hp → (St → Hp → Prop) → Prop
abbrev TGs := List V → St → Hp → (St → Hp → Prop) → Prop
namespace Zu
set_option allowUnsafeReducibility true in
@[scoped irreducible] def _root_.L2.PG (X : Cx) (target : Expr) (t : TG) : Prop :=
  ∀ (pins : List (Addr × Obj)) (s : Shared) (σ : St) (H : Hp) (v : V) (u : Value) (Q : St → Hp → Prop), Inv X pins σ H s → RelV v u → t v σ H Q →
    wpAny (model X.prog X.w) X.A (assign target X.env u) (fun _ s' => ∃ σ' H', Inv X pins σ' H' s' ∧ Q σ' H') X.xe s
end Zu
namespace Zu
end Zu
abbrev TSet := V → V → V → Hp → (Hp → Prop) → Prop
def PSet (X : Cx) (t : TSet) : Prop :=
  ∀ (pins : List (Addr × Obj)) (s : Shared) (σ : St) (H : Hp) (o i v : V) (ov iv u : Value) (Q : Hp → Prop), Inv X pins σ H s → RelV o ov → RelV i iv → RelV v u → t o i v H Q →
    wpAny (model X.prog X.w) X.A (setItem ov iv u) (fun _ s' => ∃ H', Inv X pins σ H' s' ∧ Q H') X.xe s
section
variable {X : Cx} {pos : Pos}
def gName (i : Nat) : TG := fun v σ H Q => Q (σ.set i (some v)) H
theorem pg_name {i : Nat} {x : Str} (hN : X.N.Nodup) (hi : X.N[i]? = some x) (hx : Loc X.env.scope x) (hf : X.fn x = true ∨ X.env.scope.names.lookup x = some .local := by first | exact .inl rfl | exact .inr rfl | assumption) : PG X (.Name x pos) (gName i) := by
  intro pins s σ H v u Q I r h
  exact wpAny_assign_Name (store_ok I hN hi hx r (fun s' I' => ⟨_, H, I', h⟩) hf)
def gNil : TGs := fun vs σ H Q => vs = [] ∧ Q σ H
def gCons (t : TG) (u : TGs) : TGs := fun vs σ H Q => ∃ v r, vs = v :: r ∧ t v σ H fun σ' H' => u r σ' H' Q
def gTup (K : PySem.W.Frag) (n : Nat) (t : TGs) : TG := fun v σ H Q => ∃ a xs, v = .ref a ∧ SqT K H a xs ∧ xs.length = n ∧ t xs σ H Q
def gSub (to ti : TE) (t : TSet) : TG := fun v σ H Q => to σ H fun o H1 => ti σ H1 fun i H2 => t o i v H2 fun H3 => Q σ H3
theorem pg_sub {o i : Expr} {to ti : TE} {t : TSet} (ho : PE X o to) (hi : PE X i ti) (hs : PSet X t)
    (ha : ∀ v, assign (.Subscript o i pos) X.env v = (do
      let ov ← holding [v] (eval o X.env)
      let iv ← holding [v, ov] (eval i X.env)
      standAt pos
      holding [v, ov, iv] (setItem ov iv v)
      release [v, ov, iv] []) := by intro _; rfl) : PG X (.Subscript o i pos) (gSub to ti t) := by
  intro pins s σ H v u Q I r h
  rw [ha]
  refine wpAny_bind (wpAny_holding (thn (ho pins s σ H _ I h) fun ov s1 ⟨x, H1, I1, r1, q1⟩ => ?_))
  refine wpAny_bind (wpAny_holding (thn (hi pins s1 σ H1 _ I1 q1) fun iv s2 ⟨y, H2, I2, r2, q2⟩ => ?_))
  refine wpAny_bind (wpAny_standAt (wpAny_bind (wpAny_holding (thn (hs pins s2 σ H2 x y v ov iv u _ I2 r1 r2 r q2) fun _ s3 ⟨H3, I3, q3⟩ => ?_))))
  exact wpAny_release ⟨σ, H3, I3, q3⟩
def tAsg (te : TE) (g : TG) : TS := fun D σ H => te σ H fun x H1 => g x σ H1 D.nx
theorem ps_asg {tg e : Expr} {te : TE} {g : TG} (he : PE X e te) (hg : PG X tg g) (hs : swapsWithSole [tg] e pos.line X.env = pure false := by rfl) (hw : swappedStores [tg] e X.env = pure none := by rfl)
    (h1 : (assignEach [tg] X.env).map (·.2) = [assign tg X.env] := by rfl) : PS X (.Assign [tg] e pos) (tAsg te g) := by
  intro pins s σ H D I h
  refine wpAny_Assign_stores (thn (he pins s σ H _ I h) fun v s1 ⟨x, H1, I1, r1, q1⟩ => ?_) hs hw
  rw [h1]
  exact thn (hg pins s1 σ H1 x v _ I1 r1 q1) fun _ s2 q => q
theorem ps_set {i : Nat} {x : Str} {e : Expr} {te : TE} {pos' : Pos} (hN : X.N.Nodup) (hi : X.N[i]? = some x) (hx : Loc X.env.scope x) (he : PE X e te) (hs : swapsWith e (some (.Name x pos')) pos.line X.env = pure false := by rfl) (hf : X.fn x = true ∨ X.env.scope.names.lookup x = some .local := by first | exact .inl rfl | exact .inr rfl | assumption) :
    PS X (.Assign [.Name x pos'] e pos) (tAsg te (gName i)) := by
  intro pins s σ H D I h
  refine wpAny_Assign_Name (thn (he pins s σ H _ I h) fun v s1 ⟨y, H1, I1, r1, q1⟩ => ?_) hs
  exact store_ok I1 hN hi hx r1 (fun s2 I2 => ⟨_, H1, I2, q1⟩) hf
end
section
variable {X : Cx} {pos : Pos}
end
structure It where
  go : Nat → Hp → Prop
  yld : Nat → Hp → V → Hp → Prop
  stop : Nat → Hp → Prop
def FpOk (X : Cx) (pins : List (Addr × Obj)) (H : Hp) (b : Addr) : Prop :=
  H b = none ∧ b ≠ X.env.locals ∧ b ∉ X.fs ∧ (b ∈ X.ex ∨ X.s₀.heap.objs.size ≤ b) ∧ (∀ x c, X.env.cells.lookup x = some c → c ≠ b) ∧ ∀ p ∈ X.pn ++ pins, p.1 ≠ b
theorem Inv.fpOk {X : Cx} {pins : List (Addr × Obj)} {σ : St} {H H' : Hp} {s : Shared} {b : Addr} (I : Inv X pins σ H s) (hb : s.heap.objs.size ≤ b) (hn : H' b = none) : FpOk X pins H' b := by
  refine ⟨hn, Nat.ne_of_gt (Nat.lt_of_lt_of_le I.lt hb), I.nofs hb, .inr (Nat.le_trans I.sz hb), fun x c e z => ?_, fun p hp z => ?_⟩
  · obtain ⟨v, q⟩ := I.cell x c e
    exact absurd (Nat.lt_of_lt_of_le q.lt (by rw [z]; exact hb)) (Nat.lt_irrefl _)
  · exact absurd (Nat.lt_of_lt_of_le (Heap.lt_size (I.pin p hp).1) (by rw [z]; exact hb)) (Nat.lt_irrefl _)
structure Turn (P : Program) (w : World) (K : PySem.W.Frag) (tg : Expr) (J : It) (fp : List Addr) (it : Addr) (tn : Nat → Heap → Prop) : Prop where
  mem : it ∈ fp
  obj : ∀ i h, tn i h → ∀ b ∈ fp, ∃ o, h.get? b = some o ∧ ∀ v, o.data ≠ .cell v
  keep : ∀ i h h', tn i h → (∀ b ∈ fp, ∀ o, h.get? b = some o → h'.get? b = some o) → tn i h'
  item : ∀ (X : Cx), X.prog = P → X.w = w → X.K = K → X.calm = true → ∀ (i : Nat) (pins : List (Addr × Obj)) (s : Shared) (σ : St) (H : Hp) (E : Value → Shared → Prop), Inv X pins σ H s → (∀ b ∈ fp, FpOk X pins H b) → tn i s.heap → J.go i H →
    wpAny (model P w) X.A (pyNext (.ref it)) (fun r s1 => ∃ u, r = some u ∧
      wpAny (model P w) X.A (letOwnedTupleGo tg (.ref it) u) (fun _ s2 => ∃ x H', Inv X pins σ H' s2 ∧ RelV x u ∧ J.yld i H x H' ∧ tn (i + 1) s2.heap ∧ ∀ b ∈ fp, H' b = none) E s1) E s
  done : ∀ (X : Cx), X.prog = P → X.w = w → X.K = K → X.calm = true → ∀ (i : Nat) (pins : List (Addr × Obj)) (s : Shared) (σ : St) (H : Hp) (E : Value → Shared → Prop), Inv X pins σ H s → (∀ b ∈ fp, FpOk X pins H b) → tn i s.heap → J.stop i H →
    wpAny (model P w) X.A (pyNext (.ref it)) (fun r s1 => r = none ∧ Inv X pins σ H s1) E s
  self : ∀ (A : Around) (i : Nat) (s : Shared) (Q : Value → Shared → Prop) (E : Value → Shared → Prop), tn i s.heap → Q (.ref it) s → wpAny (model P w) A (pyIter (.ref it)) Q E s
abbrev TI := St → Hp → (It → Hp → Prop) → Prop
def PIE (X : Cx) (pins : List (Addr × Obj)) (σ : St) (tg : Expr) (R : It → Hp → Prop) (itv : Value) (s2 : Shared) : Prop :=
  ∃ (it : Addr) (fp : List Addr) (tn : Nat → Heap → Prop) (J : It) (H' : Hp), itv = .ref it ∧ Inv X pins σ H' s2 ∧ Turn X.prog X.w X.K tg J fp it tn ∧ tn 0 s2.heap ∧ (∀ b ∈ fp, FpOk X pins H' b) ∧ R J H'
namespace Zu
set_option allowUnsafeReducibility true in
@[scoped irreducible] def _root_.L2.PI (X : Cx) (tg iter : Expr) (wi : TI) : Prop :=
  ∀ (pins : List (Addr × Obj)) (s : Shared) (σ : St) (H : Hp) (R : It → Hp → Prop), Inv X pins σ H s → wi σ H R →
    wpAny (model X.prog X.w) X.A (eval iter X.env) (fun v s1 => wpAny (model X.prog X.w) X.A (pyIter v) (PIE X pins σ tg R) X.xe s1) X.xe s
end Zu
theorem go_of {M : Model} {A : Around} {E : Value → Shared → Prop} {s : Shared} {tg : Expr} {it : Addr} {u : Value} {o : Obj} {n : String} {vs : Array Value} {Q : Unit → Shared → Prop} (ho : s.heap.get? it = some o) (hc : o.cls = .type n) (hd : o.data = .fields vs)
    (hn : ["enumerate", "zip", "dict_itemiterator", "dict_reverseitemiterator", "odict_iterator", "itertools.zip_longest", "itertools.pairwise"].contains n = false) (hQ : Q () s) : wpAny M A (letOwnedTupleGo tg (.ref it) u) Q E s := by
  unfold letOwnedTupleGo
  cases tg <;> first
    | exact wpAny_pure hQ
    | (cases u <;> first
        | exact wpAny_pure hQ
        | (refine wpAny_bind (wpAny_load ho ?_)
           rw [hc, hd]
           show wpAny M A (if (["enumerate", "zip", "dict_itemiterator", "dict_reverseitemiterator", "odict_iterator", "itertools.zip_longest", "itertools.pairwise"].contains n && vs[0]? == some (rawInt _)) = true then _ else _) Q E s
           rw [if_neg (by intro h; rw [hn, Bool.false_and] at h; cases h)]
           exact wpAny_pure hQ))
def Itr (lo : Int) (n : Nat) : It := ⟨fun i _ => i < n, fun i H x H' => H' = H ∧ x = .int (lo + i), fun i _ => n ≤ i⟩
theorem turn_range {P : Program} {w : World} {K : PySem.W.Frag} {tg : Expr} (it : Addr) (lo : Int) (n : Nat) : Turn P w K tg (Itr lo n) [it] it (fun i h => IsRangeIter h it (lo + (i : Nat) * 1) ((n : Int) - (i : Nat)) 1) where
  mem := by simp
  obj := fun i h st b hb => by
    have e : b = it := by simpa using hb
    subst e
    exact ⟨_, st, fun v z => by
      have z' : Data.fields _ = Data.cell v := z
      cases z'⟩
  keep := fun i h h' st k => k it (by simp) _ st
  item := by
    intro X hP hw hK hc i pins s σ H E I hf st hg
    subst hP hw hK
    obtain ⟨f0, f1, f2, f3, f4, f5⟩ := hf it (by simp)
    have W := Walks.range (prog := X.prog) (w := X.w) (I.ok.hd hc) it lo 1 n
    refine W.item i s _ _ hg st fun v h' tk hv st' kk => ?_
    obtain ⟨t, rfl⟩ := hv
    have I1 : Inv X pins σ H { s with heap := h', toks := tk } := I.turned (fun b o hb e => kk b o (by simpa using hb) e) f0 f1 f3 f4 f5
    refine ⟨_, rfl, go_of (s := { s with heap := h', toks := tk }) (n := "range_iterator") st' rfl rfl (by decide) ⟨.int (lo + i), H, I1, ⟨t, ?_⟩, ⟨rfl, rfl⟩, st', fun b hb => (hf b hb).1⟩⟩
    rw [Int.mul_one]
  done := by
    intro X hP hw hK hc i pins s σ H E I hf st hg
    subst hP hw hK
    obtain ⟨f0, f1, f2, f3, f4, f5⟩ := hf it (by simp)
    exact wpAny_pyNext_range_end (I.ok.hd hc) st (by have : n ≤ i := hg; omega) fun h' eb => ⟨rfl, I.turned (t' := s.toks) (fun b o hb e => eb b o hb e) f0 f1 f3 f4 f5⟩
  self := fun _ _ _ _ _ st h => wpAny_pyIter_rangeiter st h
end L2
namespace L2
open PySem PySem.Spec PyProof.Rows
section
variable {X : Cx} {tg : Expr}
theorem range_it {pins : List (Addr × Obj)} {σ : St} {H : Hp} {s : Shared} {R : It → Hp → Prop} {E : Value → Shared → Prop} {lo hi : Int} {t u v : Tok} {tk : Nat} (I : Inv X pins σ H s) (h1 : -(2 ^ 62) ≤ lo) (h2 : lo < 2 ^ 62) (h3 : -(2 ^ 62) ≤ hi) (h4 : hi < 2 ^ 62)
    (q : R (Itr lo (hi - lo).toNat) H) : wpAny (model X.prog X.w) X.A (pyIter (.ref s.heap.objs.size)) (PIE X pins σ tg R) E { s with heap := s.heap.push { cls := .type "range", data := .fields #[.int lo t, .int hi u, .int 1 v] }, toks := tk } := by
  refine wpAny_pyIter_range (IsRange.new ..) (small_one h1 h2 h3 h4) ?_
  have I1 : Inv X pins σ H { s with heap := s.heap.push { cls := .type "range", data := .fields #[.int lo t, .int hi u, .int 1 v] }, toks := tk } := I.kept fun b o e => Heap.get?_push_of_some _ e
  refine ⟨(s.heap.push { cls := .type "range", data := .fields #[.int lo t, .int hi u, .int 1 v] }).objs.size, [(s.heap.push { cls := .type "range", data := .fields #[.int lo t, .int hi u, .int 1 v] }).objs.size], _, _, H, rfl,
    I1.kept (t' := tk) fun b o e => Heap.get?_push_of_some _ e, turn_range _ lo (hi - lo).toNat, ?_, fun b hb => ?_, q⟩
  · have e1 : lo + ((0 : Nat) : Int) * 1 = lo := by simp
    have e2 : (((hi - lo).toNat : Nat) : Int) - ((0 : Nat) : Int) = Builtin.Range.rangeSize lo hi 1 := by rw [rangeSize_one]; split <;> omega
    show IsRangeIter _ _ (lo + ((0 : Nat) : Int) * 1) ((((hi - lo).toNat : Nat) : Int) - ((0 : Nat) : Int)) 1
    rw [e1, e2]
    exact Heap.get?_push_size _ rfl
  · have e : b = (s.heap.push { cls := .type "range", data := .fields #[.int lo t, .int hi u, .int 1 v] }).objs.size := by simpa using hb
    subst e
    exact I1.fpOk (Nat.le_refl _) (I1.hok.fresh (Nat.le_refl _))
def iRng1 (ta : TA) : TI := fun σ H R => ta σ H fun vs H1 => ∃ j : Int, vs = [.int j] ∧ -(2 ^ 62) ≤ j ∧ j < 2 ^ 62 ∧ R (Itr 0 j.toNat) H1
theorem pi_range1 {a : Expr} {ta : TA} {p pos : Pos} (hg : Gl X "range") (hm : X.mg "range" = none) (ha : PA X [a] ta) (hs : starEach [a] X.env = [(false, eval a X.env)] := by rfl) : PI X tg (.Call (.Name "range" p) [a] [] pos) (iRng1 ta) := by
  intro pins s σ H R I h
  refine Call_ (ld_blt I hg hm boot_range (PyProof.Rows.callWith_type1 (thn (ha pos pins s σ H _ I h) fun us s1 ⟨vs, H1, I1, r1, q1⟩ => ?_) hs rfl))
  obtain ⟨j, e, q1, q2, q⟩ := q1
  subst e
  cases r1 with
  | cons r rr =>
    cases rr
    obtain ⟨t, rfl⟩ := r
    exact call_range_1 (range_it I1 (by omega) (by omega) q1 q2 (by simpa using q))
def tFor (wi : TI) (g : TG) (tb : TS) : TS := fun D σ H => wi σ H fun J H1 => ∃ W : Nat → Nat → St → Hp → Prop, (∃ m, W 0 m σ H1) ∧ ∀ i m σ H, W i m σ H →
  (J.stop i H ∧ D.nx σ H) ∨ (J.go i H ∧ ∃ N : St → Hp → Prop, (∀ σ' H', N σ' H' → ∃ m', m' < m ∧ W (i + 1) m' σ' H') ∧ ∀ x H', J.yld i H x H' → g x σ H' fun σ2 H2 => tb { D with nx := N, ct := N, bk := D.nx } σ2 H2)
def pinsAt (fp : List Addr) (h : Heap) : List (Addr × Obj) := fp.filterMap fun b => (h.get? b).map fun o => (b, o)
theorem mem_pinsAt {fp : List Addr} {h : Heap} {b : Addr} {o : Obj} (hb : b ∈ fp) (e : h.get? b = some o) : (b, o) ∈ pinsAt fp h := List.mem_filterMap.mpr ⟨b, hb, by rw [e]; rfl⟩
theorem of_pinsAt {fp : List Addr} {h : Heap} {p : Addr × Obj} (hp : p ∈ pinsAt fp h) : p.1 ∈ fp ∧ h.get? p.1 = some p.2 := by
  obtain ⟨b, hb, e⟩ := List.mem_filterMap.mp hp
  cases q : h.get? b with
  | none => rw [q] at e; cases e
  | some o =>
    rw [q] at e
    have e' : (b, o) = p := Option.some.inj e
    subst e'
    exact ⟨hb, q⟩
theorem Inv.pinned {pins : List (Addr × Obj)} {σ : St} {H : Hp} {s : Shared} {fp : List Addr} (I : Inv X pins σ H s) (hf : ∀ b ∈ fp, FpOk X pins H b) (ho : ∀ b ∈ fp, ∃ o, s.heap.get? b = some o ∧ ∀ v, o.data ≠ .cell v) : Inv X (pins ++ pinsAt fp s.heap) σ H s :=
  I.pins_of fun p hp => (List.mem_append.mp hp).elim (fun z => I.pin p (List.mem_append_right _ z)) fun z => by
    obtain ⟨hb, e⟩ := of_pinsAt z
    obtain ⟨f0, f1, f2, _⟩ := hf p.1 hb
    obtain ⟨o, e', d⟩ := ho p.1 hb
    rw [e] at e'; cases e'
    exact ⟨e, f0, f1, f2, d⟩
theorem Inv.unpinned {pins pl : List (Addr × Obj)} {σ : St} {H : Hp} {s : Shared} (I : Inv X (pins ++ pl) σ H s) : Inv X pins σ H s := I.pins_of fun p hp => I.pin p (List.mem_append_right _ (List.mem_append_left _ hp))
theorem ps_for {iter : Expr} {body : List Stmt} {wi : TI} {g : TG} {tb : TS} {pos : Pos} (hp : PassesOwn (model X.prog X.w) X.A X.env X.xe) (hc : X.calm = true) (hi : PI X tg iter wi) (hg : PG X tg g) (hb : PSs X body tb)
    (hs : ∀ x, foldedSetIterable iter X.env x = pure x := by intro _; rfl) : PS X (.For tg iter body [] pos) (tFor wi g tb) := by
  intro pins s σ H D I h
  refine wpAny_For (thn (hi pins s σ H _ I h) fun v s1 h1 => thn h1 fun itv s2 h2 => ?_) hs
  obtain ⟨it, fp, tn, J, H2, e, I2, T, st2, f2, W, ⟨m0, w0⟩, turn⟩ := h2
  subst e
  -- what stays true of the iterator's objects through the loop
  have stat : ∀ {H' : Hp}, (∀ b ∈ fp, H' b = none) → ∀ b ∈ fp, FpOk X pins H' b := fun hn b hb => ⟨hn b hb, (f2 b hb).2⟩
  refine codeAny_forLoop_any (fun n s' => ∃ i σ' H', Inv X pins σ' H' s' ∧ tn i s'.heap ∧ (∀ b ∈ fp, H' b = none) ∧ W i n σ' H') ?_ m0 ⟨0, σ, H2, I2, st2, fun b hb => (f2 b hb).1, w0⟩
  rintro n s3 ⟨i, σ3, H3, I3, st3, fr3, w3⟩
  rcases turn i n σ3 H3 w3 with ⟨stop, qn⟩ | ⟨go, N, hN, step⟩
  · refine wpAny_passesOwn hp (thn (T.done X rfl rfl rfl hc i pins s3 σ3 H3 X.xe I3 (stat fr3) st3 stop) fun r s4 ⟨hr, I4⟩ => ?_)
    subst hr
    exact wpAny_execs_nil ⟨σ3, H3, I4, qn⟩
  · refine wpAny_passesOwn hp (thn (T.item X rfl rfl rfl hc i pins s3 σ3 H3 X.xe I3 (stat fr3) st3 go) fun r s4 ⟨u, hr, h4⟩ => ?_)
    subst hr
    refine wpAny_passesOwn hp (thn h4 fun _ s5 ⟨x, H5, I5, r5, y5, st5, fr5⟩ => ?_)
    have I5' := I5.pinned (stat fr5) (T.obj _ _ st5)
    refine wpAny_passesOwn hp (thn (hg _ s5 σ3 H5 x u _ I5' r5 (step x H5 y5)) fun _ s6 ⟨σ6, H6, I6, q6⟩ => ?_)
    refine wpAny_passesOwn hp (thn (hb _ s6 σ6 H6 _ I6 q6) fun f s7 q7 => ?_)
    have again : ∀ {σ7 : St} {H7 : Hp}, Inv X (pins ++ pinsAt fp s5.heap) σ7 H7 s7 → N σ7 H7 → ∃ m, m < n ∧ ∃ i σ' H', Inv X pins σ' H' s7 ∧ tn i s7.heap ∧ (∀ b ∈ fp, H' b = none) ∧ W i m σ' H' := fun {σ7 H7} I7 n7 => by
      obtain ⟨m', hm, w7⟩ := hN σ7 H7 n7
      refine ⟨m', hm, i + 1, σ7, H7, I7.unpinned, T.keep _ _ _ st5 fun b hb o e => (I7.pin (b, o) (List.mem_append_right _ (List.mem_append_right _ (mem_pinsAt hb e)))).1, fun b hb => ?_, w7⟩
      obtain ⟨o, e, d⟩ := T.obj _ _ st5 b hb
      exact (I7.pin (b, o) (List.mem_append_right _ (List.mem_append_right _ (mem_pinsAt hb e)))).2.1
    cases f with
    | next => obtain ⟨σ7, H7, I7, n7⟩ := q7; exact again I7 n7
    | cont => obtain ⟨σ7, H7, I7, n7⟩ := q7; exact again I7 n7
    | brk => obtain ⟨σ7, H7, I7, q7⟩ := q7; exact ⟨σ7, H7, I7.unpinned, q7⟩
    | ret v => obtain ⟨x7, σ7, H7, I7, r7, q7⟩ := q7; exact ⟨x7, σ7, H7, I7.unpinned, r7, q7⟩
end
end L2
namespace L2
open PySem PySem.Spec PyProof.Rows
abbrev R2 := V → V → Hp → VK → Prop
def OpR (X : Cx) (f : Value → Value → Sem Value) (r : R2) : Prop :=
  ∀ (pins : List (Addr × Obj)) (s : Shared) (σ : St) (H : Hp) (x y : V) (v u : Value) (Q : VK), Inv X pins σ H s → RelV x v → RelV y u → r x y H Q →
    wpAny (model X.prog X.w) X.A (f v u) (EP X pins σ Q) X.xe s
def CallR (X : Cx) (f : Value) (r : List V → Hp → VK → Prop) : Prop :=
  ∀ (pins : List (Addr × Obj)) (s : Shared) (σ : St) (H : Hp) (xs : List V) (us : List Value) (Q : VK), Inv X pins σ H s → Vals xs us → r xs H Q →
    wpAny (model X.prog X.w) X.A (call f us) (EP X pins σ Q) X.xe s
def tOp (r : R2) (ta tb : TE) : TE := fun σ H Q => ta σ H fun x H1 => tb σ H1 fun y H2 => r x y H2 Q
def rI (C : Int → Int → Prop) (g : Int → Int → V) : R2 := fun x y H Q => ∃ i j, x = .int i ∧ y = .int j ∧ C i j ∧ Q (g i j) H
def rI0 (g : Int → Int → V) : R2 := fun x y H Q => ∃ i j, x = .int i ∧ y = .int j ∧ Q (g i j) H
section
variable {X : Cx} {a b c : Expr} {ta tb tc : TE} {pos : Pos}
theorem binT (ha : PE X a ta) (hb : PE X b tb) {pins : List (Addr × Obj)} {s : Shared} {σ : St} {H : Hp} {R : V → V → Hp → Prop} (I : Inv X pins σ H s)
    (h : ta σ H fun x H1 => tb σ H1 fun y H2 => R x y H2) {Q : Value → Shared → Prop} {f : Value → Value → Sem Value}
    (hf : ∀ v u s2 x y H2, Inv X pins σ H2 s2 → RelV x v → RelV y u → R x y H2 → wpAny (model X.prog X.w) X.A (f v u) Q X.xe s2) :
    wpAny (model X.prog X.w) X.A (eval a X.env) (fun v s₁ => wpAny (model X.prog X.w) X.A (eval b X.env) (fun u s₂ => wpAny (model X.prog X.w) X.A (f v u) Q X.xe s₂) X.xe s₁) X.xe s := by
  refine thn (ha pins s σ H _ I h) fun v s1 ⟨x, H1, I1, r1, q1⟩ => ?_
  refine thn (hb pins s1 σ H1 _ I1 q1) fun u s2 ⟨y, H2, I2, r2, q2⟩ => ?_
  exact hf v u s2 x y H2 I2 r1 r2 q2
theorem pe_op {op : Operator} {r : R2} (ho : OpR X (binaryOp op) r) (ha : PE X a ta) (hb : PE X b tb) : PE X (.BinOp a op b pos) (tOp r ta tb) := by
  intro pins s σ H Q I h
  exact wpAny_BinOp (binT ha hb I h fun v u s2 x y H2 I2 rx ry q => ho pins s2 σ H2 x y v u Q I2 rx ry q)
theorem opI {f : Value → Value → Sem Value} {C : Int → Int → Prop} {g : Int → Int → Int}
    (rule : ∀ (i j : Int) (t u : Tok) (s : Shared) (Q : Value → Shared → Prop) (E : Value → Shared → Prop), C i j → Q (.int (g i j) s.toks) { s with toks := s.toks + 1 } → wpAny (model X.prog X.w) X.A (f (.int i t) (.int j u)) Q E s) :
    OpR X f (rI C fun i j => .int (g i j)) := by
  intro pins s σ H x y v u Q I rx ry h
  obtain ⟨i, j, rfl, rfl, hc, q⟩ := h
  obtain ⟨t, rfl⟩ := rx
  obtain ⟨t', rfl⟩ := ry
  exact rule i j t t' s _ _ hc ⟨.int (g i j), H, I.tok _, ⟨_, rfl⟩, q⟩
theorem opI0 {f : Value → Value → Sem Value} {g : Int → Int → Int}
    (rule : ∀ (i j : Int) (t u : Tok) (s : Shared) (Q : Value → Shared → Prop) (E : Value → Shared → Prop), Q (.int (g i j) s.toks) { s with toks := s.toks + 1 } → wpAny (model X.prog X.w) X.A (f (.int i t) (.int j u)) Q E s) :
    OpR X f (rI0 fun i j => .int (g i j)) := by
  intro pins s σ H x y v u Q I rx ry h
  obtain ⟨i, j, rfl, rfl, q⟩ := h
  obtain ⟨t, rfl⟩ := rx
  obtain ⟨t', rfl⟩ := ry
  exact rule i j t t' s _ _ ⟨.int (g i j), H, I.tok _, ⟨_, rfl⟩, q⟩
theorem opB0 {f : Value → Value → Sem Value} {g : Int → Int → Bool}
    (rule : ∀ (i j : Int) (t u : Tok) (s : Shared) (Q : Value → Shared → Prop) (E : Value → Shared → Prop), Q (.bool (g i j)) s → wpAny (model X.prog X.w) X.A (f (.int i t) (.int j u)) Q E s) :
    OpR X f (rI0 fun i j => .bl (g i j)) := by
  intro pins s σ H x y v u Q I rx ry h
  obtain ⟨i, j, rfl, rfl, q⟩ := h
  obtain ⟨t, rfl⟩ := rx
  obtain ⟨t', rfl⟩ := ry
  exact rule i j t t' s _ _ ⟨.bl (g i j), H, I, rfl, q⟩
theorem op_add : OpR X (binaryOp .Add) (rI0 fun i j => .int (i + j)) := opI0 fun _ _ _ _ _ _ _ q => add_int q
theorem op_modN : OpR X (binaryOp .Mod) (rI (fun _ j => j ≠ 0) fun i j => .int (i.fmod j)) := opI fun _ _ _ _ _ _ _ hc q => mod_int' hc q
end
def scal : V → V → Bool
  | .non, .non => true | .non, .int _ => true | .int _, .non => true | .non, .bl _ => true | .bl _, .non => true | .non, .str _ => true | .str _, .non => true
  | .int _, .int _ => true | .bl _, .bl _ => true | .str _, .str _ => true | .byt _, .byt _ => true
  | .int _, .str _ => true | .str _, .int _ => true | .bl _, .str _ => true | .str _, .bl _ => true
  | _, _ => false
def rEq : R2 := fun x y H Q => scal x y = true ∧ Q (.bl (decide (x = y))) H
def rNe : R2 := fun x y H Q => scal x y = true ∧ Q (.bl (!decide (x = y))) H
theorem dec_int {i j : Int} : decide (V.int i = V.int j) = (i == j) := by
  rw [Bool.eq_iff_iff]
  simp
theorem dec_bl {i j : Bool} : decide (V.bl i = V.bl j) = (i == j) := by
  rw [Bool.eq_iff_iff]
  simp
theorem dec_str {i j : Str} : decide (V.str i = V.str j) = (i == j) := by
  rw [Bool.eq_iff_iff]
  simp
theorem dec_byt {i j : Array UInt8} : decide (V.byt i = V.byt j) = (i.toList == j.toList) := by
  rw [Bool.eq_iff_iff]
  cases i
  cases j
  simp
section
variable {X : Cx} {a b c : Expr} {ta tb tc : TE} {pos : Pos}
theorem fin_bl {pins : List (Addr × Obj)} {σ : St} {H : Hp} {s : Shared} {Q : VK} {k k' : Bool} (I : Inv X pins σ H s) (q : Q (.bl k) H) (e : k = k') : EP X pins σ Q (.bool k') s := by
  subst e
  exact ⟨.bl k, H, I, rfl, q⟩
theorem op_eq : OpR X (compareOp .Eq) rEq := by
  intro pins s σ H x y v u Q I rx ry h
  obtain ⟨hs, q⟩ := h
  cases x with
  | non =>
    cases rx
    cases y with
    | non => cases ry; exact PySem.EqNone.eq_none_none (fin_bl I q (by simp))
    | bl j => cases ry; exact PySem.EqNone.eq_none_bool (fin_bl I q (by simp))
    | int j => obtain ⟨t', rfl⟩ := ry; exact PySem.EqNone.eq_none_int (fin_bl I q (by simp))
    | str j => obtain ⟨t', rfl⟩ := ry; exact PySem.EqNone.eq_none_str (fin_bl I q (by simp))
    | _ => exact absurd (show false = true from hs) Bool.false_ne_true
  | bl i =>
    cases rx
    cases y with
    | non => cases ry; exact PySem.EqNone.eq_bool_none (fin_bl I q (by simp))
    | bl j => cases ry; exact eq_bool (fin_bl I q dec_bl)
    | str j => obtain ⟨t', rfl⟩ := ry; exact PySem.EqMixed.eq_bool_str (fin_bl I q (by simp))
    | _ => exact absurd (show false = true from hs) Bool.false_ne_true
  | int i =>
    obtain ⟨t, rfl⟩ := rx
    cases y with
    | non => cases ry; exact PySem.EqNone.eq_int_none (fin_bl I q (by simp))
    | int j => obtain ⟨t', rfl⟩ := ry; exact eq_int (fin_bl I q dec_int)
    | str j => obtain ⟨t', rfl⟩ := ry; exact PySem.EqMixed.eq_int_str (fin_bl I q (by simp))
    | _ => exact absurd (show false = true from hs) Bool.false_ne_true
  | str i =>
    obtain ⟨t, rfl⟩ := rx
    cases y with
    | non => cases ry; exact PySem.EqNone.eq_str_none (fin_bl I q (by simp))
    | bl j => cases ry; exact PySem.EqMixed.eq_str_bool (fin_bl I q (by simp))
    | int j => obtain ⟨t', rfl⟩ := ry; exact PySem.EqMixed.eq_str_int (fin_bl I q (by simp))
    | str j => obtain ⟨t', rfl⟩ := ry; exact eq_str (fin_bl I q dec_str)
    | _ => exact absurd (show false = true from hs) Bool.false_ne_true
  | byt i =>
    obtain ⟨t, rfl⟩ := rx
    cases y with
    | byt j => obtain ⟨t', rfl⟩ := ry; exact PySem.W.eq_bytes (fin_bl I q dec_byt)
    | _ => exact absurd (show false = true from hs) Bool.false_ne_true
  | _ => cases y <;> exact absurd (show false = true from hs) Bool.false_ne_true
theorem op_ne : OpR X (compareOp .NotEq) rNe := by
  intro pins s σ H x y v u Q I rx ry h
  obtain ⟨hs, q⟩ := h
  cases x with
  | non =>
    cases rx
    cases y with
    | non => cases ry; exact PySem.EqNone.ne_none_none (fin_bl I q (by simp))
    | bl j => cases ry; exact PySem.EqNone.ne_none_bool (fin_bl I q (by simp))
    | int j => obtain ⟨t', rfl⟩ := ry; exact PySem.EqNone.ne_none_int (fin_bl I q (by simp))
    | str j => obtain ⟨t', rfl⟩ := ry; exact PySem.EqNone.ne_none_str (fin_bl I q (by simp))
    | _ => exact absurd (show false = true from hs) Bool.false_ne_true
  | bl i =>
    cases rx
    cases y with
    | non => cases ry; exact PySem.EqNone.ne_bool_none (fin_bl I q (by simp))
    | bl j => cases ry; exact ne_bool (fin_bl I q (congrArg not dec_bl))
    | str j => obtain ⟨t', rfl⟩ := ry; exact PySem.EqMixed.ne_bool_str (fin_bl I q (by simp))
    | _ => exact absurd (show false = true from hs) Bool.false_ne_true
  | int i =>
    obtain ⟨t, rfl⟩ := rx
    cases y with
    | non => cases ry; exact PySem.EqNone.ne_int_none (fin_bl I q (by simp))
    | int j => obtain ⟨t', rfl⟩ := ry; exact ne_int (fin_bl I q (congrArg not dec_int))
    | str j => obtain ⟨t', rfl⟩ := ry; exact PySem.EqMixed.ne_int_str (fin_bl I q (by simp))
    | _ => exact absurd (show false = true from hs) Bool.false_ne_true
  | str i =>
    obtain ⟨t, rfl⟩ := rx
    cases y with
    | non => cases ry; exact PySem.EqNone.ne_str_none (fin_bl I q (by simp))
    | bl j => cases ry; exact PySem.EqMixed.ne_str_bool (fin_bl I q (by simp))
    | int j => obtain ⟨t', rfl⟩ := ry; exact PySem.EqMixed.ne_str_int (fin_bl I q (by simp))
    | str j => obtain ⟨t', rfl⟩ := ry; exact ne_str (fin_bl I q (congrArg not dec_str))
    | _ => exact absurd (show false = true from hs) Bool.false_ne_true
  | byt i =>
    obtain ⟨t, rfl⟩ := rx
    cases y with
    | byt j => obtain ⟨t', rfl⟩ := ry; exact PySem.W.ne_bytes (fin_bl I q (congrArg not dec_byt))
    | _ => exact absurd (show false = true from hs) Bool.false_ne_true
  | _ => cases y <;> exact absurd (show false = true from hs) Bool.false_ne_true
theorem op_lt : OpR X (compareOp .Lt) (rI0 fun i j => .bl (decide (i < j))) := opB0 fun _ _ _ _ _ _ _ q => lt_int q
theorem op_gt : OpR X (compareOp .Gt) (rI0 fun i j => .bl (decide (j < i))) := opB0 fun _ _ _ _ _ _ _ q => gt_int q
theorem OpR.or {f : Value → Value → Sem Value} {r r' : R2} (h : OpR X f r) (h' : OpR X f r') : OpR X f (fun x y H Q => r x y H Q ∨ r' x y H Q) := by
  intro pins s σ H x y v u Q I rx ry q
  rcases q with q | q
  · exact h pins s σ H x y v u Q I rx ry q
  · exact h' pins s σ H x y v u Q I rx ry q
theorem nomark (b : Expr) {op : CmpOp} (h : op ≠ .In := by decide) (h2 : op ≠ .NotIn := by decide) : behindInMarks op b = false := by
  have e1 : (op == CmpOp.In) = false := by cases op <;> first | rfl | exact absurd rfl h
  have e2 : (op == CmpOp.NotIn) = false := by cases op <;> first | rfl | exact absurd rfl h2
  cases b <;> simp [behindInMarks, e1, e2]
theorem pe_cmpR {op : CmpOp} {r : R2} (ho : OpR X (compareOp op) r) (ha : PE X a ta) (hb : PE X b tb) (hm : behindInMarks op b = false) : PE X (.Compare a [op] [b] pos) (tOp r ta tb) := by
  intro pins s σ H Q I h
  exact wpAny_Compare1 (binT ha hb I h fun v u s2 x y H2 I2 rx ry q => ho pins s2 σ H2 x y v u Q I2 rx ry q) hm
def tTest (t : TE) : TT := fun σ H Q => t σ H fun x H' => ∃ k, x = .bl k ∧ Q k H'
theorem pt_cmpR {op : CmpOp} {r : R2} (ho : OpR X (compareOp op) r) (ha : PE X a ta) (hb : PE X b tb) (hm : behindInMarks op b = false) : PT X (.Compare a [op] [b] pos) (tTest (tOp r ta tb)) := by
  intro pins s σ H Q I h
  refine wpAny_isTrue_Compare1 (thn (ha pins s σ H _ I h) fun v s1 ⟨x, H1, I1, r1, q1⟩ => thn (hb pins s1 σ H1 _ I1 q1) fun u s2 ⟨y, H2, I2, r2, q2⟩ =>
    thn (ho pins s2 σ H2 x y v u _ I2 r1 r2 q2) fun c s3 ⟨z, H3, I3, r3, k, e, q3⟩ => ?_) hm
  subst e
  cases r3
  exact wpAny_truthy_bool ⟨H3, I3, q3⟩
theorem line63 : (sizeLine : Nat) < 2 ^ 63 := by rw [sizeLine_eq]; decide
theorem vals1 {x : V} {us : List Value} (r : Vals [x] us) : ∃ u, us = [u] ∧ RelV x u := by
  cases r with
  | cons r1 r2 => cases r2; exact ⟨_, rfl, r1⟩
theorem vals2 {x y : V} {us : List Value} (r : Vals [x, y] us) : ∃ u w', us = [u, w'] ∧ RelV x u ∧ RelV y w' := by
  cases r with
  | cons r1 r2 =>
    cases r2 with
    | cons r3 r4 => cases r4; exact ⟨_, _, rfl, r1, r3⟩
theorem call_abs : CallR X (.builtin "abs") (fun xs H Q => ∃ i, xs = [.int i] ∧ Q (.int (if i < 0 then -i else i)) H) := by
  intro pins s σ H xs us Q I r h
  obtain ⟨i, rfl, q⟩ := h
  obtain ⟨u, rfl, t, rfl⟩ := vals1 r
  exact call_abs_int fun u tk => ⟨.int (if i < 0 then -i else i), H, I.tok _, ⟨_, rfl⟩, q⟩
theorem call_int1 : CallR X (.type "int") (fun xs H Q => (∃ i, xs = [.int i] ∧ Q (.int i) H) ∨ ∃ k, xs = [.bl k] ∧ Q (.int (if k then 1 else 0)) H) := by
  intro pins s σ H xs us Q I r h
  rcases h with ⟨i, rfl, q⟩ | ⟨k, rfl, q⟩
  · obtain ⟨u, rfl, t, rfl⟩ := vals1 r
    exact call_int_int ⟨.int i, H, I, ⟨_, rfl⟩, q⟩
  · obtain ⟨u, rfl, r1⟩ := vals1 r
    cases r1
    exact call_int_bool ⟨.int (if k then 1 else 0), H, I.tok _, ⟨_, rfl⟩, q⟩
end
end L2
namespace L2
open PySem PySem.Spec PyProof.Rows
section
variable {prog : Program} {w : World} {A : Around} {E : Value → Shared → Prop} {s : Shared} {K : PySem.W.Frag} {x dx C f : Addr} {mA : Str → Option Value} {name : Str} {v : Value}
end
theorem handed_of {v : V} {u : Value} (r : RelV v u) : PySem.W.handedIn u = true := by
  cases v with
  | non => cases (show u = Value.none from r); rfl
  | bl b => cases (show u = Value.bool b from r); rfl
  | int i => obtain ⟨t, e⟩ := (show ∃ t, u = Value.int i t from r); cases e; rfl
  | str x => obtain ⟨t, e⟩ := (show ∃ t, u = Value.str x t from r); cases e; rfl
  | byt b => obtain ⟨t, e⟩ := (show ∃ t, u = Value.bytes b t from r); cases e; rfl
  | flt b => obtain ⟨t, e⟩ := (show ∃ t, u = Value.float b t from r); cases e; rfl
  | ref a => cases (show u = Value.ref a from r); rfl
  | ty n => cases (show u = Value.type n from r); rfl
section
variable {P : Program} {w : World} {H H' : Hp} {h h' : Heap} {a C dx : Addr} {fs fs' : List (Str × V)}
end
section
variable {X : Cx} {pins : List (Addr × Obj)} {σ : St} {H : Hp} {s : Shared} {a C dx : Addr} {fs : List (Str × V)} {f : Str} {v : V} {A : Around} {E : Value → Shared → Prop}
theorem attr_of {prog : Program} {w : World} {env : Env} {e : Expr} {f : Str} {pos : Pos} {s : Shared} {Q : Value → Shared → Prop} (hb : attributeBase e f env (eval e env) = eval e env)
    (h : wpAny (model prog w) A (eval e env) (fun o s₁ => wpAny (model prog w) A (getAttr o f true) Q E s₁) E s) : wpAny (model prog w) A (eval (.Attribute e f pos) env) Q E s :=
  Attribute_any_ h (by rw [arm_eval_Attribute, hb])
end
section
variable {X : Cx} {o e value : Expr} {f : Str} {pos pos' tpos : Pos} {ta tv : TE}
end
section
variable {X : Cx} {pins : List (Addr × Obj)} {σ : St} {H : Hp} {s : Shared} {A : Around} {E : Value → Shared → Prop} {Q : Value → Shared → Prop} {c : Value} {b : Bool}
end
end L2
namespace L2
open PySem PySem.Spec PyProof.Rows
structure Room (k : Nat) (A : Around) : Prop where
  hd : A.handled = none
  dp : A.depth + 3 * k + 5 < recursionLimit
  un : A.units + 16 * k + 200 < cLine
theorem Room.mono {j k : Nat} {A : Around} (r : Room k A) (h : j ≤ k) : Room j A := ⟨r.hd, by have := r.dp; omega, by have := r.un; omega⟩
theorem Room.deeper {k : Nat} {A : Around} (r : Room (k + 1) A) (env : Env) : Room k (A.deeper env) :=
  ⟨r.hd, by have := r.dp; show A.depth + 1 + 3 * k + 5 < _; omega, by have := r.un; show A.units + 3 + 16 * k + 200 < _; omega⟩
theorem make_depth {A : Around} {C : Addr} {us : List Value} {kw : List (Str × Value)} : (A.under (.builtin "type.__call__" ⟨.ref C :: us, kw⟩)).depth = A.depth + 1 := by
  first | rfl | simp [Around.under, Code.weight, Code.isCreation, Code.isGuard, Code.isCaller, Code.frames, Code.isFrame, guardIds]
theorem make_units {A : Around} {C : Addr} {us : List Value} {kw : List (Str × Value)} : (A.under (.builtin "type.__call__" ⟨.ref C :: us, kw⟩)).units = A.units + 1 := by
  first | rfl | simp [Around.under, Code.cUnits, Code.frames, Code.isFrame]
theorem Room.make {k : Nat} {A : Around} (r : Room (k + 1) A) (C : Addr) (us : List Value) (kw : List (Str × Value)) : Room k (A.under (.builtin "type.__call__" ⟨.ref C :: us, kw⟩)) :=
  ⟨r.hd, by have := r.dp; rw [make_depth]; omega, by have := r.un; rw [make_units]; omega⟩
theorem Room.depth {k : Nat} {A : Around} (r : Room k A) : A.depth < recursionLimit := by have := r.dp; omega
theorem Room.units {k : Nat} {A : Around} (r : Room k A) : A.units + 64 < cLine := by have := r.un; omega
def tNil : TA := fun _ H Q => Q [] H
def tCons (ta : TE) (tr : TA) : TA := fun σ H Q => ta σ H fun x H1 => tr σ H1 fun xs H2 => Q (x :: xs) H2
section
variable {X : Cx} {e : Expr} {es : List Expr} {te : TE} {t : TA} {pos : Pos}
theorem pa_nil : PA X [] tNil := fun _ _ _ _ H Q I h => Calls.spliced_nil ⟨[], H, I, .nil, h⟩
theorem pa_cons (ha : PE X e te) (hr : PA X es t) (hs : starEach (e :: es) X.env = (false, eval e X.env) :: starEach es X.env := by rfl) : PA X (e :: es) (tCons te t) := by
  intro pos pins s σ H Q I h
  rw [hs]
  show wpAny _ _ (spliced ((false, eval e X.env) :: backTo pos (starEach es X.env))) _ _ s
  refine Calls.spliced_cons (thn (ha pins s σ H _ I h) fun u s1 ⟨x, H1, I1, r1, q1⟩ => ?_)
  exact thn (hr pos pins s1 σ H1 _ I1 q1) fun us s2 ⟨xs, H2, I2, r2, q2⟩ => ⟨x :: xs, H2, I2, .cons r1 r2, q2⟩
def tLst (t : TA) : TE := fun σ H Q => t σ H fun xs H1 => xs.length ≤ sizeLine ∧ ∀ p, H1 p = none → Q (.ref p) (upd H1 p (.lst xs))
theorem pe_lst (h : PA X es t) : PE X (.List es pos) (tLst t) := by
  intro pins s σ H Q I hq
  refine wpAny_List_spliced (thn (h pos pins s σ H _ I hq) fun us s1 ⟨xs, H1, I1, r, z, q⟩ => ⟨by rw [← r.length]; exact z, ?_⟩)
  have hf : H1 s1.heap.objs.size = none := I1.hok.fresh (Nat.le_refl _)
  refine ⟨.ref s1.heap.objs.size, upd H1 s1.heap.objs.size (.lst xs), I1.laid (t' := s1.toks) (fun b u e => Heap.get?_push_of_some _ e) (Nat.le_refl _) ?_, rfl, q _ hf⟩
  exact ⟨z, us, 0, r, Heap.get?_push_size _ rfl⟩
end
abbrev Sp := List V → Hp → VK → XK → Prop
abbrev CXT := List Env → Hp → Shared → XK → Value → Shared → Prop
structure Env0 (P : Program) (w : World) (K : PySem.W.Frag) (mg : Str → Option Value) (base : Heap) (A : Around) (outer : List Env) (s : Shared) (H : Hp) : Prop where
  frames : A.frames = some outer
  mod : Mod K mg base
  bs : ∀ b o, base.get? b = some o → s.heap.get? b = some o ∧ H b = none
  bsz : base.objs.size ≤ s.heap.objs.size
  funs : s.heap.FunFrames base outer
  frf : ∀ b ∈ frs outer, H b = none
  hok : HOk P w H s.heap
  bare : AllBare s.gens
def CE (outer : List Env) (P : Program) (w : World) (H : Hp) (s : Shared) (Q : VK) (u : Value) (s' : Shared) : Prop :=
  ∃ v H', s'.os = s.os ∧ AllBare s'.gens ∧ Un (frs outer) [] H H' s.heap s'.heap ∧ HOk P w H' s'.heap ∧ RelV v u ∧ Q v H'
def CR (CX : CXT) (outer : List Env) (P : Program) (w : World) (H : Hp) (s : Shared) (Q : VK) (E : XK) (r : Result) (s' : Shared) : Prop :=
  match r with
  | .ok (.ret u) => CE outer P w H s Q u s'
  | .ok _ => False
  | .error e => CX outer H s E e s'
structure FnOk (P : Program) (w : World) (K : PySem.W.Frag) (mg : Str → Option Value) (base : Heap) (CX : CXT) (k : Nat) (f : Addr) (fd : FuncData) (ps : List Str) (sp : Sp) : Prop where
  len : ∀ vs H Q E, sp vs H Q E → vs.length = ps.length
  run : ∀ (A : Around) (outer : List Env) (s : Shared) (H : Hp) (args : Args) (us : List Value) (vs : List V) (Q : VK) (E : XK), Room k A → Env0 P w K mg base A outer s H → BindsTo s fd args (ps.zip us) → Vals vs us → sp vs H Q E →
    codeAny (model P w) A (.call (.ref f) args) (CR CX outer P w H s Q E) s
theorem FnOk.imp {P : Program} {w : World} {K : PySem.W.Frag} {mg : Str → Option Value} {base : Heap} {CX : CXT} {k : Nat} {f : Addr} {fd : FuncData} {ps : List Str} {sp sp' : Sp} (F : FnOk P w K mg base CX k f fd ps sp)
    (h : ∀ vs H Q E, sp' vs H Q E → sp vs H Q E) : FnOk P w K mg base CX k f fd ps sp' :=
  ⟨fun vs H Q E q => F.len vs H Q E (h _ _ _ _ q), fun A outer s H args us vs Q E hr he hb hv hs => F.run A outer s H args us vs Q E hr he hb hv (h _ _ _ _ hs)⟩
theorem Env0.make {P : Program} {w : World} {K : PySem.W.Frag} {mg : Str → Option Value} {base : Heap} {A : Around} {outer : List Env} {s : Shared} {H : Hp} (e : Env0 P w K mg base A outer s H) (C : Addr) (us : List Value) (kw : List (Str × Value)) :
    Env0 P w K mg base (A.under (.builtin "type.__call__" ⟨.ref C :: us, kw⟩)) outer s H := ⟨by first | exact e.frames | (simpa [Around.under, Code.envs, Code.isFrame, pushEnvs] using e.frames), e.mod, e.bs, e.bsz, e.funs, e.frf, e.hok, e.bare⟩
section
variable {X : Cx} {pins : List (Addr × Obj)} {σ : St} {H : Hp} {s s' : Shared}
theorem Inv.env0 (I : Inv X pins σ H s) : Env0 X.prog X.w X.K X.mg X.base X.A X.stack s H :=
  ⟨I.ok.frames, I.ok.mod, I.bs, Nat.le_trans I.ok.bsz I.sz, I.stack, I.stkFree, I.hok, I.bare⟩
theorem Inv.after {Q : VK} {u : Value} (I : Inv X pins σ H s) (h : CE X.stack X.prog X.w H s Q u s') : EP X pins σ Q u s' := by
  obtain ⟨v, H', os, bare, un, hok, r, q⟩ := h
  obtain ⟨hh, g, d, t, os'⟩ := s'
  obtain rfl : os' = s.os := os
  exact ⟨v, H', I.call (h' := hh) (g' := g) (d' := d) (t' := t) (ch := []) un hok bare (fun b z => absurd z (by simp)), r, q⟩
end
def tCall (sp : Sp) (dvs : List V) (E : XK) (t : TA) : TE := fun σ H Q => t σ H fun vs H1 => sp (vs ++ dvs) H1 Q E
def Binds (K : PySem.W.Frag) (fd : FuncData) (ps : List Str) (ds : List Value) : Prop :=
  ∀ (s : Shared) (us : List Value), K.In s.heap → (us ++ ds).length = ps.length → BindsTo s fd ⟨us, []⟩ (ps.zip (us ++ ds))
theorem Binds.all {K : PySem.W.Frag} {fd : FuncData} {ps : List Str} (h : ∀ us : List Value, us.length = ps.length → bindArgs fd ⟨us, []⟩ = pure (ps.zip us)) : Binds K fd ps [] := fun s us _ hl => by
  rw [List.append_nil] at hl ⊢
  exact .of_eq (h us hl)
def Passes (CX : CXT) (X : Cx) (E : XK) : Prop := ∀ (pins : List (Addr × Obj)) (σ : St) (H : Hp) (s : Shared) (e : Value) (s' : Shared), Inv X pins σ H s → CX X.stack H s E e s' → X.xe e s'
section
variable {X : Cx} {CX : CXT} {k : Nat} {f C : Addr} {fd : FuncData} {ps : List Str} {sp : Sp} {dvs : List V} {ds : List Value} {E : XK} {x m : Str} {p pos apos : Pos} {e o : Expr} {es : List Expr} {ta : TE} {t : TA}
theorem run_fn {pins : List (Addr × Obj)} {σ : St} {H : Hp} {s : Shared} {Q : VK} {us : List Value} {vs : List V} (F : FnOk X.prog X.w X.K X.mg X.base CX k f fd ps sp) (hr : Room k X.A) (hb : Binds X.K fd ps ds) (hd : Vals dvs ds) (hx : Passes CX X E)
    (I : Inv X pins σ H s) (r : Vals vs us) (h : sp (vs ++ dvs) H Q E) : wpAny (model X.prog X.w) X.A (call (.ref f) us) (EP X pins σ Q) X.xe s := by
  have r2 : Vals (vs ++ dvs) (us ++ ds) := r.append hd
  have hl : (us ++ ds).length = ps.length := by rw [← r2.length]; exact F.len _ _ _ _ h
  refine wpAny_call (codeAny_mono (F.run X.A X.stack s H ⟨us, []⟩ (us ++ ds) (vs ++ dvs) Q E hr I.env0 (hb s us I.kIn hl) r2 h) fun r s' hq => ?_)
  cases r with
  | error e => exact hx pins σ H s e s' I hq
  | ok fl =>
    cases fl with
    | ret u => exact I.after hq
    | next => exact False.elim hq
    | brk => exact False.elim hq
    | cont => exact False.elim hq
theorem pe_call (F : FnOk X.prog X.w X.K X.mg X.base CX k f fd ps sp) (hr : Room k X.A) (hg : Gl X x) (hm : X.mg x = some (.ref f)) (hk : PySem.W.keepIn X.K (.ref f) = true) (hb : Binds X.K fd ps ds) (hd : Vals dvs ds) (hx : Passes CX X E)
    (ha : PA X (e :: es) t) (hdb : (x == ("__debug__" : Str)) = false := by decide) (he : starEach (e :: es) X.env = (false, eval e X.env) :: starEach es X.env := by rfl) (hpl : (backTo pos (starEach es X.env)).any (·.1) = false := by rfl) :
    PE X (.Call (.Name x p) (e :: es) [] pos) (tCall sp dvs E t) := by
  intro pins s σ H Q I h
  refine wpAny_Call_Name_kw (ld_glob I hg hm ?_ hdb)
  refine PySem.W.callWith_K (h₀ := X.base) I.ok.mod.kin hk (thn (ha pos pins s σ H _ I h) fun us s1 ⟨vs, H1, I1, r, q⟩ => ⟨I1.kIn, ?_⟩) he hpl
  exact run_fn F hr hb hd hx I1 r q
end
section
variable {X : Cx} {CX : CXT} {k : Nat} {f C : Addr} {fd : FuncData} {ps ks : List Str} {sp : Sp} {E : XK} {x m : Str} {p pos apos kpos : Pos} {e o : Expr} {es : List Expr} {kws : List Keyword} {te ta : TE} {t tk : TA} {nm : Option Str}
variable {g : List Value → List Value → List Value} {gV : List V → List V → List V}
end
structure FnScope (N P : List Str) (sc : Scope) : Prop where
  kind : sc.kind = .function
  co : sc.isCoroutine = false
  gen : sc.isGenerator = false
  nd : N.Nodup
  pre : N.take P.length = P
  par : ∀ x ∈ P, sc.names.lookup x = some .local ∨ sc.names.lookup x = some .cell
  nofree : ∀ y ∈ sc.names, y.2 ≠ .free
theorem bindL_out {kindOf : Str → Option NameKind} {x : Str} : ∀ {binds : List (Str × Value)} {m : Str → Option Value}, (∀ v, (x, v) ∉ binds) → bindL kindOf binds m x = m x
  | [], _, _ => rfl
  | (n, v) :: r, m, h => by
    unfold bindL
    rw [bindL_out fun w hw => h w (List.mem_cons_of_mem _ hw)]
    split
    · have : x ≠ n := by rintro rfl; exact h v List.mem_cons_self
      simp [this]
    · rfl
theorem bindC_out {kindOf : Str → Option NameKind} {x : Str} : ∀ {binds : List (Str × Value)} {m : Str → Option Value}, (∀ v, (x, v) ∉ binds) → bindC kindOf binds m x = m x
  | [], _, _ => rfl
  | (n, v) :: r, m, h => by
    unfold bindC
    rw [bindC_out fun w hw => h w (List.mem_cons_of_mem _ hw)]
    split
    · rfl
    · have : x ≠ n := by rintro rfl; exact h v List.mem_cons_self
      simp [this]
theorem bindL_get {kindOf : Str → Option NameKind} {x : Str} {v : Value} : ∀ {P : List Str} {vs : List Value} {i : Nat} {m : Str → Option Value}, P.Nodup → P[i]? = some x → vs[i]? = some v → kindOf x = some .local →
    bindL kindOf (P.zip vs) m x = some v
  | [], _, _, _, _, h, _, _ => by simp at h
  | _ :: _, [], _, _, _, _, h, _ => by simp at h
  | p :: P, w :: vs, 0, m, nd, h1, h2, hk => by
    simp at h1 h2; subst h1; subst h2
    show bindL kindOf ((p, w) :: P.zip vs) m p = _
    unfold bindL
    rw [bindL_out fun v hv => (List.nodup_cons.mp nd).1 (List.of_mem_zip hv).1, if_pos hk]
    simp
  | p :: P, w :: vs, i + 1, m, nd, h1, h2, hk => by
    show bindL kindOf ((p, w) :: P.zip vs) m x = _
    unfold bindL
    exact bindL_get (i := i) (List.nodup_cons.mp nd).2 (by simpa using h1) (by simpa using h2) hk
theorem bindC_get {kindOf : Str → Option NameKind} {x : Str} {v : Value} : ∀ {P : List Str} {vs : List Value} {i : Nat} {m : Str → Option Value}, P.Nodup → P[i]? = some x → vs[i]? = some v → kindOf x ≠ some .local →
    bindC kindOf (P.zip vs) m x = some v
  | [], _, _, _, _, h, _, _ => by simp at h
  | _ :: _, [], _, _, _, _, h, _ => by simp at h
  | p :: P, w :: vs, 0, m, nd, h1, h2, hk => by
    simp at h1 h2; subst h1; subst h2
    show bindC kindOf ((p, w) :: P.zip vs) m p = _
    unfold bindC
    rw [bindC_out fun v hv => (List.nodup_cons.mp nd).1 (List.of_mem_zip hv).1, if_neg hk]
    simp
  | p :: P, w :: vs, i + 1, m, nd, h1, h2, hk => by
    show bindC kindOf ((p, w) :: P.zip vs) m x = _
    unfold bindC
    exact bindC_get (i := i) (List.nodup_cons.mp nd).2 (by simpa using h1) (by simpa using h2) hk
def start (N : List Str) (vs : List V) : St := vs.map some ++ List.replicate (N.length - vs.length) none
def cxOf (CX : CXT) (P : Program) (w : World) (K : PySem.W.Frag) (mg : Str → Option Value) (base : Heap) (N : List Str) (qual : Str) (scope : Scope) (f : Addr) (cd : Value) (A : Around) (outer : List Env) (s : Shared) (H : Hp) (E : XK) : Cx where
  prog := P
  w := w
  K := K
  mg := mg
  base := base
  A := A.deeper (envOfC qual scope s.heap.objs.size f cd)
  N := N
  s₀ := s
  H₀ := H
  env := envOfC qual scope s.heap.objs.size f cd
  outer := outer
  stack := envOfC qual scope s.heap.objs.size f cd :: outer
  ex := []
  calm := true
  fn := fun _ => true
  pn := []
  xe := fun e s' => wpAny (model P w) (A.deeper (envOfC qual scope s.heap.objs.size f cd)) (leaving (envOfC qual scope s.heap.objs.size f cd) e) (fun _ s'' => CX outer H s E e s'') (fun e' s'' => CX outer H s E e' s'') s'
theorem cell_has {sc : Scope} {n : Nat} {x : Str} (h : sc.names.lookup x = some .cell) : ∃ c, (cellsFrom n sc.names []).lookup x = some c := by
  have q := PySem.W.cellsFrom_some sc.names n [] (.inl h)
  exact Option.isSome_iff_exists.mp q
theorem inv_start {CX : CXT} {P : Program} {w : World} {K : PySem.W.Frag} {mg : Str → Option Value} {base : Heap} {N ps : List Str} {qual : Str} {scope : Scope} {f : Addr} {cd : Value} {A : Around} {outer : List Env} {s s1 : Shared} {H : Hp} {E : XK} {us : List Value} {vs : List V}
    (S : FnScope N ps scope) (hd : A.handled = none) (e0 : Env0 P w K mg base A outer s H) (hl : vs.length = ps.length) (r : Vals vs us)
    (x : InCallC s s.heap.objs.size (bindL (envOfC qual scope s.heap.objs.size f cd).kindOf (ps.zip us) fun _ => none) (cellsFrom (s.heap.objs.size + 1) scope.names []) (bindC (envOfC qual scope s.heap.objs.size f cd).kindOf (ps.zip us) fun _ => none) s1) :
    Inv (cxOf CX P w K mg base N qual scope f cd A outer s H E) [] (start N vs) H s1 := by
  have hpl : ps.length ≤ N.length := by have := congrArg List.length S.pre; rw [List.length_take] at this; omega
  obtain ⟨h1, tk, rfl, hk⟩ := x.done
  have noA : ∀ b : Addr, b ∉ (cxOf CX P w K mg base N qual scope f cd A outer s H E).ex := fun b z => absurd (show b ∈ ([] : List Addr) from z) (by simp)
  refine ⟨⟨e0.mod, S.kind, rfl, rfl, Nat.le_refl _, fun y z c h1 h2 => ?_, fun y hy => ?_, fun y c _ h => ?_, fun _ => hd, Around.frames_deeper e0.frames, .inr ⟨rfl, rfl⟩, fun b z => absurd z (noA b), e0.bs, e0.bsz, fun b _ _ => noA b, fun b z => absurd z (noA b), e0.funs, e0.frf⟩,
    rfl, e0.bare, Un.kept hk, ⟨_, x.toInCall.ns, fun i y v h1 h2 h3 => ?_⟩, fun y c h => ⟨_, x.cell y c h⟩, e0.hok.fresh (Nat.le_refl _), fun y c h => ?_, fun p hp => absurd (show p ∈ ([] : List (Addr × Obj)) from hp) (by simp), e0.hok.kept hk, ?_⟩
  · exact name_of_addr x.apart (PySem.mem_of_lookup h1) (PySem.mem_of_lookup h2)
  · have hy : scope.names.lookup y = some .cell ∨ scope.names.lookup y = some .free := hy
    rcases hy with hy | hy
    · exact cell_has hy
    · exact absurd rfl (S.nofree _ (PySem.mem_of_lookup hy))
  · exact Nat.le_of_lt (x.above y c (PySem.mem_of_lookup h))
  · have hi : i < vs.length := by
      unfold start at h2
      by_cases hi : i < vs.length
      · exact hi
      · rw [List.getElem?_append_right (by simpa using hi)] at h2
        rw [List.getElem?_replicate] at h2
        split at h2 <;> cases h2
    have ha : vs[i]? = some v := by
      unfold start at h2
      rw [List.getElem?_append_left (by simpa using hi), List.getElem?_map] at h2
      cases e : vs[i]? with
      | none => rw [e] at h2; cases h2
      | some a => rw [e] at h2; cases h2; rfl
    obtain ⟨u, hu, rv⟩ := r.get ha
    have hp : ps[i]? = some y := by
      rw [← S.pre, List.getElem?_take_of_lt (by omega)]; exact h1
    have ndP : ps.Nodup := by rw [← S.pre]; exact S.nd.sublist (List.take_sublist _ _)
    refine ⟨u, rv, ?_⟩
    rcases S.par y (List.mem_of_getElem? hp) with k | k
    · exact .inl ⟨k, bindL_get ndP hp hu k⟩
    · obtain ⟨c, e⟩ := cell_has (n := s.heap.objs.size + 1) k
      refine .inr ⟨.inl k, c, e, ?_⟩
      have q := x.cell y c e
      rw [bindC_get ndP hp hu (by show scope.names.lookup y ≠ _; rw [k]; decide)] at q
      exact q
  · exact e0.hok.fresh (Nat.le_of_lt (x.above y c (PySem.mem_of_lookup h)))
  · unfold start
    show _ = N.length
    rw [List.length_append, List.length_map, List.length_replicate]
    omega
theorem fn_of {CX : CXT} {P : Program} {w : World} {K : PySem.W.Frag} {mg : Str → Option Value} {base : Heap} {k : Nat} {f : Addr} {name qual : Str} {params : Arguments} {body : List Stmt} {scope : Scope} {dV kV doc pm cdv ct oc : Value} {an od : Option Addr}
    {osl : Array (Option Value)} {N ps : List Str} {sp : Sp} (lk : K.lookup f = some ⟨oc, od, .func (PySem.W.fnOf name qual params body scope dV kV doc pm an cdv ct), osl⟩) (hcd : PySem.W.codeIn K cdv qual = true) (S : FnScope N ps scope)
    (len : ∀ vs H Q E, sp vs H Q E → vs.length = ps.length)
    (hbody : ∀ (A : Around) (outer : List Env) (s : Shared) (H : Hp) (vs : List V) (Q : VK) (E : XK), Room k (A.deeper (envOfC qual scope s.heap.objs.size f cdv)) → sp vs H Q E →
      ∃ t, PSs (cxOf CX P w K mg base N qual scope f cdv A outer s H E) body t ∧ t { nx := fun _ H' => Q .non H', rt := Q } (start N vs) H) :
    FnOk P w K mg base CX (k + 1) f (PySem.W.fnOf name qual params body scope dV kV doc pm an cdv ct) ps sp := by
  refine ⟨len, fun A outer s H args us vs Q E hr e0 hb r hsp => ?_⟩
  have hl := len _ _ _ _ hsp
  have KX : K.In s.heap := e0.mod.kin.keeps fun b o e => (e0.bs b o e).1
  have lim : s.heap.NoLimit := e0.mod.nolimit.keeps fun b o e => (e0.bs b o e).1
  have hkind : ∀ y ∈ ps.zip us, scope.names.lookup y.1 = some .local ∨ (scope.names.lookup y.1 = some .cell ∧ ((cellsFrom (s.heap.objs.size + 1) scope.names []).lookup y.1).isSome = true) := fun ⟨n, v⟩ hy => by
    rcases S.par n (List.of_mem_zip hy).1 with q | q
    · exact .inl q
    · exact .inr ⟨q, PySem.W.cellsFrom_some _ _ _ (.inl q)⟩
  refine codeAny_call_function hr.depth (KX _ _ lk) rfl S.co S.gen rfl (PySem.W.codeRec_of KX hcd) (hb _ _ _ _ ?_)
  refine wpAny_newFunctionEnv_cells S.kind hkind fun env he s1 x => ?_
  subst he
  refine ⟨lim.keeps x.toInCall.keep, codeAny_func ?_⟩
  obtain ⟨t, ht, hq⟩ := hbody A outer s H vs Q E (hr.deeper _) hsp
  have I : Inv (cxOf CX P w K mg base N qual scope f cdv A outer s H E) [] (start N vs) H s1 := inv_start S hr.hd e0 hl r x
  refine wpAny_mono (ht [] s1 (start N vs) H _ I hq) (fun fl s' hs => ?_) fun e s' hs => hs
  have fin : ∀ {σ' : St} {H' : Hp} {v : V} {u : Value}, Inv (cxOf CX P w K mg base N qual scope f cdv A outer s H E) [] σ' H' s' → RelV v u → Q v H' → CE outer P w H s Q u s' :=
    fun {σ' H' v u} J rv q => ⟨v, H', J.os, J.bare, J.base, J.hok, rv, q⟩
  cases fl with
  | ret u =>
    obtain ⟨v, σ', H', J, rv, q⟩ := hs
    exact fin J rv q
  | next =>
    obtain ⟨σ', H', J, q⟩ := hs
    exact fin (v := V.non) (u := Value.none) J rfl q
  | brk =>
    obtain ⟨_, _, _, q⟩ := hs
    exact False.elim q
  | cont =>
    obtain ⟨_, _, _, q⟩ := hs
    exact False.elim q
end L2
namespace L2
open PySem PySem.Spec PyProof.Rows
section
variable {X : Cx} {x : Str} {p pos : Pos} {e : Expr} {es : List Expr} {t : TA} {id T : String} {r : List V → Hp → VK → Prop}
def tCB (r : List V → Hp → VK → Prop) (t : TA) : TE := fun σ H Q => t σ H fun vs H1 => r vs H1 Q
theorem pe_callB (hc : CallR X (.builtin id) r) (hg : Gl X x) (hm : X.mg x = none) (hv : bootBuiltins x = some (.builtin id)) (ha : PA X (e :: es) t) (hn : x ≠ "__name__" := by decide) (hdb : (x == ("__debug__" : Str)) = false := by decide)
    (he : starEach (e :: es) X.env = (false, eval e X.env) :: starEach es X.env := by rfl) (hpl : (backTo pos (starEach es X.env)).any (·.1) = false := by rfl) : PE X (.Call (.Name x p) (e :: es) [] pos) (tCB r t) := by
  intro pins s σ H Q I h
  refine wpAny_Call_Name_kw (ld_blt I hg hm hv ?_ hn hdb)
  exact PyProof.Rows.callWith_builtin1 (thn (ha pos pins s σ H _ I h) fun us s1 ⟨vs, H1, I1, r1, q1⟩ => hc pins s1 σ H1 vs us Q I1 r1 q1) he hpl
theorem pe_callTy (hc : CallR X (.type T) r) (hg : Gl X x) (hm : X.mg x = none) (hv : bootBuiltins x = some (.type T)) (ha : PA X (e :: es) t) (hn : x ≠ "__name__" := by decide) (hdb : (x == ("__debug__" : Str)) = false := by decide)
    (he : starEach (e :: es) X.env = (false, eval e X.env) :: starEach es X.env := by rfl) (hpl : (backTo pos (starEach es X.env)).any (·.1) = false := by rfl) : PE X (.Call (.Name x p) (e :: es) [] pos) (tCB r t) := by
  intro pins s σ H Q I h
  refine wpAny_Call_Name_kw (ld_blt I hg hm hv ?_ hn hdb)
  exact PyProof.Rows.callWith_type1 (thn (ha pos pins s σ H _ I h) fun us s1 ⟨vs, H1, I1, r1, q1⟩ => hc pins s1 σ H1 vs us Q I1 r1 q1) he hpl
end
end L2
namespace HT
open PySem PyProof.Rows
section
open PySem.SeqAt
open PySem.AutoSeq1 (wpAny_loadPart')
open PySem.MeetsSeq PySem.MeetsSeq2 PySem.MeetsSeq3
end
section
variable {prog : Program} {w : World} {A : Around} {E : Value → Shared → Prop} {s : Shared}
theorem cat_tup {t b : Addr} {vs ws : List Value} {Q : Value → Shared → Prop} (ht : IsTup s.heap t vs.toArray) (hb : IsTup s.heap b ws.toArray) (hv : vs ≠ [])
    (h1 : ws = [] → Q (.ref t) s) (h2 : ws ≠ [] → Q (.ref s.heap.objs.size) { s with heap := s.heap.push { cls := .type "tuple", data := .seq (vs ++ ws).toArray } })
    (hsz : vs.length + ws.length ≤ sizeLine) : wpAny (model prog w) A (binaryOp .Add (.ref t) (.ref b)) Q E s := by
  obtain ⟨⟨cls, dd, data, sl⟩, ho, hc, n, hd⟩ := id ht
  obtain ⟨⟨cls2, dd2, data2, sl2⟩, ho2, hc2, n2, hd2⟩ := id hb
  simp only at hc hd hc2 hd2
  subst hc hd hc2 hd2
  have e : vs.toArray ++ ws.toArray = (vs ++ ws).toArray := by simp
  by_cases hw : ws = []
  · exact concat_meets ⟨_, ho, rfl⟩ ⟨_, ho2, rfl⟩ noFill_tuple_add seq_tuple_add PySem.F.slot_tuple_add PySem.F.entry_tuple_add (PySem.F.args_tuple_add_2 _ _)
      (tuple_addW1 t b vs.toArray ws.toArray n n2 dd dd2 sl sl2 (by simpa using hv) (by simp [hw])) ⟨ho, ho2, h1 hw⟩
  · refine concat_meets ⟨_, ho, rfl⟩ ⟨_, ho2, rfl⟩ noFill_tuple_add seq_tuple_add PySem.F.slot_tuple_add PySem.F.entry_tuple_add (PySem.F.args_tuple_add_2 _ _)
      (tuple_addW2 t b vs.toArray ws.toArray n n2 dd dd2 sl sl2 (by simpa using hv) (by simpa using hw) (by rw [List.size_toArray, List.size_toArray]; exact hsz)) ⟨ho, ho2, ?_⟩
    rw [e]
    exact h2 hw
end
end HT
namespace L2
open PySem PySem.Spec PyProof.Rows
abbrev TO := St → Hp → (Option Int → Hp → Prop) → Prop
namespace Zu
end Zu
section
variable {X : Cx} {e : Expr} {te : TE} {lo hi : Option Expr} {tl th : TO} {pos p2 : Pos}
def rCatT (K : PySem.W.Frag) : R2 := fun x y H Q => ∃ a b xs ys, x = .ref a ∧ y = .ref b ∧ SqT K H a xs ∧ SqT K H b ys ∧ xs ≠ [] ∧ xs.length + ys.length ≤ sizeLine ∧
  (ys = [] → Q (.ref a) H) ∧ (ys ≠ [] → ∀ p, H p = none → Q (.ref p) (upd H p (.tup (xs ++ ys))))
theorem Vals.nil_iff {xs : List V} {us : List Value} (r : Vals xs us) : us = [] ↔ xs = [] := by
  cases r with
  | nil => simp
  | cons _ _ => simp
theorem op_catT : OpR X (binaryOp .Add) (rCatT X.K) := by
  intro pins s σ H x y v u Q I rx ry h
  obtain ⟨a, b, xs, ys, rfl, rfl, ha, hb, hx, hz, q1, q2⟩ := h
  cases rx
  cases ry
  obtain ⟨its, r1, p1, _⟩ := I.tuple ha
  obtain ⟨its2, r2, p2, _⟩ := I.tuple hb
  refine HT.cat_tup p1 p2 (fun z => hx (r1.nil_iff.mp z)) (fun z => ⟨.ref a, H, I, rfl, q1 (r2.nil_iff.mp z)⟩) (fun z => ?_) (by rw [← r1.length, ← r2.length]; exact hz)
  refine ⟨.ref s.heap.objs.size, _, I.laid (t' := s.toks) (o := .tup (xs ++ ys)) (fun b ob q => Heap.get?_push_of_some _ q) (Nat.le_refl _) ?_, rfl, q2 (fun w => z (r2.nil_iff.mpr w)) _ (I.hok.fresh (Nat.le_refl _))⟩
  exact ⟨by rw [List.length_append]; exact hz, _, r1.append r2, IsTup.new _ _⟩
end
end L2
namespace L2
open PySem PySem.Spec PyProof.Rows
def ixN (n : Nat) (i : Int) : Option Nat := if 0 ≤ i then (if i < n then some i.toNat else none) else if -(n : Int) ≤ i then some (i + n).toNat else none
def atI {α : Type} (xs : List α) (i : Int) : Option α := (ixN xs.length i).bind fun j => xs[j]?
theorem ixN_seq {n : Nat} {i : Int} {j : Nat} (h : ixN n i = some j) : seqIndex? i n = some j ∧ j < n ∧ -(n : Int) ≤ i ∧ i < n := by
  unfold ixN at h
  by_cases h0 : 0 ≤ i
  · rw [if_pos h0] at h
    by_cases h1 : i < n
    · rw [if_pos h1] at h
      have e : i.toNat = j := Option.some.inj h
      exact ⟨by rw [seqIndex_of h0 h1, e], by omega, by omega, h1⟩
    · rw [if_neg h1] at h; cases h
  · rw [if_neg h0] at h
    by_cases h1 : -(n : Int) ≤ i
    · rw [if_pos h1] at h
      have e : (i + n).toNat = j := Option.some.inj h
      exact ⟨by rw [seqIndex_neg (by omega) h1, e], by omega, h1, by omega⟩
    · rw [if_neg h1] at h; cases h
theorem atI_get {α : Type} {xs : List α} {i : Int} {v : α} (h : atI xs i = some v) : ∃ j, seqIndex? i xs.length = some j ∧ xs[j]? = some v ∧ j < xs.length ∧ -(xs.length : Int) ≤ i ∧ i < xs.length := by
  unfold atI at h
  cases e : ixN xs.length i with
  | none => rw [e] at h; cases h
  | some j =>
    rw [e] at h
    obtain ⟨h1, h2, h3, h4⟩ := ixN_seq e
    exact ⟨j, h1, h, h2, h3, h4⟩
def PlainIx (b : Expr) : Prop := ∀ o i, subscripted b false o i = operate [o, i] (getItem o i)
def IxR (X : Cx) (r : R2) : Prop :=
  ∀ (value slice : Expr) (pins : List (Addr × Obj)) (s : Shared) (σ : St) (H : Hp) (x y : V) (v u : Value) (Q : VK), Inv X pins σ H s → RelV x v → RelV y u → r x y H Q →
    subscripted slice false v u = operate [v, u] (getItem v u) → wpAny (model X.prog X.w) X.A (subscriptTail value slice v u) (EP X pins σ Q) X.xe s
def MtR (X : Cx) (id : String) (r : V → List V → Hp → VK → Prop) : Prop :=
  ∀ (pins : List (Addr × Obj)) (s : Shared) (σ : St) (H : Hp) (x : V) (xs : List V) (v : Value) (us : List Value) (Q : VK), Inv X pins σ H s → RelV x v → Vals xs us → r x xs H Q →
    wpAny (model X.prog X.w) X.A (call (.builtin id) (v :: us)) (EP X pins σ Q) X.xe s
section
variable {X : Cx} {a b : Expr} {ta tb : TE} {pos : Pos}
theorem IxR.or {r r' : R2} (h : IxR X r) (h' : IxR X r') : IxR X (fun x y H Q => r x y H Q ∨ r' x y H Q) := by
  intro value slice pins s σ H x y v u Q I rx ry q hs
  rcases q with q | q
  · exact h value slice pins s σ H x y v u Q I rx ry q hs
  · exact h' value slice pins s σ H x y v u Q I rx ry q hs
theorem pe_ix {r : R2} (hr : IxR X r) (ha : PE X a ta) (hb : PE X b tb) (hs : PlainIx b) : PE X (.Subscript a b pos) (tOp r ta tb) := by
  intro pins s σ H Q I h
  exact Subscript_ (binT ha hb I h fun v u s2 x y H2 I2 rx ry q => hr a b pins s2 σ H2 x y v u Q I2 rx ry q (hs _ _))
def rIxL (K : PySem.W.Frag) : R2 := fun x y H Q => ∃ p xs i v, x = .ref p ∧ y = .int i ∧ SqL K H p xs ∧ atI xs i = some v ∧ Q v H
def rIxT (K : PySem.W.Frag) : R2 := fun x y H Q => ∃ p xs i v, x = .ref p ∧ y = .int i ∧ SqT K H p xs ∧ atI xs i = some v ∧ Q v H
def rIxS : R2 := fun x y H Q => ∃ z i c, x = .str z ∧ y = .int i ∧ z.length ≤ sizeLine ∧ atI z.cps.toList i = some c ∧ Q (.str ⟨#[c]⟩) H
theorem ix_list : IxR X (rIxL X.K) := by
  intro value slice pins s σ H x y v u Q I rx ry h hs
  obtain ⟨p, xs, i, z, rfl, rfl, hq, he, q⟩ := h
  cases rx
  obtain ⟨t, rfl⟩ := ry
  obtain ⟨its, r, pl, hz⟩ := I.list hq
  obtain ⟨j, h1, h2, h3, h4, h5⟩ := atI_get he
  obtain ⟨w, ew, rw'⟩ := r.get h2
  have hl := r.length
  have hn := line63
  have fin : EP X pins σ Q w s := ⟨z, H, I, rw', q⟩
  by_cases h0 : 0 ≤ i
  · have hj : i.toNat = j := by
      rw [seqIndex_of h0 h5] at h1
      exact Option.some.inj h1
    exact item_listR pl.isList h0 (by omega) (by rw [hj]; simpa using ew) fin hs
  · have hj : (i + (its.toArray.size : Int)).toNat = j := by
      rw [seqIndex_neg (by omega) h4] at h1
      rw [List.size_toArray, ← hl]
      exact Option.some.inj h1
    exact subscriptTail_builtinR (x := w) pl.isList.typeIs slot_list_getitem.lookup
      (wpAny_getItem_list_neg (Q := fun r s' => r = w ∧ EP X pins σ Q r s') pl.isList (by omega) (by rw [List.size_toArray] <;> omega) (by omega) (by rw [hj]; simpa using ew) ⟨rfl, fin⟩) hs
theorem ix_tup : IxR X (rIxT X.K) := by
  intro value slice pins s σ H x y v u Q I rx ry h hs
  obtain ⟨p, xs, i, z, rfl, rfl, hq, he, q⟩ := h
  cases rx
  obtain ⟨t, rfl⟩ := ry
  obtain ⟨its, r, pl, hz⟩ := I.tuple hq
  obtain ⟨j, h1, h2, h3, h4, h5⟩ := atI_get he
  obtain ⟨w, ew, rw'⟩ := r.get h2
  have hl := r.length
  have hn := line63
  have fin : EP X pins σ Q w s := ⟨z, H, I, rw', q⟩
  exact subscriptTail_builtinR (x := w) pl.typeIs slot_tuple_getitem.lookup
    (getItem_tuple (j := j) (Q := fun r s' => r = w ∧ EP X pins σ Q r s') pl (by omega) (by omega) (by rw [List.size_toArray, ← hl]; exact h1) (by simpa using ew) ⟨rfl, fin⟩) hs
theorem ix_str : IxR X rIxS := by
  intro value slice pins s σ H x y v u Q I rx ry h hs
  obtain ⟨z, i, c, rfl, rfl, hz, he, q⟩ := h
  obtain ⟨t, rfl⟩ := rx
  obtain ⟨t', rfl⟩ := ry
  obtain ⟨j, h1, h2, h3, h4, h5⟩ := atI_get he
  have hl : z.cps.toList.length = z.length := by simp [Str.length]
  rw [hl] at h1 h4 h5
  have hn := line63
  exact tail_any (typeIs_str s z t) slot_str_getitem.lookup (getItem_str (c := c) (by
    have e1 : decide (i < -(2 ^ 63 : Int)) = false := decide_eq_false (by omega)
    have e2 : decide (i ≥ 2 ^ 63) = false := decide_eq_false (by omega)
    rw [e1, e2, Bool.or_false]) (by rw [h1]; simpa using h2) ⟨.str ⟨#[c]⟩, H, I.tok _, ⟨_, rfl⟩, q⟩) hs
def rIx (K : PySem.W.Frag) : R2 := fun x y H Q => rIxL K x y H Q ∨ rIxT K x y H Q ∨ rIxS x y H Q
theorem ix_seq : IxR X (rIx X.K) := ix_list.or (ix_tup.or ix_str)
theorem mapSeq_set (its : List Value) (n j : Nat) (u : Value) : Obj.mapSeq (·.setIfInBounds j u) { cls := .type "list", data := .seq its.toArray n } = { cls := .type "list", data := .seq (its.set j u).toArray n } := by
  simp [Obj.mapSeq]
theorem Inv.lst {pins : List (Addr × Obj)} {σ : St} {H : Hp} {s : Shared} {p : Addr} {xs : List V} (I : Inv X pins σ H s) (h : H p = some (.lst xs)) :
    ∃ (its : List Value) (n : Nat), Vals xs its ∧ s.heap.get? p = some { cls := .type "list", data := .seq its.toArray n } ∧ xs.length ≤ sizeLine := by
  obtain ⟨z, its, n, r, e⟩ := I.hok p _ h
  exact ⟨its, n, r, e, z⟩
theorem Inv.lstUpd {pins : List (Addr × Obj)} {σ : St} {H : Hp} {s : Shared} {p : Addr} {xs ys : List V} {its its' : List Value} {n n' : Nat} {f : Obj → Obj} (I : Inv X pins σ H s) (h : H p = some (.lst xs))
    (ho : s.heap.get? p = some { cls := .type "list", data := .seq its.toArray n }) (hf : f { cls := .type "list", data := .seq its.toArray n } = { cls := .type "list", data := .seq its'.toArray n' }) (r : Vals ys its') (hz : ys.length ≤ sizeLine) (t : Nat) :
    Inv X pins σ (upd H p (.lst ys)) { s with heap := s.heap.update p f, toks := t } := by
  have e : (s.heap.update p f).get? p = some { cls := .type "list", data := .seq its'.toArray n' } := by
    rw [Heap.get?_update_self f ho (by rw [hf] <;> rfl), hf]
  refine I.write (x := p) (e := p) (by rw [h]; trivial) (.inl rfl) (fun b u hb q => (Heap.get?_update_other _ _ (Ne.symm hb)).trans q) ⟨_, e⟩ ?_
  exact ⟨hz, its', n', r, e⟩
def rSetL : V → V → V → Hp → (Hp → Prop) → Prop := fun o i v H Q => ∃ p xs k j, o = .ref p ∧ i = .int k ∧ H p = some (.lst xs) ∧ ixN xs.length k = some j ∧ Q (upd H p (.lst (xs.set j v)))
theorem set_list : PSet X rSetL := by
  intro pins s σ H o i v ov iv u Q I ro ri rv h
  obtain ⟨p, xs, k, j, rfl, rfl, hp, hj, q⟩ := h
  cases ro
  obtain ⟨t, rfl⟩ := ri
  obtain ⟨its, n, r, ho, hz⟩ := I.lst hp
  obtain ⟨h1, h2, h3, h4⟩ := ixN_seq hj
  have hl := r.length
  have hn := line63
  have I' : Inv X pins σ (upd H p (.lst (xs.set j v))) { s with heap := s.heap.update p (Obj.mapSeq (·.setIfInBounds j u)) } :=
    I.lstUpd hp ho (mapSeq_set its n j u) (r.set rv j) (by rw [List.length_set]; exact hz) s.toks
  by_cases h0 : 0 ≤ k
  · have hk : k.toNat = j := by
      rw [seqIndex_of h0 h4] at h1
      exact Option.some.inj h1
    exact PySem.W.ki_setAt ho h0 (by omega) (by rw [List.size_toArray, ← hl]; exact h4) (by rw [hk]; exact ⟨_, I', q⟩)
  · have hk : (k + (its.toArray.size : Int)).toNat = j := by
      rw [seqIndex_neg (by omega) h3] at h1
      rw [List.size_toArray, ← hl]
      exact Option.some.inj h1
    exact PySem.W.ki_setBack ho (by omega) (by rw [List.size_toArray, ← hl]; exact h3) (by omega) (by rw [hk]; exact ⟨_, I', q⟩)
theorem call_len_seq : CallR X (.builtin "len") (fun xs H Q => ∃ p ys, xs = [.ref p] ∧ (SqL X.K H p ys ∨ SqT X.K H p ys) ∧ Q (.int ys.length) H) := by
  intro pins s σ H xs us Q I r h
  obtain ⟨p, ys, rfl, hq, q⟩ := h
  obtain ⟨u, rfl, rx⟩ := vals1 r
  cases rx
  have hn := line63
  rcases hq with hq | hq
  · obtain ⟨its, r', pl, hz⟩ := I.list hq
    have hlen := r'.length
    exact Calls.call_len_list pl.isList (by simp only [List.size_toArray] <;> omega) ⟨.int ys.length, H, I.tok _, ⟨s.toks + 1, by rw [List.size_toArray, hlen]⟩, q⟩
  · obtain ⟨its, r', pl, hz⟩ := I.tuple hq
    have hlen := r'.length
    exact len_tuple pl (by simp only [List.size_toArray] <;> omega) ⟨.int ys.length, H, I.tok _, ⟨s.toks + 1, by rw [List.size_toArray, hlen]⟩, q⟩
def tyV (K : PySem.W.Frag) (T : String) (x : V) (H : Hp) : Prop := match x with
  | .str _ => T = "str"
  | .int _ => T = "int"
  | .ref p => (T = "list" ∧ ∃ xs, SqL K H p xs) ∨ (T = "tuple" ∧ ∃ o, K.lookup p = some o ∧ o.cls = .type "tuple" ∧ o.dict = none) ∨
      (T = "dict" ∧ ((∃ kvs, H p = some (.dK kvs)) ∨ ∃ kvs, H p = some (.dT kvs))) ∨ (T = "set" ∧ ∃ S n, H p = some (.set S n))
  | _ => False
theorem tyV_is {pins : List (Addr × Obj)} {σ : St} {H : Hp} {s : Shared} {T : String} {x : V} {v : Value} (I : Inv X pins σ H s) (r : RelV x v) (ty : tyV X.K T x H) :
    s.TypeIs v T ∧ ∀ a, v = .ref a → ∃ ob, s.heap.get? a = some ob ∧ ob.dict = none := by
  cases x with
  | str z =>
    obtain ⟨t, rfl⟩ := r
    cases (show T = "str" from ty)
    exact ⟨typeIs_str s z t, fun _ e => nomatch e⟩
  | int i =>
    obtain ⟨t, rfl⟩ := r
    cases (show T = "int" from ty)
    exact ⟨typeIs_int s i t, fun _ e => nomatch e⟩
  | ref p =>
    cases r
    rcases ty with ⟨rfl, xs, hq⟩ | ⟨rfl, o, hk, hc, hd⟩ | ⟨rfl, hk⟩ | ⟨rfl, S, n, hk⟩
    · obtain ⟨its, _, pl, _⟩ := I.list hq
      refine ⟨pl.isList.typeIs, fun a e => ?_⟩
      cases e
      obtain ⟨o, n, e, c, hd, _⟩ := pl
      exact ⟨o, e, hd⟩
    · refine ⟨⟨o, I.kIn p o hk, hc⟩, fun a e => ?_⟩
      cases e
      exact ⟨o, I.kIn _ o hk, hd⟩
    · have z : ∃ o, s.heap.get? p = some o ∧ o.ExactDict := by
        rcases hk with ⟨kvs, hk⟩ | ⟨kvs, hk⟩
        · obtain ⟨_, _, _, _, o, _, _, e, ex, _⟩ := I.hok p _ hk
          exact ⟨o, e, ex⟩
        · obtain ⟨_, _, _, _, o, _, _, e, ex, _⟩ := I.hok p _ hk
          exact ⟨o, e, ex⟩
      obtain ⟨o, e, ex⟩ := z
      refine ⟨⟨o, e, ex.1⟩, fun a e2 => ?_⟩
      cases e2
      exact ⟨o, e, ex.2.1⟩
    · obtain ⟨o, _, _, _, e, ex, _⟩ := I.hok p _ hk
      refine ⟨⟨o, e, ex.1⟩, fun a e2 => ?_⟩
      cases e2
      exact ⟨o, e, ex.2.1⟩
  | _ => exact False.elim ty
def tBM (K : PySem.W.Frag) (T : String) (r : V → List V → Hp → VK → Prop) (to : TE) (t : TA) : TE := fun σ H Q => to σ H fun x H1 => tyV K T x H1 ∧ t σ H1 fun xs H2 => r x xs H2 Q
variable {o e : Expr} {es : List Expr} {to : TE} {t : TA} {name : Str} {apos cpos : Pos} {T id : String} {r : V → List V → Hp → VK → Prop}
theorem pe_bm (pa : PlainAttrs T) (slot : Slot T name id) (hty : typeOf (.builtin id) = pure (.type "method_descriptor")) (hm : MtR X id r) (ho : PE X o to) (ha : PA X (e :: es) t)
    (hbase : attributeBase o name X.env (eval o X.env) = eval o X.env := by rfl)
    (hfew : ((backTo cpos (starEach (e :: es) X.env)).all (fun x => !x.1) && (backToKw cpos (keywordEach [] X.env)).all (fun x => x.1.isSome)
      && decide ((e :: es).length + ([] : List Keyword).length + (if ([] : List Keyword).isEmpty then 0 else 1) < 30)) = true := by rfl)
    (hline : (apos.endLine == cpos.line) = true := by rfl) (hs : starEach (e :: es) X.env = (false, eval e X.env) :: starEach es X.env := by rfl) (hplain : (backTo cpos (starEach es X.env)).any (·.1) = false := by rfl) :
    PE X (.Call (.Attribute o name apos) (e :: es) [] cpos) (tBM X.K T r to t) := by
  intro pins s σ H Q I h
  refine wpAny_Call_method_late hbase hfew hline rfl (thn (ho pins s σ H _ I h) fun v s1 ⟨x, H1, I1, r1, ty, q1⟩ => ?_)
  obtain ⟨h1, h2⟩ := tyV_is I1 r1 ty
  refine ⟨T, id, pa, slot, hty, h1, h2, ?_⟩
  have hA := ha cpos pins s1 σ H1 _ I1 q1
  rw [hs] at hA ⊢
  refine Calls.callWith_builtin (by show (false || (backTo cpos (starEach es X.env)).any (·.1)) = false; rw [hplain] <;> rfl) (Calls.evalArgs_plain ?_)
  exact thn hA fun us s2 ⟨vs, H2, I2, r2, q2⟩ => hm pins s2 σ H2 x vs v us Q I2 r1 r2 q2
end
end L2
namespace L2
open PySem PySem.Spec PyProof.Rows
def MtM (X : Cx) (id : String) (r : V → List V → Hp → VK → Prop) : Prop :=
  ∀ (pins : List (Addr × Obj)) (s : Shared) (σ : St) (H : Hp) (x : V) (xs : List V) (v : Value) (us : List Value) (Q : VK), Inv X pins σ H s → RelV x v → Vals xs us → r x xs H Q →
    wpAny (model X.prog X.w) X.A (call (.builtin id) (v :: us)) (EP X pins σ Q) X.xe s
theorem Vals.one : ∀ {x : V} {us : List Value}, Vals [x] us → ∃ u, us = [u] ∧ RelV x u
  | _, _, .cons r .nil => ⟨_, rfl, r⟩
theorem Vals.two : ∀ {x y : V} {us : List Value}, Vals [x, y] us → ∃ u v, us = [u, v] ∧ RelV x u ∧ RelV y v
  | _, _, _, .cons r (.cons q .nil) => ⟨_, _, rfl, r, q⟩
section
variable {X : Cx} {pins : List (Addr × Obj)} {σ : St} {H : Hp} {s : Shared} {l b : Addr} {xs ys zs : List V}
theorem Inv.lset {its its' : List Value} {n : Nat} {f : Array Value → Array Value} {t' : Nat} (I : Inv X pins σ H s) (hH : H l = some (.lst xs))
    (e : s.heap.get? l = some { cls := .type "list", data := .seq its.toArray n }) (hf : f its.toArray = its'.toArray) (hv : Vals ys its') (hz : ys.length ≤ sizeLine) :
    Inv X pins σ (upd H l (.lst ys)) { s with heap := s.heap.update l (Obj.mapSeq f), toks := t' } := by
  have q := PySem.IsL.update e f
  rw [hf] at q
  refine I.write (x := l) (e := l) (by rw [hH]; exact trivial) (.inl rfl) (fun b' u hb hu => (Heap.get?_update_other s.heap (Obj.mapSeq f) (Ne.symm hb)).trans hu) ⟨_, q⟩ ?_
  exact ⟨hz, its', _, hv, q⟩
theorem Inv.lnew {its : List Value} {t' : Nat} (I : Inv X pins σ H s) (hv : Vals ys its) (hz : ys.length ≤ sizeLine) :
    Inv X pins σ (upd H s.heap.objs.size (.lst ys)) { s with heap := s.heap.push { cls := .type "list", data := .seq its.toArray }, toks := t' } :=
  I.laid (fun _ _ q => Heap.get?_push_of_some _ q) (Nat.le_refl _) ⟨hz, its, 0, hv, Heap.get?_push_size _ rfl⟩
theorem Inv.fresh (I : Inv X pins σ H s) : H s.heap.objs.size = none := I.hok.fresh (Nat.le_refl _)
theorem Inv.lstM (I : Inv X pins σ H s) (hH : H l = some (.lst xs)) : xs.length ≤ sizeLine ∧ ∃ (its : List Value) (n : Nat), Vals xs its ∧ xs.length = its.length ∧ s.heap.get? l = some { cls := .type "list", data := .seq its.toArray n } := by
  obtain ⟨z, its, n, r, e⟩ := I.hok l _ hH
  exact ⟨z, its, n, r, r.length, e⟩
theorem notLongL {n : Nat} (h : n ≤ sizeLine) : Builtin.List.listTooLong n = false := by
  unfold Builtin.List.listTooLong
  exact decide_eq_false (by omega)
end
section
variable {X : Cx}
def rAppend : V → List V → Hp → VK → Prop := fun x vs H Q => ∃ l xs y, x = .ref l ∧ vs = [y] ∧ H l = some (.lst xs) ∧ xs.length < sizeLine ∧ Q .non (upd H l (.lst (xs ++ [y])))
theorem mt_append : MtM X "list.append" rAppend := by
  intro pins s σ H x vs v us Q I rx rv h
  obtain ⟨l, xs, y, rfl, rfl, hH, hz, q⟩ := h
  cases rx
  obtain ⟨u, rfl, ru⟩ := rv.one
  obtain ⟨z, its, n, r, hl, e⟩ := I.lstM hH
  refine call_meets F.slot_list_append ⟨_, e, rfl⟩ F.entry_list_append (F.args_list_append_2 _ _) (PySem.list_append l its.toArray n u (by rw [List.size_toArray]; omega)) ⟨e, ?_⟩
  refine ⟨.non, _, I.lset (its' := its ++ [u]) hH e (by simp) (r.append (.cons ru .nil)) ?_, rfl, q⟩
  rw [List.length_append, List.length_singleton]
  omega
def rExtend : V → List V → Hp → VK → Prop := fun x vs H Q => ∃ l b xs zs, x = .ref l ∧ vs = [.ref b] ∧ H l = some (.lst xs) ∧ H b = some (.lst zs) ∧ xs.length + zs.length ≤ sizeLine ∧ Q .non (upd H l (.lst (xs ++ zs)))
theorem mt_extend : MtM X "list.extend" rExtend := by
  intro pins s σ H x vs v us Q I rx rv h
  obtain ⟨l, b, xs, zs, rfl, rfl, hH, hB, hz, q⟩ := h
  cases rx
  obtain ⟨u, rfl, ru⟩ := rv.one
  cases ru
  obtain ⟨z, its, n, r, hl, e⟩ := I.lstM hH
  obtain ⟨z2, its2, n2, r2, hl2, e2⟩ := I.lstM hB
  have hsz : its.toArray.size + its2.toArray.size ≤ sizeLine := by rw [List.size_toArray, List.size_toArray]; omega
  have hlong : ¬ (!its.toArray.isEmpty && Builtin.List.listTooLong (its.toArray.size + its2.toArray.size)) = true := by
    rw [notLongL hsz, Bool.and_false]
    exact Bool.false_ne_true
  refine call_meets F.slot_list_extend ⟨_, e, rfl⟩ F.entry_list_extend (F.args_list_extend_2 _ _)
    (AutoSeq1.list_extend_list_list_0 l its.toArray n b its2.toArray n2 hlong (by rw [List.size_toArray]; omega) (by omega)) ⟨e, e2, ?_⟩
  refine ⟨.non, _, I.lset (its' := its ++ its2) hH e (by simp) (r.append r2) ?_, rfl, q⟩
  rw [List.length_append]
  omega
def rCat : R2 := fun x y H Q => ∃ l b xs zs, x = .ref l ∧ y = .ref b ∧ H l = some (.lst xs) ∧ H b = some (.lst zs) ∧ xs.length + zs.length ≤ sizeLine ∧ ∀ p, H p = none → Q (.ref p) (upd H p (.lst (xs ++ zs)))
theorem op_cat : OpR X (binaryOp .Add) rCat := by
  intro pins s σ H x y v u Q I rx ry h
  obtain ⟨l, b, xs, zs, rfl, rfl, hH, hB, hz, q⟩ := h
  cases rx
  cases ry
  obtain ⟨z, its, n, r, hl, e⟩ := I.lstM hH
  obtain ⟨z2, its2, n2, r2, hl2, e2⟩ := I.lstM hB
  refine PySem.P.add_list e e2 ?_ (by rw [List.size_toArray, List.size_toArray]; omega)
  have ea : its.toArray ++ its2.toArray = (its ++ its2).toArray := by simp
  rw [ea]
  exact ⟨.ref _, _, I.lnew (t' := s.toks) (r.append r2) (by rw [List.length_append]; omega), rfl, q _ I.fresh⟩
end
section
variable {prog : Program} {w : World} {A : Around} {E : Value → Shared → Prop} {s : Shared}
end
section
variable {X : Cx}
end
end L2
namespace Att
open PySem PySem.W PySem.Calls PyProof.Rows
theorem ints_of_wellAll {P : Params} {h : Heap} : ∀ (ns : List Int) (vs : List Value), WellAll P h vs (ns.map WData.int) → IntsAre vs ns := by
  intro ns
  induction ns with
  | nil =>
    intro vs w
    rw [List.map_nil] at w
    cases w
    exact .nil
  | cons n ns ih =>
    intro vs w
    rw [List.map_cons] at w
    cases w with
    | cons a b =>
      cases a
      exact .cons _ _ (ih _ b)
theorem script_of {l : OpenLaw} {n : Nat} (hn : l.most = some n) {P : Params} {h : Heap} {args : List WData} {vals : List Value}
    (hpre : l.row.toRowW.claim.pre args = true) (hwl : WellAll P h vals args) :
    ∃ a vs ns, vals = [Value.ref a] ∧ args = [WData.list (ns.map WData.int)] ∧ h.get? a = some { cls := .type "list", data := .seq vs.toArray } ∧ IntsAre vs ns ∧ ns.length ≤ n := by
  have hsh : WShape.hasAll [] args [.list .int] = true := (pre_splitW hpre).1
  have hc : l.pre.holds [] { args := args } = true := (pre_splitW hpre).2
  obtain ⟨d, r, rfl, h1, h2⟩ := hasAllW_cons hsh
  obtain rfl := hasAllW_nil h2
  obtain ⟨xs, rfl, h3⟩ := hasW_list h1
  obtain ⟨ns, rfl⟩ := items_int h3
  have hlen : ns.length ≤ n := by
    unfold OpenLaw.pre at hc
    have h4 : (WTm.not (.lt (.lit (.int (n : Int))) (.len (.arg 0)))).holds [] { args := [.list (ns.map .int)] } = true := by
      have h4 := (holds_andW hc).1
      rw [hn] at h4
      exact h4
    have h5 := condW_of h4 (w_not (w_lt w_lit (w_len_list (w_arg rfl))))
    rw [List.length_map] at h5
    refine Nat.le_of_not_lt fun q => ?_
    have q' : (n : Int) < ((ns.length : Nat) : Int) := by omega
    first
      | (rw [decide_eq_true q'] at h5; exact absurd h5 (by decide))
      | (simp at h5; omega)
  cases hwl with
  | cons w1 w2 =>
    cases w2
    cases w1 with
    | list ho hall => exact ⟨_, _, ns, rfl, rfl, ho, ints_of_wellAll ns _ hall, hlen⟩
theorem post_true (l : OpenLaw) (args : List WData) : l.row.toRowW.claim.post args (.bool true) args = true :=
  postW_of (r := l.row.toRowW) (X := (true == true))
    (show WShape.has [] (.bool true) .bool = true by first | rfl | decide | simp [WShape.has, WShape.arms, WShape.armsAll])
    (show (WTm.eq .res (.lit (.bool true))).value [] { args := args, res := some (.bool true), after := args } = some (.bool (true == true)) from w_eq_bool (w_res rfl) w_lit) rfl
theorem attach_call {l : OpenLaw} {n : Nat} {q : Program} {loose : List Str} {XP : (Str → Option Value) → Heap → Prop} {YP : World → Heap → Prop} {d : DefRec}
    (hn : l.most = some n) (hdf : d.params.defaults = [])
    (call : ∀ (w : World) (s₀ s₁ : Shared) (mg mb : Str → Option Value) (fa : Addr) (o : Obj) (pm cd doc : Value) (a : Addr) (vs : List Value) (ns : List Int),
      Ground q loose [] XP w s₀ mg mb s₁.heap → YP w s₁.heap →
      s₁.heap.get? fa = some o → o.data = .func (docDef d.name d.params d.body d.scope pm cd doc) → s₁.heap.CodeRec cd d.name → mg d.name = some (.ref fa) →
      s₁.heap.get? a = some { cls := .type "list", data := .seq vs.toArray } → IntsAre vs ns → ns.length ≤ n → s₁.gens = #[] →
      codeAny (model l.prog w) callerA (.call (.ref fa) ⟨[.ref a], []⟩) (fun r s' => r = .ok (.ret (.bool true)) ∧ OldK s₁.heap s'.heap ∧ s'.os = s₁.os ∧ AllBare s'.gens) s₁) :
    WalkO q loose XP YP l.row.toRowW d [] (fun f vs => PySem.call f vs) := by
  intro w s₀ s₁ mg mb G Y fa o pm cd doc dV kV ho hd hcd hD hmg hg args vals as hpre hlay hrd hwl hlo
  obtain rfl : dV = .none := Dflts.none hD hdf
  obtain rfl : kV = .none := Dflts.noKw hD
  obtain ⟨a, vs, ns, rfl, rfl, hobj, hints, hlen⟩ := script_of hn hpre hwl
  refine enter_call (codeAny_mono (call w s₀ s₁ mg mb fa o pm cd doc a vs ns G Y ho (fd_plain hd) hcd hmg hobj hints hlen hg) fun r s' hq => ?_)
  obtain ⟨rfl, h2, h3, h4⟩ := hq
  exact ⟨.inl ⟨.bool true, .bool true, [], rfl, fun _ => rfl, .bool true, post_true l _, fun _ => ⟨List.Pairwise.nil, fun _ hm => (nomatch hm)⟩⟩, h2, h3, h4⟩
section
variable {prog : Program} {w : World} {A : Around} {E : Value → Shared → Prop} {s : Shared} {K : Frag}
end
end Att
namespace L2
open PySem PySem.Spec PyProof.Rows
theorem vals_ints : ∀ {vs : List Value} {ns : List Int}, IntsAre vs ns → Vals (ns.map V.int) vs
  | _, _, .nil => .nil
  | _, _, .cons n t h => .cons ⟨t, rfl⟩ (vals_ints h)
def Only (H : Hp) : Prop := ∀ b, H b = none ∨ ∃ o xs, H b = some (.frz o (.lst xs))
theorem law_call {P : Program} {w : World} {K : PySem.W.Frag} {mg mb : Str → Option Value} {CX : CXT} {k : Nat} {fa a : Addr} {fd : FuncData} {x : Str} {sp : Sp} {s₁ : Shared} {vs : List Value} {ns : List Int}
    (KX : K.In s₁.heap) (hns : s₁.heap.Ns mainGlobals mg) (hb : s₁.heap.Ns builtinsNs mb) (hbb : ∀ x : Str, x ≠ "__name__" → mb x = bootBuiltins x) (hlim : s₁.heap.NoLimit) (hg : s₁.gens = #[])
    (ha : s₁.heap.get? a = some { cls := .type "list", data := .seq vs.toArray }) (hi : IntsAre vs ns) (hl : ns.length ≤ sizeLine) (hr : Room k callerA)
    (F : ∀ base : Heap, K.In base → base.Ns mainGlobals mg → FnOk P w K mg base CX k fa fd [x] sp) (hbind : ∀ (s : Shared) (u : Value), BindsTo s fd ⟨[u], []⟩ [(x, u)])
    (hsp : ∀ H : Hp, Only H → SqL K H a (ns.map V.int) → sp [.ref a] H (fun v _ => v = .bl true) fun _ _ _ => False)
    (hCX : ∀ H e s', CX [] H s₁ (fun _ _ _ => False) e s' → False) :
    codeAny (model P w) callerA (.call (.ref fa) ⟨[.ref a], []⟩) (fun r s' => r = .ok (.ret (.bool true)) ∧ OldK s₁.heap s'.heap ∧ s'.os = s₁.os ∧ AllBare s'.gens) s₁ := by
  have rv := vals_ints hi
  have lenV := hi.length
  -- from an abstract heap in which nothing but the script may be tracked
  have core : ∀ H : Hp, Only H → SqL K H a (ns.map V.int) → HOk P w H s₁.heap → (∀ b, H b ≠ none → b = a) → (H a ≠ none → K.lookup a = none) →
      codeAny (model P w) callerA (.call (.ref fa) ⟨[.ref a], []⟩) (fun r s' => r = .ok (.ret (.bool true)) ∧ OldK s₁.heap s'.heap ∧ s'.os = s₁.os ∧ AllBare s'.gens) s₁ := by
    intro H hO hS hok hA hK
    have base_of : ∀ {b : Addr} {o : Obj}, s₁.heap.get? b = some o → H b = none → (hidT s₁.heap H).get? b = some o := fun e n => hidT_get e n
    have noA : ∀ {b : Addr} {o : Obj} {es : Array DictEntry} {ep : Nat}, s₁.heap.get? b = some o → o.data = .dict es ep → H b = none := fun {b o es ep} e d => by
      cases q : H b with
      | none => rfl
      | some u =>
        have e' : b = a := hA b (by rw [q]; simp)
        subst e'
        rw [ha] at e; cases e
        have d' : Data.seq vs.toArray _ = Data.dict es ep := d
        cases d'
    have nsK : ∀ {b : Addr} {m : Str → Option Value}, s₁.heap.Ns b m → (hidT s₁.heap H).Ns b m := fun {b m} ⟨o, es, ep, e, d, r⟩ => ⟨o, es, ep, base_of e (noA e d), d, r⟩
    have hKb : K.In (hidT s₁.heap H) := fun b o e => base_of (KX b o e) (by
      cases q : H b with
      | none => rfl
      | some u =>
        have e' : b = a := hA b (by rw [q]; simp)
        subst e'
        rw [hK (by rw [q]; simp)] at e; cases e)
    have hM : Mod K mg (hidT s₁.heap H) := ⟨hKb, nsK hns, ⟨mb, nsK hb, hbb⟩, let ⟨mc, h1, h2⟩ := hlim; ⟨mc, nsK h1, h2⟩⟩
    have e0 : Env0 P w K mg (hidT s₁.heap H) callerA [] s₁ H := ⟨rfl, hM, fun b o e => of_hidT e, Nat.le_of_eq (hidT_size _ _), trivial, fun b hb => absurd (show b ∈ ([] : List Addr) from hb) (by simp), hok, .of_eq hg⟩
    refine codeAny_mono ((F _ hKb (nsK hns)).run callerA [] s₁ H ⟨[.ref a], []⟩ [.ref a] [.ref a] _ _ hr e0 (hbind s₁ (.ref a)) (.cons rfl .nil) (hsp H hO hS)) fun r s' h => ?_
    cases r with
    | error e => exact (hCX H e s' h).elim
    | ok fl =>
      cases fl with
      | next => exact False.elim h
      | brk => exact False.elim h
      | cont => exact False.elim h
      | ret u =>
        obtain ⟨v, H', os, bare, un, hok', r', q⟩ := h
        have q' : v = .bl true := q
        subst q'
        obtain rfl : u = Value.bool true := r'
        refine ⟨rfl, OldK.of_keep fun b o e => ?_, os, bare⟩
        cases q : H b with
        | none => exact un.keep b o e q (by intro z; exact absurd (show b ∈ ([] : List Addr) from z) (by simp)) (by simp)
        | some u =>
          rcases hO b with z | ⟨ob, xs, z⟩
          · rw [q] at z; cases z
          · have z2 := un.frzs b ob _ z
            obtain ⟨e1, _⟩ := hok b _ z
            obtain ⟨e2, _⟩ := hok' b _ z2
            rw [e] at e1; cases e1
            exact e2
  cases hk : K.lookup a with
  | some o =>
    -- the script is one of the module's own objects
    have e := KX a o hk
    rw [ha] at e
    cases e
    refine core (fun _ => none) (fun _ => .inl rfl) (.inr ⟨_, vs.toArray, _, hk, rfl, rfl, rfl, by rw [List.size_toArray, lenV]; exact hl, by simpa using rv⟩) (fun b u z => by have z' : (none : Option HO) = some u := z; cases z') (fun b z => absurd rfl z) fun z => absurd rfl z
  | none =>
    refine core (fun b => if b = a then some (.frz { cls := .type "list", data := .seq vs.toArray } (.lst (ns.map V.int))) else none) (fun b => ?_) (.inl (.inr ⟨{ cls := .type "list", data := .seq vs.toArray }, if_pos rfl⟩)) (fun b u z => ?_) (fun b z => ?_) fun _ => hk
    · by_cases hb : b = a
      · exact .inr ⟨_, _, if_pos hb⟩
      · exact .inl (if_neg hb)
    · by_cases hb : b = a
      · have z' := (if_pos hb).symm.trans z
        cases z'
        subst hb
        exact ⟨ha, by rw [List.length_map]; exact hl, vs, _, rv, ha⟩
      · have z' := (if_neg hb).symm.trans z
        cases z'
    · by_cases hb : b = a
      · exact hb
      · exact absurd (if_neg hb) z
end L2
namespace L2
open PySem PySem.Spec PyProof.Rows
abbrev KOf {K : PySem.W.Frag} {h : Heap} (_ : K.In h) : PySem.W.Frag := K
theorem walk_of {l : PySem.W.OpenLaw} {n k : Nat} {q : Program} {loose : List Str} {XP : (Str → Option Value) → Heap → Prop} {YP : World → Heap → Prop} {d : DefRec} {K : Params → PySem.W.Frag} {CX : World → CXT} {sp : World → Sp} {x : Str}
    (hn : l.most = some n) (hn2 : n ≤ sizeLine) (hdf : d.params.defaults = []) (hr : Room k callerA)
    (hY : ∀ (w : World) (h : Heap), YP w h → (K w.params).In h)
    (F : ∀ (w : World) (mg : Str → Option Value) (fa : Addr) (h : Heap), (K w.params).In h → h.Ns mainGlobals mg → mg d.name = some (.ref fa) →
      ∃ fd : FuncData, (∀ (s : Shared) (u : Value), BindsTo s fd ⟨[u], []⟩ [(x, u)]) ∧
        ∀ base : Heap, (K w.params).In base → base.Ns mainGlobals mg → FnOk l.prog w (K w.params) mg base (CX w) k fa fd [x] (sp w))
    (hsp : ∀ (w : World) (H : Hp) (a : Addr) (ns : List Int), ns.length ≤ n → Only H → SqL (K w.params) H a (ns.map V.int) → sp w [.ref a] H (fun v _ => v = .bl true) fun _ _ _ => False)
    (hCX : ∀ (w : World) (H : Hp) (s : Shared) (e : Value) (s' : Shared), CX w [] H s (fun _ _ _ => False) e s' → False) :
    PySem.W.WalkO q loose XP YP l.row.toRowW d [] (fun f vs => PySem.call f vs) := by
  refine Att.attach_call hn hdf fun w s₀ s₁ mg mb fa o pm cd doc a vs ns G Y ho hd hcd hmg hobj hints hlen hg => ?_
  have KX := hY w _ Y
  obtain ⟨fd, hb, hF⟩ := F w mg fa _ KX G.T.g hmg
  exact law_call KX G.T.g G.T.b G.T.builtins G.T.nolimit hg hobj hints (Nat.le_trans hlen hn2) hr hF hb (fun H hO hS => hsp w H a ns hlen hO hS) fun H e s' => hCX w H s₁ e s'
end L2
namespace L2
open PySem PySem.Spec PyProof.Rows
def defArgs (s : Stmt) : Arguments := match s with
  | .FunctionDef _ a _ _ _ _ _ _ _ _ => a
  | _ => { posonlyargs := [], args := [], vararg := none, kwonlyargs := [], kw_defaults := [], kwarg := none, defaults := [] }
def defBody (s : Stmt) : List Stmt := match s with
  | .FunctionDef _ _ b _ _ _ _ _ _ _ => b
  | _ => []
def defScope (s : Stmt) : Scope := match s with
  | .FunctionDef _ _ _ _ _ _ sc _ _ _ => sc
  | _ => { kind := .function, names := [], isGenerator := false, isCoroutine := false }
abbrev CX0 : CXT := fun _ _ _ _ _ _ => False
abbrev E0 : XK := fun _ _ _ => False
theorem pass0 {X : Cx} : Passes CX0 X E0 := fun _ _ _ _ _ _ _ h => h.elim
structure Fun (K : PySem.W.Frag) (x qual : Str) (st : Stmt) (f : Addr) (fd : FuncData) : Prop where
  ex : ∃ (oc : Value) (od : Option Addr) (kV doc pm : Value) (an : Option Addr) (cdv ct : Value) (osl : Array (Option Value)),
    fd = PySem.W.fnOf x qual (defArgs st) (defBody st) (defScope st) .none kV doc pm an cdv ct ∧ K.lookup f = some ⟨oc, od, .func fd, osl⟩ ∧ PySem.W.codeIn K cdv qual = true
  kp : PySem.W.keepIn K (.ref f) = true
section
variable {P : Program} {w : World} {K : PySem.W.Frag} {mg : Str → Option Value} {base : Heap}
theorem Fun.ok {x qual : Str} {st : Stmt} {f : Addr} {fd : FuncData} {N ps : List Str} {k : Nat} {sp : Sp} (F : Fun K x qual st f fd) (S : FnScope N ps (defScope st)) (len : ∀ vs H Q E, sp vs H Q E → vs.length = ps.length)
    (hbody : ∀ (cdv : Value) (A : Around) (outer : List Env) (s : Shared) (H : Hp) (vs : List V) (Q : VK) (E : XK), Room k (A.deeper (envOfC qual (defScope st) s.heap.objs.size f cdv)) → sp vs H Q E →
      ∃ t, PSs (cxOf CX0 P w K mg base N qual (defScope st) f cdv A outer s H E).nox (defBody st) t ∧ t { nx := fun _ H' => Q .non H', rt := Q } (start N vs) H) : FnOk P w K mg base CX0 (k + 1) f fd ps sp := by
  obtain ⟨oc, od, kV, doc, pm, an, cdv, ct, osl, rfl, lk, hcd⟩ := F.ex
  refine fn_of lk hcd S len fun A outer s H vs Q E hr hsp => ?_
  obtain ⟨t, h, q⟩ := hbody cdv A outer s H vs Q E hr hsp
  exact ⟨t, h.nox, q⟩
theorem Fun.binds {x qual : Str} {st : Stmt} {f : Addr} {fd : FuncData} {ps : List Str} (F : Fun K x qual st f fd)
    (h : ∀ (kV doc pm : Value) (an : Option Addr) (cdv ct : Value) (us : List Value), us.length = ps.length → bindArgs (PySem.W.fnOf x qual (defArgs st) (defBody st) (defScope st) .none kV doc pm an cdv ct) ⟨us, []⟩ = pure (ps.zip us)) : Binds K fd ps [] := by
  obtain ⟨oc, od, kV, doc, pm, an, cdv, ct, osl, rfl, lk, hcd⟩ := F.ex
  exact .all (h kV doc pm an cdv ct)
theorem fun_mk {x qual : Str} {st : Stmt} {f : Addr} {oc : Value} {od an : Option Addr} {osl : Array (Option Value)} {kV doc pm cdv ct : Value} (l : K.lookup f = some ⟨oc, od, .func (PySem.W.fnOf x qual (defArgs st) (defBody st) (defScope st) .none kV doc pm an cdv ct), osl⟩)
    (c : PySem.W.codeIn K cdv qual = true) (k : PySem.W.keepIn K (.ref f) = true) : Fun K x qual st f (PySem.W.fnOf x qual (defArgs st) (defBody st) (defScope st) .none kV doc pm an cdv ct) := ⟨⟨oc, od, kV, doc, pm, an, cdv, ct, osl, rfl, l, c⟩, k⟩
end
section
variable {X : Cx}
theorem pv (i : Nat) {x : Str} {pos : Pos} (hN : X.N[i]? = some x := by rfl) (hv : Vis X.env.scope x := by first | exact Or.inl rfl | exact Or.inr (Or.inl rfl) | exact Or.inr (Or.inr rfl)) (hd : (x == ("__debug__" : Str)) = false := by decide)
    (hcd : (x == ("__classdict__" : Str)) = false := by decide) : PE X (.Name x pos) (tVar i) := pe_var hN hv hd hcd
end
def Same (H H' : Hp) : Prop := ∀ b o, H b = some o → H' b = some o
theorem Same.seq {K : PySem.W.Frag} {H H' : Hp} {a : Addr} {xs : List V} (e : Same H H') (h : SqL K H a xs) : SqL K H' a xs := by
  rcases h with (h | ⟨o, h⟩) | h
  · exact .inl (.inl (e _ _ h))
  · exact .inl (.inr ⟨o, e _ _ h⟩)
  · exact .inr h
end L2
namespace L2
open PySem PySem.Spec PyProof.Rows
section
variable {κ : Type} [DecidableEq κ]
def valV (kvs : List (κ × V)) (k : κ) : Option V := (kvs.find? fun kv => decide (kv.1 = k)).map (·.2)
def putK (kvs : List (κ × V)) (k : κ) (v : V) : List (κ × V) :=
  if (kvs.any fun kv => decide (kv.1 = k)) = true then kvs.map (fun kv => if kv.1 = k then (kv.1, v) else kv) else kvs ++ [(k, v)]
end
section
variable {P : Program} {w : World} {H : Hp} {h : Heap} {a : Addr}
end
def DGet (H : Hp) (a : Addr) (y : V) (r : Option V) : Prop :=
  (∃ kvs k, Rd H a (.dK kvs) ∧ y = kV k ∧ r = valV kvs k) ∨ ∃ kvs k b, Rd H a (.dT kvs) ∧ y = .ref b ∧ H b = some (.tup (k.map kV)) ∧ r = valV kvs k
def DPut (H : Hp) (a : Addr) (y v : V) (H' : Hp) : Prop :=
  (∃ kvs k, H a = some (.dK kvs) ∧ y = kV k ∧ kvs.length < sizeLine ∧ H' = upd H a (.dK (putK kvs k v))) ∨
  ∃ kvs k b, H a = some (.dT kvs) ∧ y = .ref b ∧ H b = some (.tup (k.map kV)) ∧ kvs.length < sizeLine ∧ H' = upd H a (.dT (putK kvs k v))
theorem DGet.k {H : Hp} {a : Addr} {kvs : List (Key × V)} {k : Key} (e : H a = some (.dK kvs)) : DGet H a (kV k) (valV kvs k) := .inl ⟨kvs, k, .inl e, rfl, rfl⟩
theorem DGet.t {H : Hp} {a b : Addr} {kvs : List (List Key × V)} {k : List Key} (e : H a = some (.dT kvs)) (eb : H b = some (.tup (k.map kV))) : DGet H a (.ref b) (valV kvs k) := .inr ⟨kvs, k, b, .inl e, rfl, eb, rfl⟩
theorem DPut.k {H : Hp} {a : Addr} {kvs : List (Key × V)} {k : Key} {v : V} (e : H a = some (.dK kvs)) (hl : kvs.length < sizeLine) : DPut H a (kV k) v (upd H a (.dK (putK kvs k v))) := .inl ⟨kvs, k, e, rfl, hl, rfl⟩
theorem DPut.t {H : Hp} {a b : Addr} {kvs : List (List Key × V)} {k : List Key} {v : V} (e : H a = some (.dT kvs)) (eb : H b = some (.tup (k.map kV))) (hl : kvs.length < sizeLine) :
    DPut H a (.ref b) v (upd H a (.dT (putK kvs k v))) := .inr ⟨kvs, k, b, e, rfl, eb, hl, rfl⟩
section
variable {X : Cx} {pins : List (Addr × Obj)} {σ : St} {H : Hp} {s : Shared} {a : Addr} {y v : V} {u r : Value} {o : Option V} {A : Around} {E : Value → Shared → Prop}
end
section
variable {X : Cx} {pins : List (Addr × Obj)} {σ : St} {H : Hp} {s : Shared} {a : Addr} {kvs : List (Key × V)} {k : Key} {u : Value} {A : Around} {E : Value → Shared → Prop}
end
section
variable {X : Cx} {o i e value : Expr} {pos pos' tpos : Pos} {td ty tv : TE}
end
section
variable {X : Cx} {pos : Pos}
end
section
variable {X : Cx} {pins : List (Addr × Obj)} {σ : St} {H : Hp} {s : Shared} {a : Addr} {y d : V} {u r : Value} {o : Option V} {A : Around} {E : Value → Shared → Prop}
end
section
variable {X : Cx} {o e f : Expr} {apos cpos : Pos} {td ty tx : TE}
end
section
variable {X : Cx} {pins : List (Addr × Obj)} {σ : St} {H : Hp} {s : Shared} {a : Addr} {kvs : List (Key × V)} {A : Around} {E : Value → Shared → Prop}
end
section
variable {X : Cx} {pins : List (Addr × Obj)} {σ : St} {H : Hp} {s : Shared} {a : Addr} {y : V} {u : Value} {A : Around} {E : Value → Shared → Prop}
end
end L2
namespace My
structure Bd (k : Nat) (x : Int) : Prop where
  lt : x.natAbs < 2 ^ k
theorem Bd.mono {j k : Nat} {x : Int} (h : Bd j x) (e : j ≤ k) : Bd k x := ⟨Nat.lt_of_lt_of_le h.lt (Nat.pow_le_pow_right (by decide) e)⟩
theorem Bd.mul {j k : Nat} {x y : Int} (h : Bd j x) (g : Bd k y) : Bd (j + k) (x * y) := by
  refine ⟨?_⟩
  rw [Int.natAbs_mul, Nat.pow_add]
  exact Nat.mul_lt_mul_of_lt_of_lt h.lt g.lt
theorem Bd.add {j k : Nat} {x y : Int} (h : Bd j x) (g : Bd k y) : Bd (max j k + 1) (x + y) := by
  have h' := (h.mono (Nat.le_max_left j k)).lt
  have g' := (g.mono (Nat.le_max_right j k)).lt
  refine ⟨?_⟩
  rw [Nat.pow_succ]
  omega
theorem Bd.neg {k : Nat} {x : Int} (h : Bd k x) : Bd k (-x) := ⟨by have := h.lt; omega⟩
theorem Bd.sub {j k : Nat} {x y : Int} (h : Bd j x) (g : Bd k y) : Bd (max j k + 1) (x - y) := by
  rw [Int.sub_eq_add_neg]; exact h.add g.neg
theorem Bd.log2 {k : Nat} {x : Int} (h : Bd k x) (hk : 0 < k) : x.natAbs.log2 < k := by
  have h := h.lt
  by_cases z : x.natAbs = 0
  · rw [z]; simpa using hk
  · exact (Nat.log2_lt z).mpr h
def sg (n d : Int) : Int := if d < 0 then -(Int.gcd n d : Int) else (Int.gcd n d : Int)
def nm (n d : Int) : Int := n.fdiv (sg n d)
def dn (n d : Int) : Int := d.fdiv (sg n d)
end My
namespace My
end My
namespace My
end My
namespace My
def m0 (a0 a1 a2 b0 b1 b2 c0 c1 c2 d0 d1 d2 : Int) : Int := (a2 * b0 - a0 * b2) * (c0 * d1 - c1 * d0) - (a0 * b1 - a1 * b0) * (c2 * d0 - c0 * d2)
def m1 (a0 a1 a2 b0 b1 b2 c0 c1 c2 d0 d1 d2 : Int) : Int := (a0 * b1 - a1 * b0) * (c1 * d2 - c2 * d1) - (a1 * b2 - a2 * b1) * (c0 * d1 - c1 * d0)
def m2 (a0 a1 a2 b0 b1 b2 c0 c1 c2 d0 d1 d2 : Int) : Int := (a1 * b2 - a2 * b1) * (c2 * d0 - c0 * d2) - (a2 * b0 - a0 * b2) * (c1 * d2 - c2 * d1)
section
variable (a0 a1 a2 b0 b1 b2 c0 c1 c2 d0 d1 d2 : Int)
def v0 : Int := d0 * (a2 * b2 * c2) - c0 * (a2 * b2 * d2)
def v1 : Int := d1 * (a2 * b2 * c2) - c1 * (a2 * b2 * d2)
def z1 : Int := c1 * (a2 * b2 * d2) - a1 * (b2 * c2 * d2)
end
section
variable {a0 a1 a2 b0 b1 b2 c0 c1 c2 d0 d1 d2 : Int}
end
end My
namespace L2
open PySem PySem.Spec PyProof.Rows
section
variable {X : Cx} {a b : Expr} {ta tb : TE} {pos : Pos}
theorem op_mulB : OpR X (binaryOp .Mult) (rI IntMulOk fun i j => .int (i * j)) := opI fun _ _ _ _ _ _ _ hc q => mul_int q hc
def CDivB (_i j : Int) : Prop := j ≠ 0 ∧ j.natAbs.log2 < 9000
theorem op_fdivB : OpR X (binaryOp .FloorDiv) (rI CDivB fun i j => .int (i.fdiv j)) := opI fun _ _ _ _ _ _ _ hc q => floordiv_int hc.1 q (.inl (PyProof.noPylong_of_log2 hc.2))
end
section
variable {X : Cx} {K : PySem.W.Frag}
end
theorem get_new {H : Hp} {p q : Addr} {x z : HO} (h : H p = some x) (hq : H q = none) : upd H q z p = some x := by
  rw [upd_ne (ne_of_none h hq)]; exact h
theorem same_new {H : Hp} {q : Addr} {z : HO} (hq : H q = none) : Same H (upd H q z) := fun _ _ h => get_new h hq
section
variable {P : Program} {w : World} {K : PySem.W.Frag} {mg : Str → Option Value} {base : Heap}
end
end L2
namespace My
open PySem PyProof.Rows
theorem bits_le {k : Nat} {x : Int} (h : Bd k x) : PySem.Builtin.Int.intBits x ≤ k := by
  unfold PySem.Builtin.Int.intBits
  split
  · exact Nat.zero_le _
  · rename_i z
    have z' : x.natAbs ≠ 0 := by
      intro e
      apply z
      have : x = 0 := by omega
      rw [this]; rfl
    have := (Nat.log2_lt z').mpr h.lt
    omega
theorem mulOk {x y : Int} {j k : Nat} (hx : Bd j x) (hy : Bd k y) (h : (decide (j ≤ 100000) && decide (k ≤ 100000)) = true) : PySem.IntMulOk x y := by
  rw [Bool.and_eq_true, decide_eq_true_eq, decide_eq_true_eq] at h
  have e : (2 : Nat) ^ 20 = 1048576 := by decide
  exact PySem.IntMulOk.of_bits (by have := bits_le hx; omega) (by have := bits_le hy; omega)
theorem mulOkL {x y : Int} (h1 : -(2 ^ 64) < x) (h2 : x < 2 ^ 64) : PySem.IntMulOk x y := PySem.IntMulOk.of_left (PySem.intBits_le_64 h1 h2)
theorem mulOkR {x y : Int} (h1 : -(2 ^ 64) < y) (h2 : y < 2 ^ 64) : PySem.IntMulOk x y := PySem.IntMulOk.of_right (PySem.intBits_le_64 h1 h2)
end My
namespace L2
open PySem PySem.Spec PyProof.Rows
theorem bt_abs : bootBuiltins "abs" = some (.builtin "abs") := by decide +kernel
theorem bt_len : bootBuiltins "len" = some (.builtin "len") := by decide +kernel
theorem bt_isinstance : bootBuiltins "isinstance" = some (.builtin "isinstance") := by decide +kernel
theorem bt_int : bootBuiltins "int" = some (.type "int") := by decide +kernel
def Pl (H : Hp) (p : Addr) : Prop := ∃ a b : Int, H p = some (.lst [.int a, .int b]) ∧ 0 ≤ a ∧ 0 ≤ b
theorem Pl.new {H : Hp} {p : Addr} {a b : Int} (h1 : 0 ≤ a) (h2 : 0 ≤ b) : Pl (upd H p (.lst [.int a, .int b])) p := ⟨a, b, upd_same, h1, h2⟩
theorem divB {i j : Int} {k : Nat} (h0 : j ≠ 0) (h : My.Bd k j) (hk : (decide (0 < k) && decide (k ≤ 9000)) = true) : CDivB i j := by
  rw [Bool.and_eq_true, decide_eq_true_eq, decide_eq_true_eq] at hk
  exact ⟨h0, Nat.lt_of_lt_of_le (My.Bd.log2 h hk.1) hk.2⟩
end L2
namespace L2
open PySem PySem.Spec PyProof.Rows
def closOf (cells : List (Str × Addr)) : List (Str × NameKind) → List (Str × Addr) → List (Str × Addr)
  | [], cs => cs
  | (n, k) :: r, cs => closOf cells r (if k == .free then (match cells.lookup n with | some a => (n, a) :: cs | none => cs) else cs)
theorem clos_forIn {env : Env} : ∀ (names : List (Str × NameKind)) (cs : List (Str × Addr)), (∀ y ∈ names, y.2 = .free → ∃ c, env.cells.lookup y.1 = some c) →
    (forIn names cs (fun (x : Str × NameKind) (r : List (Str × Addr)) => (do
      if x.2 == .free then
        let a ← cellOf env x.1
        pure (ForInStep.yield ((x.1, a) :: r))
      else pure (ForInStep.yield r) : Sem (ForInStep (List (Str × Addr)))))) = (pure (closOf env.cells names cs) : Sem _)
  | [], cs, _ => rfl
  | (n, k) :: r, cs, h => by
    rw [List.forIn_cons]
    have hr : ∀ y ∈ r, y.2 = .free → ∃ c, env.cells.lookup y.1 = some c := fun y hy => h y (List.mem_cons_of_mem _ hy)
    by_cases hk : k = .free
    · subst hk
      obtain ⟨c, hc⟩ := h (n, .free) List.mem_cons_self rfl
      have hc' : env.cells.lookup n = some c := hc
      simp only [beq_self_eq_true, if_true, cellOf, hc', pure_bind, closOf]
      exact clos_forIn r _ hr
    · have hb : (k == NameKind.free) = false := by simpa using hk
      simp only [hb, Bool.false_eq_true, if_false, pure_bind, closOf]
      exact clos_forIn r _ hr
theorem closureFor_of {scope : Scope} {env : Env} (h : ∀ y ∈ scope.names, y.2 = .free → ∃ c, env.cells.lookup y.1 = some c) : closureFor scope env = pure (closOf env.cells scope.names []) := by
  have e := clos_forIn (env := env) scope.names [] h
  unfold closureFor
  simp only [bind_pure_comp] at e ⊢
  first
    | (simpa using e)
    | (rw [← e]; rfl)
theorem closOf_sub {cells : List (Str × Addr)} {x : Str} {c : Addr} : ∀ {names : List (Str × NameKind)} {cs : List (Str × Addr)}, (closOf cells names cs).lookup x = some c → (∀ c', cs.lookup x = some c' → cells.lookup x = some c') → cells.lookup x = some c
  | [], cs, h, hc => hc c h
  | (n, k) :: r, cs, h, hc => by
    refine closOf_sub (names := r) h fun c' hc' => ?_
    by_cases hk : (k == NameKind.free) = true
    · rw [if_pos hk] at hc'
      cases e : cells.lookup n with
      | none => rw [e] at hc'; exact hc c' hc'
      | some a =>
        rw [e] at hc'
        by_cases hx : x = n
        · subst hx
          simp only [List.lookup_cons, beq_self_eq_true] at hc'
          rw [e]; exact hc'
        · have hb : (x == n) = false := beq_eq_false_iff_ne.mpr hx
          simp only [List.lookup_cons, hb] at hc'
          exact hc c' hc'
    · rw [if_neg hk] at hc'
      exact hc c' hc'
theorem closOf_mono {cells : List (Str × Addr)} {x : Str} : ∀ {names : List (Str × NameKind)} {cs : List (Str × Addr)}, (∃ c, cs.lookup x = some c) → ∃ c, (closOf cells names cs).lookup x = some c
  | [], _, h => h
  | (n, k) :: r, cs, h => by
    refine closOf_mono (names := r) ?_
    split
    · split
      · rename_i a _
        by_cases hx : x = n
        · subst hx; exact ⟨a, by simp⟩
        · have hb : (x == n) = false := beq_eq_false_iff_ne.mpr hx
          simpa [List.lookup_cons, hb] using h
      · exact h
    · exact h
theorem closOf_has {cells : List (Str × Addr)} {x : Str} : ∀ {names : List (Str × NameKind)} {cs : List (Str × Addr)}, (x, NameKind.free) ∈ names → (∃ c, cells.lookup x = some c) → ∃ c, (closOf cells names cs).lookup x = some c
  | [], _, h, _ => nomatch h
  | (n, k) :: r, cs, h, hc => by
    rcases List.mem_cons.mp h with e | h
    · cases e
      refine closOf_mono (names := r) ?_
      obtain ⟨c, hc⟩ := hc
      rw [if_pos (by rfl), hc]
      exact ⟨c, by simp⟩
    · exact closOf_has (names := r) h hc
theorem compLoop_own {prog : Program} {w : World} {A : Around} {R : Result → Shared → Prop} {s : Shared} {elt target iter : Expr} {ifs : List Expr} {scope : Scope} {pos : Pos} {it acc : Value} {env : Env} (I : Nat → Shared → Prop)
    (turn : ∀ n s, I n s → wpAny (model prog w) A (pyNext it) (fun r s₁ => match r with
      | none => R (.ok .next) s₁
      | some v => wpAny (model prog w) A (letOwnedTupleGo target it v) (fun _ s₀ => wpAny (model prog w) A (assign target env v) (fun _ s₂ =>
          wpAny (model prog w) A (forIn ifs true fun c r => if r = true then do let ok ← isTrue c env (eval c env); pure (ForInStep.yield ok) else pure (ForInStep.yield r)) (fun ok s₃ =>
            if ok = true then wpAny (model prog w) A (eval elt env) (fun x s₄ =>
              wpAny (model prog w) A (call (.builtin "list.append") [acc, x]) (fun _ s₅ => ∃ m, m < n ∧ I m s₅) (fun _ _ => False) s₄) (fun _ _ => False) s₃
            else ∃ m, m < n ∧ I m s₃) (fun _ _ => False) s₂) (fun _ _ => False) s₀) (fun _ _ => False) s₁) (fun _ _ => False) s)
    (n : Nat) (h : I n s) :
    codeAny (model prog w) A (.compLoop (.ListComp elt [⟨target, iter, ifs, 0⟩] scope pos) 0 it acc env) R s := by
  refine codeAny_loop rfl I (fun n s hI => ?_) n h
  show wpAny _ A ((compTurn (.ListComp elt [⟨target, iter, ifs, 0⟩] scope pos) 0 it acc env).onRaise (fun x => do noteFrame x env; theTreesLotGoes x)) _ _ s
  refine wpAny_noted ?_
  rw [compTurn_list]
  refine wpAny_bind (wpAny_standAt (wpAny_bind (wpAny_mono (turn n s hI) (fun r s₁ h₁ => ?_) fun _ _ h' => h'.elim)))
  cases r with
  | none => exact wpAny_pure h₁
  | some v =>
    refine wpAny_bind (wpAny_mono h₁ (fun _ s₀ h₀ => ?_) fun _ _ h' => h'.elim)
    refine wpAny_bind (wpAny_mono h₀ (fun _ s₂ h₂ => wpAny_bind (wpAny_mono h₂ (fun ok s₃ h₃ => ?_) fun _ _ h' => h'.elim)) fun _ _ h' => h'.elim)
    cases ok with
    | false => exact wpAny_pure ⟨rfl, h₃⟩
    | true =>
      exact wpAny_bind (wpAny_bind (wpAny_mono h₃ (fun x s₄ h₄ => wpAny_bind (wpAny_mono h₄ (fun _ s₅ h₅ => wpAny_pure (wpAny_pure ⟨rfl, h₅⟩)) fun _ _ h' => h'.elim)) fun _ _ h' => h'.elim))
abbrev Cx.blk (X : Cx) (scope : Scope) (C : Addr) (N' : List Str) (s₀ : Shared) (H₀ : Hp) (fp : List Addr) : Cx :=
  { X with N := N', s₀ := s₀, H₀ := H₀, env := compEnvC scope (closOf X.env.cells scope.names []) C X.env, outer := X.stack, ex := fp, fn := fun _ => false, pn := [], xe := fun _ _ => False }
def tau (σ : St) (cap : List (Option Nat)) : St := cap.map fun o => match o with
  | some i => (match σ[i]? with | some v => v | none => none)
  | none => none
structure BlkOk (X : Cx) (scope : Scope) (N' : List Str) (cap : List (Option Nat)) : Prop where
  kind : scope.kind = .function
  ncell : ∀ y ∈ scope.names, y.2 ≠ .cell
  names : ∀ y ∈ scope.names, y.2 = .local → scope.names.lookup y.1 = some .local
  frees : ∀ y ∈ scope.names, y.2 = .free → X.env.kindOf y.1 = some .cell ∨ X.env.kindOf y.1 = some .free
  len : cap.length = N'.length
  caps : ∀ (j i : Nat) (x : Str), cap[j]? = some (some i) → N'[j]? = some x → X.N[i]? = some x ∧ (x, NameKind.free) ∈ scope.names
  vis : ∀ (j i : Nat) (x : Str), cap[j]? = some (some i) → N'[j]? = some x → Vis X.env.scope x
  un : ∀ (j i : Nat) (x : Str), cap[j]? = some (some i) → N'[j]? = some x → ∀ z ∈ scope.names, z.1 = x → z.2 = .free
def capOk (sc scope : Scope) (NN : List Str) : List Str → List (Option Nat) → Bool
  | [], [] => true
  | _ :: N, none :: c => capOk sc scope NN N c
  | x :: N, some i :: c => decide (NN[i]? = some x) && decide ((x, NameKind.free) ∈ scope.names) && (decide (sc.names.lookup x = some .local) || decide (sc.names.lookup x = some .cell) || decide (sc.names.lookup x = some .free)) && decide (∀ z ∈ scope.names, z.1 = x → z.2 = .free) && capOk sc scope NN N c
  | _, _ => false
theorem capOk_len {sc scope : Scope} {NN : List Str} : ∀ {N' : List Str} {cap : List (Option Nat)}, capOk sc scope NN N' cap = true → cap.length = N'.length
  | [], [], _ => rfl
  | _ :: _, none :: _, h => congrArg (· + 1) (capOk_len (by simpa only [capOk] using h))
  | _ :: _, some _ :: _, h => congrArg (· + 1) (capOk_len (by simp only [capOk, Bool.and_eq_true] at h; exact h.2))
  | [], _ :: _, h => by simp [capOk] at h
  | _ :: _, [], h => by simp [capOk] at h
theorem capOk_at {sc scope : Scope} {NN : List Str} : ∀ {N' : List Str} {cap : List (Option Nat)}, capOk sc scope NN N' cap = true → ∀ (j i : Nat) (x : Str), cap[j]? = some (some i) → N'[j]? = some x →
    NN[i]? = some x ∧ (x, NameKind.free) ∈ scope.names ∧ Vis sc x ∧ ∀ z ∈ scope.names, z.1 = x → z.2 = .free
  | [], [], _, j, i, x, e, _ => by simp at e
  | _ :: _, none :: _, h, 0, i, x, e, _ => by simp at e
  | _ :: _, none :: _, h, j + 1, i, x, e, e' => capOk_at (by simpa only [capOk] using h) j i x (by simpa using e) (by simpa using e')
  | y :: _, some k :: _, h, 0, i, x, e, e' => by
    simp only [List.getElem?_cons_zero, Option.some.injEq] at e e'
    subst e e'
    simp only [capOk, Bool.and_eq_true, Bool.or_eq_true, decide_eq_true_eq] at h
    obtain ⟨⟨⟨⟨h1, h2⟩, h3⟩, h4⟩, _⟩ := h
    refine ⟨h1, h2, ?_, h4⟩
    rcases h3 with (h3 | h3) | h3
    · exact .inl h3
    · exact .inr (.inl h3)
    · exact .inr (.inr h3)
  | _ :: _, some _ :: _, h, j + 1, i, x, e, e' => capOk_at (by simp only [capOk, Bool.and_eq_true] at h; exact h.2) j i x (by simpa using e) (by simpa using e')
  | [], _ :: _, h, _, _, _, _, _ => by simp [capOk] at h
  | _ :: _, [], h, _, _, _, _, _ => by simp [capOk] at h
theorem blk_mk {X : Cx} {sc scope : Scope} {NN N' : List Str} {cap : List (Option Nat)} (e : X.env.scope = sc) (eN : X.N = NN) (h1 : scope.kind = .function) (h2 : ∀ y ∈ scope.names, y.2 ≠ .cell) (h3 : ∀ y ∈ scope.names, y.2 = .local → scope.names.lookup y.1 = some .local)
    (h4 : ∀ y ∈ scope.names, y.2 = .free → sc.names.lookup y.1 = some .cell ∨ sc.names.lookup y.1 = some .free) (h5 : capOk sc scope NN N' cap = true) : BlkOk X scope N' cap := by
  subst e eN
  exact ⟨h1, h2, h3, h4, capOk_len h5, fun j i x a b => ⟨(capOk_at h5 j i x a b).1, (capOk_at h5 j i x a b).2.1⟩, fun j i x a b => (capOk_at h5 j i x a b).2.2.1, fun j i x a b => (capOk_at h5 j i x a b).2.2.2⟩
def tComp (wi : TI) (cap : List (Option Nat)) (g : TG) (tt : TT) (te : TE) : TE := fun σ H Q => wi σ H fun J H1 => ∀ l, H1 l = none →
  ∃ W : Nat → Nat → St → Hp → Prop, (∃ m, W 0 m (tau σ cap) (upd H1 l (.lst []))) ∧ ∀ i m τ H2, W i m τ H2 →
    (J.stop i H2 ∧ Q (.ref l) H2) ∨ (J.go i H2 ∧ ∃ N : St → Hp → Prop, (∀ τ' H', N τ' H' → ∃ m', m' < m ∧ W (i + 1) m' τ' H') ∧
      ∀ x H', J.yld i H2 x H' → g x τ H' fun τ2 H3 => tt τ2 H3 fun b H4 => if b = true then te τ2 H4 fun y H5 => ∃ ys, H5 l = some (.lst ys) ∧ ys.length < sizeLine ∧ N τ2 (upd H5 l (.lst (ys ++ [y]))) else N τ2 H4)
def tYes : TT := fun _ H Q => Q true H
namespace Zu
set_option allowUnsafeReducibility true in
@[scoped irreducible] def _root_.L2.PIfs (X : Cx) (ifs : List Expr) (t : TT) : Prop :=
  ∀ (pins : List (Addr × Obj)) (s : Shared) (σ : St) (H : Hp) (Q : Bool → Hp → Prop), Inv X pins σ H s → t σ H Q →
    wpAny (model X.prog X.w) X.A (forIn ifs true fun c r => if r = true then do let ok ← isTrue c X.env (eval c X.env); pure (ForInStep.yield ok) else pure (ForInStep.yield r)) (TP X pins σ Q) X.xe s
end Zu
theorem ifs_none {X : Cx} : PIfs X [] tYes := fun _ _ _ H _ I h => wpAny_tests_nil ⟨H, I, h⟩
theorem ifs_one {X : Cx} {c : Expr} {t : TT} (h : PT X c t) : PIfs X [c] t := fun pins s σ H Q I q => wpAny_tests_one (h pins s σ H Q I q)
section
variable {X : Cx} {pos : Pos} {elt iter tg : Expr} {ifs : List Expr} {scope : Scope} {N' : List Str} {cap : List (Option Nat)} {wi : TI} {g : TG} {tt : TT} {te : TE}
theorem relabel_free {X : Cx} : ∀ {names : List (Str × NameKind)} {y : Str} {k : NameKind}, (names.map fun (n, k) => if (k == NameKind.free && X.env.scope.kind == .function && X.env.kindOf n == some .cell) then (n, NameKind.cell) else (n, k)).lookup y = some k →
    (k = .cell ∨ k = .free) → (∀ z ∈ names, z.2 ≠ .cell) → (y, NameKind.free) ∈ names
  | [], _, _, h, _, _ => by simp at h
  | (n, k0) :: r, y, k, h, hk, hc => by
    have hcr : ∀ z ∈ r, z.2 ≠ .cell := fun z hz => hc z (List.mem_cons_of_mem _ hz)
    have h0 : k0 ≠ .cell := hc (n, k0) List.mem_cons_self
    rw [List.map_cons] at h
    dsimp only at h
    by_cases hy : y = n
    · subst hy
      have : k0 = .free := by
        by_cases hf : k0 = .free
        · exact hf
        · exfalso
          have hb : (k0 == NameKind.free) = false := by simpa using hf
          simp only [hb, Bool.false_and, Bool.false_eq_true, if_false, List.lookup_cons, beq_self_eq_true] at h
          cases h
          rcases hk with e | e
          · exact h0 e
          · exact hf e
      subst this
      exact List.mem_cons_self
    · have hb : (y == n) = false := beq_eq_false_iff_ne.mpr hy
      have h' : (r.map fun (n, k) => if (k == NameKind.free && X.env.scope.kind == .function && X.env.kindOf n == some .cell) then (n, NameKind.cell) else (n, k)).lookup y = some k := by
        split at h <;> simpa only [List.lookup_cons, hb] using h
      exact List.mem_cons_of_mem _ (relabel_free (X := X) h' hk hcr)
theorem relabel_kind {X : Cx} : ∀ {names : List (Str × NameKind)} {y : Str}, (y, NameKind.free) ∈ names → (∀ z ∈ names, z.1 = y → z.2 = .free) → ∃ k, (k = NameKind.cell ∨ k = .free) ∧
    (names.map fun (n, k) => if (k == NameKind.free && X.env.scope.kind == .function && X.env.kindOf n == some .cell) then (n, NameKind.cell) else (n, k)).lookup y = some k
  | [], _, h, _ => nomatch h
  | (n, k0) :: r, y, h, hu => by
    rw [List.map_cons]
    dsimp only
    by_cases hy : y = n
    · subst hy
      have : k0 = .free := hu (y, k0) List.mem_cons_self rfl
      subst this
      split
      · exact ⟨.cell, .inl rfl, by simp⟩
      · exact ⟨.free, .inr rfl, by simp⟩
    · have hb : (y == n) = false := beq_eq_false_iff_ne.mpr hy
      have hm : (y, NameKind.free) ∈ r := by
        rcases List.mem_cons.mp h with e | h
        · cases e; exact absurd rfl hy
        · exact h
      obtain ⟨k, hk, e⟩ := relabel_kind (X := X) hm fun z hz => hu z (List.mem_cons_of_mem _ hz)
      refine ⟨k, hk, ?_⟩
      split <;> simpa only [List.lookup_cons, hb] using e
theorem inv_blk {pins : List (Addr × Obj)} {σ : St} {H : Hp} {s : Shared} {fp : List Addr} {h1 : Heap} {m : Str → Option Value} {t' : Nat} (B : BlkOk X scope N' cap)
    (I : Inv X pins σ H s) (hf : ∀ b ∈ fp, FpOk X pins H b) (ho : ∀ b ∈ fp, ∃ o, s.heap.get? b = some o) (keep : ∀ b o, s.heap.get? b = some o → h1.get? b = some o) (hns : h1.Ns s.heap.objs.size m) :
    Inv (X.blk scope s.heap.objs.size N' s H fp) [] (tau σ cap) H { s with heap := h1, toks := t' } := by
  have I1 : Inv X pins σ H { s with heap := h1, toks := t' } := I.kept keep
  have csub : ∀ y c, (closOf X.env.cells scope.names []).lookup y = some c → X.env.cells.lookup y = some c := fun y c h => closOf_sub h fun c' hc' => by simp at hc'
  refine ⟨⟨I.ok.mod, B.kind, I.ok.glob, I.ok.blt, Nat.le_refl _, fun y z c e1 e2 => I.ok.inj y z c (csub y c e1) (csub z c e2), fun y hy => ?_, fun y c e _ => absurd e (by simp), I.ok.hd, I.ok.frames, .inl rfl, fun b hb => ⟨?_, fun y c e => (hf b hb).2.2.2.2.1 y c (csub y c e)⟩, fun b o e => I.bs b o e, Nat.le_trans I.ok.bsz I.sz, fun b o e hb => ?_, fun b hb hs => ?_, I.stack, I.stkFree⟩,
    rfl, I.bare, Un.kept keep, ⟨m, hns, fun j y v e1 e2 e3 => ?_⟩, fun y c e => I1.cell y c (csub y c e), I.hok.fresh (Nat.le_refl _), fun y c e => I.freeC y c (csub y c e), fun p hp => absurd hp (by simp), I1.hok, ?_⟩
  · -- has
    have hy' : (y, NameKind.free) ∈ scope.names := by
      rcases hy with hy | hy
      · exact relabel_free (X := X) (k := .cell) hy (.inl rfl) B.ncell
      · exact relabel_free (X := X) (k := .free) hy (.inr rfl) B.ncell
    exact closOf_has hy' (I.ok.has y (B.frees (y, .free) hy' rfl))
  · -- fp below the block's frame
    obtain ⟨o, e⟩ := ho b hb
    exact Nat.ne_of_lt (Heap.lt_size e)
  · -- base
    rcases (hf b hb).2.2.2.1 with z | z
    · exact I.ok.noex b o e z
    · exact absurd (Nat.lt_of_lt_of_le (Heap.lt_size e) (Nat.le_trans I.ok.bsz z)) (Nat.lt_irrefl _)
  · -- frames
    rcases List.mem_cons.mp (I.stkSub b hs) with z | z
    · exact (hf b hb).2.1 z
    · exact (hf b hb).2.2.1 z
  · -- captured values
    have hc : ∃ i, cap[j]? = some (some i) ∧ σ[i]? = some (some v) := by
      unfold tau at e2
      rw [List.getElem?_map] at e2
      cases e : cap[j]? with
      | none => rw [e] at e2; cases e2
      | some o =>
        rw [e] at e2
        cases o with
        | none => simp at e2
        | some i =>
          refine ⟨i, rfl, ?_⟩
          simp only [Option.map_some, Option.some.injEq] at e2
          cases q : σ[i]? with
          | none => rw [q] at e2; cases e2
          | some w =>
            rw [q] at e2
            have e2' : w = some v := e2
            rw [e2']
    obtain ⟨i, hi, hv⟩ := hc
    obtain ⟨hN, hfree⟩ := B.caps j i y hi e1
    obtain ⟨m1, _, hl⟩ := I1.loc
    obtain ⟨u, r, l⟩ := hl i y v hN hv (B.vis j i y hi e1)
    refine ⟨u, r, .inr ?_⟩
    obtain ⟨k, hk, ek⟩ := relabel_kind (X := X) hfree (B.un j i y hi e1)
    have hcell : ∃ c, X.env.cells.lookup y = some c ∧ h1.IsCell c (some u) := by
      rcases l with ⟨k1, _⟩ | ⟨_, c, e, z⟩
      · rcases B.frees (y, .free) hfree rfl with q | q
        · rw [show X.env.kindOf y = some NameKind.local from k1] at q; cases q
        · rw [show X.env.kindOf y = some NameKind.local from k1] at q; cases q
      · exact ⟨c, e, z⟩
    obtain ⟨c, ec, zc⟩ := hcell
    obtain ⟨c', ec'⟩ := closOf_has (cs := []) hfree ⟨c, ec⟩
    have : c' = c := by have := csub y c' ec'; rw [ec] at this; cases this; rfl
    subst this
    refine ⟨?_, c', ec', zc⟩
    rcases hk with rfl | rfl
    · exact .inl ek
    · exact .inr ek
  · show (tau σ cap).length = N'.length
    unfold tau
    rw [List.length_map]; exact B.len
theorem comp_core {RR : Value → Addr → Result → Shared → Prop} {pins : List (Addr × Obj)} {σ : St} {H2 : Hp} {s2 : Shared} {it : Addr} {fp : List Addr} {tn : Nat → Heap → Prop} {J : It} {Q : VK} (B : BlkOk X scope N' cap) (hc : X.calm = true)
    (hg : ∀ C s₀ H₀ fp, PG (X.blk scope C N' s₀ H₀ fp) tg g) (ht : ∀ C s₀ H₀ fp, PIfs (X.blk scope C N' s₀ H₀ fp) ifs tt) (he : ∀ C s₀ H₀ fp, PE (X.blk scope C N' s₀ H₀ fp) elt te)
    (I2 : Inv X pins σ H2 s2) (T : Turn X.prog X.w X.K tg J fp it tn) (st2 : tn 0 s2.heap) (f2 : ∀ b ∈ fp, FpOk X pins H2 b)
    (hcont : ∀ l, H2 l = none → ∃ W : Nat → Nat → St → Hp → Prop, (∃ m, W 0 m (tau σ cap) (upd H2 l (.lst []))) ∧ ∀ i m τ H2, W i m τ H2 →
      (J.stop i H2 ∧ Q (.ref l) H2) ∨ (J.go i H2 ∧ ∃ N : St → Hp → Prop, (∀ τ' H', N τ' H' → ∃ m', m' < m ∧ W (i + 1) m' τ' H') ∧
        ∀ x H', J.yld i H2 x H' → g x τ H' fun τ2 H3 => tt τ2 H3 fun b H4 => if b = true then te τ2 H4 fun y H5 => ∃ ys, H5 l = some (.lst ys) ∧ ys.length < sizeLine ∧ N τ2 (upd H5 l (.lst (ys ++ [y]))) else N τ2 H4))
    (fin : ∀ (D C : Addr) (o : Obj) (m : Str → Option Value) (H5 : Hp) (s5 : Shared), Inv X pins σ H5 s5 → FpOk X pins H5 C → s5.heap.get? C = some o → (∀ v, o.data ≠ .cell v) → s5.heap.Ns C m → Q (.ref D) H5 → RR (.ref D) C (.ok .next) s5) :
    wpAny (model X.prog X.w) X.A (newList []) (fun acc s₃ => wpAny (model X.prog X.w) X.A (newFunctionEnv scope X.env.globals (closOf X.env.cells scope.names []) [] X.env.qual none .none (some X.env)) (fun cenv s₄ =>
      codeAny (model X.prog X.w) X.A (.compStart (.ListComp elt [⟨tg, iter, ifs, 0⟩] scope pos) 0 (.ref it) acc { cenv with scope := relabel scope X.env }) (RR acc cenv.locals) s₄) X.xe s₃) X.xe s2 := by
  refine wpAny_newObj_type (wpAny_newFunctionEnv B.ncell (by intro y hy; simp at hy) (fun h₁ hns₁ hsb₁ => ?_) B.kind)
  dsimp only at hns₁ hsb₁ ⊢
  have I3 : Inv X pins σ (upd H2 s2.heap.objs.size (.lst [])) { s2 with heap := s2.heap.push { cls := .type "list", dict := none, data := .seq ([] : List Value).toArray } } := I2.lnew (t' := s2.toks) (its := []) (ys := []) .nil (Nat.zero_le _)
  have hD : H2 s2.heap.objs.size = none := I2.fresh
  have hfpD : ∀ b ∈ fp, b ≠ s2.heap.objs.size := fun b hb => by
    obtain ⟨o, e, _⟩ := T.obj 0 _ st2 b hb
    exact Nat.ne_of_lt (Heap.lt_size e)
  have f3 : ∀ b ∈ fp, FpOk X pins (upd H2 s2.heap.objs.size (.lst [])) b := fun b hb => ⟨by rw [upd_ne (hfpD b hb)]; exact (f2 b hb).1, (f2 b hb).2⟩
  obtain ⟨W, ⟨m0, w0⟩, turn⟩ := hcont s2.heap.objs.size hD
  generalize hs3 : ({ s2 with heap := s2.heap.push { cls := .type "list", dict := none, data := .seq ([] : List Value).toArray } } : Shared) = s3 at I3
  have hh3 : s3.heap = s2.heap.push { cls := .type "list", dict := none, data := .seq ([] : List Value).toArray } := by rw [← hs3]
  have keep : ∀ b o, s3.heap.get? b = some o → h₁.get? b = some o := fun b o e => by
    have hlt := Heap.lt_size e
    rw [hh3] at e hlt
    exact hsb₁.extBut b o (Nat.ne_of_lt hlt) (Heap.get?_push_of_some _ e)
  have ho3 : ∀ b ∈ fp, ∃ o, s3.heap.get? b = some o := fun b hb => by
    obtain ⟨o, e, _⟩ := T.obj 0 _ st2 b hb
    exact ⟨o, by rw [hh3]; exact Heap.get?_push_of_some _ e⟩
  have hsz3 : s3.heap.objs.size = (s2.heap.push { cls := .type "list", dict := none, data := .seq ([] : List Value).toArray }).objs.size := by rw [hh3]
  rw [← hsz3] at hns₁ ⊢
  have J0 : Inv (X.blk scope s3.heap.objs.size N' s3 (upd H2 s2.heap.objs.size (.lst [])) fp) [] (tau σ cap) (upd H2 s2.heap.objs.size (.lst [])) { s3 with heap := h₁, toks := s3.toks } := inv_blk (t' := s3.toks) B I3 f3 ho3 keep hns₁
  have tn0 : tn 0 h₁ := T.keep 0 s2.heap h₁ st2 fun b hb o e => keep b o (by rw [hh3]; exact Heap.get?_push_of_some _ e)
  have es : ({ s2 with heap := h₁, toks := s2.toks + ([] : List (Str × Value)).length } : Shared) = { s3 with heap := h₁, toks := s3.toks } := by
    rw [← hs3]; rfl
  have keep5 : ∀ {s5 : Shared} {H5 : Hp} {τ5 : St}, Inv (X.blk scope s3.heap.objs.size N' s3 (upd H2 s2.heap.objs.size (.lst [])) fp) [] τ5 H5 s5 → Inv X pins σ H5 s5 := fun {s5 H5 τ5} J5 =>
    I3.call' (ch := fp) J5.os J5.base J5.hok J5.bare fun b hb => ⟨(f3 b hb).2.2.2.1, (f3 b hb).2.1, (f3 b hb).2.2.2.2.1, (f3 b hb).2.2.2.2.2⟩
  have fok : ∀ {H' : Hp}, (∀ b ∈ fp, H' b = none) → ∀ b ∈ fp, FpOk (X.blk scope s3.heap.objs.size N' s3 (upd H2 s2.heap.objs.size (.lst [])) fp) [] H' b := fun {H'} hn b hb =>
    ⟨hn b hb, (J0.ok.exf b hb).1, J0.ok.exfs b hb, .inl hb, (J0.ok.exf b hb).2, fun p hp => absurd hp (by simp)⟩
  have loop : codeAny (model X.prog X.w) X.A (.compLoop (.ListComp elt [⟨tg, iter, ifs, 0⟩] scope pos) 0 (.ref it) (.ref s2.heap.objs.size) (compEnvC scope (closOf X.env.cells scope.names []) s3.heap.objs.size X.env))
      (RR (.ref s2.heap.objs.size) s3.heap.objs.size) { s3 with heap := h₁, toks := s3.toks } := by
    refine compLoop_own (fun n s' => ∃ i τ H', Inv (X.blk scope s3.heap.objs.size N' s3 (upd H2 s2.heap.objs.size (.lst [])) fp) [] τ H' s' ∧ tn i s'.heap ∧ (∀ b ∈ fp, H' b = none) ∧ W i n τ H') ?_ m0 ⟨0, _, _, J0, tn0, fun b hb => (f3 b hb).1, w0⟩
    rintro n s4 ⟨i, τ, H4, J4, st4, fr4, w4⟩
    rcases turn i n τ H4 w4 with ⟨stop, q⟩ | ⟨go, N, hN, step⟩
    · refine wpAny_mono (T.done (X.blk scope s3.heap.objs.size N' s3 (upd H2 s2.heap.objs.size (.lst [])) fp) rfl rfl rfl hc i [] s4 τ H4 (fun _ _ => False) J4 (fok fr4) st4 stop) (fun r s5 ⟨hr, J5⟩ => ?_) (fun _ _ f => f)
      subst hr
      obtain ⟨m5, hn5, _⟩ := J5.loc
      have I5 : Inv X pins σ H4 s5 := keep5 J5
      obtain ⟨o5, es5, ep5, ho5, hd5, _⟩ := id hn5
      refine fin _ _ o5 m5 H4 s5 I5 ⟨J5.free, fun e => ?_, I3.nofs (Nat.le_refl _), .inr I3.sz, fun y c e z => ?_, fun p hp z => ?_⟩ ho5 (fun v e => ?_) hn5 q
      · have := I3.lt
        rw [← e] at this
        exact Nat.lt_irrefl _ this
      · obtain ⟨v, o, hoc, _⟩ := I3.cell y c e
        have := Heap.lt_size hoc
        rw [z] at this
        exact Nat.lt_irrefl _ this
      · have := Heap.lt_size (I3.pin p hp).1
        rw [z] at this
        exact Nat.lt_irrefl _ this
      · rw [hd5] at e; cases e
    · refine wpAny_mono (T.item (X.blk scope s3.heap.objs.size N' s3 (upd H2 s2.heap.objs.size (.lst [])) fp) rfl rfl rfl hc i [] s4 τ H4 (fun _ _ => False) J4 (fok fr4) st4 go) (fun r s5 ⟨u, hr, h5⟩ => ?_) (fun _ _ f => f)
      subst hr
      refine wpAny_mono h5 (fun _ s6 ⟨xv, H6, J6, r6, y6, st6, fr6⟩ => ?_) (fun _ _ f => f)
      have J6' := J6.pinned (fok fr6) (T.obj _ _ st6)
      have again : ∀ {s7 : Shared} {τ7 : St} {H7 : Hp}, Inv (X.blk scope s3.heap.objs.size N' s3 (upd H2 s2.heap.objs.size (.lst [])) fp) ([] ++ pinsAt fp s6.heap) τ7 H7 s7 → N τ7 H7 → ∃ m, m < n ∧ ∃ i τ H', Inv (X.blk scope s3.heap.objs.size N' s3 (upd H2 s2.heap.objs.size (.lst [])) fp) [] τ H' s7 ∧ tn i s7.heap ∧ (∀ b ∈ fp, H' b = none) ∧ W i m τ H' := fun {s7 τ7 H7} J7 n7 => by
        obtain ⟨m', hm, w7⟩ := hN τ7 H7 n7
        refine ⟨m', hm, i + 1, τ7, H7, J7.unpinned, T.keep _ _ _ st6 fun b hb o e => (J7.pin (b, o) (List.mem_append_right _ (List.mem_append_right _ (mem_pinsAt hb e)))).1, fun b hb => ?_, w7⟩
        obtain ⟨o, e, d⟩ := T.obj _ _ st6 b hb
        exact (J7.pin (b, o) (List.mem_append_right _ (List.mem_append_right _ (mem_pinsAt hb e)))).2.1
      refine wpAny_mono (hg s3.heap.objs.size s3 (upd H2 s2.heap.objs.size (.lst [])) fp _ s6 τ H6 xv u _ J6' r6 (step xv H6 y6)) (fun _ s7 ⟨τ7, H7, J7, q7⟩ => ?_) (fun _ _ f => f)
      refine wpAny_mono (ht s3.heap.objs.size s3 (upd H2 s2.heap.objs.size (.lst [])) fp _ s7 τ7 H7 _ J7 q7) (fun ok s8 ⟨H8, J8, q8⟩ => ?_) (fun _ _ f => f)
      cases ok with
      | false =>
        rw [if_neg (by decide)] at q8 ⊢
        exact again J8 q8
      | true =>
        rw [if_pos rfl] at q8 ⊢
        refine wpAny_mono (he s3.heap.objs.size s3 (upd H2 s2.heap.objs.size (.lst [])) fp _ s8 τ7 H8 _ J8 q8) (fun yv s9 ⟨y, H9, J9, r9, q9⟩ => ?_) (fun _ _ f => f)
        obtain ⟨ys, hl, hz, n9⟩ := q9
        exact wpAny_mono (mt_append (X := X.blk scope s3.heap.objs.size N' s3 (upd H2 s2.heap.objs.size (.lst [])) fp) _ s9 τ7 H9 (.ref s2.heap.objs.size) [y] (.ref s2.heap.objs.size) [yv] (fun _ H' => N τ7 H') J9 rfl (.cons r9 .nil) ⟨_, ys, y, rfl, rfl, hl, hz, n9⟩) (fun _ s10 ⟨_, H10, J10, _, n10⟩ => again J10 n10) (fun _ _ f => f)
  rw [es]
  exact codeAny_compStart_list loop (T.self _ 0 _ _ _ tn0 loop)
theorem pe_comp (B : BlkOk X scope N' cap) (hc : X.calm = true)
    (hi : PI X tg iter wi) (hg : ∀ C s₀ H₀ fp, PG (X.blk scope C N' s₀ H₀ fp) tg g) (ht : ∀ C s₀ H₀ fp, PIfs (X.blk scope C N' s₀ H₀ fp) ifs tt) (he : ∀ C s₀ H₀ fp, PE (X.blk scope C N' s₀ H₀ fp) elt te)
    (hs : ∀ x, foldedSetIterable iter X.env x = pure x := by intro _; rfl) :
    PE X (.ListComp elt [⟨tg, iter, ifs, 0⟩] scope pos) (tComp wi cap g tt te) := by
  intro pins s σ H Q I h
  rw [eval_ListComp]
  refine wpAny_comprehension_free (use := none) rfl hs (closureFor_of fun y hy hf => I.ok.has y.1 (B.frees y hy hf)) B.kind B.names ?_
  refine thn (hi pins s σ H _ I h) fun v s1 h1 => thn h1 fun itv s2 h2 => ?_
  obtain ⟨it, fp, tn, J, H2, e, I2, T, st2, f2, hcont⟩ := h2
  subst e
  refine comp_core (RR := fun acc C => compPost (model X.prog X.w) X.A X.xe none (EP X pins σ Q) acc C) B hc hg ht he I2 T st2 f2 hcont fun D C o m H5 s5 I5 f5 ho hd hn q => ?_
  refine ⟨m, hn, fun h' hs' => ?_⟩
  exact ⟨.ref D, H5, I5.turned (t' := s5.toks) (it := C) (fun b o hb e => hs'.extBut b o hb e) f5.1 (fun e => f5.2.1 e) f5.2.2.2.1 f5.2.2.2.2.1 f5.2.2.2.2.2, rfl, q⟩
end
end L2
namespace L2
open PySem PySem.Spec PyProof.Rows
end L2
namespace L2
open PySem PySem.Spec PyProof.Rows
end L2
namespace L2
open PySem PySem.Spec PyProof.Rows
mutual
inductive RdV (K : PySem.W.Frag) (H : Hp) : V → PyData → Prop
  | non : RdV K H .non .none
  | bl (b : Bool) : RdV K H (.bl b) (.bool b)
  | int (i : Int) : RdV K H (.int i) (.int i)
  | str (x : Str) : RdV K H (.str x) (.str x)
  | tup {p : Addr} {xs : List V} {ds : List PyData} : SqT K H p xs → RdA K H xs ds → RdV K H (.ref p) (.tuple ds)
  | lst {p : Addr} {xs : List V} {ds : List PyData} : SqL K H p xs → RdA K H xs ds → RdV K H (.ref p) (.list ds)
inductive RdA (K : PySem.W.Frag) (H : Hp) : List V → List PyData → Prop
  | nil : RdA K H [] []
  | cons {x : V} {xs : List V} {d : PyData} {ds : List PyData} : RdV K H x d → RdA K H xs ds → RdA K H (x :: xs) (d :: ds)
end
section
variable {X : Cx} {pins : List (Addr × Obj)} {σ : St} {H : Hp} {s : Shared}
mutual
theorem RdV.reads (I : Inv X pins σ H s) : ∀ {x : V} {d : PyData}, RdV X.K H x d → ∀ {v : Value}, RelV x v → ∃ as, Reads s.heap v d as
  | _, _, .non, v, r => by cases (show v = Value.none from r); exact ⟨_, .none⟩
  | _, _, .bl b, v, r => by cases (show v = Value.bool b from r); exact ⟨_, .bool b⟩
  | _, _, .int i, v, r => by
    obtain ⟨t, e⟩ := (show ∃ t, v = Value.int i t from r)
    cases e
    exact ⟨_, .int i t⟩
  | _, _, .str x, v, r => by
    obtain ⟨t, e⟩ := (show ∃ t, v = Value.str x t from r)
    cases e
    exact ⟨_, .str x t⟩
  | _, _, .tup (p := p) h a, v, r => by
    cases (show v = Value.ref p from r)
    obtain ⟨its, hv, ⟨o, ho, hc, n, hd⟩, _⟩ := I.tuple h
    obtain ⟨as, ra⟩ := RdA.reads I a hv
    exact ⟨as, .tuple ho hc hd (by simpa using ra)⟩
  | _, _, .lst (p := p) h a, v, r => by
    cases (show v = Value.ref p from r)
    obtain ⟨its, hv, pl, _⟩ := I.list h
    obtain ⟨o, ho, hc, n, hd⟩ := pl.isList
    obtain ⟨as, ra⟩ := RdA.reads I a hv
    exact ⟨_, .list ho hc hd (by simpa using ra)⟩
theorem RdA.reads (I : Inv X pins σ H s) : ∀ {xs : List V} {ds : List PyData}, RdA X.K H xs ds → ∀ {us : List Value}, Vals xs us → ∃ as, ReadsAll s.heap us ds as
  | _, _, .nil, _, .nil => ⟨_, .nil⟩
  | _, _, .cons h a, _, .cons r t => by
    obtain ⟨as, ra⟩ := RdV.reads I h r
    obtain ⟨bs, rb⟩ := RdA.reads I a t
    exact ⟨_, .cons ra rb⟩
end
end
def rEqD (K : PySem.W.Frag) (neg : Bool) : R2 := fun x y H Q => ∃ d e, RdV K H x d ∧ RdV K H y e ∧ SeqAt.shaped d = true ∧ SeqAt.shaped e = true ∧ Q (.bl (if neg then !PyData.eqv d e else PyData.eqv d e)) H
section
variable {X : Cx}
theorem op_eqD (hu : X.A.units + 64 < cLine) : OpR X (compareOp .Eq) (rEqD X.K false) := by
  intro pins s σ H x y v u Q I rx ry h
  obtain ⟨d, e, h1, h2, s1, s2, q⟩ := h
  obtain ⟨as, ra⟩ := h1.reads I rx
  obtain ⟨bs, rb⟩ := h2.reads I ry
  exact eq_dataH ra rb s1 s2 hu ⟨.bl (PyData.eqv d e), H, I, rfl, q⟩
theorem op_neD (hu : X.A.units + 64 < cLine) : OpR X (compareOp .NotEq) (rEqD X.K true) := by
  intro pins s σ H x y v u Q I rx ry h
  obtain ⟨d, e, h1, h2, s1, s2, q⟩ := h
  obtain ⟨as, ra⟩ := h1.reads I rx
  obtain ⟨bs, rb⟩ := h2.reads I ry
  exact ne_dataH ra rb s1 s2 hu ⟨.bl (!PyData.eqv d e), H, I, rfl, q⟩
end
section
variable {X : Cx}
end
end L2
namespace L2
open PySem PySem.W PySem.Spec
abbrev vE : List Value := [.type "ValueError", .type "Exception", .type "BaseException", .type "object"]
structure XK0 (K : Frag) (C S : Addr) (cd : ClassData) : Prop where
  cls : clsIn K C = some cd
  mro : cd.mro = .ref C :: .ref S :: vE
  dct : cd.hasDict = true
  ty : typeIn K (.ref C) = some (.type "type")
  sa : findIn K (.ref C) "__setattr__" = some (some (.builtin "object.__setattr__"))
  ga : findIn K (.ref C) "__getattribute__" = some (some (.builtin "BaseException.__getattribute__"))
  gt : findIn K (.ref C) "__getattr__" = some none
  cl : findIn K (.ref C) "__class__" = some (some (.builtin "object.__class__"))
def xm (a : Addr) (o : Obj) : HO := .ext fun h => h.get? a = some o
def xh (a : Addr) (o : Obj) : HO := .frz o (xm a o)
abbrev xo (C : Addr) (d : Option Addr) (vs : Array Value) (sl : Array (Option Value)) : Obj := ⟨.ref C, d, .fields vs, sl⟩
def XDct (H : Hp) : Option Addr → Option Obj → Prop
  | some dx, some od => H dx = some (xh dx od)
  | none, none => True
  | _, _ => False
structure XObj (K : Frag) (H : Hp) (a C S : Addr) (vs : List (Key × V)) : Prop where
  ex : ∃ (cd : ClassData) (d : Option Addr) (vs0 : Array Value) (sl : Array (Option Value)) (odo : Option Obj), XK0 K C S cd ∧ H a = some (xh a (xo C d vs0 sl)) ∧ XDct H d odo ∧
    ∀ (f : Str) (v : V), (Sum.inr f, v) ∈ vs → findIn K (.ref C) f = some none ∧ ∃ od u, odo = some od ∧ lookIn f od = some (some u) ∧ RelV v u
theorem XObj.up {K : Frag} {H H' : Hp} {a C S : Addr} {vs : List (Key × V)} (h : XObj K H a C S vs) (fz : ∀ p o x, H p = some (.frz o x) → H' p = some (.frz o x)) : XObj K H' a C S vs := by
  obtain ⟨cd, d, vs0, sl, odo, h1, h2, h3, h4⟩ := h.ex
  refine ⟨cd, d, vs0, sl, odo, h1, fz _ _ _ h2, ?_, h4⟩
  cases d with
  | none =>
    cases odo with
    | none => exact True.intro
    | some od => exact h3
  | some dx =>
    cases odo with
    | none => exact h3
    | some od => exact fz _ _ _ h3
end L2
namespace Qm
open PySem
noncomputable section
inductive D where
  | non | bl (b : Bool) | int (i : Int) | str (x : Str) | tup (xs : List D) | ref (n : Nat) | ty (n : String) | adr (a : Nat)
inductive Cell where
  | lst (xs : List D)
  | ro (xs : List D)
  | dct (ps : List (Str × D))
  | dro (ps : List (Str × D))
  | dt1 (ps : List (List Int × D))
  | dt2 (ps : List (List (List Int) × D))
  | dt2r (ps : List (List (List Int) × D))
  | exc (C S : Nat) (fs : List (Str × D))
def Cell.mt : Cell → Bool
  | .ro _ => false
  | .dro _ => false
  | .dt2r _ => false
  | .exc _ _ _ => false
  | _ => true
abbrev Cells := List Cell
abbrev Env := List (Option D)
abbrev XE := Env → Cells → Option (D × Cells)
abbrev XA := Env → Cells → Option (List D × Cells)
abbrev XT := Env → Cells → Option (Bool × Cells)
abbrev XO := Env → Cells → Option (Option Int × Cells)
inductive Fl where
  | nx | rt (d : D) | bk | ct
abbrev XS := Env → Cells → Option (Fl × Env × Cells)
abbrev XG := D → Env → Cells → Option (Env × Cells)
abbrev XGs := List D → Env → Cells → Option (Env × Cells)
abbrev FN := List D → Cells → Option (D × Cells)
structure Itm where
  ds : List D
  ks : List (Nat × Cell)
abbrev XI := Env → Cells → Option (Itm × Cells)
abbrev G1 := D → Cells → Option (D × Cells)
abbrev G2 := D → D → Cells → Option (D × Cells)
def LINE : Nat := Classical.choose (⟨10000000, rfl⟩ : ∃ n : Nat, n = 10000000)
theorem LINE_eq : LINE = 10000000 := Classical.choose_spec (⟨10000000, rfl⟩ : ∃ n : Nat, n = 10000000)
def eC (d : D) : XE := fun _ c => some (d, c)
def eV (i : Nat) : XE := fun σ c => (σ[i]?.join).bind fun d => some (d, c)
def e1 (g : G1) (a : XE) : XE := fun σ c => (a σ c).bind fun p => g p.1 p.2
def e2 (g : G2) (a b : XE) : XE := fun σ c => (a σ c).bind fun p => (b σ p.2).bind fun q => g p.1 q.1 q.2
def asB (d : D) : Option Bool := match d with
  | .bl b => some b
  | _ => none
def eAnd (a b : XE) : XE := fun σ c => (a σ c).bind fun p => (asB p.1).bind fun k => if k = true then b σ p.2 else some (.bl false, p.2)
def eOr (a b : XE) : XE := fun σ c => (a σ c).bind fun p => (asB p.1).bind fun k => if k = true then some (.bl true, p.2) else b σ p.2
def eNot (a : XE) : XE := fun σ c => (a σ c).bind fun p => (asB p.1).bind fun k => some (.bl (!k), p.2)
def eIf (t : XT) (a b : XE) : XE := fun σ c => (t σ c).bind fun p => if p.1 = true then a σ p.2 else b σ p.2
def aNil : XA := fun _ c => some ([], c)
def aCons (a : XE) (r : XA) : XA := fun σ c => (a σ c).bind fun p => (r σ p.2).bind fun q => some (p.1 :: q.1, q.2)
def eTup (a : XA) : XE := fun σ c => (a σ c).bind fun p => if p.1.length ≤ LINE then some (.tup p.1, p.2) else none
def eLst (a : XA) : XE := fun σ c => (a σ c).bind fun p => if p.1.length ≤ LINE then some (.ref p.2.length, p.2 ++ [.lst p.1]) else none
def eCall (F : FN) (ds : List D) (a : XA) : XE := fun σ c => (a σ c).bind fun p => F (p.1 ++ ds) p.2
def eB (F : FN) (a : XA) : XE := fun σ c => (a σ c).bind fun p => F p.1 p.2
def oNone : XO := fun _ c => some (none, c)
def oSome (a : XE) : XO := fun σ c => (a σ c).bind fun p => match p.1 with
  | .int i => some (some i, p.2)
  | _ => none
def eSl (g : D → Option Int → Option Int → Cells → Option (D × Cells)) (a : XE) (lo hi : XO) : XE := fun σ c => (a σ c).bind fun p => (lo σ p.2).bind fun l => (hi σ l.2).bind fun h => g p.1 l.1 h.1 h.2
def eChain (g h : G2) (a b d : XE) : XE := fun σ c => (a σ c).bind fun p => (b σ p.2).bind fun q => (g p.1 q.1 q.2).bind fun z => (asB z.1).bind fun k =>
  if k = true then (d σ z.2).bind fun u => h q.1 u.1 u.2 else some (.bl false, z.2)
def tV (a : XE) : XT := fun σ c => (a σ c).bind fun p => (asB p.1).bind fun k => some (k, p.2)
def tAnd (a b : XT) : XT := fun σ c => (a σ c).bind fun p => if p.1 = true then b σ p.2 else some (false, p.2)
def tOr (a b : XT) : XT := fun σ c => (a σ c).bind fun p => if p.1 = true then some (true, p.2) else b σ p.2
def tNot (a : XT) : XT := fun σ c => (a σ c).bind fun p => some (!p.1, p.2)
def sNil : XS := fun σ c => some (.nx, σ, c)
def sSeq (a b : XS) : XS := fun σ c => (a σ c).bind fun p => match p.1 with
  | .nx => b p.2.1 p.2.2
  | _ => some p
def sSet (i : Nat) (e : XE) : XS := fun σ c => (e σ c).bind fun p => some (.nx, σ.set i (some p.1), p.2)
def sAsg (e : XE) (g : XG) : XS := fun σ c => (e σ c).bind fun p => (g p.1 σ p.2).bind fun q => some (.nx, q.1, q.2)
def sPar (is : List Nat) (a : XA) : XS := fun σ c => (a σ c).bind fun p => if p.1.length = is.length then some (.nx, (is.zip p.1).foldl (fun σ q => σ.set q.1 (some q.2)) σ, p.2) else none
def sIf (t : XT) (a b : XS) : XS := fun σ c => (t σ c).bind fun p => if p.1 = true then a σ p.2 else b σ p.2
def sRet (e : XE) : XS := fun σ c => (e σ c).bind fun p => some (.rt p.1, σ, p.2)
def sExpr (e : XE) : XS := fun σ c => (e σ c).bind fun p => some (.nx, σ, p.2)
def gName (i : Nat) : XG := fun d σ c => some (σ.set i (some d), c)
def gNil : XGs := fun ds σ c => match ds with
  | [] => some (σ, c)
  | _ => none
def gCons (g : XG) (r : XGs) : XGs := fun ds σ c => match ds with
  | d :: t => (g d σ c).bind fun p => r t p.1 p.2
  | [] => none
def gTup (n : Nat) (g : XGs) : XG := fun d σ c => match d with
  | .tup xs => if xs.length = n then g xs σ c else none
  | _ => none
def stays (ks : List (Nat × Cell)) (c : Cells) : Prop := ∀ p ∈ ks, c[p.1]? = some p.2
open Classical in
def forGo (ks : List (Nat × Cell)) (g : XG) (body : XS) : List D → XS
  | [], σ, c => if stays ks c then some (.nx, σ, c) else none
  | d :: r, σ, c => if stays ks c then (g d σ c).bind fun p => (body p.1 p.2).bind fun q => (match q.1 with
      | .nx => forGo ks g body r q.2.1 q.2.2
      | .ct => forGo ks g body r q.2.1 q.2.2
      | .bk => some (.nx, q.2.1, q.2.2)
      | .rt d => some (.rt d, q.2.1, q.2.2)) else none
def sFor (it : XI) (g : XG) (body : XS) : XS := fun σ c => (it σ c).bind fun p => forGo p.1.ks g body p.1.ds σ p.2
def capt (σ : Env) (cap : List (Option Nat)) : Env := cap.map fun o => match o with
  | some i => (match σ[i]? with | some v => v | none => none)
  | none => none
open Classical in
def compGo (L : Nat) (ks : List (Nat × Cell)) (g : XG) (tt : XT) (te : XE) : List D → Env → Cells → Option Cells
  | [], _, c => if stays ks c then some c else none
  | d :: r, τ, c => if stays ks c then (g d τ c).bind fun p => (tt p.1 p.2).bind fun b => if b.1 = true then (te p.1 b.2).bind fun y =>
      (match y.2[L]? with
        | some (.lst ys) => if ys.length < LINE then compGo L ks g tt te r p.1 (y.2.set L (.lst (ys ++ [y.1]))) else none
        | _ => none) else compGo L ks g tt te r p.1 b.2 else none
def eComp (it : XI) (cap : List (Option Nat)) (g : XG) (tt : XT) (te : XE) : XE := fun σ c => (it σ c).bind fun p =>
  (compGo p.2.length p.1.ks g tt te p.1.ds (capt σ cap) (p.2 ++ [.lst []])).bind fun c' => some (.ref p.2.length, c')
def tYes : XT := fun _ c => some (true, c)
def mkF (n N : Nat) (b : XS) : FN := fun ds c => if ds.length = n then (b (ds.map some ++ List.replicate (N - n) none) c).bind fun p => (match p.1 with
  | .rt d => some (d, p.2.2)
  | .nx => some (.non, p.2.2)
  | _ => none) else none
def seqOf (d : D) (c : Cells) : Option (List D) := match d with
  | .tup xs => some xs
  | .ref n => (match c[n]? with
    | some (.lst xs) => some xs
    | some (.ro xs) => some xs
    | _ => none)
  | _ => none
def lstOf (d : D) (c : Cells) : Option (Nat × List D) := match d with
  | .ref n => (match c[n]? with
    | some (.lst xs) => some (n, xs)
    | _ => none)
  | _ => none
def asI (d : D) : Option Int := match d with
  | .int i => some i
  | _ => none
def ii (f : Int → Int → Option D) : G2 := fun x y c => (asI x).bind fun i => (asI y).bind fun j => (f i j).bind fun d => some (d, c)
def MulOk (i j : Int) : Prop := (My.Bd 90000 i ∧ My.Bd 90000 j) ∨ (My.Bd 64 i ∨ My.Bd 64 j)
open Classical in
def gMul : G2 := ii fun i j => if MulOk i j then some (.int (i * j)) else none
def gSub : G2 := ii fun i j => some (.int (i - j))
open Classical in
def gFdiv : G2 := ii fun i j => if j ≠ 0 ∧ My.Bd 8900 j then some (.int (i.fdiv j)) else none
def gMod : G2 := ii fun i j => if j ≠ 0 then some (.int (i.fmod j)) else none
def gLt : G2 := ii fun i j => some (.bl (decide (i < j)))
def gLe : G2 := ii fun i j => some (.bl (decide (i ≤ j)))
def gGt : G2 := ii fun i j => some (.bl (decide (j < i)))
def gGe : G2 := ii fun i j => some (.bl (decide (j ≤ i)))
def gAdd : G2 := fun x y c => match x, y with
  | .int i, .int j => some (.int (i + j), c)
  | .tup xs, .tup ys => if xs ≠ [] ∧ xs.length + ys.length ≤ LINE then some (.tup (xs ++ ys), c) else none
  | x, y => (lstOf x c).bind fun p => (lstOf y c).bind fun q => if p.2.length + q.2.length ≤ LINE then some (.ref c.length, c ++ [.lst (p.2 ++ q.2)]) else none
def gNeg : G1 := fun x c => (asI x).bind fun i => some (.int (-i), c)
def omap {α β : Type} (f : α → Option β) : List α → Option (List β)
  | [] => some []
  | x :: xs => (f x).bind fun d => (omap f xs).bind fun ds => some (d :: ds)
def data (c : Cells) : Nat → D → Option PyData
  | 0, _ => none
  | k + 1, d => match d with
    | .non => some .none
    | .int i => some (.int i)
    | .str x => if x.cps.all (· < 1114112) = true then some (.str x) else none
    | .tup xs => (omap (data c k) xs).bind fun ds => some (.tuple ds)
    | .ref n => (match c[n]? with
      | some (.lst xs) => (omap (data c k) xs).bind fun ds => some (.list ds)
      | some (.ro xs) => (omap (data c k) xs).bind fun ds => some (.list ds)
      | _ => none)
    | _ => none
open Classical in
def eqM (x y : D) (c : Cells) : Option Bool := match x, y with
  | .bl a, .bl b => some (a == b)
  | x, y => (data c 6 x).bind fun d => (data c 6 y).bind fun e => some (decide (d = e))
def gEq : G2 := fun x y c => (eqM x y c).bind fun b => some (.bl b, c)
def gNe : G2 := fun x y c => (eqM x y c).bind fun b => some (.bl (!b), c)
def ixD (n : Nat) (i : Int) : Option Nat := if 0 ≤ i then (if i < n then some i.toNat else none) else if -(n : Int) ≤ i then some (i + n).toNat else none
def atD {α : Type} (xs : List α) (i : Int) : Option α := (ixD xs.length i).bind fun j => xs[j]?
def gIx : G2 := fun x y c => (seqOf x c).bind fun xs => (asI y).bind fun i => (atD xs i).bind fun d => some (d, c)
def gPut (o i : XE) : XG := fun d σ c => (o σ c).bind fun p => (i σ p.2).bind fun q => (lstOf p.1 q.2).bind fun l => (asI q.1).bind fun k => (ixD l.2.length k).bind fun j => some (σ, q.2.set l.1 (.lst (l.2.set j d)))
def one (g : G1) : FN := fun ds c => match ds with
  | [x] => g x c
  | _ => none
def two (g : G2) : FN := fun ds c => match ds with
  | [x, y] => g x y c
  | _ => none
def bAbs : FN := one fun x c => (asI x).bind fun i => some (.int (if i < 0 then -i else i), c)
def bLen : FN := one fun x c => (seqOf x c).bind fun xs => some (.int xs.length, c)
def bInt : FN := one fun x c => match x with
  | .int i => some (.int i, c)
  | .bl k => some (.int (if k then 1 else 0), c)
  | _ => none
def bMax2 : FN := two (ii fun i j => some (.int (if j > i then j else i)))
def bMin2 : FN := two (ii fun i j => some (.int (if j < i then j else i)))
def zipD (xs ys : List D) : List D := (xs.zip ys).map fun p => .tup [p.1, p.2]
def eM (g : D → FN) (o : XE) (a : XA) : XE := fun σ c => (o σ c).bind fun p => (lstOf p.1 p.2).bind fun _ => (a σ p.2).bind fun q => g p.1 q.1 q.2
def rng (lo : Int) (n : Nat) : List D := (List.range n).map fun (i : Nat) => .int (lo + i)
structure Rin (j : Int) : Prop where
  lo : -(2 ^ 62) ≤ j
  hi : j < 2 ^ 62
open Classical in
def iRng1 (a : XA) : XI := fun σ c => (a σ c).bind fun p => match p.1 with
  | [.int j] => if Rin j then some (⟨rng 0 j.toNat, []⟩, p.2) else none
  | _ => none
end
end Qm
namespace L2
open PySem PySem.Spec PyProof.Rows
theorem bnd {α β : Type} {x : Option α} {f : α → Option β} {z : β} (h : x.bind f = some z) : ∃ a, x = some a ∧ f a = some z := by
  cases x with
  | none => cases h
  | some a => exact ⟨a, rfl, h⟩
theorem line_le {n : Nat} (h : n ≤ Qm.LINE) : n ≤ sizeLine := Nat.le_trans h (by rw [Qm.LINE_eq, sizeLine_eq]; decide)
theorem line_lt {n : Nat} (h : n < Qm.LINE) : n < sizeLine := Nat.lt_of_lt_of_le h (by rw [Qm.LINE_eq, sizeLine_eq]; decide)
mutual
inductive RD (K : PySem.W.Frag) (ρ : Nat → Addr) (N : Nat) (H : Hp) : Qm.D → V → Prop
  | non : RD K ρ N H .non .non
  | bl (b : Bool) : RD K ρ N H (.bl b) (.bl b)
  | int (i : Int) : RD K ρ N H (.int i) (.int i)
  | str (x : Str) : RD K ρ N H (.str x) (.str x)
  | ty (n : String) : RD K ρ N H (.ty n) (.ty n)
  | tup {p : Addr} {xs : List V} {ds : List Qm.D} : H p = some (.tup xs) → RA K ρ N H ds xs → RD K ρ N H (.tup ds) (.ref p)
  | ref {n : Nat} : n < N → RD K ρ N H (.ref n) (.ref (ρ n))
  | adr (a : Nat) : RD K ρ N H (.adr a) (.ref a)
inductive RA (K : PySem.W.Frag) (ρ : Nat → Addr) (N : Nat) (H : Hp) : List Qm.D → List V → Prop
  | nil : RA K ρ N H [] []
  | cons {d : Qm.D} {ds : List Qm.D} {x : V} {xs : List V} : RD K ρ N H d x → RA K ρ N H ds xs → RA K ρ N H (d :: ds) (x :: xs)
end
structure Up (K : PySem.W.Frag) (ρ : Nat → Addr) (N : Nat) (H : Hp) (ρ' : Nat → Addr) (N' : Nat) (H' : Hp) : Prop where
  agree : ∀ n, n < N → ρ' n = ρ n
  len : N ≤ N'
  ts : ∀ p xs, H p = some (.tup xs) → H' p = some (.tup xs)
  fz : ∀ p o x, H p = some (.frz o x) → H' p = some (.frz o x)
section
variable {K : PySem.W.Frag} {ρ ρ' ρ'' : Nat → Addr} {N N' N'' : Nat} {H H' H'' : Hp}
theorem Up.refl : Up K ρ N H ρ N H := ⟨fun _ _ => rfl, Nat.le_refl _, fun _ _ h => h, fun _ _ _ h => h⟩
theorem Up.trans (a : Up K ρ N H ρ' N' H') (b : Up K ρ' N' H' ρ'' N'' H'') : Up K ρ N H ρ'' N'' H'' :=
  ⟨fun n h => (b.agree n (Nat.lt_of_lt_of_le h a.len)).trans (a.agree n h), Nat.le_trans a.len b.len, fun p xs h => b.ts p xs (a.ts p xs h), fun p o x h => b.fz p o x (a.fz p o x h)⟩
mutual
theorem RD.up (u : Up K ρ N H ρ' N' H') : ∀ {d : Qm.D} {v : V}, RD K ρ N H d v → RD K ρ' N' H' d v
  | _, _, .non => .non
  | _, _, .bl b => .bl b
  | _, _, .int i => .int i
  | _, _, .str x => .str x
  | _, _, .ty n => .ty n
  | _, _, .adr a => .adr a
  | _, _, .tup h a => .tup (u.ts _ _ h) (RA.up u a)
  | _, _, .ref (n := n) h => by rw [← u.agree n h]; exact .ref (Nat.lt_of_lt_of_le h u.len)
theorem RA.up (u : Up K ρ N H ρ' N' H') : ∀ {ds : List Qm.D} {vs : List V}, RA K ρ N H ds vs → RA K ρ' N' H' ds vs
  | _, _, .nil => .nil
  | _, _, .cons h a => .cons (RD.up u h) (RA.up u a)
end
theorem RA.length : ∀ {ds : List Qm.D} {vs : List V}, RA K ρ N H ds vs → ds.length = vs.length
  | _, _, .nil => rfl
  | _, _, .cons _ a => congrArg (· + 1) (RA.length a)
theorem RA.append : ∀ {ds es : List Qm.D} {vs us : List V}, RA K ρ N H ds vs → RA K ρ N H es us → RA K ρ N H (ds ++ es) (vs ++ us)
  | _, _, _, _, .nil, b => b
  | _, _, _, _, .cons h a, b => .cons h (RA.append a b)
theorem RA.get : ∀ {ds : List Qm.D} {vs : List V} {i : Nat} {d : Qm.D}, RA K ρ N H ds vs → ds[i]? = some d → ∃ v, vs[i]? = some v ∧ RD K ρ N H d v
  | _, _, _, _, .nil, e => by simp at e
  | _, _, 0, _, .cons h _, e => by simp at e; subst e; exact ⟨_, rfl, h⟩
  | _, _, i + 1, d, .cons _ a, e => by
    obtain ⟨v, h1, h2⟩ := RA.get (i := i) (d := d) a (by simpa using e)
    exact ⟨v, by simpa using h1, h2⟩
theorem RA.set {d : Qm.D} {v : V} (r : RD K ρ N H d v) : ∀ {ds : List Qm.D} {vs : List V} (n : Nat), RA K ρ N H ds vs → RA K ρ N H (ds.set n d) (vs.set n v)
  | _, _, _, .nil => .nil
  | _, _, 0, .cons _ a => .cons r a
  | _, _, n + 1, .cons h a => .cons h (RA.set r n a)
theorem RA.one {d : Qm.D} {v : V} (h : RD K ρ N H d v) : RA K ρ N H [d] [v] := .cons h .nil
theorem RA.one' {d : Qm.D} {vs : List V} (h : RA K ρ N H [d] vs) : ∃ v, vs = [v] ∧ RD K ρ N H d v := by
  cases h with
  | cons r t => cases t; exact ⟨_, rfl, r⟩
theorem RA.two' {d e : Qm.D} {vs : List V} (h : RA K ρ N H [d, e] vs) : ∃ v u, vs = [v, u] ∧ RD K ρ N H d v ∧ RD K ρ N H e u := by
  cases h with
  | cons r t => obtain ⟨u, rfl, q⟩ := RA.one' t; exact ⟨_, _, rfl, r, q⟩
theorem RD.int' {i : Int} {v : V} (h : RD K ρ N H (.int i) v) : v = .int i := by cases h; rfl
theorem RD.bl' {b : Bool} {v : V} (h : RD K ρ N H (.bl b) v) : v = .bl b := by cases h; rfl
theorem RD.non' {v : V} (h : RD K ρ N H .non v) : v = .non := by cases h; rfl
theorem RD.tup' {ds : List Qm.D} {v : V} (h : RD K ρ N H (.tup ds) v) : ∃ p xs, v = .ref p ∧ H p = some (.tup xs) ∧ RA K ρ N H ds xs := by cases h with | tup a b => exact ⟨_, _, rfl, a, b⟩
theorem RD.ref' {n : Nat} {v : V} (h : RD K ρ N H (.ref n) v) : v = .ref (ρ n) ∧ n < N := by cases h with | ref h => exact ⟨rfl, h⟩
end
def RoOk (K : PySem.W.Frag) (H : Hp) (a : Addr) (xs : List V) : Prop := (∃ o, H a = some (.frz o (.lst xs))) ∨ SqL K (fun _ => none) a xs
theorem RoOk.seq {K : PySem.W.Frag} {H : Hp} {a : Addr} {xs : List V} (h : RoOk K H a xs) : SqL K H a xs := by
  rcases h with ⟨o, h⟩ | h
  · exact .inl (.inr ⟨o, h⟩)
  · rcases h with (h | ⟨o, h⟩) | h
    · cases h
    · cases h
    · exact .inr h
theorem RoOk.of {K : PySem.W.Frag} {H : Hp} {a : Addr} {xs : List V} (hO : Only H) (h : SqL K H a xs) : RoOk K H a xs := by
  rcases h with (h | ⟨o, h⟩) | h
  · rcases hO a with z | ⟨o, ys, z⟩
    · rw [z] at h; cases h
    · rw [z] at h; cases h
  · exact .inl ⟨o, h⟩
  · exact .inr (.inr h)
inductive RK (K : PySem.W.Frag) (ρ : Nat → Addr) (N : Nat) (H : Hp) : List (Str × Qm.D) → List (Key × V) → Prop
  | nil : RK K ρ N H [] []
  | cons {k : Str} {d : Qm.D} {ds : List (Str × Qm.D)} {x : V} {xs : List (Key × V)} : RD K ρ N H d x → RK K ρ N H ds xs → RK K ρ N H ((k, d) :: ds) ((.inr k, x) :: xs)
theorem RK.up {K : PySem.W.Frag} {ρ ρ' : Nat → Addr} {N N' : Nat} {H H' : Hp} (u : Up K ρ N H ρ' N' H') : ∀ {ds : List (Str × Qm.D)} {vs : List (Key × V)}, RK K ρ N H ds vs → RK K ρ' N' H' ds vs
  | _, _, .nil => .nil
  | _, _, .cons h a => .cons (h.up u) (RK.up u a)
inductive RT1 (K : PySem.W.Frag) (ρ : Nat → Addr) (N : Nat) (H : Hp) : List (List Int × Qm.D) → List (List Key × V) → Prop
  | nil : RT1 K ρ N H [] []
  | cons {k : List Int} {d : Qm.D} {ds : List (List Int × Qm.D)} {x : V} {xs : List (List Key × V)} : RD K ρ N H d x → RT1 K ρ N H ds xs → RT1 K ρ N H ((k, d) :: ds) ((k.map Sum.inl, x) :: xs)
inductive RT2 (K : PySem.W.Frag) (ρ : Nat → Addr) (N : Nat) (H : Hp) : List (List (List Int) × Qm.D) → List (List (List Key) × V) → Prop
  | nil : RT2 K ρ N H [] []
  | cons {k : List (List Int)} {d : Qm.D} {ds : List (List (List Int) × Qm.D)} {x : V} {xs : List (List (List Key) × V)} : RD K ρ N H d x → RT2 K ρ N H ds xs → RT2 K ρ N H ((k, d) :: ds) ((k.map (List.map Sum.inl), x) :: xs)
theorem RT1.up {K : PySem.W.Frag} {ρ ρ' : Nat → Addr} {N N' : Nat} {H H' : Hp} (u : Up K ρ N H ρ' N' H') : ∀ {ds : List (List Int × Qm.D)} {vs : List (List Key × V)}, RT1 K ρ N H ds vs → RT1 K ρ' N' H' ds vs
  | _, _, .nil => .nil
  | _, _, .cons h a => .cons (h.up u) (RT1.up u a)
theorem RT2.up {K : PySem.W.Frag} {ρ ρ' : Nat → Addr} {N N' : Nat} {H H' : Hp} (u : Up K ρ N H ρ' N' H') : ∀ {ds : List (List (List Int) × Qm.D)} {vs : List (List (List Key) × V)}, RT2 K ρ N H ds vs → RT2 K ρ' N' H' ds vs
  | _, _, .nil => .nil
  | _, _, .cons h a => .cons (h.up u) (RT2.up u a)
def CO (K : PySem.W.Frag) (ρ : Nat → Addr) (N : Nat) (H : Hp) (a : Addr) : Qm.Cell → Prop
  | .lst ds => ∃ vs, H a = some (.lst vs) ∧ RA K ρ N H ds vs
  | .ro ds => ∃ vs, RoOk K H a vs ∧ RA K ρ N H ds vs
  | .dct ds => ∃ vs, H a = some (.dK vs) ∧ RK K ρ N H ds vs
  | .dro ds => ∃ o vs, H a = some (.frz o (.dK vs)) ∧ RK K ρ N H ds vs
  | .dt1 ds => ∃ vs, H a = some (.dT vs) ∧ RT1 K ρ N H ds vs
  | .dt2 ds => ∃ vs, H a = some (.dU vs) ∧ RT2 K ρ N H ds vs
  | .dt2r ds => ∃ o vs, H a = some (.frz o (.dU vs)) ∧ RT2 K ρ N H ds vs
  | .exc C S ds => ∃ vs, XObj K H a C S vs ∧ RK K ρ N H ds vs
structure RS (K : PySem.W.Frag) (ρ : Nat → Addr) (c : Qm.Cells) (H : Hp) : Prop where
  inj : ∀ (i j : Nat) (z y : Qm.Cell), c[i]? = some z → c[j]? = some y → z.mt = true → y.mt = true → ρ i = ρ j → i = j
  ok : ∀ (n : Nat) (z : Qm.Cell), c[n]? = some z → CO K ρ c.length H (ρ n) z
structure RE (K : PySem.W.Frag) (ρ : Nat → Addr) (N : Nat) (H : Hp) (env : Qm.Env) (σ : St) : Prop where
  len : env.length = σ.length
  at_ : ∀ (i : Nat) (d : Qm.D), env[i]? = some (some d) → ∃ v : V, σ[i]? = some (some v) ∧ RD K ρ N H d v
structure Nx (K : PySem.W.Frag) (ρ : Nat → Addr) (c : Qm.Cells) (H : Hp) (ρ' : Nat → Addr) (c' : Qm.Cells) (H' : Hp) : Prop where
  up : Up K ρ c.length H ρ' c'.length H'
  rs : RS K ρ' c' H'
section
variable {K : PySem.W.Frag} {ρ ρ' ρ'' : Nat → Addr} {N N' : Nat} {c c' c'' : Qm.Cells} {H H' H'' : Hp} {env : Qm.Env} {σ : St}
theorem RE.up (h : RE K ρ N H env σ) (u : Up K ρ N H ρ' N' H') : RE K ρ' N' H' env σ := ⟨h.len, fun i d e => let ⟨v, h1, h2⟩ := h.at_ i d e; ⟨v, h1, h2.up u⟩⟩
theorem Nx.refl (r : RS K ρ c H) : Nx K ρ c H ρ c H := ⟨Up.refl, r⟩
theorem Nx.trans (a : Nx K ρ c H ρ' c' H') (b : Nx K ρ' c' H' ρ'' c'' H'') : Nx K ρ c H ρ'' c'' H'' := ⟨a.up.trans b.up, b.rs⟩
theorem CO.up {a : Addr} {z : Qm.Cell} (h : CO K ρ N H a z) (u : Up K ρ N H ρ' N' H') (hs : ∀ o, H a = some o → H' a = some o) : CO K ρ' N' H' a z := by
  cases z with
  | lst ds => obtain ⟨vs, h1, h2⟩ := h; exact ⟨vs, hs _ h1, h2.up u⟩
  | ro ds =>
    obtain ⟨vs, h1, h2⟩ := h
    refine ⟨vs, ?_, h2.up u⟩
    rcases h1 with ⟨o, h1⟩ | h1
    · exact .inl ⟨o, hs _ h1⟩
    · exact .inr h1
  | dct ds => obtain ⟨vs, h1, h2⟩ := h; exact ⟨vs, hs _ h1, h2.up u⟩
  | dro ds => obtain ⟨o, vs, h1, h2⟩ := h; exact ⟨o, vs, hs _ h1, h2.up u⟩
  | dt1 ds => obtain ⟨vs, h1, h2⟩ := h; exact ⟨vs, hs _ h1, h2.up u⟩
  | dt2 ds => obtain ⟨vs, h1, h2⟩ := h; exact ⟨vs, hs _ h1, h2.up u⟩
  | dt2r ds => obtain ⟨o, vs, h1, h2⟩ := h; exact ⟨o, vs, hs _ h1, h2.up u⟩
  | exc C S ds => obtain ⟨vs, h1, h2⟩ := h; exact ⟨vs, h1.up u.fz, h2.up u⟩
theorem CO.obj {a : Addr} {z : Qm.Cell} (h : CO K ρ N H a z) (m : z.mt = true) : ∃ o, H a = some o ∧ (∀ xs, o ≠ .tup xs) ∧ ∀ q x, o ≠ .frz q x := by
  cases z with
  | lst ds => obtain ⟨vs, h1, _⟩ := h; exact ⟨_, h1, (fun _ z => by cases z), (fun _ _ z => by cases z)⟩
  | ro ds => cases m
  | dro ds => cases m
  | dct ds => obtain ⟨vs, h1, _⟩ := h; exact ⟨_, h1, (fun _ z => by cases z), (fun _ _ z => by cases z)⟩
  | dt1 ds => obtain ⟨vs, h1, _⟩ := h; exact ⟨_, h1, (fun _ z => by cases z), (fun _ _ z => by cases z)⟩
  | dt2 ds => obtain ⟨vs, h1, _⟩ := h; exact ⟨_, h1, (fun _ z => by cases z), (fun _ _ z => by cases z)⟩
  | dt2r ds => cases m
  | exc C S ds => cases m
theorem RE.set {d : Qm.D} {v : V} {i : Nat} (h : RE K ρ N H env σ) (r : RD K ρ N H d v) : RE K ρ N H (env.set i (some d)) (σ.set i (some v)) := by
  refine ⟨by rw [List.length_set, List.length_set]; exact h.len, fun j e he => ?_⟩
  rw [List.getElem?_set] at he ⊢
  have hl := h.len
  by_cases hij : i = j
  · rw [if_pos hij] at he ⊢
    subst hij
    split at he
    · rename_i hlt
      rw [if_pos (by omega)]
      cases he
      exact ⟨v, rfl, r⟩
    · cases he
  · rw [if_neg hij] at he ⊢
    exact h.at_ j e he
theorem Nx.same (r : RS K ρ c H) (e : Same H H') : Nx K ρ c H ρ c H' := by
  have u : Up K ρ c.length H ρ c.length H' := ⟨fun _ _ => rfl, Nat.le_refl _, fun p xs h => e _ _ h, fun p o x h => e _ _ h⟩
  exact ⟨u, r.inj, fun n z hz => (r.ok n z hz).up u (fun o h => e _ _ h)⟩
theorem Nx.allocG (r : RS K ρ c H) {l : Addr} (hl : H l = none) {z : Qm.Cell} {o : HO} (hz : ∀ ρ' N' H', Up K ρ c.length H ρ' N' H' → H' l = some o → CO K ρ' N' H' l z) : Nx K ρ c H (fun n => if n = c.length then l else ρ n) (c ++ [z]) (upd H l o) ∧ RD K (fun n => if n = c.length then l else ρ n) (c ++ [z]).length (upd H l o) (.ref c.length) (.ref l) := by
  have hlen : (c ++ [z]).length = c.length + 1 := by simp
  have u : Up K ρ c.length H (fun n => if n = c.length then l else ρ n) (c ++ [z]).length (upd H l o) := by
    refine ⟨fun n h => if_neg (by omega), by omega, fun p xs h => get_new h hl, fun p o x h => get_new h hl⟩
  refine ⟨⟨u, fun i j x y h1 h2 m1 m2 e => ?_, fun n z' hz' => ?_⟩, ?_⟩
  · have lt1 : i < c.length + 1 := by rw [← hlen]; exact (List.getElem?_eq_some_iff.mp h1).1
    have lt2 : j < c.length + 1 := by rw [← hlen]; exact (List.getElem?_eq_some_iff.mp h2).1
    have fresh : ∀ k y, k < c.length → (c ++ [z])[k]? = some y → y.mt = true → ρ k ≠ l := fun k y hk hz m e' => by
      rw [List.getElem?_append_left hk] at hz
      obtain ⟨o', h', _⟩ := (r.ok k _ hz).obj m
      rw [e', hl] at h'; cases h'
    by_cases hi : i = c.length <;> by_cases hj : j = c.length
    · omega
    · exfalso
      simp only [hi, if_true, if_neg hj] at e
      exact fresh j y (by omega) h2 m2 e.symm
    · exfalso
      simp only [hj, if_true, if_neg hi] at e
      exact fresh i x (by omega) h1 m1 e
    · simp only [if_neg hi, if_neg hj] at e
      rw [List.getElem?_append_left (by omega)] at h1 h2
      exact r.inj i j x y h1 h2 m1 m2 e
  · have lt : n < c.length + 1 := by rw [← hlen]; exact (List.getElem?_eq_some_iff.mp hz').1
    by_cases hn : n = c.length
    · subst hn
      have : z' = z := by simpa using hz'.symm
      subst this
      simp only [if_true]
      exact hz _ _ _ u upd_same
    · simp only [if_neg hn]
      rw [List.getElem?_append_left (by omega)] at hz'
      exact (r.ok n z' hz').up u (fun o h => get_new h hl)
  · have := RD.ref (K := K) (ρ := fun n => if n = c.length then l else ρ n) (N := (c ++ [z]).length) (H := upd H l o) (n := c.length) (by omega)
    simpa using this
theorem Nx.alloc (r : RS K ρ c H) {l : Addr} (hl : H l = none) {ds : List Qm.D} {vs : List V} (a : RA K ρ c.length H ds vs) : Nx K ρ c H (fun n => if n = c.length then l else ρ n) (c ++ [.lst ds]) (upd H l (.lst vs)) ∧ RD K (fun n => if n = c.length then l else ρ n) (c ++ [Qm.Cell.lst ds]).length (upd H l (.lst vs)) (.ref c.length) (.ref l) :=
  Nx.allocG r hl fun _ _ _ u h => ⟨vs, h, a.up u⟩
theorem Nx.putG (r : RS K ρ c H) {n : Nat} {y z : Qm.Cell} (hn : c[n]? = some y) (my : y.mt = true) {o : HO} (hz : ∀ N' H', Up K ρ c.length H ρ N' H' → H' (ρ n) = some o → CO K ρ N' H' (ρ n) z) : Nx K ρ c H ρ (c.set n z) (upd H (ρ n) o) := by
  obtain ⟨w, hw, hk⟩ := (r.ok n _ hn).obj my
  have hlt : n < c.length := (List.getElem?_eq_some_iff.mp hn).1
  have tne : ∀ {p : Addr} {q : HO}, H p = some q → ((∃ ys, q = .tup ys) ∨ ∃ o x, q = .frz o x) → p ≠ ρ n := fun {p q} h h1 e => by
    rw [e, hw] at h; cases h
    rcases h1 with ⟨_, rfl⟩ | ⟨_, _, rfl⟩
    · exact hk.1 _ rfl
    · exact hk.2 _ _ rfl
  have u : Up K ρ c.length H ρ (c.set n z).length (upd H (ρ n) o) := by
    refine ⟨fun _ _ => rfl, by rw [List.length_set]; exact Nat.le_refl _, fun p ys h => ?_, fun p q x h => ?_⟩
    · rw [upd_ne (tne h (.inl ⟨_, rfl⟩))]; exact h
    · rw [upd_ne (tne h (.inr ⟨_, _, rfl⟩))]; exact h
  have look : ∀ {j : Nat} {x : Qm.Cell}, j ≠ n → (c.set n z)[j]? = some x → c[j]? = some x := fun {j x} hj hx => by
    rw [List.getElem?_set, if_neg (fun e => hj e.symm)] at hx; exact hx
  have back : ∀ {j : Nat} {x : Qm.Cell}, (c.set n z)[j]? = some x → x.mt = true → ∃ x', c[j]? = some x' ∧ x'.mt = true := fun {j x} hx m => by
    by_cases hj : j = n
    · subst hj; exact ⟨y, hn, my⟩
    · exact ⟨x, look hj hx, m⟩
  refine ⟨u, fun i j p q h1 h2 m1 m2 e => ?_, fun j x hx => ?_⟩
  · obtain ⟨_, g1, w1⟩ := back h1 m1
    obtain ⟨_, g2, w2⟩ := back h2 m2
    exact r.inj i j _ _ g1 g2 w1 w2 e
  · by_cases hj : j = n
    · subst hj
      have : x = z := by
        rw [List.getElem?_set, if_pos rfl, if_pos hlt] at hx; cases hx; rfl
      subst this
      exact hz _ _ u upd_same
    · have hx' := look hj hx
      by_cases hm : x.mt = true
      · have hp : ρ j ≠ ρ n := fun e => hj (r.inj j n _ _ hx' hn hm my e)
        exact (r.ok j _ hx').up u (fun ys h => by rw [upd_ne hp]; exact h)
      · cases x with
        | lst zs => exact absurd rfl hm
        | dct zs => exact absurd rfl hm
        | dt1 zs => exact absurd rfl hm
        | dt2 zs => exact absurd rfl hm
        | dro zs =>
          obtain ⟨o', ws', h1, h2⟩ := r.ok j _ hx'
          exact ⟨o', ws', by rw [upd_ne (tne h1 (.inr ⟨_, _, rfl⟩))]; exact h1, h2.up u⟩
        | dt2r zs =>
          obtain ⟨o', ws', h1, h2⟩ := r.ok j _ hx'
          exact ⟨o', ws', by rw [upd_ne (tne h1 (.inr ⟨_, _, rfl⟩))]; exact h1, h2.up u⟩
        | exc C S zs =>
          obtain ⟨ws', h1, h2⟩ := r.ok j _ hx'
          exact ⟨ws', h1.up u.fz, h2.up u⟩
        | ro zs =>
          obtain ⟨ws', h1, h2⟩ := r.ok j _ hx'
          refine ⟨ws', ?_, h2.up u⟩
          rcases h1 with ⟨o, h1⟩ | h1
          · exact .inl ⟨o, by rw [upd_ne (tne h1 (.inr ⟨_, _, rfl⟩))]; exact h1⟩
          · exact .inr h1
theorem Nx.put (r : RS K ρ c H) {n : Nat} {xs : List Qm.D} (hn : c[n]? = some (.lst xs)) {ds : List Qm.D} {vs : List V} (a : RA K ρ c.length H ds vs) : Nx K ρ c H ρ (c.set n (.lst ds)) (upd H (ρ n) (.lst vs)) :=
  Nx.putG r hn rfl fun _ _ u h => ⟨vs, h, a.up u⟩
theorem RS.lst (r : RS K ρ c H) {n : Nat} {ds : List Qm.D} (h : c[n]? = some (.lst ds)) : ∃ vs, H (ρ n) = some (.lst vs) ∧ RA K ρ c.length H ds vs := r.ok n _ h
theorem RS.seq (r : RS K ρ c H) {d : Qm.D} {ds : List Qm.D} {v : V} (h : RD K ρ c.length H d v) (e : Qm.seqOf d c = some ds) : ∃ p vs, v = .ref p ∧ (SqL K H p vs ∨ H p = some (.tup vs)) ∧ RA K ρ c.length H ds vs := by
  unfold Qm.seqOf at e
  split at e
  · cases e
    obtain ⟨p, xs, rfl, h1, h2⟩ := h.tup'
    exact ⟨p, xs, rfl, .inr h1, h2⟩
  · rename_i n
    obtain ⟨rfl, hn⟩ := h.ref'
    split at e
    · rename_i xs hx
      cases e
      obtain ⟨vs, h1, h2⟩ := r.lst hx
      exact ⟨_, vs, rfl, .inl (SqL.of h1), h2⟩
    · rename_i xs hx
      cases e
      obtain ⟨vs, h1, h2⟩ := r.ok n _ hx
      exact ⟨_, vs, rfl, .inl h1.seq, h2⟩
    · cases e
  · cases e
theorem RS.seqR (r : RS K ρ c H) {n : Nat} {ds : List Qm.D} {v : V} (h : RD K ρ c.length H (.ref n) v) (e : Qm.seqOf (.ref n) c = some ds) : ∃ vs, v = .ref (ρ n) ∧ SqL K H (ρ n) vs ∧ RA K ρ c.length H ds vs := by
  obtain ⟨rfl, hn⟩ := h.ref'
  unfold Qm.seqOf at e
  dsimp only at e
  split at e
  · rename_i xs hx
    cases e
    obtain ⟨vs, h1, h2⟩ := r.lst hx
    exact ⟨vs, rfl, SqL.of h1, h2⟩
  · rename_i xs hx
    cases e
    obtain ⟨vs, h1, h2⟩ := r.ok n _ hx
    exact ⟨vs, rfl, h1.seq, h2⟩
  · cases e
theorem RS.lstOf (r : RS K ρ c H) {d : Qm.D} {n : Nat} {ds : List Qm.D} {v : V} (h : RD K ρ c.length H d v) (e : Qm.lstOf d c = some (n, ds)) : d = .ref n ∧ c[n]? = some (.lst ds) ∧ ∃ vs, v = .ref (ρ n) ∧ H (ρ n) = some (.lst vs) ∧ RA K ρ c.length H ds vs := by
  unfold Qm.lstOf at e
  split at e
  · obtain ⟨rfl, hn⟩ := h.ref'
    split at e
    · rename_i xs hx
      cases e
      obtain ⟨vs, h1, h2⟩ := r.lst hx
      exact ⟨rfl, hx, vs, rfl, h1, h2⟩
    · cases e
  · cases e
end
def TQ (K : PySem.W.Frag) (f : Qm.XE) : TE := fun σ H Q => ∃ ρ env c d c', RS K ρ c H ∧ RE K ρ c.length H env σ ∧ f env c = some (d, c') ∧ ∀ ρ' v H', Nx K ρ c H ρ' c' H' → RD K ρ' c'.length H' d v → Q v H'
def AQ (K : PySem.W.Frag) (f : Qm.XA) : TA := fun σ H Q => ∃ ρ env c ds c', RS K ρ c H ∧ RE K ρ c.length H env σ ∧ f env c = some (ds, c') ∧ ∀ ρ' vs H', Nx K ρ c H ρ' c' H' → RA K ρ' c'.length H' ds vs → Q vs H'
def BQ (K : PySem.W.Frag) (f : Qm.XT) : TT := fun σ H Q => ∃ ρ env c b c', RS K ρ c H ∧ RE K ρ c.length H env σ ∧ f env c = some (b, c') ∧ ∀ ρ' H', Nx K ρ c H ρ' c' H' → Q b H'
def EndQ (K : PySem.W.Frag) (ρ : Nat → Addr) (c : Qm.Cells) (H : Hp) (env : Qm.Env) (D : Ends) : Qm.Fl → Prop
  | .nx => ∀ σ, RE K ρ c.length H env σ → D.nx σ H
  | .bk => ∀ σ, RE K ρ c.length H env σ → D.bk σ H
  | .ct => ∀ σ, RE K ρ c.length H env σ → D.ct σ H
  | .rt d => ∀ v, RD K ρ c.length H d v → D.rt v H
def SQ (K : PySem.W.Frag) (f : Qm.XS) : TS := fun D σ H => ∃ ρ env c fl env' c', RS K ρ c H ∧ RE K ρ c.length H env σ ∧ f env c = some (fl, env', c') ∧ ∀ ρ' H', Nx K ρ c H ρ' c' H' → EndQ K ρ' c' H' env' D fl
def GQ (K : PySem.W.Frag) (g : Qm.XG) : TG := fun v σ H Q => ∃ ρ env c d env' c', RS K ρ c H ∧ RE K ρ c.length H env σ ∧ RD K ρ c.length H d v ∧ g d env c = some (env', c') ∧ ∀ ρ' H' σ', Nx K ρ c H ρ' c' H' → RE K ρ' c'.length H' env' σ' → Q σ' H'
def ItOk (K : PySem.W.Frag) (ρ0 : Nat → Addr) (N0 : Nat) (H0 : Hp) (m : Qm.Itm) (J : It) : Prop := ∀ ρ c H, Up K ρ0 N0 H0 ρ c.length H → RS K ρ c H → Qm.stays m.ks c →
  (∀ i, i < m.ds.length → J.go i H) ∧ J.stop m.ds.length H ∧ ∀ i d x H', m.ds[i]? = some d → J.yld i H x H' → Nx K ρ c H ρ c H' ∧ RD K ρ c.length H' d x
def IQ (K : PySem.W.Frag) (f : Qm.XI) : TI := fun σ H R => ∃ ρ env c m c', RS K ρ c H ∧ RE K ρ c.length H env σ ∧ f env c = some (m, c') ∧ ∀ ρ' J H', Nx K ρ c H ρ' c' H' → ItOk K ρ' c'.length H' m J → R J H'
abbrev QE (X : Cx) (e : Expr) (f : Qm.XE) : Prop := PE X e (TQ X.K f)
abbrev QA (X : Cx) (es : List Expr) (f : Qm.XA) : Prop := PA X es (AQ X.K f)
abbrev QT (X : Cx) (e : Expr) (f : Qm.XT) : Prop := PT X e (BQ X.K f)
abbrev QW (X : Cx) (e : Expr) (f : Qm.XT) : Prop := PW X e (BQ X.K f)
abbrev QS (X : Cx) (e : Stmt) (f : Qm.XS) : Prop := PS X e (SQ X.K f)
abbrev QSs (X : Cx) (e : List Stmt) (f : Qm.XS) : Prop := PSs X e (SQ X.K f)
abbrev QG (X : Cx) (e : Expr) (f : Qm.XG) : Prop := PG X e (GQ X.K f)
abbrev QI (X : Cx) (tg e : Expr) (f : Qm.XI) : Prop := PI X tg e (IQ X.K f)
abbrev QIfs (X : Cx) (e : List Expr) (f : Qm.XT) : Prop := PIfs X e (BQ X.K f)
section
variable {X : Cx}
theorem PE.imp {e : Expr} {t t' : TE} (h : PE X e t) (k : ∀ σ H Q, t' σ H Q → t σ H Q) : PE X e t' := fun pins s σ H Q I q => h pins s σ H Q I (k σ H Q q)
theorem PT.imp {e : Expr} {t t' : TT} (h : PT X e t) (k : ∀ σ H Q, t' σ H Q → t σ H Q) : PT X e t' := fun pins s σ H Q I q => h pins s σ H Q I (k σ H Q q)
theorem PW.imp {e : Expr} {t t' : TT} (h : PW X e t) (k : ∀ σ H Q, t' σ H Q → t σ H Q) : PW X e t' := fun wh pins s σ H Q I q => h wh pins s σ H Q I (k σ H Q q)
theorem PA.imp {e : List Expr} {t t' : TA} (h : PA X e t) (k : ∀ σ H Q, t' σ H Q → t σ H Q) : PA X e t' := fun pos pins s σ H Q I q => h pos pins s σ H Q I (k σ H Q q)
theorem PS.imp {e : Stmt} {t t' : TS} (h : PS X e t) (k : ∀ D σ H, t' D σ H → t D σ H) : PS X e t' := fun pins s σ H D I q => h pins s σ H D I (k D σ H q)
theorem PSs.imp {e : List Stmt} {t t' : TS} (h : PSs X e t) (k : ∀ D σ H, t' D σ H → t D σ H) : PSs X e t' := fun pins s σ H D I q => h pins s σ H D I (k D σ H q)
theorem PG.imp {e : Expr} {t t' : TG} (h : PG X e t) (k : ∀ v σ H Q, t' v σ H Q → t v σ H Q) : PG X e t' := fun pins s σ H x v Q I r q => h pins s σ H x v Q I r (k x σ H Q q)
theorem PI.imp {tg e : Expr} {t t' : TI} (h : PI X tg e t) (k : ∀ σ H Q, t' σ H Q → t σ H Q) : PI X tg e t' := fun pins s σ H R I q => h pins s σ H R I (k σ H R q)
theorem PIfs.imp {e : List Expr} {t t' : TT} (h : PIfs X e t) (k : ∀ σ H Q, t' σ H Q → t σ H Q) : PIfs X e t' := fun pins s σ H Q I q => h pins s σ H Q I (k σ H Q q)
end
end L2
namespace L2
open PySem PySem.Spec PyProof.Rows
section
variable {X : Cx} {a b e : Expr} {es : List Expr} {fa fb fc fe : Qm.XE} {ft fu : Qm.XT} {pos : Pos}
theorem qe_var (i : Nat) (h : PE X e (tVar i)) : QE X e (Qm.eV i) := h.imp fun σ H Q ⟨ρ, env, c, d, c', rs, re, e, k⟩ => by
  unfold Qm.eV at e
  obtain ⟨d', e1, e2⟩ := bnd e
  cases e2
  have e3 : env[i]? = some (some d) := by
    cases h : env[i]? with
    | none => rw [h] at e1; cases e1
    | some o => rw [h] at e1; rw [show o = some d from e1]
  obtain ⟨v, h1, h2⟩ := re.at_ i d e3
  exact ⟨v, h1, k ρ v H (Nx.refl rs) h2⟩
theorem qe_c {v : V} (d : Qm.D) (h : PE X e (tC v)) (r : ∀ ρ N H, RD X.K ρ N H d v) : QE X e (Qm.eC d) := h.imp fun σ H Q ⟨ρ, env, c, d', c', rs, re, e, k⟩ => by
  unfold Qm.eC at e
  cases e
  exact k ρ v H (Nx.refl rs) (r _ _ _)
theorem qe_int {i : Int} {j pos} : QE X (.Constant (.int i) j pos) (Qm.eC (.int i)) := qe_c _ pe_int fun _ _ _ => .int i
theorem qe_bl {i : Bool} {j pos} : QE X (.Constant (.bool i) j pos) (Qm.eC (.bl i)) := qe_c _ pe_bl fun _ _ _ => .bl i
theorem qe_str {x : Str} {j pos} : QE X (.Constant (.str x) j pos) (Qm.eC (.str x)) := qe_c _ pe_str fun _ _ _ => .str x
def Lk2 (K : PySem.W.Frag) (r : R2) (g : Qm.G2) : Prop := ∀ ρ c H x y d c' v u Q, RS K ρ c H → RD K ρ c.length H x v → RD K ρ c.length H y u → g x y c = some (d, c') → (∀ ρ' w H', Nx K ρ c H ρ' c' H' → RD K ρ' c'.length H' d w → Q w H') → r v u H Q
theorem tOp_q {K : PySem.W.Frag} {r : R2} {g : Qm.G2} (hl : Lk2 K r g) {σ : St} {H : Hp} {Q : VK} (h : TQ K (Qm.e2 g fa fb) σ H Q) : tOp r (TQ K fa) (TQ K fb) σ H Q := by
  obtain ⟨ρ, env, c, d, c', rs, re, e, k⟩ := h
  obtain ⟨p, e1, e⟩ := bnd e
  obtain ⟨q, e2, e3⟩ := bnd e
  exact ⟨ρ, env, c, p.1, p.2, rs, re, e1, fun ρ1 v H1 n1 r1 => ⟨ρ1, env, p.2, q.1, q.2, n1.rs, re.up n1.up, e2, fun ρ2 u H2 n2 r2 =>
    hl ρ2 q.2 H2 p.1 q.1 d c' v u Q n2.rs (r1.up n2.up) r2 e3 fun ρ' w H' n3 r3 => k ρ' w H' (n1.trans (n2.trans n3)) r3⟩⟩
theorem qe_op {op : Operator} {r : R2} {g : Qm.G2} (ho : OpR X (binaryOp op) r) (hl : Lk2 X.K r g) (ha : QE X a fa) (hb : QE X b fb) : QE X (.BinOp a op b pos) (Qm.e2 g fa fb) := (pe_op ho ha hb).imp fun _ _ _ h => tOp_q hl h
theorem qe_cmp {op : CmpOp} {r : R2} {g : Qm.G2} (ho : OpR X (compareOp op) r) (hl : Lk2 X.K r g) (ha : QE X a fa) (hb : QE X b fb) (hm : behindInMarks op b = false) : QE X (.Compare a [op] [b] pos) (Qm.e2 g fa fb) := (pe_cmpR ho ha hb hm).imp fun _ _ _ h => tOp_q hl h
theorem qe_ix {r : R2} {g : Qm.G2} (hr : IxR X r) (hl : Lk2 X.K r g) (ha : QE X a fa) (hb : QE X b fb) (hs : PlainIx b) : QE X (.Subscript a b pos) (Qm.e2 g fa fb) := (pe_ix hr ha hb hs).imp fun _ _ _ h => tOp_q hl h
theorem asI_of {d : Qm.D} {i : Int} (h : Qm.asI d = some i) : d = .int i := by
  unfold Qm.asI at h
  split at h
  · cases h; rfl
  · cases h
theorem asB_of {d : Qm.D} {i : Bool} (h : Qm.asB d = some i) : d = .bl i := by
  unfold Qm.asB at h
  split at h
  · cases h; rfl
  · cases h
theorem lk_int {K : PySem.W.Frag} {C : Int → Int → Prop} {g : Int → Int → V} {f : Int → Int → Option Qm.D} (h : ∀ i j d, f i j = some d → C i j ∧ ∀ ρ N H, RD K ρ N H d (g i j)) : Lk2 K (rI C g) (Qm.ii f) := by
  intro ρ c H x y d c' v u Q rs rx ry e k
  obtain ⟨i, e1, e⟩ := bnd e
  obtain ⟨j, e2, e⟩ := bnd e
  obtain ⟨d', e3, e⟩ := bnd e
  cases e
  cases asI_of e1; cases asI_of e2
  cases rx.int'; cases ry.int'
  obtain ⟨hc, hr⟩ := h i j d e3
  exact ⟨i, j, rfl, rfl, hc, k ρ _ H (Nx.refl rs) (hr _ _ _)⟩
theorem lk_int0 {K : PySem.W.Frag} {g : Int → Int → V} {f : Int → Int → Option Qm.D} (h : ∀ i j d, f i j = some d → ∀ ρ N H, RD K ρ N H d (g i j)) : Lk2 K (rI0 g) (Qm.ii f) := by
  intro ρ c H x y d c' v u Q rs rx ry e k
  obtain ⟨i, e1, e⟩ := bnd e
  obtain ⟨j, e2, e⟩ := bnd e
  obtain ⟨d', e3, e⟩ := bnd e
  cases e
  cases asI_of e1; cases asI_of e2
  cases rx.int'; cases ry.int'
  exact ⟨i, j, rfl, rfl, k ρ _ H (Nx.refl rs) (h i j d e3 _ _ _)⟩
theorem lk_mul {K : PySem.W.Frag} : Lk2 K (rI IntMulOk fun i j => .int (i * j)) Qm.gMul := lk_int fun i j d e => by
  split at e
  · rename_i h
    cases e
    refine ⟨?_, fun _ _ _ => .int _⟩
    have e64 : (2 : Nat) ^ 64 = 18446744073709551616 := by decide
    rcases h with h | h | h
    · exact My.mulOk h.1 h.2 rfl
    · have := h.lt
      exact My.mulOkL (by omega) (by omega)
    · have := h.lt
      exact My.mulOkR (by omega) (by omega)
  · cases e
theorem lk_fdiv {K : PySem.W.Frag} : Lk2 K (rI CDivB fun i j => .int (i.fdiv j)) Qm.gFdiv := lk_int fun i j d e => by
  split at e
  · rename_i h
    cases e
    exact ⟨divB h.1 h.2 rfl, fun _ _ _ => .int _⟩
  · cases e
theorem lk_mod {K : PySem.W.Frag} : Lk2 K (rI (fun _ j => j ≠ 0) fun i j => .int (i.fmod j)) Qm.gMod := lk_int fun i j d e => by
  split at e
  · rename_i h
    cases e
    exact ⟨h, fun _ _ _ => .int _⟩
  · cases e
theorem lk_lt {K : PySem.W.Frag} : Lk2 K (rI0 fun i j => .bl (decide (i < j))) Qm.gLt := lk_int0 fun i j d e ρ N H => by cases e; exact .bl _
theorem lk_gt {K : PySem.W.Frag} : Lk2 K (rI0 fun i j => .bl (decide (j < i))) Qm.gGt := lk_int0 fun i j d e ρ N H => by cases e; exact .bl _
theorem lk_add {K : PySem.W.Frag} : Lk2 K (fun x y H Q => (rI0 fun i j => .int (i + j)) x y H Q ∨ (rCatT K x y H Q ∨ rCat x y H Q)) Qm.gAdd := by
  intro ρ c H x y d c' v u Q rs rx ry e k
  unfold Qm.gAdd at e
  split at e
  · cases e
    cases rx.int'; cases ry.int'
    exact .inl ⟨_, _, rfl, rfl, k ρ _ H (Nx.refl rs) (.int _)⟩
  · rename_i xs ys
    split at e
    · rename_i h
      cases e
      obtain ⟨p, vs, rfl, h1, a1⟩ := rx.tup'
      obtain ⟨q, us, rfl, h2, a2⟩ := ry.tup'
      have l1 := a1.length
      have l2 := a2.length
      refine .inr (.inl ⟨p, q, vs, us, rfl, rfl, SqT.of h1, SqT.of h2, ?_, line_le (by omega), fun z => ?_, fun _ l hl => ?_⟩)
      · intro z; subst z
        have : xs = [] := List.length_eq_zero_iff.mp (by simpa using l1)
        exact h.1 this
      · subst z
        have : ys = [] := List.length_eq_zero_iff.mp (by simpa using l2)
        subst this
        rw [List.append_nil] at k
        exact k ρ _ H (Nx.refl rs) (.tup h1 a1)
      · have n := Nx.same rs (same_new (z := .tup (vs ++ us)) hl)
        exact k ρ _ _ n (.tup upd_same ((a1.append a2).up n.up))
    · cases e
  · obtain ⟨p, e1, e⟩ := bnd e
    obtain ⟨q, e2, e⟩ := bnd e
    split at e
    · rename_i h
      cases e
      obtain ⟨_, hp, vs, rfl, h1, a1⟩ := rs.lstOf rx e1
      obtain ⟨_, hq, us, rfl, h2, a2⟩ := rs.lstOf ry e2
      have l1 := a1.length
      have l2 := a2.length
      refine .inr (.inr ⟨_, _, vs, us, rfl, rfl, h1, h2, line_le (by omega), fun l hl => ?_⟩)
      obtain ⟨n, r⟩ := Nx.alloc rs hl (a1.append a2)
      exact k _ _ _ n r
    · cases e
theorem op_addQ : OpR X (binaryOp .Add) (fun x y H Q => (rI0 fun i j => .int (i + j)) x y H Q ∨ (rCatT X.K x y H Q ∨ rCat x y H Q)) := op_add.or (op_catT.or op_cat)
theorem atD_of {α : Type} {xs : List α} {i : Int} : Qm.atD xs i = atI xs i := rfl
theorem lk_ix {K : PySem.W.Frag} : Lk2 K (rIx K) Qm.gIx := by
  intro ρ c H x y d c' v u Q rs rx ry e k
  obtain ⟨xs, e1, e⟩ := bnd e
  obtain ⟨i, e2, e⟩ := bnd e
  obtain ⟨d', e3, e⟩ := bnd e
  cases e
  cases asI_of e2
  cases ry.int'
  obtain ⟨p, vs, rfl, h, a⟩ := rs.seq rx e1
  obtain ⟨j, hj, hx⟩ := bnd (show (Qm.ixD xs.length i).bind (fun j => xs[j]?) = some d from e3)
  obtain ⟨w, hw, rw'⟩ := a.get hx
  have hat : atI vs i = some w := by
    show (ixN vs.length i).bind (fun j => vs[j]?) = some w
    rw [← a.length, show ixN xs.length i = some j from hj]
    exact hw
  rcases h with h | h
  · exact .inl ⟨p, vs, i, w, rfl, rfl, h, hat, k ρ _ H (Nx.refl rs) rw'⟩
  · exact .inr (.inl ⟨p, vs, i, w, rfl, rfl, SqT.of h, hat, k ρ _ H (Nx.refl rs) rw'⟩)
theorem qe_item (ha : QE X a fa) (hb : QE X b fb) (hs : PlainIx b) : QE X (.Subscript a b pos) (Qm.e2 Qm.gIx fa fb) := qe_ix ix_seq lk_ix ha hb hs
theorem qe_one {op} (h : QE X a fa) : QE X (.BoolOp op [a] pos) fa := pe_one h
theorem qe_and {rest : List Expr} (ha : QE X a fa) (hb : QE X (.BoolOp .And (b :: rest) pos) fb) : QE X (.BoolOp .And (a :: b :: rest) pos) (Qm.eAnd fa fb) := (pe_and ha hb).imp fun σ H Q ⟨ρ, env, c, d, c', rs, re, e, k⟩ => by
  obtain ⟨p, e1, e⟩ := bnd e
  obtain ⟨i, e2, e⟩ := bnd e
  refine ⟨ρ, env, c, p.1, p.2, rs, re, e1, fun ρ1 v H1 n1 r1 => ?_⟩
  rw [asB_of e2] at r1
  cases r1.bl'
  refine ⟨i, rfl, ?_⟩
  split at e
  · rename_i hi
    rw [if_pos hi]
    exact ⟨ρ1, env, p.2, d, c', n1.rs, re.up n1.up, e, fun ρ' w H' n r => k ρ' w H' (n1.trans n) r⟩
  · rename_i hi
    rw [if_neg hi]
    cases e
    exact k ρ1 _ H1 n1 (.bl _)
theorem qa_nil : QA X [] Qm.aNil := pa_nil.imp fun σ H Q ⟨ρ, env, c, ds, c', rs, re, e, k⟩ => by
  cases e
  exact k ρ [] H (Nx.refl rs) .nil
theorem qa_cons {fr : Qm.XA} (ha : QE X e fa) (hr : QA X es fr) (hs : starEach (e :: es) X.env = (false, eval e X.env) :: starEach es X.env := by rfl) : QA X (e :: es) (Qm.aCons fa fr) := (pa_cons ha hr hs).imp fun σ H Q ⟨ρ, env, c, ds, c', rs, re, e, k⟩ => by
  obtain ⟨p, e1, e⟩ := bnd e
  obtain ⟨q, e2, e⟩ := bnd e
  cases e
  exact ⟨ρ, env, c, p.1, p.2, rs, re, e1, fun ρ1 v H1 n1 r1 => ⟨ρ1, env, p.2, q.1, q.2, n1.rs, re.up n1.up, e2, fun ρ2 vs H2 n2 r2 => k ρ2 (v :: vs) H2 (n1.trans n2) (.cons (r1.up n2.up) r2)⟩⟩
theorem qe_lst {f : Qm.XA} (h : QA X es f) : QE X (.List es pos) (Qm.eLst f) := (pe_lst h).imp fun σ H Q ⟨ρ, env, c, d, c', rs, re, e, k⟩ => by
  obtain ⟨p, e1, e⟩ := bnd e
  split at e
  · rename_i hz
    cases e
    refine ⟨ρ, env, c, p.1, p.2, rs, re, e1, fun ρ1 vs H1 n1 r1 => ⟨line_le (by rw [← r1.length]; exact hz), fun l hl => ?_⟩⟩
    obtain ⟨n, r⟩ := Nx.alloc n1.rs hl r1
    exact k _ _ _ (n1.trans n) r
  · cases e
def spD (K : PySem.W.Frag) (F : Qm.FN) : Sp := fun vs H Q _ => ∃ ρ c ds d c', RS K ρ c H ∧ RA K ρ c.length H ds vs ∧ F ds c = some (d, c') ∧ ∀ ρ' v H', Nx K ρ c H ρ' c' H' → RD K ρ' c'.length H' d v → Q v H'
theorem tCall_q {K : PySem.W.Frag} {F : Qm.FN} {f : Qm.XA} {ds : List Qm.D} {dvs : List V} {E : XK} (hd : ∀ ρ N H, RA K ρ N H ds dvs) {σ : St} {H : Hp} {Q : VK} (h : TQ K (Qm.eCall F ds f) σ H Q) : tCall (spD K F) dvs E (AQ K f) σ H Q := by
  obtain ⟨ρ, env, c, d, c', rs, re, e, k⟩ := h
  obtain ⟨p, e1, e⟩ := bnd e
  exact ⟨ρ, env, c, p.1, p.2, rs, re, e1, fun ρ1 vs H1 n1 r1 => ⟨ρ1, p.2, p.1 ++ ds, d, c', n1.rs, r1.append (hd _ _ _), e, fun ρ' v H' n r => k ρ' v H' (n1.trans n) r⟩⟩
theorem qe_call {k : Nat} {f : Addr} {fd : FuncData} {ps : List Str} {F : Qm.FN} {dvs : List V} {ds : List Value} {x : Str} {p : Pos} {fx : Qm.XA} (qs : List Qm.D) (G : FnOk X.prog X.w X.K X.mg X.base CX0 k f fd ps (spD X.K F)) (hr : Room k X.A) (hg : Gl X x) (hm : X.mg x = some (.ref f)) (hk : PySem.W.keepIn X.K (.ref f) = true) (hb : Binds X.K fd ps ds) (hd : Vals dvs ds) (hq : ∀ ρ N H, RA X.K ρ N H qs dvs)
    (ha : QA X (e :: es) fx) (hdb : (x == ("__debug__" : Str)) = false := by decide) (he : starEach (e :: es) X.env = (false, eval e X.env) :: starEach es X.env := by rfl) (hpl : (backTo pos (starEach es X.env)).any (·.1) = false := by rfl) :
    QE X (.Call (.Name x p) (e :: es) [] pos) (Qm.eCall F qs fx) := (pe_call (E := E0) G hr hg hm hk hb hd pass0 ha hdb he hpl).imp fun _ _ _ h => tCall_q hq h
def LkF (K : PySem.W.Frag) (r : List V → Hp → VK → Prop) (F : Qm.FN) : Prop := ∀ ρ c H ds d c' vs Q, RS K ρ c H → RA K ρ c.length H ds vs → F ds c = some (d, c') → (∀ ρ' w H', Nx K ρ c H ρ' c' H' → RD K ρ' c'.length H' d w → Q w H') → r vs H Q
theorem tCB_q {K : PySem.W.Frag} {r : List V → Hp → VK → Prop} {F : Qm.FN} (hl : LkF K r F) {f : Qm.XA} {σ : St} {H : Hp} {Q : VK} (h : TQ K (Qm.eB F f) σ H Q) : tCB r (AQ K f) σ H Q := by
  obtain ⟨ρ, env, c, d, c', rs, re, e, k⟩ := h
  obtain ⟨p, e1, e⟩ := bnd e
  exact ⟨ρ, env, c, p.1, p.2, rs, re, e1, fun ρ1 vs H1 n1 r1 => hl ρ1 p.2 H1 p.1 d c' vs Q n1.rs r1 e fun ρ' v H' n r => k ρ' v H' (n1.trans n) r⟩
theorem qe_callB {id : String} {r : List V → Hp → VK → Prop} {F : Qm.FN} {x : Str} {p : Pos} {f : Qm.XA} (hc : CallR X (.builtin id) r) (hl : LkF X.K r F) (hg : Gl X x) (hm : X.mg x = none) (hv : bootBuiltins x = some (.builtin id)) (ha : QA X (e :: es) f) (hn : x ≠ "__name__" := by decide) (hdb : (x == ("__debug__" : Str)) = false := by decide)
    (he : starEach (e :: es) X.env = (false, eval e X.env) :: starEach es X.env := by rfl) (hpl : (backTo pos (starEach es X.env)).any (·.1) = false := by rfl) : QE X (.Call (.Name x p) (e :: es) [] pos) (Qm.eB F f) := (pe_callB hc hg hm hv ha hn hdb he hpl).imp fun _ _ _ h => tCB_q hl h
theorem qe_callTy {id : String} {r : List V → Hp → VK → Prop} {F : Qm.FN} {x : Str} {p : Pos} {f : Qm.XA} (hc : CallR X (.type id) r) (hl : LkF X.K r F) (hg : Gl X x) (hm : X.mg x = none) (hv : bootBuiltins x = some (.type id)) (ha : QA X (e :: es) f) (hn : x ≠ "__name__" := by decide) (hdb : (x == ("__debug__" : Str)) = false := by decide)
    (he : starEach (e :: es) X.env = (false, eval e X.env) :: starEach es X.env := by rfl) (hpl : (backTo pos (starEach es X.env)).any (·.1) = false := by rfl) : QE X (.Call (.Name x p) (e :: es) [] pos) (Qm.eB F f) := (pe_callTy hc hg hm hv ha hn hdb he hpl).imp fun _ _ _ h => tCB_q hl h
end
end L2
namespace L2
open PySem PySem.Spec PyProof.Rows
section
variable {X : Cx} {a b e : Expr} {es : List Expr} {fa fb fc fe : Qm.XE} {ft fu : Qm.XT} {pos : Pos}
theorem tB_q {K : PySem.W.Frag} {t : TE} {f : Qm.XE} (ht : ∀ σ H Q, TQ K f σ H Q → t σ H Q) {σ : St} {H : Hp} {Q : Bool → Hp → Prop} (h : BQ K (Qm.tV f) σ H Q) : t σ H fun x H1 => ∃ k, x = .bl k ∧ Q k H1 := by
  obtain ⟨ρ, env, c, d, c', rs, re, e, k⟩ := h
  obtain ⟨p, e1, e⟩ := bnd e
  obtain ⟨i, e2, e⟩ := bnd e
  cases e
  refine ht σ H _ ⟨ρ, env, c, p.1, p.2, rs, re, e1, fun ρ1 v H1 n1 r1 => ?_⟩
  rw [asB_of e2] at r1
  cases r1.bl'
  exact ⟨_, rfl, k ρ1 H1 n1⟩
theorem qt_val (h : QE X e fe) (he : ∀ whole, isTrue e X.env whole = (do let v ← whole; standAt e.pos; holding [v] (truthy v)) := by intro _; rfl) : QT X e (Qm.tV fe) := (pt_val h he).imp fun _ _ _ q => tB_q (fun _ _ _ z => z) q
theorem qt_cmp {op : CmpOp} {r : R2} {g : Qm.G2} (ho : OpR X (compareOp op) r) (hl : Lk2 X.K r g) (ha : QE X a fa) (hb : QE X b fb) (hm : behindInMarks op b = false) : QT X (.Compare a [op] [b] pos) (Qm.tV (Qm.e2 g fa fb)) := (pt_cmpR ho ha hb hm).imp fun _ _ _ q => tB_q (fun _ _ _ z => tOp_q hl z) q
theorem qw_or1 (ha : QT X a ft) : QW X (.BoolOp .Or [a] pos) ft := pw_or1 ha
theorem qw_or {rest : List Expr} (ha : QT X a ft) (hb : QW X (.BoolOp .Or (b :: rest) pos) fu) : QW X (.BoolOp .Or (a :: b :: rest) pos) (Qm.tOr ft fu) := (pw_or ha hb).imp fun σ H Q ⟨ρ, env, c, d, c', rs, re, e, k⟩ => by
  obtain ⟨p, e1, e⟩ := bnd e
  refine ⟨ρ, env, c, p.1, p.2, rs, re, e1, fun ρ1 H1 n1 => ?_⟩
  split at e
  · rename_i hi
    rw [if_pos hi]
    cases e
    exact k ρ1 H1 n1
  · rename_i hi
    rw [if_neg hi]
    exact ⟨ρ1, env, p.2, d, c', n1.rs, re.up n1.up, e, fun ρ' H' n => k ρ' H' (n1.trans n)⟩
theorem qt_not (ha : QT X a ft) : QT X (.UnaryOp .Not a pos) (Qm.tNot ft) := (pt_not ha).imp fun σ H Q ⟨ρ, env, c, d, c', rs, re, e, k⟩ => by
  obtain ⟨p, e1, e⟩ := bnd e
  cases e
  exact ⟨ρ, env, c, p.1, p.2, rs, re, e1, fun ρ1 H1 n1 => k ρ1 H1 n1⟩
end
section
variable {prog : Program} {w : World} {A : Around} {E : Value → Shared → Prop} {s : Shared}
end
section
variable {X : Cx} {a b e : Expr} {es : List Expr} {fa fb fc fe : Qm.XE} {ft fu : Qm.XT} {pos p2 : Pos} {lo hi : Option Expr} {fl fh : Qm.XO}
theorem one_of {g : Qm.G1} {ds : List Qm.D} {c : Qm.Cells} {z} (h : Qm.one g ds c = some z) : ∃ x, ds = [x] ∧ g x c = some z := by
  unfold Qm.one at h
  split at h
  · exact ⟨_, rfl, h⟩
  · cases h
theorem lk_abs {K : PySem.W.Frag} : LkF K (fun xs H Q => ∃ i, xs = [.int i] ∧ Q (.int (if i < 0 then -i else i)) H) Qm.bAbs := by
  intro ρ c H ds d c' vs Q rs ra e k
  obtain ⟨x, rfl, e⟩ := one_of e
  obtain ⟨v, rfl, rx⟩ := ra.one'
  obtain ⟨i, e1, e⟩ := bnd e
  cases e
  cases asI_of e1
  cases rx.int'
  exact ⟨i, rfl, k ρ _ H (Nx.refl rs) (.int _)⟩
theorem lk_len {K : PySem.W.Frag} : LkF K (fun xs H Q => ∃ p ys, xs = [.ref p] ∧ (SqL K H p ys ∨ SqT K H p ys) ∧ Q (.int ys.length) H) Qm.bLen := by
  intro ρ c H ds d c' vs Q rs ra e k
  obtain ⟨x, rfl, e⟩ := one_of e
  obtain ⟨v, rfl, rx⟩ := ra.one'
  obtain ⟨xs, e1, e⟩ := bnd e
  cases e
  obtain ⟨p, ws, rfl, h, a⟩ := rs.seq rx e1
  exact ⟨p, ws, rfl, h.imp id SqT.of, k ρ _ H (Nx.refl rs) (by rw [a.length]; exact .int _)⟩
theorem lk_intB {K : PySem.W.Frag} : LkF K (fun xs H Q => (∃ i, xs = [.int i] ∧ Q (.int i) H) ∨ ∃ k, xs = [.bl k] ∧ Q (.int (if k then 1 else 0)) H) Qm.bInt := by
  intro ρ c H ds d c' vs Q rs ra e k
  obtain ⟨x, rfl, e'⟩ := one_of e
  obtain ⟨v, rfl, rx⟩ := ra.one'
  split at e'
  · cases e'
    cases rx.int'
    exact .inl ⟨_, rfl, k ρ _ H (Nx.refl rs) (.int _)⟩
  · cases e'
    cases rx.bl'
    exact .inr ⟨_, rfl, k ρ _ H (Nx.refl rs) (.int _)⟩
  · cases e'
end
end L2
namespace L2
open PySem PySem.Spec PyProof.Rows
section
variable {X : Cx} {a b e tg : Expr} {es : List Expr} {fa fb fc fe : Qm.XE} {ft fu : Qm.XT} {pos : Pos} {st : Stmt} {rest : List Stmt} {fs fr : Qm.XS} {fg : Qm.XG}
theorem qss_nil : QSs X [] Qm.sNil := pss_nil.imp fun D σ H ⟨ρ, env, c, fl, env', c', rs, re, e, k⟩ => by
  cases e
  exact k ρ H (Nx.refl rs) σ re
theorem qss_cons (h1 : QS X st fs) (h2 : QSs X rest fr) : QSs X (st :: rest) (Qm.sSeq fs fr) := (pss_cons h1 h2).imp fun D σ H ⟨ρ, env, c, fl, env', c', rs, re, e, k⟩ => by
  obtain ⟨p, e1, e⟩ := bnd e
  obtain ⟨f, e2, c2⟩ := p
  cases f with
  | nx => exact ⟨ρ, env, c, .nx, e2, c2, rs, re, e1, fun ρ1 H1 n1 σ1 re1 => ⟨ρ1, e2, c2, fl, env', c', n1.rs, re1, e, fun ρ' H' n => k ρ' H' (n1.trans n)⟩⟩
  | rt d => cases e; exact ⟨ρ, env, c, .rt d, env', c', rs, re, e1, fun ρ1 H1 n1 => k ρ1 H1 n1⟩
  | bk => cases e; exact ⟨ρ, env, c, .bk, env', c', rs, re, e1, fun ρ1 H1 n1 => k ρ1 H1 n1⟩
  | ct => cases e; exact ⟨ρ, env, c, .ct, env', c', rs, re, e1, fun ρ1 H1 n1 => k ρ1 H1 n1⟩
theorem qss_one (h1 : QS X st fs) : QSs X [st] fs := pss_one h1
theorem qs_ret (he : QE X e fe) : QS X (.Return (some e) pos) (Qm.sRet fe) := (ps_ret he).imp fun D σ H ⟨ρ, env, c, fl, env', c', rs, re, e, k⟩ => by
  obtain ⟨p, e1, e⟩ := bnd e
  cases e
  exact ⟨ρ, env, c, p.1, p.2, rs, re, e1, fun ρ1 v H1 n1 r1 => k ρ1 H1 n1 v r1⟩
theorem qs_if {c0 : Expr} {x y : List Stmt} (hc : QT X c0 ft) (ha : QSs X x fs) (hb : QSs X y fr) : QS X (.If c0 x y pos) (Qm.sIf ft fs fr) := (ps_if hc ha hb).imp fun D σ H ⟨ρ, env, c, fl, env', c', rs, re, e, k⟩ => by
  obtain ⟨p, e1, e⟩ := bnd e
  refine ⟨ρ, env, c, p.1, p.2, rs, re, e1, fun ρ1 H1 n1 => ?_⟩
  split at e
  · rename_i hi
    rw [if_pos hi]
    exact ⟨ρ1, env, p.2, fl, env', c', n1.rs, re.up n1.up, e, fun ρ' H' n => k ρ' H' (n1.trans n)⟩
  · rename_i hi
    rw [if_neg hi]
    exact ⟨ρ1, env, p.2, fl, env', c', n1.rs, re.up n1.up, e, fun ρ' H' n => k ρ' H' (n1.trans n)⟩
theorem qs_set {i : Nat} {x : Str} {pos' : Pos} (hN : X.N.Nodup) (hi : X.N[i]? = some x) (hx : Loc X.env.scope x) (he : QE X e fe) (hs : swapsWith e (some (.Name x pos')) pos.line X.env = pure false := by rfl) (hf : X.fn x = true ∨ X.env.scope.names.lookup x = some .local := by first | exact .inl rfl | exact .inr rfl | assumption) :
    QS X (.Assign [.Name x pos'] e pos) (Qm.sSet i fe) := (ps_set hN hi hx he hs hf).imp fun D σ H ⟨ρ, env, c, fl, env', c', rs, re, e, k⟩ => by
  obtain ⟨p, e1, e⟩ := bnd e
  cases e
  exact ⟨ρ, env, c, p.1, p.2, rs, re, e1, fun ρ1 v H1 n1 r1 => k ρ1 H1 n1 _ ((re.up n1.up).set r1)⟩
theorem qs_asg (he : QE X e fe) (hg : QG X tg fg) (hs : swapsWithSole [tg] e pos.line X.env = pure false := by rfl) (hw : swappedStores [tg] e X.env = pure none := by rfl)
    (h1 : (assignEach [tg] X.env).map (·.2) = [assign tg X.env] := by rfl) : QS X (.Assign [tg] e pos) (Qm.sAsg fe fg) := (ps_asg he hg hs hw h1).imp fun D σ H ⟨ρ, env, c, fl, env', c', rs, re, e, k⟩ => by
  obtain ⟨p, e1, e⟩ := bnd e
  obtain ⟨q, e2, e⟩ := bnd e
  cases e
  exact ⟨ρ, env, c, p.1, p.2, rs, re, e1, fun ρ1 v H1 n1 r1 => ⟨ρ1, env, p.2, p.1, q.1, q.2, n1.rs, re.up n1.up, r1, e2, fun ρ' H' σ' n re' => k ρ' H' (n1.trans n) σ' re'⟩⟩
theorem qg_name {i : Nat} {x : Str} (hN : X.N.Nodup) (hi : X.N[i]? = some x) (hx : Loc X.env.scope x) (hf : X.fn x = true ∨ X.env.scope.names.lookup x = some .local := by first | exact .inl rfl | exact .inr rfl | assumption) : QG X (.Name x pos) (Qm.gName i) := (pg_name hN hi hx hf).imp fun v σ H Q ⟨ρ, env, c, d, env', c', rs, re, rd, e, k⟩ => by
  cases e
  exact k ρ H _ (Nx.refl rs) (re.set rd)
theorem qg_put {o i : Expr} {fo fi : Qm.XE} (ho : QE X o fo) (hi : QE X i fi)
    (ha : ∀ v, assign (.Subscript o i pos) X.env v = (do
      let ov ← holding [v] (eval o X.env)
      let iv ← holding [v, ov] (eval i X.env)
      standAt pos
      holding [v, ov, iv] (setItem ov iv v)
      release [v, ov, iv] []) := by intro _; rfl) : QG X (.Subscript o i pos) (Qm.gPut fo fi) := (pg_sub ho hi set_list ha).imp fun v σ H Q ⟨ρ, env, c, d, env', c', rs, re, rd, e, k⟩ => by
  obtain ⟨p, e1, e⟩ := bnd e
  obtain ⟨q, e2, e⟩ := bnd e
  obtain ⟨l, e3, e⟩ := bnd e
  obtain ⟨m, e4, e⟩ := bnd e
  obtain ⟨j, e5, e⟩ := bnd e
  cases e
  refine ⟨ρ, env, c, p.1, p.2, rs, re, e1, fun ρ1 v1 H1 n1 r1 => ⟨ρ1, env, p.2, q.1, q.2, n1.rs, re.up n1.up, e2, fun ρ2 v2 H2 n2 r2 => ?_⟩⟩
  rw [asI_of e4] at r2
  cases r2.int'
  obtain ⟨_, hn, ws, rfl, h, a⟩ := n2.rs.lstOf (r1.up n2.up) e3
  have n := Nx.put n2.rs hn (RA.set (rd.up (n1.trans n2).up) j a)
  refine ⟨_, ws, m, j, rfl, rfl, h, by rw [← a.length]; exact e5, ?_⟩
  exact k ρ2 _ σ (n1.trans (n2.trans n)) (re.up (n1.trans (n2.trans n)).up)
theorem rng_get {lo : Int} {n i : Nat} {d : Qm.D} (h : (Qm.rng lo n)[i]? = some d) : i < n ∧ d = .int (lo + i) := by
  unfold Qm.rng at h
  rw [List.getElem?_map] at h
  by_cases hi : i < n
  · rw [List.getElem?_range hi] at h
    cases h
    exact ⟨hi, rfl⟩
  · rw [List.getElem?_eq_none_iff.mpr (by simpa using Nat.le_of_not_lt hi)] at h
    cases h
theorem it_rng {K : PySem.W.Frag} {ρ : Nat → Addr} {N : Nat} {H : Hp} {lo : Int} {n : Nat} : ItOk K ρ N H ⟨Qm.rng lo n, []⟩ (Itr lo n) := fun ρ c H u rs _ => by
  have hl : (Qm.rng lo n).length = n := by simp [Qm.rng]
  refine ⟨fun i hi => by show i < n; rw [← hl]; exact hi, by show n ≤ (Qm.rng lo n).length; omega, fun i d x H' hd hy => ?_⟩
  obtain ⟨rfl, rfl⟩ := hy
  obtain ⟨_, rfl⟩ := rng_get hd
  exact ⟨Nx.refl rs, .int _⟩
theorem qi_range1 {f : Qm.XA} {p : Pos} (hg : Gl X "range") (hm : X.mg "range" = none) (ha : QA X [a] f) (hs : starEach [a] X.env = [(false, eval a X.env)] := by rfl) : QI X tg (.Call (.Name "range" p) [a] [] pos) (Qm.iRng1 f) := (pi_range1 hg hm ha hs).imp fun σ H R ⟨ρ, env, c, m, c', rs, re, e, k⟩ => by
  obtain ⟨p, e1, e⟩ := bnd e
  refine ⟨ρ, env, c, p.1, p.2, rs, re, e1, fun ρ1 vs H1 n1 r1 => ?_⟩
  split at e
  · rename_i j hj
    split at e
    · rename_i hb
      cases e
      rw [hj] at r1
      obtain ⟨v, rfl, rv⟩ := r1.one'
      cases rv.int'
      exact ⟨j, rfl, hb.1, hb.2, k ρ1 _ H1 n1 it_rng⟩
    · cases e
  · cases e
theorem qs_for {body : List Stmt} {fi : Qm.XI} (hp : PassesOwn (model X.prog X.w) X.A X.env X.xe) (hc : X.calm = true) (hi : QI X tg e fi) (hg : QG X tg fg) (hb : QSs X body fs)
    (hs : ∀ x, foldedSetIterable e X.env x = pure x := by intro _; rfl) : QS X (.For tg e body [] pos) (Qm.sFor fi fg fs) := (ps_for hp hc hi hg hb hs).imp fun D σ H ⟨ρ, env, c, fl, env', c', rs, re, e, k⟩ => by
  obtain ⟨m, e1, e⟩ := bnd e
  refine ⟨ρ, env, c, m.1, m.2, rs, re, e1, fun ρ0 J H0 n0 it => ?_⟩
  refine ⟨fun i q σ' H' => q = m.1.ds.length - i ∧ i ≤ m.1.ds.length ∧ ∃ ρ1 env1 c1, Nx X.K ρ0 m.2 H0 ρ1 c1 H' ∧ RE X.K ρ1 c1.length H' env1 σ' ∧ Qm.forGo m.1.ks fg fs (m.1.ds.drop i) env1 c1 = some (fl, env', c'), ⟨_, rfl, Nat.zero_le _, ρ0, env, m.2, Nx.refl n0.rs, re.up n0.up, e⟩, ?_⟩
  rintro i q σ1 H1 ⟨rfl, hi, ρ1, env1, c1, n1, re1, e1⟩
  by_cases hlt : i < m.1.ds.length
  · rw [List.drop_eq_getElem_cons hlt] at e1
    unfold Qm.forGo at e1
    split at e1
    · rename_i hst
      obtain ⟨go, _, yl⟩ := it ρ1 c1 H1 n1.up n1.rs hst
      obtain ⟨p, e2, e1⟩ := bnd e1
      obtain ⟨q, e3, e1⟩ := bnd e1
      refine .inr ⟨go i hlt, fun σ' H' => i + 1 ≤ m.1.ds.length ∧ ∃ ρ1 env1 c1, Nx X.K ρ0 m.2 H0 ρ1 c1 H' ∧ RE X.K ρ1 c1.length H' env1 σ' ∧ Qm.forGo m.1.ks fg fs (m.1.ds.drop (i + 1)) env1 c1 = some (fl, env', c'), fun σ' H' h => ⟨m.1.ds.length - (i + 1), by omega, rfl, h⟩, fun x H2 hy => ?_⟩
      obtain ⟨n2, r2⟩ := yl i _ x H2 (List.getElem?_eq_getElem hlt) hy
      refine ⟨ρ1, env1, c1, _, p.1, p.2, n2.rs, re1.up n2.up, r2, e2, fun ρ3 H3 σ3 n3 re3 => ?_⟩
      obtain ⟨f, env4, c4⟩ := q
      refine ⟨ρ3, p.1, p.2, f, env4, c4, n3.rs, re3, e3, fun ρ4 H4 n4 => ?_⟩
      have nn := n1.trans (n2.trans (n3.trans n4))
      cases f with
      | nx => exact fun σ4 re4 => ⟨hlt, ρ4, env4, c4, nn, re4, e1⟩
      | ct => exact fun σ4 re4 => ⟨hlt, ρ4, env4, c4, nn, re4, e1⟩
      | bk => cases e1; exact fun σ4 re4 => k ρ4 H4 (n0.trans nn) σ4 re4
      | rt d => cases e1; exact fun v rv => k ρ4 H4 (n0.trans nn) v rv
    · cases e1
  · have hi' : i = m.1.ds.length := by omega
    subst hi'
    rw [List.drop_length] at e1
    unfold Qm.forGo at e1
    split at e1
    · rename_i hst
      obtain ⟨_, stop, _⟩ := it ρ1 c1 H1 n1.up n1.rs hst
      cases e1
      exact .inl ⟨stop, k ρ1 H1 (n0.trans n1) σ1 re1⟩
    · cases e1
theorem qifs_none : QIfs X [] Qm.tYes := ifs_none.imp fun σ H Q ⟨ρ, env, c, b, c', rs, re, e, k⟩ => by
  cases e
  exact k ρ H (Nx.refl rs)
theorem qifs_one {c0 : Expr} (h : QT X c0 ft) : QIfs X [c0] ft := ifs_one h
theorem RE.tau {K : PySem.W.Frag} {ρ : Nat → Addr} {N : Nat} {H : Hp} {env : Qm.Env} {σ : St} (re : RE K ρ N H env σ) (cap : List (Option Nat)) : RE K ρ N H (Qm.capt env cap) (tau σ cap) := by
  refine ⟨by simp [Qm.capt, L2.tau], fun j d h => ?_⟩
  unfold Qm.capt at h
  unfold L2.tau
  rw [List.getElem?_map] at h ⊢
  cases e : cap[j]? with
  | none => rw [e] at h; cases h
  | some o =>
    rw [e] at h
    cases o with
    | none => simp at h
    | some i =>
      simp only [Option.map_some, Option.some.injEq] at h
      cases e2 : env[i]? with
      | none => rw [e2] at h; cases h
      | some w =>
        rw [e2] at h
        have h' : w = some d := h
        subst h'
        obtain ⟨v, h1, h2⟩ := re.at_ i d e2
        refine ⟨v, ?_, h2⟩
        simp [h1]
theorem tComp_q {K : PySem.W.Frag} {fi : Qm.XI} {cap : List (Option Nat)} {σ : St} {H : Hp} {Q : VK} (h : TQ K (Qm.eComp fi cap fg ft fe) σ H Q) : tComp (IQ K fi) cap (GQ K fg) (BQ K ft) (TQ K fe) σ H Q := by
  obtain ⟨ρ, env, c, d, c', rs, re, e, k⟩ := h
  obtain ⟨m, e1, e⟩ := bnd e
  obtain ⟨cz, e2, e⟩ := bnd e
  cases e
  refine ⟨ρ, env, c, m.1, m.2, rs, re, e1, fun ρ0 J H0 n0 it l hl => ?_⟩
  obtain ⟨na, ra⟩ := Nx.alloc n0.rs hl (ds := []) (vs := []) .nil
  generalize hρ : (fun n => if n = m.2.length then l else ρ0 n) = ρa at na ra
  have hL : ρa m.2.length = l := by rw [← hρ]; simp
  have hlen : (m.2 ++ [Qm.Cell.lst []]).length = m.2.length + 1 := by simp
  have fin : ∀ {ρ1 : Nat → Addr} {c1 : Qm.Cells} {H1 : Hp}, Nx K ρa (m.2 ++ [.lst []]) (upd H0 l (.lst [])) ρ1 c1 H1 → ρ1 m.2.length = l := fun n => by rw [n.up.agree _ (by rw [hlen]; omega), hL]
  refine ⟨fun i q τ H' => q = m.1.ds.length - i ∧ i ≤ m.1.ds.length ∧ ∃ ρ1 env1 c1, Nx K ρa (m.2 ++ [.lst []]) (upd H0 l (.lst [])) ρ1 c1 H' ∧ RE K ρ1 c1.length H' env1 τ ∧ Qm.compGo m.2.length m.1.ks fg ft fe (m.1.ds.drop i) env1 c1 = some c',
    ⟨_, rfl, Nat.zero_le _, ρa, _, _, Nx.refl na.rs, ((re.up n0.up).up na.up).tau cap, e2⟩, ?_⟩
  rintro i q τ H1 ⟨rfl, hi, ρ1, env1, c1, n1, re1, e1⟩
  have it1 := it ρ1 c1 H1 (na.up.trans n1.up) n1.rs
  by_cases hlt : i < m.1.ds.length
  · rw [List.drop_eq_getElem_cons hlt] at e1
    unfold Qm.compGo at e1
    split at e1
    · rename_i hst
      obtain ⟨go, _, yl⟩ := it1 hst
      obtain ⟨p, e2, e1⟩ := bnd e1
      obtain ⟨b, e3, e1⟩ := bnd e1
      refine .inr ⟨go i hlt, fun τ H' => i + 1 ≤ m.1.ds.length ∧ ∃ ρ1 env1 c1, Nx K ρa (m.2 ++ [.lst []]) (upd H0 l (.lst [])) ρ1 c1 H' ∧ RE K ρ1 c1.length H' env1 τ ∧ Qm.compGo m.2.length m.1.ks fg ft fe (m.1.ds.drop (i + 1)) env1 c1 = some c', fun σ' H' h => ⟨m.1.ds.length - (i + 1), by omega, rfl, h⟩, fun x H2 hy => ?_⟩
      obtain ⟨n2, r2⟩ := yl i _ x H2 (List.getElem?_eq_getElem hlt) hy
      refine ⟨ρ1, env1, c1, _, p.1, p.2, n2.rs, re1.up n2.up, r2, e2, fun ρ3 H3 σ3 n3 re3 => ?_⟩
      refine ⟨ρ3, p.1, p.2, b.1, b.2, n3.rs, re3, e3, fun ρ4 H4 n4 => ?_⟩
      have nn := n1.trans (n2.trans (n3.trans n4))
      split at e1
      · rename_i hb
        dsimp only
        rw [if_pos hb]
        obtain ⟨y, e4, e1⟩ := bnd e1
        refine ⟨ρ4, p.1, b.2, y.1, y.2, n4.rs, re3.up n4.up, e4, fun ρ5 yv H5 n5 r5 => ?_⟩
        have n15 := nn.trans n5
        split at e1
        · rename_i ys hys
          split at e1
          · rename_i hz
            obtain ⟨vs, h5, a5⟩ := n15.rs.lst hys
            rw [fin n15] at h5
            have n6 := Nx.put n15.rs hys (a5.append (RA.one r5))
            rw [fin n15] at n6
            refine ⟨vs, h5, line_lt (by rw [← a5.length]; exact hz), hlt, ρ5, p.1, _, n15.trans n6, (re3.up (n4.trans (n5.trans n6)).up), e1⟩
          · cases e1
        · cases e1
      · rename_i hb
        dsimp only
        rw [if_neg hb]
        exact ⟨hlt, ρ4, p.1, b.2, nn, re3.up n4.up, e1⟩
    · cases e1
  · have hi' : i = m.1.ds.length := by omega
    subst hi'
    rw [List.drop_length] at e1
    unfold Qm.compGo at e1
    split at e1
    · rename_i hst
      obtain ⟨_, stop, _⟩ := it1 hst
      cases e1
      refine .inl ⟨stop, k ρ1 _ H1 (n0.trans (na.trans n1)) ?_⟩
      rw [← fin n1]
      exact .ref (Nat.lt_of_lt_of_le (by rw [hlen]; omega) n1.up.len)
    · cases e1
theorem qe_comp {tg : Expr} {scope : Scope} {N' : List Str} {cap : List (Option Nat)} {ifs : List Expr} {fi : Qm.XI} (B : BlkOk X scope N' cap) (hc : X.calm = true)
    (hi : QI X tg b fi) (hg : ∀ C s₀ H₀ fp, QG (X.blk scope C N' s₀ H₀ fp) tg fg) (ht : ∀ C s₀ H₀ fp, QIfs (X.blk scope C N' s₀ H₀ fp) ifs ft) (he : ∀ C s₀ H₀ fp, QE (X.blk scope C N' s₀ H₀ fp) e fe)
    (hs : ∀ x, foldedSetIterable b X.env x = pure x := by intro _; rfl) :
    QE X (.ListComp e [⟨tg, b, ifs, 0⟩] scope pos) (Qm.eComp fi cap fg ft fe) := (pe_comp B hc hi hg ht he hs).imp fun _ _ _ h => tComp_q h
theorem fnq_body {K : PySem.W.Frag} {n : Nat} {N : List Str} {B : Qm.XS} {vs : List V} {H : Hp} {Q : VK} {E : XK} (hn : n ≤ N.length) (h : spD K (Qm.mkF n N.length B) vs H Q E) : vs.length = n ∧ SQ K B { nx := fun _ H' => Q .non H', rt := Q } (start N vs) H := by
  obtain ⟨ρ, c, ds, d, c', rs, ra, e, k⟩ := h
  unfold Qm.mkF at e
  split at e
  · rename_i hl
    obtain ⟨p, e1, e⟩ := bnd e
    obtain ⟨f, env', c2⟩ := p
    have hv : vs.length = n := by rw [← ra.length]; exact hl
    refine ⟨hv, ρ, _, c, f, env', c2, rs, ⟨?_, fun i d hd => ?_⟩, e1, fun ρ' H' nx => ?_⟩
    · simp [start, hl, hv]
    · have hi : i < ds.length := by
        by_cases hi : i < ds.length
        · exact hi
        · exfalso
          rw [List.getElem?_append_right (by simp; omega)] at hd
          have := List.mem_of_getElem? hd
          have := List.eq_of_mem_replicate this
          cases this
      rw [List.getElem?_append_left (by simpa using hi), List.getElem?_map] at hd
      cases e : ds[i]? with
      | none => rw [e] at hd; cases hd
      | some d' =>
        rw [e] at hd
        cases hd
        obtain ⟨v, h1, h2⟩ := ra.get e
        refine ⟨v, ?_, h2⟩
        unfold start
        rw [List.getElem?_append_left (by have := ra.length; simp; omega), List.getElem?_map, h1]
        rfl
    · cases f with
      | nx => cases e; exact fun σ' _ => k ρ' .non H' nx .non
      | rt d => cases e; exact fun v rv => k ρ' v H' nx rv
      | bk => cases e
      | ct => cases e
  · cases e
end
section
variable {P : Program} {w : World} {K : PySem.W.Frag} {mg : Str → Option Value} {base : Heap}
theorem Fun.okQ {x qual : Str} {st : Stmt} {f : Addr} {fd : FuncData} {N ps : List Str} {k n m : Nat} {B : Qm.XS} {FF : Qm.FN} (F : Fun K x qual st f fd) (S : FnScope N ps (defScope st)) (hn : ps.length = n) (hm : N.length = m) (hN : n ≤ m) (hF : FF = Qm.mkF n m B)
    (hbody : ∀ (cdv : Value) (A : Around) (outer : List Env) (s : Shared) (H : Hp) (E : XK), Room k (A.deeper (envOfC qual (defScope st) s.heap.objs.size f cdv)) →
      QSs (cxOf CX0 P w K mg base N qual (defScope st) f cdv A outer s H E).nox (defBody st) B) : FnOk P w K mg base CX0 (k + 1) f fd ps (spD K FF) := by
  subst hm hF
  exact F.ok S (fun vs H Q E h => by rw [(fnq_body hN h).1, hn]) fun cdv A outer s H vs Q E hr h => ⟨_, hbody cdv A outer s H E hr, (fnq_body hN h).2⟩
theorem law_sp {F : Qm.FN} {H : Hp} {a : Addr} {ns : List Int} (hO : Only H) (hS : SqL K H a (ns.map V.int)) {c' : Qm.Cells} (h : F [.ref 0] [.ro (ns.map Qm.D.int)] = some (.bl true, c')) : spD K F [.ref a] H (fun v _ => v = .bl true) fun _ _ _ => False := by
  have zs : ∀ ms : List Int, RA K (fun _ => a) 1 H (ms.map Qm.D.int) (ms.map V.int) := fun ms => by
    induction ms with
    | nil => exact .nil
    | cons m ms ih => exact .cons (.int m) ih
  refine ⟨fun _ => a, [.ro (ns.map Qm.D.int)], [.ref 0], .bl true, c', ⟨fun i j z y h1 h2 m1 m2 _ => ?_, fun n z hz => ?_⟩, .cons (.ref (by simp)) .nil, h, fun ρ' v H' n r => r.bl'⟩
  · match i, h1 with
    | 0, h1 =>
      have : z = .ro (ns.map Qm.D.int) := by simpa using h1.symm
      subst this
      cases m1
    | i + 1, h1 => simp at h1
  · match n, hz with
    | 0, hz =>
      have : z = .ro (ns.map Qm.D.int) := by simpa using hz.symm
      subst this
      exact ⟨ns.map V.int, RoOk.of hO hS, zs ns⟩
    | n + 1, hz => simp at hz
end
end L2
namespace L2
open PySem PySem.Spec PyProof.Rows
section
variable {prog : Program} {w : World} {A : Around} {E : Value → Shared → Prop} {s : Shared}
def ZRec (h : Heap) (z TI TO : Addr) (f0 f1 : Value) : Prop := h.get? z = some { cls := .type "zip", dict := none, data := .fields #[f0, f1, .bool false, .ref TI, .ref TO], slots := #[] }
def PairAt (h : Heap) (T : Addr) (a b : Value) : Prop := h.get? T = some { cls := .type "tuple", data := .seq #[a, b] }
structure ZApart (z TI TO i1 i2 t1 t2 : Addr) : Prop where
  nd : [z, TI, TO, i1, i2].Nodup
  n1 : t1 ∉ [z, TI, TO, i1, i2]
  n2 : t2 ∉ [z, TI, TO, i1, i2]
def ZFree (h : Heap) (f0 : Value) : Prop := f0 = .none ∨ ∃ T o, f0 = rawInt (T : Addr) ∧ h.get? T = some o
structure ZSt (h : Heap) (z TI TO i1 i2 t1 t2 : Addr) (xs ys : Array Value) (k : Nat) : Prop where
  ap : ZApart z TI TO i1 i2 t1 t2
  rc : ∃ f0 b1, ZRec h z TI TO f0 (.bool b1) ∧ ZFree h f0
  ti : PairAt h TI (.ref i1) (.ref i2)
  to : ∃ a b, PairAt h TO a b
  j1 : h.IsTupleIter i1 t1 k
  j2 : h.IsTupleIter i2 t2 k
  l1 : h.IsTuple t1 xs
  l2 : h.IsTuple t2 ys
theorem ZSt.type {z TI TO i1 i2 t1 t2 : Addr} {xs ys : Array Value} {k : Nat} (Z : ZSt s.heap z TI TO i1 i2 t1 t2 xs ys k) : s.TypeIs (.ref z) "zip" := by
  obtain ⟨f0, b1, h, _⟩ := Z.rc
  exact ⟨_, h, rfl⟩
end
end L2
namespace L2
open PySem PySem.Spec PyProof.Rows
section
variable {prog : Program} {w : World} {A : Around} {E : Value → Shared → Prop} {s : Shared}
theorem ZSt.at {h h' : Heap} {z TI TO i1 i2 t1 t2 : Addr} {xs ys : Array Value} {k : Nat} (Z : ZSt h z TI TO i1 i2 t1 t2 xs ys k) (up : ∀ c, c ∈ [z, TI, TO, i1, i2, t1, t2] → ∀ o, h.get? c = some o → h'.get? c = some o) (al : ∀ c o, h.get? c = some o → ∃ o', h'.get? c = some o') : ZSt h' z TI TO i1 i2 t1 t2 xs ys k := by
  obtain ⟨D, ⟨f0, b1, hz, hf⟩, gI, ⟨a, b, gO⟩, j1, j2, l1, l2⟩ := Z
  refine ⟨D, ⟨f0, b1, up _ (by simp) _ hz, ?_⟩, up _ (by simp) _ gI, ⟨a, b, up _ (by simp) _ gO⟩, j1.at fun o e => up _ (by simp) o e, j2.at fun o e => up _ (by simp) o e, l1.at fun o e => up _ (by simp) o e, l2.at fun o e => up _ (by simp) o e⟩
  rcases hf with e | ⟨T, o, e, g⟩
  · exact .inl e
  · obtain ⟨o', g'⟩ := al _ _ g
    exact .inr ⟨T, o', e, g'⟩
end
end L2
namespace L2
open PySem PySem.Spec PyProof.Rows
structure Came (h : Heap) (b0 : Nat) (xs ys : Array Value) (Ts : List Addr) (k : Nat) : Prop where
  len : Ts.length = k
  nd : Ts.Nodup
  new : ∀ T ∈ Ts, b0 ≤ T ∧ T < h.objs.size
  at_ : ∀ (i : Nat) (T : Addr), Ts[i]? = some T → ∃ x y, xs[i]? = some x ∧ ys[i]? = some y ∧ PairAt h T x y
theorem Came.nil {h : Heap} {b0 : Nat} {xs ys : Array Value} : Came h b0 xs ys [] 0 := ⟨rfl, List.nodup_nil, fun _ h => (nomatch h), fun i T h => by simp at h⟩
section
variable {prog : Program} {w : World} {A : Around} {s : Shared} {R : Result → Shared → Prop}
end
section
variable {prog : Program} {w : World} {A : Around} {E : Value → Shared → Prop} {s : Shared}
end
end L2
namespace L2
open PySem PySem.Spec PyProof.Rows
section
variable {X : Cx} {pins : List (Addr × Obj)} {σ : St} {H H' : Hp} {s : Shared} {h' : Heap}
end
section
variable {X : Cx}
end
end L2
namespace L2
open PySem PySem.Spec PyProof.Rows
section
variable {X : Cx} {e1 e2 : Expr} {p0 p1 p2 pos : Pos} {f : Qm.XA}
theorem RA.zip {K : PySem.W.Frag} {ρ : Nat → Addr} {N : Nat} {H : Hp} : ∀ {xs ys : List Qm.D} {vs us : List V} {Ts : List Addr}, RA K ρ N H xs vs → RA K ρ N H ys us → Ts.length = min vs.length us.length → (∀ (i : Nat) (T : Addr) (x y : V), Ts[i]? = some T → vs[i]? = some x → us[i]? = some y → H T = some (.tup [x, y])) → RA K ρ N H (Qm.zipD xs ys) (Ts.map V.ref)
  | [], _, _, _, Ts, .nil, _, hl, _ => by
    have : Ts = [] := List.length_eq_zero_iff.mp (by simpa using hl)
    subst this
    exact .nil
  | _ :: _, [], _, _, Ts, .cons _ _, .nil, hl, _ => by
    have : Ts = [] := List.length_eq_zero_iff.mp (by simpa using hl)
    subst this
    exact .nil
  | x :: xs, y :: ys, v :: vs, u :: us, Ts, .cons r1 a1, .cons r2 a2, hl, h => by
    cases Ts with
    | nil => simp at hl
    | cons T Ts =>
      refine .cons (.tup (h 0 T v u rfl rfl rfl) (.cons r1 (.cons r2 .nil))) (RA.zip a1 a2 (by simp at hl ⊢; omega) fun i T' x y h1 h2 h3 => h (i + 1) T' x y (by simpa using h1) (by simpa using h2) (by simpa using h3))
end
end L2
namespace L2
open PySem PySem.Spec PyProof.Rows
end L2
namespace L2
open PySem PySem.Spec PyProof.Rows
section
variable {prog : Program} {w : World} {A : Around} {E : Value → Shared → Prop} {s : Shared}
def IsRv (h : Heap) (a t : Addr) (i : Int) : Prop := ∃ o, h.get? a = some o ∧ o.cls = .type "reversed" ∧ o.data = .fields #[.ref t, rawInt i]
theorem IsRv.at {h h' : Heap} {a t : Addr} {i : Int} (x : IsRv h a t i) (e : ∀ o, h.get? a = some o → h'.get? a = some o) : IsRv h' a t i := let ⟨o, ho, r⟩ := x; ⟨o, e _ ho, r⟩
end
end L2
namespace L2
open PySem PySem.Spec PyProof.Rows
section
variable {prog : Program} {w : World} {A : Around} {E : Value → Shared → Prop} {s : Shared} {I : Addr} {fp wr : List Addr} {G : Array GenState → Array GenState → Prop} {n : Nat} {P : Nat → Value → Prop} {St : Nat → Shared → Prop}
end
end L2
namespace L2
open PySem PySem.Spec PyProof.Rows
section
variable {prog : Program} {w : World} {A : Around} {E : Value → Shared → Prop} {s : Shared} {I : Addr} {fp wr : List Addr} {G : Array GenState → Array GenState → Prop} {P : Nat → Value → Prop} {St : Nat → Shared → Prop}
end
section
variable {X : Cx}
end
end L2
namespace Qm
open PySem
end Qm
namespace L2
open PySem PySem.Spec PyProof.Rows
section
variable {X : Cx} {e1 : Expr} {p0 p1 p2 pos : Pos} {f : Qm.XA}
end
end L2
namespace L2
open PySem PySem.Spec PyProof.Rows
mutual
def nb : PyData → Bool
  | .none => true
  | .int _ => true
  | .str _ => true
  | .tuple ds => nbA ds
  | .list ds => nbA ds
  | _ => false
def nbA : List PyData → Bool
  | [] => true
  | d :: ds => nb d && nbA ds
end
section
variable {K : PySem.W.Frag} {ρ : Nat → Addr} {c : Qm.Cells} {H : Hp}
theorem rdA_of {k : Nat} (rs : RS K ρ c H) (ih : ∀ {x : Qm.D} {v : V} {d : PyData}, RD K ρ c.length H x v → Qm.data c k x = some d → RdV K H v d ∧ PyData.canLay0 d = true ∧ d.depth ≤ k ∧ nb d = true) :
    ∀ {xs : List Qm.D} {vs : List V} {ds : List PyData}, RA K ρ c.length H xs vs → Qm.omap (Qm.data c k) xs = some ds → RdA K H vs ds ∧ PyData.canLayAll0 ds = true ∧ PyData.depthAll ds ≤ k ∧ nbA ds = true
  | [], _, ds, a, h => by
    cases a
    cases h
    exact ⟨.nil, rfl, Nat.zero_le _, rfl⟩
  | x :: xs, _, ds, a, h => by
    cases a with
    | cons r a =>
      obtain ⟨d, h1, h⟩ := bnd h
      obtain ⟨es, h2, h⟩ := bnd h
      cases h
      obtain ⟨a1, a2, a3, a4⟩ := ih r h1
      obtain ⟨b1, b2, b3, b4⟩ := rdA_of rs ih a h2
      exact ⟨.cons a1 b1, by simp [PyData.canLayAll0, a2, b2], by simp only [PyData.depthAll]; omega, by simp [nbA, a4, b4]⟩
theorem rdV_of (rs : RS K ρ c H) : ∀ (k : Nat) {x : Qm.D} {v : V} {d : PyData}, RD K ρ c.length H x v → Qm.data c k x = some d → RdV K H v d ∧ PyData.canLay0 d = true ∧ d.depth ≤ k ∧ nb d = true
  | 0, _, _, _, _, h => by simp [Qm.data] at h
  | k + 1, x, v, d, r, h => by
    have A : ∀ {xs : List Qm.D} {vs : List V} {ds : List PyData}, RA K ρ c.length H xs vs → Qm.omap (Qm.data c k) xs = some ds → RdA K H vs ds ∧ PyData.canLayAll0 ds = true ∧ PyData.depthAll ds ≤ k ∧ nbA ds = true := fun {xs vs ds} => rdA_of (k := k) rs (fun r h => rdV_of rs k r h)
    cases x with
    | non => simp [Qm.data] at h; subst h; cases r.non'; exact ⟨.non, rfl, Nat.zero_le _, rfl⟩
    | int i => simp [Qm.data] at h; subst h; cases r.int'; exact ⟨.int i, rfl, Nat.zero_le _, rfl⟩
    | bl b => simp [Qm.data] at h
    | str b =>
      simp only [Qm.data] at h
      split at h
      · rename_i hb
        cases h
        cases r
        exact ⟨.str b, hb, Nat.zero_le _, rfl⟩
      · cases h
    | ty b => simp [Qm.data] at h
    | adr b => simp [Qm.data] at h
    | tup xs =>
      simp only [Qm.data] at h
      obtain ⟨ds, h1, h⟩ := bnd h
      cases h
      obtain ⟨p, vs, rfl, g, a⟩ := r.tup'
      obtain ⟨a1, a2, a3, a4⟩ := A a h1
      exact ⟨.tup (SqT.of g) a1, by simpa [PyData.canLay0] using a2, by simp only [PyData.depth]; omega, by simpa [nb] using a4⟩
    | ref n =>
      simp only [Qm.data] at h
      have hs : ∀ {xs : List Qm.D}, Qm.seqOf (.ref n) c = some xs → (Qm.omap (Qm.data c k) xs).bind (fun ds => some (PyData.list ds)) = some d → RdV K H v d ∧ PyData.canLay0 d = true ∧ d.depth ≤ k + 1 ∧ nb d = true := fun {xs} e h => by
        obtain ⟨ds, h1, h⟩ := bnd h
        cases h
        obtain ⟨vs, rfl, g, a⟩ := rs.seqR r e
        obtain ⟨a1, a2, a3, a4⟩ := A a h1
        exact ⟨.lst g a1, by simpa [PyData.canLay0] using a2, by simp only [PyData.depth]; omega, by simpa [nb] using a4⟩
      cases e : c[n]? with
      | none => rw [e] at h; cases h
      | some z =>
        rw [e] at h
        cases z with
        | lst xs => exact hs (by simp [Qm.seqOf, e]) h
        | ro xs => exact hs (by simp [Qm.seqOf, e]) h
        | dct xs => cases h
        | dro xs => cases h
        | dt1 xs => cases h
        | dt2 xs => cases h
        | dt2r xs => cases h
        | exc C S xs => cases h
end
mutual
theorem eqv_iff : ∀ (d e : PyData), nb d = true → nb e = true → (PyData.eqv d e = true ↔ d = e)
  | .none, e, _, he => by cases e <;> simp_all [PyData.eqv, nb]
  | .int i, e, _, he => by cases e <;> simp_all [PyData.eqv, nb]
  | .tuple ds, e, hd, he => by
    cases e <;> simp_all [PyData.eqv, nb]
    exact eqvA_iff _ _ hd he
  | .list ds, e, hd, he => by
    cases e <;> simp_all [PyData.eqv, nb]
    exact eqvA_iff _ _ hd he
  | .bool _, _, h, _ => by simp [nb] at h
  | .str a, e, _, he => by cases e <;> simp_all [PyData.eqv, nb]
  | .dict _, _, h, _ => by simp [nb] at h
theorem eqvA_iff : ∀ (ds es : List PyData), nbA ds = true → nbA es = true → (PyData.eqvAll ds es = true ↔ ds = es)
  | [], [], _, _ => by simp [PyData.eqvAll]
  | [], _ :: _, _, _ => by simp [PyData.eqvAll]
  | _ :: _, [], _, _ => by simp [PyData.eqvAll]
  | d :: ds, e :: es, hd, he => by
    simp only [nbA, Bool.and_eq_true] at hd he
    simp only [PyData.eqvAll, Bool.and_eq_true, List.cons.injEq]
    rw [eqv_iff d e hd.1 he.1, eqvA_iff ds es hd.2 he.2]
end
section
variable {X : Cx}
theorem eqM_of {x y : Qm.D} {c : Qm.Cells} {b : Bool} (h : Qm.eqM x y c = some b) : (∃ p q, x = .bl p ∧ y = .bl q ∧ b = (p == q)) ∨ ∃ d e, Qm.data c 6 x = some d ∧ Qm.data c 6 y = some e ∧ (b = true ↔ d = e) := by
  unfold Qm.eqM at h
  split at h
  · cases h; exact .inl ⟨_, _, rfl, rfl, rfl⟩
  · obtain ⟨d, h1, h⟩ := bnd h
    obtain ⟨e, h2, h⟩ := bnd h
    cases h
    exact .inr ⟨d, e, h1, h2, by simp⟩
theorem eqM_eqv {K : PySem.W.Frag} {ρ : Nat → Addr} {c : Qm.Cells} {H : Hp} {x y : Qm.D} {v u : V} {d e : PyData} {b : Bool} (rs : RS K ρ c H) (rx : RD K ρ c.length H x v) (ry : RD K ρ c.length H y u) (h1 : Qm.data c 6 x = some d) (h2 : Qm.data c 6 y = some e) (hb : b = true ↔ d = e) :
    RdV K H v d ∧ RdV K H u e ∧ SeqAt.shaped d = true ∧ SeqAt.shaped e = true ∧ PyData.eqv d e = b := by
  obtain ⟨a1, a2, a3, a4⟩ := rdV_of rs 6 rx h1
  obtain ⟨b1, b2, b3, b4⟩ := rdV_of rs 6 ry h2
  refine ⟨a1, b1, by simp [SeqAt.shaped, a2]; omega, by simp [SeqAt.shaped, b2]; omega, ?_⟩
  have := eqv_iff d e a4 b4
  cases b with
  | true => exact this.mpr (hb.mp rfl)
  | false =>
    cases q : PyData.eqv d e with
    | false => rfl
    | true => exact absurd (hb.mpr (this.mp q)) (by decide)
theorem op_eqQ (hu : X.A.units + 64 < cLine) : OpR X (compareOp .Eq) (fun x y H Q => rEq x y H Q ∨ rEqD X.K false x y H Q) := op_eq.or (op_eqD hu)
theorem op_neQ (hu : X.A.units + 64 < cLine) : OpR X (compareOp .NotEq) (fun x y H Q => rNe x y H Q ∨ rEqD X.K true x y H Q) := op_ne.or (op_neD hu)
theorem lk_eq {K : PySem.W.Frag} : Lk2 K (fun x y H Q => rEq x y H Q ∨ rEqD K false x y H Q) Qm.gEq := by
  intro ρ c H x y d c' v u Q rs rx ry e k
  obtain ⟨b, e1, e⟩ := bnd e
  cases e
  rcases eqM_of e1 with ⟨p, q, rfl, rfl, rfl⟩ | ⟨dd, ee, h1, h2, hb⟩
  · cases rx.bl'; cases ry.bl'
    exact .inl ⟨rfl, by rw [dec_bl]; exact k ρ _ H (Nx.refl rs) (.bl _)⟩
  · obtain ⟨a1, a2, a3, a4, a5⟩ := eqM_eqv rs rx ry h1 h2 hb
    refine .inr ⟨dd, ee, a1, a2, a3, a4, ?_⟩
    rw [if_neg (by decide), a5]
    exact k ρ _ H (Nx.refl rs) (.bl _)
theorem lk_ne {K : PySem.W.Frag} : Lk2 K (fun x y H Q => rNe x y H Q ∨ rEqD K true x y H Q) Qm.gNe := by
  intro ρ c H x y d c' v u Q rs rx ry e k
  obtain ⟨b, e1, e⟩ := bnd e
  cases e
  rcases eqM_of e1 with ⟨p, q, rfl, rfl, rfl⟩ | ⟨dd, ee, h1, h2, hb⟩
  · cases rx.bl'; cases ry.bl'
    exact .inl ⟨rfl, by rw [dec_bl]; exact k ρ _ H (Nx.refl rs) (.bl _)⟩
  · obtain ⟨a1, a2, a3, a4, a5⟩ := eqM_eqv rs rx ry h1 h2 hb
    refine .inr ⟨dd, ee, a1, a2, a3, a4, ?_⟩
    rw [if_pos rfl, a5]
    exact k ρ _ H (Nx.refl rs) (.bl _)
end
end L2
namespace L2
open PySem PySem.Spec PyProof.Rows
section
variable {X : Cx}
end
end L2
namespace Qm
open PySem
noncomputable section
def gAddK : G2 := fun x y c => match x with
  | .ref n => (match c[n]? with
    | some (.ro xs) => (lstOf y c).bind fun q => if xs.length + q.2.length ≤ LINE then some (.ref c.length, c ++ [.lst (xs ++ q.2)]) else none
    | _ => none)
  | _ => none
end
end Qm
namespace L2
open PySem PySem.Spec PyProof.Rows
section
variable {X : Cx}
end
end L2
namespace L2
open PySem PySem.Spec PyProof.Rows
def gtL : List Int → List Int → Bool
  | [], _ => false
  | _ :: _, [] => true
  | a :: r, b :: t => if a = b then gtL r t else decide (a > b)
section
variable {prog : Program} {w : World} {A : Around} {E : Value → Shared → Prop} {s : Shared}
end
section
variable {X : Cx}
end
end L2
namespace L2
open PySem PySem.Spec PyProof.Rows
section
variable {prog : Program} {w : World} {A : Around}
end
section
variable {X : Cx}
end
end L2
namespace L2
open PySem PySem.Spec PyProof.Rows PySem.W
section
variable {X : Cx} {pins : List (Addr × Obj)} {σ : St} {H : Hp} {s : Shared}
end
section
variable {prog : Program} {w : World} {A : Around} {s : Shared} {Q : Bool → Shared → Prop}
end
section
variable {X : Cx}
end
end L2
namespace L2
open PySem PySem.Spec PyProof.Rows
section
variable {prog : Program} {w : World} {A : Around} {E : Value → Shared → Prop}
end
section
variable {X : Cx} {pos : Pos}
end
end L2
namespace Qm
open PySem
noncomputable section
def gtL : List Int → List Int → Bool
  | [], _ => false
  | _ :: _, [] => true
  | a :: r, b :: t => if a = b then gtL r t else decide (a > b)
def nums (xs : List D) : Option (List Int) := omap asI xs
def bMax2T : FN := fun ds c => match ds with
  | [.tup xs, .tup ys] => (nums xs).bind fun ns => (nums ys).bind fun ms => some (if gtL ms ns = true then .tup ys else .tup xs, c)
  | _ => none
end
end Qm
namespace L2
open PySem PySem.Spec PyProof.Rows
section
variable {K : PySem.W.Frag}
end
section
variable {X : Cx} {pos : Pos} {es : List Expr}
end
end L2
namespace Qm
open PySem
noncomputable section
def asS (d : D) : Option Str := match d with
  | .str x => some x
  | _ => none
def gIxS : G2 := fun x y c => (asS x).bind fun a => (asI y).bind fun i => if a.length ≤ LINE then (atD a.cps.toList i).bind fun k => some (.str ⟨#[k]⟩, c) else none
end
end Qm
namespace PySem
open Sem (wp)
section
variable {prog : Program} {w : World} {K : Type} [DecidableEq K] {knd : KeyKind prog w K} {A : Around} {E : Value → Shared → Prop} {s : Shared}
end
end PySem
namespace L2
open PySem PySem.Spec PyProof.Rows
section
variable {K : PySem.W.Frag} {ρ ρ' : Nat → Addr} {N : Nat} {c c' : Qm.Cells} {H H' : Hp}
theorem asS_of {d : Qm.D} {i : Str} (h : Qm.asS d = some i) : d = .str i := by
  unfold Qm.asS at h
  split at h
  · cases h; rfl
  · cases h
theorem RD.str' {i : Str} {v : V} (h : RD K ρ N H (.str i) v) : v = .str i := by cases h; rfl
end
section
variable {X : Cx} {a b e : Expr} {es : List Expr} {fa fb fc fe : Qm.XE} {pos apos cpos : Pos}
theorem lk_ixS {K : PySem.W.Frag} : Lk2 K rIxS Qm.gIxS := by
  intro ρ c H x y d c' v u Q rs rx ry e k
  obtain ⟨i, e1, e⟩ := bnd e
  obtain ⟨j, e2, e⟩ := bnd e
  split at e
  · rename_i h
    obtain ⟨z, e3, e⟩ := bnd e
    cases e
    cases asS_of e1; cases asI_of e2
    cases rx.str'; cases ry.int'
    exact ⟨i, j, z, rfl, rfl, line_le h, e3, k ρ _ H (Nx.refl rs) (.str _)⟩
  · cases e
theorem qe_itemS (ha : QE X a fa) (hb : QE X b fb) (hs : PlainIx b) : QE X (.Subscript a b pos) (Qm.e2 Qm.gIxS fa fb) := qe_ix ix_str lk_ixS ha hb hs
end
end L2
namespace L2
open PySem PySem.Spec PyProof.Rows
section
variable {X : Cx}
end
section
variable {K : PySem.W.Frag} {ρ : Nat → Addr} {c : Qm.Cells} {H : Hp}
end
end L2
namespace L2
open PySem PySem.Spec PyProof.Rows
theorem FnOk.none {P : Program} {w : World} {K : PySem.W.Frag} {mg : Str → Option Value} {base : Heap} {k : Nat} {f : Addr} {fd : FuncData} {ps : List Str} {F : Qm.FN} (h : ∀ ds c, F ds c = Option.none) : FnOk P w K mg base CX0 k f fd ps (spD K F) :=
  ⟨fun vs H Q E ⟨_, _, _, _, _, _, _, e, _⟩ => (by rw [h] at e; cases e), fun A outer s H args us vs Q E _ _ _ _ ⟨_, _, _, _, _, _, _, e, _⟩ => (by rw [h] at e; cases e)⟩
end L2
namespace L2
open PySem PySem.Spec PyProof.Rows
end L2
namespace L2
open PySem PySem.Spec PyProof.Rows
section
variable {X : Cx} {es : List Expr} {fr : Qm.XA} {p : Pos}
end
end L2
namespace L2
open PySem PySem.Spec PyProof.Rows
section
variable {X : Cx} {pins : List (Addr × Obj)} {σ : St} {H : Hp} {s : Shared} {h' : Heap}
end
section
variable {X : Cx} {e1 e2 : Expr} {p0 p1 p2 pos : Pos} {f : Qm.XA} {es : List Expr} {k0 : Nat}
end
end L2
namespace Qm
open PySem
noncomputable section
def kindD (d : D) (c : Cells) : Option String := match d with
  | .int _ => some "int"
  | .bl _ => some "bool"
  | .tup _ => some "tuple"
  | .str _ => some "str"
  | .ref m => (match c[m]? with
    | some (.lst _) => some "list"
    | _ => none)
  | _ => none
def isSub (t n : String) : Option Bool := if n ∈ ["int", "bool", "tuple", "list", "str"] then some (t == n || (t == "bool" && n == "int")) else none
def bIsX : FN := two fun x y c => match y with
  | .ty n => (kindD x c).bind fun t => (isSub t n).bind fun k => some (.bl k, c)
  | .tup [.ty a, .ty b] => (kindD x c).bind fun t => (isSub t a).bind fun k => (isSub t b).bind fun l => some (.bl (k || l), c)
  | _ => none
open Classical in
def eqMW (x y : D) (c : Cells) : Option Bool := (data c 60 x).bind fun d => (data c 60 y).bind fun e => some (decide (d = e))
def gNeW : G2 := fun x y c => (eqMW x y c).bind fun b => some (.bl (!b), c)
end
end Qm
namespace L2
open PySem PySem.Spec PyProof.Rows
section
variable {K : PySem.W.Frag}
theorem eqMW_eqv {ρ : Nat → Addr} {c : Qm.Cells} {H : Hp} {x y : Qm.D} {v u : V} {b : Bool} (rs : RS K ρ c H) (rx : RD K ρ c.length H x v) (ry : RD K ρ c.length H y u) (h : Qm.eqMW x y c = some b) :
    ∃ d e, RdV K H v d ∧ RdV K H u e ∧ SeqAt.shaped d = true ∧ SeqAt.shaped e = true ∧ PyData.eqv d e = b := by
  unfold Qm.eqMW at h
  obtain ⟨d, h1, h⟩ := bnd h
  obtain ⟨e, h2, h⟩ := bnd h
  cases h
  obtain ⟨a1, a2, a3, a4⟩ := rdV_of rs 60 rx h1
  obtain ⟨b1, b2, b3, b4⟩ := rdV_of rs 60 ry h2
  refine ⟨d, e, a1, b1, by simp [SeqAt.shaped, a2]; omega, by simp [SeqAt.shaped, b2]; omega, ?_⟩
  have := eqv_iff d e a4 b4
  by_cases q : d = e
  · rw [this.mpr q]; simp [q]
  · cases z : PyData.eqv d e with
    | false => simp [q]
    | true => exact absurd (this.mp z) q
theorem lk_neW : Lk2 K (fun x y H Q => rNe x y H Q ∨ rEqD K true x y H Q) Qm.gNeW := by
  intro ρ c H x y d c' v u Q rs rx ry e k
  obtain ⟨b, e1, e⟩ := bnd e
  cases e
  obtain ⟨dd, ee, a1, a2, a3, a4, a5⟩ := eqMW_eqv rs rx ry e1
  refine .inr ⟨dd, ee, a1, a2, a3, a4, ?_⟩
  rw [if_pos rfl, a5]
  exact k ρ _ H (Nx.refl rs) (.bl _)
end
section
variable {X : Cx} {e1 : Expr} {p0 p1 p2 pos : Pos} {f : Qm.XA} {es : List Expr} {k0 : Nat}
end
end L2
namespace L2
open PySem PySem.Spec PyProof.Rows
section
variable {X : Cx} {pins : List (Addr × Obj)} {σ : St} {H : Hp} {s : Shared} {h' : Heap}
end
section
variable {X : Cx} {tg l : Expr} {tl : TE}
end
section
variable {K : PySem.W.Frag} {ρ ρ' : Nat → Addr} {N : Nat} {c c' : Qm.Cells} {H H' : Hp}
theorem RK.at_ : ∀ {ps : List (Str × Qm.D)} {us : List (Key × V)}, RK K ρ N H ps us → ∀ {i : Nat} {p : Str × Qm.D}, ps[i]? = some p → ∃ kv, us[i]? = some kv ∧ kv.1 = .inr p.1
  | _, _, .nil, i, p, h => by simp at h
  | _, _, .cons (k := k') _ a, 0, p, h => by simp at h; subst h; exact ⟨_, rfl, rfl⟩
  | _, _, .cons _ a, i + 1, p, h => by
    obtain ⟨kv, h1, h2⟩ := RK.at_ a (i := i) (p := p) (by simpa using h)
    exact ⟨kv, by simpa using h1, h2⟩
end
section
variable {X : Cx} {e a b tg : Expr} {fe fa fb : Qm.XE} {pos : Pos}
end
end L2
namespace L2
open PySem PySem.Spec PyProof.Rows
section
variable {X : Cx} {pins : List (Addr × Obj)} {σ : St} {H : Hp} {s : Shared}
end
end L2
namespace Qm
open PySem
noncomputable section
end
end Qm
namespace Qm
open PySem
noncomputable section
end
end Qm
namespace L2
open PySem PySem.Spec PyProof.Rows
section
variable {X : Cx}
end
section
variable {K : PySem.W.Frag} {ρ : Nat → Addr} {c : Qm.Cells} {H : Hp}
end
end L2
namespace PySem
open Sem (wp)
open AutoSeq1 (wpAny_loadPart')
open MeetsSeq MeetsSeq2 MeetsSeq3 SeqRoads2
section
variable {P : Program} {W : World}
variable {A : Around} {E : Value → Shared → Prop} {s : Shared}
end
end PySem
namespace L2
open PySem PySem.Spec PyProof.Rows
section
variable {X : Cx}
end
section
variable {K : PySem.W.Frag} {ρ : Nat → Addr} {c : Qm.Cells} {H : Hp}
end
end L2
namespace PySem
open Sem (wp)
section
variable {prog : Program} {w : World} {A : Around} {E : Value → Shared → Prop} {h : Heap} {g : Array GenState} {d : Drawn} {t : Nat} {os : OsState}
variable {nm q : Str} {C N : Addr} {bs bm bmB : List Value} {hdct : Bool} {sn : List Str} {sub : List Value} {ab : Bool} {col : Option Bool} {dd : Option Addr} {k0 k1 k2 k3 k5 : Option Value} {B newId initId : String}
abbrev excH (h : Heap) (C : Addr) (rest : List Value) : Heap :=
  (h.push ⟨.type "tuple", none, .seq rest.toArray 0, #[]⟩).push ⟨.ref C, none, .fields #[.ref h.objs.size, .none, .none, .none, .bool false, .none], #[]⟩
theorem excH_made (h : Heap) (C : Addr) (rest : List Value) : Heap.MadeExcOf h (excH h C rest) (h.objs.size + 1) (.ref C) rest :=
  ⟨fun _ _ e => Heap.get?_push_of_some _ (Heap.get?_push_of_some _ e), Heap.get?_none_of_le (Nat.le_succ _), h.objs.size, by heap_get, Heap.get?_none_of_le (Nat.le_refl _), Heap.get?_push_of_some _ (Heap.get?_push_at rfl rfl)⟩
theorem call_x2 (F : ExcBaseFacts B newId initId bmB) (T : OwnTail h bmB bm) {mN : Str → Option Value} {rest : List Value} {fI : Addr} {oI : Obj} {Q : Value → Shared → Prop} (hC : h.get? C = some (excClassObj nm q C N bs bm hdct sn sub ab col dd k0 k1 k2 k3 k5 newId))
    (hn : h.Ns N mN) (hi : mN "__init__" = some (.ref fI)) (hfI : h.get? fI = some oI) (hfc : oI.cls = .type "function")
    (hq : ∀ h' e, Heap.MadeExcOf h h' e (.ref C) rest → wpAny (model prog w) (A.under (.builtin "type.__call__" ⟨.ref C :: rest, []⟩)) (call (.ref fI) (.ref e :: rest)) (fun r s' => r = .none ∧ Q (.ref e) s') E ⟨h', g, d, t, os⟩) (hrest : rest.length ≤ sizeLine) :
    wpAny (model prog w) A (call (.ref C) rest) Q E ⟨h, g, d, t, os⟩ := by
  have made := excH_made h C rest
  have keep := made.1
  obtain ⟨-, -, _, own, -, -⟩ := made
  have at1 := keep _ _ hC
  have in1 : (Value.ref C :: bm).contains (.ref C) = true := List.contains_cons.trans (by simp)
  have ini : ∀ {B : Around}, wpAny (model prog w) B (call (.ref fI) (.ref (h.objs.size + 1) :: rest)) (fun r s' => r = .none ∧ Q (.ref (h.objs.size + 1)) s') E ⟨excH h C rest, g, d, t, os⟩ →
      wpAny (model prog w) B (Builtin.«type.__call__» ⟨.ref C :: rest, []⟩) (fun fin s' => ∃ v, fin = .done (.ret v) ∧ Q v s') E ⟨h, g, d, t, os⟩ := by
    intro B run
    repeat (first | (with_reducible refine wpAny_madeBy_exc hC ?_) | (with_reducible refine wpAny_loadPart_at hC ?_) | wp_step)
    refine codeAny_call_builtin_code (Code.quiet_builtin _ F.quiet) (wpAny_check_new_subT F T hC (codeAny_exc_new_subT F T hC ?_ hrest))
    unfold isInstance
    show wpAny _ _ _ _ _ ⟨excH h C rest, g, d, t, os⟩
    repeat (first | (with_reducible refine wpAny_isSubtype_exc at1 ?_; rw [in1]) | (with_reducible refine wpAny_loadPart_at own ?_) | wp_step)
    refine wpAny_typeLookup_tail at1 (hn.keeps keep) (T.keeps keep) F.mroIs F.init.lookup ?_
    rw [hi]
    refine wpAny_holding (wpAny_bind (wpAny_bind (wpAny_typeOf (T := "function") ⟨_, keep _ _ hfI, hfc⟩ ?_)))
    rw [if_pos (by decide)]
    refine wpAny_pure (wpAny_bind (wpAny_mono run ?_ fun _ _ z => z))
    rintro _ _ ⟨rfl, z⟩
    wp_walk
    exact ⟨_, rfl, z⟩
  have tyC : (⟨h, g, d, t, os⟩ : Shared).TypeIs (.ref C) "type" := ⟨_, hC, rfl⟩
  have lk := tc_lookup
  have bd := tc_bind (.ref C)
  refine wpAny_call (codeAny_of_tree (show wpAny _ _ (callAny (.ref C) _) _ _ _ from ?_))
  repeat (any_goals (first | (with_reducible refine wpAny_loadPart_at hC ?_) | wp_step | assumption))
  exact ⟨rfl, codeAny_call_builtin_at (Code.quiet_builtin _ (by decide +kernel)) entry_typeCall (wpAny_check_type_call_sub hC (wpAny_mono (ini (hq _ _ (excH_made h C rest))) (fun _ _ ⟨_, e, z⟩ => by rw [e]; exact z) fun _ _ z => z))⟩

end
end PySem
namespace L2
open PySem PySem.W PySem.Spec PyProof.Rows PySem.Builtin PySem.Builtin.ObjectAttr
section
variable {prog : Program} {w : World} {A : Around} {E : Value → Shared → Prop} {s : Shared} {K : Frag} {x C S : Addr} {ox : Obj} {od : Option Obj} {name : Str} {v : Value} {cd : ClassData} {R : Result → Shared → Prop}
theorem mro_has (hc : clsIn K C = some cd) (hm : cd.mro = .ref C :: .ref S :: vE) {y : Value} : mroIn K C y = some ((Value.ref C :: .ref S :: vE).contains y) := by
  unfold mroIn
  rw [hc, Option.bind_some, hm, if_neg (by simp)]
theorem x_sa {tk : Tok} (X : K.In s.heap) (I : InstAt s.heap x ox C od) (hc : clsIn K C = some cd) (hm : cd.mro = .ref C :: .ref S :: vE) (hn : findIn K (.ref C) name = some none)
    (q : wpAny (model prog w) A.in1 (storeInOwnDict (.ref x) (.ref C) (.str name tk) name v false) (fun fin s' => match fin with | .done f => R (.ok f) s' | .again c' => c'.quiet = true ∧ codeAny (model prog w) A c' R s') (fun e s' => R (.error e) s') s) :
    codeAny (model prog w) A (.call (.builtin "object.__setattr__") ⟨[.ref x, .str name tk, v], []⟩) R s := by
  have V := PySem.F.store_ValueError
  have e1 : mroIn K C (.type "object") = some true := by rw [mro_has hc hm]; rfl
  have is : Looks (model prog w) s.heap (isInstance (.ref x) (.type "object")) true := I.type.andThen (looks_mroIn X e1)
  have row : Looks (model prog w) s.heap (mroOf (.ref C)) cd.mro := (looks_clsIn X hc).andThen .now
  rw [hm] at row
  refine codeAny_call_builtin V.slot.plain V.entry (check_slot (M := model prog w) (s := s) (i := "object.__setattr__") (owner := "object") (n := "__setattr__") (self := .ref x) (rest := [.str name tk, v]) (kw := []) V.kind V.split is (V.args (.ref x) (.str name tk) v) ?_)
  rw [osa_eq, refuse_eq]
  refine wpAny_bind (wpAny_bind (I.type.here (wpAny_bind (row.here ?_))))
  rw [refuseLoop_ref, refuseLoop_ref, V.passes]
  refine wpAny_pure (wpAny_bind (I.type.here (wpAny_bind ((looks_findIn X hn).here (wpAny_bind ?_)))))
  exact wpAny_pure q
theorem x_own {tk : Tok} {ns : List Str} {m : Str → Option Value} {d : Addr} {Q : Fin → Shared → Prop} (hns : s.heap.Ns1 d m) (hw : Within m ns) (hz : ns.length < 100)
    (q : ∀ h' k, Heap.SameBut d s.heap h' → h'.Ns1 d (fun y => if y = name then some v else m y) → Q (.done (.ret .none)) { s with heap := h', toks := k }) : wpAny (model prog w) A (storeInDict d (.str name tk) name v) Q E s := by
  unfold storeInDict newKeyGuard
  refine wpAny_bind (wpAny_pure (wpAny_bind (wpAny_nsSet1 hns fun h' hn' hs => ?_)))
  obtain ⟨oD, eD, pD, hoD, hdD, hcD⟩ := hn'.count (Within.cons name v hw)
  refine wpAny_bind (wpAny_lookBehind hoD (by rw [hdD]; exact pastItsLine_dict (Nat.le_trans hcD (by rw [List.length_cons, sizeLine_eq]; omega))) ?_)
  exact wpAny_pure (q _ _ hs hn')
theorem x_put0 {tk : Tok} {vs : Array Value} {sl : Array (Option Value)} {Q : Fin → Shared → Prop} (X : K.In s.heap) (hx : s.heap.get? x = some ⟨.ref C, none, .fields vs, sl⟩) (hc : clsIn K C = some cd) (hd : cd.hasDict = true)
    (q : ∀ h' k, h'.get? x = some ⟨.ref C, some s.heap.objs.size, .fields vs, sl⟩ → h'.Ns1 s.heap.objs.size (fun y => if y = name then some v else none) → (∀ b o, b ≠ x → s.heap.get? b = some o → h'.get? b = some o) → Q (.done (.ret .none)) { s with heap := h', toks := k }) :
    wpAny (model prog w) A (storeInOwnDict (.ref x) (.ref C) (.str name tk) name v false) Q E s := by
  have lx : x ≠ s.heap.objs.size := Nat.ne_of_lt (Heap.lt_size hx)
  have hx1 : (s.heap.push { cls := .type "dict", data := .dict #[] }).get? x = some ⟨.ref C, none, .fields vs, sl⟩ := Heap.get?_push_of_some _ hx
  refine wpAny_bind (wpAny_pure (wpAny_bind (wpAny_bind (wpAny_loadPart hx (wpAny_bind ((looks_clsIn X hc).here ?_))))))
  rw [hd]
  show wpAny _ _ (alloc _ >>= _) _ _ _
  refine wpAny_bind (wpAny_alloc' (wpAny_bind (wpAny_update' hx1 ?_)))
  have gd : ((s.heap.push { cls := .type "dict", data := .dict #[] }).update x fun o => { cls := o.cls, dict := some s.heap.objs.size, data := o.data, slots := o.slots }).get? s.heap.objs.size = some { cls := .type "dict", data := .dict #[] } :=
    (Heap.get?_update_ne _ _ _ _ lx.symm).trans (Heap.get?_push_at rfl rfl)
  have gx : ((s.heap.push { cls := .type "dict", data := .dict #[] }).update x fun o => { cls := o.cls, dict := some s.heap.objs.size, data := o.data, slots := o.slots }).get? x = some ⟨.ref C, some s.heap.objs.size, .fields vs, sl⟩ := Heap.get?_update_self _ hx1 rfl
  have nd : ((s.heap.push { cls := .type "dict", data := .dict #[] }).update x fun o => { cls := o.cls, dict := some s.heap.objs.size, data := o.data, slots := o.slots }).Ns s.heap.objs.size (fun _ => none) := ⟨_, #[], _, gd, rfl, fun e he => absurd he (by simp), fun _ => rfl⟩
  refine wpAny_pure (a := some s.heap.objs.size) (x_own (ns := []) (.of_empty nd) Within.nil (by decide) fun h' k sb hn => q h' k ?_ hn fun b o hb hg => ?_)
  · exact (sb.2 x lx).trans gx
  · exact (sb.2 b (Nat.ne_of_lt (Heap.lt_size hg))).trans ((Heap.get?_update_ne _ _ _ _ hb).trans (Heap.get?_push_of_some _ hg))
theorem x_put1 {tk : Tok} {vs : Array Value} {sl : Array (Option Value)} {d : Addr} {m : Str → Option Value} {ns : List Str} {Q : Fin → Shared → Prop} (X : K.In s.heap) (hx : s.heap.get? x = some ⟨.ref C, some d, .fields vs, sl⟩) (hc : clsIn K C = some cd) (hd : cd.hasDict = true)
    (hns : s.heap.Ns1 d m) (hw : Within m ns) (hz : ns.length < 100) (q : ∀ h' k, Heap.SameBut d s.heap h' → h'.Ns1 d (fun y => if y = name then some v else m y) → Q (.done (.ret .none)) { s with heap := h', toks := k }) :
    wpAny (model prog w) A (storeInOwnDict (.ref x) (.ref C) (.str name tk) name v false) Q E s := by
  refine wpAny_bind (wpAny_pure (wpAny_bind (wpAny_bind (wpAny_loadPart hx (wpAny_bind ((looks_clsIn X hc).here ?_))))))
  rw [hd]
  exact wpAny_pure (a := some d) (x_own hns hw hz q)
end
end L2
namespace L2
open PySem PySem.W PySem.Spec PyProof.Rows PySem.Builtin PySem.Builtin.ObjectAttr
section
variable {prog : Program} {w : World} {A : Around} {E : Value → Shared → Prop} {s : Shared} {K : Frag} {x C S : Addr} {ox : Obj} {od : Option Obj} {name : Str} {v : Value} {cd : ClassData} {R : Result → Shared → Prop}
theorem x_ga {tk : Tok} (X : K.In s.heap) (I : InstAt s.heap x ox C od) (hc : clsIn K C = some cd) (hm : cd.mro = .ref C :: .ref S :: vE) (hf : findObj K C od name = some (.value v)) (q : R (.ok (.ret v)) s) :
    codeAny (model prog w) A (.call (.builtin "BaseException.__getattribute__") ⟨[.ref x, .str name tk], []⟩) R s := by
  have V := PySem.F.attrBase_ValueError
  have e1 : mroIn K C (.type "BaseException") = some true := by rw [mro_has hc hm]; rfl
  have is : Looks (model prog w) s.heap (isInstance (.ref x) (.type "BaseException")) true := I.type.andThen (looks_mroIn X e1)
  refine codeAny_call_builtin V.ga.plain PySem.F.entry_bexc_ga (check_slot (M := model prog w) (s := s) (i := "BaseException.__getattribute__") (owner := "BaseException") (n := "__getattribute__") (self := .ref x) (rest := [.str name tk]) (kw := []) (by decide +kernel) (by decide +kernel) is (PySem.F.args_bexc_ga (.ref x) (.str name tk)) ?_)
  refine wpAny_bind (wpAny_pure (a := (Value.ref x, [Value.str name tk])) (wpAny_bind (wpAny_pure (a := name) (wpAny_bind (I.type.here (wpAny_bind ((looks_find X I hf).here ?_)))))))
  exact wpAny_pure q
theorem x_get {ex : Bool} {Q : Value → Shared → Prop} (X : K.In s.heap) (I : InstAt s.heap x ox C od) (hc : clsIn K C = some cd) (hm : cd.mro = .ref C :: .ref S :: vE) (hf : findObj K C od name = some (.value v)) (hv : handedIn v = true)
    (hga : findIn K (.ref C) "__getattribute__" = some (some (.builtin "BaseException.__getattribute__"))) (hg : findIn K (.ref C) "__getattr__" = some none) (q : ∀ k, Q v { s with toks := k }) :
    wpAny (model prog w) A (getAttr (.ref x) name ex) Q E s := by
  have V := PySem.F.attrBase_ValueError
  have ne : (onTheHeap (Value.ref C) && Value.builtin "BaseException.__getattribute__" == Value.builtin "object.__getattribute__") = false := by rw [show (Value.builtin "BaseException.__getattribute__" == Value.builtin "object.__getattribute__") = false by decide +kernel, Bool.and_false]
  have ne2 : (ex && onTheHeap (Value.builtin "BaseException.__getattribute__")) = false := by cases ex <;> rfl
  have X1 : K.In ({ s with toks := s.toks + 1 } : Shared).heap := X
  have I1 : InstAt ({ s with toks := s.toks + 1 } : Shared).heap x ox C od := I
  unfold getAttr getAttrBy
  refine wpAny_bind (wpAny_mkText (wpAny_holding (wpAny_bind (I1.type.here (wpAny_bind ((looks_findIn X1 hga).here ?_))))))
  dsimp only
  rw [if_neg (by rw [ne]; decide)]
  unfold getAttrByItsOwn
  refine wpAny_bind ((looks_findIn X1 hg).here ?_)
  refine wpAny_bind (wpAny_attempt (wpAny_holding ?_))
  unfold callGetattribute
  rw [if_neg (by rw [ne2]; decide)]
  unfold boundAndCalled
  rw [V.ga.bind]
  refine wpAny_bind (wpAny_pure (wpAny_call (x_ga X1 I1 hc hm hf ?_)))
  show wpAny _ _ (handedOut v) _ _ _
  rw [handedOut_of hv]
  exact wpAny_pure (q _)
end
end L2
namespace L2
open PySem PySem.W PySem.Spec PyProof.Rows PySem.Builtin PySem.Builtin.ObjectAttr
section
variable {prog : Program} {w : World} {A : Around} {E : Value → Shared → Prop} {s : Shared} {K : Frag} {x C S : Addr} {ox : Obj} {od : Option Obj} {v : Value} {cd : ClassData} {R : Result → Shared → Prop}
theorem XK0.isType (c : XK0 K C S cd) {M : Model} {h : Heap} (X : K.In h) : Looks M h (PySem.isType (.ref C)) true := by
  have e := c.cls
  unfold clsIn at e
  split at e
  · rename_i ho
    intro A' Q' E' s' k q
    unfold PySem.isType loadHead
    exact wpAny_bind (wpAny_loadPart (k _ _ (X _ _ ho)) (wpAny_pure q))
  · cases e
theorem x_cls {Q : Option Value → Shared → Prop} (X : K.In s.heap) (I : InstAt s.heap x ox C od) (c : XK0 K C S cd) (q : ∀ k, Q (some (.ref C)) { s with toks := k }) : wpAny (model prog w) A (getAttr? (.ref x) "__class__") Q E s := by
  have V := PySem.F.attrBase_ValueError
  have ne : (onTheHeap (Value.ref C) && Value.builtin "BaseException.__getattribute__" == Value.builtin "object.__getattribute__") = false := by rw [show (Value.builtin "BaseException.__getattribute__" == Value.builtin "object.__getattribute__") = false by decide +kernel, Bool.and_false]
  have X1 : K.In ({ s with toks := s.toks + 1 } : Shared).heap := X
  have I1 : InstAt ({ s with toks := s.toks + 1 } : Shared).heap x ox C od := I
  have e1 : mroIn K C (.type "BaseException") = some true := by rw [mro_has c.cls c.mro]; rfl
  have e2 : mroIn K C (.type "object") = some true := by rw [mro_has c.cls c.mro]; rfl
  have is : Looks (model prog w) ({ s with toks := s.toks + 1 } : Shared).heap (isInstance (.ref x) (.type "BaseException")) true := I1.type.andThen (looks_mroIn X1 e1)
  have hf : findObj K C od "__class__" = some (.bind (.builtin "getset_descriptor.__get__") (.builtin "object.__class__")) := by
    have g1 : specialIn K (.builtin "object.__class__") "__get__" = some (some (.builtin "getset_descriptor.__get__")) := by unfold specialIn; rfl
    have g2 : takesIn K (.builtin "object.__class__") = some true := by unfold takesIn; rfl
    unfold findObj
    rw [c.cls, Option.bind_some, c.cl, Option.bind_some]
    simp [g1, g2]
  unfold getAttr? getAttrBy? getAttrBy
  refine wpAny_bind (wpAny_mkText (wpAny_bind (wpAny_attempt (wpAny_holding (wpAny_bind (I1.type.here (wpAny_bind ((looks_findIn X1 c.ga).here ?_))))))))
  dsimp only
  rw [if_neg (by rw [ne]; decide)]
  unfold getAttrByItsOwn
  refine wpAny_bind ((looks_findIn X1 c.gt).here ?_)
  refine wpAny_bind (wpAny_attempt (wpAny_holding ?_))
  unfold callGetattribute
  rw [if_neg (by decide)]
  unfold boundAndCalled
  rw [V.ga.bind]
  refine wpAny_bind (wpAny_pure (wpAny_call ?_))
  refine codeAny_call_builtin V.ga.plain PySem.F.entry_bexc_ga (check_slot (M := model prog w) (s := { s with toks := s.toks + 1 }) (i := "BaseException.__getattribute__") (owner := "BaseException") (n := "__getattribute__") (self := .ref x) (rest := [.str "__class__" s.toks]) (kw := []) (by decide +kernel) (by decide +kernel) is (PySem.F.args_bexc_ga (.ref x) (.str "__class__" s.toks)) ?_)
  refine wpAny_bind (wpAny_pure (a := (Value.ref x, [Value.str "__class__" s.toks])) (wpAny_bind (wpAny_pure (a := ("__class__" : Str)) (wpAny_bind (I1.type.here (wpAny_bind ((looks_find X1 I1 hf).here ?_)))))))
  refine wpAny_bind (wpAny_holding (wpAny_call (class_get X1 I1 e2 ?_)))
  refine wpAny_pure ?_
  show wpAny _ _ (handedOut _) _ _ _
  exact handed_on rfl (wpAny_pure (q _))
theorem x_nested {c : Value} {b : Bool} {dep : Int} {tk : Tok} {Q : Fin → Shared → Prop} (X : K.In s.heap) (I : InstAt s.heap x ox C od) (xc : XK0 K C S cd) (hty : Looks (model prog w) s.heap (typeOf c) (.type "type")) (his : Looks (model prog w) s.heap (PySem.isType c) true)
    (hsub : Looks (model prog w) s.heap (isSubtype (.ref C) c) b) (hb : (Value.ref C == c) = true → b = true) (q : ∀ k, Q (.done (.ret (.bool b))) { s with toks := k }) : wpAny (model prog w) A (Builtin.«isinstance.nested» ⟨[.ref x, c, .int dep tk], []⟩) Q E s := by
  have q0 : Q (.done (.ret (.bool b))) s := q s.toks
  unfold Builtin.«isinstance.nested»
  refine wpAny_bind (I.type.here ?_)
  by_cases e : (Value.ref C == c) = true
  · rw [if_pos e]
    rw [hb e] at q0
    exact wpAny_bind (wpAny_rule (wpAny_bind (wpAny_pure (wpAny_pure q0))))
  rw [if_neg e]
  refine wpAny_bind (hty.here ?_)
  rw [if_pos (by decide)]
  k_delta "plainIsInstance"
  refine wpAny_bind (wpAny_bind (his.here ?_))
  simp only [Bool.not_true, Bool.false_eq_true, if_false]
  refine wpAny_bind ((I.type.andThen hsub).here ?_)
  cases b with
  | true =>
    simp only [if_true]
    first
      | exact wpAny_pure (wpAny_bind (wpAny_pure (wpAny_pure q0)))
      | exact wpAny_pure (wpAny_pure q0)
  | false =>
    simp only [Bool.false_eq_true, if_false]
    refine wpAny_bind (x_cls X I xc fun k => ?_)
    refine wpAny_bind ((xc.isType X).keeps (fun _ _ e => e) _ _ _ _ (fun _ _ e => e) ?_)
    simp only [Bool.not_true, Bool.false_eq_true, if_false]
    refine wpAny_bind (wpAny_rule ?_)
    refine hsub _ _ _ _ (fun _ _ e => e) ?_
    first
      | exact wpAny_pure (q k)
      | exact wpAny_pure (wpAny_pure (q k))
      | exact wpAny_bind (wpAny_pure (wpAny_pure (q k)))
theorem x_isinst {c : Value} {b : Bool} {Q : Value → Shared → Prop} (X : K.In s.heap) (I : InstAt s.heap x ox C od) (xc : XK0 K C S cd) (hty : Looks (model prog w) s.heap (typeOf c) (.type "type")) (his : Looks (model prog w) s.heap (PySem.isType c) true)
    (hsub : Looks (model prog w) s.heap (isSubtype (.ref C) c) b) (hb : (Value.ref C == c) = true → b = true) (q : ∀ k, Q (.bool b) { s with toks := k }) : wpAny (model prog w) A (call (.builtin "isinstance") [.ref x, c]) Q E s :=
  call_isinstance_of (x_nested X I xc hty his hsub hb fun k => q k) (by intro z; cases z)
end
end L2
namespace L2
open PySem PySem.W PySem.Spec PyProof.Rows
theorem xm_ok {P : Program} {w : World} {H : Hp} {h : Heap} {a : Addr} {o : Obj} (e : h.get? a = some o) : ObjOk P w H h a (xm a o) := ⟨e, ⟨o, e⟩, fun _ _ e1 k => k _ e1⟩
theorem xh_ok {P : Program} {w : World} {H : Hp} {h : Heap} {a : Addr} {o : Obj} (e : h.get? a = some o) : ObjOk P w H h a (xh a o) := ⟨e, xm_ok e⟩
def DictS (o : Obj) (m : Str → Option Value) : Prop := ∃ es ep, o.data = .dict es ep ∧ StrKeys es ∧ UniqKeys es ∧ ∀ name, nsFind es name = m name
theorem DictS.ns1 {o : Obj} {m : Str → Option Value} {h : Heap} {a : Addr} (d : DictS o m) (e : h.get? a = some o) : h.Ns1 a m := by
  obtain ⟨es, ep, h1, h2, h3, h4⟩ := d
  exact ⟨o, es, ep, e, h1, h2, h3, h4⟩
theorem dictS_of {m : Str → Option Value} {h : Heap} {a : Addr} (n : h.Ns1 a m) : ∃ o, h.get? a = some o ∧ DictS o m := by
  obtain ⟨o, es, ep, e, h1, h2, h3, h4⟩ := n
  exact ⟨o, e, es, ep, h1, h2, h3, h4⟩
theorem DictS.look {o : Obj} {m : Str → Option Value} {f : Str} {u : Value} (d : DictS o m) (e : m f = some u) : lookIn f o = some (some u) := by
  obtain ⟨es, ep, h1, h2, h3, h4⟩ := d
  have := h4 f
  rw [e] at this
  unfold nsFind findBy at this
  rw [← Array.find?_toList] at this
  unfold lookIn
  rw [h1]
  cases q : es.toList.find? (·.key.isStr f) with
  | none => rw [q] at this; cases this
  | some en => rw [q] at this; cases this; dsimp only; rw [q]
theorem ObjOk.there {P : Program} {w : World} {H : Hp} {h : Heap} {a : Addr} {o : HO} (x : ObjOk P w H h a o) : ∃ z, h.get? a = some z := by
  cases o with
  | lst xs => obtain ⟨_, _, _, _, e⟩ := x; exact ⟨_, e⟩
  | tup xs => obtain ⟨_, _, _, o, e, _⟩ := x; exact ⟨_, e⟩
  | dK kvs => obtain ⟨_, _, _, _, o, _, _, e, _⟩ := x; exact ⟨_, e⟩
  | dT kvs => obtain ⟨_, _, _, _, o, _, _, e, _⟩ := x; exact ⟨_, e⟩
  | dU kvs => obtain ⟨_, _, _, _, o, _, _, e, _⟩ := x; exact ⟨_, e⟩
  | set S n => obtain ⟨o, _, _, _, e, _⟩ := x; exact ⟨_, e⟩
  | ins C dx fs => obtain ⟨_, _, _, e, _⟩ := x; exact ⟨_, e⟩
  | own y => exact x
  | xd fs => obtain ⟨_, ⟨_, _, _, e, _⟩, _⟩ := x; exact ⟨_, e⟩
  | met f y => exact ⟨_, x⟩
  | rng lo hi => obtain ⟨_, _, _, e⟩ := x; exact ⟨_, e⟩
  | frz ob u => obtain ⟨e, _⟩ := x; exact ⟨_, e⟩
  | tbl ps => exact ⟨_, x⟩
  | ext φ => exact x.2.1
section
variable {X : Cx} {pins : List (Addr × Obj)} {σ : St} {H : Hp} {s : Shared} {h' : Heap} {a : Addr} {o o' : Obj} {u : HO} {t' : Nat}
theorem Inv.laidN (I : Inv X pins σ H s) (k : ∀ b u, s.heap.get? b = some u → h'.get? b = some u) (hn : s.heap.get? a = none) (new : ObjOk X.prog X.w (upd H a u) h' a u) : Inv X pins σ (upd H a u) { s with heap := h', toks := t' } := by
  have hH : H a = none := by
    cases q : H a with
    | none => rfl
    | some y =>
      exfalso
      obtain ⟨z, hz⟩ := (I.hok a y q).there
      rw [hn] at hz; cases hz
  refine I.un ⟨fun b y q _ _ _ => k b y q, fun b y q _ _ _ => ⟨y.slots, k b y q⟩, fun b y q n _ => ?_, fun b y q _ => ⟨y, k b y q⟩, fun b xs q => ?_, fun b y xs q => ?_, fun b ps q => ⟨#[], ?_⟩⟩ fun b y e => ?_
  · rw [upd_ne (fun z => by rw [z, hn] at q; cases q)]; exact n
  · rw [upd_ne (ne_of_none q hH)]; exact q
  · rw [upd_ne (ne_of_none q hH)]; exact q
  · rw [upd_ne (ne_of_none q hH), q]; simp
  · by_cases hb : b = a
    · subst hb; rw [upd_same] at e; cases e; exact new
    · rw [upd_ne hb] at e
      exact (I.hok b y e).stay (fun c v _ q => k c v q) (fun c q => by rw [upd_ne (ne_of_none q hH)]; exact q) fun c xs q => by rw [upd_ne (ne_of_none q hH)]; exact q
theorem Inv.rewrite (I : Inv X pins σ H s) (e : H a = some (xm a o)) (k : ∀ b u, b ≠ a → s.heap.get? b = some u → h'.get? b = some u) (e' : h'.get? a = some o') : Inv X pins σ (upd H a (xm a o')) { s with heap := h', toks := t' } :=
  I.write (x := a) (e := a) (by rw [e]; exact True.intro) (.inl rfl) k ⟨_, e'⟩ (xm_ok e')
theorem Inv.freeze (I : Inv X pins σ H s) (e : H a = some (xm a o)) : Inv X pins σ (upd H a (xh a o)) s := by
  have g : s.heap.get? a = some o := (show ObjOk X.prog X.w H s.heap a (xm a o) from I.hok a _ e).1
  exact I.write (x := a) (e := a) (h' := s.heap) (t' := s.toks) (by rw [e]; exact True.intro) (.inl rfl) (fun b u _ q => q) ⟨_, g⟩ (xh_ok g)
theorem Inv.at_m (I : Inv X pins σ H s) (e : H a = some (xm a o)) : s.heap.get? a = some o := (show ObjOk X.prog X.w H s.heap a (xm a o) from I.hok a _ e).1
theorem Inv.at_h (I : Inv X pins σ H s) (e : H a = some (xh a o)) : s.heap.get? a = some o := (show ObjOk X.prog X.w H s.heap a (xh a o) from I.hok a _ e).1
end
end L2
namespace L2
open PySem PySem.W PySem.Spec PyProof.Rows
def sXf0 (C : Addr) (f : Str) (i j : Nat) : TS := fun D σ H => ∃ v e vs sl, σ[j]? = some (some v) ∧ σ[i]? = some (some (.ref e)) ∧ H e = some (xm e (xo C none vs sl)) ∧
  ∀ dx od u, H dx = none → dx ≠ e → RelV v u → DictS od (fun y => if y = f then some u else none) → D.nx σ (upd (upd H dx (xm dx od)) e (xm e (xo C (some dx) vs sl)))
def sXf1 (C : Addr) (f : Str) (i j : Nat) : TS := fun D σ H => ∃ v e dx vs sl od m ns, σ[j]? = some (some v) ∧ σ[i]? = some (some (.ref e)) ∧ H e = some (xm e (xo C (some dx) vs sl)) ∧ H dx = some (xm dx od) ∧ DictS od m ∧ Within m ns ∧ ns.length < 100 ∧
  ∀ od' u, RelV v u → DictS od' (fun y => if y = f then some u else m y) → D.nx σ (upd H dx (xm dx od'))
section
variable {X : Cx} {C S : Addr} {cd : ClassData} {f : Str} {i j : Nat} {o value : Expr} {pos pos' : Pos}
theorem ps_xf0 (c : XK0 X.K C S cd) (hn : findIn X.K (.ref C) f = some none) (ho : PE X o (tVar i)) (hv : PE X value (tVar j)) (hs : swapsWith value (some (.Attribute o f pos')) pos.line X.env = pure false) : PS X (.Assign [.Attribute o f pos'] value pos) (sXf0 C f i j) := by
  intro pins s σ H D I h
  obtain ⟨v, e, vs, sl, e1, e2, eh, q⟩ := h
  refine plainObj_wpAny_Assign_Attribute (thn (hv pins s σ H (fun y H1 => y = v ∧ H1 = H) I ⟨v, e1, rfl, rfl⟩) fun u s1 z1 => ?_) hs
  obtain ⟨y, H1, I1, ry, rfl, rfl⟩ := z1
  refine thn (ho pins s1 σ H1 (fun y H2 => y = .ref e ∧ H2 = H1) I1 ⟨_, e2, rfl, rfl⟩) fun ov s2 z2 => ?_
  obtain ⟨y2, H2, I2, rx, rfl, rfl⟩ := z2
  obtain rfl : ov = Value.ref e := rx
  have g := I2.at_m eh
  have hI : InstAt s2.heap e (xo C none vs sl) C none := ⟨g, rfl, rfl, True.intro⟩
  refine set_plain I2.kIn hI c.sa (x_sa (s := { s2 with toks := s2.toks + 1 }) I2.kIn hI c.cls c.mro hn (x_put0 (s := { s2 with toks := s2.toks + 1 }) I2.kIn g c.cls c.dct fun h' k gx nd kp => ?_))
  have hne : s2.heap.objs.size ≠ e := Nat.ne_of_gt (Heap.lt_size g)
  have hd : H2 s2.heap.objs.size = none := I2.hok.fresh (Nat.le_refl _)
  obtain ⟨od, gd, ds⟩ := dictS_of nd
  have fr : od.isFreed = false := (Heap.get?_some_iff.mp gd).2
  have J := I2.laid (a := s2.heap.objs.size) (o := xm s2.heap.objs.size od) (h' := s2.heap.push od) (t' := k) (fun b u e => Heap.get?_push_of_some _ e) (Nat.le_refl _) (xm_ok (Heap.get?_push_size _ fr))
  have J2 := J.rewrite (a := e) (o := xo C none vs sl) (o' := xo C (some s2.heap.objs.size) vs sl) (h' := h') (t' := k) (by rw [upd_ne hne.symm]; exact eh) (fun b u hb hg => by
    rcases Heap.get?_push_cases hg with ⟨rfl, rfl⟩ | hg
    · exact gd
    · exact kp b u hb hg) gx
  exact ⟨σ, _, J2, q _ od u hd hne ry ds⟩
theorem ps_xf1 (c : XK0 X.K C S cd) (hn : findIn X.K (.ref C) f = some none) (ho : PE X o (tVar i)) (hv : PE X value (tVar j)) (hs : swapsWith value (some (.Attribute o f pos')) pos.line X.env = pure false) : PS X (.Assign [.Attribute o f pos'] value pos) (sXf1 C f i j) := by
  intro pins s σ H D I h
  obtain ⟨v, e, dx, vs, sl, od, m, ns, e1, e2, eh, edx, ds, hw, hz, q⟩ := h
  refine plainObj_wpAny_Assign_Attribute (thn (hv pins s σ H (fun y H1 => y = v ∧ H1 = H) I ⟨v, e1, rfl, rfl⟩) fun u s1 z1 => ?_) hs
  obtain ⟨y, H1, I1, ry, rfl, rfl⟩ := z1
  refine thn (ho pins s1 σ H1 (fun y H2 => y = .ref e ∧ H2 = H1) I1 ⟨_, e2, rfl, rfl⟩) fun ov s2 z2 => ?_
  obtain ⟨y2, H2, I2, rx, rfl, rfl⟩ := z2
  obtain rfl : ov = Value.ref e := rx
  have g := I2.at_m eh
  have gd := I2.at_m edx
  have hI : InstAt s2.heap e (xo C (some dx) vs sl) C (some od) := ⟨g, rfl, rfl, gd⟩
  refine set_plain I2.kIn hI c.sa (x_sa (s := { s2 with toks := s2.toks + 1 }) I2.kIn hI c.cls c.mro hn (x_put1 (s := { s2 with toks := s2.toks + 1 }) I2.kIn g c.cls c.dct (ds.ns1 gd) hw hz fun h' k sb nd => ?_))
  obtain ⟨od', gd', ds'⟩ := dictS_of nd
  exact ⟨σ, _, I2.rewrite (t' := k) edx (fun b u hb hg => (sb.2 b hb).trans hg) gd', q od' u ry ds'⟩
end
end L2
namespace L2
open PySem PySem.W PySem.Spec PyProof.Rows
def xcIn (K : Frag) (C S : Addr) (fI : Option Addr) (fs : List Str) : Bool := match K.lookup C with
  | some ⟨.type "type", _, .cls cd, sl⟩ => (match sl.toList with
    | [_, _, _, _, some (.builtin n), _] => n == "ValueError.__new__" && cd.mro == .ref C :: .ref S :: vE && !cd.hasDel && cd.hasDict && nsOkIn K cd.ns && nsIn K cd.ns "__init__" == some (fI.map Value.ref) && tailIn K vE (.ref S :: vE)
    | _ => false) && typeIn K (.ref C) == some (.type "type") && findIn K (.ref C) "__setattr__" == some (some (.builtin "object.__setattr__")) && findIn K (.ref C) "__getattribute__" == some (some (.builtin "BaseException.__getattribute__"))
      && findIn K (.ref C) "__getattr__" == some none && findIn K (.ref C) "__class__" == some (some (.builtin "object.__class__")) && keepIn K (.ref C) && fs.all (fun f => findIn K (.ref C) f == some none) && fI.all (fun f => isFn K (.ref f))
  | _ => false
structure XC (K : Frag) (C S : Addr) (fI : Option Addr) (fs : List Str) (cd : ClassData) : Prop extends XK0 K C S cd where
  kp : keepIn K (.ref C) = true
  fld : ∀ f ∈ fs, findIn K (.ref C) f = some none
  fn : ∀ f, fI = some f → isFn K (.ref f) = true
  obj : ∃ (nm q : Str) (N : Addr) (bs : List Value) (sn : List Str) (sub : List Value) (ab : Bool) (col : Option Bool) (dd : Option Addr) (k0 k1 k2 k3 k5 : Option Value), K.lookup C = some (excClassObj nm q C N bs (.ref S :: vE) true sn sub ab col dd k0 k1 k2 k3 k5 "ValueError.__new__") ∧
    nsOkIn K N = true ∧ nsIn K N "__init__" = some (fI.map Value.ref) ∧ tailIn K vE (.ref S :: vE) = true
theorem xc_of {K : Frag} {C S : Addr} {fI : Option Addr} {fs : List Str} (e : xcIn K C S fI fs = true) : ∃ cd, XC K C S fI fs cd := by
  unfold xcIn at e
  split at e
  · rename_i dd cd sl lk
    simp only [Bool.and_eq_true, beq_iff_eq, List.all_eq_true] at e
    obtain ⟨⟨⟨⟨⟨⟨⟨⟨e0, e1⟩, e2⟩, e3⟩, e4⟩, e5⟩, e6⟩, e7⟩, e8⟩ := e
    split at e0
    · rename_i k0 k1 k2 k3 n k5 hs
      simp only [Bool.and_eq_true, beq_iff_eq, Bool.not_eq_true'] at e0
      obtain ⟨⟨⟨⟨⟨⟨rfl, hm⟩, hdel⟩, hdc⟩, hok⟩, hin⟩, ht⟩ := e0
      refine ⟨cd, ⟨by unfold clsIn; rw [lk], hm, hdc, e1, e2, e3, e4, e5⟩, e6, e7, fun f hf => by subst hf; exact e8, ?_⟩
      obtain ⟨nm, bs, mro, ns, qn, hd, sn, sub, ab, col, del⟩ := cd
      dsimp only at hm hdel hdc hok hin
      subst hm hdel hdc
      have hsl : sl = #[k0, k1, k2, k3, some (.builtin "ValueError.__new__"), k5] := by
        obtain ⟨l⟩ := sl
        dsimp only at hs
        rw [hs]
      subst hsl
      exact ⟨nm, qn, ns, bs, sn, sub, ab, col, dd, k0, k1, k2, k3, k5, lk, hok, hin, ht⟩
    · cases e0
  · cases e
end L2
namespace L2
open PySem PySem.W PySem.Spec PyProof.Rows
def XFld (fs : List Str) (ys : List V) (od : Obj) : Prop := ∃ m, DictS od m ∧ ∀ (i : Nat) (f : Str) (y : V), fs[i]? = some f → ys[i]? = some y → ∃ u, m f = some u ∧ RelV y u
def spX (C : Addr) (fs : List Str) : Sp := fun vs H Q _ => ∃ e ys vs0 sl, vs = .ref e :: ys ∧ ys.length = fs.length ∧ H e = some (xm e (xo C none vs0 sl)) ∧
  ∀ dx od, H dx = none → dx ≠ e → XFld fs ys od → Q .non (upd (upd H dx (xm dx od)) e (xm e (xo C (some dx) vs0 sl)))
theorem ns_some_of {K : Frag} {h : Heap} {N : Addr} {m : Str → Option Value} {n : Str} {v : Value} (X : K.In h) (G : h.Ns N m) (e : nsIn K N n = some (some v)) : m n = some v := by
  obtain ⟨o, es, ep, ho, hd, _, hf⟩ := G
  unfold nsIn at e
  split at e
  · rename_i c d es' n' sl q
    have z := X _ _ q
    rw [ho] at z
    cases z
    cases hd
    split at e
    · rename_i en he
      cases e
      rw [← hf]
      unfold nsFind findBy
      rw [← Array.find?_toList, he]
      rfl
    · split at e <;> cases e
  · cases e
theorem fn_obj {K : Frag} {h : Heap} {f : Addr} (X : K.In h) (e : isFn K (.ref f) = true) : ∃ o, h.get? f = some o ∧ o.cls = .type "function" := by
  unfold isFn typeIn at e
  cases q : K.lookup f with
  | none => simp [q] at e
  | some o =>
    refine ⟨o, X _ _ q, ?_⟩
    simp [q] at e
    exact e
section
variable {X : Cx} {pins : List (Addr × Obj)} {σ : St} {H : Hp} {s : Shared} {C S f : Addr} {fs ps : List Str} {cd : ClassData} {fd : FuncData} {k : Nat} {Q : VK} {vs : List V} {us : List Value}
theorem run_x0 (xc : XC X.K C S none [] cd) (I : Inv X pins σ H s) (h : ∀ e vs sl, H e = none → Q (.ref e) (upd H e (xh e (xo C none vs sl)))) : wpAny (model X.prog X.w) X.A (call (.ref C) []) (EP X pins σ Q) X.xe s := by
  obtain ⟨nm, q, N, bs, sn, sub, ab, col, dd, k0, k1, k2, k3, k5, lk, hok, hin, ht⟩ := xc.obj
  have hT := tail_of_in I.kIn ht
  have hC := I.kIn _ _ lk
  have hN : s.heap.Ns N (s.heap.nsMap N) := .of_isNs (isNs_of_in I.kIn hok)
  have h0 : s.heap.nsMap N "__init__" = none := nsMap_none_of_in I.kIn hok hin
  obtain ⟨hh, g, d, t, os⟩ := s
  refine wpAny_call_exc_subT PySem.F.excBase_ValueError hT hC hN h0 (fun h' e made => ?_) (by decide)
  obtain ⟨tt, ge, _, _⟩ := made.there
  have J := I.laidN (a := e) (t' := t) made.keeps made.new (xm_ok (o := xo C none #[.ref tt, .none, .none, .none, .bool false, .none] #[]) ge)
  have J2 := J.freeze upd_same
  rw [upd_upd] at J2
  have he : H e = none := by
    cases z : H e with
    | none => rfl
    | some y => exact absurd ((I.hok e y z).there) (by rintro ⟨w, hw⟩; rw [show hh.get? e = none from made.new] at hw; cases hw)
  exact ⟨.ref e, _, J2, rfl, h e _ _ he⟩
theorem run_x (xc : XC X.K C S (some f) fs cd) (F : FnOk X.prog X.w X.K X.mg X.base CX0 k f fd ps (spX C fs)) (hr : Room (k + 1) X.A) (hb : Binds X.K fd ps []) (I : Inv X pins σ H s) (r : Vals vs us) (hl : vs.length = fs.length) (hz : fs.length ≤ 100)
    (h : ∀ e dx vs0 sl od, H e = none → H dx = none → dx ≠ e → XFld fs vs od → Q (.ref e) (upd (upd H dx (xh dx od)) e (xh e (xo C (some dx) vs0 sl)))) : wpAny (model X.prog X.w) X.A (call (.ref C) us) (EP X pins σ Q) X.xe s := by
  obtain ⟨nm, q, N, bs, sn, sub, ab, col, dd, k0, k1, k2, k3, k5, lk, hok, hin, ht⟩ := xc.obj
  have hT := tail_of_in I.kIn ht
  have hC := I.kIn _ _ lk
  have hN : s.heap.Ns N (s.heap.nsMap N) := .of_isNs (isNs_of_in I.kIn hok)
  have hi : s.heap.nsMap N "__init__" = some (.ref f) := ns_some_of I.kIn hN hin
  obtain ⟨oI, gI, cI⟩ := fn_obj I.kIn (xc.fn f rfl)
  have env := I
  obtain ⟨hh, g, d, t, os⟩ := s
  refine call_x2 PySem.F.excBase_ValueError hT hC hN hi gI cI (fun h' e made => ?_) (by rw [← r.length, hl]; exact Nat.le_trans hz (by decide))
  obtain ⟨tt, ge, _, _⟩ := made.there
  have he : H e = none := by
    cases z : H e with
    | none => rfl
    | some y => exact absurd ((I.hok e y z).there) (by rintro ⟨w, hw⟩; rw [show hh.get? e = none from made.new] at hw; cases hw)
  have I2 := I.laidN (a := e) (t' := t) made.keeps made.new (xm_ok (o := xo C none #[.ref tt, .none, .none, .none, .bool false, .none] #[]) ge)
  have hq : spX C fs (.ref e :: vs) (upd H e (xm e (xo C none #[.ref tt, .none, .none, .none, .bool false, .none] #[]))) (fun v H3 => v = .non ∧ ∃ dx od, upd H e (xm e (xo C none #[.ref tt, .none, .none, .none, .bool false, .none] #[])) dx = none ∧ dx ≠ e ∧ XFld fs vs od ∧ H3 = upd (upd (upd H e (xm e (xo C none #[.ref tt, .none, .none, .none, .bool false, .none] #[]))) dx (xm dx od)) e (xm e (xo C (some dx) #[.ref tt, .none, .none, .none, .bool false, .none] #[]))) (fun _ _ _ => False) :=
    ⟨e, vs, _, _, rfl, hl, upd_same, fun dx od h1 h2 h3 => ⟨rfl, dx, od, h1, h2, h3, rfl⟩⟩
  have r2 : Vals (V.ref e :: vs) (Value.ref e :: us) := .cons rfl r
  have hl2 : (Value.ref e :: us ++ []).length = ps.length := by
    rw [List.append_nil, ← r2.length]
    exact F.len _ _ _ _ hq
  have bb := hb _ (Value.ref e :: us) I2.kIn hl2
  rw [List.append_nil] at bb
  refine wpAny_call (codeAny_mono (F.run _ X.stack _ _ ⟨Value.ref e :: us, []⟩ (Value.ref e :: us) _ _ _ (hr.make C us []) (I2.env0.make C us []) bb r2 hq) fun rr s' hq' => ?_)
  cases rr with
  | error e => exact False.elim hq'
  | ok fl =>
    cases fl with
    | ret u =>
      obtain ⟨v, H', I3, rv, ev, dx, od, h1, h2, h3, rfl⟩ := I2.after hq'
      subst ev
      refine ⟨rv, ?_⟩
      have hdx : H dx = none := by rw [upd_ne h2] at h1; exact h1
      have I4 := I3.freeze (a := e) upd_same
      rw [upd_upd] at I4
      have I5 := I4.freeze (a := dx) (o := od) (by rw [upd_ne h2, upd_same])
      have eq : upd (upd (upd (upd H e (xm e (xo C none #[.ref tt, .none, .none, .none, .bool false, .none] #[]))) dx (xm dx od)) e (xh e (xo C (some dx) #[.ref tt, .none, .none, .none, .bool false, .none] #[]))) dx (xh dx od) = upd (upd H dx (xh dx od)) e (xh e (xo C (some dx) #[.ref tt, .none, .none, .none, .bool false, .none] #[])) := by
        funext b
        unfold upd
        by_cases b1 : b = dx
        · subst b1; simp [h2]
        · by_cases b2 : b = e
          · subst b2; simp [b1]
          · simp [b1, b2]
      rw [eq] at I5
      exact ⟨.ref e, _, I5, rfl, h e dx _ _ od he hdx h2 h3⟩
    | next => exact False.elim hq'
    | brk => exact False.elim hq'
    | cont => exact False.elim hq'
end
end L2
namespace L2
open PySem PySem.W PySem.Spec PyProof.Rows
section
variable {P : Program} {w : World} {K : Frag} {mg : Str → Option Value} {base : Heap} {x qual a b c f1 f2 : Str} {st : Stmt} {f C S : Addr} {fd : FuncData} {cd : ClassData} {p0 p1 p2 p3 q0 q1 q2 q3 : Pos}
theorem x1_of {vs : List V} (h : vs.length = 1) : ∃ y, vs = [y] := by
  match vs, h with
  | [y], _ => exact ⟨y, rfl⟩
theorem x2_of {vs : List V} (h : vs.length = 2) : ∃ y z, vs = [y, z] := by
  match vs, h with
  | [y, z], _ => exact ⟨y, z, rfl⟩
theorem spX_len {fs : List Str} {vs : List V} {H : Hp} {Q : VK} {E : XK} (h : spX C fs vs H Q E) : vs.length = fs.length + 1 := by
  obtain ⟨e, ys, _, _, rfl, l, _⟩ := h
  rw [List.length_cons, l]
theorem init1 (F : Fun K x qual st f fd) (Sc : FnScope [a, b] [a, b] (defScope st)) (hb : defBody st = [.Assign [.Attribute (.Name a p0) f1 p1] (.Name b p2) p3]) (xc : XC K C S (some f) [f1] cd) (ha : (a == "__debug__") = false ∧ (a == "__classdict__") = false) (hbb : (b == "__debug__") = false ∧ (b == "__classdict__") = false) :
    FnOk P w K mg base CX0 1 f fd [a, b] (spX C [f1]) := by
  refine F.ok (k := 0) Sc (fun vs H Q E h => (spX_len h).trans rfl) fun cdv A outer s H vs Q E hr h => ?_
  rw [hb]
  have v0 : Vis (defScope st) a := (Sc.par a (by simp)).elim .inl fun z => .inr (.inl z)
  have v1 : Vis (defScope st) b := (Sc.par b (by simp)).elim .inl fun z => .inr (.inl z)
  refine ⟨_, pss_one (ps_xf0 xc.toXK0 (xc.fld f1 (by simp)) (pe_var (i := 0) rfl v0 ha.1 ha.2) (pe_var (i := 1) rfl v1 hbb.1 hbb.2) rfl), ?_⟩
  obtain ⟨e, ys, vs0, sl, rfl, l, eh, q⟩ := h
  obtain ⟨y, rfl⟩ := x1_of l
  refine ⟨y, e, vs0, sl, rfl, rfl, eh, fun dx od u h1 h2 ru ds => q dx od h1 h2 ⟨_, ds, fun i g y' hg hy => ?_⟩⟩
  match i with
  | 0 => cases hg; cases hy; exact ⟨u, if_pos rfl, ru⟩
  | i + 1 => cases hg
theorem init2 (F : Fun K x qual st f fd) (Sc : FnScope [a, b, c] [a, b, c] (defScope st)) (hb : defBody st = [.Assign [.Attribute (.Name a p0) f1 p1] (.Name b p2) p3, .Assign [.Attribute (.Name a q0) f2 q1] (.Name c q2) q3]) (xc : XC K C S (some f) [f1, f2] cd) (ha : (a == "__debug__") = false ∧ (a == "__classdict__") = false) (hbb : (b == "__debug__") = false ∧ (b == "__classdict__") = false)
    (hcc : (c == "__debug__") = false ∧ (c == "__classdict__") = false) (hn : f1 ≠ f2) : FnOk P w K mg base CX0 1 f fd [a, b, c] (spX C [f1, f2]) := by
  refine F.ok (k := 0) Sc (fun vs H Q E h => (spX_len h).trans rfl) fun cdv A outer s H vs Q E hr h => ?_
  rw [hb]
  have v0 : Vis (defScope st) a := (Sc.par a (by simp)).elim .inl fun z => .inr (.inl z)
  have v1 : Vis (defScope st) b := (Sc.par b (by simp)).elim .inl fun z => .inr (.inl z)
  have v2 : Vis (defScope st) c := (Sc.par c (by simp)).elim .inl fun z => .inr (.inl z)
  refine ⟨_, pss_cons (ps_xf0 xc.toXK0 (xc.fld f1 (by simp)) (pe_var (i := 0) rfl v0 ha.1 ha.2) (pe_var (i := 1) rfl v1 hbb.1 hbb.2) rfl) (pss_one (ps_xf1 xc.toXK0 (xc.fld f2 (by simp)) (pe_var (i := 0) rfl v0 ha.1 ha.2) (pe_var (i := 2) rfl v2 hcc.1 hcc.2) rfl)), ?_⟩
  obtain ⟨e, ys, vs0, sl, rfl, l, eh, q⟩ := h
  obtain ⟨y, z, rfl⟩ := x2_of l
  refine ⟨y, e, vs0, sl, rfl, rfl, eh, fun dx od u h1 h2 ru ds => ?_⟩
  refine ⟨z, e, dx, vs0, sl, od, _, [f1], rfl, rfl, upd_same, by rw [upd_ne h2, upd_same], ds, Within.cons f1 u Within.nil, by show 1 < 100; decide, fun od' u' ru' ds' => ?_⟩
  have eq : upd (upd (upd H dx (xm dx od)) e (xm e (xo C (some dx) vs0 sl))) dx (xm dx od') = upd (upd H dx (xm dx od')) e (xm e (xo C (some dx) vs0 sl)) := by
    funext t
    unfold upd
    by_cases b1 : t = dx
    · subst b1; simp [h2]
    · by_cases b2 : t = e
      · subst b2; simp [b1]
      · simp [b1, b2]
  rw [eq]
  refine q dx od' h1 h2 ⟨_, ds', fun i g y' hg hy => ?_⟩
  match i with
  | 0 => cases hg; cases hy; exact ⟨u, by rw [if_neg hn]; exact if_pos rfl, ru⟩
  | 1 => cases hg; cases hy; exact ⟨u', if_pos rfl, ru'⟩
  | i + 2 => cases hg
end
end L2
namespace Qm
open PySem
def eExc (C S : Nat) (fs : List Str) (a : XA) : XE := fun σ c => (a σ c).bind fun p => if p.1.length = fs.length then some (.ref p.2.length, p.2 ++ [.exc C S (fs.zip p.1)]) else none
def xfOf (f : Str) : D → Cells → Option (D × Cells)
  | .ref n, c => (match c[n]? with
    | some (.exc _ _ fs) => (fs.lookup f).map fun d => (d, c)
    | _ => none)
  | _, _ => none
def eXf (f : Str) (a : XE) : XE := fun σ c => (a σ c).bind fun p => xfOf f p.1 p.2
def bIsE (C' : Nat) : FN := fun ds c => match ds with
  | [.ref n, .adr a] => (match c[n]? with
    | some (.exc C S _) => if a = C' then some (.bl (decide (C' = C) || decide (C' = S)), c) else none
    | _ => none)
  | _ => none
def bIsV : FN := fun ds c => match ds with
  | [.ref n, .ty t] => (match c[n]? with
    | some (.exc _ _ _) => if t = "ValueError" then some (.bl true, c) else none
    | _ => none)
  | _ => none
end Qm
namespace Qm
open PySem
def strsOf : List D → Option (List Str)
  | [] => some []
  | .str x :: ds => (strsOf ds).map (x :: ·)
  | _ :: _ => none
def eJoin (sep : Str) (a : XE) : XE := fun σ c => (a σ c).bind fun p => (lstOf p.1 p.2).bind fun l => (strsOf l.2).bind fun xs => if (xs.map (·.length)).sum + xs.length * sep.length ≤ 1000000 then some (.str (Txt.join sep xs), p.2) else none
end Qm
namespace L2
open PySem PySem.W PySem.Spec PyProof.Rows
def tX (C : Addr) (fs : List Str) (t : TA) : TE := fun σ H Q => t σ H fun vs H1 => vs.length = fs.length ∧ ∀ e dx vs0 sl od, H1 e = none → H1 dx = none → dx ≠ e → XFld fs vs od → Q (.ref e) (upd (upd H1 dx (xh dx od)) e (xh e (xo C (some dx) vs0 sl)))
def tX0 (C : Addr) : TE := fun _ H Q => ∀ e vs sl, H e = none → Q (.ref e) (upd H e (xh e (xo C none vs sl)))
def tXf (K : Frag) (ta : TE) (f : Str) : TE := fun σ H Q => ta σ H fun x H1 => ∃ a C S vs v, x = .ref a ∧ XObj K H1 a C S vs ∧ (Sum.inr f, v) ∈ vs ∧ Q v H1
section
variable {X : Cx} {C S f : Addr} {fs ps : List Str} {cd : ClassData} {fd : FuncData} {k : Nat} {x fl : Str} {e : Expr} {es : List Expr} {t : TA} {ta : TE} {pos p : Pos} {fa : Qm.XA} {fe : Qm.XE}
theorem pe_x (xc : XC X.K C S (some f) fs cd) (F : FnOk X.prog X.w X.K X.mg X.base CX0 k f fd ps (spX C fs)) (hr : Room (k + 1) X.A) (hb : Binds X.K fd ps []) (hz : fs.length ≤ 100) (hg : Gl X x) (hm : X.mg x = some (.ref C)) (ha : PA X (e :: es) t)
    (hdb : (x == ("__debug__" : Str)) = false := by decide) (he : starEach (e :: es) X.env = (false, eval e X.env) :: starEach es X.env := by rfl) (hpl : (backTo pos (starEach es X.env)).any (·.1) = false := by rfl) : PE X (.Call (.Name x p) (e :: es) [] pos) (tX C fs t) := by
  intro pins s σ H Q I h
  refine wpAny_Call_Name_kw (ld_glob I hg hm ?_ hdb)
  refine PySem.W.callWith_K (h₀ := X.base) I.ok.mod.kin xc.kp (thn (ha pos pins s σ H _ I h) fun us s1 z => ?_) he hpl
  obtain ⟨vs, H1, I1, r, l, q⟩ := z
  exact ⟨I1.kIn, run_x xc F hr hb I1 r l hz q⟩
theorem pe_x0 (xc : XC X.K C S none [] cd) (hg : Gl X x) (hm : X.mg x = some (.ref C)) (hdb : (x == ("__debug__" : Str)) = false := by decide) : PE X (.Call (.Name x p) [] [] pos) (tX0 C) := by
  intro pins s σ H Q I h
  refine wpAny_Call_Name_kw (ld_glob I hg hm ?_ hdb)
  exact PySem.W.callWith_K0 I.kIn xc.kp (run_x0 xc I h)
theorem XObj.inst {pins : List (Addr × Obj)} {σ : St} {H : Hp} {s : Shared} {a : Addr} {vs : List (Key × V)} (I : Inv X pins σ H s) (h : XObj X.K H a C S vs) : ∃ cd ox od, XK0 X.K C S cd ∧ InstAt s.heap a ox C od ∧ ∀ f v, (Sum.inr f, v) ∈ vs → findIn X.K (.ref C) f = some none ∧ ∃ o u, od = some o ∧ lookIn f o = some (some u) ∧ RelV v u := by
  obtain ⟨cd, d, vs0, sl, odo, h1, h2, h3, h4⟩ := h.ex
  refine ⟨cd, _, odo, h1, ⟨I.at_h h2, rfl, rfl, ?_⟩, h4⟩
  cases d with
  | none =>
    cases odo with
    | none => exact True.intro
    | some od => exact h3
  | some dx =>
    cases odo with
    | none => exact h3
    | some od => exact I.at_h h3
theorem pe_xf (he : PE X e ta) (hb : attributeBase e fl X.env (eval e X.env) = eval e X.env) : PE X (.Attribute e fl pos) (tXf X.K ta fl) := by
  intro pins s σ H Q I h
  refine attr_of hb (thn (he pins s σ H _ I h) fun u s1 z => ?_)
  obtain ⟨y, H1, I1, rx, a, C, S, vs, v, rfl, xo, mem, q⟩ := z
  obtain rfl : u = Value.ref a := rx
  obtain ⟨cd, ox, od, c, In, fl⟩ := xo.inst I1
  obtain ⟨hn, o, u, rfl, hl, ru⟩ := fl _ _ mem
  exact x_get I1.kIn In c.cls c.mro (findObj_own (by unfold hasDictIn; rw [c.cls]; exact c.dct) hn rfl hl) (handed_of ru) c.ga c.gt fun k => ⟨v, H1, I1.tok k, ru, q⟩
structure ClsK (K : Frag) (C : Addr) : Prop where
  ty : typeIn K (.ref C) = some (.type "type")
  cls : (clsIn K C).isSome = true
theorem ClsK.isT {K : Frag} (c : ClsK K C) {M : Model} {h : Heap} (X : K.In h) : Looks M h (PySem.isType (.ref C)) true := by
  obtain ⟨cd, e⟩ := Option.isSome_iff_exists.mp c.cls
  unfold clsIn at e
  split at e
  · rename_i ho
    intro A' Q' E' s' k q
    unfold PySem.isType loadHead
    exact wpAny_bind (wpAny_loadPart (k _ _ (X _ _ ho)) (wpAny_pure q))
  · cases e
theorem call_isE {C' : Addr} (cc : ClsK X.K C') : CallR X (.builtin "isinstance") (fun xs H Q => ∃ a C S vs, xs = [.ref a, .ref C'] ∧ XObj X.K H a C S vs ∧ Q (.bl (decide (C' = C) || decide (C' = S))) H) := by
  intro pins s σ H xs us Q I r h
  obtain ⟨a, C, S, vs, rfl, xo, q⟩ := h
  obtain ⟨u, w', rfl, ru, rw'⟩ := vals2 r
  cases (show u = Value.ref a from ru)
  cases (show w' = Value.ref C' from rw')
  obtain ⟨cd, ox, od, c, In, _⟩ := xo.inst I
  have hs : mroIn X.K C (.ref C') = some (decide (C' = C) || decide (C' = S)) := by
    rw [mro_has c.cls c.mro]
    congr 1
    simp only [List.contains_cons, List.contains_nil, Bool.or_false]
    have z : ∀ n : String, (Value.ref C' == Value.type n) = false := fun n => by rw [beq_eq_false_iff_ne]; intro q; cases q
    have y : ∀ b : Addr, (Value.ref C' == Value.ref b) = decide (C' = b) := fun b => by
      by_cases e : C' = b
      · subst e; simp
      · rw [decide_eq_false e, beq_eq_false_iff_ne]; intro q; cases q; exact e rfl
    rw [z, z, z, z, y, y]
    simp
  refine x_isinst I.kIn In c (looks_typeIn I.kIn cc.ty) (cc.isT I.kIn) (looks_mroIn I.kIn hs) (fun e => ?_) fun k => ⟨.bl _, H, I.tok k, rfl, q⟩
  rw [show C' = C from (Value.ref.inj (beq_iff_eq.mp e)).symm]
  simp
theorem call_isV : CallR X (.builtin "isinstance") (fun xs H Q => ∃ a C S vs, xs = [.ref a, .ty "ValueError"] ∧ XObj X.K H a C S vs ∧ Q (.bl true) H) := by
  intro pins s σ H xs us Q I r h
  obtain ⟨a, C, S, vs, rfl, xo, q⟩ := h
  obtain ⟨u, w', rfl, ru, rw'⟩ := vals2 r
  cases (show u = Value.ref a from ru)
  cases (show w' = Value.type "ValueError" from rw')
  obtain ⟨cd, ox, od, c, In, _⟩ := xo.inst I
  have hs : mroIn X.K C (.type "ValueError") = some true := by rw [mro_has c.cls c.mro]; rfl
  exact x_isinst I.kIn In c (Looks.of_pure (by kernel_rfl)) (Looks.of_pure rfl) (looks_mroIn I.kIn hs) (fun _ => rfl) fun k => ⟨.bl _, H, I.tok k, rfl, q⟩
end
end L2
namespace L2
open PySem PySem.W PySem.Spec PyProof.Rows
theorem rk_zip {K : Frag} {ρ : Nat → Addr} {N : Nat} {H : Hp} : ∀ {fs : List Str} {ds : List Qm.D} {vs : List V}, RA K ρ N H ds vs → RK K ρ N H (fs.zip ds) ((fs.map Sum.inr).zip vs)
  | [], _, _, _ => .nil
  | f :: fs, [], _, r => by cases r; exact .nil
  | f :: fs, d :: ds, _, r => by
    cases r with
    | cons h t => exact .cons h (rk_zip t)
theorem zip_mem {fs : List Str} {vs : List V} {f : Str} {v : V} (h : (Sum.inr f, v) ∈ ((fs.map Sum.inr : List Key).zip vs)) : ∃ i : Nat, fs[i]? = some f ∧ vs[i]? = some v := by
  obtain ⟨i, hi⟩ := List.getElem?_of_mem h
  obtain ⟨h1, h2⟩ := List.getElem?_zip_eq_some.mp hi
  rw [List.getElem?_map] at h1
  cases q : fs[i]? with
  | none => rw [q] at h1; cases h1
  | some g => rw [q] at h1; cases h1; exact ⟨i, q, h2⟩
theorem rk_look {K : Frag} {ρ : Nat → Addr} {N : Nat} {H : Hp} {f : Str} {d : Qm.D} : ∀ {ds : List (Str × Qm.D)} {vs : List (Key × V)}, RK K ρ N H ds vs → ds.lookup f = some d → ∃ v, (Sum.inr f, v) ∈ vs ∧ RD K ρ N H d v
  | _, _, .nil, e => by cases e
  | _, _, .cons (k := k) h t, e => by
    rw [List.lookup_cons] at e
    by_cases g : (f == k) = true
    · rw [g] at e
      cases e
      rw [eq_of_beq g]
      exact ⟨_, .head _, h⟩
    · rw [Bool.not_eq_true] at g
      rw [g] at e
      obtain ⟨v, m, r⟩ := rk_look t e
      exact ⟨v, .tail _ m, r⟩
section
variable {X : Cx} {C S f : Addr} {fs ps : List Str} {cd : ClassData} {fd : FuncData} {k : Nat} {x fl : Str} {e : Expr} {es : List Expr} {pos p : Pos} {fa : Qm.XA} {fe : Qm.XE}
theorem qe_exc (xc : XC X.K C S (some f) fs cd) (F : FnOk X.prog X.w X.K X.mg X.base CX0 k f fd ps (spX C fs)) (hr : Room (k + 1) X.A) (hb : Binds X.K fd ps []) (hz : fs.length ≤ 100) (hg : Gl X x) (hm : X.mg x = some (.ref C)) (ha : QA X (e :: es) fa)
    (hdb : (x == ("__debug__" : Str)) = false := by decide) (he : starEach (e :: es) X.env = (false, eval e X.env) :: starEach es X.env := by rfl) (hpl : (backTo pos (starEach es X.env)).any (·.1) = false := by rfl) : QE X (.Call (.Name x p) (e :: es) [] pos) (Qm.eExc C S fs fa) :=
  (pe_x xc F hr hb hz hg hm ha hdb he hpl).imp fun σ H Q h => by
  obtain ⟨ρ, env, c, d, c', rs, re, e, k⟩ := h
  obtain ⟨p, e1, e⟩ := bnd e
  split at e
  · rename_i hl
    cases e
    refine ⟨ρ, env, c, p.1, p.2, rs, re, e1, fun ρ1 vs H1 n1 r1 => ⟨by rw [← r1.length]; exact hl, fun a dx vs0 sl od ha hd hne hf => ?_⟩⟩
    have n2 : Nx X.K ρ1 p.2 H1 ρ1 p.2 (upd H1 dx (xh dx od)) := Nx.same n1.rs fun b o hb => get_new hb hd
    obtain ⟨m, hm, hfl⟩ := hf
    obtain ⟨n3, r3⟩ := Nx.allocG (l := a) (z := .exc C S (fs.zip p.1)) (o := xh a (xo C (some dx) vs0 sl)) n2.rs (by rw [upd_ne hne.symm]; exact ha) (fun ρ' N' H' u hh => by
      refine ⟨(fs.map Sum.inr).zip vs, ⟨cd, some dx, vs0, sl, some od, xc.toXK0, hh, u.fz _ _ _ upd_same, fun g v hg => ?_⟩, rk_zip ((r1.up n2.up).up u)⟩
      obtain ⟨i, h1, h2⟩ := zip_mem hg
      obtain ⟨uu, e3, ru⟩ := hfl i g v h1 h2
      exact ⟨xc.fld g (List.mem_of_getElem? h1), od, uu, rfl, hm.look e3, ru⟩)
    exact k _ _ _ ((n1.trans n2).trans n3) r3
  · cases e
theorem qe_exc0 (xc : XC X.K C S none [] cd) (hg : Gl X x) (hm : X.mg x = some (.ref C)) (hdb : (x == ("__debug__" : Str)) = false := by decide) : QE X (.Call (.Name x p) [] [] pos) (Qm.eExc C S [] Qm.aNil) :=
  (pe_x0 xc hg hm hdb).imp fun σ H Q h => by
  obtain ⟨ρ, env, c, d, c', rs, re, e, k⟩ := h
  intro a vs0 sl ha
  have e' : some (Qm.D.ref c.length, c ++ [Qm.Cell.exc C S []]) = some (d, c') := e
  cases e'
  obtain ⟨n3, r3⟩ := Nx.allocG (l := a) (z := .exc C S []) (o := xh a (xo C none vs0 sl)) rs ha (fun ρ' N' H' u hh => ⟨[], ⟨cd, none, vs0, sl, none, xc.toXK0, hh, True.intro, fun g v hg => absurd hg (by simp)⟩, .nil⟩)
  exact k _ _ _ n3 r3
theorem qe_xf (ha : QE X e fe) (hb : attributeBase e fl X.env (eval e X.env) = eval e X.env := by rfl) : QE X (.Attribute e fl pos) (Qm.eXf fl fe) := (pe_xf ha hb).imp fun σ H Q h => by
  obtain ⟨ρ, env, c, d, c', rs, re, e, k⟩ := h
  obtain ⟨p, e1, e⟩ := bnd e
  refine ⟨ρ, env, c, p.1, p.2, rs, re, e1, fun ρ1 v H1 n1 r1 => ?_⟩
  unfold Qm.xfOf at e
  split at e
  · rename_i dd0 c0 n hp
    split at e
    · rename_i C S fs hcell
      cases q : fs.lookup fl with
      | none => rw [q] at e; cases e
      | some dd =>
        rw [q] at e
        cases e
        rw [hp] at r1
        obtain ⟨vs, xo, rk⟩ := n1.rs.ok n _ hcell
        obtain ⟨v2, mem, rd⟩ := rk_look rk q
        have hv : v = .ref (ρ1 n) := by cases r1; rfl
        exact ⟨_, C, S, vs, v2, hv, xo, mem, k ρ1 _ H1 n1 rd⟩
    · cases e
  · cases e
end
theorem lk_isE {K : Frag} {C' : Addr} : LkF K (fun xs H Q => ∃ a C S vs, xs = [.ref a, .ref C'] ∧ XObj K H a C S vs ∧ Q (.bl (decide (C' = C) || decide (C' = S))) H) (Qm.bIsE C') := by
  intro ρ c H ds d c' vs Q rs ra e k
  unfold Qm.bIsE at e
  split at e
  · rename_i n a
    split at e
    · rename_i C S fs hc
      split at e
      · rename_i ea
        subst ea
        cases e
        obtain ⟨v, u, rfl, rx, ry⟩ := ra.two'
        obtain ⟨ws, xo, _⟩ := rs.ok n _ hc
        have h1 : v = .ref (ρ n) := by cases rx; rfl
        have h2 : u = .ref a := by cases ry; rfl
        subst h1 h2
        exact ⟨_, C, S, ws, rfl, xo, k ρ _ H (Nx.refl rs) (.bl _)⟩
      · cases e
    · cases e
  · cases e
theorem lk_isV {K : Frag} : LkF K (fun xs H Q => ∃ a C S vs, xs = [.ref a, .ty "ValueError"] ∧ XObj K H a C S vs ∧ Q (.bl true) H) Qm.bIsV := by
  intro ρ c H ds d c' vs Q rs ra e k
  unfold Qm.bIsV at e
  split at e
  · rename_i n t
    split at e
    · rename_i C S fs hc
      split at e
      · rename_i ea
        subst ea
        cases e
        obtain ⟨v, u, rfl, rx, ry⟩ := ra.two'
        obtain ⟨ws, xo, _⟩ := rs.ok n _ hc
        have h1 : v = .ref (ρ n) := by cases rx; rfl
        have h2 : u = .ty "ValueError" := by cases ry; rfl
        subst h1 h2
        exact ⟨_, C, S, ws, rfl, xo, k ρ _ H (Nx.refl rs) (.bl _)⟩
      · cases e
    · cases e
  · cases e
end L2
namespace L2
open PySem PySem.W PySem.Spec PyProof.Rows
def rJoin : V → List V → Hp → VK → Prop := fun x xs H Q => ∃ sep l zs, x = .str sep ∧ xs = [.ref l] ∧ H l = some (.lst (zs.map V.str)) ∧ (zs.map (·.length)).sum + zs.length * sep.length ≤ 16777216 ∧ Q (.str (Txt.join sep zs)) H
theorem strs_are : ∀ {zs : List Str} {us : List Value}, Vals (zs.map V.str) us → StrsAre us zs
  | [], _, r => by cases r; exact .nil
  | z :: zs, _, r => by
    cases r with
    | cons h t =>
      obtain ⟨tk, rfl⟩ := h
      exact .cons z tk (strs_are t)
section
variable {X : Cx} {e : Expr} {fe : Qm.XE} {sep : Str} {j0 : Nat} {p0 apos cpos : Pos}
theorem mt_join : MtR X "str.join" rJoin := by
  intro pins s σ H x xs v us Q I rx r h
  obtain ⟨sep, l, zs, rfl, rfl, hl, hz, q⟩ := h
  obtain ⟨tk, rfl⟩ := (show ∃ tk, v = Value.str sep tk from rx)
  obtain ⟨u, rfl, ru⟩ := vals1 r
  cases (show u = Value.ref l from ru)
  obtain ⟨_, its, n, va, gl⟩ := (show ObjOk X.prog X.w H s.heap l (.lst (zs.map V.str)) from I.hok l _ hl)
  exact join_list (items := its.toArray) ⟨_, gl, rfl, _, rfl⟩ (by simpa using strs_are va) hz fun t' k => ⟨.str (Txt.join sep zs), H, I.tok k, ⟨t', rfl⟩, q⟩
theorem strsOf_ra {K : Frag} {ρ : Nat → Addr} {N : Nat} {H : Hp} : ∀ {ds : List Qm.D} {vs : List V} {xs : List Str}, RA K ρ N H ds vs → Qm.strsOf ds = some xs → vs = xs.map V.str
  | [], _, _, r, e => by cases r; cases e; rfl
  | d :: ds, _, xs, r, e => by
    cases r with
    | cons h t =>
      cases d with
      | str x =>
        unfold Qm.strsOf at e
        cases q : Qm.strsOf ds with
        | none => rw [q] at e; cases e
        | some ys =>
          rw [q] at e
          cases e
          cases h
          rw [strsOf_ra t q]
          rfl
      | _ => cases e
theorem qe_join (he : QE X e fe) (hbase : attributeBase (.Constant (.str sep) j0 p0) "join" X.env (eval (.Constant (.str sep) j0 p0) X.env) = eval (.Constant (.str sep) j0 p0) X.env := by rfl)
    (hfew : ((backTo cpos (starEach [e] X.env)).all (fun x => !x.1) && (backToKw cpos (keywordEach [] X.env)).all (fun x => x.1.isSome)
      && decide ([e].length + ([] : List Keyword).length + (if ([] : List Keyword).isEmpty then 0 else 1) < 30)) = true := by rfl)
    (hline : (apos.endLine == cpos.line) = true := by rfl) (hs : starEach [e] X.env = (false, eval e X.env) :: starEach [] X.env := by rfl) :
    QE X (.Call (.Attribute (.Constant (.str sep) j0 p0) "join" apos) [e] [] cpos) (Qm.eJoin sep fe) :=
  (pe_bm PySem.F.plainAttrs_str PySem.F.slot_str_join PySem.F.type_str_join mt_join pe_str (pa_cons he pa_nil hs) hbase hfew hline hs rfl).imp fun σ H Q h => by
  obtain ⟨ρ, env, c, d, c', rs, re, e, k⟩ := h
  obtain ⟨p, e1, e⟩ := bnd e
  obtain ⟨l, e2, e⟩ := bnd e
  obtain ⟨xs, e3, e⟩ := bnd e
  split at e
  · rename_i hz
    cases e
    refine ⟨rfl, ρ, env, c, p.1, p.2, rs, re, e1, fun ρ1 v H1 n1 r1 => ?_⟩
    obtain ⟨_, _, vs, rfl, hl, ra⟩ := n1.rs.lstOf r1 e2
    rw [strsOf_ra ra e3] at hl
    exact ⟨sep, _, xs, rfl, rfl, hl, by omega, k ρ1 _ H1 n1 (.str _)⟩
  · cases e
end
end L2
namespace L2
open PySem PySem.W PySem.Spec PyProof.Rows
def inC (s : Stmt) : Stmt := match s with
  | .ClassDef _ _ _ b _ _ _ _ _ _ _ => b.getD 0 (.Pass ⟨0, 0, 0, 0⟩)
  | _ => .Pass ⟨0, 0, 0, 0⟩
def KInj (κ : Nat → Nat) : Prop := ∀ i j, i < 11 → j < 11 → κ i = κ j → i = j
def spK (K : Frag) (F : (Nat → Nat) → Qm.FN) : Sp := fun vs H Q E => ∀ κ, KInj κ → spD K (F κ) vs H Q E
theorem kinj_of {l : List Nat} (h : l.Nodup) (hl : l.length = 11 := by rfl) : KInj fun i => l.getD i 0 := by
  intro i j hi hj e
  rw [← hl] at hi hj
  simp only [List.getD_eq_getElem?_getD, List.getElem?_eq_getElem hi, List.getElem?_eq_getElem hj, Option.getD_some] at e
  rcases Nat.lt_trichotomy i j with z | z | z
  · exact absurd e (List.pairwise_iff_getElem.mp h i j hi hj z)
  · exact z
  · exact absurd e.symm (List.pairwise_iff_getElem.mp h j i hj hi z)
theorem bt_ValueError : bootBuiltins "ValueError" = some (.type "ValueError") := by decide +kernel
section
variable {X : Cx} {C S f : Addr} {fs ps : List Str} {fd : FuncData} {k : Nat} {x : Str} {e : Expr} {es : List Expr} {pos p : Pos} {fa : Qm.XA}
theorem qe_fnX {a : Nat} (hg : Gl X x) (hm : X.mg x = some (.ref a)) (hd : (x == ("__debug__" : Str)) = false := by decide) : QE X (.Name x pos) (Qm.eC (.adr a)) :=
  qe_c (.adr a) (pe_glob (v := .ref a) hg hm rfl hd) fun _ _ _ => .adr a
theorem qe_excI (h : xcIn X.K C S (some f) fs = true) (F : FnOk X.prog X.w X.K X.mg X.base CX0 k f fd ps (spX C fs)) (hr : Room (k + 1) X.A) (hb : Binds X.K fd ps []) (hz : fs.length ≤ 100) (hg : Gl X x) (hm : X.mg x = some (.ref C)) (ha : QA X (e :: es) fa)
    (hdb : (x == ("__debug__" : Str)) = false := by decide) (he : starEach (e :: es) X.env = (false, eval e X.env) :: starEach es X.env := by rfl) (hpl : (backTo pos (starEach es X.env)).any (·.1) = false := by rfl) : QE X (.Call (.Name x p) (e :: es) [] pos) (Qm.eExc C S fs fa) := by
  obtain ⟨cd, xc⟩ := xc_of h
  exact qe_exc xc F hr hb hz hg hm ha hdb he hpl
theorem qe_excI0 (h : xcIn X.K C S none [] = true) (hg : Gl X x) (hm : X.mg x = some (.ref C)) (hdb : (x == ("__debug__" : Str)) = false := by decide) : QE X (.Call (.Name x p) [] [] pos) (Qm.eExc C S [] Qm.aNil) := by
  obtain ⟨cd, xc⟩ := xc_of h
  exact qe_exc0 xc hg hm hdb
end
end L2
namespace My
end My
namespace Qm
open PySem
section
variable {σ : Env} {c c' : Cells} {d : D} {i j : Int} {b : Bool} {xs ys : List D}
@[simp] theorem eC_ : eC d σ c = some (d, c) := rfl
@[simp] theorem eV_ {k : Nat} : eV k σ c = (σ[k]?.join).bind fun d => some (d, c) := rfl
@[simp] theorem e1_ {g : G1} {a : XE} : e1 g a σ c = (a σ c).bind fun p => g p.1 p.2 := rfl
@[simp] theorem e2_ {g : G2} {a b : XE} : e2 g a b σ c = (a σ c).bind fun p => (b σ p.2).bind fun q => g p.1 q.1 q.2 := rfl
@[simp] theorem asB_ : asB (.bl b) = some b := rfl
@[simp] theorem asI_ : asI (.int i) = some i := rfl
@[simp] theorem eAnd_ {a b : XE} : eAnd a b σ c = (a σ c).bind fun p => (asB p.1).bind fun k => if k = true then b σ p.2 else some (.bl false, p.2) := rfl
@[simp] theorem eOr_ {a b : XE} : eOr a b σ c = (a σ c).bind fun p => (asB p.1).bind fun k => if k = true then some (.bl true, p.2) else b σ p.2 := rfl
@[simp] theorem eNot_ {a : XE} : eNot a σ c = (a σ c).bind fun p => (asB p.1).bind fun k => some (.bl (!k), p.2) := rfl
@[simp] theorem eIf_ {t : XT} {a b : XE} : eIf t a b σ c = (t σ c).bind fun p => if p.1 = true then a σ p.2 else b σ p.2 := rfl
@[simp] theorem aNil_ : aNil σ c = some ([], c) := rfl
@[simp] theorem aCons_ {a : XE} {r : XA} : aCons a r σ c = (a σ c).bind fun p => (r σ p.2).bind fun q => some (p.1 :: q.1, q.2) := rfl
@[simp] theorem eTup_ {a : XA} : eTup a σ c = (a σ c).bind fun p => if p.1.length ≤ LINE then some (.tup p.1, p.2) else none := rfl
@[simp] theorem eLst_ {a : XA} : eLst a σ c = (a σ c).bind fun p => if p.1.length ≤ LINE then some (.ref p.2.length, p.2 ++ [.lst p.1]) else none := rfl
@[simp] theorem eCall_ {F : FN} {ds : List D} {a : XA} : eCall F ds a σ c = (a σ c).bind fun p => F (p.1 ++ ds) p.2 := rfl
@[simp] theorem eB_ {F : FN} {a : XA} : eB F a σ c = (a σ c).bind fun p => F p.1 p.2 := rfl
@[simp] theorem eM_ {g : D → FN} {o : XE} {a : XA} : eM g o a σ c = (o σ c).bind fun p => (lstOf p.1 p.2).bind fun _ => (a σ p.2).bind fun q => g p.1 q.1 q.2 := rfl
@[simp] theorem oNone_ : oNone σ c = some (none, c) := rfl
@[simp] theorem eSl_ {g} {a : XE} {lo hi : XO} : eSl g a lo hi σ c = (a σ c).bind fun p => (lo σ p.2).bind fun l => (hi σ l.2).bind fun h => g p.1 l.1 h.1 h.2 := rfl
@[simp] theorem tV_ {a : XE} : tV a σ c = (a σ c).bind fun p => (asB p.1).bind fun k => some (k, p.2) := rfl
@[simp] theorem tAnd_ {a b : XT} : tAnd a b σ c = (a σ c).bind fun p => if p.1 = true then b σ p.2 else some (false, p.2) := rfl
@[simp] theorem tOr_ {a b : XT} : tOr a b σ c = (a σ c).bind fun p => if p.1 = true then some (true, p.2) else b σ p.2 := rfl
@[simp] theorem tNot_ {a : XT} : tNot a σ c = (a σ c).bind fun p => some (!p.1, p.2) := rfl
@[simp] theorem tYes_ : tYes σ c = some (true, c) := rfl
@[simp] theorem eChain_ {g h : G2} {a b e : XE} : eChain g h a b e σ c = (a σ c).bind fun p => (b σ p.2).bind fun q => (g p.1 q.1 q.2).bind fun z => (asB z.1).bind fun k => if k = true then (e σ z.2).bind fun u => h q.1 u.1 u.2 else some (.bl false, z.2) := rfl
@[simp] theorem sNil_ : sNil σ c = some (.nx, σ, c) := rfl
@[simp] theorem sSet_ {k : Nat} {e : XE} : sSet k e σ c = (e σ c).bind fun p => some (.nx, σ.set k (some p.1), p.2) := rfl
@[simp] theorem sAsg_ {e : XE} {g : XG} : sAsg e g σ c = (e σ c).bind fun p => (g p.1 σ p.2).bind fun q => some (.nx, q.1, q.2) := rfl
@[simp] theorem sPar_ {is : List Nat} {a : XA} : sPar is a σ c = (a σ c).bind fun p => if p.1.length = is.length then some (.nx, (is.zip p.1).foldl (fun σ q => σ.set q.1 (some q.2)) σ, p.2) else none := rfl
@[simp] theorem sIf_ {t : XT} {a b : XS} : sIf t a b σ c = (t σ c).bind fun p => if p.1 = true then a σ p.2 else b σ p.2 := rfl
@[simp] theorem sRet_ {e : XE} : sRet e σ c = (e σ c).bind fun p => some (.rt p.1, σ, p.2) := rfl
@[simp] theorem sExpr_ {e : XE} : sExpr e σ c = (e σ c).bind fun p => some (.nx, σ, p.2) := rfl
@[simp] theorem gName_ {k : Nat} : gName k d σ c = some (σ.set k (some d), c) := rfl
@[simp] theorem gNil_ : gNil [] σ c = some (σ, c) := rfl
@[simp] theorem gCons_ {g : XG} {r : XGs} : gCons g r (d :: xs) σ c = (g d σ c).bind fun p => r xs p.1 p.2 := rfl
@[simp] theorem gTup_ {n : Nat} {g : XGs} : gTup n g (.tup xs) σ c = if xs.length = n then g xs σ c else none := rfl
def sq (b : XS) (p : Fl × Env × Cells) : Option (Fl × Env × Cells) := match p.1 with
  | .nx => b p.2.1 p.2.2
  | _ => some p
@[simp] theorem sSeq_ {a b : XS} : sSeq a b σ c = (a σ c).bind (sq b) := rfl
@[simp] theorem sq_nx {b : XS} : sq b (.nx, σ, c) = b σ c := rfl
@[simp] theorem sq_rt {b : XS} : sq b (.rt d, σ, c) = some (.rt d, σ, c) := rfl
def fin (p : Fl × Env × Cells) : Option (D × Cells) := match p.1 with
  | .rt d => some (d, p.2.2)
  | .nx => some (.non, p.2.2)
  | _ => none
theorem mkF_ {n N : Nat} {b : XS} {ds : List D} : mkF n N b ds c = if ds.length = n then (b (ds.map some ++ List.replicate (N - n) none) c).bind fin else none := rfl
@[simp] theorem fin_rt : fin (.rt d, σ, c) = some (d, c) := rfl
@[simp] theorem fin_nx : fin (.nx, σ, c) = some (.non, c) := rfl
theorem ii_ {f : Int → Int → Option D} : ii f (.int i) (.int j) c = (f i j).bind fun d => some (d, c) := rfl
@[simp] theorem gSub_ : gSub (.int i) (.int j) c = some (.int (i - j), c) := rfl
@[simp] theorem gAdd_ : gAdd (.int i) (.int j) c = some (.int (i + j), c) := rfl
@[simp] theorem gLt_ : gLt (.int i) (.int j) c = some (.bl (decide (i < j)), c) := rfl
@[simp] theorem gLe_ : gLe (.int i) (.int j) c = some (.bl (decide (i ≤ j)), c) := rfl
@[simp] theorem gGt_ : gGt (.int i) (.int j) c = some (.bl (decide (j < i)), c) := rfl
@[simp] theorem gGe_ : gGe (.int i) (.int j) c = some (.bl (decide (j ≤ i)), c) := rfl
@[simp] theorem gNeg_ : gNeg (.int i) c = some (.int (-i), c) := rfl
theorem mulL (h : i.natAbs < 2 ^ 64) : MulOk i j := Or.inr (Or.inl ⟨h⟩)
theorem mulR (h : j.natAbs < 2 ^ 64) : MulOk i j := Or.inr (Or.inr ⟨h⟩)
theorem mulB (h : My.Bd 90000 i) (g : My.Bd 90000 j) : MulOk i j := Or.inl ⟨h, g⟩
theorem bd64 (h : i.natAbs < 2 ^ 64) : My.Bd 64 i := ⟨h⟩
theorem gMul_ (h : MulOk i j) : gMul (.int i) (.int j) c = some (.int (i * j), c) := by unfold gMul; rw [ii_, if_pos h]; rfl
theorem gFdiv_ (h : 0 < j) (hb : My.Bd 8900 j) : gFdiv (.int i) (.int j) c = some (.int (i / j), c) := by
  unfold gFdiv; rw [ii_, if_pos ⟨by omega, hb⟩, Int.fdiv_eq_ediv_of_nonneg i (Int.le_of_lt h)]; rfl
theorem gMod_ (h : 0 < j) : gMod (.int i) (.int j) c = some (.int (i % j), c) := by
  unfold gMod; rw [ii_, if_pos (by omega), Int.fmod_eq_emod_of_nonneg i (Int.le_of_lt h)]; rfl
@[simp] theorem data_int {k : Nat} : data c (k + 1) (.int i) = some (.int i) := by simp [data]
theorem eqM_int : eqM (.int i) (.int j) c = some (decide (i = j)) := by
  have : eqM (.int i) (.int j) c = (data c 6 (.int i)).bind fun d => (data c 6 (.int j)).bind fun e => some (@decide (d = e) (Classical.propDecidable _)) := rfl
  rw [this, data_int, data_int]
  simp
@[simp] theorem gEq_int : gEq (.int i) (.int j) c = some (.bl (decide (i = j)), c) := by unfold gEq; rw [eqM_int]; rfl
@[simp] theorem gNe_int : gNe (.int i) (.int j) c = some (.bl (!decide (i = j)), c) := by unfold gNe; rw [eqM_int]; rfl
@[simp] theorem gEq_bl {k : Bool} : gEq (.bl b) (.bl k) c = some (.bl (b == k), c) := rfl
@[simp] theorem gNe_bl {k : Bool} : gNe (.bl b) (.bl k) c = some (.bl (!(b == k)), c) := rfl
@[simp] theorem seqOf_tup : seqOf (.tup xs) c = some xs := rfl
theorem seqOf_lst {n : Nat} (h : c[n]? = some (.lst xs)) : seqOf (.ref n) c = some xs := by simp [seqOf, h]
theorem seqOf_ro {n : Nat} (h : c[n]? = some (.ro xs)) : seqOf (.ref n) c = some xs := by simp [seqOf, h]
theorem lstOf_lst {n : Nat} (h : c[n]? = some (.lst xs)) : lstOf (.ref n) c = some (n, xs) := by simp [lstOf, h]
theorem gIx_ {x : D} : gIx x (.int i) c = (seqOf x c).bind fun xs => (atD xs i).bind fun d => some (d, c) := rfl
@[simp] theorem gIx_tup : gIx (.tup xs) (.int i) c = (atD xs i).bind fun d => some (d, c) := rfl
@[simp] theorem atD_0 {α : Type} {x : α} {xs : List α} : atD (x :: xs) 0 = some x := by simp [atD, ixD]
@[simp] theorem atD_1 {α : Type} {x y : α} {xs : List α} : atD (x :: y :: xs) 1 = some y := by
  have h : (1 : Int) < ((x :: y :: xs).length : Int) := by simp only [List.length_cons]; omega
  unfold atD ixD
  rw [if_pos (by decide), if_pos h]; rfl
@[simp] theorem atD_2 {α : Type} {x y z : α} {xs : List α} : atD (x :: y :: z :: xs) 2 = some z := by
  have h : (2 : Int) < ((x :: y :: z :: xs).length : Int) := by simp only [List.length_cons]; omega
  unfold atD ixD
  rw [if_pos (by decide), if_pos h]; rfl
theorem atD_nat {α : Type} {xs : List α} {n : Nat} {x : α} (h : xs[n]? = some x) : atD xs (n : Int) = some x := by
  have hl : n < xs.length := (List.getElem?_eq_some_iff.mp h).1
  unfold atD ixD
  rw [if_pos (by omega), if_pos (by omega)]
  simpa using h
@[simp] theorem bAbs_ : bAbs [.int i] c = some (.int (if i < 0 then -i else i), c) := rfl
@[simp] theorem bInt_bl : bInt [.bl b] c = some (.int (if b then 1 else 0), c) := rfl
theorem bLen_ {x : D} : bLen [x] c = (seqOf x c).bind fun xs => some (.int xs.length, c) := rfl
@[simp] theorem bMax2_ : bMax2 [.int i, .int j] c = some (.int (if j > i then j else i), c) := rfl
@[simp] theorem bMin2_ : bMin2 [.int i, .int j] c = some (.int (if j < i then j else i), c) := rfl
theorem line_ok {n : Nat} (h : n ≤ 10000) : n ≤ LINE := Nat.le_trans h (by rw [LINE_eq]; decide)
@[simp] theorem line1 : 1 ≤ LINE := line_ok (by decide)
@[simp] theorem line2 : 2 ≤ LINE := line_ok (by decide)
@[simp] theorem line3 : 3 ≤ LINE := line_ok (by decide)
@[simp] theorem line4 : 4 ≤ LINE := line_ok (by decide)
@[simp] theorem line5 : 5 ≤ LINE := line_ok (by decide)
@[simp] theorem line6 : 6 ≤ LINE := line_ok (by decide)
@[simp] theorem line7 : 7 ≤ LINE := line_ok (by decide)
@[simp] theorem line8 : 8 ≤ LINE := line_ok (by decide)
theorem iRng1' {a : XA} (h : a σ c = some ([.int j], c')) (h2 : j.natAbs < 2 ^ 61) : iRng1 a σ c = some (⟨rng 0 j.toNat, []⟩, c') := by
  unfold iRng1
  rw [h, Option.bind_some]
  dsimp only
  rw [if_pos ⟨by omega, by omega⟩]
theorem stays_nil : stays [] c := fun _ h => nomatch h
end
theorem forGo_inv {ks : List (Nat × Cell)} {g : XG} {body : XS} (P : Nat → Env → Cells → Prop) :
    ∀ (ds : List D) (k : Nat) (σ : Env) (c : Cells), (∀ i σ c, P i σ c → stays ks c) → (∀ i d σ c, ds[i]? = some d → P (k + i) σ c → ∃ σ1 c1 σ2 c2, g d σ c = some (σ1, c1) ∧ body σ1 c1 = some (.nx, σ2, c2) ∧ P (k + i + 1) σ2 c2) →
      P k σ c → ∃ σ' c', forGo ks g body ds σ c = some (.nx, σ', c') ∧ P (k + ds.length) σ' c'
  | [], k, σ, c, hs, _, h => ⟨σ, c, by unfold forGo; rw [if_pos (hs k σ c h)], h⟩
  | d :: ds, k, σ, c, hs, ht, h => by
    obtain ⟨σ1, c1, σ2, c2, h1, h2, h3⟩ := ht 0 d σ c rfl h
    obtain ⟨σ', c', h4, h5⟩ := forGo_inv P ds (k + 1) σ2 c2 hs (fun i d' σ c hd hp => by
      have := ht (i + 1) d' σ c (by simpa using hd) (by rw [show k + (i + 1) = k + 1 + i by omega]; exact hp)
      rwa [show k + (i + 1) + 1 = k + 1 + i + 1 by omega] at this) h3
    refine ⟨σ', c', ?_, by rw [show k + (d :: ds).length = k + 1 + ds.length by simp only [List.length_cons]; omega]; exact h5⟩
    unfold forGo
    rw [if_pos (hs k σ c h), h1]
    simp only [Option.bind_some, h2, h4]
end Qm
namespace Law
open PySem
noncomputable def B_law_pool : Qm.XS := (Qm.sSeq (Qm.sSet 2 (Qm.eC (.int 0)))
      (Qm.sSeq (Qm.sIf (Qm.tV (Qm.e2 Qm.gLt (Qm.eV 1) (Qm.eB Qm.bLen (Qm.aCons (Qm.eV 0) Qm.aNil))))
      (Qm.sSet 2 (Qm.e2 Qm.gIx (Qm.eV 0) (Qm.eV 1)))
      Qm.sNil)
      (Qm.sSeq (Qm.sSet 3 (Qm.e2 Qm.gAdd (Qm.e2 Qm.gAdd (Qm.e2 Qm.gMod (Qm.eB Qm.bAbs (Qm.aCons (Qm.eV 2) Qm.aNil)) (Qm.eC (.int 2305843009213693951))) (Qm.e2 Qm.gMul (Qm.eC (.int 7919)) (Qm.eV 1))) (Qm.eC (.int 5))))
      (Qm.sSeq (Qm.sSet 4 (Qm.eC (.int 0)))
      (Qm.sSeq (Qm.sFor (Qm.iRng1 (Qm.aCons (Qm.eC (.int 12)) Qm.aNil)) (Qm.gName 5)
      (Qm.sSeq (Qm.sSet 3 (Qm.e2 Qm.gAdd (Qm.e2 Qm.gMul (Qm.eV 3) (Qm.eC (.int 6364136223846793005))) (Qm.e2 Qm.gMul (Qm.eC (.int 1442695040888963407)) (Qm.e2 Qm.gAdd (Qm.e2 Qm.gAdd (Qm.eV 1) (Qm.eV 5)) (Qm.eC (.int 1))))))
      (Qm.sSeq (Qm.sSet 3 (Qm.e2 Qm.gMod (Qm.eV 3) (Qm.eC (.int 2305843009213693951))))
      (Qm.sSeq (Qm.sSet 6 (Qm.e2 Qm.gMul (Qm.e2 Qm.gFdiv (Qm.eV 3) (Qm.eC (.int 1024))) (Qm.e2 Qm.gAdd (Qm.e2 Qm.gAdd (Qm.e2 Qm.gMod (Qm.eV 3) (Qm.eC (.int 1000003))) (Qm.e2 Qm.gMul (Qm.eC (.int 7919)) (Qm.eV 5))) (Qm.eC (.int 1)))))
      (Qm.sSet 4 (Qm.e2 Qm.gAdd (Qm.e2 Qm.gMul (Qm.eV 4) (Qm.eC (.int 1099511627776))) (Qm.e2 Qm.gMod (Qm.eV 6) (Qm.eC (.int 1099511627776)))))))))
      (Qm.sSeq (Qm.sSet 7 (Qm.e2 Qm.gMul (Qm.eB Qm.bAbs (Qm.aCons (Qm.eV 2) Qm.aNil)) (Qm.eB Qm.bInt (Qm.aCons (Qm.eAnd (Qm.e2 Qm.gGt (Qm.eB Qm.bLen (Qm.aCons (Qm.eV 0) Qm.aNil)) (Qm.eC (.int 0))) (Qm.e2 Qm.gEq (Qm.e2 Qm.gMod (Qm.e2 Qm.gIx (Qm.eV 0) (Qm.eC (.int 0))) (Qm.eC (.int 2))) (Qm.eC (.int 1)))) Qm.aNil))))
      (Qm.sRet (Qm.eLst (Qm.aCons (Qm.eV 7) (Qm.aCons (Qm.eV 4) Qm.aNil))))))))))
noncomputable def F_law_pool : Qm.FN := Qm.mkF 2 8 B_law_pool
noncomputable def B_law_digit : Qm.XS := (Qm.sSeq (Qm.sSet 2 (Qm.eB Qm.bInt (Qm.aCons (Qm.e2 Qm.gEq (Qm.e2 Qm.gIx (Qm.eV 0) (Qm.eC (.int 0))) (Qm.eC (.int 0))) Qm.aNil)))
      (Qm.sSeq (Qm.sSet 3 (Qm.e2 Qm.gMod (Qm.e2 Qm.gIx (Qm.eV 0) (Qm.eV 2)) (Qm.eV 1)))
      (Qm.sSeq (Qm.sAsg (Qm.e2 Qm.gFdiv (Qm.e2 Qm.gIx (Qm.eV 0) (Qm.eV 2)) (Qm.eV 1)) (Qm.gPut (Qm.eV 0) (Qm.eV 2)))
      (Qm.sRet (Qm.eV 3)))))
noncomputable def F_law_digit : Qm.FN := Qm.mkF 2 4 B_law_digit
noncomputable def B_law_word : Qm.XS := (Qm.sRet (Qm.eJoin "" (Qm.eComp (Qm.iRng1 (Qm.aCons (Qm.e2 Qm.gAdd (Qm.eC (.int 1)) (Qm.eCall F_law_digit [] (Qm.aCons (Qm.eV 0) (Qm.aCons (Qm.eC (.int 8)) Qm.aNil)))) Qm.aNil)) [none, some 0] (Qm.gName 0) Qm.tYes (Qm.e2 Qm.gIxS (Qm.eC (.str "abcdefghijklmnopqrstuvwxyz")) (Qm.eCall F_law_digit [] (Qm.aCons (Qm.eV 1) (Qm.aCons (Qm.eC (.int 26)) Qm.aNil)))))))
noncomputable def F_law_word : Qm.FN := Qm.mkF 1 1 B_law_word
noncomputable def B_law_kinds (κ : Nat → Nat) : Qm.XS := (Qm.sSeq (Qm.sSet 1 (Qm.eLst (Qm.aCons (Qm.eB (Qm.bIsE (κ 1)) (Qm.aCons (Qm.eV 0) (Qm.aCons (Qm.eC (.adr (κ 1))) Qm.aNil))) (Qm.aCons (Qm.eB (Qm.bIsE (κ 2)) (Qm.aCons (Qm.eV 0) (Qm.aCons (Qm.eC (.adr (κ 2))) Qm.aNil))) (Qm.aCons (Qm.eB (Qm.bIsE (κ 3)) (Qm.aCons (Qm.eV 0) (Qm.aCons (Qm.eC (.adr (κ 3))) Qm.aNil))) (Qm.aCons (Qm.eB (Qm.bIsE (κ 4)) (Qm.aCons (Qm.eV 0) (Qm.aCons (Qm.eC (.adr (κ 4))) Qm.aNil))) Qm.aNil))))))
      (Qm.sSeq (Qm.sSet 1 (Qm.e2 Qm.gAdd (Qm.eV 1) (Qm.eLst (Qm.aCons (Qm.eB (Qm.bIsE (κ 5)) (Qm.aCons (Qm.eV 0) (Qm.aCons (Qm.eC (.adr (κ 5))) Qm.aNil))) (Qm.aCons (Qm.eB (Qm.bIsE (κ 6)) (Qm.aCons (Qm.eV 0) (Qm.aCons (Qm.eC (.adr (κ 6))) Qm.aNil))) (Qm.aCons (Qm.eB (Qm.bIsE (κ 7)) (Qm.aCons (Qm.eV 0) (Qm.aCons (Qm.eC (.adr (κ 7))) Qm.aNil))) (Qm.aCons (Qm.eB (Qm.bIsE (κ 8)) (Qm.aCons (Qm.eV 0) (Qm.aCons (Qm.eC (.adr (κ 8))) Qm.aNil))) Qm.aNil)))))))
      (Qm.sSeq (Qm.sSet 1 (Qm.e2 Qm.gAdd (Qm.eV 1) (Qm.eLst (Qm.aCons (Qm.eB (Qm.bIsE (κ 9)) (Qm.aCons (Qm.eV 0) (Qm.aCons (Qm.eC (.adr (κ 9))) Qm.aNil))) (Qm.aCons (Qm.eB (Qm.bIsE (κ 10)) (Qm.aCons (Qm.eV 0) (Qm.aCons (Qm.eC (.adr (κ 10))) Qm.aNil))) Qm.aNil)))))
      (Qm.sRet (Qm.eComp (Qm.iRng1 (Qm.aCons (Qm.eC (.int 10)) Qm.aNil)) [none, some 1] (Qm.gName 0) (Qm.tV (Qm.e2 Qm.gIx (Qm.eV 1) (Qm.eV 0))) (Qm.eV 0))))))
noncomputable def F_law_kinds (κ : Nat → Nat) : Qm.FN := Qm.mkF 1 2 (B_law_kinds κ)
noncomputable def B_law (κ : Nat → Nat) : Qm.XS := (Qm.sSeq (Qm.sSet 1 (Qm.eCall F_law_pool [] (Qm.aCons (Qm.eV 0) (Qm.aCons (Qm.eC (.int 1)) Qm.aNil))))
      (Qm.sSeq (Qm.sSet 2 (Qm.eCall F_law_word [] (Qm.aCons (Qm.eV 1) Qm.aNil)))
      (Qm.sSeq (Qm.sSet 3 (Qm.eCall F_law_word [] (Qm.aCons (Qm.eV 1) Qm.aNil)))
      (Qm.sSeq (Qm.sSet 4 (Qm.eCall F_law_digit [] (Qm.aCons (Qm.eV 1) (Qm.aCons (Qm.eC (.int 5)) Qm.aNil))))
      (Qm.sSeq (Qm.sSet 5 (Qm.eCall F_law_digit [] (Qm.aCons (Qm.eV 1) (Qm.aCons (Qm.eC (.int 1000)) Qm.aNil))))
      (Qm.sSeq (Qm.sSet 6 (Qm.eLst (Qm.aCons (Qm.eExc (κ 1) (κ 0) ["face"] (Qm.aCons (Qm.eV 2) Qm.aNil)) (Qm.aCons (Qm.eExc (κ 2) (κ 0) ["one", "other"] (Qm.aCons (Qm.eV 2) (Qm.aCons (Qm.eV 3) Qm.aNil))) (Qm.aCons (Qm.eExc (κ 3) (κ 0) [] Qm.aNil) (Qm.aCons (Qm.eExc (κ 4) (κ 0) ["line"] (Qm.aCons (Qm.eV 5) Qm.aNil)) (Qm.aCons (Qm.eExc (κ 5) (κ 0) ["one", "other"] (Qm.aCons (Qm.eV 4) (Qm.aCons (Qm.eV 5) Qm.aNil))) (Qm.aCons (Qm.eExc (κ 6) (κ 0) ["row"] (Qm.aCons (Qm.eV 5) Qm.aNil)) (Qm.aCons (Qm.eExc (κ 7) (κ 0) [] Qm.aNil) Qm.aNil)))))))))
      (Qm.sSeq (Qm.sSet 6 (Qm.e2 Qm.gAdd (Qm.eV 6) (Qm.eLst (Qm.aCons (Qm.eExc (κ 8) (κ 0) [] Qm.aNil) (Qm.aCons (Qm.eExc (κ 9) (κ 0) [] Qm.aNil) (Qm.aCons (Qm.eExc (κ 10) (κ 0) ["name"] (Qm.aCons (Qm.eV 3) Qm.aNil)) Qm.aNil))))))
      (Qm.sSeq (Qm.sFor (Qm.iRng1 (Qm.aCons (Qm.eC (.int 10)) Qm.aNil)) (Qm.gName 7)
      (Qm.sSeq (Qm.sIf (Qm.tV (Qm.e2 Qm.gNeW (Qm.eCall (F_law_kinds κ) [] (Qm.aCons (Qm.e2 Qm.gIx (Qm.eV 6) (Qm.eV 7)) Qm.aNil)) (Qm.eLst (Qm.aCons (Qm.eV 7) Qm.aNil))))
      (Qm.sRet (Qm.eC (.bl false)))
      Qm.sNil)
      (Qm.sIf (Qm.tOr (Qm.tNot (Qm.tV (Qm.eB (Qm.bIsE (κ 0)) (Qm.aCons (Qm.e2 Qm.gIx (Qm.eV 6) (Qm.eV 7)) (Qm.aCons (Qm.eC (.adr (κ 0))) Qm.aNil))))) (Qm.tNot (Qm.tV (Qm.eB Qm.bIsV (Qm.aCons (Qm.e2 Qm.gIx (Qm.eV 6) (Qm.eV 7)) (Qm.aCons (Qm.eC (.ty "ValueError")) Qm.aNil))))))
      (Qm.sRet (Qm.eC (.bl false)))
      Qm.sNil)))
      (Qm.sSeq (Qm.sSet 8 (Qm.eLst (Qm.aCons (Qm.eXf "face" (Qm.e2 Qm.gIx (Qm.eV 6) (Qm.eC (.int 0)))) (Qm.aCons (Qm.eXf "one" (Qm.e2 Qm.gIx (Qm.eV 6) (Qm.eC (.int 1)))) (Qm.aCons (Qm.eXf "other" (Qm.e2 Qm.gIx (Qm.eV 6) (Qm.eC (.int 1)))) (Qm.aCons (Qm.eXf "line" (Qm.e2 Qm.gIx (Qm.eV 6) (Qm.eC (.int 3)))) (Qm.aCons (Qm.eXf "one" (Qm.e2 Qm.gIx (Qm.eV 6) (Qm.eC (.int 4)))) (Qm.aCons (Qm.eXf "other" (Qm.e2 Qm.gIx (Qm.eV 6) (Qm.eC (.int 4)))) (Qm.aCons (Qm.eXf "row" (Qm.e2 Qm.gIx (Qm.eV 6) (Qm.eC (.int 5)))) Qm.aNil)))))))))
      (Qm.sSeq (Qm.sIf (Qm.tOr (Qm.tV (Qm.e2 Qm.gNeW (Qm.eV 8) (Qm.eLst (Qm.aCons (Qm.eV 2) (Qm.aCons (Qm.eV 2) (Qm.aCons (Qm.eV 3) (Qm.aCons (Qm.eV 5) (Qm.aCons (Qm.eV 4) (Qm.aCons (Qm.eV 5) (Qm.aCons (Qm.eV 5) Qm.aNil)))))))))) (Qm.tV (Qm.e2 Qm.gNe (Qm.eXf "name" (Qm.e2 Qm.gIx (Qm.eV 6) (Qm.eC (.int 9)))) (Qm.eV 3))))
      (Qm.sRet (Qm.eC (.bl false)))
      Qm.sNil)
      (Qm.sRet (Qm.eAnd (Qm.e2 Qm.gEq (Qm.eXf "face" (Qm.eExc (κ 1) (κ 0) ["face"] (Qm.aCons (Qm.eV 3) Qm.aNil))) (Qm.eV 3)) (Qm.e2 Qm.gEq (Qm.eXf "face" (Qm.e2 Qm.gIx (Qm.eV 6) (Qm.eC (.int 0)))) (Qm.eV 2))))))))))))))
noncomputable def F_law (κ : Nat → Nat) : Qm.FN := Qm.mkF 1 9 (B_law κ)
end Law
namespace Law
open PySem Qm PyProof.Rows
local macro_rules | `(tactic| walk_at "bd") => `(tactic| first | assumption | ((with_reducible show My.Bd _ (_ * _)); refine' My.Bd.mul ?_ ?_ <;> walk_at "bd") | ((with_reducible show My.Bd _ (_ + _)); refine' My.Bd.add ?_ ?_ <;> walk_at "bd") | ((with_reducible show My.Bd _ (_ - _)); refine' My.Bd.sub ?_ ?_ <;> walk_at "bd") | ((with_reducible show My.Bd _ (- _)); refine' My.Bd.neg ?_ <;> walk_at "bd") | (refine' bd64 ?_; omega))
local macro_rules | `(tactic| walk_at "bdm") => `(tactic| first | assumption | (refine' My.Bd.mono ?b1 ?b2; (case b1 => walk_at "bd"); (case b2 => decide)))
local macro_rules | `(tactic| walk_at "mo") => `(tactic| first | (refine mulL ?_; omega) | (refine mulR ?_; omega) | (refine mulB ?_ ?_ <;> walk_at "bdm"))
local macro_rules | `(tactic| walk_at "dis") => `(tactic| first | assumption | omega | walk_at "mo" | walk_at "bdm")
local macro_rules | `(tactic| erw [$[$t:term],*]) => `(tactic| simp (disch := walk_at "dis") only [mkF_, sSeq_, sSet_, sAsg_, sPar_, sIf_, sRet_, sExpr_, sNil_, eC_, eV_, e1_, e2_, asB_, asI_, eAnd_, eOr_, eNot_, eIf_, aNil_, aCons_, eTup_, eLst_, eCall_, eB_, eM_, oNone_, eSl_, tV_, tAnd_, tOr_, tNot_, tYes_, eChain_, gName_, gNil_, gCons_, gTup_, sq_nx, sq_rt, fin_rt, fin_nx, gSub_, gAdd_, gLt_, gLe_, gGt_, gGe_, gNeg_, gMul_, gFdiv_, gMod_, gEq_int, gNe_int, gEq_bl, gNe_bl, seqOf_tup, gIx_tup, atD_0, atD_1, atD_2, bAbs_, bInt_bl, bMax2_, bMin2_, line1, line2, line3, line4, line5, line6, line7, line8, List.getElem?_cons_succ, List.getElem?_cons_zero, Option.join_some, Option.join_none, Option.bind_some, Option.bind_none, List.set_cons_succ, List.set_cons_zero, List.map_cons, List.map_nil, List.length_cons, List.length_nil, List.append_nil, List.nil_append, List.cons_append, List.replicate_succ, List.replicate_zero, Nat.reduceAdd, Nat.reduceSub, Nat.reduceEqDiff, if_true, if_false, Bool.false_eq_true, decide_true, decide_false, Bool.not_true, Bool.not_false, eq_self_iff_true, reduceIte, List.zip_cons_cons, List.zip_nil_right, List.zip_nil_left, List.foldl_cons, List.foldl_nil, Int.reduceLT, Int.reduceEq, Int.reduceLE, $[$t:term],*])
def Pool (n : Nat) (c : Cells) : Prop := ∃ a b : Int, c[n]? = some (.lst [.int a, .int b]) ∧ 0 ≤ a ∧ 0 ≤ b
structure Kp (n : Nat) (c c' : Cells) : Prop where
  len : c.length ≤ c'.length
  at_ : ∀ i, i < c.length → i ≠ n → c'[i]? = c[i]?
theorem Kp.set {n : Nat} {c : Cells} {z : Cell} : Kp n c (c.set n z) := ⟨by rw [List.length_set]; exact Nat.le_refl _, fun i _ h => by rw [List.getElem?_set, if_neg (fun e => h e.symm)]⟩
theorem Kp.get {n i : Nat} {c c' : Cells} {z : Cell} (k : Kp n c c') (h : c[i]? = some z) (hi : i ≠ n) : c'[i]? = some z := by
  rw [k.at_ i (List.getElem?_eq_some_iff.mp h).1 hi]; exact h
theorem Pool.lt {n : Nat} {c : Cells} (h : Pool n c) : n < c.length := by
  obtain ⟨a, b, h, _⟩ := h
  exact (List.getElem?_eq_some_iff.mp h).1
theorem Pool.more {n : Nat} {c : Cells} {zs : List Cell} (h : Pool n c) : Pool n (c ++ zs) := by
  have hl := h.lt
  obtain ⟨a, b, h, r⟩ := h
  exact ⟨a, b, by rw [List.getElem?_append_left hl]; exact h, r⟩
theorem digit_ {n : Nat} {c : Cells} {m : Int} (h : Pool n c) (h0 : 0 < m) (hm : My.Bd 8900 m) : ∃ d c', F_law_digit [.ref n, .int m] c = some (.int d, c') ∧ 0 ≤ d ∧ d < m ∧ Pool n c' ∧ Kp n c c' := by
  have hlt := h.lt
  obtain ⟨a, b, hc, a0, b0⟩ := h
  have s1 := seqOf_lst hc
  have l1 := lstOf_lst hc
  by_cases ha : a = 0
  · refine ⟨b % m, c.set n (.lst [.int a, .int (b / m)]), ?_, Int.emod_nonneg _ (by omega), Int.emod_lt_of_pos _ h0, ⟨a, b / m, ?_, a0, Int.ediv_nonneg b0 (by omega)⟩, Kp.set⟩
    · subst ha
      simp [F_law_digit, mkF_, B_law_digit, gIx_, s1, gMod_ h0, gFdiv_ h0 hm, gPut, l1, ixD]
    · simp [hlt]
  · refine ⟨a % m, c.set n (.lst [.int (a / m), .int b]), ?_, Int.emod_nonneg _ (by omega), Int.emod_lt_of_pos _ h0, ⟨a / m, b, ?_, Int.ediv_nonneg a0 (by omega), b0⟩, Kp.set⟩
    · simp [F_law_digit, mkF_, B_law_digit, gIx_, s1, gMod_ h0, gFdiv_ h0 hm, gPut, l1, ixD, ha]
    · simp [hlt]
theorem pool_ {s : Nat} {c : Cells} {ns : List Int} {k : Int} (hs : c[s]? = some (.ro (ns.map D.int))) (k0 : 0 ≤ k) (k1 : k < 1000) : ∃ a b, F_law_pool [.ref s, .int k] c = some (.ref c.length, c ++ [.lst [.int a, .int b]]) ∧ 0 ≤ a ∧ 0 ≤ b := by
  have s1 := seqOf_ro hs
  -- the loop
  have loop : ∀ (z mx : Int), ∃ mx' tt' j' mo', 0 ≤ tt' ∧ sFor (iRng1 (aCons (eC (.int 12)) aNil)) (gName 5)
      (sSeq (sSet 3 (e2 gAdd (e2 gMul (eV 3) (eC (.int 6364136223846793005))) (e2 gMul (eC (.int 1442695040888963407)) (e2 gAdd (e2 gAdd (eV 1) (eV 5)) (eC (.int 1))))))
      (sSeq (sSet 3 (e2 gMod (eV 3) (eC (.int 2305843009213693951))))
      (sSeq (sSet 6 (e2 gMul (e2 gFdiv (eV 3) (eC (.int 1024))) (e2 gAdd (e2 gAdd (e2 gMod (eV 3) (eC (.int 1000003))) (e2 gMul (eC (.int 7919)) (eV 5))) (eC (.int 1)))))
      (sSet 4 (e2 gAdd (e2 gMul (eV 4) (eC (.int 1099511627776))) (e2 gMod (eV 6) (eC (.int 1099511627776))))))))
      [some (.ref s), some (.int k), some (.int z), some (.int mx), some (.int 0), none, none, none] c = some (.nx, [some (.ref s), some (.int k), some (.int z), some (.int mx'), some (.int tt'), j', mo', none], c) := by
    intro z mx
    have hr : iRng1 (aCons (eC (.int 12)) aNil) [some (.ref s), some (.int k), some (.int z), some (.int mx), some (.int 0), none, none, none] c = some (⟨rng 0 12, []⟩, c) := iRng1' (j := 12) rfl (by decide)
    have key := forGo_inv (ks := []) (g := gName 5) (body := (sSeq (sSet 3 (e2 gAdd (e2 gMul (eV 3) (eC (.int 6364136223846793005))) (e2 gMul (eC (.int 1442695040888963407)) (e2 gAdd (e2 gAdd (eV 1) (eV 5)) (eC (.int 1))))))
      (sSeq (sSet 3 (e2 gMod (eV 3) (eC (.int 2305843009213693951))))
      (sSeq (sSet 6 (e2 gMul (e2 gFdiv (eV 3) (eC (.int 1024))) (e2 gAdd (e2 gAdd (e2 gMod (eV 3) (eC (.int 1000003))) (e2 gMul (eC (.int 7919)) (eV 5))) (eC (.int 1)))))
      (sSet 4 (e2 gAdd (e2 gMul (eV 4) (eC (.int 1099511627776))) (e2 gMod (eV 6) (eC (.int 1099511627776)))))))))
      (fun _ σ c' => ∃ mx' tt' j' mo', 0 ≤ tt' ∧ σ = [some (.ref s), some (.int k), some (.int z), some (.int mx'), some (.int tt'), j', mo', none] ∧ c' = c) (rng 0 12) 0 [some (.ref s), some (.int k), some (.int z), some (.int mx), some (.int 0), none, none, none] c (fun _ _ _ _ => stays_nil)
    have key2 := key (by
        rintro i d σ c' hd ⟨mx', tt', j', mo', h1, rfl, rfl⟩
        obtain ⟨hi, rfl⟩ : i < 12 ∧ d = .int (0 + (i : Int)) := by
          unfold rng at hd
          rw [List.getElem?_map] at hd
          by_cases hi : i < 12
          · rw [List.getElem?_range hi] at hd; cases hd; exact ⟨hi, rfl⟩
          · rw [List.getElem?_eq_none_iff.mpr (by simpa using Nat.le_of_not_lt hi)] at hd; cases hd
        have hM0 := Int.emod_nonneg (mx' * 6364136223846793005 + 1442695040888963407 * (k + (0 + (i : Int)) + 1)) (show (2305843009213693951 : Int) ≠ 0 by decide)
        have hM1 := Int.emod_lt_of_pos (mx' * 6364136223846793005 + 1442695040888963407 * (k + (0 + (i : Int)) + 1)) (show (0 : Int) < 2305843009213693951 by decide)
        refine ⟨_, c', [some (.ref s), some (.int k), some (.int z), some (.int ((mx' * 6364136223846793005 + 1442695040888963407 * (k + (0 + (i : Int)) + 1)) % 2305843009213693951)), some (.int (tt' * 1099511627776 + ((mx' * 6364136223846793005 + 1442695040888963407 * (k + (0 + (i : Int)) + 1)) % 2305843009213693951) / 1024 * (((mx' * 6364136223846793005 + 1442695040888963407 * (k + (0 + (i : Int)) + 1)) % 2305843009213693951) % 1000003 + 7919 * (0 + (i : Int)) + 1) % 1099511627776)), some (.int (0 + (i : Int))), some (.int (((mx' * 6364136223846793005 + 1442695040888963407 * (k + (0 + (i : Int)) + 1)) % 2305843009213693951) / 1024 * (((mx' * 6364136223846793005 + 1442695040888963407 * (k + (0 + (i : Int)) + 1)) % 2305843009213693951) % 1000003 + 7919 * (0 + (i : Int)) + 1))), none], c', rfl, ?_, ⟨_, _, _, _, ?_, rfl, rfl⟩⟩
        · simp (disch := walk_at "dis") only [sSeq_, sSet_, e2_, eV_, eC_, gAdd_, gMul_, gMod_, gFdiv_, gName_, List.getElem?_cons_succ, List.getElem?_cons_zero, Option.join_some, Option.bind_some, List.set_cons_succ, List.set_cons_zero, sq_nx]
        · have := Int.emod_nonneg (((mx' * 6364136223846793005 + 1442695040888963407 * (k + (0 + (i : Int)) + 1)) % 2305843009213693951) / 1024 * (((mx' * 6364136223846793005 + 1442695040888963407 * (k + (0 + (i : Int)) + 1)) % 2305843009213693951) % 1000003 + 7919 * (0 + (i : Int)) + 1)) (show (1099511627776 : Int) ≠ 0 by decide)
          omega) ⟨mx, 0, none, none, Int.le_refl _, rfl, rfl⟩
    obtain ⟨σ', c', e, mx', tt', j', mo', h1, h2, h3⟩ := key2
    subst h2 h3
    refine ⟨mx', tt', j', mo', h1, ?_⟩
    unfold sFor
    rw [hr]
    exact e
  have hl : ((ns.map D.int).length : Int) = ns.length := by simp
  -- the own cell
  by_cases hk : k < ns.length
  · obtain ⟨z, hz⟩ : ∃ z, atD (ns.map D.int) k = some (.int z) := by
      have hkn : k.toNat < ns.length := by omega
      refine ⟨ns[k.toNat], ?_⟩
      have := atD_nat (xs := ns.map D.int) (n := k.toNat) (x := .int ns[k.toNat]) (by simp [hkn])
      rwa [show ((k.toNat : Nat) : Int) = k by omega] at this
    obtain ⟨w0, hw⟩ : ∃ w0, atD (ns.map D.int) 0 = some (.int w0) := by
      cases ns with
      | nil => simp at hk; omega
      | cons n ns => exact ⟨n, by simp⟩
    obtain ⟨mx', tt', j', mo', ht, el⟩ := loop z ((if z < 0 then -z else z) % 2305843009213693951 + 7919 * k + 5)
    refine ⟨(if z < 0 then -z else z) * (if decide (w0 % 2 = 1) = true then 1 else 0), tt', ?_, Int.mul_nonneg (by split <;> omega) (by split <;> omega), ht⟩
    rw [F_law_pool, mkF_, B_law_pool]
    have hk' : decide (k < ((ns.map D.int).length : Int)) = true := by rw [hl]; exact decide_eq_true hk
    have h0 : decide ((0 : Int) < ((ns.map D.int).length : Int)) = true := by rw [hl]; exact decide_eq_true (by omega)
    erw [bLen_, s1, gIx_, hk', hz, hw, el, h0]
  · have hk' : decide (k < ((ns.map D.int).length : Int)) = false := by rw [hl]; exact decide_eq_false (by omega)
    obtain ⟨mx', tt', j', mo', ht, el⟩ := loop 0 (0 % 2305843009213693951 + 7919 * k + 5)
    by_cases hn : 0 < ns.length
    · obtain ⟨w0, hw⟩ : ∃ w0, atD (ns.map D.int) 0 = some (.int w0) := by
        cases ns with
        | nil => simp at hn
        | cons n ns => exact ⟨n, by simp⟩
      have h0 : decide ((0 : Int) < ((ns.map D.int).length : Int)) = true := by rw [hl]; exact decide_eq_true (by omega)
      refine ⟨0 * (if decide (w0 % 2 = 1) = true then 1 else 0), tt', ?_, by simp, ht⟩
      rw [F_law_pool, mkF_, B_law_pool]
      erw [bLen_, s1, gIx_, hk', hw, el, h0]
    · have h0 : decide ((0 : Int) < ((ns.map D.int).length : Int)) = false := by rw [hl]; exact decide_eq_false (by omega)
      refine ⟨0 * (if false = true then 1 else 0), tt', ?_, by simp, ht⟩
      rw [F_law_pool, mkF_, B_law_pool]
      erw [bLen_, s1, gIx_, hk', el, h0]
theorem atD_of {α : Type} {xs : List α} {g : Int} (h0 : 0 ≤ g) (h1 : g < xs.length) : ∃ x, atD xs g = some x ∧ x ∈ xs := by
  have hg : g.toNat < xs.length := by omega
  refine ⟨xs[g.toNat], ?_, List.getElem_mem hg⟩
  have := atD_nat (xs := xs) (n := g.toNat) (x := xs[g.toNat]) (List.getElem?_eq_getElem hg)
  rwa [show ((g.toNat : Nat) : Int) = g by omega] at this
theorem letter_ {g : Int} {c : Cells} (h0 : 0 ≤ g) (h1 : g < 26) : ∃ k, gIxS (.str "abcdefghijklmnopqrstuvwxyz") (.int g) c = some (.str ⟨#[k]⟩, c) ∧ k < 1114112 := by
  have hl : ("abcdefghijklmnopqrstuvwxyz" : Str).cps.toList.length = 26 := by decide
  obtain ⟨k, e, hm⟩ := atD_of (xs := ("abcdefghijklmnopqrstuvwxyz" : Str).cps.toList) h0 (by rw [hl]; exact h1)
  have ha : ∀ k ∈ ("abcdefghijklmnopqrstuvwxyz" : Str).cps.toList, k < 1114112 := by decide
  refine ⟨k, ?_, ha k hm⟩
  have hl2 : ("abcdefghijklmnopqrstuvwxyz" : Str).length ≤ LINE := line_ok (by decide)
  have : gIxS (.str "abcdefghijklmnopqrstuvwxyz") (.int g) c = if ("abcdefghijklmnopqrstuvwxyz" : Str).length ≤ LINE then (atD ("abcdefghijklmnopqrstuvwxyz" : Str).cps.toList g).bind fun k => some (.str ⟨#[k]⟩, c) else none := rfl
  rw [this, if_pos hl2, e]
  rfl
theorem compW {n L : Nat} {g : XG} {te : XE} {E : Qm.Env → Prop} (hL : L ≠ n) :
    ∀ (ds : List D) (acc : List Str) (τ : Qm.Env) (c : Cells), c[L]? = some (.lst (acc.map D.str)) → E τ → Pool n c → acc.length + ds.length ≤ 1000 → (∀ x ∈ acc, x.length ≤ 1 ∧ x.cps.all (· < 1114112) = true) →
      (∀ d ∈ ds, ∀ τ c, E τ → Pool n c → ∃ τ' x c', g d τ c = some (τ', c) ∧ te τ' c = some (.str x, c') ∧ (x.length ≤ 1 ∧ x.cps.all (· < 1114112) = true) ∧ E τ' ∧ Pool n c' ∧ Kp n c c') →
      ∃ (xs : List Str) (c' : Cells), compGo L [] g tYes te ds τ c = some c' ∧ c'[L]? = some (.lst (xs.map D.str)) ∧ (∀ x ∈ xs, x.length ≤ 1 ∧ x.cps.all (· < 1114112) = true) ∧ xs.length = acc.length + ds.length ∧ Pool n c' ∧ c.length ≤ c'.length ∧ ∀ i, i < c.length → i ≠ n → i ≠ L → c'[i]? = c[i]?
  | [], acc, τ, c, hc, _, hp, _, ha, _ => ⟨acc, c, by unfold compGo; rw [if_pos stays_nil], hc, ha, rfl, hp, Nat.le_refl _, fun _ _ _ _ => rfl⟩
  | d :: ds, acc, τ, c, hc, hE, hp, hn, ha, hv => by
    obtain ⟨τ', x, c1, h1, h2, h3, h4, h5, k1⟩ := hv d (.head _) τ c hE hp
    have l1 : L < c.length := (List.getElem?_eq_some_iff.mp hc).1
    have e1 : c1[L]? = some (.lst (acc.map D.str)) := k1.get hc hL
    have l2 : L < c1.length := Nat.lt_of_lt_of_le l1 k1.len
    have hn' : acc.length + (ds.length + 1) ≤ 1000 := hn
    obtain ⟨xs, c', g1, g2, g3, g4, g5, g6, g7⟩ := compW hL ds (acc ++ [x]) τ' (c1.set L (.lst ((acc ++ [x]).map D.str))) (by rw [List.getElem?_set, if_pos rfl, if_pos l2]) h4 (by
      obtain ⟨a, b, q1, q2, q3⟩ := h5
      exact ⟨a, b, by rw [List.getElem?_set, if_neg hL]; exact q1, q2, q3⟩) (by rw [List.length_append, List.length_singleton]; omega) (fun y hy => by
      rcases List.mem_append.mp hy with hy | hy
      · exact ha y hy
      · cases List.mem_singleton.mp hy; exact h3) (fun d hd => hv d (.tail _ hd))
    refine ⟨xs, c', ?_, g2, g3, ?_, g5, ?_, fun i hi h8 h9 => ?_⟩
    · unfold compGo
      rw [if_pos stays_nil, h1, Option.bind_some]
      dsimp only
      rw [show tYes τ' c = some (true, c) from rfl, Option.bind_some]
      dsimp only
      rw [if_pos rfl, h2, Option.bind_some]
      dsimp only
      rw [e1]
      dsimp only
      rw [if_pos (by rw [List.length_map]; exact Nat.lt_of_lt_of_le (by omega : acc.length < 1000) (line_ok (by decide)))]
      rw [show acc.map D.str ++ [D.str x] = (acc ++ [x]).map D.str by rw [List.map_append]; rfl]
      exact g1
    · rw [g4, List.length_append, List.length_singleton, List.length_cons]; omega
    · rw [List.length_set] at g6
      exact Nat.le_trans k1.len g6
    · rw [g7 i (by rw [List.length_set]; exact Nat.lt_of_lt_of_le hi k1.len) h8 h9, List.getElem?_set, if_neg (fun z => h9 z.symm)]
      exact k1.at_ i hi h8
theorem strs_len {xs : List Str} (h : ∀ x ∈ xs, x.length ≤ 1) : (xs.map (·.length)).sum ≤ xs.length := by
  induction xs with
  | nil => simp
  | cons x xs ih =>
    have := ih fun y hy => h y (.tail _ hy)
    have := h x (.head _)
    simp only [List.map_cons, List.sum_cons, List.length_cons]
    omega
theorem strsOf_ (xs : List Str) : strsOf (xs.map D.str) = some xs := by
  induction xs with
  | nil => rfl
  | cons x xs ih =>
    rw [List.map_cons]
    unfold strsOf
    rw [ih]
    rfl
theorem join_all {xs : List Str} (h : ∀ x ∈ xs, x.cps.all (· < 1114112) = true) : (Txt.join "" xs).cps.all (· < 1114112) = true := by
  have fold : ∀ (ys : List Str) (a : Array Nat), (∀ x ∈ ys, x.cps.all (· < 1114112) = true) → a.all (· < 1114112) = true → (ys.foldl (fun acc p => acc ++ ("" : Str).cps ++ p.cps) a).all (· < 1114112) = true := by
    intro ys
    induction ys with
    | nil => intro a _ ha; exact ha
    | cons y ys ih =>
      intro a hy ha
      rw [List.foldl_cons]
      refine ih _ (fun x hx => hy x (.tail _ hx)) ?_
      rw [Array.all_append, Array.all_append, ha, hy y (.head _), show ("" : Str).cps.all (· < 1114112) = true by decide +kernel]
      rfl
  show ((xs.drop 1).foldl (fun acc p => acc ++ ("" : Str).cps ++ p.cps) (xs.headD Str.empty).cps).all (· < 1114112) = true
  refine fold _ _ (fun x hx => h x (List.mem_of_mem_drop hx)) ?_
  cases xs with
  | nil => decide +kernel
  | cons x xs => exact h x (.head _)
theorem word_ {n : Nat} {c : Cells} (h : Pool n c) : ∃ x c', F_law_word [.ref n] c = some (.str x, c') ∧ x.cps.all (· < 1114112) = true ∧ Pool n c' ∧ Kp n c c' := by
  obtain ⟨d, c1, e1, d0, d8, p1, k1⟩ := digit_ (m := 8) h (by decide) (by walk_at "bdm")
  have hi : iRng1 (aCons (e2 gAdd (eC (.int 1)) (eCall F_law_digit [] (aCons (eV 0) (aCons (eC (.int 8)) aNil)))) aNil) [some (.ref n)] c = some (⟨rng 0 (1 + d).toNat, []⟩, c1) := iRng1' (j := 1 + d) (by erw [e1]) (by omega)
  have hlt : n < c1.length := p1.lt
  have hne : c1.length ≠ n := by omega
  obtain ⟨xs, c2, g1, g2, g3, g4, g5, g6, g7⟩ := compW (n := n) (L := c1.length) (g := gName 0) (te := e2 gIxS (eC (.str "abcdefghijklmnopqrstuvwxyz")) (eCall F_law_digit [] (aCons (eV 1) (aCons (eC (.int 26)) aNil)))) (E := fun τ => ∃ y, τ = [y, some (.ref n)]) hne (rng 0 (1 + d).toNat) [] [none, some (.ref n)] (c1 ++ [.lst []]) (by simp) ⟨none, rfl⟩ p1.more (by unfold rng; simp; omega) (fun x hx => by cases hx) (fun z hz τ c hE hp => by
    obtain ⟨y, rfl⟩ := hE
    obtain ⟨g, c3, q1, q2, q3, q4, q5⟩ := digit_ (m := 26) hp (by decide) (by walk_at "bdm")
    obtain ⟨k, l1, lk⟩ := letter_ (c := c3) q2 q3
    refine ⟨[some z, some (.ref n)], ⟨#[k]⟩, c3, rfl, ?_, ⟨Nat.le_refl 1, by simp [lk]⟩, ⟨_, rfl⟩, q4, q5⟩
    erw [q1, l1])
  have hl : lstOf (.ref c1.length) c2 = some (c1.length, xs.map D.str) := by unfold lstOf; dsimp only; rw [g2]
  have kp : Kp n c c2 := by
    refine ⟨Nat.le_trans k1.len (by simp at g6; omega), fun i hi hne' => ?_⟩
    have l := k1.len
    rw [g7 i (by simp; omega) hne' (by omega), List.getElem?_append_left (by omega)]
    exact k1.at_ i hi hne'
  refine ⟨Txt.join "" xs, c2, ?_, join_all fun x hx => (g3 x hx).2, g5, kp⟩
  have hs := strs_len fun x hx => (g3 x hx).1
  have he : eComp (iRng1 (aCons (e2 gAdd (eC (.int 1)) (eCall F_law_digit [] (aCons (eV 0) (aCons (eC (.int 8)) aNil)))) aNil)) [none, some 0] (gName 0) tYes (e2 gIxS (eC (.str "abcdefghijklmnopqrstuvwxyz")) (eCall F_law_digit [] (aCons (eV 1) (aCons (eC (.int 26)) aNil)))) [some (.ref n)] c = some (.ref c1.length, c2) := by
    unfold eComp
    rw [hi, Option.bind_some]
    dsimp only
    rw [show capt [some (D.ref n)] [none, some 0] = [none, some (.ref n)] from rfl, g1]
    rfl
  have hj : eJoin "" (eComp (iRng1 (aCons (e2 gAdd (eC (.int 1)) (eCall F_law_digit [] (aCons (eV 0) (aCons (eC (.int 8)) aNil)))) aNil)) [none, some 0] (gName 0) tYes (e2 gIxS (eC (.str "abcdefghijklmnopqrstuvwxyz")) (eCall F_law_digit [] (aCons (eV 1) (aCons (eC (.int 26)) aNil))))) [some (.ref n)] c = some (.str (Txt.join "" xs), c2) := by
    unfold eJoin
    rw [he, Option.bind_some]
    dsimp only
    rw [hl, Option.bind_some]
    dsimp only
    rw [strsOf_, Option.bind_some, if_pos]
    have hx : xs.length ≤ 8 := by rw [g4]; unfold rng; simp; omega
    have h0 : ("" : Str).length = 0 := by decide
    rw [h0]
    omega
  rw [F_law_word, mkF_, B_law_word]
  erw [hj]
theorem pre_get {c c' : Cells} {i : Nat} {z : Cell} (h : c <+: c') (e : c[i]? = some z) : c'[i]? = some z := by
  obtain ⟨t, rfl⟩ := h
  rw [List.getElem?_append_left (List.getElem?_eq_some_iff.mp e).1]; exact e
theorem comp_go {ks : List (Nat × Cell)} {tt : XT} {te : XE} {ρ : Qm.Env} {c : Cells} (hs : stays ks c) (b : D → Bool) (v : D → D) : ∀ (ds : List D),
    (∀ d ∈ ds, ∀ c', c <+: c' → tt (some d :: ρ) c' = some (b d, c')) →
    (∀ d ∈ ds, b d = true → ∀ c', c <+: c' → ∃ zs, te (some d :: ρ) c' = some (v d, c' ++ zs)) →
    ∀ (acc : List D) (zs : List Cell) (x : Option D), acc.length + ds.length ≤ 10000 → ∃ zs', compGo c.length ks (gName 0) tt te ds (x :: ρ) (c ++ .lst acc :: zs) = some (c ++ .lst (acc ++ (ds.filter b).map v) :: zs')
  | [], _, _, acc, zs, x, _ => by
    refine ⟨zs, ?_⟩
    have st : stays ks (c ++ .lst acc :: zs) := fun p hp => pre_get ⟨_, rfl⟩ (hs p hp)
    unfold compGo
    rw [if_pos st]
    simp
  | d :: ds, ht, hv, acc, zs, x, hn => by
    have st : stays ks (c ++ .lst acc :: zs) := fun p hp => pre_get ⟨_, rfl⟩ (hs p hp)
    have e1 := ht d List.mem_cons_self (c ++ .lst acc :: zs) ⟨_, rfl⟩
    have ht' := fun d' hd => ht d' (List.mem_cons_of_mem d hd)
    have hv' := fun d' hd => hv d' (List.mem_cons_of_mem d hd)
    rw [List.length_cons] at hn
    unfold compGo
    rw [if_pos st]
    by_cases hb : b d = true
    · obtain ⟨ws, e2⟩ := hv d List.mem_cons_self hb (c ++ .lst acc :: zs) ⟨_, rfl⟩
      have e3 : (c ++ .lst acc :: zs ++ ws)[c.length]? = some (.lst acc) := by simp
      have e4 : (c ++ .lst acc :: zs ++ ws).set c.length (.lst (acc ++ [v d])) = c ++ .lst (acc ++ [v d]) :: (zs ++ ws) := by simp
      obtain ⟨zs', e5⟩ := comp_go hs b v ds ht' hv' (acc ++ [v d]) (zs ++ ws) (some d) (by simp only [List.length_append, List.length_cons, List.length_nil]; omega)
      refine ⟨zs', ?_⟩
      simp only [gName_, List.set_cons_zero, Option.bind_some, e1, hb, if_true, e2, e3, e4]
      rw [if_pos (Nat.lt_of_lt_of_le (show acc.length < 10000 by omega) (line_ok (Nat.le_refl _))), e5, List.filter_cons_of_pos hb]
      simp
    · obtain ⟨zs', e5⟩ := comp_go hs b v ds ht' hv' acc zs (some d) (by omega)
      refine ⟨zs', ?_⟩
      have hb' : b d = false := by simpa using hb
      simp only [gName_, List.set_cons_zero, Option.bind_some, e1, hb', Bool.false_eq_true, if_false]
      rw [e5, List.filter_cons_of_neg hb]
theorem comp_ {it : XI} {cap : List (Option Nat)} {tt : XT} {te : XE} {σ ρ : Qm.Env} {x : Option D} {c : Cells} {ds : List D} {ks : List (Nat × Cell)} (b : D → Bool) (v : D → D) (hi : it σ c = some (⟨ds, ks⟩, c)) (hc : capt σ cap = x :: ρ) (hs : stays ks c)
    (ht : ∀ d ∈ ds, ∀ c', c <+: c' → tt (some d :: ρ) c' = some (b d, c')) (hv : ∀ d ∈ ds, b d = true → ∀ c', c <+: c' → ∃ zs, te (some d :: ρ) c' = some (v d, c' ++ zs)) (hn : ds.length ≤ 1000) :
    ∃ zs, eComp it cap (gName 0) tt te σ c = some (.ref c.length, c ++ .lst ((ds.filter b).map v) :: zs) := by
  obtain ⟨zs, e⟩ := comp_go hs b v ds ht hv [] [] x (by simp; omega)
  refine ⟨zs, ?_⟩
  unfold eComp
  rw [hi, Option.bind_some]
  dsimp only
  rw [hc, e]
  rfl
theorem isE_ {κ : Nat → Nat} (hκ : L2.KInj κ) {i j m : Nat} {fs : List (Str × D)} {c : Cells} (hc : c[m]? = some (.exc (κ i) (κ 0) fs)) (hi : 1 ≤ i ∧ i ≤ 10) (hj : 1 ≤ j ∧ j ≤ 10) : bIsE (κ j) [.ref m, .adr (κ j)] c = some (.bl (decide (j = i)), c) := by
  unfold bIsE
  dsimp only
  rw [hc]
  dsimp only
  rw [if_pos rfl]
  have h1 : decide (κ j = κ i) = decide (j = i) := by
    by_cases e : j = i
    · rw [e]; simp
    · rw [decide_eq_false e, decide_eq_false fun z => e (hκ j i (by omega) (by omega) z)]
  have h2 : decide (κ j = κ 0) = false := decide_eq_false fun z => by have := hκ j 0 (by omega) (by omega) z; omega
  rw [h1, h2, Bool.or_false]
theorem eIsE_ {κ : Nat → Nat} (hκ : L2.KInj κ) {i j m : Nat} {fs : List (Str × D)} {c : Cells} {x : Option D} (hc : c[m]? = some (.exc (κ i) (κ 0) fs)) (hi : 1 ≤ i ∧ i ≤ 10) (hj : 1 ≤ j ∧ j ≤ 10) : eB (bIsE (κ j)) (aCons (eV 0) (aCons (eC (.adr (κ j))) aNil)) [some (.ref m), x] c = some (.bl (decide (j = i)), c) := isE_ hκ hc hi hj
theorem lst4 {a1 a2 a3 a4 : XE} {d1 d2 d3 d4 : D} {σ : Qm.Env} {c : Cells} (h1 : a1 σ c = some (d1, c)) (h2 : a2 σ c = some (d2, c)) (h3 : a3 σ c = some (d3, c)) (h4 : a4 σ c = some (d4, c)) : eLst (aCons a1 (aCons a2 (aCons a3 (aCons a4 aNil)))) σ c = some (.ref c.length, c ++ [.lst [d1, d2, d3, d4]]) := by
  erw [h1, h2, h3, h4]
theorem lst2 {a1 a2 : XE} {d1 d2 : D} {σ : Qm.Env} {c : Cells} (h1 : a1 σ c = some (d1, c)) (h2 : a2 σ c = some (d2, c)) : eLst (aCons a1 (aCons a2 aNil)) σ c = some (.ref c.length, c ++ [.lst [d1, d2]]) := by
  erw [h1, h2]
theorem cat_ {a b : Nat} {c : Cells} {xs ys : List D} (ha : c[a]? = some (.lst xs)) (hb : c[b]? = some (.lst ys)) (hl : xs.length + ys.length ≤ 10000) : gAdd (.ref a) (.ref b) c = some (.ref c.length, c ++ [.lst (xs ++ ys)]) := by
  have : gAdd (.ref a) (.ref b) c = (lstOf (.ref a) c).bind fun p => (lstOf (.ref b) c).bind fun q => if p.2.length + q.2.length ≤ LINE then some (.ref c.length, c ++ [.lst (p.2 ++ q.2)]) else none := rfl
  rw [this, show lstOf (.ref a) c = some (a, xs) by unfold lstOf; dsimp only; rw [ha], show lstOf (.ref b) c = some (b, ys) by unfold lstOf; dsimp only; rw [hb]]
  exact if_pos (line_ok hl)
theorem sSeq_of {a b : XS} {σ σ1 : Qm.Env} {c c1 : Cells} {r : Option (Fl × Qm.Env × Cells)} (h1 : a σ c = some (.nx, σ1, c1)) (h2 : b σ1 c1 = r) : sSeq a b σ c = r := by
  rw [sSeq_, h1]
  exact h2
theorem app_get {c zs : Cells} {m : Nat} {z : Cell} (h : c[m]? = some z) : (c ++ zs)[m]? = some z := by
  rw [List.getElem?_append_left (List.getElem?_eq_some_iff.mp h).1]; exact h
def hitB (i : Nat) : D → Bool
  | .int k => decide (k + 1 = (i : Int))
  | _ => false
theorem filt_ {i : Nat} (hi : 1 ≤ i ∧ i ≤ 10) : ((rng 0 10).filter (hitB i)).map id = [.int ((i : Int) - 1)] := by
  have : i = 1 ∨ i = 2 ∨ i = 3 ∨ i = 4 ∨ i = 5 ∨ i = 6 ∨ i = 7 ∨ i = 8 ∨ i = 9 ∨ i = 10 := by omega
  rcases this with rfl | rfl | rfl | rfl | rfl | rfl | rfl | rfl | rfl | rfl <;> rfl
theorem kinds_ {κ : Nat → Nat} (hκ : L2.KInj κ) {i m : Nat} {fs : List (Str × D)} {c : Cells} (hc : c[m]? = some (.exc (κ i) (κ 0) fs)) (hi : 1 ≤ i ∧ i ≤ 10) : ∃ p c', F_law_kinds κ [.ref m] c = some (.ref p, c') ∧ c <+: c' ∧ c'[p]? = some (.lst [.int ((i : Int) - 1)]) := by
  have e1 := lst4 (eIsE_ (x := none) hκ hc hi (j := 1) (by decide)) (eIsE_ hκ hc hi (j := 2) (by decide)) (eIsE_ hκ hc hi (j := 3) (by decide)) (eIsE_ hκ hc hi (j := 4) (by decide))
  have hH : (List.range 10).map (fun (j : Nat) => D.bl (decide (j + 1 = i))) = [D.bl (decide (1 = i)), D.bl (decide (2 = i)), D.bl (decide (3 = i)), D.bl (decide (4 = i))] ++ [D.bl (decide (5 = i)), D.bl (decide (6 = i)), D.bl (decide (7 = i)), D.bl (decide (8 = i))] ++ [D.bl (decide (9 = i)), D.bl (decide (10 = i))] := rfl
  generalize hA : [D.bl (decide (1 = i)), D.bl (decide (2 = i)), D.bl (decide (3 = i)), D.bl (decide (4 = i))] = A at e1 hH
  have lA : A.length = 4 := by rw [← hA]; rfl
  generalize d1 : c ++ [Cell.lst A] = c1 at e1
  have g1 : c1[c.length]? = some (.lst A) := by rw [← d1]; simp
  have m1 : c1[m]? = some (.exc (κ i) (κ 0) fs) := by rw [← d1]; exact app_get hc
  have p1 : c <+: c1 := ⟨_, d1⟩
  have e2' := lst4 (eIsE_ (x := some (.ref c.length)) hκ m1 hi (j := 5) (by decide)) (eIsE_ hκ m1 hi (j := 6) (by decide)) (eIsE_ hκ m1 hi (j := 7) (by decide)) (eIsE_ hκ m1 hi (j := 8) (by decide))
  generalize hB : [D.bl (decide (5 = i)), D.bl (decide (6 = i)), D.bl (decide (7 = i)), D.bl (decide (8 = i))] = B at e2' hH
  have lB : B.length = 4 := by rw [← hB]; rfl
  generalize d2 : c1 ++ [Cell.lst B] = c2 at e2'
  have g2 : c2[c1.length]? = some (.lst B) := by rw [← d2]; simp
  have h2 : c2[c.length]? = some (.lst A) := by rw [← d2]; exact app_get g1
  have m2 : c2[m]? = some (.exc (κ i) (κ 0) fs) := by rw [← d2]; exact app_get m1
  have e3 := cat_ h2 g2 (by omega)
  generalize d3 : c2 ++ [Cell.lst (A ++ B)] = c3 at e3
  have g3 : c3[c2.length]? = some (.lst (A ++ B)) := by rw [← d3]; simp
  have m3 : c3[m]? = some (.exc (κ i) (κ 0) fs) := by rw [← d3]; exact app_get m2
  have e4 := lst2 (eIsE_ (x := some (.ref c2.length)) hκ m3 hi (j := 9) (by decide)) (eIsE_ hκ m3 hi (j := 10) (by decide))
  generalize hC : [D.bl (decide (9 = i)), D.bl (decide (10 = i))] = C at e4 hH
  have lC : C.length = 2 := by rw [← hC]; rfl
  generalize d4 : c3 ++ [Cell.lst C] = c4 at e4
  have g4 : c4[c3.length]? = some (.lst C) := by rw [← d4]; simp
  have h4 : c4[c2.length]? = some (.lst (A ++ B)) := by rw [← d4]; exact app_get g3
  have e5 := cat_ h4 g4 (by rw [List.length_append]; omega)
  generalize d5 : c4 ++ [Cell.lst (A ++ B ++ C)] = c5 at e5
  have g5 : c5[c4.length]? = some (.lst ((List.range 10).map (fun (j : Nat) => D.bl (decide (j + 1 = i))))) := by rw [← d5, hH]; simp
  have hi10 : iRng1 (aCons (eC (.int 10)) aNil) [some (.ref m), some (.ref c4.length)] c5 = some (⟨rng 0 10, []⟩, c5) := iRng1' (j := 10) rfl (by decide)
  obtain ⟨zs, e6⟩ := comp_ (cap := [none, some 1]) (tt := tV (e2 gIx (eV 1) (eV 0))) (te := eV 0) (ρ := [some (.ref c4.length)]) (x := none) (hitB i) id hi10 rfl stays_nil (fun d hd c' hp => by
    unfold rng at hd
    obtain ⟨j, hj, rfl⟩ := List.mem_map.mp hd
    have hj' : j < 10 := List.mem_range.mp hj
    have gg := pre_get hp g5
    have at1 : atD ((List.range 10).map (fun (j : Nat) => D.bl (decide (j + 1 = i)))) (0 + (j : Int)) = some (.bl (decide (j + 1 = i))) := by
      rw [Int.zero_add]
      exact atD_nat (by rw [List.getElem?_map, List.getElem?_range hj']; rfl)
    have sq : seqOf (.ref c4.length) c' = some ((List.range 10).map (fun (j : Nat) => D.bl (decide (j + 1 = i)))) := by unfold seqOf; dsimp only; rw [gg]
    have hb : hitB i (.int (0 + (j : Int))) = decide (j + 1 = i) := by
      show decide ((0 : Int) + (j : Int) + 1 = (i : Int)) = decide (j + 1 = i)
      by_cases e : j + 1 = i
      · rw [decide_eq_true e, decide_eq_true (by omega)]
      · rw [decide_eq_false e, decide_eq_false (by omega)]
    rw [hb]
    erw [gIx_, sq, at1]) (fun d hd _ c' hp => ⟨[], by rw [List.append_nil]; rfl⟩) (by decide)
  refine ⟨c5.length, c5 ++ .lst (((rng 0 10).filter (hitB i)).map id) :: zs, ?_, ?_, ?_⟩
  · have hb : B_law_kinds κ [some (.ref m), none] c = some (.rt (.ref c5.length), [some (.ref m), some (.ref c4.length)], c5 ++ .lst (((rng 0 10).filter (hitB i)).map id) :: zs) := by
      unfold B_law_kinds
      refine sSeq_of (σ1 := [some (.ref m), some (.ref c.length)]) (c1 := c1) ?_ ?_
      · rw [sSet_, e1]; rfl
      refine sSeq_of (σ1 := [some (.ref m), some (.ref c2.length)]) (c1 := c3) ?_ ?_
      · rw [sSet_, e2_, eV_]
        dsimp only [List.getElem?_cons_succ, List.getElem?_cons_zero, Option.join_some, Option.bind_some]
        rw [e2', Option.bind_some]
        dsimp only
        rw [e3]; rfl
      refine sSeq_of (σ1 := [some (.ref m), some (.ref c4.length)]) (c1 := c5) ?_ ?_
      · rw [sSet_, e2_, eV_]
        dsimp only [List.getElem?_cons_succ, List.getElem?_cons_zero, Option.join_some, Option.bind_some]
        rw [e4, Option.bind_some]
        dsimp only
        rw [e5]; rfl
      rw [sRet_, e6]; rfl
    rw [F_law_kinds, mkF_]
    erw [hb]
  · exact p1.trans ⟨[.lst B] ++ [.lst (A ++ B)] ++ [.lst C] ++ [.lst (A ++ B ++ C)] ++ .lst (((rng 0 10).filter (hitB i)).map id) :: zs, by rw [← d5, ← d4, ← d3, ← d2]; simp⟩
  · rw [List.getElem?_append_right (Nat.le_refl _), Nat.sub_self, filt_ hi]
    rfl
theorem exc_ {C S : Nat} {fs : List Str} {a : XA} {σ : Qm.Env} {ds : List D} (h : ∀ c, a σ c = some (ds, c)) (hl : ds.length = fs.length) (c : Cells) : eExc C S fs a σ c = some (.ref c.length, c ++ [.exc C S (fs.zip ds)]) := by
  unfold eExc
  rw [h, Option.bind_some, if_pos hl]
def fl (x y : Str) (o t : Int) : Nat → List (Str × D)
  | 0 => [("face", .str x)]
  | 1 => [("one", .str x), ("other", .str y)]
  | 3 => [("line", .int t)]
  | 4 => [("one", .int o), ("other", .int t)]
  | 5 => [("row", .int t)]
  | 9 => [("name", .str y)]
  | _ => []
def E (κ : Nat → Nat) (x y : Str) (o t : Int) (k : Nat) : Cell := .exc (κ (k + 1)) (κ 0) (fl x y o t k)
section
variable {κ : Nat → Nat} {x y : Str} {o t : Int} {u v w : Option D} {p0 p1 : D}
theorem made7 (c : Cells) : eLst (aCons (eExc (κ 1) (κ 0) ["face"] (aCons (eV 2) aNil)) (aCons (eExc (κ 2) (κ 0) ["one", "other"] (aCons (eV 2) (aCons (eV 3) aNil))) (aCons (eExc (κ 3) (κ 0) [] aNil) (aCons (eExc (κ 4) (κ 0) ["line"] (aCons (eV 5) aNil)) (aCons (eExc (κ 5) (κ 0) ["one", "other"] (aCons (eV 4) (aCons (eV 5) aNil))) (aCons (eExc (κ 6) (κ 0) ["row"] (aCons (eV 5) aNil)) (aCons (eExc (κ 7) (κ 0) [] aNil) aNil))))))) [some p0, some p1, some (.str x), some (.str y), some (.int o), some (.int t), u, v, w] c =
    some (.ref (c.length + 7), c ++ [E κ x y o t 0, E κ x y o t 1, E κ x y o t 2, E κ x y o t 3, E κ x y o t 4, E κ x y o t 5, E κ x y o t 6, .lst [.ref c.length, .ref (c.length + 1), .ref (c.length + 2), .ref (c.length + 3), .ref (c.length + 4), .ref (c.length + 5), .ref (c.length + 6)]]) := by
  have h1 := exc_ (C := κ 1) (S := κ 0) (fs := ["face"]) (a := aCons (eV 2) aNil) (σ := [some p0, some p1, some (.str x), some (.str y), some (.int o), some (.int t), u, v, w]) (ds := [.str x]) (fun c => rfl) rfl
  have h2 := exc_ (C := κ 2) (S := κ 0) (fs := ["one", "other"]) (a := aCons (eV 2) (aCons (eV 3) aNil)) (σ := [some p0, some p1, some (.str x), some (.str y), some (.int o), some (.int t), u, v, w]) (ds := [.str x, .str y]) (fun c => rfl) rfl
  have h3 := exc_ (C := κ 3) (S := κ 0) (fs := []) (a := aNil) (σ := [some p0, some p1, some (.str x), some (.str y), some (.int o), some (.int t), u, v, w]) (ds := []) (fun c => rfl) rfl
  have h4 := exc_ (C := κ 4) (S := κ 0) (fs := ["line"]) (a := aCons (eV 5) aNil) (σ := [some p0, some p1, some (.str x), some (.str y), some (.int o), some (.int t), u, v, w]) (ds := [.int t]) (fun c => rfl) rfl
  have h5 := exc_ (C := κ 5) (S := κ 0) (fs := ["one", "other"]) (a := aCons (eV 4) (aCons (eV 5) aNil)) (σ := [some p0, some p1, some (.str x), some (.str y), some (.int o), some (.int t), u, v, w]) (ds := [.int o, .int t]) (fun c => rfl) rfl
  have h6 := exc_ (C := κ 6) (S := κ 0) (fs := ["row"]) (a := aCons (eV 5) aNil) (σ := [some p0, some p1, some (.str x), some (.str y), some (.int o), some (.int t), u, v, w]) (ds := [.int t]) (fun c => rfl) rfl
  have h7 := exc_ (C := κ 7) (S := κ 0) (fs := []) (a := aNil) (σ := [some p0, some p1, some (.str x), some (.str y), some (.int o), some (.int t), u, v, w]) (ds := []) (fun c => rfl) rfl
  simp only [eLst_, aCons_, aNil_, h1, h2, h3, h4, h5, h6, h7, Option.bind_some]
  rw [if_pos (by exact line7)]
  simp [E, fl, Nat.add_assoc]
theorem made3 (c : Cells) : eLst (aCons (eExc (κ 8) (κ 0) [] aNil) (aCons (eExc (κ 9) (κ 0) [] aNil) (aCons (eExc (κ 10) (κ 0) ["name"] (aCons (eV 3) aNil)) aNil))) [some p0, some p1, some (.str x), some (.str y), some (.int o), some (.int t), u, v, w] c =
    some (.ref (c.length + 3), c ++ [E κ x y o t 7, E κ x y o t 8, E κ x y o t 9, .lst [.ref c.length, .ref (c.length + 1), .ref (c.length + 2)]]) := by
  have h1 := exc_ (C := κ 8) (S := κ 0) (fs := []) (a := aNil) (σ := [some p0, some p1, some (.str x), some (.str y), some (.int o), some (.int t), u, v, w]) (ds := []) (fun c => rfl) rfl
  have h2 := exc_ (C := κ 9) (S := κ 0) (fs := []) (a := aNil) (σ := [some p0, some p1, some (.str x), some (.str y), some (.int o), some (.int t), u, v, w]) (ds := []) (fun c => rfl) rfl
  have h3 := exc_ (C := κ 10) (S := κ 0) (fs := ["name"]) (a := aCons (eV 3) aNil) (σ := [some p0, some p1, some (.str x), some (.str y), some (.int o), some (.int t), u, v, w]) (ds := [.str y]) (fun c => rfl) rfl
  simp only [eLst_, aCons_, aNil_, h1, h2, h3, Option.bind_some]
  rw [if_pos (by exact line3)]
  simp [E, fl, Nat.add_assoc]
end
def plc (N k : Nat) : Nat := N + (if k < 7 then k else k + 1)
theorem app_at {c l : Cells} {j : Nat} : (c ++ l)[c.length + j]? = l[j]? := by rw [List.getElem?_append_right (Nat.le_add_right _ _), Nat.add_sub_cancel_left]
structure Ten (κ : Nat → Nat) (x y : Str) (o t : Int) (N g : Nat) (c : Cells) : Prop where
  at_ : ∀ k, k < 10 → c[plc N k]? = some (E κ x y o t k)
  row : c[g]? = some (.lst ((List.range 10).map fun k => D.ref (plc N k)))
theorem Ten.up {κ : Nat → Nat} {x y : Str} {o t : Int} {N g : Nat} {c c' : Cells} (h : Ten κ x y o t N g c) (p : c <+: c') : Ten κ x y o t N g c' := ⟨fun k hk => pre_get p (h.at_ k hk), pre_get p h.row⟩
theorem Ten.ix {κ : Nat → Nat} {x y : Str} {o t : Int} {N g : Nat} {c : Cells} (h : Ten κ x y o t N g c) {k : Nat} (hk : k < 10) : gIx (.ref g) (.int (k : Int)) c = some (.ref (plc N k), c) := by
  rw [gIx_, show seqOf (.ref g) c = some ((List.range 10).map fun k => D.ref (plc N k)) by unfold seqOf; dsimp only; rw [h.row], Option.bind_some, atD_nat (n := k) (x := D.ref (plc N k)) (by rw [List.getElem?_map, List.getElem?_range hk]; rfl)]
  rfl
theorem ten_of {κ : Nat → Nat} {x y : Str} {o t : Int} {c : Cells} : ∃ c', c <+: c' ∧ Ten κ x y o t c.length (c.length + 12) c' ∧ c' = c ++ [E κ x y o t 0, E κ x y o t 1, E κ x y o t 2, E κ x y o t 3, E κ x y o t 4, E κ x y o t 5, E κ x y o t 6, .lst [.ref c.length, .ref (c.length + 1), .ref (c.length + 2), .ref (c.length + 3), .ref (c.length + 4), .ref (c.length + 5), .ref (c.length + 6)], E κ x y o t 7, E κ x y o t 8, E κ x y o t 9, .lst [.ref (c.length + 8), .ref (c.length + 9), .ref (c.length + 10)], .lst [.ref c.length, .ref (c.length + 1), .ref (c.length + 2), .ref (c.length + 3), .ref (c.length + 4), .ref (c.length + 5), .ref (c.length + 6), .ref (c.length + 8), .ref (c.length + 9), .ref (c.length + 10)]] := by
  refine ⟨_, ⟨_, rfl⟩, ⟨fun k hk => ?_, ?_⟩, rfl⟩
  · have : k = 0 ∨ k = 1 ∨ k = 2 ∨ k = 3 ∨ k = 4 ∨ k = 5 ∨ k = 6 ∨ k = 7 ∨ k = 8 ∨ k = 9 := by omega
    unfold plc
    rw [app_at]
    rcases this with rfl | rfl | rfl | rfl | rfl | rfl | rfl | rfl | rfl | rfl <;> rfl
  · rw [app_at]
    rfl
theorem neW1 {a b : Nat} {c : Cells} {i : Int} (ha : c[a]? = some (.lst [.int i])) (hb : c[b]? = some (.lst [.int i])) : gNeW (.ref a) (.ref b) c = some (.bl false, c) := by
  have d : ∀ z, c[z]? = some (.lst [.int i]) → data c 60 (.ref z) = some (.list [.int i]) := fun z hz => by
    unfold data
    dsimp only
    rw [hz]
    rfl
  unfold gNeW eqMW
  rw [d a ha, d b hb]
  simp
theorem xf_ {κ : Nat → Nat} {x y : Str} {o t : Int} {N g : Nat} {c : Cells} (h : Ten κ x y o t N g c) {k : Nat} (hk : k < 10) {f : Str} {d : D} (hl : (fl x y o t k).lookup f = some d) {σ : Qm.Env} (hs : eV 6 σ c = some (.ref g, c)) : eXf f (e2 gIx (eV 6) (eC (.int (k : Int)))) σ c = some (d, c) := by
  have e1 : e2 gIx (eV 6) (eC (.int (k : Int))) σ c = some (.ref (plc N k), c) := by
    rw [e2_, hs, Option.bind_some]
    dsimp only
    rw [eC_, Option.bind_some]
    exact h.ix hk
  unfold eXf
  rw [e1, Option.bind_some]
  unfold xfOf
  dsimp only
  rw [h.at_ k hk]
  unfold E
  dsimp only
  rw [hl]
  rfl
theorem dstr {c : Cells} {k : Nat} {x : Str} (hx : x.cps.all (· < 1114112) = true) : data c (k + 1) (.str x) = some (.str x) := by
  unfold data
  dsimp only
  rw [if_pos hx]
theorem eqS {c : Cells} {x : Str} (hx : x.cps.all (· < 1114112) = true) : gEq (.str x) (.str x) c = some (.bl true, c) ∧ gNe (.str x) (.str x) c = some (.bl false, c) := by
  have : eqM (.str x) (.str x) c = some true := by
    unfold eqM
    dsimp only
    rw [dstr hx]
    simp
  unfold gEq gNe
  rw [this]
  exact ⟨rfl, rfl⟩
theorem turn_ {κ : Nat → Nat} (hκ : L2.KInj κ) {x y : Str} {o t : Int} {N g : Nat} {c : Cells} (h : Ten κ x y o t N g c) {k : Nat} (hk : k < 10) {s0 s1 s2 s3 s4 s5 s8 : Option D} :
    ∃ c', (sSeq (sIf (tV (e2 gNeW (eCall (F_law_kinds κ) [] (aCons (e2 gIx (eV 6) (eV 7)) aNil)) (eLst (aCons (eV 7) aNil)))) (sRet (eC (.bl false))) sNil)
      (sIf (tOr (tNot (tV (eB (bIsE (κ 0)) (aCons (e2 gIx (eV 6) (eV 7)) (aCons (eC (.adr (κ 0))) aNil))))) (tNot (tV (eB bIsV (aCons (e2 gIx (eV 6) (eV 7)) (aCons (eC (.ty "ValueError")) aNil)))))) (sRet (eC (.bl false))) sNil)) [s0, s1, s2, s3, s4, s5, some (.ref g), some (.int (k : Int)), s8] c = some (.nx, [s0, s1, s2, s3, s4, s5, some (.ref g), some (.int (k : Int)), s8], c') ∧ c <+: c' := by
  obtain ⟨p, c1, e1, p1, g1⟩ := kinds_ hκ (i := k + 1) (h.at_ k hk) (by omega)
  have i0 := h.ix hk
  have ek : ((k + 1 : Nat) : Int) - 1 = (k : Int) := by omega
  rw [ek] at g1
  have h2 := h.up (p1.trans ⟨[.lst [.int (k : Int)]], rfl⟩)
  have ne := neW1 (c := c1 ++ [.lst [.int (k : Int)]]) (a := p) (b := c1.length) (app_get g1) (by simp)
  have i2 := h2.ix hk
  have b1 : bIsE (κ 0) [.ref (plc N k), .adr (κ 0)] (c1 ++ [.lst [.int (k : Int)]]) = some (.bl true, c1 ++ [.lst [.int (k : Int)]]) := by
    unfold bIsE
    dsimp only
    rw [h2.at_ k hk]
    unfold E
    dsimp only
    rw [if_pos rfl]
    simp
  have b2 : bIsV [.ref (plc N k), .ty "ValueError"] (c1 ++ [.lst [.int (k : Int)]]) = some (.bl true, c1 ++ [.lst [.int (k : Int)]]) := by
    unfold bIsV
    dsimp only
    rw [h2.at_ k hk]
    unfold E
    dsimp only
    rw [if_pos rfl]
  refine ⟨c1 ++ [.lst [.int (k : Int)]], ?_, p1.trans ⟨_, rfl⟩⟩
  erw [i0, e1, ne, i2, b1, b2]
theorem lst7 {σ : Qm.Env} {c : Cells} {a1 a2 a3 a4 a5 a6 a7 : XE} {d1 d2 d3 d4 d5 d6 d7 : D} (h1 : a1 σ c = some (d1, c)) (h2 : a2 σ c = some (d2, c)) (h3 : a3 σ c = some (d3, c)) (h4 : a4 σ c = some (d4, c)) (h5 : a5 σ c = some (d5, c)) (h6 : a6 σ c = some (d6, c)) (h7 : a7 σ c = some (d7, c)) :
    eLst (aCons a1 (aCons a2 (aCons a3 (aCons a4 (aCons a5 (aCons a6 (aCons a7 aNil))))))) σ c = some (.ref c.length, c ++ [.lst [d1, d2, d3, d4, d5, d6, d7]]) := by
  erw [h1, h2, h3, h4, h5, h6, h7]
theorem neW7 {a b : Nat} {c : Cells} {x y : Str} {o t : Int} (hx : x.cps.all (· < 1114112) = true) (hy : y.cps.all (· < 1114112) = true) (ha : c[a]? = some (.lst [.str x, .str x, .str y, .int t, .int o, .int t, .int t])) (hb : c[b]? = some (.lst [.str x, .str x, .str y, .int t, .int o, .int t, .int t])) : gNeW (.ref a) (.ref b) c = some (.bl false, c) := by
  have d : ∀ z, c[z]? = some (.lst [.str x, .str x, .str y, .int t, .int o, .int t, .int t]) → data c 60 (.ref z) = some (.list [.str x, .str x, .str y, .int t, .int o, .int t, .int t]) := fun z hz => by
    unfold data
    dsimp only
    rw [hz]
    dsimp only
    simp only [omap, dstr hx, dstr hy, Option.bind_some]
    rfl
  unfold gNeW eqMW
  rw [d a ha, d b hb]
  simp
theorem law_true (κ : Nat → Nat) (hκ : L2.KInj κ) (ns : List Int) (h : ns.length ≤ 63) : ∃ c, F_law κ [.ref 0] [.ro (ns.map D.int)] = some (.bl true, c) := by
  obtain ⟨a, b, e1, a0, b0⟩ := pool_ (s := 0) (c := [.ro (ns.map D.int)]) (ns := ns) (k := 1) rfl (by decide) (by decide)
  have p1 : Pool 1 ([Cell.ro (ns.map D.int)] ++ [.lst [.int a, .int b]]) := ⟨a, b, rfl, a0, b0⟩
  generalize hc1 : [Cell.ro (ns.map D.int)] ++ [.lst [.int a, .int b]] = c1 at e1 p1
  obtain ⟨x, c2, e2', hx, p2, k2⟩ := word_ p1
  obtain ⟨y, c3, e3, hy, p3, k3⟩ := word_ p2
  obtain ⟨o, c4, e4, o0, o5, p4, k4⟩ := digit_ (m := 5) p3 (by decide) (by walk_at "bdm")
  obtain ⟨t, c5, e5, t0, t1, p5, k5⟩ := digit_ (m := 1000) p4 (by decide) (by walk_at "bdm")
  obtain ⟨c6, q6, T, d6⟩ := ten_of (κ := κ) (x := x) (y := y) (o := o) (t := t) (c := c5)
  have m7 := made7 (κ := κ) (x := x) (y := y) (o := o) (t := t) (u := none) (v := none) (w := none) (p0 := .ref 0) (p1 := .ref 1) c5
  have m3 := made3 (κ := κ) (x := x) (y := y) (o := o) (t := t) (u := some (.ref (c5.length + 7))) (v := none) (w := none) (p0 := .ref 0) (p1 := .ref 1) (c5 ++ [E κ x y o t 0, E κ x y o t 1, E κ x y o t 2, E κ x y o t 3, E κ x y o t 4, E κ x y o t 5, E κ x y o t 6, .lst [.ref c5.length, .ref (c5.length + 1), .ref (c5.length + 2), .ref (c5.length + 3), .ref (c5.length + 4), .ref (c5.length + 5), .ref (c5.length + 6)]])
  have l8 : (c5 ++ [E κ x y o t 0, E κ x y o t 1, E κ x y o t 2, E κ x y o t 3, E κ x y o t 4, E κ x y o t 5, E κ x y o t 6, .lst [.ref c5.length, .ref (c5.length + 1), .ref (c5.length + 2), .ref (c5.length + 3), .ref (c5.length + 4), .ref (c5.length + 5), .ref (c5.length + 6)]]).length = c5.length + 8 := by simp
  rw [l8] at m3
  have cat := cat_ (c := c5 ++ [E κ x y o t 0, E κ x y o t 1, E κ x y o t 2, E κ x y o t 3, E κ x y o t 4, E κ x y o t 5, E κ x y o t 6, .lst [.ref c5.length, .ref (c5.length + 1), .ref (c5.length + 2), .ref (c5.length + 3), .ref (c5.length + 4), .ref (c5.length + 5), .ref (c5.length + 6)]] ++ [E κ x y o t 7, E κ x y o t 8, E κ x y o t 9, .lst [.ref (c5.length + 8), .ref (c5.length + 8 + 1), .ref (c5.length + 8 + 2)]]) (a := c5.length + 7) (b := c5.length + 8 + 3) (xs := [.ref c5.length, .ref (c5.length + 1), .ref (c5.length + 2), .ref (c5.length + 3), .ref (c5.length + 4), .ref (c5.length + 5), .ref (c5.length + 6)]) (ys := [.ref (c5.length + 8), .ref (c5.length + 8 + 1), .ref (c5.length + 8 + 2)])
    (by rw [List.append_assoc, app_at]; rfl) (by rw [List.append_assoc]; exact (app_at (j := 11)).trans rfl) (by simp)
  have l12 : (c5 ++ [E κ x y o t 0, E κ x y o t 1, E κ x y o t 2, E κ x y o t 3, E κ x y o t 4, E κ x y o t 5, E κ x y o t 6, .lst [.ref c5.length, .ref (c5.length + 1), .ref (c5.length + 2), .ref (c5.length + 3), .ref (c5.length + 4), .ref (c5.length + 5), .ref (c5.length + 6)]] ++ [E κ x y o t 7, E κ x y o t 8, E κ x y o t 9, .lst [.ref (c5.length + 8), .ref (c5.length + 8 + 1), .ref (c5.length + 8 + 2)]]).length = c5.length + 12 := by simp
  rw [l12] at cat
  have ecat : c5 ++ [E κ x y o t 0, E κ x y o t 1, E κ x y o t 2, E κ x y o t 3, E κ x y o t 4, E κ x y o t 5, E κ x y o t 6, .lst [.ref c5.length, .ref (c5.length + 1), .ref (c5.length + 2), .ref (c5.length + 3), .ref (c5.length + 4), .ref (c5.length + 5), .ref (c5.length + 6)]] ++ [E κ x y o t 7, E κ x y o t 8, E κ x y o t 9, .lst [.ref (c5.length + 8), .ref (c5.length + 8 + 1), .ref (c5.length + 8 + 2)]] ++ [.lst ([.ref c5.length, .ref (c5.length + 1), .ref (c5.length + 2), .ref (c5.length + 3), .ref (c5.length + 4), .ref (c5.length + 5), .ref (c5.length + 6)] ++ [.ref (c5.length + 8), .ref (c5.length + 8 + 1), .ref (c5.length + 8 + 2)])] = c6 := by rw [d6]; simp
  rw [ecat] at cat
  generalize hX : c5 ++ [E κ x y o t 0, E κ x y o t 1, E κ x y o t 2, E κ x y o t 3, E κ x y o t 4, E κ x y o t 5, E κ x y o t 6, .lst [.ref c5.length, .ref (c5.length + 1), .ref (c5.length + 2), .ref (c5.length + 3), .ref (c5.length + 4), .ref (c5.length + 5), .ref (c5.length + 6)]] = cX at m7 m3 cat
  generalize hY : cX ++ [E κ x y o t 7, E κ x y o t 8, E κ x y o t 9, .lst [.ref (c5.length + 8), .ref (c5.length + 8 + 1), .ref (c5.length + 8 + 2)]] = cY at m3 cat
  clear hX hY ecat l12 l8
  -- the loop
  have loop := forGo_inv (ks := []) (g := gName 7) (body := sSeq (sIf (tV (e2 gNeW (eCall (F_law_kinds κ) [] (aCons (e2 gIx (eV 6) (eV 7)) aNil)) (eLst (aCons (eV 7) aNil)))) (sRet (eC (.bl false))) sNil)
      (sIf (tOr (tNot (tV (eB (bIsE (κ 0)) (aCons (e2 gIx (eV 6) (eV 7)) (aCons (eC (.adr (κ 0))) aNil))))) (tNot (tV (eB bIsV (aCons (e2 gIx (eV 6) (eV 7)) (aCons (eC (.ty "ValueError")) aNil)))))) (sRet (eC (.bl false))) sNil))
    (fun _ σ c => (∃ v, σ = [some (.ref 0), some (.ref 1), some (.str x), some (.str y), some (.int o), some (.int t), some (.ref (c5.length + 12)), v, none]) ∧ Ten κ x y o t c5.length (c5.length + 12) c)
    (rng 0 10) 0 [some (.ref 0), some (.ref 1), some (.str x), some (.str y), some (.int o), some (.int t), some (.ref (c5.length + 12)), none, none] c6 (fun _ _ _ _ => stays_nil) (fun i d σ c hd hP => by
      obtain ⟨⟨v, rfl⟩, hT⟩ := hP
      have hi : i < 10 := by
        have := (List.getElem?_eq_some_iff.mp hd).1
        unfold rng at this
        simpa using this
      have hd' : d = .int (i : Int) := by
        unfold rng at hd
        rw [List.getElem?_map, List.getElem?_range hi] at hd
        cases hd
        simp
      subst hd'
      obtain ⟨c', ec, pc⟩ := turn_ hκ hT hi (s0 := some (.ref 0)) (s1 := some (.ref 1)) (s2 := some (.str x)) (s3 := some (.str y)) (s4 := some (.int o)) (s5 := some (.int t)) (s8 := none)
      exact ⟨_, c, _, c', rfl, ec, ⟨_, rfl⟩, hT.up pc⟩) ⟨⟨none, rfl⟩, T⟩
  obtain ⟨σ', c7, el, ⟨v, rfl⟩, T7⟩ := loop
  have hs : eV 6 [some (.ref 0), some (.ref 1), some (.str x), some (.str y), some (.int o), some (.int t), some (.ref (c5.length + 12)), v, none] c7 = some (.ref (c5.length + 12), c7) := rfl
  have f7 := lst7 (xf_ T7 (k := 0) (by decide) (f := "face") (d := .str x) rfl hs) (xf_ T7 (k := 1) (by decide) (f := "one") (d := .str x) rfl hs) (xf_ T7 (k := 1) (by decide) (f := "other") (d := .str y) rfl hs) (xf_ T7 (k := 3) (by decide) (f := "line") (d := .int t) rfl hs) (xf_ T7 (k := 4) (by decide) (f := "one") (d := .int o) rfl hs) (xf_ T7 (k := 4) (by decide) (f := "other") (d := .int t) rfl hs) (xf_ T7 (k := 5) (by decide) (f := "row") (d := .int t) rfl hs)
  generalize h8 : c7 ++ [Cell.lst [.str x, .str x, .str y, .int t, .int o, .int t, .int t]] = c8 at f7
  have g8 : c8[c7.length]? = some (.lst [.str x, .str x, .str y, .int t, .int o, .int t, .int t]) := by rw [← h8]; simp
  have p8 : c7 <+: c8 := ⟨_, h8⟩
  have T8 := T7.up p8
  have w7 : eLst (aCons (eV 2) (aCons (eV 2) (aCons (eV 3) (aCons (eV 5) (aCons (eV 4) (aCons (eV 5) (aCons (eV 5) aNil))))))) [some (.ref 0), some (.ref 1), some (.str x), some (.str y), some (.int o), some (.int t), some (.ref (c5.length + 12)), v, some (.ref c7.length)] c8 = some (.ref c8.length, c8 ++ [.lst [.str x, .str x, .str y, .int t, .int o, .int t, .int t]]) := lst7 rfl rfl rfl rfl rfl rfl rfl
  generalize h9 : c8 ++ [Cell.lst [.str x, .str x, .str y, .int t, .int o, .int t, .int t]] = c9 at w7
  have g9 : c9[c8.length]? = some (.lst [.str x, .str x, .str y, .int t, .int o, .int t, .int t]) := by rw [← h9]; simp
  have g9' : c9[c7.length]? = some (.lst [.str x, .str x, .str y, .int t, .int o, .int t, .int t]) := by rw [← h9]; exact app_get g8
  have T9 := T8.up (c' := c9) ⟨_, h9⟩
  have n7 := neW7 hx hy g9' g9
  have hs9 : ∀ c : Cells, eV 6 [some (.ref 0), some (.ref 1), some (.str x), some (.str y), some (.int o), some (.int t), some (.ref (c5.length + 12)), v, some (.ref c7.length)] c = some (.ref (c5.length + 12), c) := fun _ => rfl
  have xn := xf_ T9 (k := 9) (by decide) (f := "name") (d := .str y) rfl (hs9 c9)
  have xe := exc_ (C := κ 1) (S := κ 0) (fs := ["face"]) (a := aCons (eV 3) aNil) (σ := [some (.ref 0), some (.ref 1), some (.str x), some (.str y), some (.int o), some (.int t), some (.ref (c5.length + 12)), v, some (.ref c7.length)]) (ds := [.str y]) (fun c => rfl) rfl c9
  generalize hE : c9 ++ [Cell.exc (κ 1) (κ 0) ([("face" : Str)].zip [D.str y])] = cE at xe
  have gE : cE[c9.length]? = some (.exc (κ 1) (κ 0) [("face", .str y)]) := by rw [← hE]; simp
  have T10 := T9.up (c' := cE) ⟨_, hE⟩
  have xf1 : eXf "face" (eExc (κ 1) (κ 0) ["face"] (aCons (eV 3) aNil)) [some (.ref 0), some (.ref 1), some (.str x), some (.str y), some (.int o), some (.int t), some (.ref (c5.length + 12)), v, some (.ref c7.length)] c9 = some (.str y, cE) := by
    unfold eXf
    rw [xe, Option.bind_some]
    unfold xfOf
    dsimp only
    rw [gE]
    rfl
  have xf2 := xf_ T10 (k := 0) (by decide) (f := "face") (d := .str x) rfl (hs9 cE)
  have q1 := (eqS (c := cE) hy).1
  have q2 := (eqS (c := cE) hx).1
  have q3 := (eqS (c := c9) hy).2
  refine ⟨cE, ?_⟩
  have hb : B_law κ [some (.ref 0), none, none, none, none, none, none, none, none] [.ro (ns.map D.int)] = some (.rt (.bl true), [some (.ref 0), some (.ref 1), some (.str x), some (.str y), some (.int o), some (.int t), some (.ref (c5.length + 12)), v, some (.ref c7.length)], cE) := by
    unfold B_law
    refine sSeq_of (σ1 := [some (.ref 0), some (.ref 1), none, none, none, none, none, none, none]) (c1 := c1) ?_ ?_
    · erw [e1]
    refine sSeq_of (σ1 := [some (.ref 0), some (.ref 1), some (.str x), none, none, none, none, none, none]) (c1 := c2) ?_ ?_
    · erw [e2']
    refine sSeq_of (σ1 := [some (.ref 0), some (.ref 1), some (.str x), some (.str y), none, none, none, none, none]) (c1 := c3) ?_ ?_
    · erw [e3]
    refine sSeq_of (σ1 := [some (.ref 0), some (.ref 1), some (.str x), some (.str y), some (.int o), none, none, none, none]) (c1 := c4) ?_ ?_
    · erw [e4]
    refine sSeq_of (σ1 := [some (.ref 0), some (.ref 1), some (.str x), some (.str y), some (.int o), some (.int t), none, none, none]) (c1 := c5) ?_ ?_
    · erw [e5]
    refine sSeq_of (σ1 := [some (.ref 0), some (.ref 1), some (.str x), some (.str y), some (.int o), some (.int t), some (.ref (c5.length + 7)), none, none]) (c1 := cX) ?_ ?_
    · rw [sSet_, m7]; rfl
    refine sSeq_of (σ1 := [some (.ref 0), some (.ref 1), some (.str x), some (.str y), some (.int o), some (.int t), some (.ref (c5.length + 12)), none, none]) (c1 := c6) ?_ ?_
    · rw [sSet_, e2_, eV_]
      dsimp only [List.getElem?_cons_succ, List.getElem?_cons_zero, Option.join_some, Option.bind_some]
      rw [m3, Option.bind_some]
      dsimp only
      rw [cat]; rfl
    refine sSeq_of (σ1 := [some (.ref 0), some (.ref 1), some (.str x), some (.str y), some (.int o), some (.int t), some (.ref (c5.length + 12)), v, none]) (c1 := c7) ?_ ?_
    · unfold sFor
      rw [iRng1' (j := 10) (c' := c6) rfl (by decide), Option.bind_some]
      exact el
    refine sSeq_of (σ1 := [some (.ref 0), some (.ref 1), some (.str x), some (.str y), some (.int o), some (.int t), some (.ref (c5.length + 12)), v, some (.ref c7.length)]) (c1 := c8) ?_ ?_
    · rw [sSet_]
      refine (congrArg (fun z => Option.bind z _) f7).trans ?_
      rfl
    refine sSeq_of (σ1 := [some (.ref 0), some (.ref 1), some (.str x), some (.str y), some (.int o), some (.int t), some (.ref (c5.length + 12)), v, some (.ref c7.length)]) (c1 := c9) ?_ ?_
    · have xn' : eXf "name" (e2 gIx (eV 6) (eC (.int 9))) [some (.ref 0), some (.ref 1), some (.str x), some (.str y), some (.int o), some (.int t), some (.ref (c5.length + 12)), v, some (.ref c7.length)] c9 = some (.str y, c9) := xn
      rw [sIf_, tOr_, tV_, e2_, eV_]
      dsimp only [List.getElem?_cons_succ, List.getElem?_cons_zero, Option.join_some, Option.bind_some]
      rw [w7, Option.bind_some]
      dsimp only
      rw [n7]
      erw [xn', q3]
    have xf2' : eXf "face" (e2 gIx (eV 6) (eC (.int 0))) [some (.ref 0), some (.ref 1), some (.str x), some (.str y), some (.int o), some (.int t), some (.ref (c5.length + 12)), v, some (.ref c7.length)] cE = some (.str x, cE) := xf2
    erw [xf1, q1, xf2', q2]
  rw [F_law, mkF_]
  erw [hb]
end Law
set_option maxHeartbeats 4000000
namespace Law
open PySem L2
def top (i : Nat) : Stmt := PySem.Challenge.pw_sheetlay_k10_refusals_made.main.body.getD i (.Pass ⟨0, 0, 0, 0⟩)
structure Adr where
  c : Nat → Addr
  fi_1 : Addr
  di_1 : FuncData
  fi_2 : Addr
  di_2 : FuncData
  fi_4 : Addr
  di_4 : FuncData
  fi_5 : Addr
  di_5 : FuncData
  fi_6 : Addr
  di_6 : FuncData
  fi_10 : Addr
  di_10 : FuncData
  f_law_pool : Addr
  d_law_pool : FuncData
  f_law_digit : Addr
  d_law_digit : FuncData
  f_law_word : Addr
  d_law_word : FuncData
  f_law_kinds : Addr
  d_law_kinds : FuncData
  f_law : Addr
  d_law : FuncData
structure Txt (K : PySem.W.Frag) (mg : Str → Option Value) (t : Adr) : Prop where
  mc_0 : mg "SheetError" = some (.ref (t.c 0))
  cl_0 : ClsK K (t.c 0)
  mc_1 : mg "BadFace" = some (.ref (t.c 1))
  cl_1 : ClsK K (t.c 1)
  x_1 : xcIn K (t.c 1) (t.c 0) (some t.fi_1) ["face"] = true
  Fi_1 : Fun K "__init__" "BadFace.__init__" (inC (top 2)) t.fi_1 t.di_1
  bi_1 : Binds K t.di_1 ["self", "face"] []
  mc_2 : mg "Twice" = some (.ref (t.c 2))
  cl_2 : ClsK K (t.c 2)
  x_2 : xcIn K (t.c 2) (t.c 0) (some t.fi_2) ["one", "other"] = true
  Fi_2 : Fun K "__init__" "Twice.__init__" (inC (top 3)) t.fi_2 t.di_2
  bi_2 : Binds K t.di_2 ["self", "one", "other"] []
  mc_3 : mg "NoLand" = some (.ref (t.c 3))
  cl_3 : ClsK K (t.c 3)
  x_3 : xcIn K (t.c 3) (t.c 0) none [] = true
  mc_4 : mg "NoText" = some (.ref (t.c 4))
  cl_4 : ClsK K (t.c 4)
  x_4 : xcIn K (t.c 4) (t.c 0) (some t.fi_4) ["line"] = true
  Fi_4 : Fun K "__init__" "NoText.__init__" (inC (top 5)) t.fi_4 t.di_4
  bi_4 : Binds K t.di_4 ["self", "line"] []
  mc_5 : mg "NoPile" = some (.ref (t.c 5))
  cl_5 : ClsK K (t.c 5)
  x_5 : xcIn K (t.c 5) (t.c 0) (some t.fi_5) ["one", "other"] = true
  Fi_5 : Fun K "__init__" "NoPile.__init__" (inC (top 6)) t.fi_5 t.di_5
  bi_5 : Binds K t.di_5 ["self", "one", "other"] []
  mc_6 : mg "NoRule" = some (.ref (t.c 6))
  cl_6 : ClsK K (t.c 6)
  x_6 : xcIn K (t.c 6) (t.c 0) (some t.fi_6) ["row"] = true
  Fi_6 : Fun K "__init__" "NoRule.__init__" (inC (top 7)) t.fi_6 t.di_6
  bi_6 : Binds K t.di_6 ["self", "row"] []
  mc_7 : mg "NoPath" = some (.ref (t.c 7))
  cl_7 : ClsK K (t.c 7)
  x_7 : xcIn K (t.c 7) (t.c 0) none [] = true
  mc_8 : mg "NoJoin" = some (.ref (t.c 8))
  cl_8 : ClsK K (t.c 8)
  x_8 : xcIn K (t.c 8) (t.c 0) none [] = true
  mc_9 : mg "NoRow" = some (.ref (t.c 9))
  cl_9 : ClsK K (t.c 9)
  x_9 : xcIn K (t.c 9) (t.c 0) none [] = true
  mc_10 : mg "NoName" = some (.ref (t.c 10))
  cl_10 : ClsK K (t.c 10)
  x_10 : xcIn K (t.c 10) (t.c 0) (some t.fi_10) ["name"] = true
  Fi_10 : Fun K "__init__" "NoName.__init__" (inC (top 11)) t.fi_10 t.di_10
  bi_10 : Binds K t.di_10 ["self", "name"] []
  F_law_pool : Fun K "_law_pool" "_law_pool" (top 13) t.f_law_pool t.d_law_pool
  m_law_pool : mg "_law_pool" = some (.ref t.f_law_pool)
  b_law_pool : Binds K t.d_law_pool ["_law_script", "_law_k"] []
  F_law_digit : Fun K "_law_digit" "_law_digit" (top 14) t.f_law_digit t.d_law_digit
  m_law_digit : mg "_law_digit" = some (.ref t.f_law_digit)
  b_law_digit : Binds K t.d_law_digit ["_law_pool_here", "_law_many"] []
  F_law_word : Fun K "_law_word" "_law_word" (top 15) t.f_law_word t.d_law_word
  m_law_word : mg "_law_word" = some (.ref t.f_law_word)
  b_law_word : Binds K t.d_law_word ["_law_pool_here"] []
  F_law_kinds : Fun K "_law_kinds" "_law_kinds" (top 16) t.f_law_kinds t.d_law_kinds
  m_law_kinds : mg "_law_kinds" = some (.ref t.f_law_kinds)
  b_law_kinds : Binds K t.d_law_kinds ["_law_e"] []
  F_law : Fun K "law" "law" (top 17) t.f_law t.d_law
  m_law : mg "law" = some (.ref t.f_law)
  b_law : Binds K t.d_law ["_law_script"] []
  z_ValueError : mg "ValueError" = none
  z_abs : mg "abs" = none
  z_int : mg "int" = none
  z_isinstance : mg "isinstance" = none
  z_len : mg "len" = none
  z_range : mg "range" = none
section
open L2.Zu
variable {P : Program} {w : World} {K : PySem.W.Frag} {mg : Str → Option Value} {base : Heap} {t : Adr}
theorem sc_init_1 : FnScope ["self", "face"] ["self", "face"] (defScope (inC (top 2))) := ⟨rfl, rfl, rfl, by decide +kernel, rfl, by decide +kernel, by decide +kernel⟩
theorem ok_init_1 (T : Txt K mg t) : FnOk P w K mg base CX0 1 t.fi_1 t.di_1 ["self", "face"] (spX (t.c 1) ["face"]) := by
  obtain ⟨cd, xc⟩ := xc_of T.x_1
  exact init1 T.Fi_1 sc_init_1 rfl xc ⟨by decide, by decide⟩ ⟨by decide, by decide⟩
theorem sc_init_2 : FnScope ["self", "one", "other"] ["self", "one", "other"] (defScope (inC (top 3))) := ⟨rfl, rfl, rfl, by decide +kernel, rfl, by decide +kernel, by decide +kernel⟩
theorem ok_init_2 (T : Txt K mg t) : FnOk P w K mg base CX0 1 t.fi_2 t.di_2 ["self", "one", "other"] (spX (t.c 2) ["one", "other"]) := by
  obtain ⟨cd, xc⟩ := xc_of T.x_2
  exact init2 T.Fi_2 sc_init_2 rfl xc ⟨by decide, by decide⟩ ⟨by decide, by decide⟩ ⟨by decide, by decide⟩ (by decide)
theorem sc_init_4 : FnScope ["self", "line"] ["self", "line"] (defScope (inC (top 5))) := ⟨rfl, rfl, rfl, by decide +kernel, rfl, by decide +kernel, by decide +kernel⟩
theorem ok_init_4 (T : Txt K mg t) : FnOk P w K mg base CX0 1 t.fi_4 t.di_4 ["self", "line"] (spX (t.c 4) ["line"]) := by
  obtain ⟨cd, xc⟩ := xc_of T.x_4
  exact init1 T.Fi_4 sc_init_4 rfl xc ⟨by decide, by decide⟩ ⟨by decide, by decide⟩
theorem sc_init_5 : FnScope ["self", "one", "other"] ["self", "one", "other"] (defScope (inC (top 6))) := ⟨rfl, rfl, rfl, by decide +kernel, rfl, by decide +kernel, by decide +kernel⟩
theorem ok_init_5 (T : Txt K mg t) : FnOk P w K mg base CX0 1 t.fi_5 t.di_5 ["self", "one", "other"] (spX (t.c 5) ["one", "other"]) := by
  obtain ⟨cd, xc⟩ := xc_of T.x_5
  exact init2 T.Fi_5 sc_init_5 rfl xc ⟨by decide, by decide⟩ ⟨by decide, by decide⟩ ⟨by decide, by decide⟩ (by decide)
theorem sc_init_6 : FnScope ["self", "row"] ["self", "row"] (defScope (inC (top 7))) := ⟨rfl, rfl, rfl, by decide +kernel, rfl, by decide +kernel, by decide +kernel⟩
theorem ok_init_6 (T : Txt K mg t) : FnOk P w K mg base CX0 1 t.fi_6 t.di_6 ["self", "row"] (spX (t.c 6) ["row"]) := by
  obtain ⟨cd, xc⟩ := xc_of T.x_6
  exact init1 T.Fi_6 sc_init_6 rfl xc ⟨by decide, by decide⟩ ⟨by decide, by decide⟩
theorem sc_init_10 : FnScope ["self", "name"] ["self", "name"] (defScope (inC (top 11))) := ⟨rfl, rfl, rfl, by decide +kernel, rfl, by decide +kernel, by decide +kernel⟩
theorem ok_init_10 (T : Txt K mg t) : FnOk P w K mg base CX0 1 t.fi_10 t.di_10 ["self", "name"] (spX (t.c 10) ["name"]) := by
  obtain ⟨cd, xc⟩ := xc_of T.x_10
  exact init1 T.Fi_10 sc_init_10 rfl xc ⟨by decide, by decide⟩ ⟨by decide, by decide⟩
theorem sc_law_pool : FnScope ["_law_script", "_law_k", "_law_cell", "_law_mixed", "_law_total", "_law_j", "_law_more", "_law_own"] ["_law_script", "_law_k"] (defScope (top 13)) := ⟨rfl, rfl, rfl, by decide +kernel, rfl, by decide +kernel, by decide +kernel⟩
theorem ok_law_pool (T : Txt K mg t) : FnOk P w K mg base CX0 1 t.f_law_pool t.d_law_pool ["_law_script", "_law_k"] (spD K F_law_pool) := by
  refine T.F_law_pool.okQ (n := 2) (m := 8) (B := B_law_pool) sc_law_pool rfl rfl (by decide) rfl fun cdv A outer s H E hr => ?_
  unfold B_law_pool
  exact (qss_cons (qs_set (i := 2) sc_law_pool.nd rfl (Or.inl rfl) qe_int)
      (qss_cons (qs_if (qt_cmp op_lt lk_lt (qe_var 1 (pv 1)) (qe_callB call_len_seq lk_len (by rfl) T.z_len bt_len (qa_cons (qe_var 0 (pv 0)) qa_nil)) (nomark _)) (qss_one (qs_set (i := 2) sc_law_pool.nd rfl (Or.inl rfl) (qe_item (qe_var 0 (pv 0)) (qe_var 1 (pv 1)) (fun _ _ => rfl)))) qss_nil)
      (qss_cons (qs_set (i := 3) sc_law_pool.nd rfl (Or.inl rfl) (qe_op op_addQ lk_add (qe_op op_addQ lk_add (qe_op op_modN lk_mod (qe_callB call_abs lk_abs (by rfl) T.z_abs bt_abs (qa_cons (qe_var 2 (pv 2)) qa_nil)) qe_int) (qe_op op_mulB lk_mul qe_int (qe_var 1 (pv 1)))) qe_int))
      (qss_cons (qs_set (i := 4) sc_law_pool.nd rfl (Or.inl rfl) qe_int)
      (qss_cons (qs_for PassesOwn.never rfl (qi_range1 (by rfl) T.z_range (qa_cons qe_int qa_nil)) (qg_name (i := 5) sc_law_pool.nd rfl (Or.inl rfl)) (qss_cons (qs_set (i := 3) sc_law_pool.nd rfl (Or.inl rfl) (qe_op op_addQ lk_add (qe_op op_mulB lk_mul (qe_var 3 (pv 3)) qe_int) (qe_op op_mulB lk_mul qe_int (qe_op op_addQ lk_add (qe_op op_addQ lk_add (qe_var 1 (pv 1)) (qe_var 5 (pv 5))) qe_int))))
      (qss_cons (qs_set (i := 3) sc_law_pool.nd rfl (Or.inl rfl) (qe_op op_modN lk_mod (qe_var 3 (pv 3)) qe_int))
      (qss_cons (qs_set (i := 6) sc_law_pool.nd rfl (Or.inl rfl) (qe_op op_mulB lk_mul (qe_op op_fdivB lk_fdiv (qe_var 3 (pv 3)) qe_int) (qe_op op_addQ lk_add (qe_op op_addQ lk_add (qe_op op_modN lk_mod (qe_var 3 (pv 3)) qe_int) (qe_op op_mulB lk_mul qe_int (qe_var 5 (pv 5)))) qe_int)))
      (qss_one (qs_set (i := 4) sc_law_pool.nd rfl (Or.inl rfl) (qe_op op_addQ lk_add (qe_op op_mulB lk_mul (qe_var 4 (pv 4)) qe_int) (qe_op op_modN lk_mod (qe_var 6 (pv 6)) qe_int))))))))
      (qss_cons (qs_set (i := 7) sc_law_pool.nd rfl (Or.inl rfl) (qe_op op_mulB lk_mul (qe_callB call_abs lk_abs (by rfl) T.z_abs bt_abs (qa_cons (qe_var 2 (pv 2)) qa_nil)) (qe_callTy call_int1 lk_intB (by rfl) T.z_int bt_int (qa_cons (qe_and (qe_cmp op_gt lk_gt (qe_callB call_len_seq lk_len (by rfl) T.z_len bt_len (qa_cons (qe_var 0 (pv 0)) qa_nil)) qe_int (nomark _)) (qe_one (qe_cmp (op_eqQ hr.units) lk_eq (qe_op op_modN lk_mod (qe_item (qe_var 0 (pv 0)) qe_int (fun _ _ => rfl)) qe_int) qe_int (nomark _)))) qa_nil))))
      (qss_one (qs_ret (qe_lst (qa_cons (qe_var 7 (pv 7)) (qa_cons (qe_var 4 (pv 4)) qa_nil)))))))))))
theorem sc_law_digit : FnScope ["_law_pool_here", "_law_many", "_law_at", "_law_digit_here"] ["_law_pool_here", "_law_many"] (defScope (top 14)) := ⟨rfl, rfl, rfl, by decide +kernel, rfl, by decide +kernel, by decide +kernel⟩
theorem ok_law_digit (T : Txt K mg t) : FnOk P w K mg base CX0 1 t.f_law_digit t.d_law_digit ["_law_pool_here", "_law_many"] (spD K F_law_digit) := by
  refine T.F_law_digit.okQ (n := 2) (m := 4) (B := B_law_digit) sc_law_digit rfl rfl (by decide) rfl fun cdv A outer s H E hr => ?_
  unfold B_law_digit
  exact (qss_cons (qs_set (i := 2) sc_law_digit.nd rfl (Or.inl rfl) (qe_callTy call_int1 lk_intB (by rfl) T.z_int bt_int (qa_cons (qe_cmp (op_eqQ hr.units) lk_eq (qe_item (qe_var 0 (pv 0)) qe_int (fun _ _ => rfl)) qe_int (nomark _)) qa_nil)))
      (qss_cons (qs_set (i := 3) sc_law_digit.nd rfl (Or.inl rfl) (qe_op op_modN lk_mod (qe_item (qe_var 0 (pv 0)) (qe_var 2 (pv 2)) (fun _ _ => rfl)) (qe_var 1 (pv 1))))
      (qss_cons (qs_asg (qe_op op_fdivB lk_fdiv (qe_item (qe_var 0 (pv 0)) (qe_var 2 (pv 2)) (fun _ _ => rfl)) (qe_var 1 (pv 1))) (qg_put (qe_var 0 (pv 0)) (qe_var 2 (pv 2))))
      (qss_one (qs_ret (qe_var 3 (pv 3)))))))
theorem sc_law_word : FnScope ["_law_pool_here"] ["_law_pool_here"] (defScope (top 15)) := ⟨rfl, rfl, rfl, by decide +kernel, rfl, by decide +kernel, by decide +kernel⟩
theorem ok_law_word (T : Txt K mg t) : FnOk P w K mg base CX0 2 t.f_law_word t.d_law_word ["_law_pool_here"] (spD K F_law_word) := by
  refine T.F_law_word.okQ (n := 1) (m := 1) (B := B_law_word) sc_law_word rfl rfl (by decide) rfl fun cdv A outer s H E hr => ?_
  unfold B_law_word
  exact (qss_one (qs_ret (qe_join (qe_comp (N' := ["_law_k", "_law_pool_here"]) (cap := [none, some 0]) (blk_mk (sc := defScope (top 15)) (NN := ["_law_pool_here"]) rfl rfl rfl (by decide +kernel) (by decide +kernel) (by decide +kernel) (by decide +kernel)) rfl (qi_range1 (by rfl) T.z_range (qa_cons (qe_op op_addQ lk_add qe_int (qe_call [] (ok_law_digit T) (hr.mono (by decide)) (by rfl) T.m_law_digit T.F_law_digit.kp T.b_law_digit .nil (fun _ _ _ => .nil) (qa_cons (qe_var 0 (pv 0)) (qa_cons qe_int qa_nil)))) qa_nil)) (fun _ _ _ _ => (qg_name (i := 0) (show List.Nodup (["_law_k", "_law_pool_here"] : List Str) by decide +kernel) rfl (Or.inl rfl))) (fun _ _ _ _ => qifs_none) (fun _ _ _ _ => (qe_itemS qe_str (qe_call [] (ok_law_digit T) (hr.mono (by decide)) (by rfl) T.m_law_digit T.F_law_digit.kp T.b_law_digit .nil (fun _ _ _ => .nil) (qa_cons (qe_var 1 (pv 1)) (qa_cons qe_int qa_nil))) (fun _ _ => rfl)))))))
theorem sc_law_kinds : FnScope ["_law_e", "_law_hit"] ["_law_e"] (defScope (top 16)) := ⟨rfl, rfl, rfl, by decide +kernel, rfl, by decide +kernel, by decide +kernel⟩
theorem ok_law_kinds (T : Txt K mg t) : FnOk P w K mg base CX0 1 t.f_law_kinds t.d_law_kinds ["_law_e"] (spD K (F_law_kinds t.c)) := by
  refine T.F_law_kinds.okQ (n := 1) (m := 2) (B := (B_law_kinds t.c)) sc_law_kinds rfl rfl (by decide) rfl fun cdv A outer s H E hr => ?_
  unfold B_law_kinds
  exact (qss_cons (qs_set (i := 1) sc_law_kinds.nd rfl (Or.inr rfl) (qe_lst (qa_cons (qe_callB (call_isE T.cl_1) lk_isE (by rfl) T.z_isinstance bt_isinstance (qa_cons (qe_var 0 (pv 0)) (qa_cons (qe_fnX (by rfl) T.mc_1) qa_nil))) (qa_cons (qe_callB (call_isE T.cl_2) lk_isE (by rfl) T.z_isinstance bt_isinstance (qa_cons (qe_var 0 (pv 0)) (qa_cons (qe_fnX (by rfl) T.mc_2) qa_nil))) (qa_cons (qe_callB (call_isE T.cl_3) lk_isE (by rfl) T.z_isinstance bt_isinstance (qa_cons (qe_var 0 (pv 0)) (qa_cons (qe_fnX (by rfl) T.mc_3) qa_nil))) (qa_cons (qe_callB (call_isE T.cl_4) lk_isE (by rfl) T.z_isinstance bt_isinstance (qa_cons (qe_var 0 (pv 0)) (qa_cons (qe_fnX (by rfl) T.mc_4) qa_nil))) qa_nil))))))
      (qss_cons (qs_set (i := 1) sc_law_kinds.nd rfl (Or.inr rfl) (qe_op op_addQ lk_add (qe_var 1 (pv 1)) (qe_lst (qa_cons (qe_callB (call_isE T.cl_5) lk_isE (by rfl) T.z_isinstance bt_isinstance (qa_cons (qe_var 0 (pv 0)) (qa_cons (qe_fnX (by rfl) T.mc_5) qa_nil))) (qa_cons (qe_callB (call_isE T.cl_6) lk_isE (by rfl) T.z_isinstance bt_isinstance (qa_cons (qe_var 0 (pv 0)) (qa_cons (qe_fnX (by rfl) T.mc_6) qa_nil))) (qa_cons (qe_callB (call_isE T.cl_7) lk_isE (by rfl) T.z_isinstance bt_isinstance (qa_cons (qe_var 0 (pv 0)) (qa_cons (qe_fnX (by rfl) T.mc_7) qa_nil))) (qa_cons (qe_callB (call_isE T.cl_8) lk_isE (by rfl) T.z_isinstance bt_isinstance (qa_cons (qe_var 0 (pv 0)) (qa_cons (qe_fnX (by rfl) T.mc_8) qa_nil))) qa_nil)))))))
      (qss_cons (qs_set (i := 1) sc_law_kinds.nd rfl (Or.inr rfl) (qe_op op_addQ lk_add (qe_var 1 (pv 1)) (qe_lst (qa_cons (qe_callB (call_isE T.cl_9) lk_isE (by rfl) T.z_isinstance bt_isinstance (qa_cons (qe_var 0 (pv 0)) (qa_cons (qe_fnX (by rfl) T.mc_9) qa_nil))) (qa_cons (qe_callB (call_isE T.cl_10) lk_isE (by rfl) T.z_isinstance bt_isinstance (qa_cons (qe_var 0 (pv 0)) (qa_cons (qe_fnX (by rfl) T.mc_10) qa_nil))) qa_nil)))))
      (qss_one (qs_ret (qe_comp (N' := ["_law_k", "_law_hit"]) (cap := [none, some 1]) (blk_mk (sc := defScope (top 16)) (NN := ["_law_e", "_law_hit"]) rfl rfl rfl (by decide +kernel) (by decide +kernel) (by decide +kernel) (by decide +kernel)) rfl (qi_range1 (by rfl) T.z_range (qa_cons qe_int qa_nil)) (fun _ _ _ _ => (qg_name (i := 0) (show List.Nodup (["_law_k", "_law_hit"] : List Str) by decide +kernel) rfl (Or.inl rfl))) (fun _ _ _ _ => (qifs_one (qt_val (qe_item (qe_var 1 (pv 1)) (qe_var 0 (pv 0)) (fun _ _ => rfl))))) (fun _ _ _ _ => (qe_var 0 (pv 0)))))))))
theorem sc_law : FnScope ["_law_script", "_law_pool_here", "_law_word_here", "_law_more", "_law_one", "_law_other", "_law_made", "_law_k", "_law_fields"] ["_law_script"] (defScope (top 17)) := ⟨rfl, rfl, rfl, by decide +kernel, rfl, by decide +kernel, by decide +kernel⟩
theorem ok_law (T : Txt K mg t) : FnOk P w K mg base CX0 3 t.f_law t.d_law ["_law_script"] (spD K (F_law t.c)) := by
  refine T.F_law.okQ (n := 1) (m := 9) (B := (B_law t.c)) sc_law rfl rfl (by decide) rfl fun cdv A outer s H E hr => ?_
  unfold B_law
  exact (qss_cons (qs_set (i := 1) sc_law.nd rfl (Or.inl rfl) (qe_call [] (ok_law_pool T) (hr.mono (by decide)) (by rfl) T.m_law_pool T.F_law_pool.kp T.b_law_pool .nil (fun _ _ _ => .nil) (qa_cons (qe_var 0 (pv 0)) (qa_cons qe_int qa_nil))))
      (qss_cons (qs_set (i := 2) sc_law.nd rfl (Or.inl rfl) (qe_call [] (ok_law_word T) (hr.mono (by decide)) (by rfl) T.m_law_word T.F_law_word.kp T.b_law_word .nil (fun _ _ _ => .nil) (qa_cons (qe_var 1 (pv 1)) qa_nil)))
      (qss_cons (qs_set (i := 3) sc_law.nd rfl (Or.inl rfl) (qe_call [] (ok_law_word T) (hr.mono (by decide)) (by rfl) T.m_law_word T.F_law_word.kp T.b_law_word .nil (fun _ _ _ => .nil) (qa_cons (qe_var 1 (pv 1)) qa_nil)))
      (qss_cons (qs_set (i := 4) sc_law.nd rfl (Or.inl rfl) (qe_call [] (ok_law_digit T) (hr.mono (by decide)) (by rfl) T.m_law_digit T.F_law_digit.kp T.b_law_digit .nil (fun _ _ _ => .nil) (qa_cons (qe_var 1 (pv 1)) (qa_cons qe_int qa_nil))))
      (qss_cons (qs_set (i := 5) sc_law.nd rfl (Or.inl rfl) (qe_call [] (ok_law_digit T) (hr.mono (by decide)) (by rfl) T.m_law_digit T.F_law_digit.kp T.b_law_digit .nil (fun _ _ _ => .nil) (qa_cons (qe_var 1 (pv 1)) (qa_cons qe_int qa_nil))))
      (qss_cons (qs_set (i := 6) sc_law.nd rfl (Or.inl rfl) (qe_lst (qa_cons (qe_excI T.x_1 (ok_init_1 T) (hr.mono (by decide)) T.bi_1 (by decide) (by rfl) T.mc_1 (qa_cons (qe_var 2 (pv 2)) qa_nil)) (qa_cons (qe_excI T.x_2 (ok_init_2 T) (hr.mono (by decide)) T.bi_2 (by decide) (by rfl) T.mc_2 (qa_cons (qe_var 2 (pv 2)) (qa_cons (qe_var 3 (pv 3)) qa_nil))) (qa_cons (qe_excI0 T.x_3 (by rfl) T.mc_3) (qa_cons (qe_excI T.x_4 (ok_init_4 T) (hr.mono (by decide)) T.bi_4 (by decide) (by rfl) T.mc_4 (qa_cons (qe_var 5 (pv 5)) qa_nil)) (qa_cons (qe_excI T.x_5 (ok_init_5 T) (hr.mono (by decide)) T.bi_5 (by decide) (by rfl) T.mc_5 (qa_cons (qe_var 4 (pv 4)) (qa_cons (qe_var 5 (pv 5)) qa_nil))) (qa_cons (qe_excI T.x_6 (ok_init_6 T) (hr.mono (by decide)) T.bi_6 (by decide) (by rfl) T.mc_6 (qa_cons (qe_var 5 (pv 5)) qa_nil)) (qa_cons (qe_excI0 T.x_7 (by rfl) T.mc_7) qa_nil)))))))))
      (qss_cons (qs_set (i := 6) sc_law.nd rfl (Or.inl rfl) (qe_op op_addQ lk_add (qe_var 6 (pv 6)) (qe_lst (qa_cons (qe_excI0 T.x_8 (by rfl) T.mc_8) (qa_cons (qe_excI0 T.x_9 (by rfl) T.mc_9) (qa_cons (qe_excI T.x_10 (ok_init_10 T) (hr.mono (by decide)) T.bi_10 (by decide) (by rfl) T.mc_10 (qa_cons (qe_var 3 (pv 3)) qa_nil)) qa_nil))))))
      (qss_cons (qs_for PassesOwn.never rfl (qi_range1 (by rfl) T.z_range (qa_cons qe_int qa_nil)) (qg_name (i := 7) sc_law.nd rfl (Or.inl rfl)) (qss_cons (qs_if (qt_cmp (op_neQ hr.units) lk_neW (qe_call [] (ok_law_kinds T) (hr.mono (by decide)) (by rfl) T.m_law_kinds T.F_law_kinds.kp T.b_law_kinds .nil (fun _ _ _ => .nil) (qa_cons (qe_item (qe_var 6 (pv 6)) (qe_var 7 (pv 7)) (fun _ _ => rfl)) qa_nil)) (qe_lst (qa_cons (qe_var 7 (pv 7)) qa_nil)) (nomark _)) (qss_one (qs_ret qe_bl)) qss_nil)
      (qss_one (qs_if (PW.pt (qw_or (qt_not (qt_val (qe_callB (call_isE T.cl_0) lk_isE (by rfl) T.z_isinstance bt_isinstance (qa_cons (qe_item (qe_var 6 (pv 6)) (qe_var 7 (pv 7)) (fun _ _ => rfl)) (qa_cons (qe_fnX (by rfl) T.mc_0) qa_nil))))) (qw_or1 (qt_not (qt_val (qe_callB call_isV lk_isV (by rfl) T.z_isinstance bt_isinstance (qa_cons (qe_item (qe_var 6 (pv 6)) (qe_var 7 (pv 7)) (fun _ _ => rfl)) (qa_cons (qe_c (.ty "ValueError") (pe_bltn (v := .ty "ValueError") (by rfl) T.z_ValueError bt_ValueError rfl) fun _ _ _ => .ty "ValueError") qa_nil)))))))) (qss_one (qs_ret qe_bl)) qss_nil))))
      (qss_cons (qs_set (i := 8) sc_law.nd rfl (Or.inl rfl) (qe_lst (qa_cons (qe_xf (qe_item (qe_var 6 (pv 6)) qe_int (fun _ _ => rfl))) (qa_cons (qe_xf (qe_item (qe_var 6 (pv 6)) qe_int (fun _ _ => rfl))) (qa_cons (qe_xf (qe_item (qe_var 6 (pv 6)) qe_int (fun _ _ => rfl))) (qa_cons (qe_xf (qe_item (qe_var 6 (pv 6)) qe_int (fun _ _ => rfl))) (qa_cons (qe_xf (qe_item (qe_var 6 (pv 6)) qe_int (fun _ _ => rfl))) (qa_cons (qe_xf (qe_item (qe_var 6 (pv 6)) qe_int (fun _ _ => rfl))) (qa_cons (qe_xf (qe_item (qe_var 6 (pv 6)) qe_int (fun _ _ => rfl))) qa_nil)))))))))
      (qss_cons (qs_if (PW.pt (qw_or (qt_cmp (op_neQ hr.units) lk_neW (qe_var 8 (pv 8)) (qe_lst (qa_cons (qe_var 2 (pv 2)) (qa_cons (qe_var 2 (pv 2)) (qa_cons (qe_var 3 (pv 3)) (qa_cons (qe_var 5 (pv 5)) (qa_cons (qe_var 4 (pv 4)) (qa_cons (qe_var 5 (pv 5)) (qa_cons (qe_var 5 (pv 5)) qa_nil)))))))) (nomark _)) (qw_or1 (qt_cmp (op_neQ hr.units) lk_ne (qe_xf (qe_item (qe_var 6 (pv 6)) qe_int (fun _ _ => rfl))) (qe_var 3 (pv 3)) (nomark _))))) (qss_one (qs_ret qe_bl)) qss_nil)
      (qss_one (qs_ret (qe_and (qe_cmp (op_eqQ hr.units) lk_eq (qe_xf (qe_excI T.x_1 (ok_init_1 T) (hr.mono (by decide)) T.bi_1 (by decide) (by rfl) T.mc_1 (qa_cons (qe_var 3 (pv 3)) qa_nil))) (qe_var 3 (pv 3)) (nomark _)) (qe_one (qe_cmp (op_eqQ hr.units) lk_eq (qe_xf (qe_item (qe_var 6 (pv 6)) qe_int (fun _ _ => rfl))) (qe_var 2 (pv 2)) (nomark _))))))))))))))))
end
theorem txt_mk {K : PySem.W.Frag} {h : Heap} {mg : Str → Option Value} (X : K.In h) (G : h.Ns mainGlobals mg)
    {kq0 kq1 kq2 kq3 kq4 kq5 kq6 kq7 kq8 kq9 kq10 : Addr}
    {g1 : Addr} {god1 gan1 : Option Addr} {gsl1 : Array (Option Value)} {goc1 gkV1 gdc1 gpm1 gcd1 gct1 : Value}
    {g2 : Addr} {god2 gan2 : Option Addr} {gsl2 : Array (Option Value)} {goc2 gkV2 gdc2 gpm2 gcd2 gct2 : Value}
    {g4 : Addr} {god4 gan4 : Option Addr} {gsl4 : Array (Option Value)} {goc4 gkV4 gdc4 gpm4 gcd4 gct4 : Value}
    {g5 : Addr} {god5 gan5 : Option Addr} {gsl5 : Array (Option Value)} {goc5 gkV5 gdc5 gpm5 gcd5 gct5 : Value}
    {g6 : Addr} {god6 gan6 : Option Addr} {gsl6 : Array (Option Value)} {goc6 gkV6 gdc6 gpm6 gcd6 gct6 : Value}
    {g10 : Addr} {god10 gan10 : Option Addr} {gsl10 : Array (Option Value)} {goc10 gkV10 gdc10 gpm10 gcd10 gct10 : Value}
    {f0 : Addr} {od0 an0 : Option Addr} {sl0 : Array (Option Value)} {oc0 kV0 dc0 pm0 cd0 ct0 : Value}
    {f1 : Addr} {od1 an1 : Option Addr} {sl1 : Array (Option Value)} {oc1 kV1 dc1 pm1 cd1 ct1 : Value}
    {f2 : Addr} {od2 an2 : Option Addr} {sl2 : Array (Option Value)} {oc2 kV2 dc2 pm2 cd2 ct2 : Value}
    {f3 : Addr} {od3 an3 : Option Addr} {sl3 : Array (Option Value)} {oc3 kV3 dc3 pm3 cd3 ct3 : Value}
    {f4 : Addr} {od4 an4 : Option Addr} {sl4 : Array (Option Value)} {oc4 kV4 dc4 pm4 cd4 ct4 : Value}
    (a0 : PySem.W.nsIn K mainGlobals "_law_pool" = some (some (.ref f0)))
    (l0 : K.lookup f0 = some ⟨oc0, od0, .func (PySem.W.fnOf "_law_pool" "_law_pool" (defArgs (top 13)) (defBody (top 13)) (defScope (top 13)) .none kV0 dc0 pm0 an0 cd0 ct0), sl0⟩)
    (c0 : PySem.W.codeIn K cd0 "_law_pool" = true) (k0 : PySem.W.keepIn K (.ref f0) = true)
    (a1 : PySem.W.nsIn K mainGlobals "_law_digit" = some (some (.ref f1)))
    (l1 : K.lookup f1 = some ⟨oc1, od1, .func (PySem.W.fnOf "_law_digit" "_law_digit" (defArgs (top 14)) (defBody (top 14)) (defScope (top 14)) .none kV1 dc1 pm1 an1 cd1 ct1), sl1⟩)
    (c1 : PySem.W.codeIn K cd1 "_law_digit" = true) (k1 : PySem.W.keepIn K (.ref f1) = true)
    (a2 : PySem.W.nsIn K mainGlobals "_law_word" = some (some (.ref f2)))
    (l2 : K.lookup f2 = some ⟨oc2, od2, .func (PySem.W.fnOf "_law_word" "_law_word" (defArgs (top 15)) (defBody (top 15)) (defScope (top 15)) .none kV2 dc2 pm2 an2 cd2 ct2), sl2⟩)
    (c2 : PySem.W.codeIn K cd2 "_law_word" = true) (k2 : PySem.W.keepIn K (.ref f2) = true)
    (a3 : PySem.W.nsIn K mainGlobals "_law_kinds" = some (some (.ref f3)))
    (l3 : K.lookup f3 = some ⟨oc3, od3, .func (PySem.W.fnOf "_law_kinds" "_law_kinds" (defArgs (top 16)) (defBody (top 16)) (defScope (top 16)) .none kV3 dc3 pm3 an3 cd3 ct3), sl3⟩)
    (c3 : PySem.W.codeIn K cd3 "_law_kinds" = true) (k3 : PySem.W.keepIn K (.ref f3) = true)
    (a4 : PySem.W.nsIn K mainGlobals "law" = some (some (.ref f4)))
    (l4 : K.lookup f4 = some ⟨oc4, od4, .func (PySem.W.fnOf "law" "law" (defArgs (top 17)) (defBody (top 17)) (defScope (top 17)) .none kV4 dc4 pm4 an4 cd4 ct4), sl4⟩)
    (c4 : PySem.W.codeIn K cd4 "law" = true) (k4 : PySem.W.keepIn K (.ref f4) = true)
    (z_ValueError : PySem.W.nsIn K mainGlobals "ValueError" = some none)
    (z_abs : PySem.W.nsIn K mainGlobals "abs" = some none)
    (z_int : PySem.W.nsIn K mainGlobals "int" = some none)
    (z_isinstance : PySem.W.nsIn K mainGlobals "isinstance" = some none)
    (z_len : PySem.W.nsIn K mainGlobals "len" = some none)
    (z_range : PySem.W.nsIn K mainGlobals "range" = some none)
    (kn0 : PySem.W.nsIn K mainGlobals "SheetError" = some (some (.ref kq0)))
    (kt0 : PySem.W.typeIn K (.ref kq0) = some (.type "type")) (kc0 : (PySem.W.clsIn K kq0).isSome = true)
    (kn1 : PySem.W.nsIn K mainGlobals "BadFace" = some (some (.ref kq1)))
    (kt1 : PySem.W.typeIn K (.ref kq1) = some (.type "type")) (kc1 : (PySem.W.clsIn K kq1).isSome = true)
    (gi1 : PySem.W.findIn K (.ref kq1) "__init__" = some (some (.ref g1)))
    (gl1 : K.lookup g1 = some ⟨goc1, god1, .func (PySem.W.fnOf "__init__" "BadFace.__init__" (defArgs (inC (top 2))) (defBody (inC (top 2))) (defScope (inC (top 2))) .none gkV1 gdc1 gpm1 gan1 gcd1 gct1), gsl1⟩)
    (gc1 : PySem.W.codeIn K gcd1 "BadFace.__init__" = true) (gk1 : PySem.W.keepIn K (.ref g1) = true) (gx1 : xcIn K kq1 kq0 (some g1) ["face"] = true)
    (kn2 : PySem.W.nsIn K mainGlobals "Twice" = some (some (.ref kq2)))
    (kt2 : PySem.W.typeIn K (.ref kq2) = some (.type "type")) (kc2 : (PySem.W.clsIn K kq2).isSome = true)
    (gi2 : PySem.W.findIn K (.ref kq2) "__init__" = some (some (.ref g2)))
    (gl2 : K.lookup g2 = some ⟨goc2, god2, .func (PySem.W.fnOf "__init__" "Twice.__init__" (defArgs (inC (top 3))) (defBody (inC (top 3))) (defScope (inC (top 3))) .none gkV2 gdc2 gpm2 gan2 gcd2 gct2), gsl2⟩)
    (gc2 : PySem.W.codeIn K gcd2 "Twice.__init__" = true) (gk2 : PySem.W.keepIn K (.ref g2) = true) (gx2 : xcIn K kq2 kq0 (some g2) ["one", "other"] = true)
    (kn3 : PySem.W.nsIn K mainGlobals "NoLand" = some (some (.ref kq3)))
    (kt3 : PySem.W.typeIn K (.ref kq3) = some (.type "type")) (kc3 : (PySem.W.clsIn K kq3).isSome = true)
    (gx3 : xcIn K kq3 kq0 none [] = true)
    (kn4 : PySem.W.nsIn K mainGlobals "NoText" = some (some (.ref kq4)))
    (kt4 : PySem.W.typeIn K (.ref kq4) = some (.type "type")) (kc4 : (PySem.W.clsIn K kq4).isSome = true)
    (gi4 : PySem.W.findIn K (.ref kq4) "__init__" = some (some (.ref g4)))
    (gl4 : K.lookup g4 = some ⟨goc4, god4, .func (PySem.W.fnOf "__init__" "NoText.__init__" (defArgs (inC (top 5))) (defBody (inC (top 5))) (defScope (inC (top 5))) .none gkV4 gdc4 gpm4 gan4 gcd4 gct4), gsl4⟩)
    (gc4 : PySem.W.codeIn K gcd4 "NoText.__init__" = true) (gk4 : PySem.W.keepIn K (.ref g4) = true) (gx4 : xcIn K kq4 kq0 (some g4) ["line"] = true)
    (kn5 : PySem.W.nsIn K mainGlobals "NoPile" = some (some (.ref kq5)))
    (kt5 : PySem.W.typeIn K (.ref kq5) = some (.type "type")) (kc5 : (PySem.W.clsIn K kq5).isSome = true)
    (gi5 : PySem.W.findIn K (.ref kq5) "__init__" = some (some (.ref g5)))
    (gl5 : K.lookup g5 = some ⟨goc5, god5, .func (PySem.W.fnOf "__init__" "NoPile.__init__" (defArgs (inC (top 6))) (defBody (inC (top 6))) (defScope (inC (top 6))) .none gkV5 gdc5 gpm5 gan5 gcd5 gct5), gsl5⟩)
    (gc5 : PySem.W.codeIn K gcd5 "NoPile.__init__" = true) (gk5 : PySem.W.keepIn K (.ref g5) = true) (gx5 : xcIn K kq5 kq0 (some g5) ["one", "other"] = true)
    (kn6 : PySem.W.nsIn K mainGlobals "NoRule" = some (some (.ref kq6)))
    (kt6 : PySem.W.typeIn K (.ref kq6) = some (.type "type")) (kc6 : (PySem.W.clsIn K kq6).isSome = true)
    (gi6 : PySem.W.findIn K (.ref kq6) "__init__" = some (some (.ref g6)))
    (gl6 : K.lookup g6 = some ⟨goc6, god6, .func (PySem.W.fnOf "__init__" "NoRule.__init__" (defArgs (inC (top 7))) (defBody (inC (top 7))) (defScope (inC (top 7))) .none gkV6 gdc6 gpm6 gan6 gcd6 gct6), gsl6⟩)
    (gc6 : PySem.W.codeIn K gcd6 "NoRule.__init__" = true) (gk6 : PySem.W.keepIn K (.ref g6) = true) (gx6 : xcIn K kq6 kq0 (some g6) ["row"] = true)
    (kn7 : PySem.W.nsIn K mainGlobals "NoPath" = some (some (.ref kq7)))
    (kt7 : PySem.W.typeIn K (.ref kq7) = some (.type "type")) (kc7 : (PySem.W.clsIn K kq7).isSome = true)
    (gx7 : xcIn K kq7 kq0 none [] = true)
    (kn8 : PySem.W.nsIn K mainGlobals "NoJoin" = some (some (.ref kq8)))
    (kt8 : PySem.W.typeIn K (.ref kq8) = some (.type "type")) (kc8 : (PySem.W.clsIn K kq8).isSome = true)
    (gx8 : xcIn K kq8 kq0 none [] = true)
    (kn9 : PySem.W.nsIn K mainGlobals "NoRow" = some (some (.ref kq9)))
    (kt9 : PySem.W.typeIn K (.ref kq9) = some (.type "type")) (kc9 : (PySem.W.clsIn K kq9).isSome = true)
    (gx9 : xcIn K kq9 kq0 none [] = true)
    (kn10 : PySem.W.nsIn K mainGlobals "NoName" = some (some (.ref kq10)))
    (kt10 : PySem.W.typeIn K (.ref kq10) = some (.type "type")) (kc10 : (PySem.W.clsIn K kq10).isSome = true)
    (gi10 : PySem.W.findIn K (.ref kq10) "__init__" = some (some (.ref g10)))
    (gl10 : K.lookup g10 = some ⟨goc10, god10, .func (PySem.W.fnOf "__init__" "NoName.__init__" (defArgs (inC (top 11))) (defBody (inC (top 11))) (defScope (inC (top 11))) .none gkV10 gdc10 gpm10 gan10 gcd10 gct10), gsl10⟩)
    (gc10 : PySem.W.codeIn K gcd10 "NoName.__init__" = true) (gk10 : PySem.W.keepIn K (.ref g10) = true) (gx10 : xcIn K kq10 kq0 (some g10) ["name"] = true)
    (nd : [kq0, kq1, kq2, kq3, kq4, kq5, kq6, kq7, kq8, kq9, kq10].Nodup)
    : ∃ t, Txt K mg t ∧ (∀ (s : Shared) (v : Value), BindsTo s t.d_law ⟨[v], []⟩ [("_law_script", v)]) ∧ KInj t.c := by
  have G1 := fun_mk (st := inC (top 2)) gl1 gc1 gk1
  have gb1 := G1.binds (ps := ["self", "face"]) fun _ _ _ _ _ _ us hl => match us, hl with | [_, _], _ => rfl
  have G2 := fun_mk (st := inC (top 3)) gl2 gc2 gk2
  have gb2 := G2.binds (ps := ["self", "one", "other"]) fun _ _ _ _ _ _ us hl => match us, hl with | [_, _, _], _ => rfl
  have G4 := fun_mk (st := inC (top 5)) gl4 gc4 gk4
  have gb4 := G4.binds (ps := ["self", "line"]) fun _ _ _ _ _ _ us hl => match us, hl with | [_, _], _ => rfl
  have G5 := fun_mk (st := inC (top 6)) gl5 gc5 gk5
  have gb5 := G5.binds (ps := ["self", "one", "other"]) fun _ _ _ _ _ _ us hl => match us, hl with | [_, _, _], _ => rfl
  have G6 := fun_mk (st := inC (top 7)) gl6 gc6 gk6
  have gb6 := G6.binds (ps := ["self", "row"]) fun _ _ _ _ _ _ us hl => match us, hl with | [_, _], _ => rfl
  have G10 := fun_mk (st := inC (top 11)) gl10 gc10 gk10
  have gb10 := G10.binds (ps := ["self", "name"]) fun _ _ _ _ _ _ us hl => match us, hl with | [_, _], _ => rfl
  have F0 := fun_mk (st := top 13) l0 c0 k0
  have b0 := F0.binds (ps := ["_law_script", "_law_k"]) fun _ _ _ _ _ _ us hl => match us, hl with | [_, _], _ => rfl
  have F1 := fun_mk (st := top 14) l1 c1 k1
  have b1 := F1.binds (ps := ["_law_pool_here", "_law_many"]) fun _ _ _ _ _ _ us hl => match us, hl with | [_, _], _ => rfl
  have F2 := fun_mk (st := top 15) l2 c2 k2
  have b2 := F2.binds (ps := ["_law_pool_here"]) fun _ _ _ _ _ _ us hl => match us, hl with | [_], _ => rfl
  have F3 := fun_mk (st := top 16) l3 c3 k3
  have b3 := F3.binds (ps := ["_law_e"]) fun _ _ _ _ _ _ us hl => match us, hl with | [_], _ => rfl
  have F4 := fun_mk (st := top 17) l4 c4 k4
  have b4 := F4.binds (ps := ["_law_script"]) fun _ _ _ _ _ _ us hl => match us, hl with | [_], _ => rfl
  exact ⟨⟨fun i => [kq0, kq1, kq2, kq3, kq4, kq5, kq6, kq7, kq8, kq9, kq10].getD i 0, g1, _, g2, _, g4, _, g5, _, g6, _, g10, _, f0, _, f1, _, f2, _, f3, _, f4, _⟩, ⟨PySem.W.mg_of X G kn0, ⟨kt0, kc0⟩, PySem.W.mg_of X G kn1, ⟨kt1, kc1⟩, gx1, G1, gb1, PySem.W.mg_of X G kn2, ⟨kt2, kc2⟩, gx2, G2, gb2, PySem.W.mg_of X G kn3, ⟨kt3, kc3⟩, gx3, PySem.W.mg_of X G kn4, ⟨kt4, kc4⟩, gx4, G4, gb4, PySem.W.mg_of X G kn5, ⟨kt5, kc5⟩, gx5, G5, gb5, PySem.W.mg_of X G kn6, ⟨kt6, kc6⟩, gx6, G6, gb6, PySem.W.mg_of X G kn7, ⟨kt7, kc7⟩, gx7, PySem.W.mg_of X G kn8, ⟨kt8, kc8⟩, gx8, PySem.W.mg_of X G kn9, ⟨kt9, kc9⟩, gx9, PySem.W.mg_of X G kn10, ⟨kt10, kc10⟩, gx10, G10, gb10, F0, PySem.W.mg_of X G a0, b0, F1, PySem.W.mg_of X G a1, b1, F2, PySem.W.mg_of X G a2, b2, F3, PySem.W.mg_of X G a3, b3, F4, PySem.W.mg_of X G a4, b4, PySem.W.mg_none_of X G z_ValueError, PySem.W.mg_none_of X G z_abs, PySem.W.mg_none_of X G z_int, PySem.W.mg_none_of X G z_isinstance, PySem.W.mg_none_of X G z_len, PySem.W.mg_none_of X G z_range⟩, fun s v => .of_eq rfl, kinj_of nd⟩
theorem walk {l : PySem.W.OpenLaw} {q : Program} {loose : List Str} {XP : (Str → Option Value) → Heap → Prop} {YP : World → Heap → Prop} {d : DefRec} {K : Params → PySem.W.Frag} (hn : l.most = some 63) (hdf : d.params.defaults = [])
    (hY : ∀ (w : World) (h : Heap), YP w h → (K w.params).In h)
    (F : ∀ (w : World) (mg : Str → Option Value) (fa : Addr) (h : Heap), (K w.params).In h → h.Ns mainGlobals mg → mg d.name = some (.ref fa) →
      ∃ fd : FuncData, (∀ (s : Shared) (u : Value), BindsTo s fd ⟨[u], []⟩ [("_law_script", u)]) ∧ ∀ base : Heap, (K w.params).In base → base.Ns mainGlobals mg → FnOk l.prog w (K w.params) mg base CX0 3 fa fd ["_law_script"] (spK (K w.params) F_law)) :
    PySem.W.WalkO q loose XP YP l.row.toRowW d [] (fun f vs => PySem.call f vs) :=
  L2.walk_of (n := 63) (k := 3) (x := "_law_script") (CX := fun _ => CX0) (sp := fun w => spK (K w.params) F_law) hn (by decide) hdf ⟨rfl, by decide, by decide⟩ hY F (fun _ _ a ns hl hO hS κ hκ => let ⟨_, h⟩ := law_true κ hκ ns hl; law_sp hO hS h) fun _ _ _ _ _ z => z
end Law
open PySem PySem.W PyProof.Rows
set_option maxRecDepth 100000 in
set_option maxHeartbeats 0 in
theorem PySem.Challenge.cw_sheetlay_k10_refusals_made_holds : PySem.Challenge.rw_sheetlay_k10_refusals_made.Holds := by
  w_on; o_law; k_head; (case hw => w_witness2)
  k_fill
  refine Law.walk (l := PySem.Challenge.rw_sheetlay_k10_refusals_made) rfl rfl (fun w h Y => PySem.W.kIn_of Y) ?F
  case F =>
    intro w mg fa h KX G hmg
    have TT : ∃ t, Law.Txt (L2.KOf KX) mg t ∧ (∀ (s : Shared) (v : Value), BindsTo s t.d_law ⟨[v], []⟩ [("_law_script", v)]) ∧ L2.KInj t.c := by
      dsimp only [L2.KOf]
      refine' Law.txt_mk KX G ?a0 ?l0 ?c0 ?k0 ?a1 ?l1 ?c1 ?k1 ?a2 ?l2 ?c2 ?k2 ?a3 ?l3 ?c3 ?k3 ?a4 ?l4 ?c4 ?k4 ?z_ValueError ?z_abs ?z_int ?z_isinstance ?z_len ?z_range ?kn0 ?kt0 ?kc0 ?kn1 ?kt1 ?kc1 ?gi1 ?gl1 ?gc1 ?gk1 ?gx1 ?kn2 ?kt2 ?kc2 ?gi2 ?gl2 ?gc2 ?gk2 ?gx2 ?kn3 ?kt3 ?kc3 ?gx3 ?kn4 ?kt4 ?kc4 ?gi4 ?gl4 ?gc4 ?gk4 ?gx4 ?kn5 ?kt5 ?kc5 ?gi5 ?gl5 ?gc5 ?gk5 ?gx5 ?kn6 ?kt6 ?kc6 ?gi6 ?gl6 ?gc6 ?gk6 ?gx6 ?kn7 ?kt7 ?kc7 ?gx7 ?kn8 ?kt8 ?kc8 ?gx8 ?kn9 ?kt9 ?kc9 ?gx9 ?kn10 ?kt10 ?kc10 ?gi10 ?gl10 ?gc10 ?gk10 ?gx10 ?nd
      (case a0 => k_is)
      (case l0 => k_is)
      (case c0 => k_is)
      (case k0 => k_is)
      (case a1 => k_is)
      (case l1 => k_is)
      (case c1 => k_is)
      (case k1 => k_is)
      (case a2 => k_is)
      (case l2 => k_is)
      (case c2 => k_is)
      (case k2 => k_is)
      (case a3 => k_is)
      (case l3 => k_is)
      (case c3 => k_is)
      (case k3 => k_is)
      (case a4 => k_is)
      (case l4 => k_is)
      (case c4 => k_is)
      (case k4 => k_is)
      (case z_ValueError => k_is)
      (case z_abs => k_is)
      (case z_int => k_is)
      (case z_isinstance => k_is)
      (case z_len => k_is)
      (case z_range => k_is)
      (case kn0 => k_is)
      (case kn1 => k_is)
      (case gi1 => k_is)
      (case gl1 => k_is)
      (case gc1 => k_is)
      (case gk1 => k_is)
      (case kn2 => k_is)
      (case gi2 => k_is)
      (case gl2 => k_is)
      (case gc2 => k_is)
      (case gk2 => k_is)
      (case kn3 => k_is)
      (case kn4 => k_is)
      (case gi4 => k_is)
      (case gl4 => k_is)
      (case gc4 => k_is)
      (case gk4 => k_is)
      (case kn5 => k_is)
      (case gi5 => k_is)
      (case gl5 => k_is)
      (case gc5 => k_is)
      (case gk5 => k_is)
      (case kn6 => k_is)
      (case gi6 => k_is)
      (case gl6 => k_is)
      (case gc6 => k_is)
      (case gk6 => k_is)
      (case kn7 => k_is)
      (case kn8 => k_is)
      (case kn9 => k_is)
      (case kn10 => k_is)
      (case gi10 => k_is)
      (case gl10 => k_is)
      (case gc10 => k_is)
      (case gk10 => k_is)
      (case kt0 => kernel_rfl)
      (case kc0 => kernel_rfl)
      (case kt1 => kernel_rfl)
      (case kc1 => kernel_rfl)
      (case gx1 => kernel_rfl)
      (case kt2 => kernel_rfl)
      (case kc2 => kernel_rfl)
      (case gx2 => kernel_rfl)
      (case kt3 => kernel_rfl)
      (case kc3 => kernel_rfl)
      (case gx3 => kernel_rfl)
      (case kt4 => kernel_rfl)
      (case kc4 => kernel_rfl)
      (case gx4 => kernel_rfl)
      (case kt5 => kernel_rfl)
      (case kc5 => kernel_rfl)
      (case gx5 => kernel_rfl)
      (case kt6 => kernel_rfl)
      (case kc6 => kernel_rfl)
      (case gx6 => kernel_rfl)
      (case kt7 => kernel_rfl)
      (case kc7 => kernel_rfl)
      (case gx7 => kernel_rfl)
      (case kt8 => kernel_rfl)
      (case kc8 => kernel_rfl)
      (case gx8 => kernel_rfl)
      (case kt9 => kernel_rfl)
      (case kc9 => kernel_rfl)
      (case gx9 => kernel_rfl)
      (case kt10 => kernel_rfl)
      (case kc10 => kernel_rfl)
      (case gx10 => kernel_rfl)
      (case nd => decide)
    obtain ⟨t, T, hb, hne⟩ := TT
    have e0 := hmg.symm.trans T.m_law
    cases e0
    exact ⟨_, hb, fun base _ _ => (Law.ok_law T).imp fun _ _ _ _ q => q _ hne⟩

