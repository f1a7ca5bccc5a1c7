import PyProof.Rows.All
import Wide.All
import OpenK.AllK
import Wide.FinOn
import Lean
import PyProof.EqAt
import PyProof.EqKinds
import PyProof.TupleCall
import PyProof.ExcInit
import KE.KLam
import KE.KNestM
import KE.KSortTup
import PyProof.Rows.SortBase
import PyProof.Rows.SortWalk
import PyProof.Rows.SortShellK
import PySem.Challenge.RW_sheetlay_k21_round_about
set_option Elab.async false
set_option linter.all false
set_option maxRecDepth 100000
set_option compiler.extract_closed false
namespace PySem
open Sem (wp)
section
variable {prog : Program} {w : World} {K : Type} [DecidableEq K] (knd : KeyKind prog w K)
inductive Its2 (h : Heap) : List (List K) → List Value → Prop
  | nil : Its2 h [] []
  | cons {ks : List K} {a : Addr} {kss : List (List K)} {vs : List Value} : IsTupleKey knd h ks a → Its2 h kss vs → Its2 h (ks :: kss) (.ref a :: vs)
def IsKey2 (h : Heap) (kss : List (List K)) (a : Addr) : Prop := ∃ ob its m, h.get? a = some ob ∧ ob.cls = .type "tuple" ∧ ob.data = .seq its m ∧ Its2 knd h kss its.toList
variable {knd}
theorem Its2.inj {h : Heap} {x y : List (List K)} {vs : List Value} (p : Its2 knd h x vs) : Its2 knd h y vs → x = y := by
  induction p generalizing y with
  | nil => intro q; cases q; rfl
  | cons h1 _ ih =>
    intro q
    cases q with
    | cons h2 t2 => rw [h1.inj h2, ih t2]
theorem IsKey2.typeIs {s : Shared} {kss : List (List K)} {a : Addr} (x : IsKey2 knd s.heap kss a) : s.TypeIs (.ref a) "tuple" := by
  obtain ⟨ob, _, _, ho, hc, _⟩ := x
  exact ⟨ob, ho, hc⟩
theorem IsKey2.inj {h : Heap} {a : Addr} {x y : List (List K)} (p : IsKey2 knd h x a) (q : IsKey2 knd h y a) : x = y := by
  obtain ⟨o1, i1, n1, a1, _, b1, c1⟩ := p
  obtain ⟨o2, i2, n2, a2, _, b2, c2⟩ := q
  rw [a1] at a2
  cases a2
  rw [b1] at b2
  injection b2 with b2 _
  subst b2
  exact c1.inj c2
theorem Its2.keeps {h h' : Heap} {kss : List (List K)} {vs : List Value} {d : Addr} {ob : Obj} {es ep} (x : Its2 knd h kss vs) (ho : h.get? d = some ob) (hd : ob.data = .dict es ep) (hs : Heap.SameBut d h h') : Its2 knd h' kss vs := by
  induction x with
  | nil => exact .nil
  | cons h1 _ ih => exact .cons (h1.keeps ho hd hs) ih
theorem IsKey2.keeps {h h' : Heap} {kss : List (List K)} {a d : Addr} {ob : Obj} {es ep} (x : IsKey2 knd h kss a) (ho : h.get? d = some ob) (hd : ob.data = .dict es ep) (hs : Heap.SameBut d h h') : IsKey2 knd h' kss a := by
  obtain ⟨o1, i1, n1, a1, c1, b1, r1⟩ := x
  have ne : a ≠ d := by
    intro e
    rw [e, ho] at a1
    cases a1
    rw [hd] at b1
    cases b1
  exact ⟨o1, i1, n1, (hs.2 a ne).trans a1, c1, b1, r1.keeps ho hd hs⟩
def hash2 (knd : KeyKind prog w K) (kss : List (List K)) : Int := reduceHash (Builtin.Tuple.tupleHashOf (kss.map (tupleKeyHash knd)))
def drw2 : List (List K) → Nat
  | [] => 0
  | ks :: r => (ks.length + 1) + drw2 r
theorem drw2_app : ∀ (x y : List (List K)), drw2 (x ++ y) = drw2 x + drw2 y
  | [], y => by simp [drw2]
  | a :: x, y => by simp only [List.cons_append, drw2, drw2_app x y]; omega
variable {A : Around} {E : Value → Shared → Prop} {s : Shared}
theorem pyHash2 {kss : List (List K)} {a : Addr} {Q : Int → Shared → Prop} (hu : A.units + 4 < cLine) (hk : IsKey2 knd s.heap kss a) (q : Q (hash2 knd kss) { s with toks := s.toks + (drw2 kss + 1) }) :
    wpAny (model prog w) A (pyHash (.ref a)) Q E s := by
  have ty := hk.typeIs
  obtain ⟨ob, its, m, ho, _, hd, hi⟩ := hk
  unfold pyHash
  first | unfold pyHashByItsType | skip
  first | refine wpAny_bind (wpAny_cRoomFor_or (.inr (by omega)) ?_) | skip
  refine wpAny_bind (wpAny_specialOf ty F.slot_tuple_hash.lookup ?_)
  show wpAny _ _ (if (some (Value.builtin "tuple.__hash__") == some Value.none) = true then _ else _) Q E s
  rw [if_neg (by rw [beq_builtin_none]; exact Bool.false_ne_true)]
  refine wpAny_bind (wpAny_specialOf ty F.slot_tuple_hash.lookup ?_)
  show wpAny _ _ (callSpecialIfBoundUnlessNone? (.ref a) "__hash__" _ >>= _) Q E s
  refine wpAny_bind (wpAny_callSpecialIfBoundUnlessNone?_slot ty F.slot_tuple_hash (wpAny_call_entry F.slot_tuple_hash ty F.entry_tuple_hash ?_ (F.args_tuple_hash_1 _)))
  show wpAny _ _ (Builtin.Tuple.tupleItemsOf (.ref a) >>= _) _ _ s
  refine wpAny_bind (wpAny_tupleItemsOf ho hd (wpAny_bind ?_))
  rw [← Array.forIn_toList]
  refine wpAny_forIn_list _ (fun rest (b : Array Int) s' => ∃ done left, kss = done ++ left ∧ Its2 knd s.heap left rest ∧ b.toList = done.map (tupleKeyHash knd) ∧ s' = { s with toks := s.toks + drw2 done }) _ ?_ ?_ _ _ ⟨[], kss, rfl, hi, rfl, rfl⟩
  · rintro x rest b s' ⟨done, left, rfl, hl, hb, rfl⟩
    cases hl with
    | @cons ks c kss' _ h1 hl' =>
      refine wpAny_bind (wpAny_pyHash_tuple (s := { s with toks := s.toks + drw2 done }) (by show A.units + 1 < cLine; omega) h1 ?_)
      have fin : ∃ dn lf, done ++ ks :: kss' = dn ++ lf ∧ Its2 knd s.heap lf rest ∧ (b.push (tupleKeyHash knd ks)).toList = dn.map (tupleKeyHash knd) ∧ ({ s with toks := s.toks + drw2 done + (ks.length + 1) } : Shared) = { s with toks := s.toks + drw2 dn } :=
        ⟨done ++ [ks], kss', by simp, hl', by simp [hb], by rw [drw2_app]; simp [drw2, Nat.add_assoc]⟩
      first
        | exact wpAny_pure fin
        | exact wpAny_bind (wpAny_pure (wpAny_pure fin))
  · rintro b s' ⟨done, left, rfl, hl, hb, rfl⟩
    cases hl
    rw [List.append_nil] at q
    show wpAny _ _ (retInt (Builtin.Tuple.tupleHashOf b.toList)) _ _ _
    rw [hb]
    refine wpAny_ret_mkInt ?_
    show wpAny _ _ (if (decide (-(2 : Int) ^ 63 ≤ Builtin.Tuple.tupleHashOf (done.map (tupleKeyHash knd))) && decide (Builtin.Tuple.tupleHashOf (done.map (tupleKeyHash knd)) < 2 ^ 63)) = true then _ else _) Q E _
    unfold hash2 reduceHash at q
    by_cases hr : (decide (-(2 : Int) ^ 63 ≤ Builtin.Tuple.tupleHashOf (done.map (tupleKeyHash knd))) && decide (Builtin.Tuple.tupleHashOf (done.map (tupleKeyHash knd)) < 2 ^ 63)) = true
    · rw [if_pos hr] at q ⊢
      exact wpAny_pure (by simpa [Nat.add_assoc] using q)
    · rw [if_neg hr] at q ⊢
      exact wpAny_bind (wpAny_rule (wpAny_pure (by simpa [Nat.add_assoc] using q)))
theorem eqTree2 {x y : List (List K)} {a b : Addr} {P : Fin → Shared → Prop} (hu : A.units + 2 < cLine) (hx : IsKey2 knd s.heap x a) (hy : IsKey2 knd s.heap y b) (q : P (.done (.ret (.bool (decide (x = y))))) s) :
    wpAny (model prog w) A (Builtin.«tuple.__eq__» ⟨[.ref a, .ref b], []⟩) P E s := by
  have ty := hy.typeIs
  obtain ⟨o1, xs, n1, ho1, _, hd1, hi1⟩ := hx
  obtain ⟨o2, ys, n2, ho2, _, hd2, hi2⟩ := hy
  show wpAny _ _ (isInstance (.ref b) (.type "tuple") >>= _) _ _ s
  refine wpAny_bind (wpAny_isInstance ty isSubtype_tuple_tuple ?_)
  simp only [Bool.not_true, Bool.false_eq_true, if_false]
  refine wpAny_bind (wpAny_tupleItemsOf ho1 hd1 (wpAny_bind (wpAny_tupleItemsOf ho2 hd2 (wpAny_bind ?_))))
  refine wpAny_forIn_list _ (fun rest r s' => r.1 = none ∧ s' = s ∧ ∃ x' y' xs' ys', rest = List.zip xs' ys' ∧ Its2 knd s.heap x' xs' ∧ Its2 knd s.heap y' ys' ∧ decide (x' = y') = decide (x = y) ∧ (xs'.length == ys'.length) = (xs.size == ys.size)) _ ?_ ?_ _ _ ⟨rfl, rfl, x, y, xs.toList, ys.toList, rfl, hi1, hi2, rfl, by simp⟩
  · rintro ⟨u, v⟩ rest r s' ⟨hr, rfl, x', y', xs', ys', hz, hx', hy', hdec, hlen⟩
    cases hx' with
    | nil => simp at hz
    | @cons k1 c1 x2 xs2 h1 hx2 =>
      cases hy' with
      | nil => simp at hz
      | @cons k2 c2 y2 ys2 h2 hy2 =>
        simp only [List.zip_cons_cons, List.cons.injEq, Prod.mk.injEq] at hz
        obtain ⟨⟨rfl, rfl⟩, rfl⟩ := hz
        refine wpAny_bind (wpAny_eqBool_tuple (x := k1) (y := k2) (by omega) h1 h2 ?_)
        by_cases hk : k1 = k2
        · subst hk
          rw [decide_eq_true rfl]
          simp only [Bool.not_true, Bool.false_eq_true, if_false]
          refine wpAny_pure ⟨rfl, rfl, x2, y2, xs2, ys2, rfl, hx2, hy2, ?_, by simpa using hlen⟩
          rw [← hdec]
          by_cases hxy : x2 = y2
          · simp [hxy]
          · simp [hxy]
        · rw [decide_eq_false hk]
          simp only [Bool.not_false, if_true]
          have hf : decide (x = y) = false := by rw [← hdec]; simp [hk]
          rw [hf] at q
          exact wpAny_bind (wpAny_pure (wpAny_pure (wpAny_pure q)))
  · rintro ⟨r1, r2⟩ s' ⟨hr, rfl, x', y', xs', ys', hz, hx', hy', hdec, hlen⟩
    simp only at hr
    subst hr
    refine wpAny_pure ?_
    have fin : (xs.size == ys.size) = decide (x = y) := by
      rw [← hdec, ← hlen]
      cases hx' with
      | nil =>
        cases hy' with
        | nil => simp
        | cons _ _ => simp
      | cons _ _ =>
        cases hy' with
        | nil => simp
        | cons _ _ => simp at hz
    show P (.done (.ret (.bool (xs.size == ys.size)))) s'
    rw [fin]
    exact q
theorem eqBool2 {x y : List (List K)} {a b : Addr} {Q : Bool → Shared → Prop} (hu : A.units + 4 < cLine) (hx : IsKey2 knd s.heap x a) (hy : IsKey2 knd s.heap y b) (q : Q (decide (x = y)) s) :
    wpAny (model prog w) A (eqBool (.ref a) (.ref b)) Q E s := by
  unfold eqBool
  try with_reducible refine wpAny_holding ?_
  show wpAny _ _ (if (Value.ref a == Value.ref b) = true then _ else _) Q E s
  by_cases hab : (Value.ref a == Value.ref b) = true
  · rw [if_pos hab]
    have e : a = b := by have := eq_of_beq hab; injection this
    subst e
    obtain rfl := hx.inj hy
    exact wpAny_bind (wpAny_rule (wpAny_pure (by simpa using q)))
  · rw [if_neg hab]
    exact wpAny_bind (wpAny_richCompare_same_room (op := .Eq) hx.typeIs hy.typeIs F.slot_tuple_eq
      (wpAny_call_entry F.slot_tuple_eq hx.typeIs F.entry_tuple_eq (eqTree2 (by show A.units + 1 + 2 < cLine; omega) hx hy ⟨_, rfl, (fun e => nomatch e), wpAny_truthy_bool q⟩) (F.args_tuple_eq_2 _ _)) (by omega))
theorem quiet1 {ks : List K} {n : Nat} {a : Addr} {Q : Bool → Shared → Prop} (hk : IsTupleKey knd s.heap ks a) (q : Q true s) : wpAny (model prog w) A (eqIsQuiet (n + 1) (.ref a)) Q E s := by
  have ty := hk.typeIs
  obtain ⟨ob, its, m, ho, _, hd, hi⟩ := hk
  unfold eqIsQuiet
  refine wpAny_bind (wpAny_specialOf ty F.slot_tuple_eq.lookup ?_)
  show wpAny _ _ (isInstance (.ref a) (.type "tuple") >>= _) _ _ s
  refine wpAny_bind (wpAny_isInstance ty isSubtype_tuple_tuple ?_)
  simp only [Bool.not_true, Bool.false_eq_true, if_false]
  refine wpAny_bind (wpAny_seqItems ho hd (wpAny_bind ?_))
  show wpAny _ _ (forIn its _ _) _ _ s
  rw [← Array.forIn_toList]
  refine wpAny_forIn_list _ (fun rest r s' => r.1 = none ∧ s' = s ∧ ∀ v ∈ rest, carriedByValue v = true) _ ?_ ?_ _ _ ⟨rfl, rfl, hi.byValue⟩
  · rintro v rest r s' ⟨hr, rfl, hall⟩
    rw [eqIsQuiet_byValue _ (hall v List.mem_cons_self)]
    refine wpAny_bind (wpAny_pure ?_)
    simp only [Bool.not_true, Bool.false_eq_true, if_false]
    exact wpAny_pure ⟨rfl, rfl, fun u hu' => hall u (List.mem_cons_of_mem _ hu')⟩
  · rintro ⟨r1, r2⟩ s' ⟨hr, rfl, _⟩
    simp only at hr
    subst hr
    exact wpAny_pure q
theorem quiet2 {kss : List (List K)} {a : Addr} {Q : Bool → Shared → Prop} (hk : IsKey2 knd s.heap kss a) (q : Q true s) : wpAny (model prog w) A (eqIsQuiet 8 (.ref a)) Q E s := by
  have ty := hk.typeIs
  obtain ⟨ob, its, m, ho, _, hd, hi⟩ := hk
  unfold eqIsQuiet
  refine wpAny_bind (wpAny_specialOf ty F.slot_tuple_eq.lookup ?_)
  show wpAny _ _ (isInstance (.ref a) (.type "tuple") >>= _) _ _ s
  refine wpAny_bind (wpAny_isInstance ty isSubtype_tuple_tuple ?_)
  simp only [Bool.not_true, Bool.false_eq_true, if_false]
  refine wpAny_bind (wpAny_seqItems ho hd (wpAny_bind ?_))
  show wpAny _ _ (forIn its _ _) _ _ s
  rw [← Array.forIn_toList]
  refine wpAny_forIn_list _ (fun rest r s' => r.1 = none ∧ s' = s ∧ ∃ kss', Its2 knd s.heap kss' rest) _ ?_ ?_ _ _ ⟨rfl, rfl, kss, hi⟩
  · rintro v rest r s' ⟨hr, rfl, kss', hl⟩
    cases hl with
    | @cons ks c kss2 _ h1 hl' =>
      refine wpAny_bind (quiet1 (n := 6) h1 ?_)
      simp only [Bool.not_true, Bool.false_eq_true, if_false]
      exact wpAny_pure ⟨rfl, rfl, kss2, hl'⟩
  · rintro ⟨r1, r2⟩ s' ⟨hr, rfl, _⟩
    simp only at hr
    subst hr
    exact wpAny_pure q
end
def kind2 {prog : Program} {w : World} {K : Type} [DecidableEq K] (knd : KeyKind prog w K) : HeapKind prog w (List (List K)) where
  is := IsKey2 knd
  hash := hash2 knd
  draws := fun kss => drw2 kss + 1
  room := fun A => A.units + 4 < cLine
  inj := fun hx hy => hx.inj hy
  keeps := fun x ho hd hs => x.keeps ho hd hs
  pyHash := fun hu hk h => pyHash2 hu hk h
  eqBool := fun hu hx hy h => eqBool2 hu hx hy h
  quiet := fun hk h => quiet2 hk h
end PySem
namespace PySem
open Sem (wp)
def DictE (h : Heap) (d : Addr) (es : Array DictEntry) (ep : Nat) : Prop := ∃ ob, h.get? d = some ob ∧ ob.ExactDict ∧ ob.data = .dict es ep
section
variable {prog : Program} {w : World} {A : Around} {E : Value → Shared → Prop} {s : Shared}
theorem DictE.at {h h' : Heap} {d : Addr} {es : Array DictEntry} {ep : Nat} (x : DictE h d es ep) (k : ∀ o, h.get? d = some o → h'.get? d = some o) : DictE h' d es ep := by
  obtain ⟨ob, h1, h2⟩ := x
  exact ⟨ob, k _ h1, h2⟩
end
end PySem
namespace L2
open PySem PySem.Spec PyProof.Rows
abbrev Key := Sum Int Str
def keyIs : Key → Value → Bool
  | .inl k, v => Value.isInt k v
  | .inr x, v => Value.isStrOf x v
def keyH (w : World) : Key → Int
  | .inl k => hashInt k
  | .inr x => hashStr w x
theorem keyIs_shape : ∀ {k : Key} {v : Value}, keyIs k v = true → (∃ i t, k = Sum.inl i ∧ v = Value.int i t) ∨ (∃ x t, k = Sum.inr x ∧ v = Value.str x t)
  | .inl i, v, h => by
    obtain ⟨t, e⟩ := Value.isInt_shape (k := i) (v := v) h
    exact .inl ⟨i, t, rfl, e⟩
  | .inr x, v, h => by
    obtain ⟨t, e⟩ := Value.isStrOf_shape (x := x) (v := v) h
    exact .inr ⟨x, t, rfl, e⟩
theorem key_ll (a b : Int) : decide ((Sum.inl a : Key) = Sum.inl b) = (a == b) := by
  by_cases e : a = b
  · subst e; simp
  · have h : ¬ (Sum.inl a : Key) = Sum.inl b := fun q => e (Sum.inl.inj q)
    rw [decide_eq_false h]
    exact (beq_eq_false_iff_ne.mpr e).symm
theorem key_rr (a b : Str) : decide ((Sum.inr a : Key) = Sum.inr b) = decide (a = b) := by
  by_cases e : a = b
  · subst e; simp
  · have h : ¬ (Sum.inr a : Key) = Sum.inr b := fun q => e (Sum.inr.inj q)
    rw [decide_eq_false h, decide_eq_false e]
theorem key_lr (a : Int) (b : Str) : decide ((Sum.inl a : Key) = Sum.inr b) = false := decide_eq_false (fun q => nomatch q)
theorem key_rl (a : Str) (b : Int) : decide ((Sum.inr a : Key) = Sum.inl b) = false := decide_eq_false (fun q => nomatch q)
def mixKind (prog : Program) (w : World) : PySem.KeyKind prog w Key where
  is := keyIs
  hash := keyH w
  inj := fun v a b ha hb => by
    rcases keyIs_shape ha with ⟨i, t, rfl, rfl⟩ | ⟨x, t, rfl, rfl⟩
    · rcases keyIs_shape hb with ⟨j, u, rfl, e⟩ | ⟨y, u, rfl, e⟩
      · injection e with e1 _; rw [e1]
      · exact nomatch e
    · rcases keyIs_shape hb with ⟨j, u, rfl, e⟩ | ⟨y, u, rfl, e⟩
      · exact nomatch e
      · injection e with e1 _; rw [e1]
  byValue := fun k v h => by
    rcases keyIs_shape h with ⟨i, t, rfl, rfl⟩ | ⟨x, t, rfl, rfl⟩ <;> rfl
  pyHash := fun hv h => by
    rcases keyIs_shape hv with ⟨i, t, rfl, rfl⟩ | ⟨x, t, rfl, rfl⟩
    · exact wpAny_pyHash_int h
    · exact wpAny_pyHash_str h
  eqBool := fun hu hv h => by
    rcases keyIs_shape hu with ⟨i, t, rfl, rfl⟩ | ⟨x, t, rfl, rfl⟩
    · rcases keyIs_shape hv with ⟨j, u, rfl, rfl⟩ | ⟨y, u, rfl, rfl⟩
      · rw [key_ll] at h; exact wpAny_eqBool_int h
      · rw [key_lr] at h; exact SeqAt.EqAt.int_str i t y u _ _ _ _ h
    · rcases keyIs_shape hv with ⟨j, u, rfl, rfl⟩ | ⟨y, u, rfl, rfl⟩
      · rw [key_rl] at h; exact SeqAt.EqAt.str_int x t j u _ _ _ _ h
      · rw [key_rr] at h; exact wpAny_eqBool_str h
  «strs» := fun k x t v h => by
    rcases keyIs_shape h with ⟨i, u, rfl, e⟩ | ⟨y, u, rfl, e⟩
    · exact nomatch e
    · injection e with e1 _
      subst e1
      cases v <;> rfl
end L2
namespace L2
open PySem PySem.Spec PyProof.Rows
inductive V where
  | non | bl (b : Bool) | int (i : Int) | str (x : Str) | byt (b : Array UInt8) | flt (b : UInt64) | ref (a : Addr) | ty (n : String)
  deriving DecidableEq
def RelV : V → Value → Prop
  | .non, u => u = Value.none
  | .bl b, u => u = Value.bool b
  | .int i, u => ∃ t, u = Value.int i t
  | .str x, u => ∃ t, u = Value.str x t
  | .byt b, u => ∃ t, u = Value.bytes b t
  | .flt b, u => ∃ t, u = Value.float b t
  | .ref a, u => u = Value.ref a
  | .ty n, u => u = Value.type n
abbrev Vals : List V → List Value → Prop := Paired RelV
theorem Vals.length {xs : List V} {us : List Value} (r : Vals xs us) : xs.length = us.length := Paired.length r
theorem Vals.get : ∀ {xs : List V} {us : List Value} {i : Nat} {x : V}, Vals xs us → xs[i]? = some x → ∃ u, us[i]? = some u ∧ RelV x u
  | _, _, _, _, .nil, e => by simp at e
  | _, _, 0, _, .cons r _, e => by simp at e; subst e; exact ⟨_, rfl, r⟩
  | _, _, i + 1, x, .cons _ t, e => by
    obtain ⟨u, h1, h2⟩ := Vals.get (i := i) (x := x) t (by simpa using e)
    exact ⟨u, by simpa using h1, h2⟩
theorem Vals.set {x : V} {u : Value} (r : RelV x u) : ∀ {xs : List V} {us : List Value} (i : Nat), Vals xs us → Vals (xs.set i x) (us.set i u)
  | _, _, _, .nil => .nil
  | _, _, 0, .cons _ t => .cons r t
  | _, _, i + 1, .cons q t => .cons q (Vals.set r i t)
theorem Vals.append : ∀ {xs ys : List V} {us ws : List Value}, Vals xs us → Vals ys ws → Vals (xs ++ ys) (us ++ ws)
  | _, _, _, _, .nil, s => s
  | _, _, _, _, .cons r t, s => .cons r (Vals.append t s)
theorem Vals.take : ∀ {xs : List V} {us : List Value} (n : Nat), Vals xs us → Vals (xs.take n) (us.take n)
  | _, _, 0, _ => .nil
  | _, _, _ + 1, .nil => .nil
  | _, _, n + 1, .cons r t => .cons r (Vals.take n t)
theorem Vals.drop : ∀ {xs : List V} {us : List Value} (n : Nat), Vals xs us → Vals (xs.drop n) (us.drop n)
  | _, _, 0, r => r
  | _, _, _ + 1, .nil => .nil
  | _, _, n + 1, .cons _ t => Vals.drop n t
def RelO : Option V → Option Value → Prop
  | some v, some u => RelV v u
  | none, none => True
  | _, _ => False
def KV {κ : Type} : List (κ × V) → List (κ × Value) → Prop := Paired fun (p : κ × V) (q : κ × Value) => p.1 = q.1 ∧ RelV p.2 q.2
def kV : Key → V
  | .inl i => .int i
  | .inr x => .str x
inductive HO where
  | lst (xs : List V)
  | tup (xs : List V)
  | dK (kvs : List (Key × V)) | dT (kvs : List (List Key × V)) | dU (kvs : List (List (List Key) × V))
  | set (S : Int → Bool) (n : Nat)
  | ins (C dx : Addr) (fs : List (Str × V))
  | own (x : Addr)
  | xd (fs : List (Str × V))
  | met (f x : Addr)
  | rng (lo hi : Int)
  | frz (o : Obj) (u : HO)
  | tbl (ps : Array Value)
  | ext (φ : Heap → Prop)
abbrev Hp := Addr → Option HO
def upd (H : Hp) (a : Addr) (o : HO) : Hp := fun b => if b = a then some o else H b
theorem upd_same {H : Hp} {a : Addr} {o : HO} : upd H a o a = some o := by unfold upd; rw [if_pos rfl]
theorem upd_ne {H : Hp} {a b : Addr} {o : HO} (h : b ≠ a) : upd H a o b = H b := by unfold upd; rw [if_neg h]
theorem ne_of_none {H : Hp} {a b : Addr} {o : HO} (h : H a = some o) (h' : H b = none) : a ≠ b := by
  intro e; subst e; rw [h] at h'; cases h'
def KeyU (H : Hp) (kss : List (List Key)) (b : Addr) : Prop := ∃ as : List Addr, H b = some (.tup (as.map V.ref)) ∧ Paired (fun (ks : List Key) (a : Addr) => H a = some (.tup (ks.map kV))) kss as
section
variable (P : Program) (w : World)
def ObjOk (H : Hp) (h : Heap) (a : Addr) : HO → Prop
  | .lst xs => xs.length ≤ sizeLine ∧ ∃ (its : List Value) (n : Nat), Vals xs its ∧ h.get? a = some { cls := .type "list", data := .seq its.toArray n }
  | .tup xs => xs.length ≤ sizeLine ∧ ∃ its : List Value, Vals xs its ∧ IsTup h a its.toArray
  | .dK kvs => kvs.length ≤ sizeLine ∧ (a == sysModules) = false ∧ ∃ vs, KV kvs vs ∧ h.DictOf (mixKind P w) a vs
  | .dT kvs => kvs.length ≤ sizeLine ∧ (a == sysModules) = false ∧ ∃ xs : List (List Key × Addr × Value),
      Paired (fun (p : List Key × V) (q : List Key × Addr × Value) => p.1 = q.1 ∧ H q.2.1 = some (.tup (p.1.map kV)) ∧ RelV p.2 q.2.2) kvs xs ∧
      ∃ o es ep, h.get? a = some o ∧ o.ExactDict ∧ o.data = .dict es ep ∧ es.toList = xs.map (entryOfKey (tupleKind (mixKind P w))) ∧ (xs.map (·.1)).Nodup
  | .dU kvs => kvs.length ≤ sizeLine ∧ (a == sysModules) = false ∧ ∃ xs : List (List (List Key) × Addr × Value),
      Paired (fun (p : List (List Key) × V) (q : List (List Key) × Addr × Value) => p.1 = q.1 ∧ KeyU H p.1 q.2.1 ∧ RelV p.2 q.2.2) kvs xs ∧
      ∃ o es ep, h.get? a = some o ∧ o.ExactDict ∧ o.data = .dict es ep ∧ es.toList = xs.map (entryOfKey (kind2 (mixKind P w))) ∧ (xs.map (·.1)).Nodup
  | .set S n => h.SetOf (intKind P w) a S n
  | .ins C dx fs => H dx = some (.own a) ∧ fs.length ≤ 1000 ∧ dx ≠ a ∧ h.get? a = some (PySem.W.instObj C dx) ∧
      ∃ mA, h.Ns1 dx mA ∧ (∀ f, RelO (fs.lookup f) (mA f)) ∧ PySem.Within mA (fs.map (·.1))
  | .own _ => ∃ o, h.get? a = some o
  | .xd fs => ∃ mA, h.Ns1 a mA ∧ ∀ f, RelO (fs.lookup f) (mA f)
  | .rng lo hi => ∃ t u v, h.get? a = some { cls := .type "range", data := .fields #[.int lo t, .int hi u, .int 1 v] }
  | .frz o u => h.get? a = some o ∧ ObjOk H h a u
  | .tbl ps => h.get? a = some { cls := .none, data := .fields ps }
  | .met f x => h.get? a = some (PySem.W.methodObj (.ref f) (.ref x))
  | .ext φ => φ h ∧ (∃ o, h.get? a = some o) ∧ ∀ h1 h2 : Heap, φ h1 → (∀ o, h1.get? a = some o → h2.get? a = some o) → φ h2
def HOk (H : Hp) (h : Heap) : Prop := ∀ a o, H a = some o → ObjOk P w H h a o
end
section
variable {P : Program} {w : World} {H H' : Hp} {h h' : Heap} {a : Addr} {o : HO}
theorem ObjOk.lt (x : ObjOk P w H h a o) : a < h.objs.size := by
  cases o with
  | lst xs => obtain ⟨_, _, _, _, e⟩ := x; exact Heap.lt_size e
  | tup xs => obtain ⟨_, _, _, p⟩ := x; exact p.lt
  | dK kvs => obtain ⟨_, _, _, _, o, _, _, e, _⟩ := x; exact Heap.lt_size e
  | dT kvs => obtain ⟨_, _, _, _, o, _, _, e, _⟩ := x; exact Heap.lt_size e
  | dU kvs => obtain ⟨_, _, _, _, o, _, _, e, _⟩ := x; exact Heap.lt_size e
  | set S n => obtain ⟨o, _, _, _, e, _⟩ := x; exact Heap.lt_size e
  | ins C dx fs => obtain ⟨_, _, _, e, _⟩ := x; exact Heap.lt_size e
  | own y => obtain ⟨_, e⟩ := x; exact Heap.lt_size e
  | xd fs => obtain ⟨_, ⟨_, _, _, e, _⟩, _⟩ := x; exact Heap.lt_size e
  | rng lo hi => obtain ⟨_, _, _, e⟩ := x; exact Heap.lt_size e
  | frz ob u => obtain ⟨e, _⟩ := x; exact Heap.lt_size e
  | tbl ps => exact Heap.lt_size (show h.get? a = some _ from x)
  | met f y => exact Heap.lt_size (show h.get? a = some _ from x)
  | ext φ => obtain ⟨_, ⟨_, e⟩, _⟩ := x; exact Heap.lt_size e
theorem Paired.mapP {α β : Type} {F G : α → β → Prop} : ∀ {l₁ : List α} {l₂ : List β}, Paired F l₁ l₂ → (∀ a b, F a b → G a b) → Paired G l₁ l₂
  | _, _, .nil, _ => .nil
  | _, _, .cons r t, f => .cons (f _ _ r) (Paired.mapP t f)
theorem KeyU.more {H H' : Hp} {kss : List (List Key)} {b : Addr} (x : KeyU H kss b) (ht : ∀ b xs, H b = some (.tup xs) → H' b = some (.tup xs)) : KeyU H' kss b := by
  obtain ⟨as, h1, h2⟩ := x
  exact ⟨as, ht _ _ h1, Paired.mapP h2 fun _ _ z => ht _ _ z⟩
theorem ObjOk.stay (x : ObjOk P w H h a o) (k : ∀ b u, (b = a ∨ H b = some (.own a)) → h.get? b = some u → h'.get? b = some u)
    (ho : ∀ b, H b = some (.own a) → H' b = some (.own a)) (ht : ∀ b xs, H b = some (.tup xs) → H' b = some (.tup xs)) : ObjOk P w H' h' a o := by
  induction o with
  | lst xs => obtain ⟨z, its, n, r, e⟩ := x; exact ⟨z, its, n, r, k _ _ (.inl rfl) e⟩
  | tup xs => obtain ⟨z, its, r, ob, e, c⟩ := x; exact ⟨z, its, r, ob, k _ _ (.inl rfl) e, c⟩
  | dK kvs => obtain ⟨z, y, vs, r, ob, es, ep, e, c⟩ := x; exact ⟨z, y, vs, r, ob, es, ep, k _ _ (.inl rfl) e, c⟩
  | dT kvs =>
    obtain ⟨z, y, xs, r, ob, es, ep, e, c⟩ := x
    exact ⟨z, y, xs, Paired.mapP r fun p q z => ⟨z.1, ht _ _ z.2.1, z.2.2⟩, ob, es, ep, k _ _ (.inl rfl) e, c⟩
  | dU kvs =>
    obtain ⟨z, y, xs, r, ob, es, ep, e, c⟩ := x
    exact ⟨z, y, xs, Paired.mapP r fun p q z => ⟨z.1, z.2.1.more ht, z.2.2⟩, ob, es, ep, k _ _ (.inl rfl) e, c⟩
  | set S n => obtain ⟨ob, es, ep, t, e, c⟩ := x; exact ⟨ob, es, ep, t, k _ _ (.inl rfl) e, c⟩
  | ins C dx fs =>
    obtain ⟨d, z, ne, e, mA, ⟨od, es, ep, e2, c⟩, r⟩ := x
    exact ⟨ho _ d, z, ne, k _ _ (.inl rfl) e, mA, ⟨od, es, ep, k _ _ (.inr d) e2, c⟩, r⟩
  | own y => obtain ⟨ob, e⟩ := x; exact ⟨ob, k _ _ (.inl rfl) e⟩
  | xd fs => obtain ⟨mA, ⟨od, es, ep, e, c⟩, r⟩ := x; exact ⟨mA, ⟨od, es, ep, k _ _ (.inl rfl) e, c⟩, r⟩
  | rng lo hi => obtain ⟨t, u, v, e⟩ := x; exact ⟨t, u, v, k _ _ (.inl rfl) e⟩
  | frz ob u ih => obtain ⟨e, q⟩ := x; exact ⟨k _ _ (.inl rfl) e, ih q⟩
  | tbl ps =>
    have e : h.get? a = some { cls := .none, data := .fields ps } := x
    show h'.get? a = some { cls := .none, data := .fields ps }
    exact k a _ (.inl rfl) e
  | met f y =>
    have e : h.get? a = some (PySem.W.methodObj (.ref f) (.ref y)) := x
    show h'.get? a = some (PySem.W.methodObj (.ref f) (.ref y))
    exact k a _ (.inl rfl) e
  | ext φ => obtain ⟨p, ⟨o, e⟩, st⟩ := x; exact ⟨st _ _ p fun o q => k _ _ (.inl rfl) q, ⟨o, k _ _ (.inl rfl) e⟩, st⟩
theorem HOk.lt (x : HOk P w H h) (e : H a = some o) : a < h.objs.size := (x a o e).lt
theorem HOk.fresh (x : HOk P w H h) (e : h.objs.size ≤ a) : H a = none := by
  cases q : H a with
  | none => rfl
  | some u => exact absurd (Nat.lt_of_lt_of_le (x.lt q) e) (Nat.lt_irrefl _)
theorem HOk.kept (x : HOk P w H h) (k : ∀ b u, h.get? b = some u → h'.get? b = some u) : HOk P w H h' := fun a o e =>
  (x a o e).stay (fun b u _ q => k b u q) (fun _ q => q) fun _ _ q => q
theorem HOk.laid (x : HOk P w H h) (k : ∀ b u, h.get? b = some u → h'.get? b = some u) (hp : h.objs.size ≤ a) (new : ObjOk P w (upd H a o) h' a o) : HOk P w (upd H a o) h' := fun b u e => by
  have hn := x.fresh hp
  by_cases hb : b = a
  · subst hb; rw [upd_same] at e; cases e; exact new
  · rw [upd_ne hb] at e
    exact (x b u e).stay (fun c v _ q => k c v q) (fun c q => by rw [upd_ne (ne_of_none q hn)]; exact q) fun c xs q => by rw [upd_ne (ne_of_none q hn)]; exact q
end
def Rd (H : Hp) (a : Addr) (u : HO) : Prop := H a = some u ∨ ∃ o, H a = some (.frz o u)
theorem Rd.ok {P : Program} {w : World} {H : Hp} {h : Heap} {a : Addr} {u : HO} (r : Rd H a u) (x : HOk P w H h) : ObjOk P w H h a u := by
  rcases r with r | ⟨o, r⟩
  · exact x a u r
  · obtain ⟨_, q⟩ := x a _ r
    exact q
def Mut : Option HO → Prop
  | some (.lst _) => True
  | some (.dK _) => True
  | some (.dT _) => True
  | some (.dU _) => True
  | some (.set _ _) => True
  | some (.ins _ _ _) => True
  | some (.ext _) => True
  | _ => False
section
variable {P : Program} {w : World} {H : Hp} {h h' : Heap} {x e : Addr} {o' : HO}
theorem HOk.write (ok : HOk P w H h) (mu : Mut (H x)) (he : e = x ∨ H e = some (.own x)) (k : ∀ b u, b ≠ e → h.get? b = some u → h'.get? b = some u) (heo : ∃ u, h'.get? e = some u)
    (new : ObjOk P w (upd H x o') h' x o') : HOk P w (upd H x o') h' := fun b u q => by
  have nown : ∀ c y, H c = some (.own y) → c ≠ x := fun c y r z => by subst z; rw [r] at mu; exact mu
  have ntup : ∀ c xs, H c = some (.tup xs) → c ≠ x := fun c xs r z => by subst z; rw [r] at mu; exact mu
  by_cases hb : b = x
  · subst hb; rw [upd_same] at q; cases q; exact new
  · rw [upd_ne hb] at q
    by_cases hbe : b = e
    · have q' : H b = some (.own x) := by
        rcases he with z | z
        · exact absurd (hbe.trans z) hb
        · rw [hbe]; exact z
      rw [q] at q'; cases q'
      obtain ⟨v, hv⟩ := heo
      exact ⟨v, by rw [hbe]; exact hv⟩
    · refine (ok b u q).stay (fun c v hc r => k c v ?_ r) (fun c r => by rw [upd_ne (nown c b r)]; exact r) fun c xs r => by rw [upd_ne (ntup c xs r)]; exact r
      rcases hc with rfl | hc
      · exact hbe
      · rintro rfl
        rcases he with z | z
        · exact nown c b hc z
        · rw [hc] at z; cases z; exact hb rfl
end
structure Un (fs ex : List Addr) (H H' : Hp) (h h' : Heap) : Prop where
  keep : ∀ b o, h.get? b = some o → H b = none → b ∉ fs → b ∉ ex → h'.get? b = some o
  slot : ∀ b o, h.get? b = some o → H b = none → b ∈ fs → b ∉ ex → ∃ sl, h'.get? b = some { o with slots := sl }
  free : ∀ b o, h.get? b = some o → H b = none → b ∉ ex → H' b = none
  there : ∀ b o, h.get? b = some o → b ∉ ex → ∃ o', h'.get? b = some o'
  tups : ∀ b xs, H b = some (.tup xs) → H' b = some (.tup xs)
  frzs : ∀ b o u, H b = some (.frz o u) → H' b = some (.frz o u)
  tbls : ∀ b ps, H b = some (.tbl ps) → ∃ more, H' b = some (.tbl (ps ++ more))
section
variable {fs fs' ex ex' : List Addr} {H H1 H2 : Hp} {h h1 h2 h' : Heap} {a x e : Addr} {o : HO}
theorem Un.any (u : Un fs ex H H1 h h1) {b : Addr} {ob : Obj} (q : h.get? b = some ob) (n : H b = none) (hx : b ∉ ex) : ∃ sl, h1.get? b = some { ob with slots := sl } := by
  by_cases hb : b ∈ fs
  · exact u.slot b ob q n hb hx
  · exact ⟨ob.slots, u.keep b ob q n hb hx⟩
theorem Un.kept (k : ∀ b u, h.get? b = some u → h'.get? b = some u) : Un fs ex H H h h' :=
  ⟨fun b ob q _ _ _ => k b ob q, fun b ob q _ _ _ => ⟨ob.slots, k b ob q⟩, fun _ _ _ n _ => n, fun b ob q _ => ⟨ob, k b ob q⟩, fun _ _ q => q, fun _ _ _ q => q, fun _ ps q => ⟨#[], by rw [q]; simp⟩⟩
theorem Un.refl : Un fs ex H H h h := Un.kept fun _ _ q => q
theorem Un.laid (k : ∀ b u, h.get? b = some u → h'.get? b = some u) (hp : h.objs.size ≤ a) (hn : H a = none) : Un fs ex H (upd H a o) h h' where
  keep := fun b u q _ _ _ => k b u q
  slot := fun b u q _ _ _ => ⟨u.slots, k b u q⟩
  free := fun b u q n _ => by rw [upd_ne (Nat.ne_of_lt (Nat.lt_of_lt_of_le (Heap.lt_size q) hp))]; exact n
  there := fun b u q _ => ⟨u, k b u q⟩
  tups := fun b xs q => by rw [upd_ne (ne_of_none q hn)]; exact q
  frzs := fun b u xs q => by rw [upd_ne (ne_of_none q hn)]; exact q
  tbls := fun b ps q => ⟨#[], by rw [upd_ne (ne_of_none q hn), q]; simp⟩
theorem Un.write (mu : Mut (H x)) (he : e = x ∨ H e = some (.own x)) (k : ∀ b u, b ≠ e → h.get? b = some u → h'.get? b = some u) (heo : ∃ u, h'.get? e = some u) : Un fs ex H (upd H x o) h h' := by
  have hx : ∀ b, H b = none → b ≠ x := fun b n z => by subst z; rw [n] at mu; exact mu
  have hb : ∀ b, H b = none → b ≠ e := fun b n z => by
    subst z
    rcases he with r | r
    · exact hx b n r
    · rw [n] at r; cases r
  have hm : ∀ b u, H b = some u → ¬ Mut (some u) → b ≠ x := fun b u q nm z => by subst z; rw [q] at mu; exact nm mu
  refine ⟨fun b u q n _ _ => k b u (hb b n) q, fun b u q n _ _ => ⟨u.slots, k b u (hb b n) q⟩, fun b u q n _ => by rw [upd_ne (hx b n)]; exact n, fun b u q _ => ?_,
    fun b xs q => by rw [upd_ne (hm b _ q fun z => z)]; exact q, fun b u xs q => by rw [upd_ne (hm b _ q fun z => z)]; exact q, fun b ps q => ⟨#[], by rw [upd_ne (hm b _ q fun z => z), q]; simp⟩⟩
  by_cases hbe : b = e
  · subst hbe; exact heo
  · exact ⟨u, k b u hbe q⟩
end
def trk (h : Heap) (H : Hp) : List Addr := (List.range h.objs.size).filter fun a => (H a).isSome
def hidT (h : Heap) (H : Hp) : Heap := PySem.W.hideAll h (trk h H)
theorem hidT_size (h : Heap) (H : Hp) : (hidT h H).objs.size = h.objs.size := PySem.W.hideAll_size _ _
theorem hidT_get {h : Heap} {H : Hp} {b : Addr} {o : Obj} (e : h.get? b = some o) (n : H b = none) : (hidT h H).get? b = some o :=
  PySem.W.hideAll_get _ e fun hm => by
    have q : (H b).isSome = true := (List.mem_filter.mp hm).2
    rw [n] at q; simp at q
theorem of_hidT {h : Heap} {H : Hp} {b : Addr} {o : Obj} (e : (hidT h H).get? b = some o) : h.get? b = some o ∧ H b = none := by
  have e' : h.get? b = some o := PySem.W.of_hideAll (trk h H) e
  refine ⟨e', ?_⟩
  cases q : H b with
  | none => rfl
  | some x =>
    have hm : b ∈ trk h H := List.mem_filter.mpr ⟨List.mem_range.mpr (Heap.lt_size e'), by simp [q]⟩
    have z : (hidT h H).get? b = none := PySem.W.hideAll_none (trk h H) hm
    rw [z] at e; cases e
def allNews (g h : Heap) (L : Addr) : List (Addr × Obj) := (List.range h.objs.size).filterMap fun a => if a = L ∨ (g.get? a).isSome = true then none else (h.get? a).map fun o => (a, o)
theorem mem_allNews {g h : Heap} {L a : Addr} {o : Obj} (h1 : a ≠ L) (h2 : g.get? a = none) (h3 : h.get? a = some o) : (a, o) ∈ allNews g h L :=
  List.mem_filterMap.mpr ⟨a, List.mem_range.mpr (Heap.lt_size h3), by simp [h1, h2, h3]⟩
theorem of_mem_allNews {g h : Heap} {L : Addr} {p : Addr × Obj} (hp : p ∈ allNews g h L) : p.1 ≠ L ∧ g.get? p.1 = none ∧ h.get? p.1 = some p.2 := by
  obtain ⟨b, _, e⟩ := List.mem_filterMap.mp hp
  split at e
  · cases e
  · rename_i hn
    cases q : h.get? b with
    | none => rw [q] at e; simp at e
    | some u =>
      rw [q] at e
      simp only [Option.map_some, Option.some.injEq] at e
      subst e
      refine ⟨fun z => hn (.inl z), ?_, q⟩
      show g.get? b = none
      cases r : g.get? b with
      | none => rfl
      | some v => exact (hn (.inr (by simp [r]))).elim
def rest (g h : Heap) (L d : Addr) : List (Addr × Obj) := (allNews g h L).filter fun p => decide (p.1 ≠ d)
theorem news_all {g h : Heap} {L : Addr} : News g L h (allNews g h L) := fun p hp => let ⟨a, b, c⟩ := of_mem_allNews hp; ⟨c, a, b⟩
end L2
namespace L2
open PySem PySem.Spec PyProof.Rows
structure Mod (K : PySem.W.Frag) (mg : Str → Option Value) (base : Heap) : Prop where
  kin : K.In base
  glob : base.Ns mainGlobals mg
  blt : ∃ mb, base.Ns builtinsNs mb ∧ ∀ x : Str, x ≠ "__name__" → mb x = bootBuiltins x
  nolimit : base.NoLimit
  bmain : ∃ bm ob, mg "__builtins__" = some (.ref bm) ∧ bm ≠ builtinsNs ∧ base.get? bm = some ob ∧ ob.cls = .type "module" ∧ ob.dict = some builtinsNs ∧ ob.data = .plain
structure Cx where
  prog : Program
  w : World
  K : PySem.W.Frag
  mg : Str → Option Value
  base : Heap
  A : Around
  N : List Str
  s₀ : Shared
  H₀ : Hp
  env : Env
  outer : List Env
  stack : List Env
  ex : List Addr
  fn : Str → Bool
  calm : Bool
  pn : List (Addr × Obj)
  xe : Value → Shared → Prop
def frs (l : List Env) : List Addr := l.filterMap (·.frame)
abbrev Cx.fs (X : Cx) : List Addr := frs X.outer
def Vis (sc : Scope) (x : Str) : Prop := sc.names.lookup x = some .local ∨ sc.names.lookup x = some .cell ∨ sc.names.lookup x = some .free
def Loc (sc : Scope) (x : Str) : Prop := sc.names.lookup x = some .local ∨ sc.names.lookup x = some .cell
def Look (env : Env) (h : Heap) (m : Str → Option Value) (x : Str) (u : Value) : Prop :=
  (env.kindOf x = some .local ∧ m x = some u) ∨ ((env.kindOf x = some .cell ∨ env.kindOf x = some .free) ∧ ∃ c, env.cells.lookup x = some c ∧ h.IsCell c (some u))
structure Cx.Ok (X : Cx) : Prop where
  mod : Mod X.K X.mg X.base
  kind : X.env.scope.kind = .function
  glob : X.env.globals = mainGlobals
  blt : X.env.builtins = builtinsNs
  above : X.s₀.heap.objs.size ≤ X.env.locals
  inj : ∀ x y c, X.env.cells.lookup x = some c → X.env.cells.lookup y = some c → x = y
  has : ∀ x, (X.env.kindOf x = some .cell ∨ X.env.kindOf x = some .free) → ∃ c, X.env.cells.lookup x = some c
  cab : ∀ x c, X.fn x = true → X.env.cells.lookup x = some c → X.s₀.heap.objs.size ≤ c
  hd : X.calm = true → X.A.handled = none
  frames : X.A.frames = some X.stack
  stk : X.stack = X.outer ∨ (X.stack = X.env :: X.outer ∧ X.env.frame = some X.env.locals)
  exf : ∀ b ∈ X.ex, b ≠ X.env.locals ∧ ∀ x c, X.env.cells.lookup x = some c → c ≠ b
  bs : ∀ b o, X.base.get? b = some o → X.s₀.heap.get? b = some o ∧ X.H₀ b = none
  bsz : X.base.objs.size ≤ X.s₀.heap.objs.size
  noex : ∀ b o, X.base.get? b = some o → b ∉ X.ex
  exfs : ∀ b ∈ X.ex, b ∉ X.fs
  funs : X.s₀.heap.FunFrames X.base X.outer
  frf : ∀ b ∈ X.fs, X.H₀ b = none
structure Inv (X : Cx) (pins : List (Addr × Obj)) (σ : List (Option V)) (H : Hp) (s : Shared) : Prop where
  ok : X.Ok
  os : s.os = X.s₀.os
  bare : AllBare s.gens
  base : Un X.fs X.ex X.H₀ H X.s₀.heap s.heap
  loc : ∃ m, s.heap.Ns X.env.locals m ∧ ∀ (i : Nat) (x : Str) (v : V), X.N[i]? = some x → σ[i]? = some (some v) → Vis X.env.scope x → ∃ u, RelV v u ∧ Look X.env s.heap m x u
  cell : ∀ x c, X.env.cells.lookup x = some c → ∃ v, s.heap.IsCell c v
  free : H X.env.locals = none
  freeC : ∀ x c, X.env.cells.lookup x = some c → H c = none ∨ (X.fn x = false ∧ ∃ o u, H c = some (.frz o u))
  pin : ∀ p ∈ X.pn ++ pins, s.heap.get? p.1 = some p.2 ∧ H p.1 = none ∧ p.1 ≠ X.env.locals ∧ p.1 ∉ X.fs ∧ ∀ v, p.2.data ≠ .cell v
  hok : HOk X.prog X.w H s.heap
  len : σ.length = X.N.length
section
variable {X : Cx} {pins : List (Addr × Obj)} {σ : List (Option V)} {H H' : Hp} {s : Shared} {h' : Heap}
theorem Cx.Ok.nofr (ok : X.Ok) {b : Addr} {o : Obj} (e : X.base.get? b = some o) : b ∉ X.fs := fun hb => by
  have := (ok.funs.mem hb).1
  rw [e] at this; cases this
theorem Inv.bs (I : Inv X pins σ H s) : ∀ b o, X.base.get? b = some o → s.heap.get? b = some o ∧ H b = none := fun b o e =>
  ⟨I.base.keep b o (I.ok.bs b o e).1 (I.ok.bs b o e).2 (I.ok.nofr e) (I.ok.noex b o e), I.base.free b o (I.ok.bs b o e).1 (I.ok.bs b o e).2 (I.ok.noex b o e)⟩
theorem Inv.bk (I : Inv X pins σ H s) : ∀ b o, X.base.get? b = some o → s.heap.get? b = some o := fun b o e => (I.bs b o e).1
theorem Inv.mod (I : Inv X pins σ H s) : Mod X.K X.mg X.base := I.ok.mod
theorem Inv.kIn (I : Inv X pins σ H s) : X.K.In s.heap := I.ok.mod.kin.keeps I.bk
theorem Inv.fr (I : Inv X pins σ H s) : ∃ m, Fr X.base X.env.locals s.heap m :=
  let ⟨m, hn, _⟩ := I.loc
  ⟨m, hn, I.bk, Nat.le_trans I.ok.bsz I.ok.above⟩
theorem Inv.lt (I : Inv X pins σ H s) : X.env.locals < s.heap.objs.size := let ⟨_, hn, _⟩ := I.loc; hn.lt
theorem Inv.sz (I : Inv X pins σ H s) : X.s₀.heap.objs.size ≤ s.heap.objs.size := Nat.le_trans I.ok.above (Nat.le_of_lt I.lt)
theorem Inv.nofs (I : Inv X pins σ H s) {a : Addr} (h : s.heap.objs.size ≤ a) : a ∉ X.fs := fun hb => by
  obtain ⟨_, o, ho, _⟩ := I.ok.funs.mem hb
  exact absurd (Nat.lt_of_lt_of_le (Heap.lt_size ho) (Nat.le_trans I.sz h)) (Nat.lt_irrefl _)
theorem Inv.cne (I : Inv X pins σ H s) : ∀ x c, X.env.cells.lookup x = some c → c ≠ X.env.locals := fun x c e z => by
  obtain ⟨v, o, ho, hd⟩ := I.cell x c e
  obtain ⟨m, ⟨o', es, ep, ho', hd', _⟩, _⟩ := I.loc
  rw [z, ho'] at ho; cases ho; rw [hd'] at hd; cases hd
theorem Inv.funs (I : Inv X pins σ H s) : s.heap.FunFrames X.base X.outer := by
  have all : ∀ (l : List Env), (∀ b ∈ frs l, b ∈ X.fs) → X.s₀.heap.FunFrames X.base l → s.heap.FunFrames X.base l := by
    intro l
    induction l with
    | nil => intro _ _; trivial
    | cons env r ih =>
      intro hs hl
      obtain ⟨hk, ⟨L, o, hf, hn, ho, hd⟩, hr⟩ := hl
      have hL : L ∈ X.fs := hs L (by unfold frs; rw [List.filterMap_cons, hf]; exact List.mem_cons_self)
      obtain ⟨sl, e⟩ := I.base.slot L o ho (I.ok.frf L hL) hL fun z => I.ok.exfs L z hL
      exact ⟨hk, ⟨L, _, hf, hn, e, hd⟩, ih (fun b hb => hs b (by unfold frs; rw [List.filterMap_cons, hf]; exact List.mem_cons_of_mem _ hb)) hr⟩
  exact all X.outer (fun _ hb => hb) I.ok.funs
theorem Inv.stack (I : Inv X pins σ H s) : s.heap.FunFrames X.base X.stack := by
  rcases I.ok.stk with e | ⟨e, hf⟩
  · rw [e]; exact I.funs
  · rw [e]
    obtain ⟨m, hn, _⟩ := I.loc
    refine .cons (by rw [I.ok.kind]; decide) hf hn ?_ I.funs
    exact Heap.get?_none_of_le (Nat.le_trans I.ok.bsz I.ok.above)
theorem Inv.stkSub (I : Inv X pins σ H s) : ∀ b ∈ frs X.stack, b ∈ X.env.locals :: X.fs := fun b hb => by
  rcases I.ok.stk with e | ⟨e, hf⟩
  · rw [e] at hb; exact List.mem_cons_of_mem _ hb
  · rw [e] at hb
    unfold frs at hb
    rw [List.filterMap_cons, hf] at hb
    exact hb
theorem Inv.stkFree (I : Inv X pins σ H s) : ∀ b ∈ frs X.stack, H b = none := fun b hb => by
  rcases List.mem_cons.mp (I.stkSub b hb) with e | hb
  · rw [e]; exact I.free
  · obtain ⟨_, o, ho, _⟩ := I.ok.funs.mem hb
    exact I.base.free b o ho (I.ok.frf b hb) fun z => I.ok.exfs b z hb
theorem Inv.step {g' : Array GenState} {t' : Nat} {d' : Drawn} {ch : List Addr} (I : Inv X pins σ H s)
    (hch : ∀ b ∈ ch, (b ∈ X.ex ∨ X.s₀.heap.objs.size ≤ b) ∧ b ≠ X.env.locals ∧ (∀ x c, X.env.cells.lookup x = some c → c ≠ b) ∧ ∀ p ∈ X.pn ++ pins, p.1 ≠ b)
    (keep : ∀ b o, b ≠ X.env.locals → b ∉ X.fs → b ∉ ch → s.heap.get? b = some o → H b = none → h'.get? b = some o)
    (slot : ∀ b o, b ≠ X.env.locals → b ∈ X.fs → b ∉ ch → s.heap.get? b = some o → H b = none → ∃ sl, h'.get? b = some { o with slots := sl }) (free : ∀ b o, b ∉ ch → s.heap.get? b = some o → H b = none → H' b = none)
    (there : ∀ b o, b ∉ ch → s.heap.get? b = some o → ∃ o', h'.get? b = some o')
    (tups : ∀ b xs, H b = some (.tup xs) → H' b = some (.tup xs)) (frzs : ∀ b o u, H b = some (.frz o u) → H' b = some (.frz o u)) (tbls : ∀ b ps, H b = some (.tbl ps) → ∃ more, H' b = some (.tbl (ps ++ more)))
    (ns : ∀ m, s.heap.Ns X.env.locals m → h'.Ns X.env.locals m) (hok : HOk X.prog X.w H' h') (hg : AllBare g') :
    Inv X pins σ H' { s with heap := h', gens := g', drawn := d', toks := t' } := by
  have neL : ∀ b o, X.s₀.heap.get? b = some o → b ≠ X.env.locals := fun b o e => Nat.ne_of_lt (Nat.lt_of_lt_of_le (Heap.lt_size e) I.ok.above)
  have neC : ∀ b o, X.s₀.heap.get? b = some o → b ∉ X.ex → b ∉ ch := fun b o e hx hb => by
    rcases (hch b hb).1 with z | z
    · exact hx z
    · exact absurd (Nat.lt_of_lt_of_le (Heap.lt_size e) z) (Nat.lt_irrefl _)
  have cellK : ∀ x c, X.env.cells.lookup x = some c → ∀ v, s.heap.IsCell c v → h'.IsCell c v := fun x c e v ⟨o, ho, hd⟩ => by
    have nch : c ∉ ch := fun z => (hch c z).2.2.1 x c e rfl
    rcases I.freeC x c e with nn | ⟨_, o', u, nn⟩
    · by_cases hc : c ∈ X.fs
      · obtain ⟨sl, q⟩ := slot c o (I.cne x c e) hc nch ho nn
        exact ⟨_, q, hd⟩
      · exact ⟨o, keep c o (I.cne x c e) hc nch ho nn, hd⟩
    · have e1 : s.heap.get? c = some o' := (I.hok c _ nn).1
      have e2 : h'.get? c = some o' := (hok c _ (frzs c o' u nn)).1
      rw [ho] at e1; cases e1
      exact ⟨o, e2, hd⟩
  refine ⟨I.ok, I.os, hg, ⟨fun b o e n hb hx => ?_, fun b o e n hb hx => ?_, fun b o e n hx => ?_, fun b o e hx => ?_, fun b xs e => tups b xs (I.base.tups b xs e), fun b o xs e => frzs b o xs (I.base.frzs b o xs e), fun b ps e => ?_⟩, ?_, fun x c e => ?_, ?_, fun x c e => ?_, fun p hp => ?_, hok, I.len⟩
  · exact keep b o (neL b o e) hb (neC b o e hx) (I.base.keep b o e n hb hx) (I.base.free b o e n hx)
  · obtain ⟨sl, e1⟩ := I.base.slot b o e n hb hx
    obtain ⟨sl', e2⟩ := slot b _ (neL b o e) hb (neC b o e hx) e1 (I.base.free b o e n hx)
    exact ⟨sl', e2⟩
  · obtain ⟨o', e1⟩ := I.base.there b o e hx
    exact free b o' (neC b o e hx) e1 (I.base.free b o e n hx)
  · obtain ⟨o', e1⟩ := I.base.there b o e hx
    exact there b o' (neC b o e hx) e1
  · obtain ⟨m1, e1⟩ := I.base.tbls b ps e
    obtain ⟨m2, e2⟩ := tbls b _ e1
    exact ⟨m1 ++ m2, by rw [e2, Array.append_assoc]⟩
  · obtain ⟨m, hn, hl⟩ := I.loc
    refine ⟨m, ns m hn, fun i x v e1 e2 e3 => ?_⟩
    obtain ⟨u, r, l⟩ := hl i x v e1 e2 e3
    refine ⟨u, r, ?_⟩
    rcases l with l | ⟨k, c, e, z⟩
    · exact .inl l
    · exact .inr ⟨k, c, e, cellK x c e _ z⟩
  · obtain ⟨v, z⟩ := I.cell x c e
    exact ⟨v, cellK x c e v z⟩
  · obtain ⟨m, ⟨o, _, _, ho, _⟩, _⟩ := I.loc
    exact free _ o (fun z => (hch _ z).2.1 rfl) ho I.free
  · obtain ⟨v, o, ho, hd⟩ := I.cell x c e
    rcases I.freeC x c e with nn | ⟨hf, o', u, nn⟩
    · exact .inl (free c o (fun z => (hch c z).2.2.1 x c e rfl) ho nn)
    · exact .inr ⟨hf, o', u, frzs c o' u nn⟩
  · obtain ⟨e, n, ne, nf, d⟩ := I.pin p hp
    have nch : p.1 ∉ ch := fun z => (hch p.1 z).2.2.2 p hp rfl
    exact ⟨keep p.1 p.2 ne nf nch e n, free p.1 p.2 nch e n, ne, nf, d⟩
theorem Inv.un {t' : Nat} (I : Inv X pins σ H s) (u : Un X.fs [] H H' s.heap h') (hok : HOk X.prog X.w H' h') : Inv X pins σ H' { s with heap := h', toks := t' } := by
  obtain ⟨m, ⟨o, es, ep, ho, r⟩, _⟩ := id I.loc
  obtain ⟨sl, hL⟩ := u.any ho I.free (by simp)
  exact I.step (g' := s.gens) (d' := s.drawn) (ch := []) (fun _ z => nomatch z) (fun b o _ hb _ e n => u.keep b o e n hb (by simp)) (fun b o _ hb _ e n => u.slot b o e n hb (by simp)) (fun b o _ e n => u.free b o e n (by simp)) (fun b o _ e => u.there b o e (by simp)) u.tups u.frzs u.tbls (fun m' hm => by
    obtain ⟨o', es', ep', ho', r'⟩ := hm
    rw [ho] at ho'; cases ho'
    exact ⟨_, es', ep', hL, r'⟩) hok I.bare
theorem Inv.call {g' : Array GenState} {t' : Nat} {d' : Drawn} {ch : List Addr} (I : Inv X pins σ H s) (u : Un (frs X.stack) ch H H' s.heap h') (hok : HOk X.prog X.w H' h') (hg : AllBare g')
    (hch : ∀ b ∈ ch, (b ∈ X.ex ∨ X.s₀.heap.objs.size ≤ b) ∧ b ≠ X.env.locals ∧ (∀ x c, X.env.cells.lookup x = some c → c ≠ b) ∧ ∀ p ∈ X.pn ++ pins, p.1 ≠ b) :
    Inv X pins σ H' { s with heap := h', gens := g', drawn := d', toks := t' } := by
  obtain ⟨m, ⟨o, es, ep, ho, r⟩, _⟩ := id I.loc
  obtain ⟨sl, hL⟩ := u.any ho I.free fun z => (hch _ z).2.1 rfl
  exact I.step (ch := ch) hch (fun b o hL hb hc e n => u.keep b o e n (fun z => (List.mem_cons.mp (I.stkSub b z)).elim hL hb) hc) (fun b o _ _ hc e n => u.any e n hc) (fun b o hc e n => u.free b o e n hc) (fun b o hc e => u.there b o e hc) u.tups u.frzs u.tbls (fun m' hm => by
    obtain ⟨o', es', ep', ho', r'⟩ := hm
    rw [ho] at ho'; cases ho'
    exact ⟨_, es', ep', hL, r'⟩) hok hg
theorem Inv.turned {t' : Nat} {it : Addr} (I : Inv X pins σ H s) (k : ∀ b o, b ≠ it → s.heap.get? b = some o → h'.get? b = some o) (hn : H it = none) (hL : it ≠ X.env.locals)
    (h1 : it ∈ X.ex ∨ X.s₀.heap.objs.size ≤ it) (h2 : ∀ x c, X.env.cells.lookup x = some c → c ≠ it) (h3 : ∀ p ∈ X.pn ++ pins, p.1 ≠ it) : Inv X pins σ H { s with heap := h', toks := t' } := by
  have nit : ∀ b u, H b = some u → b ≠ it := fun b u e z => by rw [z, hn] at e; cases e
  refine I.step (g' := s.gens) (d' := s.drawn) (ch := [it]) (fun b hb => ?_) (fun b o _ _ hc e _ => k b o (fun z => hc (by simp [z])) e) (fun b o _ _ hc e _ => ⟨o.slots, k b o (fun z => hc (by simp [z])) e⟩) (fun _ _ _ _ n => n)
    (fun b o hc e => ⟨o, k b o (fun z => hc (by simp [z])) e⟩) (fun _ _ e => e) (fun _ _ _ e => e) (fun b ps e => ⟨#[], by rw [e]; simp⟩) (fun m hm => ?_) (fun b u e => ?_) I.bare
  · have e : b = it := by simpa using hb
    subst e
    exact ⟨h1, hL, h2, h3⟩
  · obtain ⟨o, es, ep, ho, r⟩ := hm
    exact ⟨o, es, ep, k _ o (Ne.symm hL) ho, r⟩
  · refine (I.hok b u e).stay (fun c v hc q => k c v ?_ q) (fun _ q => q) fun _ _ q => q
    rcases hc with z | z
    · rw [z]; exact nit b u e
    · exact nit c _ z
theorem Inv.tok (I : Inv X pins σ H s) (t : Nat) : Inv X pins σ H { s with toks := t } := I.un (h' := s.heap) (t' := t) Un.refl I.hok
theorem Inv.kept {t' : Nat} (I : Inv X pins σ H s) (k : ∀ b u, s.heap.get? b = some u → h'.get? b = some u) : Inv X pins σ H { s with heap := h', toks := t' } := I.un (Un.kept k) (I.hok.kept k)
theorem Inv.laid {a : Addr} {o : HO} {t' : Nat} (I : Inv X pins σ H s) (k : ∀ b u, s.heap.get? b = some u → h'.get? b = some u) (hp : s.heap.objs.size ≤ a) (new : ObjOk X.prog X.w (upd H a o) h' a o) :
    Inv X pins σ (upd H a o) { s with heap := h', toks := t' } := I.un (Un.laid k hp (I.hok.fresh hp)) (I.hok.laid k hp new)
theorem Inv.write {x e : Addr} {o : HO} {t' : Nat} (I : Inv X pins σ H s) (mu : Mut (H x)) (he : e = x ∨ H e = some (.own x)) (k : ∀ b u, b ≠ e → s.heap.get? b = some u → h'.get? b = some u) (heo : ∃ u, h'.get? e = some u)
    (new : ObjOk X.prog X.w (upd H x o) h' x o) : Inv X pins σ (upd H x o) { s with heap := h', toks := t' } := I.un (Un.write mu he k heo) (I.hok.write mu he k heo new)
theorem Inv.pins_of {pins' : List (Addr × Obj)} (I : Inv X pins σ H s) (h : ∀ p ∈ pins', s.heap.get? p.1 = some p.2 ∧ H p.1 = none ∧ p.1 ≠ X.env.locals ∧ p.1 ∉ X.fs ∧ ∀ v, p.2.data ≠ .cell v) : Inv X pins' σ H s :=
  ⟨I.ok, I.os, I.bare, I.base, I.loc, I.cell, I.free, I.freeC, fun p hp => (List.mem_append.mp hp).elim (fun z => I.pin p (List.mem_append_left _ z)) (h p), I.hok, I.len⟩
theorem nodup_ix {N : List Str} (hN : N.Nodup) {i j : Nat} {x : Str} (a : N[i]? = some x) (b : N[j]? = some x) : i = j := by
  obtain ⟨h1, e1⟩ := List.getElem?_eq_some_iff.mp a
  obtain ⟨h2, e2⟩ := List.getElem?_eq_some_iff.mp b
  exact (List.getElem_inj hN).mp (e1.trans e2.symm)
theorem store_ok2 {M : Model} {A : Around} {E : Value → Shared → Prop} {i : Nat} {x : Str} {v : V} {u : Value} {Q : Unit → Shared → Prop} (I : Inv X pins σ H s) (hN : X.N.Nodup) (hi : X.N[i]? = some x) (hx : Loc X.env.scope x) (r : RelV v u)
    (h : ∀ s', Inv X pins (σ.set i (some v)) H s' → (∃ a, Heap.SameBut a s.heap s'.heap ∧ (a = X.env.locals ∨ X.env.cells.lookup x = some a)) → Q () s') (hf : X.fn x = true ∨ X.env.scope.names.lookup x = some .local := by first | exact .inl rfl | exact .inr rfl | assumption) : wpAny M A (storeName X.env x u) Q E s := by
  obtain ⟨m, hn, hl⟩ := id I.loc
  have hcls : (X.env.scope.kind == .class || (X.env.scope.kind == .module && X.env.locals != X.env.globals)) = false := by rw [I.ok.kind]; rfl
  have hiσ : i < σ.length := by rw [I.len]; exact (List.getElem?_eq_some_iff.mp hi).1
  have cne := I.cne
  have tracked : ∀ {a : Addr} {h' : Heap}, (∃ o, s.heap.get? a = some o ∧ H a = none) → Heap.SameBut a s.heap h' → HOk X.prog X.w H h' := fun {a h'} ha hs b ob e => by
    obtain ⟨_, _, hfree⟩ := ha
    refine (I.hok b ob e).stay (fun c w' hc q => (hs.2 c ?_).trans q) (fun _ q => q) fun _ _ q => q
    rintro rfl
    rcases hc with rfl | hc
    · rw [hfree] at e; cases e
    · rw [hfree] at hc; cases hc
  rcases hx with hk | hk
  · refine wpAny_storeName_local hk hn (fun h' hn' hs => ?_) hcls
    obtain ⟨oL, _, _, hoL, _⟩ := id hn
    refine h _ ⟨I.ok, I.os, I.bare, ⟨fun b o e n hb hx => ?_, fun b o e n hb hx => ?_, I.base.free, fun b o e hx => ?_, I.base.tups, I.base.frzs, I.base.tbls⟩, ⟨_, hn', fun j y v' e1 e2 e3 => ?_⟩, fun y c e => ?_, I.free, I.freeC, fun p hp => ?_, tracked ⟨oL, hoL, I.free⟩ hs, by simpa using I.len⟩ ⟨_, hs, .inl rfl⟩
    · exact (hs.2 b (Nat.ne_of_lt (Nat.lt_of_lt_of_le (Heap.lt_size e) I.ok.above))).trans (I.base.keep b o e n hb hx)
    · obtain ⟨sl, e1⟩ := I.base.slot b o e n hb hx
      exact ⟨sl, (hs.2 b (Nat.ne_of_lt (Nat.lt_of_lt_of_le (Heap.lt_size e) I.ok.above))).trans e1⟩
    · obtain ⟨o', e1⟩ := I.base.there b o e hx
      exact ⟨o', (hs.2 b (Nat.ne_of_lt (Nat.lt_of_lt_of_le (Heap.lt_size e) I.ok.above))).trans e1⟩
    · by_cases hj : j = i
      · subst hj
        rw [hi] at e1; cases e1
        rw [List.getElem?_set_self hiσ] at e2
        cases e2
        exact ⟨u, r, .inl ⟨hk, by simp⟩⟩
      · rw [List.getElem?_set_ne (Ne.symm hj)] at e2
        obtain ⟨u', r', q⟩ := hl j y v' e1 e2 e3
        refine ⟨u', r', ?_⟩
        rcases q with ⟨k, e⟩ | ⟨k, c, e, z⟩
        · refine .inl ⟨k, ?_⟩
          have : y ≠ x := fun e => hj (nodup_ix hN e1 (e ▸ hi))
          simp [this, e]
        · exact .inr ⟨k, c, e, z.sameBut hs (cne y c e)⟩
    · obtain ⟨w', z⟩ := I.cell y c e
      exact ⟨w', z.sameBut hs (cne y c e)⟩
    · obtain ⟨e, n, ne, nf, d⟩ := I.pin p hp
      exact ⟨(hs.2 p.1 ne).trans e, n, ne, nf, d⟩
  · have hfn : X.fn x = true := by
      rcases hf with z | z
      · exact z
      · rw [z] at hk; cases hk
    obtain ⟨c, hc⟩ := I.ok.has x (.inl hk)
    obtain ⟨w', z⟩ := I.cell x c hc
    refine wpAny_storeName_cell I.ok.kind hk hc z (fun h' hc' hs => ?_)
    obtain ⟨oc, hoc, hocd⟩ := id z
    refine h { s with heap := h' } ⟨I.ok, I.os, I.bare, ⟨fun b o e n hb hx => ?_, fun b o e n hb hx => ?_, I.base.free, fun b o e hx => ?_, I.base.tups, I.base.frzs, I.base.tbls⟩, ⟨m, hn.sameBut hs (Ne.symm (cne x c hc)), fun j y v' e1 e2 e3 => ?_⟩, fun y c' e => ?_, I.free, I.freeC, fun p hp => ?_, tracked ⟨oc, hoc, (I.freeC x c hc).resolve_right fun z => by rw [hfn] at z; cases z.1⟩ hs, by simpa using I.len⟩ ⟨c, hs, .inr hc⟩
    · exact (hs.2 b (Nat.ne_of_lt (Nat.lt_of_lt_of_le (Heap.lt_size e) (I.ok.cab x c hfn hc)))).trans (I.base.keep b o e n hb hx)
    · obtain ⟨sl, e1⟩ := I.base.slot b o e n hb hx
      exact ⟨sl, (hs.2 b (Nat.ne_of_lt (Nat.lt_of_lt_of_le (Heap.lt_size e) (I.ok.cab x c hfn hc)))).trans e1⟩
    · obtain ⟨o', e1⟩ := I.base.there b o e hx
      exact ⟨o', (hs.2 b (Nat.ne_of_lt (Nat.lt_of_lt_of_le (Heap.lt_size e) (I.ok.cab x c hfn hc)))).trans e1⟩
    · by_cases hj : j = i
      · subst hj
        rw [hi] at e1; cases e1
        rw [List.getElem?_set_self hiσ] at e2
        cases e2
        exact ⟨u, r, .inr ⟨.inl hk, c, hc, hc'⟩⟩
      · rw [List.getElem?_set_ne (Ne.symm hj)] at e2
        obtain ⟨u', r', q⟩ := hl j y v' e1 e2 e3
        refine ⟨u', r', ?_⟩
        rcases q with q | ⟨k, c', e, z'⟩
        · exact .inl q
        · refine .inr ⟨k, c', e, z'.sameBut hs ?_⟩
          rintro rfl
          exact hj (nodup_ix hN e1 (I.ok.inj _ _ _ e hc ▸ hi))
    · by_cases hcc : c' = c
      · subst hcc; exact ⟨_, hc'⟩
      · obtain ⟨w2, z2⟩ := I.cell y c' e
        exact ⟨w2, z2.sameBut hs hcc⟩
    · obtain ⟨e, n, ne, nf, d⟩ := I.pin p hp
      refine ⟨(hs.2 p.1 ?_).trans e, n, ne, nf, d⟩
      intro q
      rw [q, hoc] at e
      have q' : oc = p.2 := Option.some.inj e
      exact d w' (by rw [← q']; exact hocd)
theorem store_ok {M : Model} {A : Around} {E : Value → Shared → Prop} {i : Nat} {x : Str} {v : V} {u : Value} {Q : Unit → Shared → Prop} (I : Inv X pins σ H s) (hN : X.N.Nodup) (hi : X.N[i]? = some x) (hx : Loc X.env.scope x) (r : RelV v u)
    (h : ∀ s', Inv X pins (σ.set i (some v)) H s' → Q () s') (hf : X.fn x = true ∨ X.env.scope.names.lookup x = some .local := by first | exact .inl rfl | exact .inr rfl | assumption) : wpAny M A (storeName X.env x u) Q E s :=
  store_ok2 I hN hi hx r (fun s' I' _ => h s' I') hf
theorem Inv.call' {s' : Shared} {ch : List Addr} (I : Inv X pins σ H s) (ho : s'.os = s.os) (u : Un (frs X.stack) ch H H' s.heap s'.heap) (hok : HOk X.prog X.w H' s'.heap) (hg : AllBare s'.gens)
    (hch : ∀ b ∈ ch, (b ∈ X.ex ∨ X.s₀.heap.objs.size ≤ b) ∧ b ≠ X.env.locals ∧ (∀ x c, X.env.cells.lookup x = some c → c ≠ b) ∧ ∀ p ∈ X.pn ++ pins, p.1 ≠ b) : Inv X pins σ H' s' := by
  obtain ⟨h', g', d', t', o'⟩ := s'
  have e : o' = s.os := ho
  subst e
  exact I.call (g' := g') (t' := t') (d' := d') u hok hg hch
end
abbrev XK := Value → Option Addr → Hp → Prop
abbrev St := List (Option V)
abbrev VK := V → Hp → Prop
abbrev TE := St → Hp → VK → Prop
abbrev TT := St → Hp → (Bool → Hp → Prop) → Prop
abbrev TA := St → Hp → (List V → Hp → Prop) → Prop
structure Ends where
  nx : St → Hp → Prop
  rt : VK
  bk : St → Hp → Prop := fun _ _ => False
  ct : St → Hp → Prop := fun _ _ => False
abbrev TS := Ends → St → Hp → Prop
def EP (X : Cx) (pins : List (Addr × Obj)) (σ : St) (Q : VK) (u : Value) (s' : Shared) : Prop := ∃ v H', Inv X pins σ H' s' ∧ RelV v u ∧ Q v H'
def TP (X : Cx) (pins : List (Addr × Obj)) (σ : St) (Q : Bool → Hp → Prop) (b : Bool) (s' : Shared) : Prop := ∃ H', Inv X pins σ H' s' ∧ Q b H'
def AP (X : Cx) (pins : List (Addr × Obj)) (σ : St) (Q : List V → Hp → Prop) (us : List Value) (s' : Shared) : Prop := ∃ vs H', Inv X pins σ H' s' ∧ Vals vs us ∧ Q vs H'
def SP (X : Cx) (pins : List (Addr × Obj)) (D : Ends) (f : Flow) (s' : Shared) : Prop :=
  match f with
  | .next => ∃ σ' H', Inv X pins σ' H' s' ∧ D.nx σ' H'
  | .brk => ∃ σ' H', Inv X pins σ' H' s' ∧ D.bk σ' H'
  | .cont => ∃ σ' H', Inv X pins σ' H' s' ∧ D.ct σ' H'
  | .ret u => ∃ v σ' H', Inv X pins σ' H' s' ∧ RelV v u ∧ D.rt v H'
namespace Zu
set_option allowUnsafeReducibility true in
@[scoped irreducible] def _root_.L2.PE (X : Cx) (e : Expr) (t : TE) : Prop :=
  ∀ (pins : List (Addr × Obj)) (s : Shared) (σ : St) (H : Hp) (Q : VK), Inv X pins σ H s → t σ H Q → wpAny (model X.prog X.w) X.A (eval e X.env) (EP X pins σ Q) X.xe s
end Zu
namespace Zu
set_option allowUnsafeReducibility true in
@[scoped irreducible] def _root_.L2.PT (X : Cx) (e : Expr) (t : TT) : Prop :=
  ∀ (pins : List (Addr × Obj)) (s : Shared) (σ : St) (H : Hp) (Q : Bool → Hp → Prop), Inv X pins σ H s → t σ H Q → wpAny (model X.prog X.w) X.A (isTrue e X.env (eval e X.env)) (TP X pins σ Q) X.xe s
end Zu
namespace Zu
set_option allowUnsafeReducibility true in
@[scoped irreducible] def _root_.L2.PW (X : Cx) (e : Expr) (t : TT) : Prop :=
  ∀ (whole : Sem Value) (pins : List (Addr × Obj)) (s : Shared) (σ : St) (H : Hp) (Q : Bool → Hp → Prop), Inv X pins σ H s → t σ H Q → wpAny (model X.prog X.w) X.A (isTrue e X.env whole) (TP X pins σ Q) X.xe s
end Zu
theorem PW.pt {X : Cx} {e : Expr} {t : TT} (h : PW X e t) : PT X e t := h _
namespace Zu
set_option allowUnsafeReducibility true in
@[scoped irreducible] def _root_.L2.PA (X : Cx) (es : List Expr) (t : TA) : Prop :=
  ∀ (pos : Pos) (pins : List (Addr × Obj)) (s : Shared) (σ : St) (H : Hp) (Q : List V → Hp → Prop), Inv X pins σ H s → t σ H Q → wpAny (model X.prog X.w) X.A (spliced (backTo pos (starEach es X.env))) (AP X pins σ Q) X.xe s
end Zu
namespace Zu
set_option allowUnsafeReducibility true in
@[scoped irreducible] def _root_.L2.PS (X : Cx) (st : Stmt) (t : TS) : Prop :=
  ∀ (pins : List (Addr × Obj)) (s : Shared) (σ : St) (H : Hp) (D : Ends), Inv X pins σ H s → t D σ H → wpAny (model X.prog X.w) X.A (exec st X.env) (SP X pins D) X.xe s
end Zu
namespace Zu
set_option allowUnsafeReducibility true in
@[scoped irreducible] def _root_.L2.PSs (X : Cx) (st : List Stmt) (t : TS) : Prop :=
  ∀ (pins : List (Addr × Obj)) (s : Shared) (σ : St) (H : Hp) (D : Ends), Inv X pins σ H s → t D σ H → wpAny (model X.prog X.w) X.A (execs st X.env) (SP X pins D) X.xe s
end Zu
theorem thn {α : Type} {t : Sem α} {Q Q' : α → Shared → Prop} {M : Model} {A : Around} {E : Value → Shared → Prop} {s : Shared} (h : wpAny M A t Q E s) (hQ : ∀ a s, Q a s → Q' a s) : wpAny M A t Q' E s := wpAny_mono h hQ fun _ _ x => x
end L2
namespace L2
open PySem PySem.Spec PyProof.Rows
section
variable {X : Cx}
theorem bin {a b : Expr} {ta tb : TE} (ha : PE X a ta) (hb : PE X b tb) {pins : List (Addr × Obj)} {s : Shared} {σ : St} {H : Hp} {R : V → V → Hp → Prop} (I : Inv X pins σ H s) (h : ta σ H fun x H1 => tb σ H1 fun y H2 => R x y H2)
    {α : Type} {Q : α → Shared → Prop} {f : Value → Value → Sem α}
    (hf : ∀ v u s2 x y H2, Inv X pins σ H2 s2 → RelV x v → RelV y u → R x y H2 → wpAny (model X.prog X.w) X.A (f v u) Q X.xe s2) :
    wpAny (model X.prog X.w) X.A (eval a X.env) (fun v s₁ => wpAny (model X.prog X.w) X.A (eval b X.env) (fun u s₂ => wpAny (model X.prog X.w) X.A (f v u) Q X.xe s₂) X.xe s₁) X.xe s := by
  refine thn (ha pins s σ H _ I h) fun v s1 ⟨x, H1, I1, r1, q1⟩ => ?_
  refine thn (hb pins s1 σ H1 _ I1 q1) fun u s2 ⟨y, H2, I2, r2, q2⟩ => ?_
  exact hf v u s2 x y H2 I2 r1 r2 q2
def tVar (i : Nat) : TE := fun σ H Q => ∃ v, σ[i]? = some (some v) ∧ Q v H
def tC (v : V) : TE := fun _ H Q => Q v H
theorem pe_var {i : Nat} {x : Str} {pos : Pos} (hN : X.N[i]? = some x) (hv : Vis X.env.scope x) (hd : (x == ("__debug__" : Str)) = false := by decide) (hcd : (x == ("__classdict__" : Str)) = false := by decide) : PE X (.Name x pos) (tVar i) := by
  intro pins s σ H Q I h
  obtain ⟨v, e, h⟩ := h
  obtain ⟨m, hn, hl⟩ := I.loc
  obtain ⟨u, r, l⟩ := hl i x v hN e hv
  have fin : EP X pins σ Q u s := ⟨v, H, I, r, h⟩
  rcases l with ⟨hk, hm⟩ | ⟨hk, c, hc, hcell⟩
  · exact wpAny_Name (wpAny_loadName_local I.ok.kind hk hn hm fin) hd
  · rcases hk with hk | hk
    · exact wpAny_Name (wpAny_loadName_cell I.ok.kind hk hc hcell fin) hd
    · exact wpAny_Name (wpAny_loadName_free I.ok.kind hk hc hcell fin hcd) hd
theorem pe_int {i j pos} : PE X (.Constant (.int i) j pos) (tC (.int i)) := fun _ _ _ H _ I h => wpAny_Constant_int ⟨.int i, H, I.tok _, ⟨_, rfl⟩, h⟩
theorem pe_bl {b j pos} : PE X (.Constant (.bool b) j pos) (tC (.bl b)) := fun _ _ _ H _ I h => Constant_bool ⟨.bl b, H, I, rfl, h⟩
def Gl (X : Cx) (x : Str) : Prop := X.env.kindOf x = some .globalImplicit
theorem ld_glob {E : Value → Shared → Prop} {pins : List (Addr × Obj)} {s : Shared} {σ : St} {H : Hp} {x : Str} {u : Value} {pos : Pos} {Q : Value → Shared → Prop} (I : Inv X pins σ H s) (hg : Gl X x) (hm : X.mg x = some u) (h : Q u s)
    (hd : (x == ("__debug__" : Str)) = false := by decide) : wpAny (model X.prog X.w) X.A (eval (.Name x pos) X.env) Q E s :=
  Calls.Name_function_global I.ok.kind hg (Calls.loadGlobal_global (by rw [I.ok.glob]; exact I.mod.glob.keeps I.bk) hm h) hd
theorem ld_blt {E : Value → Shared → Prop} {pins : List (Addr × Obj)} {s : Shared} {σ : St} {H : Hp} {x : Str} {u : Value} {pos : Pos} {Q : Value → Shared → Prop} (I : Inv X pins σ H s) (hg : Gl X x) (hm : X.mg x = none) (hv : bootBuiltins x = some u) (h : Q u s)
    (hn : x ≠ "__name__" := by decide) (hd : (x == ("__debug__" : Str)) = false := by decide) : wpAny (model X.prog X.w) X.A (eval (.Name x pos) X.env) Q E s := by
  obtain ⟨mb, h1, h2⟩ := I.mod.blt
  exact Calls.Name_function_global I.ok.kind hg (Calls.loadGlobal_builtin (by rw [I.ok.glob]; exact I.mod.glob.keeps I.bk) hm (by rw [I.ok.blt]; exact h1.keeps I.bk) ((h2 x hn).trans hv) h) hd
theorem pe_bltn {x : Str} {v : V} {u : Value} {pos : Pos} (hg : Gl X x) (hm : X.mg x = none) (hv : bootBuiltins x = some u) (r : RelV v u) (hn : x ≠ "__name__" := by decide) (hd : (x == ("__debug__" : Str)) = false := by decide) : PE X (.Name x pos) (tC v) :=
  fun _ _ _ H _ I h => ld_blt I hg hm hv ⟨v, H, I, r, h⟩ hn hd
variable {a b : Expr} {ta tb : TE} {pos : Pos}
def PC (X : Cx) (op : CmpOp) (a b : Expr) (t : TE) : Prop :=
  ∀ (pins : List (Addr × Obj)) (s : Shared) (σ : St) (H : Hp) (Q : VK), Inv X pins σ H s → t σ H Q →
    wpAny (model X.prog X.w) X.A (eval a X.env) (fun v s₁ => wpAny (model X.prog X.w) X.A (eval b X.env) (fun u s₂ => wpAny (model X.prog X.w) X.A (compareOp op v u) (EP X pins σ Q) X.xe s₂) X.xe s₁) X.xe s
theorem nobehind (b : Expr) {op : CmpOp} (h : op ≠ .In) (h2 : op ≠ .NotIn) : behindInMarks op b = false := by
  have e1 : (op == CmpOp.In) = false := by cases op <;> first | rfl | exact absurd rfl h
  have e2 : (op == CmpOp.NotIn) = false := by cases op <;> first | rfl | exact absurd rfl h2
  cases b <;> simp [behindInMarks, e1, e2]
def tB (t : TE) : TT := fun σ H Q => t σ H fun x H1 => ∃ c, x = .bl c ∧ Q c H1
theorem pt_cmp {op : CmpOp} {t : TE} (h : PC X op a b t) (h1 : behindInMarks op b = false := by first | exact nobehind _ (by decide) (by decide) | rfl) : PT X (.Compare a [op] [b] pos) (tB t) := by
  intro pins s σ H Q I hw
  refine wpAny_isTrue_Compare1 (thn (h pins s σ H _ I hw) fun v s1 h1 => thn h1 fun u s2 h2 => thn h2 fun c s3 ⟨x, H1, I1, r1, q1⟩ => ?_) h1
  obtain ⟨d, rfl, q⟩ := q1
  cases r1
  exact wpAny_truthy_bool ⟨H1, I1, q⟩
theorem pt_val {e : Expr} {t : TE} (h : PE X e t) (he : ∀ whole, isTrue e X.env whole = (do let v ← whole; standAt e.pos; holding [v] (truthy v)) := by intro _; rfl) : PT X e (tB t) := by
  intro pins s σ H Q I hw
  refine isTrue_plain (thn (h pins s σ H _ I hw) fun v s1 ⟨x, H1, I1, r1, q1⟩ => ?_) (he _)
  obtain ⟨d, rfl, q⟩ := q1
  cases r1
  exact wpAny_truthy_bool ⟨H1, I1, q⟩
variable {tA tB' : TT} {rest : List Expr}
def tAnd (t u : TT) : TT := fun σ H Q => t σ H fun c H1 => if c = true then u σ H1 Q else Q false H1
def tOr (t u : TT) : TT := fun σ H Q => t σ H fun c H1 => if c = true then Q true H1 else u σ H1 Q
def tNot (t : TT) : TT := fun σ H Q => t σ H fun c H1 => Q (!c) H1
theorem pw_and1 (ha : PT X a tA) : PW X (.BoolOp .And [a] pos) tA := by
  intro wh pins s σ H Q I h
  refine isTrue_and (thn (ha pins s σ H Q I h) fun c s1 e => ?_)
  cases c with
  | true => exact isTrue_and_nil e
  | false => exact e
theorem pw_or1 (ha : PT X a tA) : PW X (.BoolOp .Or [a] pos) tA := by
  intro wh pins s σ H Q I h
  refine isTrue_or (thn (ha pins s σ H Q I h) fun c s1 e => ?_)
  cases c with
  | false => exact isTrue_or_nil e
  | true => exact e
theorem pw_and (ha : PT X a tA) (hb : PW X (.BoolOp .And (b :: rest) pos) tB') : PW X (.BoolOp .And (a :: b :: rest) pos) (tAnd tA tB') := by
  intro wh pins s σ H Q I h
  refine isTrue_and (thn (ha pins s σ H _ I h) fun c s1 ⟨H1, I1, q1⟩ => ?_)
  cases c with
  | true => exact hb wh pins s1 σ H1 Q I1 q1
  | false => exact ⟨H1, I1, q1⟩
theorem pw_or (ha : PT X a tA) (hb : PW X (.BoolOp .Or (b :: rest) pos) tB') : PW X (.BoolOp .Or (a :: b :: rest) pos) (tOr tA tB') := by
  intro wh pins s σ H Q I h
  refine isTrue_or (thn (ha pins s σ H _ I h) fun c s1 ⟨H1, I1, q1⟩ => ?_)
  cases c with
  | true => exact ⟨H1, I1, q1⟩
  | false => exact hb wh pins s1 σ H1 Q I1 q1
theorem pt_not (ha : PT X a tA) : PT X (.UnaryOp .Not a pos) (tNot tA) := by
  intro pins s σ H Q I h
  exact isTrue_not (ha pins s σ H (fun c H1 => Q (!c) H1) I h)
def tAndV (ta tb : TE) : TE := fun σ H Q => ta σ H fun x H1 => ∃ c, x = .bl c ∧ if c = true then tb σ H1 Q else Q (.bl false) H1
def tOrV (ta tb : TE) : TE := fun σ H Q => ta σ H fun x H1 => ∃ c, x = .bl c ∧ if c = true then Q (.bl true) H1 else tb σ H1 Q
def tNotV (ta : TE) : TE := fun σ H Q => ta σ H fun x H1 => ∃ c, x = .bl c ∧ Q (.bl (!c)) H1
theorem pe_one {op} {t : TE} (h : PE X a t) : PE X (.BoolOp op [a] pos) t := fun pins s σ H Q I hw => BoolOp_one (h pins s σ H Q I hw)
theorem pe_and (ha : PE X a ta) (hb : PE X (.BoolOp .And (b :: rest) pos) tb) : PE X (.BoolOp .And (a :: b :: rest) pos) (tAndV ta tb) := by
  intro pins s σ H Q I h
  refine BoolOp_and (thn (ha pins s σ H _ I h) fun v s1 ⟨x, H1, I1, r1, q1⟩ => ?_)
  obtain ⟨c, rfl, q1⟩ := q1
  cases r1
  refine wpAny_truthy_bool ?_
  cases c with
  | true => exact hb pins s1 σ H1 Q I1 q1
  | false => exact ⟨.bl false, H1, I1, rfl, q1⟩
theorem pe_or (ha : PE X a ta) (hb : PE X (.BoolOp .Or (b :: rest) pos) tb) : PE X (.BoolOp .Or (a :: b :: rest) pos) (tOrV ta tb) := by
  intro pins s σ H Q I h
  refine BoolOp_or (thn (ha pins s σ H _ I h) fun v s1 ⟨x, H1, I1, r1, q1⟩ => ?_)
  obtain ⟨c, rfl, q1⟩ := q1
  cases r1
  refine wpAny_truthy_bool ?_
  cases c with
  | false => exact hb pins s1 σ H1 Q I1 q1
  | true => exact ⟨.bl true, H1, I1, rfl, q1⟩
theorem pe_not (ha : PE X a ta) : PE X (.UnaryOp .Not a pos) (tNotV ta) := by
  intro pins s σ H Q I h
  refine UnaryOp_ (thn (ha pins s σ H _ I h) fun v s1 ⟨x, H1, I1, r1, q1⟩ => ?_)
  obtain ⟨c, rfl, q1⟩ := q1
  cases r1
  exact not_of (wpAny_truthy_bool ⟨.bl (!c), H1, I1, rfl, q1⟩)
def tIf (t : TT) (ta tb : TE) : TE := fun σ H Q => t σ H fun c H1 => if c = true then ta σ H1 Q else tb σ H1 Q
theorem pe_ifExp {c : Expr} (hc : PT X c tA) (ha : PE X a ta) (hb : PE X b tb) : PE X (.IfExp c a b pos) (tIf tA ta tb) := by
  intro pins s σ H Q I h
  refine wpAny_IfExp (thn (hc pins s σ H _ I h) fun d s1 ⟨H1, I1, q1⟩ => ?_)
  cases d with
  | true => exact ha pins s1 σ H1 Q I1 q1
  | false => exact hb pins s1 σ H1 Q I1 q1
end
end L2
namespace L2
open PySem PySem.Spec PyProof.Rows
def SqL (K : PySem.W.Frag) (H : Hp) (a : Addr) (xs : List V) : Prop :=
  Rd H a (.lst xs) ∨
    ∃ (o : Obj) (its : Array Value) (n : Nat), K.lookup a = some o ∧ o.cls = .type "list" ∧ o.dict = none ∧ o.data = .seq its n ∧ its.size ≤ sizeLine ∧ Vals xs its.toList
def SqT (K : PySem.W.Frag) (H : Hp) (a : Addr) (xs : List V) : Prop :=
  Rd H a (.tup xs) ∨
    ∃ (o : Obj) (its : Array Value) (n : Nat), K.lookup a = some o ∧ o.cls = .type "tuple" ∧ o.data = .seq its n ∧ its.size ≤ sizeLine ∧ Vals xs its.toList
def absV : Value → Option V
  | .none => some .non
  | .bool b => some (.bl b)
  | .int i _ => some (.int i)
  | .str x _ => some (.str x)
  | .bytes b _ => some (.byt b)
  | .float b _ => some (.flt b)
  | .ref a => some (.ref a)
  | .type n => some (.ty n)
  | _ => none
theorem RelV.abs {x : V} {u : Value} (r : RelV x u) : absV u = some x := by
  cases x with
  | non => cases r; rfl
  | bl _ => cases r; rfl
  | int _ => obtain ⟨t, rfl⟩ := r; rfl
  | str _ => obtain ⟨t, rfl⟩ := r; rfl
  | byt _ => obtain ⟨t, rfl⟩ := r; rfl
  | flt _ => obtain ⟨t, rfl⟩ := r; rfl
  | ref _ => cases r; rfl
  | ty _ => cases r; rfl
theorem RelV.inj {x y : V} {u : Value} (r : RelV x u) (q : RelV y u) : x = y := Option.some.inj (r.abs.symm.trans q.abs)
theorem Vals.inj : ∀ {xs ys : List V} {us : List Value}, Vals xs us → Vals ys us → xs = ys
  | _, _, _, .nil, .nil => rfl
  | _, _, _, .cons r t, .cons r' t' => by rw [r.inj r', Vals.inj t t']
section
variable {X : Cx} {pins : List (Addr × Obj)} {σ : St} {H : Hp} {s : Shared} {a : Addr} {xs ys : List V}
theorem SqL.of {K : PySem.W.Frag} (h : H a = some (.lst xs)) : SqL K H a xs := .inl (.inl h)
theorem SqT.of {K : PySem.W.Frag} (h : H a = some (.tup xs)) : SqT K H a xs := .inl (.inl h)
theorem Inv.list (I : Inv X pins σ H s) (h : SqL X.K H a xs) : ∃ its : List Value, Vals xs its ∧ PlainL s.heap a its.toArray ∧ xs.length ≤ sizeLine := by
  rcases h with h | ⟨o, its, n, hk, hc, hd, hs, hz, r⟩
  · obtain ⟨z, its, n, r, e⟩ := h.ok I.hok
    exact ⟨its, r, ⟨_, n, e, rfl, rfl, rfl⟩, z⟩
  · refine ⟨its.toList, r, ⟨o, n, I.kIn a o hk, hc, hd, by simpa using hs⟩, ?_⟩
    have e := r.length
    simp only [Array.length_toList] at e
    omega
theorem Inv.tuple (I : Inv X pins σ H s) (h : SqT X.K H a xs) : ∃ its : List Value, Vals xs its ∧ IsTup s.heap a its.toArray ∧ xs.length ≤ sizeLine := by
  rcases h with h | ⟨o, its, n, hk, hc, hs, hz, r⟩
  · obtain ⟨z, its, r, p⟩ := h.ok I.hok
    exact ⟨its, r, p, z⟩
  · refine ⟨its.toList, r, ⟨o, I.kIn a o hk, hc, n, by simpa using hs⟩, ?_⟩
    have e := r.length
    simp only [Array.length_toList] at e
    omega
theorem Inv.list_inj (I : Inv X pins σ H s) (h : SqL X.K H a xs) (h' : SqL X.K H a ys) : xs = ys := by
  obtain ⟨its, r, ⟨o, n, e, _, _, d⟩, _⟩ := I.list h
  obtain ⟨its', r', ⟨o', n', e', _, _, d'⟩, _⟩ := I.list h'
  rw [e] at e'; cases e'
  rw [d] at d'
  injection d' with d1 _
  have : its = its' := by simpa using congrArg Array.toList d1
  subst this
  exact r.inj r'
end
abbrev Cx.wish (X : Cx) (E : Value → Shared → Prop) : Cx := { X with xe := E }
abbrev Cx.nox (X : Cx) : Cx := X.wish fun _ _ => False
theorem Cx.Ok.wish {X : Cx} (ok : X.Ok) (E : Value → Shared → Prop) : (X.wish E).Ok :=
  ⟨ok.mod, ok.kind, ok.glob, ok.blt, ok.above, ok.inj, ok.has, ok.cab, ok.hd, ok.frames, ok.stk, ok.exf, ok.bs, ok.bsz, ok.noex, ok.exfs, ok.funs, ok.frf⟩
theorem Cx.Ok.unwish {X : Cx} {E : Value → Shared → Prop} (ok : (X.wish E).Ok) : X.Ok :=
  ⟨ok.mod, ok.kind, ok.glob, ok.blt, ok.above, ok.inj, ok.has, ok.cab, ok.hd, ok.frames, ok.stk, ok.exf, ok.bs, ok.bsz, ok.noex, ok.exfs, ok.funs, ok.frf⟩
section
variable {X : Cx} {pins : List (Addr × Obj)} {σ : St} {H : Hp} {s : Shared} {E : Value → Shared → Prop}
theorem Inv.wish (I : Inv X pins σ H s) (E : Value → Shared → Prop) : Inv (X.wish E) pins σ H s := ⟨I.ok.wish E, I.os, I.bare, I.base, I.loc, I.cell, I.free, I.freeC, I.pin, I.hok, I.len⟩
theorem Inv.unwish (I : Inv (X.wish E) pins σ H s) : Inv X pins σ H s := ⟨I.ok.unwish, I.os, I.bare, I.base, I.loc, I.cell, I.free, I.freeC, I.pin, I.hok, I.len⟩
theorem SP.unwish {D : Ends} {f : Flow} {s' : Shared} (h : SP (X.wish E) pins D f s') : SP X pins D f s' := by
  cases f with
  | next => obtain ⟨σ', H', I, q⟩ := h; exact ⟨σ', H', I.unwish, q⟩
  | brk => obtain ⟨σ', H', I, q⟩ := h; exact ⟨σ', H', I.unwish, q⟩
  | cont => obtain ⟨σ', H', I, q⟩ := h; exact ⟨σ', H', I.unwish, q⟩
  | ret u => obtain ⟨v, σ', H', I, r, q⟩ := h; exact ⟨v, σ', H', I.unwish, r, q⟩
theorem PSs.nox {st : List Stmt} {t : TS} (h : PSs X.nox st t) : PSs X st t := fun pins s σ H D I hw =>
  wpAny_mono (h pins s σ H D (I.wish _) hw) (fun _ _ q => q.unwish) fun _ _ z => False.elim z
end
section
variable {X : Cx} {st : Stmt} {rest : List Stmt} {t u : TS} {e : Expr} {te : TE} {pos : Pos}
def tNext : TS := fun D σ H => D.nx σ H
def tSeq (t u : TS) : TS := fun D σ H => t { D with nx := u D } σ H
theorem pss_nil : PSs X [] tNext := fun _ _ σ H _ I h => wpAny_execs_nil ⟨σ, H, I, h⟩
theorem pss_cons (h1 : PS X st t) (h2 : PSs X rest u) : PSs X (st :: rest) (tSeq t u) := by
  intro pins s σ H D I h
  refine wpAny_execs_cons (thn (h1 pins s σ H { D with nx := u D } I h) fun f s1 q => ?_)
  cases f with
  | next =>
    obtain ⟨σ', H', I', q⟩ := q
    exact h2 pins s1 σ' H' D I' q
  | ret v => exact q
  | brk => exact q
  | cont => exact q
theorem pss_one (h1 : PS X st t) : PSs X [st] t := by
  intro pins s σ H D I h
  refine wpAny_execs_cons (thn (h1 pins s σ H D I h) fun f s1 q => ?_)
  cases f with
  | next => exact wpAny_execs_nil q
  | ret v => exact q
  | brk => exact q
  | cont => exact q
theorem Inv.quiet {pins : List (Addr × Obj)} {σ : St} {H : Hp} {s : Shared} (I : Inv X pins σ H s) : interactive X.env = false := by simp [interactive, I.ok.kind]
def tDrop (te : TE) : TS := fun D σ H => te σ H fun _ H1 => D.nx σ H1
theorem ps_expr (he : PE X e te) (hs : swapsWith e none pos.line X.env = pure false := by rfl) : PS X (.Expr e pos) (tDrop te) := by
  intro pins s σ H D I h
  exact wpAny_Expr_any (thn (he pins s σ H _ I h) fun v s1 ⟨x, H1, I1, r1, q1⟩ => ⟨σ, H1, I1, q1⟩) I.quiet hs
def tRet (te : TE) : TS := fun D σ H => te σ H D.rt
theorem ps_ret (he : PE X e te) : PS X (.Return (some e) pos) (tRet te) := by
  intro pins s σ H D I h
  exact wpAny_Return_some (thn (he pins s σ H _ I h) fun v s1 ⟨x, H1, I1, r1, q1⟩ => ⟨x, σ, H1, I1, r1, q1⟩)
def tIfS (c : TT) (t u : TS) : TS := fun D σ H => c σ H fun b H1 => if b = true then t D σ H1 else u D σ H1
theorem ps_if {c : Expr} {a b : List Stmt} {tc : TT} (hc : PT X c tc) (ha : PSs X a t) (hb : PSs X b u) : PS X (.If c a b pos) (tIfS tc t u) := by
  intro pins s σ H D I h
  refine wpAny_If (thn (hc pins s σ H _ I h) fun d s1 ⟨H1, I1, q1⟩ => ?_)
  cases d with
  | true => exact ha pins s1 σ H1 D I1 q1
  | false => exact hb pins s1 σ H1 D I1 q1
end
abbrev TG := V → St → Hp → (St → Hp → Prop) → Prop
abbrev TGs := List V → St → Hp → (St → Hp → Prop) → Prop
namespace Zu
set_option allowUnsafeReducibility true in
@[scoped irreducible] def _root_.L2.PG (X : Cx) (target : Expr) (t : TG) : Prop :=
  ∀ (pins : List (Addr × Obj)) (s : Shared) (σ : St) (H : Hp) (v : V) (u : Value) (Q : St → Hp → Prop), Inv X pins σ H s → RelV v u → t v σ H Q →
    wpAny (model X.prog X.w) X.A (assign target X.env u) (fun _ s' => ∃ σ' H', Inv X pins σ' H' s' ∧ Q σ' H') X.xe s
end Zu
namespace Zu
end Zu
abbrev TSet := V → V → V → Hp → (Hp → Prop) → Prop
def PSet (X : Cx) (t : TSet) : Prop :=
  ∀ (pins : List (Addr × Obj)) (s : Shared) (σ : St) (H : Hp) (o i v : V) (ov iv u : Value) (Q : Hp → Prop), Inv X pins σ H s → RelV o ov → RelV i iv → RelV v u → t o i v H Q →
    wpAny (model X.prog X.w) X.A (setItem ov iv u) (fun _ s' => ∃ H', Inv X pins σ H' s' ∧ Q H') X.xe s
section
variable {X : Cx} {pos : Pos}
def gName (i : Nat) : TG := fun v σ H Q => Q (σ.set i (some v)) H
theorem pg_name {i : Nat} {x : Str} (hN : X.N.Nodup) (hi : X.N[i]? = some x) (hx : Loc X.env.scope x) (hf : X.fn x = true ∨ X.env.scope.names.lookup x = some .local := by first | exact .inl rfl | exact .inr rfl | assumption) : PG X (.Name x pos) (gName i) := by
  intro pins s σ H v u Q I r h
  exact wpAny_assign_Name (store_ok I hN hi hx r (fun s' I' => ⟨_, H, I', h⟩) hf)
def gNil : TGs := fun vs σ H Q => vs = [] ∧ Q σ H
def gCons (t : TG) (u : TGs) : TGs := fun vs σ H Q => ∃ v r, vs = v :: r ∧ t v σ H fun σ' H' => u r σ' H' Q
def gTup (K : PySem.W.Frag) (n : Nat) (t : TGs) : TG := fun v σ H Q => ∃ a xs, v = .ref a ∧ SqT K H a xs ∧ xs.length = n ∧ t xs σ H Q
def gSub (to ti : TE) (t : TSet) : TG := fun v σ H Q => to σ H fun o H1 => ti σ H1 fun i H2 => t o i v H2 fun H3 => Q σ H3
theorem pg_sub {o i : Expr} {to ti : TE} {t : TSet} (ho : PE X o to) (hi : PE X i ti) (hs : PSet X t)
    (ha : ∀ v, assign (.Subscript o i pos) X.env v = (do
      let ov ← holding [v] (eval o X.env)
      let iv ← holding [v, ov] (eval i X.env)
      standAt pos
      holding [v, ov, iv] (setItem ov iv v)
      release [v, ov, iv] []) := by intro _; rfl) : PG X (.Subscript o i pos) (gSub to ti t) := by
  intro pins s σ H v u Q I r h
  rw [ha]
  refine wpAny_bind (wpAny_holding (thn (ho pins s σ H _ I h) fun ov s1 ⟨x, H1, I1, r1, q1⟩ => ?_))
  refine wpAny_bind (wpAny_holding (thn (hi pins s1 σ H1 _ I1 q1) fun iv s2 ⟨y, H2, I2, r2, q2⟩ => ?_))
  refine wpAny_bind (wpAny_standAt (wpAny_bind (wpAny_holding (thn (hs pins s2 σ H2 x y v ov iv u _ I2 r1 r2 r q2) fun _ s3 ⟨H3, I3, q3⟩ => ?_))))
  exact wpAny_release ⟨σ, H3, I3, q3⟩
def tAsg (te : TE) (g : TG) : TS := fun D σ H => te σ H fun x H1 => g x σ H1 D.nx
theorem ps_asg {tg e : Expr} {te : TE} {g : TG} (he : PE X e te) (hg : PG X tg g) (hs : swapsWithSole [tg] e pos.line X.env = pure false := by rfl) (hw : swappedStores [tg] e X.env = pure none := by rfl)
    (h1 : (assignEach [tg] X.env).map (·.2) = [assign tg X.env] := by rfl) : PS X (.Assign [tg] e pos) (tAsg te g) := by
  intro pins s σ H D I h
  refine wpAny_Assign_stores (thn (he pins s σ H _ I h) fun v s1 ⟨x, H1, I1, r1, q1⟩ => ?_) hs hw
  rw [h1]
  exact thn (hg pins s1 σ H1 x v _ I1 r1 q1) fun _ s2 q => q
theorem ps_set {i : Nat} {x : Str} {e : Expr} {te : TE} {pos' : Pos} (hN : X.N.Nodup) (hi : X.N[i]? = some x) (hx : Loc X.env.scope x) (he : PE X e te) (hs : swapsWith e (some (.Name x pos')) pos.line X.env = pure false := by rfl) (hf : X.fn x = true ∨ X.env.scope.names.lookup x = some .local := by first | exact .inl rfl | exact .inr rfl | assumption) :
    PS X (.Assign [.Name x pos'] e pos) (tAsg te (gName i)) := by
  intro pins s σ H D I h
  refine wpAny_Assign_Name (thn (he pins s σ H _ I h) fun v s1 ⟨y, H1, I1, r1, q1⟩ => ?_) hs
  exact store_ok I1 hN hi hx r1 (fun s2 I2 => ⟨_, H1, I2, q1⟩) hf
def tPar (i j : Nat) (ta : TA) : TS := fun D σ H => ta σ H fun vs H1 => ∃ v w, vs = [v, w] ∧ D.nx ((σ.set i (some v)).set j (some w)) H1
theorem ps_par {i j : Nat} {x y : Str} {a b : Expr} {ta : TA} {px py pt : Pos} {kt k2 pt2} (hc : X.calm = true) (hN : X.N.Nodup) (hi : X.N[i]? = some x) (hj : X.N[j]? = some y) (hij : i ≠ j)
    (hx : X.env.scope.names.lookup x = some .local) (hy : X.env.scope.names.lookup y = some .local) (ha : PA X [a, b] ta)
    (hw : swappedStores [.Tuple [.Name x px, .Name y py] kt pt] (.Tuple [a, b] k2 pt2) X.env = pure (some [x, y]))
    (hs : swapsWithSole [.Tuple [.Name x px, .Name y py] kt pt] (.Tuple [a, b] k2 pt2) pos.line X.env = pure false := by rfl) :
    PS X (.Assign [.Tuple [.Name x px, .Name y py] kt pt] (.Tuple [a, b] k2 pt2) pos) (tPar i j ta) := by
  intro pins s σ H D I h
  rw [exec_Assign_arm]
  refine wpAny_bind (wpAny_standAt ?_)
  rw [hs]
  refine wpAny_bind (wpAny_pure ?_)
  rw [if_neg (by decide)]
  refine wpAny_bind (Tuple_ (thn (ha _ pins s σ H _ I h) fun us s1 ⟨vs, H1, I1, r1, q1⟩ => ?_))
  obtain ⟨v, w, e1, q1⟩ := q1
  subst e1
  obtain ⟨u1, u2, rfl, rv, rw'⟩ : ∃ u1 u2, us = [u1, u2] ∧ RelV v u1 ∧ RelV w u2 := by
    cases r1 with
    | cons p q =>
      cases q with
      | cons p' q' =>
        cases q'
        exact ⟨_, _, rfl, p, p'⟩
  refine wpAny_newObj_type ?_ (by show 2 ≤ sizeLine; decide)
  have I2 : Inv X pins σ H1 { s1 with heap := s1.heap.push { cls := .type "tuple", data := .seq [u1, u2].toArray } } := I1.kept (t' := s1.toks) fun b o e => Heap.get?_push_of_some _ e
  rw [hw]
  refine wpAny_bind (wpAny_pure ?_)
  show wpAny (model X.prog X.w) X.A (do rule "assign.swapped-stores"; let items ← unpackItems (.ref s1.heap.objs.size) 2 none; assignInOrder [fun v => bindName X.env y v, fun v => bindName X.env x v] items.reverse; pure Flow.next) _ _ _
  refine wpAny_bind (wpAny_rule (wpAny_bind (unpackItems_tuple (items := #[u1, u2]) (I.ok.hd hc) (IsTup.new s1.heap _) fun h' hx' => ?_)))
  have I3 := I2.kept (h' := h') (t' := s1.toks) fun b o e => hx' b o (Nat.ne_of_lt (Heap.lt_size e)) e
  show wpAny _ _ (assignInOrder [fun v => bindName X.env y v, fun v => bindName X.env x v] [u2, u1] >>= fun _ => pure Flow.next) _ _ _
  refine wpAny_bind (assignInOrder_cons (wpAny_bindName (store_ok I3 hN hj (.inl hy) rw' (fun s2 I4 => ?_) (.inr hy))))
  refine assignInOrder_cons (wpAny_bindName (store_ok I4 hN hi (.inl hx) rv (fun s3 I5 => assignInOrder_nil (wpAny_pure ?_)) (.inr hx)))
  rw [List.set_comm _ _ (Ne.symm hij)] at I5
  exact ⟨_, H1, I5, q1⟩
end
section
variable {X : Cx} {pos : Pos}
def tWhile (c : TT) (tb : TS) : TS := fun D σ H => ∃ W : Nat → St → Hp → Prop, (∃ m, W m σ H) ∧ ∀ m σ H, W m σ H →
  c σ H fun b H1 => if b = true then ∃ N : St → Hp → Prop, (∀ σ' H', N σ' H' → ∃ m', m' < m ∧ W m' σ' H') ∧ tb { D with nx := N, ct := N, bk := D.nx } σ H1 else D.nx σ H1
theorem ps_while {c : Expr} {body : List Stmt} {tc : TT} {tb : TS} (hp : PassesOwn (model X.prog X.w) X.A X.env X.xe) (hc : PT X c tc) (hb : PSs X body tb) : PS X (.While c body [] pos) (tWhile tc tb) := by
  intro pins s σ H D I h
  obtain ⟨W, ⟨m0, w0⟩, turn⟩ := h
  refine wpAny_While (codeAny_whileLoop (fun n s' => ∃ σ' H', Inv X pins σ' H' s' ∧ W n σ' H') ?_ m0 ⟨σ, H, I, w0⟩)
  rintro n s1 ⟨σ1, H1, I1, w1⟩
  refine wpAny_passesOwn hp (thn (hc pins s1 σ1 H1 _ I1 (turn n σ1 H1 w1)) fun b s2 ⟨H2, I2, q2⟩ => ?_)
  cases b with
  | true =>
    obtain ⟨N, hN, q2⟩ := q2
    rw [if_pos rfl]
    refine wpAny_passesOwn hp (thn (hb pins s2 σ1 H2 _ I2 q2) fun f s3 q3 => ?_)
    cases f with
    | next =>
      obtain ⟨σ3, H3, I3, n3⟩ := q3
      obtain ⟨m', hm, w3⟩ := hN σ3 H3 n3
      exact ⟨m', hm, σ3, H3, I3, w3⟩
    | cont =>
      obtain ⟨σ3, H3, I3, n3⟩ := q3
      obtain ⟨m', hm, w3⟩ := hN σ3 H3 n3
      exact ⟨m', hm, σ3, H3, I3, w3⟩
    | brk => exact q3
    | ret v => exact q3
  | false =>
    rw [if_neg Bool.false_ne_true]
    exact wpAny_execs_nil ⟨σ1, H2, I2, q2⟩
end
structure It where
  go : Nat → Hp → Prop
  yld : Nat → Hp → V → Hp → Prop
  stop : Nat → Hp → Prop
def FpOk (X : Cx) (pins : List (Addr × Obj)) (H : Hp) (b : Addr) : Prop :=
  H b = none ∧ b ≠ X.env.locals ∧ b ∉ X.fs ∧ (b ∈ X.ex ∨ X.s₀.heap.objs.size ≤ b) ∧ (∀ x c, X.env.cells.lookup x = some c → c ≠ b) ∧ ∀ p ∈ X.pn ++ pins, p.1 ≠ b
theorem Inv.fpOk {X : Cx} {pins : List (Addr × Obj)} {σ : St} {H H' : Hp} {s : Shared} {b : Addr} (I : Inv X pins σ H s) (hb : s.heap.objs.size ≤ b) (hn : H' b = none) : FpOk X pins H' b := by
  refine ⟨hn, Nat.ne_of_gt (Nat.lt_of_lt_of_le I.lt hb), I.nofs hb, .inr (Nat.le_trans I.sz hb), fun x c e z => ?_, fun p hp z => ?_⟩
  · obtain ⟨v, q⟩ := I.cell x c e
    exact absurd (Nat.lt_of_lt_of_le q.lt (by rw [z]; exact hb)) (Nat.lt_irrefl _)
  · exact absurd (Nat.lt_of_lt_of_le (Heap.lt_size (I.pin p hp).1) (by rw [z]; exact hb)) (Nat.lt_irrefl _)
structure Turn (P : Program) (w : World) (K : PySem.W.Frag) (tg : Expr) (J : It) (fp : List Addr) (it : Addr) (tn : Nat → Heap → Prop) : Prop where
  mem : it ∈ fp
  obj : ∀ i h, tn i h → ∀ b ∈ fp, ∃ o, h.get? b = some o ∧ ∀ v, o.data ≠ .cell v
  keep : ∀ i h h', tn i h → (∀ b ∈ fp, ∀ o, h.get? b = some o → h'.get? b = some o) → tn i h'
  item : ∀ (X : Cx), X.prog = P → X.w = w → X.K = K → X.calm = true → ∀ (i : Nat) (pins : List (Addr × Obj)) (s : Shared) (σ : St) (H : Hp) (E : Value → Shared → Prop), Inv X pins σ H s → (∀ b ∈ fp, FpOk X pins H b) → tn i s.heap → J.go i H →
    wpAny (model P w) X.A (pyNext (.ref it)) (fun r s1 => ∃ u, r = some u ∧
      wpAny (model P w) X.A (letOwnedTupleGo tg (.ref it) u) (fun _ s2 => ∃ x H', Inv X pins σ H' s2 ∧ RelV x u ∧ J.yld i H x H' ∧ tn (i + 1) s2.heap ∧ ∀ b ∈ fp, H' b = none) E s1) E s
  done : ∀ (X : Cx), X.prog = P → X.w = w → X.K = K → X.calm = true → ∀ (i : Nat) (pins : List (Addr × Obj)) (s : Shared) (σ : St) (H : Hp) (E : Value → Shared → Prop), Inv X pins σ H s → (∀ b ∈ fp, FpOk X pins H b) → tn i s.heap → J.stop i H →
    wpAny (model P w) X.A (pyNext (.ref it)) (fun r s1 => r = none ∧ Inv X pins σ H s1) E s
  self : ∀ (A : Around) (i : Nat) (s : Shared) (Q : Value → Shared → Prop) (E : Value → Shared → Prop), tn i s.heap → Q (.ref it) s → wpAny (model P w) A (pyIter (.ref it)) Q E s
abbrev TI := St → Hp → (It → Hp → Prop) → Prop
def PIE (X : Cx) (pins : List (Addr × Obj)) (σ : St) (tg : Expr) (R : It → Hp → Prop) (itv : Value) (s2 : Shared) : Prop :=
  ∃ (it : Addr) (fp : List Addr) (tn : Nat → Heap → Prop) (J : It) (H' : Hp), itv = .ref it ∧ Inv X pins σ H' s2 ∧ Turn X.prog X.w X.K tg J fp it tn ∧ tn 0 s2.heap ∧ (∀ b ∈ fp, FpOk X pins H' b) ∧ R J H'
namespace Zu
set_option allowUnsafeReducibility true in
@[scoped irreducible] def _root_.L2.PI (X : Cx) (tg iter : Expr) (wi : TI) : Prop :=
  ∀ (pins : List (Addr × Obj)) (s : Shared) (σ : St) (H : Hp) (R : It → Hp → Prop), Inv X pins σ H s → wi σ H R →
    wpAny (model X.prog X.w) X.A (eval iter X.env) (fun v s1 => wpAny (model X.prog X.w) X.A (pyIter v) (PIE X pins σ tg R) X.xe s1) X.xe s
end Zu
theorem go_of {M : Model} {A : Around} {E : Value → Shared → Prop} {s : Shared} {tg : Expr} {it : Addr} {u : Value} {o : Obj} {n : String} {vs : Array Value} {Q : Unit → Shared → Prop} (ho : s.heap.get? it = some o) (hc : o.cls = .type n) (hd : o.data = .fields vs)
    (hn : ["enumerate", "zip", "dict_itemiterator", "dict_reverseitemiterator", "odict_iterator", "itertools.zip_longest", "itertools.pairwise"].contains n = false) (hQ : Q () s) : wpAny M A (letOwnedTupleGo tg (.ref it) u) Q E s := by
  unfold letOwnedTupleGo
  cases tg <;> first
    | exact wpAny_pure hQ
    | (cases u <;> first
        | exact wpAny_pure hQ
        | (refine wpAny_bind (wpAny_load ho ?_)
           rw [hc, hd]
           show wpAny M A (if (["enumerate", "zip", "dict_itemiterator", "dict_reverseitemiterator", "odict_iterator", "itertools.zip_longest", "itertools.pairwise"].contains n && vs[0]? == some (rawInt _)) = true then _ else _) Q E s
           rw [if_neg (by intro h; rw [hn, Bool.false_and] at h; cases h)]
           exact wpAny_pure hQ))
def Itl (K : PySem.W.Frag) (a : Addr) : It :=
  ⟨fun i H => ∃ xs x, SqL K H a xs ∧ xs[i]? = some x, fun i H x H' => H' = H ∧ ∀ xs, SqL K H a xs → xs[i]? = some x, fun i H => ∃ xs, SqL K H a xs ∧ xs.length ≤ i⟩
def Itr (lo : Int) (n : Nat) : It := ⟨fun i _ => i < n, fun i H x H' => H' = H ∧ x = .int (lo + i), fun i _ => n ≤ i⟩
theorem turn_list {P : Program} {w : World} {K : PySem.W.Frag} {tg : Expr} (a it : Addr) : Turn P w K tg (Itl K a) [it] it (fun i h => h.IsListIter it a i) where
  mem := by simp
  obj := fun i h st b hb => by
    have e : b = it := by simpa using hb
    subst e
    obtain ⟨o, e, c, d⟩ := st
    exact ⟨o, e, fun v z => by rw [d] at z; cases z⟩
  keep := fun i h h' st k => st.at fun o e => k it (by simp) o e
  item := by
    intro X hP hw hK hc i pins s σ H E I hf st hg
    subst hP hw hK
    obtain ⟨xs, x, hq, hx⟩ := hg
    obtain ⟨its, rv, p, hz⟩ := I.list hq
    obtain ⟨u, hu, ru⟩ := rv.get hx
    obtain ⟨f0, f1, f2, f3, f4, f5⟩ := hf it (by simp)
    refine wpAny_pyNext_list_item st p.isList (x := u) (by simpa using hu) fun h' st' sb => ?_
    have I1 : Inv X pins σ H { s with heap := h' } := I.turned (t' := s.toks) (fun b o hb e => (sb.2 b hb).trans e) f0 f1 f3 f4 f5
    obtain ⟨o, e, c, d⟩ := id st'
    exact ⟨u, rfl, go_of (s := { s with heap := h' }) e c d (by decide) ⟨x, H, I1, ru, ⟨rfl, fun ys hy => by rw [I.list_inj hy hq]; exact hx⟩, st', fun b hb => (hf b hb).1⟩⟩
  done := by
    intro X hP hw hK hc i pins s σ H E I hf st hg
    subst hP hw hK
    obtain ⟨xs, hq, hx⟩ := hg
    obtain ⟨its, rv, p, hz⟩ := I.list hq
    obtain ⟨f0, f1, f2, f3, f4, f5⟩ := hf it (by simp)
    have hl := rv.length
    exact wpAny_pyNext_list_end (I.ok.hd hc) st p.isList (by simp; omega) fun h' eb => ⟨rfl, I.turned (t' := s.toks) (fun b o hb e => eb b o hb e) f0 f1 f3 f4 f5⟩
  self := fun _ _ _ _ _ st h => wpAny_pyIter_listiter st h
theorem turn_range {P : Program} {w : World} {K : PySem.W.Frag} {tg : Expr} (it : Addr) (lo : Int) (n : Nat) : Turn P w K tg (Itr lo n) [it] it (fun i h => IsRangeIter h it (lo + (i : Nat) * 1) ((n : Int) - (i : Nat)) 1) where
  mem := by simp
  obj := fun i h st b hb => by
    have e : b = it := by simpa using hb
    subst e
    exact ⟨_, st, fun v z => by
      have z' : Data.fields _ = Data.cell v := z
      cases z'⟩
  keep := fun i h h' st k => k it (by simp) _ st
  item := by
    intro X hP hw hK hc i pins s σ H E I hf st hg
    subst hP hw hK
    obtain ⟨f0, f1, f2, f3, f4, f5⟩ := hf it (by simp)
    have W := Walks.range (prog := X.prog) (w := X.w) (I.ok.hd hc) it lo 1 n
    refine W.item i s _ _ hg st fun v h' tk hv st' kk => ?_
    obtain ⟨t, rfl⟩ := hv
    have I1 : Inv X pins σ H { s with heap := h', toks := tk } := I.turned (fun b o hb e => kk b o (by simpa using hb) e) f0 f1 f3 f4 f5
    refine ⟨_, rfl, go_of (s := { s with heap := h', toks := tk }) (n := "range_iterator") st' rfl rfl (by decide) ⟨.int (lo + i), H, I1, ⟨t, ?_⟩, ⟨rfl, rfl⟩, st', fun b hb => (hf b hb).1⟩⟩
    rw [Int.mul_one]
  done := by
    intro X hP hw hK hc i pins s σ H E I hf st hg
    subst hP hw hK
    obtain ⟨f0, f1, f2, f3, f4, f5⟩ := hf it (by simp)
    exact wpAny_pyNext_range_end (I.ok.hd hc) st (by have : n ≤ i := hg; omega) fun h' eb => ⟨rfl, I.turned (t' := s.toks) (fun b o hb e => eb b o hb e) f0 f1 f3 f4 f5⟩
  self := fun _ _ _ _ _ st h => wpAny_pyIter_rangeiter st h
end L2
namespace L2
open PySem PySem.Spec PyProof.Rows
section
variable {X : Cx} {tg : Expr}
def iList (K : PySem.W.Frag) (tl : TE) : TI := fun σ H R => tl σ H fun x H1 => ∃ a, x = .ref a ∧ (∃ xs, SqL K H1 a xs) ∧ R (Itl K a) H1
theorem pi_list {l : Expr} {tl : TE} (hl : PE X l tl) : PI X tg l (iList X.K tl) := by
  intro pins s σ H R I h
  refine thn (hl pins s σ H _ I h) fun v s1 ⟨x, H1, I1, r1, q1⟩ => ?_
  obtain ⟨a, e, ⟨xs, hq⟩, q⟩ := q1
  subst e
  cases r1
  obtain ⟨its, rv, p, hz⟩ := I1.list hq
  refine wpAny_pyIter_list p.isList ?_
  refine ⟨s1.heap.objs.size, [s1.heap.objs.size], _, _, H1, rfl, I1.kept (t' := s1.toks) fun b o e => Heap.get?_push_of_some _ e, turn_list a _, ⟨_, Heap.get?_push_size _ rfl, rfl, rfl⟩, fun b hb => ?_, q⟩
  have e : b = s1.heap.objs.size := by simpa using hb
  subst e
  exact I1.fpOk (Nat.le_refl _) (I1.hok.fresh (Nat.le_refl _))
theorem range_it {pins : List (Addr × Obj)} {σ : St} {H : Hp} {s : Shared} {R : It → Hp → Prop} {E : Value → Shared → Prop} {lo hi : Int} {t u v : Tok} {tk : Nat} (I : Inv X pins σ H s) (h1 : -(2 ^ 62) ≤ lo) (h2 : lo < 2 ^ 62) (h3 : -(2 ^ 62) ≤ hi) (h4 : hi < 2 ^ 62)
    (q : R (Itr lo (hi - lo).toNat) H) : wpAny (model X.prog X.w) X.A (pyIter (.ref s.heap.objs.size)) (PIE X pins σ tg R) E { s with heap := s.heap.push { cls := .type "range", data := .fields #[.int lo t, .int hi u, .int 1 v] }, toks := tk } := by
  refine wpAny_pyIter_range (IsRange.new ..) (small_one h1 h2 h3 h4) ?_
  have I1 : Inv X pins σ H { s with heap := s.heap.push { cls := .type "range", data := .fields #[.int lo t, .int hi u, .int 1 v] }, toks := tk } := I.kept fun b o e => Heap.get?_push_of_some _ e
  refine ⟨(s.heap.push { cls := .type "range", data := .fields #[.int lo t, .int hi u, .int 1 v] }).objs.size, [(s.heap.push { cls := .type "range", data := .fields #[.int lo t, .int hi u, .int 1 v] }).objs.size], _, _, H, rfl,
    I1.kept (t' := tk) fun b o e => Heap.get?_push_of_some _ e, turn_range _ lo (hi - lo).toNat, ?_, fun b hb => ?_, q⟩
  · have e1 : lo + ((0 : Nat) : Int) * 1 = lo := by simp
    have e2 : (((hi - lo).toNat : Nat) : Int) - ((0 : Nat) : Int) = Builtin.Range.rangeSize lo hi 1 := by rw [rangeSize_one]; split <;> omega
    show IsRangeIter _ _ (lo + ((0 : Nat) : Int) * 1) ((((hi - lo).toNat : Nat) : Int) - ((0 : Nat) : Int)) 1
    rw [e1, e2]
    exact Heap.get?_push_size _ rfl
  · have e : b = (s.heap.push { cls := .type "range", data := .fields #[.int lo t, .int hi u, .int 1 v] }).objs.size := by simpa using hb
    subst e
    exact I1.fpOk (Nat.le_refl _) (I1.hok.fresh (Nat.le_refl _))
def iRng1 (ta : TA) : TI := fun σ H R => ta σ H fun vs H1 => ∃ j : Int, vs = [.int j] ∧ -(2 ^ 62) ≤ j ∧ j < 2 ^ 62 ∧ R (Itr 0 j.toNat) H1
theorem pi_range1 {a : Expr} {ta : TA} {p pos : Pos} (hg : Gl X "range") (hm : X.mg "range" = none) (ha : PA X [a] ta) (hs : starEach [a] X.env = [(false, eval a X.env)] := by rfl) : PI X tg (.Call (.Name "range" p) [a] [] pos) (iRng1 ta) := by
  intro pins s σ H R I h
  refine Call_ (ld_blt I hg hm boot_range (PyProof.Rows.callWith_type1 (thn (ha pos pins s σ H _ I h) fun us s1 ⟨vs, H1, I1, r1, q1⟩ => ?_) hs rfl))
  obtain ⟨j, e, q1, q2, q⟩ := q1
  subst e
  cases r1 with
  | cons r rr =>
    cases rr
    obtain ⟨t, rfl⟩ := r
    exact call_range_1 (range_it I1 (by omega) (by omega) q1 q2 (by simpa using q))
def tFor (wi : TI) (g : TG) (tb : TS) : TS := fun D σ H => wi σ H fun J H1 => ∃ W : Nat → Nat → St → Hp → Prop, (∃ m, W 0 m σ H1) ∧ ∀ i m σ H, W i m σ H →
  (J.stop i H ∧ D.nx σ H) ∨ (J.go i H ∧ ∃ N : St → Hp → Prop, (∀ σ' H', N σ' H' → ∃ m', m' < m ∧ W (i + 1) m' σ' H') ∧ ∀ x H', J.yld i H x H' → g x σ H' fun σ2 H2 => tb { D with nx := N, ct := N, bk := D.nx } σ2 H2)
def pinsAt (fp : List Addr) (h : Heap) : List (Addr × Obj) := fp.filterMap fun b => (h.get? b).map fun o => (b, o)
theorem mem_pinsAt {fp : List Addr} {h : Heap} {b : Addr} {o : Obj} (hb : b ∈ fp) (e : h.get? b = some o) : (b, o) ∈ pinsAt fp h := List.mem_filterMap.mpr ⟨b, hb, by rw [e]; rfl⟩
theorem of_pinsAt {fp : List Addr} {h : Heap} {p : Addr × Obj} (hp : p ∈ pinsAt fp h) : p.1 ∈ fp ∧ h.get? p.1 = some p.2 := by
  obtain ⟨b, hb, e⟩ := List.mem_filterMap.mp hp
  cases q : h.get? b with
  | none => rw [q] at e; cases e
  | some o =>
    rw [q] at e
    have e' : (b, o) = p := Option.some.inj e
    subst e'
    exact ⟨hb, q⟩
theorem Inv.pinned {pins : List (Addr × Obj)} {σ : St} {H : Hp} {s : Shared} {fp : List Addr} (I : Inv X pins σ H s) (hf : ∀ b ∈ fp, FpOk X pins H b) (ho : ∀ b ∈ fp, ∃ o, s.heap.get? b = some o ∧ ∀ v, o.data ≠ .cell v) : Inv X (pins ++ pinsAt fp s.heap) σ H s :=
  I.pins_of fun p hp => (List.mem_append.mp hp).elim (fun z => I.pin p (List.mem_append_right _ z)) fun z => by
    obtain ⟨hb, e⟩ := of_pinsAt z
    obtain ⟨f0, f1, f2, _⟩ := hf p.1 hb
    obtain ⟨o, e', d⟩ := ho p.1 hb
    rw [e] at e'; cases e'
    exact ⟨e, f0, f1, f2, d⟩
theorem Inv.unpinned {pins pl : List (Addr × Obj)} {σ : St} {H : Hp} {s : Shared} (I : Inv X (pins ++ pl) σ H s) : Inv X pins σ H s := I.pins_of fun p hp => I.pin p (List.mem_append_right _ (List.mem_append_left _ hp))
theorem ps_for {iter : Expr} {body : List Stmt} {wi : TI} {g : TG} {tb : TS} {pos : Pos} (hp : PassesOwn (model X.prog X.w) X.A X.env X.xe) (hc : X.calm = true) (hi : PI X tg iter wi) (hg : PG X tg g) (hb : PSs X body tb)
    (hs : ∀ x, foldedSetIterable iter X.env x = pure x := by intro _; rfl) : PS X (.For tg iter body [] pos) (tFor wi g tb) := by
  intro pins s σ H D I h
  refine wpAny_For (thn (hi pins s σ H _ I h) fun v s1 h1 => thn h1 fun itv s2 h2 => ?_) hs
  obtain ⟨it, fp, tn, J, H2, e, I2, T, st2, f2, W, ⟨m0, w0⟩, turn⟩ := h2
  subst e
  -- what stays true of the iterator's objects through the loop
  have stat : ∀ {H' : Hp}, (∀ b ∈ fp, H' b = none) → ∀ b ∈ fp, FpOk X pins H' b := fun hn b hb => ⟨hn b hb, (f2 b hb).2⟩
  refine codeAny_forLoop_any (fun n s' => ∃ i σ' H', Inv X pins σ' H' s' ∧ tn i s'.heap ∧ (∀ b ∈ fp, H' b = none) ∧ W i n σ' H') ?_ m0 ⟨0, σ, H2, I2, st2, fun b hb => (f2 b hb).1, w0⟩
  rintro n s3 ⟨i, σ3, H3, I3, st3, fr3, w3⟩
  rcases turn i n σ3 H3 w3 with ⟨stop, qn⟩ | ⟨go, N, hN, step⟩
  · refine wpAny_passesOwn hp (thn (T.done X rfl rfl rfl hc i pins s3 σ3 H3 X.xe I3 (stat fr3) st3 stop) fun r s4 ⟨hr, I4⟩ => ?_)
    subst hr
    exact wpAny_execs_nil ⟨σ3, H3, I4, qn⟩
  · refine wpAny_passesOwn hp (thn (T.item X rfl rfl rfl hc i pins s3 σ3 H3 X.xe I3 (stat fr3) st3 go) fun r s4 ⟨u, hr, h4⟩ => ?_)
    subst hr
    refine wpAny_passesOwn hp (thn h4 fun _ s5 ⟨x, H5, I5, r5, y5, st5, fr5⟩ => ?_)
    have I5' := I5.pinned (stat fr5) (T.obj _ _ st5)
    refine wpAny_passesOwn hp (thn (hg _ s5 σ3 H5 x u _ I5' r5 (step x H5 y5)) fun _ s6 ⟨σ6, H6, I6, q6⟩ => ?_)
    refine wpAny_passesOwn hp (thn (hb _ s6 σ6 H6 _ I6 q6) fun f s7 q7 => ?_)
    have again : ∀ {σ7 : St} {H7 : Hp}, Inv X (pins ++ pinsAt fp s5.heap) σ7 H7 s7 → N σ7 H7 → ∃ m, m < n ∧ ∃ i σ' H', Inv X pins σ' H' s7 ∧ tn i s7.heap ∧ (∀ b ∈ fp, H' b = none) ∧ W i m σ' H' := fun {σ7 H7} I7 n7 => by
      obtain ⟨m', hm, w7⟩ := hN σ7 H7 n7
      refine ⟨m', hm, i + 1, σ7, H7, I7.unpinned, T.keep _ _ _ st5 fun b hb o e => (I7.pin (b, o) (List.mem_append_right _ (List.mem_append_right _ (mem_pinsAt hb e)))).1, fun b hb => ?_, w7⟩
      obtain ⟨o, e, d⟩ := T.obj _ _ st5 b hb
      exact (I7.pin (b, o) (List.mem_append_right _ (List.mem_append_right _ (mem_pinsAt hb e)))).2.1
    cases f with
    | next => obtain ⟨σ7, H7, I7, n7⟩ := q7; exact again I7 n7
    | cont => obtain ⟨σ7, H7, I7, n7⟩ := q7; exact again I7 n7
    | brk => obtain ⟨σ7, H7, I7, q7⟩ := q7; exact ⟨σ7, H7, I7.unpinned, q7⟩
    | ret v => obtain ⟨x7, σ7, H7, I7, r7, q7⟩ := q7; exact ⟨x7, σ7, H7, I7.unpinned, r7, q7⟩
end
end L2
namespace L2
open PySem PySem.Spec PyProof.Rows
abbrev R2 := V → V → Hp → VK → Prop
def OpR (X : Cx) (f : Value → Value → Sem Value) (r : R2) : Prop :=
  ∀ (pins : List (Addr × Obj)) (s : Shared) (σ : St) (H : Hp) (x y : V) (v u : Value) (Q : VK), Inv X pins σ H s → RelV x v → RelV y u → r x y H Q →
    wpAny (model X.prog X.w) X.A (f v u) (EP X pins σ Q) X.xe s
def UnR (X : Cx) (f : Value → Sem Value) (r : V → Hp → VK → Prop) : Prop :=
  ∀ (pins : List (Addr × Obj)) (s : Shared) (σ : St) (H : Hp) (x : V) (v : Value) (Q : VK), Inv X pins σ H s → RelV x v → r x H Q →
    wpAny (model X.prog X.w) X.A (f v) (EP X pins σ Q) X.xe s
def CallR (X : Cx) (f : Value) (r : List V → Hp → VK → Prop) : Prop :=
  ∀ (pins : List (Addr × Obj)) (s : Shared) (σ : St) (H : Hp) (xs : List V) (us : List Value) (Q : VK), Inv X pins σ H s → Vals xs us → r xs H Q →
    wpAny (model X.prog X.w) X.A (call f us) (EP X pins σ Q) X.xe s
def tOp (r : R2) (ta tb : TE) : TE := fun σ H Q => ta σ H fun x H1 => tb σ H1 fun y H2 => r x y H2 Q
def tUn (r : V → Hp → VK → Prop) (ta : TE) : TE := fun σ H Q => ta σ H fun x H1 => r x H1 Q
def rI (C : Int → Int → Prop) (g : Int → Int → V) : R2 := fun x y H Q => ∃ i j, x = .int i ∧ y = .int j ∧ C i j ∧ Q (g i j) H
def rI0 (g : Int → Int → V) : R2 := fun x y H Q => ∃ i j, x = .int i ∧ y = .int j ∧ Q (g i j) H
def rU (g : Int → V) : V → Hp → VK → Prop := fun x H Q => ∃ i, x = .int i ∧ Q (g i) H
section
variable {X : Cx} {a b c : Expr} {ta tb tc : TE} {pos : Pos}
theorem binT (ha : PE X a ta) (hb : PE X b tb) {pins : List (Addr × Obj)} {s : Shared} {σ : St} {H : Hp} {R : V → V → Hp → Prop} (I : Inv X pins σ H s)
    (h : ta σ H fun x H1 => tb σ H1 fun y H2 => R x y H2) {Q : Value → Shared → Prop} {f : Value → Value → Sem Value}
    (hf : ∀ v u s2 x y H2, Inv X pins σ H2 s2 → RelV x v → RelV y u → R x y H2 → wpAny (model X.prog X.w) X.A (f v u) Q X.xe s2) :
    wpAny (model X.prog X.w) X.A (eval a X.env) (fun v s₁ => wpAny (model X.prog X.w) X.A (eval b X.env) (fun u s₂ => wpAny (model X.prog X.w) X.A (f v u) Q X.xe s₂) X.xe s₁) X.xe s := by
  refine thn (ha pins s σ H _ I h) fun v s1 ⟨x, H1, I1, r1, q1⟩ => ?_
  refine thn (hb pins s1 σ H1 _ I1 q1) fun u s2 ⟨y, H2, I2, r2, q2⟩ => ?_
  exact hf v u s2 x y H2 I2 r1 r2 q2
theorem pe_op {op : Operator} {r : R2} (ho : OpR X (binaryOp op) r) (ha : PE X a ta) (hb : PE X b tb) : PE X (.BinOp a op b pos) (tOp r ta tb) := by
  intro pins s σ H Q I h
  exact wpAny_BinOp (binT ha hb I h fun v u s2 x y H2 I2 rx ry q => ho pins s2 σ H2 x y v u Q I2 rx ry q)
theorem pe_un {op : UnaryOp} {r : V → Hp → VK → Prop} (ho : UnR X (unaryOp op) r) (ha : PE X a ta) : PE X (.UnaryOp op a pos) (tUn r ta) := by
  intro pins s σ H Q I h
  exact UnaryOp_ (thn (ha pins s σ H _ I h) fun v s1 ⟨x, H1, I1, r1, q1⟩ => ho pins s1 σ H1 x v Q I1 r1 q1)
theorem opI {f : Value → Value → Sem Value} {C : Int → Int → Prop} {g : Int → Int → Int}
    (rule : ∀ (i j : Int) (t u : Tok) (s : Shared) (Q : Value → Shared → Prop) (E : Value → Shared → Prop), C i j → Q (.int (g i j) s.toks) { s with toks := s.toks + 1 } → wpAny (model X.prog X.w) X.A (f (.int i t) (.int j u)) Q E s) :
    OpR X f (rI C fun i j => .int (g i j)) := by
  intro pins s σ H x y v u Q I rx ry h
  obtain ⟨i, j, rfl, rfl, hc, q⟩ := h
  obtain ⟨t, rfl⟩ := rx
  obtain ⟨t', rfl⟩ := ry
  exact rule i j t t' s _ _ hc ⟨.int (g i j), H, I.tok _, ⟨_, rfl⟩, q⟩
theorem opI0 {f : Value → Value → Sem Value} {g : Int → Int → Int}
    (rule : ∀ (i j : Int) (t u : Tok) (s : Shared) (Q : Value → Shared → Prop) (E : Value → Shared → Prop), Q (.int (g i j) s.toks) { s with toks := s.toks + 1 } → wpAny (model X.prog X.w) X.A (f (.int i t) (.int j u)) Q E s) :
    OpR X f (rI0 fun i j => .int (g i j)) := by
  intro pins s σ H x y v u Q I rx ry h
  obtain ⟨i, j, rfl, rfl, q⟩ := h
  obtain ⟨t, rfl⟩ := rx
  obtain ⟨t', rfl⟩ := ry
  exact rule i j t t' s _ _ ⟨.int (g i j), H, I.tok _, ⟨_, rfl⟩, q⟩
theorem opB0 {f : Value → Value → Sem Value} {g : Int → Int → Bool}
    (rule : ∀ (i j : Int) (t u : Tok) (s : Shared) (Q : Value → Shared → Prop) (E : Value → Shared → Prop), Q (.bool (g i j)) s → wpAny (model X.prog X.w) X.A (f (.int i t) (.int j u)) Q E s) :
    OpR X f (rI0 fun i j => .bl (g i j)) := by
  intro pins s σ H x y v u Q I rx ry h
  obtain ⟨i, j, rfl, rfl, q⟩ := h
  obtain ⟨t, rfl⟩ := rx
  obtain ⟨t', rfl⟩ := ry
  exact rule i j t t' s _ _ ⟨.bl (g i j), H, I, rfl, q⟩
def CPow (i j : Int) : Prop := 0 ≤ j ∧ j ≤ 1000000 ∧ i.natAbs < 2 ^ 64
theorem op_add : OpR X (binaryOp .Add) (rI0 fun i j => .int (i + j)) := opI0 fun _ _ _ _ _ _ _ q => add_int q
theorem op_sub : OpR X (binaryOp .Sub) (rI0 fun i j => .int (i - j)) := opI0 fun _ _ _ _ _ _ _ q => sub_int q
theorem op_modN : OpR X (binaryOp .Mod) (rI (fun _ j => j ≠ 0) fun i j => .int (i.fmod j)) := opI fun _ _ _ _ _ _ _ hc q => mod_int' hc q
theorem op_pow : OpR X (binaryOp .Pow) (rI CPow fun i j => .int (i ^ j.toNat)) := opI fun _ _ _ _ _ _ _ hc q => pow_int_small hc.1 hc.2.1 hc.2.2 q
theorem unI {f : Value → Sem Value} {g : Int → Int}
    (rule : ∀ (i : Int) (t : Tok) (s : Shared) (Q : Value → Shared → Prop) (E : Value → Shared → Prop), Q (.int (g i) s.toks) { s with toks := s.toks + 1 } → wpAny (model X.prog X.w) X.A (f (.int i t)) Q E s) :
    UnR X f (rU fun i => .int (g i)) := by
  intro pins s σ H x v Q I rx h
  obtain ⟨i, rfl, q⟩ := h
  obtain ⟨t, rfl⟩ := rx
  exact rule i t s _ _ ⟨.int (g i), H, I.tok _, ⟨_, rfl⟩, q⟩
theorem un_neg : UnR X (unaryOp .USub) (rU fun i => .int (-i)) := unI fun _ _ _ _ _ q => neg_int q
end
def scal : V → V → Bool
  | .non, .non => true | .non, .int _ => true | .int _, .non => true | .non, .bl _ => true | .bl _, .non => true | .non, .str _ => true | .str _, .non => true
  | .int _, .int _ => true | .bl _, .bl _ => true | .str _, .str _ => true | .byt _, .byt _ => true
  | .int _, .str _ => true | .str _, .int _ => true | .bl _, .str _ => true | .str _, .bl _ => true
  | _, _ => false
def rEq : R2 := fun x y H Q => scal x y = true ∧ Q (.bl (decide (x = y))) H
def rNe : R2 := fun x y H Q => scal x y = true ∧ Q (.bl (!decide (x = y))) H
theorem dec_int {i j : Int} : decide (V.int i = V.int j) = (i == j) := by
  rw [Bool.eq_iff_iff]
  simp
theorem dec_bl {i j : Bool} : decide (V.bl i = V.bl j) = (i == j) := by
  rw [Bool.eq_iff_iff]
  simp
theorem dec_str {i j : Str} : decide (V.str i = V.str j) = (i == j) := by
  rw [Bool.eq_iff_iff]
  simp
theorem dec_byt {i j : Array UInt8} : decide (V.byt i = V.byt j) = (i.toList == j.toList) := by
  rw [Bool.eq_iff_iff]
  cases i
  cases j
  simp
section
variable {X : Cx} {a b c : Expr} {ta tb tc : TE} {pos : Pos}
theorem fin_bl {pins : List (Addr × Obj)} {σ : St} {H : Hp} {s : Shared} {Q : VK} {k k' : Bool} (I : Inv X pins σ H s) (q : Q (.bl k) H) (e : k = k') : EP X pins σ Q (.bool k') s := by
  subst e
  exact ⟨.bl k, H, I, rfl, q⟩
theorem op_eq : OpR X (compareOp .Eq) rEq := by
  intro pins s σ H x y v u Q I rx ry h
  obtain ⟨hs, q⟩ := h
  cases x with
  | non =>
    cases rx
    cases y with
    | non => cases ry; exact PySem.EqNone.eq_none_none (fin_bl I q (by simp))
    | bl j => cases ry; exact PySem.EqNone.eq_none_bool (fin_bl I q (by simp))
    | int j => obtain ⟨t', rfl⟩ := ry; exact PySem.EqNone.eq_none_int (fin_bl I q (by simp))
    | str j => obtain ⟨t', rfl⟩ := ry; exact PySem.EqNone.eq_none_str (fin_bl I q (by simp))
    | _ => exact absurd (show false = true from hs) Bool.false_ne_true
  | bl i =>
    cases rx
    cases y with
    | non => cases ry; exact PySem.EqNone.eq_bool_none (fin_bl I q (by simp))
    | bl j => cases ry; exact eq_bool (fin_bl I q dec_bl)
    | str j => obtain ⟨t', rfl⟩ := ry; exact PySem.EqMixed.eq_bool_str (fin_bl I q (by simp))
    | _ => exact absurd (show false = true from hs) Bool.false_ne_true
  | int i =>
    obtain ⟨t, rfl⟩ := rx
    cases y with
    | non => cases ry; exact PySem.EqNone.eq_int_none (fin_bl I q (by simp))
    | int j => obtain ⟨t', rfl⟩ := ry; exact eq_int (fin_bl I q dec_int)
    | str j => obtain ⟨t', rfl⟩ := ry; exact PySem.EqMixed.eq_int_str (fin_bl I q (by simp))
    | _ => exact absurd (show false = true from hs) Bool.false_ne_true
  | str i =>
    obtain ⟨t, rfl⟩ := rx
    cases y with
    | non => cases ry; exact PySem.EqNone.eq_str_none (fin_bl I q (by simp))
    | bl j => cases ry; exact PySem.EqMixed.eq_str_bool (fin_bl I q (by simp))
    | int j => obtain ⟨t', rfl⟩ := ry; exact PySem.EqMixed.eq_str_int (fin_bl I q (by simp))
    | str j => obtain ⟨t', rfl⟩ := ry; exact eq_str (fin_bl I q dec_str)
    | _ => exact absurd (show false = true from hs) Bool.false_ne_true
  | byt i =>
    obtain ⟨t, rfl⟩ := rx
    cases y with
    | byt j => obtain ⟨t', rfl⟩ := ry; exact PySem.W.eq_bytes (fin_bl I q dec_byt)
    | _ => exact absurd (show false = true from hs) Bool.false_ne_true
  | _ => cases y <;> exact absurd (show false = true from hs) Bool.false_ne_true
theorem op_ne : OpR X (compareOp .NotEq) rNe := by
  intro pins s σ H x y v u Q I rx ry h
  obtain ⟨hs, q⟩ := h
  cases x with
  | non =>
    cases rx
    cases y with
    | non => cases ry; exact PySem.EqNone.ne_none_none (fin_bl I q (by simp))
    | bl j => cases ry; exact PySem.EqNone.ne_none_bool (fin_bl I q (by simp))
    | int j => obtain ⟨t', rfl⟩ := ry; exact PySem.EqNone.ne_none_int (fin_bl I q (by simp))
    | str j => obtain ⟨t', rfl⟩ := ry; exact PySem.EqNone.ne_none_str (fin_bl I q (by simp))
    | _ => exact absurd (show false = true from hs) Bool.false_ne_true
  | bl i =>
    cases rx
    cases y with
    | non => cases ry; exact PySem.EqNone.ne_bool_none (fin_bl I q (by simp))
    | bl j => cases ry; exact ne_bool (fin_bl I q (congrArg not dec_bl))
    | str j => obtain ⟨t', rfl⟩ := ry; exact PySem.EqMixed.ne_bool_str (fin_bl I q (by simp))
    | _ => exact absurd (show false = true from hs) Bool.false_ne_true
  | int i =>
    obtain ⟨t, rfl⟩ := rx
    cases y with
    | non => cases ry; exact PySem.EqNone.ne_int_none (fin_bl I q (by simp))
    | int j => obtain ⟨t', rfl⟩ := ry; exact ne_int (fin_bl I q (congrArg not dec_int))
    | str j => obtain ⟨t', rfl⟩ := ry; exact PySem.EqMixed.ne_int_str (fin_bl I q (by simp))
    | _ => exact absurd (show false = true from hs) Bool.false_ne_true
  | str i =>
    obtain ⟨t, rfl⟩ := rx
    cases y with
    | non => cases ry; exact PySem.EqNone.ne_str_none (fin_bl I q (by simp))
    | bl j => cases ry; exact PySem.EqMixed.ne_str_bool (fin_bl I q (by simp))
    | int j => obtain ⟨t', rfl⟩ := ry; exact PySem.EqMixed.ne_str_int (fin_bl I q (by simp))
    | str j => obtain ⟨t', rfl⟩ := ry; exact ne_str (fin_bl I q (congrArg not dec_str))
    | _ => exact absurd (show false = true from hs) Bool.false_ne_true
  | byt i =>
    obtain ⟨t, rfl⟩ := rx
    cases y with
    | byt j => obtain ⟨t', rfl⟩ := ry; exact PySem.W.ne_bytes (fin_bl I q (congrArg not dec_byt))
    | _ => exact absurd (show false = true from hs) Bool.false_ne_true
  | _ => cases y <;> exact absurd (show false = true from hs) Bool.false_ne_true
theorem op_lt : OpR X (compareOp .Lt) (rI0 fun i j => .bl (decide (i < j))) := opB0 fun _ _ _ _ _ _ _ q => lt_int q
theorem op_gt : OpR X (compareOp .Gt) (rI0 fun i j => .bl (decide (j < i))) := opB0 fun _ _ _ _ _ _ _ q => gt_int q
theorem op_ge : OpR X (compareOp .GtE) (rI0 fun i j => .bl (decide (j ≤ i))) := opB0 fun _ _ _ _ _ _ _ q => ge_int q
theorem OpR.or {f : Value → Value → Sem Value} {r r' : R2} (h : OpR X f r) (h' : OpR X f r') : OpR X f (fun x y H Q => r x y H Q ∨ r' x y H Q) := by
  intro pins s σ H x y v u Q I rx ry q
  rcases q with q | q
  · exact h pins s σ H x y v u Q I rx ry q
  · exact h' pins s σ H x y v u Q I rx ry q
theorem nomark (b : Expr) {op : CmpOp} (h : op ≠ .In := by decide) (h2 : op ≠ .NotIn := by decide) : behindInMarks op b = false := by
  have e1 : (op == CmpOp.In) = false := by cases op <;> first | rfl | exact absurd rfl h
  have e2 : (op == CmpOp.NotIn) = false := by cases op <;> first | rfl | exact absurd rfl h2
  cases b <;> simp [behindInMarks, e1, e2]
theorem pe_cmpR {op : CmpOp} {r : R2} (ho : OpR X (compareOp op) r) (ha : PE X a ta) (hb : PE X b tb) (hm : behindInMarks op b = false) : PE X (.Compare a [op] [b] pos) (tOp r ta tb) := by
  intro pins s σ H Q I h
  exact wpAny_Compare1 (binT ha hb I h fun v u s2 x y H2 I2 rx ry q => ho pins s2 σ H2 x y v u Q I2 rx ry q) hm
def tTest (t : TE) : TT := fun σ H Q => t σ H fun x H' => ∃ k, x = .bl k ∧ Q k H'
theorem pt_cmpR {op : CmpOp} {r : R2} (ho : OpR X (compareOp op) r) (ha : PE X a ta) (hb : PE X b tb) (hm : behindInMarks op b = false) : PT X (.Compare a [op] [b] pos) (tTest (tOp r ta tb)) := by
  intro pins s σ H Q I h
  refine wpAny_isTrue_Compare1 (thn (ha pins s σ H _ I h) fun v s1 ⟨x, H1, I1, r1, q1⟩ => thn (hb pins s1 σ H1 _ I1 q1) fun u s2 ⟨y, H2, I2, r2, q2⟩ =>
    thn (ho pins s2 σ H2 x y v u _ I2 r1 r2 q2) fun c s3 ⟨z, H3, I3, r3, k, e, q3⟩ => ?_) hm
  subst e
  cases r3
  exact wpAny_truthy_bool ⟨H3, I3, q3⟩
theorem line63 : (sizeLine : Nat) < 2 ^ 63 := by rw [sizeLine_eq]; decide
theorem vals1 {x : V} {us : List Value} (r : Vals [x] us) : ∃ u, us = [u] ∧ RelV x u := by
  cases r with
  | cons r1 r2 => cases r2; exact ⟨_, rfl, r1⟩
theorem vals2 {x y : V} {us : List Value} (r : Vals [x, y] us) : ∃ u w', us = [u, w'] ∧ RelV x u ∧ RelV y w' := by
  cases r with
  | cons r1 r2 =>
    cases r2 with
    | cons r3 r4 => cases r4; exact ⟨_, _, rfl, r1, r3⟩
theorem call_abs : CallR X (.builtin "abs") (fun xs H Q => ∃ i, xs = [.int i] ∧ Q (.int (if i < 0 then -i else i)) H) := by
  intro pins s σ H xs us Q I r h
  obtain ⟨i, rfl, q⟩ := h
  obtain ⟨u, rfl, t, rfl⟩ := vals1 r
  exact call_abs_int fun u tk => ⟨.int (if i < 0 then -i else i), H, I.tok _, ⟨_, rfl⟩, q⟩
theorem call_int1 : CallR X (.type "int") (fun xs H Q => (∃ i, xs = [.int i] ∧ Q (.int i) H) ∨ ∃ k, xs = [.bl k] ∧ Q (.int (if k then 1 else 0)) H) := by
  intro pins s σ H xs us Q I r h
  rcases h with ⟨i, rfl, q⟩ | ⟨k, rfl, q⟩
  · obtain ⟨u, rfl, t, rfl⟩ := vals1 r
    exact call_int_int ⟨.int i, H, I, ⟨_, rfl⟩, q⟩
  · obtain ⟨u, rfl, r1⟩ := vals1 r
    cases r1
    exact call_int_bool ⟨.int (if k then 1 else 0), H, I.tok _, ⟨_, rfl⟩, q⟩
end
end L2
namespace L2
open PySem PySem.Spec PyProof.Rows
structure ObjM (h : Heap) (x dx C : Addr) (mA : Str → Option Value) : Prop where
  obj : h.get? x = some (PySem.W.instObj C dx)
  ns : h.Ns1 dx mA
  ne : dx ≠ x
theorem lookIn_ns {h : Heap} {dx : Addr} {mA : Str → Option Value} (n : h.Ns1 dx mA) : ∃ od, h.get? dx = some od ∧ ∀ name, PySem.W.lookIn name od = some (mA name) := by
  obtain ⟨o, es, ep, ho, hd, hk, _, hm⟩ := n
  refine ⟨o, ho, fun name => ?_⟩
  have e := hm name
  unfold nsFind findBy at e
  rw [← Array.find?_toList] at e
  unfold PySem.W.lookIn
  rw [hd]
  dsimp only
  split
  · rename_i y q
    rw [q] at e
    exact congrArg some e
  · rename_i q
    rw [q] at e
    have a : es.toList.any (·.refKey) = false := by
      rw [List.any_eq_false]
      intro y hy
      obtain ⟨z, t, hkey⟩ := hk y (Array.mem_toList_iff.mp hy)
      simp [DictEntry.refKey, hkey]
    have a' : ¬ es.toList.any (·.refKey) = true := by rw [a]; exact Bool.false_ne_true
    rw [if_neg a']
    exact congrArg some e
theorem ObjM.look {h : Heap} {x dx C : Addr} {mA : Str → Option Value} (I : ObjM h x dx C mA) : ∃ od, PySem.W.InstAt h x (PySem.W.instObj C dx) C (some od) ∧ ∀ name, PySem.W.lookIn name od = some (mA name) :=
  let ⟨od, ho, hl⟩ := lookIn_ns I.ns
  ⟨od, ⟨I.obj, rfl, rfl, ho⟩, hl⟩
section
variable {prog : Program} {w : World} {A : Around} {E : Value → Shared → Prop} {s : Shared} {K : PySem.W.Frag} {x dx C f : Addr} {mA : Str → Option Value} {name : Str} {v : Value}
end
section
variable {P : Program} {w : World} {H H' : Hp} {h h' : Heap} {a C dx : Addr} {fs fs' : List (Str × V)}
theorem ins_get (hok : HOk P w H h) (e : H a = some (.ins C dx fs)) : ∃ mA, ObjM h a dx C mA ∧ (∀ f, RelO (fs.lookup f) (mA f)) ∧ PySem.Within mA (fs.map (·.1)) ∧ fs.length ≤ 1000 ∧ H dx = some (.own a) := by
  obtain ⟨d, z, ne, ob, mA, n, r, q⟩ := (show ObjOk P w H h a (.ins C dx fs) from hok a _ e)
  exact ⟨mA, ⟨ob, n, ne⟩, r, q, z, d⟩
end
structure Cls (K : PySem.W.Frag) (C : Addr) : Prop where
  pg : PySem.W.plainGet K C Str.empty = true
  hd : PySem.W.hasDictIn K C = true
  po : PySem.W.plainOver K C = true
  sa : PySem.W.findIn K (.ref C) "__setattr__" = some (some (.builtin "object.__setattr__"))
theorem Cls.get {K : PySem.W.Frag} {C : Addr} (c : Cls K C) (f : Str) : PySem.W.plainGet K C f = true := c.pg
section
variable {X : Cx} {pins : List (Addr × Obj)} {σ : St} {H : Hp} {s : Shared} {a C dx : Addr} {fs : List (Str × V)} {f : Str} {v : V} {A : Around} {E : Value → Shared → Prop}
end
section
variable {X : Cx} {o e value : Expr} {f : Str} {pos pos' tpos : Pos} {ta tv : TE}
end
section
variable {X : Cx} {pins : List (Addr × Obj)} {σ : St} {H : Hp} {s : Shared} {A : Around} {E : Value → Shared → Prop} {Q : Value → Shared → Prop} {c : Value} {b : Bool}
inductive TyOf (K : PySem.W.Frag) (H : Hp) : V → Value → Prop where
  | non : TyOf K H .non (.type "NoneType")
  | bl (x : Bool) : TyOf K H (.bl x) (.type "bool")
  | int (i : Int) : TyOf K H (.int i) (.type "int")
  | str (x : Str) : TyOf K H (.str x) (.type "str")
  | flt (x : UInt64) : TyOf K H (.flt x) (.type "float")
  | lst {a : Addr} {xs : List V} (e : H a = some (.lst xs)) : TyOf K H (.ref a) (.type "list")
  | frz {a : Addr} {o : Obj} {xs : List V} (e : H a = some (.frz o (.lst xs))) : TyOf K H (.ref a) (.type "list")
  | tup {a : Addr} {xs : List V} (e : H a = some (.tup xs)) : TyOf K H (.ref a) (.type "tuple")
  | dK {a : Addr} {kvs : List (Key × V)} (e : H a = some (.dK kvs)) : TyOf K H (.ref a) (.type "dict")
  | dT {a : Addr} {kvs : List (List Key × V)} (e : H a = some (.dT kvs)) : TyOf K H (.ref a) (.type "dict")
  | ins {a C dx : Addr} {fs : List (Str × V)} (e : H a = some (.ins C dx fs)) (cl : Cls K C) (ha : PySem.W.findIn K (.ref C) "__class__" = some (some (.builtin "object.__class__")))
      (hn : PySem.W.specialIn K (.builtin "object.__class__") "__get__" = some (some (.builtin "getset_descriptor.__get__"))) (htk : PySem.W.takesIn K (.builtin "object.__class__") = some true)
      (hm : PySem.W.mroIn K C (.type "object") = some true) : TyOf K H (.ref a) (.ref C)
theorem isinst_ok {x : V} {u t : Value} (I : Inv X pins σ H s) (rx : RelV x u) (ty : TyOf X.K H x t) (e : PySem.W.kitOne X.K t c = some b) (h : ∀ tk, Q (.bool b) { s with toks := tk }) :
    wpAny (model X.prog X.w) A (call (.builtin "isinstance") [u, c]) Q E s := by
  cases ty with
  | non => cases (show u = Value.none from rx); exact PySem.W.kia_one PySem.W.kitx_none I.kIn True.intro e (fun z => nomatch z) h
  | bl y => cases (show u = Value.bool y from rx); exact PySem.W.kia_one PySem.W.kitx_bool I.kIn True.intro e (fun z => nomatch z) h
  | int i => obtain ⟨t, q⟩ := (show ∃ t, u = Value.int i t from rx); cases q; exact PySem.W.kia_one PySem.W.kitx_int I.kIn True.intro e (fun z => nomatch z) h
  | str y => obtain ⟨t, q⟩ := (show ∃ t, u = Value.str y t from rx); cases q; exact PySem.W.kia_one PySem.W.kitx_str I.kIn True.intro e (fun z => nomatch z) h
  | flt y => obtain ⟨t, q⟩ := (show ∃ t, u = Value.float y t from rx); cases q; exact PySem.W.kia_one PySem.W.kitx_float I.kIn True.intro e (fun z => nomatch z) h
  | @lst a xs ea =>
    cases (show u = Value.ref a from rx)
    obtain ⟨_, _, n, _, h1⟩ := (show ObjOk X.prog X.w H s.heap a (.lst xs) from I.hok a _ ea)
    exact PySem.W.kia_one PySem.W.kitx_list I.kIn ⟨_, h1, rfl⟩ e (fun z => nomatch z) h
  | @frz a ob xs ea =>
    cases (show u = Value.ref a from rx)
    obtain ⟨_, _, _, n, _, h1⟩ := (show ObjOk X.prog X.w H s.heap a (.frz ob (.lst xs)) from I.hok a _ ea)
    exact PySem.W.kia_one PySem.W.kitx_list I.kIn ⟨_, h1, rfl⟩ e (fun z => nomatch z) h
  | @tup a xs ea =>
    cases (show u = Value.ref a from rx)
    obtain ⟨_, _, _, p⟩ := (show ObjOk X.prog X.w H s.heap a (.tup xs) from I.hok a _ ea)
    obtain ⟨o, h1, h2, _⟩ := p
    exact PySem.W.kia_one PySem.W.kitx_tuple I.kIn ⟨o, h1, h2⟩ e (fun z => nomatch z) h
  | @dK a kvs ea =>
    cases (show u = Value.ref a from rx)
    obtain ⟨_, _, vs, _, p⟩ := (show ObjOk X.prog X.w H s.heap a (.dK kvs) from I.hok a _ ea)
    obtain ⟨o, es, ep, h1, h2, _⟩ := p
    exact PySem.W.kia_one PySem.W.kitx_dict I.kIn ⟨o, h1, h2.1⟩ e (fun z => nomatch z) h
  | @dT a kvs ea =>
    cases (show u = Value.ref a from rx)
    obtain ⟨_, _, xs, _, o, es, ep, h1, h2, _⟩ := (show ObjOk X.prog X.w H s.heap a (.dT kvs) from I.hok a _ ea)
    exact PySem.W.kia_one PySem.W.kitx_dict I.kIn ⟨o, h1, h2.1⟩ e (fun z => nomatch z) h
  | @ins a C dx fs ea cl ha hn htk hm =>
    cases (show u = Value.ref a from rx)
    obtain ⟨mA, O, _⟩ := ins_get I.hok ea
    obtain ⟨od, J, _⟩ := O.look
    exact PySem.W.kia_one (PySem.W.kitx_own (cl.get _) cl.hd ha hn htk hm) I.kIn J e (fun z => nomatch z) h
end
end L2
namespace L2
open PySem PySem.Spec PyProof.Rows
structure Room (k : Nat) (A : Around) : Prop where
  hd : A.handled = none
  dp : A.depth + 3 * k + 5 < recursionLimit
  un : A.units + 16 * k + 200 < cLine
theorem Room.mono {j k : Nat} {A : Around} (r : Room k A) (h : j ≤ k) : Room j A := ⟨r.hd, by have := r.dp; omega, by have := r.un; omega⟩
theorem Room.deeper {k : Nat} {A : Around} (r : Room (k + 1) A) (env : Env) : Room k (A.deeper env) :=
  ⟨r.hd, by have := r.dp; show A.depth + 1 + 3 * k + 5 < _; omega, by have := r.un; show A.units + 3 + 16 * k + 200 < _; omega⟩
theorem Room.depth {k : Nat} {A : Around} (r : Room k A) : A.depth < recursionLimit := by have := r.dp; omega
theorem Room.units {k : Nat} {A : Around} (r : Room k A) : A.units + 64 < cLine := by have := r.un; omega
def tNil : TA := fun _ H Q => Q [] H
def tCons (ta : TE) (tr : TA) : TA := fun σ H Q => ta σ H fun x H1 => tr σ H1 fun xs H2 => Q (x :: xs) H2
section
variable {X : Cx} {e : Expr} {es : List Expr} {te : TE} {t : TA} {pos : Pos}
theorem pa_nil : PA X [] tNil := fun _ _ _ _ H Q I h => Calls.spliced_nil ⟨[], H, I, .nil, h⟩
theorem pa_cons (ha : PE X e te) (hr : PA X es t) (hs : starEach (e :: es) X.env = (false, eval e X.env) :: starEach es X.env := by rfl) : PA X (e :: es) (tCons te t) := by
  intro pos pins s σ H Q I h
  rw [hs]
  show wpAny _ _ (spliced ((false, eval e X.env) :: backTo pos (starEach es X.env))) _ _ s
  refine Calls.spliced_cons (thn (ha pins s σ H _ I h) fun u s1 ⟨x, H1, I1, r1, q1⟩ => ?_)
  exact thn (hr pos pins s1 σ H1 _ I1 q1) fun us s2 ⟨xs, H2, I2, r2, q2⟩ => ⟨x :: xs, H2, I2, .cons r1 r2, q2⟩
def tTup (t : TA) : TE := fun σ H Q => t σ H fun xs H1 => xs.length ≤ sizeLine ∧ ∀ p, H1 p = none → Q (.ref p) (upd H1 p (.tup xs))
def tLst (t : TA) : TE := fun σ H Q => t σ H fun xs H1 => xs.length ≤ sizeLine ∧ ∀ p, H1 p = none → Q (.ref p) (upd H1 p (.lst xs))
theorem pe_tup {x1} (h : PA X es t) : PE X (.Tuple es x1 pos) (tTup t) := by
  intro pins s σ H Q I hq
  refine wpAny_Tuple_spliced (thn (h pos pins s σ H _ I hq) fun us s1 ⟨xs, H1, I1, r, z, q⟩ => ⟨by rw [← r.length]; exact z, ?_⟩)
  have hf : H1 s1.heap.objs.size = none := I1.hok.fresh (Nat.le_refl _)
  refine ⟨.ref s1.heap.objs.size, upd H1 s1.heap.objs.size (.tup xs), I1.laid (t' := s1.toks) (fun b u e => Heap.get?_push_of_some _ e) (Nat.le_refl _) ?_, rfl, q _ hf⟩
  exact ⟨z, us, r, ⟨_, Heap.get?_push_size _ rfl, rfl, _, rfl⟩⟩
theorem pe_lst (h : PA X es t) : PE X (.List es pos) (tLst t) := by
  intro pins s σ H Q I hq
  refine wpAny_List_spliced (thn (h pos pins s σ H _ I hq) fun us s1 ⟨xs, H1, I1, r, z, q⟩ => ⟨by rw [← r.length]; exact z, ?_⟩)
  have hf : H1 s1.heap.objs.size = none := I1.hok.fresh (Nat.le_refl _)
  refine ⟨.ref s1.heap.objs.size, upd H1 s1.heap.objs.size (.lst xs), I1.laid (t' := s1.toks) (fun b u e => Heap.get?_push_of_some _ e) (Nat.le_refl _) ?_, rfl, q _ hf⟩
  exact ⟨z, us, 0, r, Heap.get?_push_size _ rfl⟩
end
abbrev Sp := List V → Hp → VK → XK → Prop
abbrev CXT := List Env → Hp → Shared → XK → Value → Shared → Prop
structure Env0 (P : Program) (w : World) (K : PySem.W.Frag) (mg : Str → Option Value) (base : Heap) (A : Around) (outer : List Env) (s : Shared) (H : Hp) : Prop where
  frames : A.frames = some outer
  mod : Mod K mg base
  bs : ∀ b o, base.get? b = some o → s.heap.get? b = some o ∧ H b = none
  bsz : base.objs.size ≤ s.heap.objs.size
  funs : s.heap.FunFrames base outer
  frf : ∀ b ∈ frs outer, H b = none
  hok : HOk P w H s.heap
  bare : AllBare s.gens
def CE (outer : List Env) (P : Program) (w : World) (H : Hp) (s : Shared) (Q : VK) (u : Value) (s' : Shared) : Prop :=
  ∃ v H', s'.os = s.os ∧ AllBare s'.gens ∧ Un (frs outer) [] H H' s.heap s'.heap ∧ HOk P w H' s'.heap ∧ RelV v u ∧ Q v H'
def CR (CX : CXT) (outer : List Env) (P : Program) (w : World) (H : Hp) (s : Shared) (Q : VK) (E : XK) (r : Result) (s' : Shared) : Prop :=
  match r with
  | .ok (.ret u) => CE outer P w H s Q u s'
  | .ok _ => False
  | .error e => CX outer H s E e s'
structure FnOk (P : Program) (w : World) (K : PySem.W.Frag) (mg : Str → Option Value) (base : Heap) (CX : CXT) (k : Nat) (f : Addr) (fd : FuncData) (ps : List Str) (sp : Sp) : Prop where
  len : ∀ vs H Q E, sp vs H Q E → vs.length = ps.length
  run : ∀ (A : Around) (outer : List Env) (s : Shared) (H : Hp) (args : Args) (us : List Value) (vs : List V) (Q : VK) (E : XK), Room k A → Env0 P w K mg base A outer s H → BindsTo s fd args (ps.zip us) → Vals vs us → sp vs H Q E →
    codeAny (model P w) A (.call (.ref f) args) (CR CX outer P w H s Q E) s
theorem FnOk.imp {P : Program} {w : World} {K : PySem.W.Frag} {mg : Str → Option Value} {base : Heap} {CX : CXT} {k : Nat} {f : Addr} {fd : FuncData} {ps : List Str} {sp sp' : Sp} (F : FnOk P w K mg base CX k f fd ps sp)
    (h : ∀ vs H Q E, sp' vs H Q E → sp vs H Q E) : FnOk P w K mg base CX k f fd ps sp' :=
  ⟨fun vs H Q E q => F.len vs H Q E (h _ _ _ _ q), fun A outer s H args us vs Q E hr he hb hv hs => F.run A outer s H args us vs Q E hr he hb hv (h _ _ _ _ hs)⟩
section
variable {X : Cx} {pins : List (Addr × Obj)} {σ : St} {H : Hp} {s s' : Shared}
theorem Inv.env0 (I : Inv X pins σ H s) : Env0 X.prog X.w X.K X.mg X.base X.A X.stack s H :=
  ⟨I.ok.frames, I.ok.mod, I.bs, Nat.le_trans I.ok.bsz I.sz, I.stack, I.stkFree, I.hok, I.bare⟩
theorem Inv.after {Q : VK} {u : Value} (I : Inv X pins σ H s) (h : CE X.stack X.prog X.w H s Q u s') : EP X pins σ Q u s' := by
  obtain ⟨v, H', os, bare, un, hok, r, q⟩ := h
  obtain ⟨hh, g, d, t, os'⟩ := s'
  obtain rfl : os' = s.os := os
  exact ⟨v, H', I.call (h' := hh) (g' := g) (d' := d) (t' := t) (ch := []) un hok bare (fun b z => absurd z (by simp)), r, q⟩
end
def tCall (sp : Sp) (dvs : List V) (E : XK) (t : TA) : TE := fun σ H Q => t σ H fun vs H1 => sp (vs ++ dvs) H1 Q E
def Binds (K : PySem.W.Frag) (fd : FuncData) (ps : List Str) (ds : List Value) : Prop :=
  ∀ (s : Shared) (us : List Value), K.In s.heap → (us ++ ds).length = ps.length → BindsTo s fd ⟨us, []⟩ (ps.zip (us ++ ds))
theorem Binds.all {K : PySem.W.Frag} {fd : FuncData} {ps : List Str} (h : ∀ us : List Value, us.length = ps.length → bindArgs fd ⟨us, []⟩ = pure (ps.zip us)) : Binds K fd ps [] := fun s us _ hl => by
  rw [List.append_nil] at hl ⊢
  exact .of_eq (h us hl)
def Passes (CX : CXT) (X : Cx) (E : XK) : Prop := ∀ (pins : List (Addr × Obj)) (σ : St) (H : Hp) (s : Shared) (e : Value) (s' : Shared), Inv X pins σ H s → CX X.stack H s E e s' → X.xe e s'
section
variable {X : Cx} {CX : CXT} {k : Nat} {f C : Addr} {fd : FuncData} {ps : List Str} {sp : Sp} {dvs : List V} {ds : List Value} {E : XK} {x m : Str} {p pos apos : Pos} {e o : Expr} {es : List Expr} {ta : TE} {t : TA}
theorem run_fn {pins : List (Addr × Obj)} {σ : St} {H : Hp} {s : Shared} {Q : VK} {us : List Value} {vs : List V} (F : FnOk X.prog X.w X.K X.mg X.base CX k f fd ps sp) (hr : Room k X.A) (hb : Binds X.K fd ps ds) (hd : Vals dvs ds) (hx : Passes CX X E)
    (I : Inv X pins σ H s) (r : Vals vs us) (h : sp (vs ++ dvs) H Q E) : wpAny (model X.prog X.w) X.A (call (.ref f) us) (EP X pins σ Q) X.xe s := by
  have r2 : Vals (vs ++ dvs) (us ++ ds) := r.append hd
  have hl : (us ++ ds).length = ps.length := by rw [← r2.length]; exact F.len _ _ _ _ h
  refine wpAny_call (codeAny_mono (F.run X.A X.stack s H ⟨us, []⟩ (us ++ ds) (vs ++ dvs) Q E hr I.env0 (hb s us I.kIn hl) r2 h) fun r s' hq => ?_)
  cases r with
  | error e => exact hx pins σ H s e s' I hq
  | ok fl =>
    cases fl with
    | ret u => exact I.after hq
    | next => exact False.elim hq
    | brk => exact False.elim hq
    | cont => exact False.elim hq
theorem pe_call (F : FnOk X.prog X.w X.K X.mg X.base CX k f fd ps sp) (hr : Room k X.A) (hg : Gl X x) (hm : X.mg x = some (.ref f)) (hk : PySem.W.keepIn X.K (.ref f) = true) (hb : Binds X.K fd ps ds) (hd : Vals dvs ds) (hx : Passes CX X E)
    (ha : PA X (e :: es) t) (hdb : (x == ("__debug__" : Str)) = false := by decide) (he : starEach (e :: es) X.env = (false, eval e X.env) :: starEach es X.env := by rfl) (hpl : (backTo pos (starEach es X.env)).any (·.1) = false := by rfl) :
    PE X (.Call (.Name x p) (e :: es) [] pos) (tCall sp dvs E t) := by
  intro pins s σ H Q I h
  refine wpAny_Call_Name_kw (ld_glob I hg hm ?_ hdb)
  refine PySem.W.callWith_K (h₀ := X.base) I.ok.mod.kin hk (thn (ha pos pins s σ H _ I h) fun us s1 ⟨vs, H1, I1, r, q⟩ => ⟨I1.kIn, ?_⟩) he hpl
  exact run_fn F hr hb hd hx I1 r q
end
section
variable {X : Cx} {CX : CXT} {k : Nat} {f C : Addr} {fd : FuncData} {ps ks : List Str} {sp : Sp} {E : XK} {x m : Str} {p pos apos kpos : Pos} {e o : Expr} {es : List Expr} {kws : List Keyword} {te ta : TE} {t tk : TA} {nm : Option Str}
variable {g : List Value → List Value → List Value} {gV : List V → List V → List V}
end
structure FnScope (N P : List Str) (sc : Scope) : Prop where
  kind : sc.kind = .function
  co : sc.isCoroutine = false
  gen : sc.isGenerator = false
  nd : N.Nodup
  pre : N.take P.length = P
  par : ∀ x ∈ P, sc.names.lookup x = some .local ∨ sc.names.lookup x = some .cell
  nofree : ∀ y ∈ sc.names, y.2 ≠ .free
theorem bindL_out {kindOf : Str → Option NameKind} {x : Str} : ∀ {binds : List (Str × Value)} {m : Str → Option Value}, (∀ v, (x, v) ∉ binds) → bindL kindOf binds m x = m x
  | [], _, _ => rfl
  | (n, v) :: r, m, h => by
    unfold bindL
    rw [bindL_out fun w hw => h w (List.mem_cons_of_mem _ hw)]
    split
    · have : x ≠ n := by rintro rfl; exact h v List.mem_cons_self
      simp [this]
    · rfl
theorem bindC_out {kindOf : Str → Option NameKind} {x : Str} : ∀ {binds : List (Str × Value)} {m : Str → Option Value}, (∀ v, (x, v) ∉ binds) → bindC kindOf binds m x = m x
  | [], _, _ => rfl
  | (n, v) :: r, m, h => by
    unfold bindC
    rw [bindC_out fun w hw => h w (List.mem_cons_of_mem _ hw)]
    split
    · rfl
    · have : x ≠ n := by rintro rfl; exact h v List.mem_cons_self
      simp [this]
theorem bindL_get {kindOf : Str → Option NameKind} {x : Str} {v : Value} : ∀ {P : List Str} {vs : List Value} {i : Nat} {m : Str → Option Value}, P.Nodup → P[i]? = some x → vs[i]? = some v → kindOf x = some .local →
    bindL kindOf (P.zip vs) m x = some v
  | [], _, _, _, _, h, _, _ => by simp at h
  | _ :: _, [], _, _, _, _, h, _ => by simp at h
  | p :: P, w :: vs, 0, m, nd, h1, h2, hk => by
    simp at h1 h2; subst h1; subst h2
    show bindL kindOf ((p, w) :: P.zip vs) m p = _
    unfold bindL
    rw [bindL_out fun v hv => (List.nodup_cons.mp nd).1 (List.of_mem_zip hv).1, if_pos hk]
    simp
  | p :: P, w :: vs, i + 1, m, nd, h1, h2, hk => by
    show bindL kindOf ((p, w) :: P.zip vs) m x = _
    unfold bindL
    exact bindL_get (i := i) (List.nodup_cons.mp nd).2 (by simpa using h1) (by simpa using h2) hk
theorem bindC_get {kindOf : Str → Option NameKind} {x : Str} {v : Value} : ∀ {P : List Str} {vs : List Value} {i : Nat} {m : Str → Option Value}, P.Nodup → P[i]? = some x → vs[i]? = some v → kindOf x ≠ some .local →
    bindC kindOf (P.zip vs) m x = some v
  | [], _, _, _, _, h, _, _ => by simp at h
  | _ :: _, [], _, _, _, _, h, _ => by simp at h
  | p :: P, w :: vs, 0, m, nd, h1, h2, hk => by
    simp at h1 h2; subst h1; subst h2
    show bindC kindOf ((p, w) :: P.zip vs) m p = _
    unfold bindC
    rw [bindC_out fun v hv => (List.nodup_cons.mp nd).1 (List.of_mem_zip hv).1, if_neg hk]
    simp
  | p :: P, w :: vs, i + 1, m, nd, h1, h2, hk => by
    show bindC kindOf ((p, w) :: P.zip vs) m x = _
    unfold bindC
    exact bindC_get (i := i) (List.nodup_cons.mp nd).2 (by simpa using h1) (by simpa using h2) hk
def start (N : List Str) (vs : List V) : St := vs.map some ++ List.replicate (N.length - vs.length) none
def cxOf (CX : CXT) (P : Program) (w : World) (K : PySem.W.Frag) (mg : Str → Option Value) (base : Heap) (N : List Str) (qual : Str) (scope : Scope) (f : Addr) (cd : Value) (A : Around) (outer : List Env) (s : Shared) (H : Hp) (E : XK) : Cx where
  prog := P
  w := w
  K := K
  mg := mg
  base := base
  A := A.deeper (envOfC qual scope s.heap.objs.size f cd)
  N := N
  s₀ := s
  H₀ := H
  env := envOfC qual scope s.heap.objs.size f cd
  outer := outer
  stack := envOfC qual scope s.heap.objs.size f cd :: outer
  ex := []
  calm := true
  fn := fun _ => true
  pn := []
  xe := fun e s' => wpAny (model P w) (A.deeper (envOfC qual scope s.heap.objs.size f cd)) (leaving (envOfC qual scope s.heap.objs.size f cd) e) (fun _ s'' => CX outer H s E e s'') (fun e' s'' => CX outer H s E e' s'') s'
theorem cell_has {sc : Scope} {n : Nat} {x : Str} (h : sc.names.lookup x = some .cell) : ∃ c, (cellsFrom n sc.names []).lookup x = some c := by
  have q := PySem.W.cellsFrom_some sc.names n [] (.inl h)
  exact Option.isSome_iff_exists.mp q
theorem inv_start {CX : CXT} {P : Program} {w : World} {K : PySem.W.Frag} {mg : Str → Option Value} {base : Heap} {N ps : List Str} {qual : Str} {scope : Scope} {f : Addr} {cd : Value} {A : Around} {outer : List Env} {s s1 : Shared} {H : Hp} {E : XK} {us : List Value} {vs : List V}
    (S : FnScope N ps scope) (hd : A.handled = none) (e0 : Env0 P w K mg base A outer s H) (hl : vs.length = ps.length) (r : Vals vs us)
    (x : InCallC s s.heap.objs.size (bindL (envOfC qual scope s.heap.objs.size f cd).kindOf (ps.zip us) fun _ => none) (cellsFrom (s.heap.objs.size + 1) scope.names []) (bindC (envOfC qual scope s.heap.objs.size f cd).kindOf (ps.zip us) fun _ => none) s1) :
    Inv (cxOf CX P w K mg base N qual scope f cd A outer s H E) [] (start N vs) H s1 := by
  have hpl : ps.length ≤ N.length := by have := congrArg List.length S.pre; rw [List.length_take] at this; omega
  obtain ⟨h1, tk, rfl, hk⟩ := x.done
  have noA : ∀ b : Addr, b ∉ (cxOf CX P w K mg base N qual scope f cd A outer s H E).ex := fun b z => absurd (show b ∈ ([] : List Addr) from z) (by simp)
  refine ⟨⟨e0.mod, S.kind, rfl, rfl, Nat.le_refl _, fun y z c h1 h2 => ?_, fun y hy => ?_, fun y c _ h => ?_, fun _ => hd, Around.frames_deeper e0.frames, .inr ⟨rfl, rfl⟩, fun b z => absurd z (noA b), e0.bs, e0.bsz, fun b _ _ => noA b, fun b z => absurd z (noA b), e0.funs, e0.frf⟩,
    rfl, e0.bare, Un.kept hk, ⟨_, x.toInCall.ns, fun i y v h1 h2 h3 => ?_⟩, fun y c h => ⟨_, x.cell y c h⟩, e0.hok.fresh (Nat.le_refl _), fun y c h => ?_, fun p hp => absurd (show p ∈ ([] : List (Addr × Obj)) from hp) (by simp), e0.hok.kept hk, ?_⟩
  · exact name_of_addr x.apart (PySem.mem_of_lookup h1) (PySem.mem_of_lookup h2)
  · have hy : scope.names.lookup y = some .cell ∨ scope.names.lookup y = some .free := hy
    rcases hy with hy | hy
    · exact cell_has hy
    · exact absurd rfl (S.nofree _ (PySem.mem_of_lookup hy))
  · exact Nat.le_of_lt (x.above y c (PySem.mem_of_lookup h))
  · have hi : i < vs.length := by
      unfold start at h2
      by_cases hi : i < vs.length
      · exact hi
      · rw [List.getElem?_append_right (by simpa using hi)] at h2
        rw [List.getElem?_replicate] at h2
        split at h2 <;> cases h2
    have ha : vs[i]? = some v := by
      unfold start at h2
      rw [List.getElem?_append_left (by simpa using hi), List.getElem?_map] at h2
      cases e : vs[i]? with
      | none => rw [e] at h2; cases h2
      | some a => rw [e] at h2; cases h2; rfl
    obtain ⟨u, hu, rv⟩ := r.get ha
    have hp : ps[i]? = some y := by
      rw [← S.pre, List.getElem?_take_of_lt (by omega)]; exact h1
    have ndP : ps.Nodup := by rw [← S.pre]; exact S.nd.sublist (List.take_sublist _ _)
    refine ⟨u, rv, ?_⟩
    rcases S.par y (List.mem_of_getElem? hp) with k | k
    · exact .inl ⟨k, bindL_get ndP hp hu k⟩
    · obtain ⟨c, e⟩ := cell_has (n := s.heap.objs.size + 1) k
      refine .inr ⟨.inl k, c, e, ?_⟩
      have q := x.cell y c e
      rw [bindC_get ndP hp hu (by show scope.names.lookup y ≠ _; rw [k]; decide)] at q
      exact q
  · exact .inl (e0.hok.fresh (Nat.le_of_lt (x.above y c (PySem.mem_of_lookup h))))
  · unfold start
    show _ = N.length
    rw [List.length_append, List.length_map, List.length_replicate]
    omega
theorem fn_of {CX : CXT} {P : Program} {w : World} {K : PySem.W.Frag} {mg : Str → Option Value} {base : Heap} {k : Nat} {f : Addr} {name qual : Str} {params : Arguments} {body : List Stmt} {scope : Scope} {dV kV doc pm cdv ct oc : Value} {an od : Option Addr}
    {osl : Array (Option Value)} {N ps : List Str} {sp : Sp} (lk : K.lookup f = some ⟨oc, od, .func (PySem.W.fnOf name qual params body scope dV kV doc pm an cdv ct), osl⟩) (hcd : PySem.W.codeIn K cdv qual = true) (S : FnScope N ps scope)
    (len : ∀ vs H Q E, sp vs H Q E → vs.length = ps.length)
    (hbody : ∀ (A : Around) (outer : List Env) (s : Shared) (H : Hp) (vs : List V) (Q : VK) (E : XK), Room k (A.deeper (envOfC qual scope s.heap.objs.size f cdv)) → sp vs H Q E →
      ∃ t, PSs (cxOf CX P w K mg base N qual scope f cdv A outer s H E) body t ∧ t { nx := fun _ H' => Q .non H', rt := Q } (start N vs) H) :
    FnOk P w K mg base CX (k + 1) f (PySem.W.fnOf name qual params body scope dV kV doc pm an cdv ct) ps sp := by
  refine ⟨len, fun A outer s H args us vs Q E hr e0 hb r hsp => ?_⟩
  have hl := len _ _ _ _ hsp
  have KX : K.In s.heap := e0.mod.kin.keeps fun b o e => (e0.bs b o e).1
  have lim : s.heap.NoLimit := e0.mod.nolimit.keeps fun b o e => (e0.bs b o e).1
  have hkind : ∀ y ∈ ps.zip us, scope.names.lookup y.1 = some .local ∨ (scope.names.lookup y.1 = some .cell ∧ ((cellsFrom (s.heap.objs.size + 1) scope.names []).lookup y.1).isSome = true) := fun ⟨n, v⟩ hy => by
    rcases S.par n (List.of_mem_zip hy).1 with q | q
    · exact .inl q
    · exact .inr ⟨q, PySem.W.cellsFrom_some _ _ _ (.inl q)⟩
  refine codeAny_call_function hr.depth (KX _ _ lk) rfl S.co S.gen rfl (PySem.W.codeRec_of KX hcd) (hb _ _ _ _ ?_)
  refine wpAny_newFunctionEnv_cells S.kind hkind fun env he s1 x => ?_
  subst he
  refine ⟨lim.keeps x.toInCall.keep, codeAny_func ?_⟩
  obtain ⟨t, ht, hq⟩ := hbody A outer s H vs Q E (hr.deeper _) hsp
  have I : Inv (cxOf CX P w K mg base N qual scope f cdv A outer s H E) [] (start N vs) H s1 := inv_start S hr.hd e0 hl r x
  refine wpAny_mono (ht [] s1 (start N vs) H _ I hq) (fun fl s' hs => ?_) fun e s' hs => hs
  have fin : ∀ {σ' : St} {H' : Hp} {v : V} {u : Value}, Inv (cxOf CX P w K mg base N qual scope f cdv A outer s H E) [] σ' H' s' → RelV v u → Q v H' → CE outer P w H s Q u s' :=
    fun {σ' H' v u} J rv q => ⟨v, H', J.os, J.bare, J.base, J.hok, rv, q⟩
  cases fl with
  | ret u =>
    obtain ⟨v, σ', H', J, rv, q⟩ := hs
    exact fin J rv q
  | next =>
    obtain ⟨σ', H', J, q⟩ := hs
    exact fin (v := V.non) (u := Value.none) J rfl q
  | brk =>
    obtain ⟨_, _, _, q⟩ := hs
    exact False.elim q
  | cont =>
    obtain ⟨_, _, _, q⟩ := hs
    exact False.elim q
end L2
namespace L2
open PySem PySem.Spec PyProof.Rows
section
variable {X : Cx} {x : Str} {p pos : Pos} {e : Expr} {es : List Expr} {t : TA} {id T : String} {r : List V → Hp → VK → Prop}
def tCB (r : List V → Hp → VK → Prop) (t : TA) : TE := fun σ H Q => t σ H fun vs H1 => r vs H1 Q
theorem pe_callB (hc : CallR X (.builtin id) r) (hg : Gl X x) (hm : X.mg x = none) (hv : bootBuiltins x = some (.builtin id)) (ha : PA X (e :: es) t) (hn : x ≠ "__name__" := by decide) (hdb : (x == ("__debug__" : Str)) = false := by decide)
    (he : starEach (e :: es) X.env = (false, eval e X.env) :: starEach es X.env := by rfl) (hpl : (backTo pos (starEach es X.env)).any (·.1) = false := by rfl) : PE X (.Call (.Name x p) (e :: es) [] pos) (tCB r t) := by
  intro pins s σ H Q I h
  refine wpAny_Call_Name_kw (ld_blt I hg hm hv ?_ hn hdb)
  exact PyProof.Rows.callWith_builtin1 (thn (ha pos pins s σ H _ I h) fun us s1 ⟨vs, H1, I1, r1, q1⟩ => hc pins s1 σ H1 vs us Q I1 r1 q1) he hpl
theorem pe_callTy (hc : CallR X (.type T) r) (hg : Gl X x) (hm : X.mg x = none) (hv : bootBuiltins x = some (.type T)) (ha : PA X (e :: es) t) (hn : x ≠ "__name__" := by decide) (hdb : (x == ("__debug__" : Str)) = false := by decide)
    (he : starEach (e :: es) X.env = (false, eval e X.env) :: starEach es X.env := by rfl) (hpl : (backTo pos (starEach es X.env)).any (·.1) = false := by rfl) : PE X (.Call (.Name x p) (e :: es) [] pos) (tCB r t) := by
  intro pins s σ H Q I h
  refine wpAny_Call_Name_kw (ld_blt I hg hm hv ?_ hn hdb)
  exact PyProof.Rows.callWith_type1 (thn (ha pos pins s σ H _ I h) fun us s1 ⟨vs, H1, I1, r1, q1⟩ => hc pins s1 σ H1 vs us Q I1 r1 q1) he hpl
end
end L2
namespace HT
open PySem PyProof.Rows
section
open PySem.SeqAt
open PySem.AutoSeq1 (wpAny_loadPart')
open PySem.MeetsSeq PySem.MeetsSeq2 PySem.MeetsSeq3
end
section
variable {prog : Program} {w : World} {A : Around} {E : Value → Shared → Prop} {s : Shared}
theorem cat_tup {t b : Addr} {vs ws : List Value} {Q : Value → Shared → Prop} (ht : IsTup s.heap t vs.toArray) (hb : IsTup s.heap b ws.toArray) (hv : vs ≠ [])
    (h1 : ws = [] → Q (.ref t) s) (h2 : ws ≠ [] → Q (.ref s.heap.objs.size) { s with heap := s.heap.push { cls := .type "tuple", data := .seq (vs ++ ws).toArray } })
    (hsz : vs.length + ws.length ≤ sizeLine) : wpAny (model prog w) A (binaryOp .Add (.ref t) (.ref b)) Q E s := by
  obtain ⟨⟨cls, dd, data, sl⟩, ho, hc, n, hd⟩ := id ht
  obtain ⟨⟨cls2, dd2, data2, sl2⟩, ho2, hc2, n2, hd2⟩ := id hb
  simp only at hc hd hc2 hd2
  subst hc hd hc2 hd2
  have e : vs.toArray ++ ws.toArray = (vs ++ ws).toArray := by simp
  by_cases hw : ws = []
  · exact concat_meets ⟨_, ho, rfl⟩ ⟨_, ho2, rfl⟩ noFill_tuple_add seq_tuple_add PySem.F.slot_tuple_add PySem.F.entry_tuple_add (PySem.F.args_tuple_add_2 _ _)
      (tuple_addW1 t b vs.toArray ws.toArray n n2 dd dd2 sl sl2 (by simpa using hv) (by simp [hw])) ⟨ho, ho2, h1 hw⟩
  · refine concat_meets ⟨_, ho, rfl⟩ ⟨_, ho2, rfl⟩ noFill_tuple_add seq_tuple_add PySem.F.slot_tuple_add PySem.F.entry_tuple_add (PySem.F.args_tuple_add_2 _ _)
      (tuple_addW2 t b vs.toArray ws.toArray n n2 dd dd2 sl sl2 (by simpa using hv) (by simpa using hw) (by rw [List.size_toArray, List.size_toArray]; exact hsz)) ⟨ho, ho2, ?_⟩
    rw [e]
    exact h2 hw
def sIx (n d : Nat) : Option Int → Nat
  | none => d
  | some v => if v < 0 then (v + (n : Int)).toNat else min v.toNat n
theorem sIx_le (n d : Nat) (hd : d ≤ n) (o : Option Int) : sIx n d o ≤ n := by
  cases o with
  | none => exact hd
  | some v =>
    show (if v < 0 then (v + (n : Int)).toNat else min v.toNat n) ≤ n
    by_cases hv : v < 0
    · rw [if_pos hv]; omega
    · rw [if_neg hv]; exact Nat.min_le_right _ _
theorem clip_eq (v : Int) (n d : Nat) : (if v < 0 then max (v + (n : Int)) 0 else min v (n : Int)) = ((sIx n d (some v) : Nat) : Int) := by
  show (if v < 0 then max (v + (n : Int)) 0 else min v (n : Int)) = (((if v < 0 then (v + (n : Int)).toNat else min v.toNat n) : Nat) : Int)
  by_cases hv : v < 0
  · simp only [if_pos hv]; omega
  · simp only [if_neg hv]; omega
theorem adjust_gen (lo hi : Option Int) (n : Nat) : Builtin.Slice.sliceAdjust lo hi 1 (n : Int) = (((sIx n 0 lo : Nat) : Int), ((sIx n n hi : Nat) : Int)) := by
  have h1 : ¬ ((1 : Int) < 0) := by omega
  unfold Builtin.Slice.sliceAdjust
  simp only [h1, if_false]
  refine Prod.ext ?_ ?_
  · cases lo with
    | none => rfl
    | some v => exact clip_eq v n 0
  · cases hi with
    | none => rfl
    | some v => exact clip_eq v n n
theorem places_gen (i j : Nat) : Builtin.Slice.slicePlaces (i : Int) (j : Int) 1 = j - i := by
  unfold Builtin.Slice.slicePlaces
  have h1 : (1 : Int) > 0 := by omega
  simp only [h1, if_true, Int.ediv_one]
  split <;> omega
theorem slicePart_ {v : Value} {o : Option Int} {Q : Option Int → Shared → Prop} (p : IsPart v o) (h : Q o s) : wpAny (model prog w) A (Builtin.Slice.slicePartIndex v) Q E s := by
  cases p with
  | none => exact slicePart_none h
  | int i t => exact slicePart_int h
theorem sliceApplied_gen {sl : Addr} {vl vu : Value} {lo hi : Option Int} {n : Nat} {Q : Int × Int × Nat → Shared → Prop} (hs : s.heap.IsSliceOf sl vl vu .none) (pl : IsPart vl lo) (pu : IsPart vu hi)
    (h : Q (((sIx n 0 lo : Nat) : Int), 1, sIx n n hi - sIx n 0 lo) s) : wpAny (model prog w) A (Builtin.Slice.sliceApplied (.ref sl) (pure (n : Int))) Q E s := by
  obtain ⟨os, hos, hcs, hds⟩ := id hs
  unfold Builtin.Slice.sliceApplied Builtin.Slice.sliceFields
  refine wpAny_bind (wpAny_bind (wpAny_field hos hds (x := vl) rfl (wpAny_bind (wpAny_field hos hds (x := vu) rfl (wpAny_bind (wpAny_field hos hds (x := .none) rfl (wpAny_pure ?_)))))))
  refine wpAny_bind (slicePart_none ?_)
  show wpAny _ _ (if ((1 : Int) == 0) = true then _ else _) _ _ s
  rw [if_neg (by decide)]
  refine wpAny_bind (slicePart_ pl (wpAny_bind (slicePart_ pu (wpAny_bind (wpAny_pure ?_)))))
  show wpAny _ _ (match Builtin.Slice.sliceAdjust lo hi 1 (n : Int) with | (lo, hi) => pure (lo, (1 : Int), Builtin.Slice.slicePlaces lo hi 1)) _ _ s
  rw [adjust_gen lo hi n]
  show wpAny _ _ (pure (((sIx n 0 lo : Nat) : Int), (1 : Int), Builtin.Slice.slicePlaces ((sIx n 0 lo : Nat) : Int) ((sIx n n hi : Nat) : Int) 1)) _ _ s
  rw [places_gen]
  exact wpAny_pure h
theorem pick_gen (xs : Array Value) (i k : Nat) : ((List.range k).filterMap fun (m : Nat) => xs[((i : Int) + (m : Int) * 1).toNat]?).toArray = ((xs.toList.drop i).take k).toArray := by
  have e : (fun (m : Nat) => xs[((i : Int) + (m : Int) * 1).toNat]?) = fun m => xs[i + m]? := by
    funext m
    have : ((i : Int) + (m : Int) * 1).toNat = i + m := by omega
    rw [this]
  rw [e]
  have := pick_run xs i k
  rw [List.filterMap_map] at this
  have e2 : ((fun x => xs[x]?) ∘ fun x => i + x) = fun m => xs[i + m]? := rfl
  rw [e2] at this
  rw [this]
theorem getItem_tuple_cut {t sl : Addr} {items : Array Value} {vl vu : Value} {lo hi : Option Int} {Q : Value → Shared → Prop} (ht : IsTup s.heap t items) (hs : s.heap.IsSliceOf sl vl vu .none) (pl : IsPart vl lo) (pu : IsPart vu hi)
    (hw : ¬ (sIx items.size 0 lo = 0 ∧ sIx items.size items.size hi = items.size))
    (h : Q (.ref s.heap.objs.size) { s with heap := s.heap.push { cls := .type "tuple", data := .seq ((items.toList.drop (sIx items.size 0 lo)).take (sIx items.size items.size hi - sIx items.size 0 lo)).toArray } })
    (hsz : items.size ≤ sizeLine) : wpAny (model prog w) A (getItem (.ref t) (.ref sl)) Q E s := by
  have htake : sizeOk (.seq ((items.toList.drop (sIx items.size 0 lo)).take (sIx items.size items.size hi - sIx items.size 0 lo)).toArray) := by
    show ((items.toList.drop (sIx items.size 0 lo)).take (sIx items.size items.size hi - sIx items.size 0 lo)).toArray.size ≤ sizeLine
    rw [List.size_toArray, List.length_take, List.length_drop, Array.length_toList]
    omega
  have hj : sIx items.size items.size hi ≤ items.size := sIx_le _ _ (Nat.le_refl _) hi
  obtain ⟨os, hos, hcs, hds⟩ := id hs
  have hTs : s.TypeIs (.ref sl) "slice" := ⟨os, hos, hcs⟩
  unfold getItem
  try with_reducible refine wpAny_holding ?_
  first | refine wpAny_bind (wpAny_pure ?_) | skip
  refine wpAny_bind (wpAny_sequenceKey ht.typeIs (by decide) ?_)
  refine wpAny_bind (wpAny_callSpecial?_slot (name := Str.ofString "__getitem__") ht.typeIs PyProof.Rows.slot_tuple_getitem
    (wpAny_call_entry PyProof.Rows.slot_tuple_getitem ht.typeIs entry_tuple_getitem ?_ (args_tuple_getitem _ _)))
  show wpAny _ _ (Builtin.Tuple.tupleItemsOf (.ref t) >>= _) _ _ s
  refine wpAny_bind (tupleItemsOf_ ht ?_)
  refine wpAny_bind (wpAny_typeOf hTs ?_)
  rw [if_pos (by decide)]
  refine wpAny_bind (sliceApplied_gen hs pl pu ?_)
  have hno : ¬ ((((sIx items.size 0 lo : Nat) : Int) == 0 && (1 : Int) == 1 && (sIx items.size items.size hi - sIx items.size 0 lo) == items.size) = true) := by
    intro q
    rw [Bool.and_eq_true, Bool.and_eq_true] at q
    have q1 : ((sIx items.size 0 lo : Nat) : Int) = 0 := eq_of_beq q.1.1
    have q2 : sIx items.size items.size hi - sIx items.size 0 lo = items.size := eq_of_beq q.2
    exact hw ⟨by omega, by omega⟩
  show wpAny _ _ (if (((sIx items.size 0 lo : Nat) : Int) == 0 && (1 : Int) == 1 && (sIx items.size items.size hi - sIx items.size 0 lo) == items.size) = true then _ else _) _ _ s
  rw [if_neg hno, pick_gen]
  first
    | exact wpAny_bind (m := Builtin.Tuple.tupleExact _) (wpAny_newObj_type (wpAny_pure ⟨_, rfl, wpAny_pure h⟩) htake)
    | exact wpAny_bind (m := Builtin.Tuple.tupleExact _) (wpAny_newObj_type (wpAny_bind (wpAny_pure (wpAny_pure ⟨_, rfl, wpAny_pure h⟩))) htake)
    | exact wpAny_bind (wpAny_bind (m := Builtin.Tuple.tupleExact _) (wpAny_newObj_type (wpAny_pure (wpAny_pure ⟨_, rfl, wpAny_pure h⟩)) htake))
    | exact wpAny_bind (wpAny_bind (m := Builtin.Tuple.tupleExact _) (wpAny_newObj_type (wpAny_pure ⟨_, rfl, wpAny_pure h⟩) htake))
end
end HT
namespace L2
open PySem PySem.Spec PyProof.Rows
abbrev TO := St → Hp → (Option Int → Hp → Prop) → Prop
namespace Zu
set_option allowUnsafeReducibility true in
@[scoped irreducible] def _root_.L2.PO (X : Cx) (e : Option Expr) (t : TO) : Prop :=
  ∀ (pins : List (Addr × Obj)) (s : Shared) (σ : St) (H : Hp) (Q : Option Int → Hp → Prop), Inv X pins σ H s → t σ H Q →
    wpAny (model X.prog X.w) X.A (evalPart e X.env) (fun u s' => ∃ o H', Inv X pins σ H' s' ∧ IsPart u o ∧ Q o H') X.xe s
end Zu
def tNoPart : TO := fun _ H Q => Q none H
def tPart (t : TE) : TO := fun σ H Q => t σ H fun x H1 => ∃ i, x = .int i ∧ Q (some i) H1
section
variable {X : Cx} {e : Expr} {te : TE} {lo hi : Option Expr} {tl th : TO} {pos p2 : Pos}
theorem po_none : PO X none tNoPart := by
  intro pins s σ H Q I h
  rw [evalPart_none]
  exact wpAny_pure ⟨none, H, I, .none, h⟩
theorem po_some (h : PE X e te) : PO X (some e) (tPart te) := by
  intro pins s σ H Q I hw
  rw [evalPart_some]
  refine thn (h pins s σ H _ I hw) fun u s1 ⟨x, H1, I1, r1, q1⟩ => ?_
  obtain ⟨i, rfl, q⟩ := q1
  obtain ⟨t, rfl⟩ := r1
  exact ⟨some i, H1, I1, .int i t, q⟩
def SlR (X : Cx) (r : V → Option Int → Option Int → Hp → VK → Prop) : Prop :=
  ∀ (pins : List (Addr × Obj)) (s : Shared) (σ : St) (H : Hp) (x : V) (v vl vu : Value) (lo hi : Option Int) (sl : Addr) (Q : VK), Inv X pins σ H s → RelV x v → s.heap.IsSliceOf sl vl vu .none → IsPart vl lo → IsPart vu hi → r x lo hi H Q →
    ∃ T id, typeLookup (.type T) "__getitem__" = pure (some (.builtin id)) ∧ s.TypeIs v T ∧ wpAny (model X.prog X.w) X.A (getItem v (.ref sl)) (EP X pins σ Q) X.xe s
theorem SlR.or {r r' : V → Option Int → Option Int → Hp → VK → Prop} (h : SlR X r) (h' : SlR X r') : SlR X (fun x lo hi H Q => r x lo hi H Q ∨ r' x lo hi H Q) := by
  intro pins s σ H x v vl vu lo hi sl Q I rx hs pl pu q
  rcases q with q | q
  · exact h pins s σ H x v vl vu lo hi sl Q I rx hs pl pu q
  · exact h' pins s σ H x v vl vu lo hi sl Q I rx hs pl pu q
def tSl (r : V → Option Int → Option Int → Hp → VK → Prop) (te : TE) (tl th : TO) : TE := fun σ H Q => te σ H fun x H1 => tl σ H1 fun l H2 => th σ H2 fun u H3 => r x l u H3 Q
theorem pe_slice {r : V → Option Int → Option Int → Hp → VK → Prop} (hr : SlR X r) (he : PE X e te) (hl : PO X lo tl) (hu : PO X hi th) : PE X (.Subscript e (.Slice lo hi none p2) pos) (tSl r te tl th) := by
  intro pins s σ H Q I h
  refine Subscript_ (thn (he pins s σ H _ I h) fun v s1 ⟨x, H1, I1, r1, q1⟩ => ?_)
  refine wpAny_Slice (thn (hl pins s1 σ H1 _ I1 q1) fun vl s2 ⟨l, H2, I2, pl, q2⟩ => thn (hu pins s2 σ H2 _ I2 q2) fun vu s3 ⟨u, H3, I3, pu, q3⟩ => ?_)
  rw [evalPart_none]
  refine wpAny_pure ?_
  have I4 : Inv X pins σ H3 { s3 with heap := s3.heap.push { cls := .type "slice", data := .fields #[vl, vu, .none] } } := I3.kept (t' := s3.toks) fun b ob q => Heap.get?_push_of_some _ q
  obtain ⟨T, id, hT, ht, hg⟩ := hr pins { s3 with heap := s3.heap.push { cls := .type "slice", data := .fields #[vl, vu, .none] } } σ H3 x v vl vu l u s3.heap.objs.size Q I4 r1 (Heap.IsSliceOf.new ..) pl pu q3
  show wpAny (model X.prog X.w) X.A (subscriptTail e (.Slice lo hi none p2) v (.ref s3.heap.objs.size)) (EP X pins σ Q) X.xe { s3 with heap := s3.heap.push { cls := .type "slice", data := .fields #[vl, vu, .none] } }
  exact tail_any (ops := [.ref s3.heap.objs.size, v]) ht hT hg (by with_unfolding_all rfl)
def cutV (xs : List V) (lo hi : Option Int) : List V := (xs.drop (HT.sIx xs.length 0 lo)).take (HT.sIx xs.length xs.length hi - HT.sIx xs.length 0 lo)
theorem cutV_length (xs : List V) (lo hi : Option Int) : (cutV xs lo hi).length ≤ xs.length := by
  unfold cutV
  rw [List.length_take, List.length_drop]
  omega
def rSlT (K : PySem.W.Frag) : V → Option Int → Option Int → Hp → VK → Prop := fun x lo hi H Q => ∃ a xs, x = .ref a ∧ SqT K H a xs ∧
  ¬ (HT.sIx xs.length 0 lo = 0 ∧ HT.sIx xs.length xs.length hi = xs.length) ∧ ∀ p, H p = none → Q (.ref p) (upd H p (.tup (cutV xs lo hi)))
theorem sl_tup : SlR X (rSlT X.K) := by
  intro pins s σ H x v vl vu lo hi sl Q I rx hs pl pu h
  obtain ⟨a, xs, rfl, hx, hw, q⟩ := h
  cases rx
  obtain ⟨its, r, ht, hz⟩ := I.tuple hx
  have hlen : its.toArray.size = xs.length := by rw [List.size_toArray]; exact r.length.symm
  refine ⟨"tuple", _, PyProof.Rows.slot_tuple_getitem.lookup, ht.typeIs, ?_⟩
  refine HT.getItem_tuple_cut ht hs pl pu (by rw [hlen]; exact hw) ?_ (by rw [hlen]; exact hz)
  rw [hlen]
  refine ⟨.ref s.heap.objs.size, _, I.laid (t' := s.toks) (o := .tup (cutV xs lo hi)) (fun b ob q => Heap.get?_push_of_some _ q) (Nat.le_refl _) ?_, rfl, q _ (I.hok.fresh (Nat.le_refl _))⟩
  exact ⟨Nat.le_trans (cutV_length xs lo hi) hz, _, (r.drop (HT.sIx xs.length 0 lo)).take (HT.sIx xs.length xs.length hi - HT.sIx xs.length 0 lo), IsTup.new _ _⟩
def rCatT (K : PySem.W.Frag) : R2 := fun x y H Q => ∃ a b xs ys, x = .ref a ∧ y = .ref b ∧ SqT K H a xs ∧ SqT K H b ys ∧ xs ≠ [] ∧ xs.length + ys.length ≤ sizeLine ∧
  (ys = [] → Q (.ref a) H) ∧ (ys ≠ [] → ∀ p, H p = none → Q (.ref p) (upd H p (.tup (xs ++ ys))))
theorem Vals.nil_iff {xs : List V} {us : List Value} (r : Vals xs us) : us = [] ↔ xs = [] := by
  cases r with
  | nil => simp
  | cons _ _ => simp
theorem op_catT : OpR X (binaryOp .Add) (rCatT X.K) := by
  intro pins s σ H x y v u Q I rx ry h
  obtain ⟨a, b, xs, ys, rfl, rfl, ha, hb, hx, hz, q1, q2⟩ := h
  cases rx
  cases ry
  obtain ⟨its, r1, p1, _⟩ := I.tuple ha
  obtain ⟨its2, r2, p2, _⟩ := I.tuple hb
  refine HT.cat_tup p1 p2 (fun z => hx (r1.nil_iff.mp z)) (fun z => ⟨.ref a, H, I, rfl, q1 (r2.nil_iff.mp z)⟩) (fun z => ?_) (by rw [← r1.length, ← r2.length]; exact hz)
  refine ⟨.ref s.heap.objs.size, _, I.laid (t' := s.toks) (o := .tup (xs ++ ys)) (fun b ob q => Heap.get?_push_of_some _ q) (Nat.le_refl _) ?_, rfl, q2 (fun w => z (r2.nil_iff.mpr w)) _ (I.hok.fresh (Nat.le_refl _))⟩
  exact ⟨by rw [List.length_append]; exact hz, _, r1.append r2, IsTup.new _ _⟩
end
end L2
namespace L2
open PySem PySem.Spec PyProof.Rows
def ixN (n : Nat) (i : Int) : Option Nat := if 0 ≤ i then (if i < n then some i.toNat else none) else if -(n : Int) ≤ i then some (i + n).toNat else none
def atI {α : Type} (xs : List α) (i : Int) : Option α := (ixN xs.length i).bind fun j => xs[j]?
theorem ixN_seq {n : Nat} {i : Int} {j : Nat} (h : ixN n i = some j) : seqIndex? i n = some j ∧ j < n ∧ -(n : Int) ≤ i ∧ i < n := by
  unfold ixN at h
  by_cases h0 : 0 ≤ i
  · rw [if_pos h0] at h
    by_cases h1 : i < n
    · rw [if_pos h1] at h
      have e : i.toNat = j := Option.some.inj h
      exact ⟨by rw [seqIndex_of h0 h1, e], by omega, by omega, h1⟩
    · rw [if_neg h1] at h; cases h
  · rw [if_neg h0] at h
    by_cases h1 : -(n : Int) ≤ i
    · rw [if_pos h1] at h
      have e : (i + n).toNat = j := Option.some.inj h
      exact ⟨by rw [seqIndex_neg (by omega) h1, e], by omega, h1, by omega⟩
    · rw [if_neg h1] at h; cases h
theorem atI_get {α : Type} {xs : List α} {i : Int} {v : α} (h : atI xs i = some v) : ∃ j, seqIndex? i xs.length = some j ∧ xs[j]? = some v ∧ j < xs.length ∧ -(xs.length : Int) ≤ i ∧ i < xs.length := by
  unfold atI at h
  cases e : ixN xs.length i with
  | none => rw [e] at h; cases h
  | some j =>
    rw [e] at h
    obtain ⟨h1, h2, h3, h4⟩ := ixN_seq e
    exact ⟨j, h1, h, h2, h3, h4⟩
def PlainIx (b : Expr) : Prop := ∀ o i, subscripted b false o i = operate [o, i] (getItem o i)
def IxR (X : Cx) (r : R2) : Prop :=
  ∀ (value slice : Expr) (pins : List (Addr × Obj)) (s : Shared) (σ : St) (H : Hp) (x y : V) (v u : Value) (Q : VK), Inv X pins σ H s → RelV x v → RelV y u → r x y H Q →
    subscripted slice false v u = operate [v, u] (getItem v u) → wpAny (model X.prog X.w) X.A (subscriptTail value slice v u) (EP X pins σ Q) X.xe s
def MtR (X : Cx) (id : String) (r : V → List V → Hp → VK → Prop) : Prop :=
  ∀ (pins : List (Addr × Obj)) (s : Shared) (σ : St) (H : Hp) (x : V) (xs : List V) (v : Value) (us : List Value) (Q : VK), Inv X pins σ H s → RelV x v → Vals xs us → r x xs H Q →
    wpAny (model X.prog X.w) X.A (call (.builtin id) (v :: us)) (EP X pins σ Q) X.xe s
section
variable {X : Cx} {a b : Expr} {ta tb : TE} {pos : Pos}
theorem IxR.or {r r' : R2} (h : IxR X r) (h' : IxR X r') : IxR X (fun x y H Q => r x y H Q ∨ r' x y H Q) := by
  intro value slice pins s σ H x y v u Q I rx ry q hs
  rcases q with q | q
  · exact h value slice pins s σ H x y v u Q I rx ry q hs
  · exact h' value slice pins s σ H x y v u Q I rx ry q hs
theorem pe_ix {r : R2} (hr : IxR X r) (ha : PE X a ta) (hb : PE X b tb) (hs : PlainIx b) : PE X (.Subscript a b pos) (tOp r ta tb) := by
  intro pins s σ H Q I h
  exact Subscript_ (binT ha hb I h fun v u s2 x y H2 I2 rx ry q => hr a b pins s2 σ H2 x y v u Q I2 rx ry q (hs _ _))
def rIxL (K : PySem.W.Frag) : R2 := fun x y H Q => ∃ p xs i v, x = .ref p ∧ y = .int i ∧ SqL K H p xs ∧ atI xs i = some v ∧ Q v H
def rIxT (K : PySem.W.Frag) : R2 := fun x y H Q => ∃ p xs i v, x = .ref p ∧ y = .int i ∧ SqT K H p xs ∧ atI xs i = some v ∧ Q v H
def rIxS : R2 := fun x y H Q => ∃ z i c, x = .str z ∧ y = .int i ∧ z.length ≤ sizeLine ∧ atI z.cps.toList i = some c ∧ Q (.str ⟨#[c]⟩) H
theorem ix_list : IxR X (rIxL X.K) := by
  intro value slice pins s σ H x y v u Q I rx ry h hs
  obtain ⟨p, xs, i, z, rfl, rfl, hq, he, q⟩ := h
  cases rx
  obtain ⟨t, rfl⟩ := ry
  obtain ⟨its, r, pl, hz⟩ := I.list hq
  obtain ⟨j, h1, h2, h3, h4, h5⟩ := atI_get he
  obtain ⟨w, ew, rw'⟩ := r.get h2
  have hl := r.length
  have hn := line63
  have fin : EP X pins σ Q w s := ⟨z, H, I, rw', q⟩
  by_cases h0 : 0 ≤ i
  · have hj : i.toNat = j := by
      rw [seqIndex_of h0 h5] at h1
      exact Option.some.inj h1
    exact item_listR pl.isList h0 (by omega) (by rw [hj]; simpa using ew) fin hs
  · have hj : (i + (its.toArray.size : Int)).toNat = j := by
      rw [seqIndex_neg (by omega) h4] at h1
      rw [List.size_toArray, ← hl]
      exact Option.some.inj h1
    exact subscriptTail_builtinR (x := w) pl.isList.typeIs slot_list_getitem.lookup
      (wpAny_getItem_list_neg (Q := fun r s' => r = w ∧ EP X pins σ Q r s') pl.isList (by omega) (by rw [List.size_toArray] <;> omega) (by omega) (by rw [hj]; simpa using ew) ⟨rfl, fin⟩) hs
theorem ix_tup : IxR X (rIxT X.K) := by
  intro value slice pins s σ H x y v u Q I rx ry h hs
  obtain ⟨p, xs, i, z, rfl, rfl, hq, he, q⟩ := h
  cases rx
  obtain ⟨t, rfl⟩ := ry
  obtain ⟨its, r, pl, hz⟩ := I.tuple hq
  obtain ⟨j, h1, h2, h3, h4, h5⟩ := atI_get he
  obtain ⟨w, ew, rw'⟩ := r.get h2
  have hl := r.length
  have hn := line63
  have fin : EP X pins σ Q w s := ⟨z, H, I, rw', q⟩
  exact subscriptTail_builtinR (x := w) pl.typeIs slot_tuple_getitem.lookup
    (getItem_tuple (j := j) (Q := fun r s' => r = w ∧ EP X pins σ Q r s') pl (by omega) (by omega) (by rw [List.size_toArray, ← hl]; exact h1) (by simpa using ew) ⟨rfl, fin⟩) hs
theorem ix_str : IxR X rIxS := by
  intro value slice pins s σ H x y v u Q I rx ry h hs
  obtain ⟨z, i, c, rfl, rfl, hz, he, q⟩ := h
  obtain ⟨t, rfl⟩ := rx
  obtain ⟨t', rfl⟩ := ry
  obtain ⟨j, h1, h2, h3, h4, h5⟩ := atI_get he
  have hl : z.cps.toList.length = z.length := by simp [Str.length]
  rw [hl] at h1 h4 h5
  have hn := line63
  exact tail_any (typeIs_str s z t) slot_str_getitem.lookup (getItem_str (c := c) (by
    have e1 : decide (i < -(2 ^ 63 : Int)) = false := decide_eq_false (by omega)
    have e2 : decide (i ≥ 2 ^ 63) = false := decide_eq_false (by omega)
    rw [e1, e2, Bool.or_false]) (by rw [h1]; simpa using h2) ⟨.str ⟨#[c]⟩, H, I.tok _, ⟨_, rfl⟩, q⟩) hs
def rIx (K : PySem.W.Frag) : R2 := fun x y H Q => rIxL K x y H Q ∨ rIxT K x y H Q ∨ rIxS x y H Q
theorem ix_seq : IxR X (rIx X.K) := ix_list.or (ix_tup.or ix_str)
theorem mapSeq_set (its : List Value) (n j : Nat) (u : Value) : Obj.mapSeq (·.setIfInBounds j u) { cls := .type "list", data := .seq its.toArray n } = { cls := .type "list", data := .seq (its.set j u).toArray n } := by
  simp [Obj.mapSeq]
theorem Inv.lst {pins : List (Addr × Obj)} {σ : St} {H : Hp} {s : Shared} {p : Addr} {xs : List V} (I : Inv X pins σ H s) (h : H p = some (.lst xs)) :
    ∃ (its : List Value) (n : Nat), Vals xs its ∧ s.heap.get? p = some { cls := .type "list", data := .seq its.toArray n } ∧ xs.length ≤ sizeLine := by
  obtain ⟨z, its, n, r, e⟩ := I.hok p _ h
  exact ⟨its, n, r, e, z⟩
theorem Inv.lstUpd {pins : List (Addr × Obj)} {σ : St} {H : Hp} {s : Shared} {p : Addr} {xs ys : List V} {its its' : List Value} {n n' : Nat} {f : Obj → Obj} (I : Inv X pins σ H s) (h : H p = some (.lst xs))
    (ho : s.heap.get? p = some { cls := .type "list", data := .seq its.toArray n }) (hf : f { cls := .type "list", data := .seq its.toArray n } = { cls := .type "list", data := .seq its'.toArray n' }) (r : Vals ys its') (hz : ys.length ≤ sizeLine) (t : Nat) :
    Inv X pins σ (upd H p (.lst ys)) { s with heap := s.heap.update p f, toks := t } := by
  have e : (s.heap.update p f).get? p = some { cls := .type "list", data := .seq its'.toArray n' } := by
    rw [Heap.get?_update_self f ho (by rw [hf] <;> rfl), hf]
  refine I.write (x := p) (e := p) (by rw [h]; trivial) (.inl rfl) (fun b u hb q => (Heap.get?_update_other _ _ (Ne.symm hb)).trans q) ⟨_, e⟩ ?_
  exact ⟨hz, its', n', r, e⟩
def rSetL : V → V → V → Hp → (Hp → Prop) → Prop := fun o i v H Q => ∃ p xs k j, o = .ref p ∧ i = .int k ∧ H p = some (.lst xs) ∧ ixN xs.length k = some j ∧ Q (upd H p (.lst (xs.set j v)))
theorem set_list : PSet X rSetL := by
  intro pins s σ H o i v ov iv u Q I ro ri rv h
  obtain ⟨p, xs, k, j, rfl, rfl, hp, hj, q⟩ := h
  cases ro
  obtain ⟨t, rfl⟩ := ri
  obtain ⟨its, n, r, ho, hz⟩ := I.lst hp
  obtain ⟨h1, h2, h3, h4⟩ := ixN_seq hj
  have hl := r.length
  have hn := line63
  have I' : Inv X pins σ (upd H p (.lst (xs.set j v))) { s with heap := s.heap.update p (Obj.mapSeq (·.setIfInBounds j u)) } :=
    I.lstUpd hp ho (mapSeq_set its n j u) (r.set rv j) (by rw [List.length_set]; exact hz) s.toks
  by_cases h0 : 0 ≤ k
  · have hk : k.toNat = j := by
      rw [seqIndex_of h0 h4] at h1
      exact Option.some.inj h1
    exact PySem.W.ki_setAt ho h0 (by omega) (by rw [List.size_toArray, ← hl]; exact h4) (by rw [hk]; exact ⟨_, I', q⟩)
  · have hk : (k + (its.toArray.size : Int)).toNat = j := by
      rw [seqIndex_neg (by omega) h3] at h1
      rw [List.size_toArray, ← hl]
      exact Option.some.inj h1
    exact PySem.W.ki_setBack ho (by omega) (by rw [List.size_toArray, ← hl]; exact h3) (by omega) (by rw [hk]; exact ⟨_, I', q⟩)
theorem slice_bounds (lo hi : Option Int) (n : Nat) : (sliceBounds lo hi none n).1 = ((HT.sIx n 0 lo : Nat) : Int) ∧ (sliceBounds lo hi none n).2.1 = ((HT.sIx n n hi : Nat) : Int) ∧ (sliceBounds lo hi none n).2.2 = 1 := by
  refine ⟨?_, ?_, rfl⟩
  · cases lo with
    | none => simp [sliceBounds, HT.sIx]
    | some i =>
      simp only [sliceBounds, HT.sIx, Option.getD_none, show (1 : Int) > 0 by decide, if_true]
      by_cases h : i < 0
      · simp only [h, if_true] <;> omega
      · simp only [h, if_false] <;> omega
  · cases hi with
    | none => simp [sliceBounds, HT.sIx]
    | some i =>
      simp only [sliceBounds, HT.sIx, Option.getD_none, show (1 : Int) > 0 by decide, if_true]
      by_cases h : i < 0
      · simp only [h, if_true] <;> omega
      · simp only [h, if_false] <;> omega
theorem slicePick_cut (its : List Value) (lo hi : Option Int) : slicePick its.toArray lo hi none = ((its.drop (HT.sIx its.length 0 lo)).take (HT.sIx its.length its.length hi - HT.sIx its.length 0 lo)).toArray := by
  obtain ⟨h1, h2, h3⟩ := slice_bounds lo hi its.toArray.size
  unfold slicePick
  rw [h1, h2, h3]
  simp only [sliceRange_one, pick_run, List.size_toArray] <;> rfl
def rSlL (K : PySem.W.Frag) : V → Option Int → Option Int → Hp → VK → Prop := fun x lo hi H Q => ∃ a xs, x = .ref a ∧ SqL K H a xs ∧ ∀ p, H p = none → Q (.ref p) (upd H p (.lst (cutV xs lo hi)))
theorem sl_list : SlR X (rSlL X.K) := by
  intro pins s σ H x v vl vu lo hi sl Q I rx hs pl pu h
  obtain ⟨a, xs, rfl, hx, q⟩ := h
  cases rx
  obtain ⟨its, r, ht, hz⟩ := I.list hx
  have hlen := r.length
  refine ⟨"list", _, slot_list_getitem.lookup, ht.isList.typeIs, ?_⟩
  refine wpAny_getItem_list_slice ht.isList hs pl pu .none (by simp) ?_ (by rw [List.size_toArray] <;> omega)
  rw [slicePick_cut, ← hlen]
  refine ⟨.ref s.heap.objs.size, _, I.laid (t' := s.toks) (o := .lst (cutV xs lo hi)) (fun b ob q => Heap.get?_push_of_some _ q) (Nat.le_refl _) ?_, rfl, q _ (I.hok.fresh (Nat.le_refl _))⟩
  exact ⟨Nat.le_trans (cutV_length xs lo hi) hz, _, 0, (r.drop (HT.sIx xs.length 0 lo)).take (HT.sIx xs.length xs.length hi - HT.sIx xs.length 0 lo), Heap.get?_push_size _ rfl⟩
theorem call_len_seq : CallR X (.builtin "len") (fun xs H Q => ∃ p ys, xs = [.ref p] ∧ (SqL X.K H p ys ∨ SqT X.K H p ys) ∧ Q (.int ys.length) H) := by
  intro pins s σ H xs us Q I r h
  obtain ⟨p, ys, rfl, hq, q⟩ := h
  obtain ⟨u, rfl, rx⟩ := vals1 r
  cases rx
  have hn := line63
  rcases hq with hq | hq
  · obtain ⟨its, r', pl, hz⟩ := I.list hq
    have hlen := r'.length
    exact Calls.call_len_list pl.isList (by simp only [List.size_toArray] <;> omega) ⟨.int ys.length, H, I.tok _, ⟨s.toks + 1, by rw [List.size_toArray, hlen]⟩, q⟩
  · obtain ⟨its, r', pl, hz⟩ := I.tuple hq
    have hlen := r'.length
    exact len_tuple pl (by simp only [List.size_toArray] <;> omega) ⟨.int ys.length, H, I.tok _, ⟨s.toks + 1, by rw [List.size_toArray, hlen]⟩, q⟩
theorem call_list_of : CallR X (.type "list") (fun xs H Q => ∃ p ys, xs = [.ref p] ∧ (SqL X.K H p ys ∨ SqT X.K H p ys) ∧ ∀ l, H l = none → Q (.ref l) (upd H l (.lst ys))) := by
  intro pins s σ H xs us Q I r h
  obtain ⟨p, ys, rfl, hq, q⟩ := h
  obtain ⟨u, rfl, rx⟩ := vals1 r
  cases rx
  have fin : ∀ (its : List Value), Vals ys its → ys.length ≤ sizeLine → ∀ (h' : Heap) (c' : Nat), (∀ b o', s.heap.get? b = some o' → h'.get? b = some o') →
      h'.get? s.heap.objs.size = some { cls := .type "list", dict := none, data := .seq its.toArray c', slots := #[] } → EP X pins σ Q (.ref s.heap.objs.size) { s with heap := h' } := fun its r' hz h' c' kp e =>
    ⟨.ref s.heap.objs.size, _, I.laid (t' := s.toks) kp (Nat.le_refl _) (show ObjOk X.prog X.w _ h' _ (.lst ys) from ⟨hz, its, c', r', e⟩), rfl, q _ (I.hok.fresh (Nat.le_refl _))⟩
  rcases hq with hq | hq
  · obtain ⟨its, r', pl, hz⟩ := I.list hq
    have hlen := r'.length
    obtain ⟨o, ho, hc, n, hd⟩ := pl.isList
    exact call_list_seq p (.inl rfl) ho hc hd (fun h' c' kp e => fin its r' hz h' c' kp e) (by simp only [List.size_toArray] <;> omega)
  · obtain ⟨its, r', pl, hz⟩ := I.tuple hq
    have hlen := r'.length
    obtain ⟨o, ho, hc, n, hd⟩ := pl
    exact call_list_seq p (.inr rfl) ho hc hd (fun h' c' kp e => fin its r' hz h' c' kp e) (by simp only [List.size_toArray] <;> omega)
def tyV (K : PySem.W.Frag) (T : String) (x : V) (H : Hp) : Prop := match x with
  | .str _ => T = "str"
  | .int _ => T = "int"
  | .ref p => (T = "list" ∧ ∃ xs, SqL K H p xs) ∨ (T = "tuple" ∧ ∃ o, K.lookup p = some o ∧ o.cls = .type "tuple" ∧ o.dict = none) ∨
      (T = "dict" ∧ ((∃ kvs, H p = some (.dK kvs)) ∨ ∃ kvs, H p = some (.dT kvs))) ∨ (T = "set" ∧ ∃ S n, H p = some (.set S n))
  | _ => False
theorem tyV_is {pins : List (Addr × Obj)} {σ : St} {H : Hp} {s : Shared} {T : String} {x : V} {v : Value} (I : Inv X pins σ H s) (r : RelV x v) (ty : tyV X.K T x H) :
    s.TypeIs v T ∧ ∀ a, v = .ref a → ∃ ob, s.heap.get? a = some ob ∧ ob.dict = none := by
  cases x with
  | str z =>
    obtain ⟨t, rfl⟩ := r
    cases (show T = "str" from ty)
    exact ⟨typeIs_str s z t, fun _ e => nomatch e⟩
  | int i =>
    obtain ⟨t, rfl⟩ := r
    cases (show T = "int" from ty)
    exact ⟨typeIs_int s i t, fun _ e => nomatch e⟩
  | ref p =>
    cases r
    rcases ty with ⟨rfl, xs, hq⟩ | ⟨rfl, o, hk, hc, hd⟩ | ⟨rfl, hk⟩ | ⟨rfl, S, n, hk⟩
    · obtain ⟨its, _, pl, _⟩ := I.list hq
      refine ⟨pl.isList.typeIs, fun a e => ?_⟩
      cases e
      obtain ⟨o, n, e, c, hd, _⟩ := pl
      exact ⟨o, e, hd⟩
    · refine ⟨⟨o, I.kIn p o hk, hc⟩, fun a e => ?_⟩
      cases e
      exact ⟨o, I.kIn _ o hk, hd⟩
    · have z : ∃ o, s.heap.get? p = some o ∧ o.ExactDict := by
        rcases hk with ⟨kvs, hk⟩ | ⟨kvs, hk⟩
        · obtain ⟨_, _, _, _, o, _, _, e, ex, _⟩ := I.hok p _ hk
          exact ⟨o, e, ex⟩
        · obtain ⟨_, _, _, _, o, _, _, e, ex, _⟩ := I.hok p _ hk
          exact ⟨o, e, ex⟩
      obtain ⟨o, e, ex⟩ := z
      refine ⟨⟨o, e, ex.1⟩, fun a e2 => ?_⟩
      cases e2
      exact ⟨o, e, ex.2.1⟩
    · obtain ⟨o, _, _, _, e, ex, _⟩ := I.hok p _ hk
      refine ⟨⟨o, e, ex.1⟩, fun a e2 => ?_⟩
      cases e2
      exact ⟨o, e, ex.2.1⟩
  | _ => exact False.elim ty
def tBM0 (K : PySem.W.Frag) (T : String) (r : V → List V → Hp → VK → Prop) (to : TE) : TE := fun σ H Q => to σ H fun x H1 => tyV K T x H1 ∧ r x [] H1 Q
def tBM (K : PySem.W.Frag) (T : String) (r : V → List V → Hp → VK → Prop) (to : TE) (t : TA) : TE := fun σ H Q => to σ H fun x H1 => tyV K T x H1 ∧ t σ H1 fun xs H2 => r x xs H2 Q
variable {o e : Expr} {es : List Expr} {to : TE} {t : TA} {name : Str} {apos cpos : Pos} {T id : String} {r : V → List V → Hp → VK → Prop}
theorem pe_bm0 (pa : PlainAttrs T) (slot : Slot T name id) (hty : typeOf (.builtin id) = pure (.type "method_descriptor")) (hm : MtR X id r) (ho : PE X o to)
    (hbase : attributeBase o name X.env (eval o X.env) = eval o X.env := by rfl) (hline : (apos.endLine == cpos.line) = true := by rfl) : PE X (.Call (.Attribute o name apos) [] [] cpos) (tBM0 X.K T r to) := by
  intro pins s σ H Q I h
  refine wpAny_Call_method0_late hbase hline (thn (ho pins s σ H _ I h) fun v s1 ⟨x, H1, I1, r1, ty, q1⟩ => ?_)
  obtain ⟨h1, h2⟩ := tyV_is I1 r1 ty
  exact ⟨T, id, pa, slot, hty, h1, h2, Calls.callWith_builtin rfl (PySem.evalArgs_none (hm pins s1 σ H1 x [] v [] Q I1 r1 .nil q1))⟩
theorem pe_bm (pa : PlainAttrs T) (slot : Slot T name id) (hty : typeOf (.builtin id) = pure (.type "method_descriptor")) (hm : MtR X id r) (ho : PE X o to) (ha : PA X (e :: es) t)
    (hbase : attributeBase o name X.env (eval o X.env) = eval o X.env := by rfl)
    (hfew : ((backTo cpos (starEach (e :: es) X.env)).all (fun x => !x.1) && (backToKw cpos (keywordEach [] X.env)).all (fun x => x.1.isSome)
      && decide ((e :: es).length + ([] : List Keyword).length + (if ([] : List Keyword).isEmpty then 0 else 1) < 30)) = true := by rfl)
    (hline : (apos.endLine == cpos.line) = true := by rfl) (hs : starEach (e :: es) X.env = (false, eval e X.env) :: starEach es X.env := by rfl) (hplain : (backTo cpos (starEach es X.env)).any (·.1) = false := by rfl) :
    PE X (.Call (.Attribute o name apos) (e :: es) [] cpos) (tBM X.K T r to t) := by
  intro pins s σ H Q I h
  refine wpAny_Call_method_late hbase hfew hline rfl (thn (ho pins s σ H _ I h) fun v s1 ⟨x, H1, I1, r1, ty, q1⟩ => ?_)
  obtain ⟨h1, h2⟩ := tyV_is I1 r1 ty
  refine ⟨T, id, pa, slot, hty, h1, h2, ?_⟩
  have hA := ha cpos pins s1 σ H1 _ I1 q1
  rw [hs] at hA ⊢
  refine Calls.callWith_builtin (by show (false || (backTo cpos (starEach es X.env)).any (·.1)) = false; rw [hplain] <;> rfl) (Calls.evalArgs_plain ?_)
  exact thn hA fun us s2 ⟨vs, H2, I2, r2, q2⟩ => hm pins s2 σ H2 x vs v us Q I2 r1 r2 q2
end
end L2
namespace L2
open PySem PySem.Spec PyProof.Rows
def MtM (X : Cx) (id : String) (r : V → List V → Hp → VK → Prop) : Prop :=
  ∀ (pins : List (Addr × Obj)) (s : Shared) (σ : St) (H : Hp) (x : V) (xs : List V) (v : Value) (us : List Value) (Q : VK), Inv X pins σ H s → RelV x v → Vals xs us → r x xs H Q →
    wpAny (model X.prog X.w) X.A (call (.builtin id) (v :: us)) (EP X pins σ Q) X.xe s
theorem Vals.one : ∀ {x : V} {us : List Value}, Vals [x] us → ∃ u, us = [u] ∧ RelV x u
  | _, _, .cons r .nil => ⟨_, rfl, r⟩
theorem Vals.two : ∀ {x y : V} {us : List Value}, Vals [x, y] us → ∃ u v, us = [u, v] ∧ RelV x u ∧ RelV y v
  | _, _, _, .cons r (.cons q .nil) => ⟨_, _, rfl, r, q⟩
theorem Vals.zero : ∀ {us : List Value}, Vals [] us → us = []
  | _, .nil => rfl
theorem Vals.reverse {xs : List V} {us : List Value} (h : Vals xs us) : Vals xs.reverse us.reverse := by
  induction h with
  | nil => exact .nil
  | cons r t ih => rw [List.reverse_cons, List.reverse_cons]; exact Vals.append ih (.cons r .nil)
theorem Vals.dropLast {xs : List V} {us : List Value} (h : Vals xs us) : Vals xs.dropLast us.dropLast := by
  induction h with
  | nil => exact .nil
  | cons r t ih =>
    cases t with
    | nil => exact .nil
    | cons q t' => exact .cons r ih
theorem erase_last {α : Type} (l : List α) : l.eraseIdx (l.length - 1) = l.dropLast := by
  induction l with
  | nil => rfl
  | cons a r ih =>
    cases r with
    | nil => rfl
    | cons b r =>
      have e : (a :: b :: r).length - 1 = ((b :: r).length - 1) + 1 := by
        have h1 : (a :: b :: r).length = r.length + 2 := rfl
        have h2 : (b :: r).length = r.length + 1 := rfl
        omega
      rw [e, List.eraseIdx_cons_succ, ih]
      all_goals rfl
section
variable {X : Cx} {pins : List (Addr × Obj)} {σ : St} {H : Hp} {s : Shared} {l b : Addr} {xs ys zs : List V}
theorem Inv.lset {its its' : List Value} {n : Nat} {f : Array Value → Array Value} {t' : Nat} (I : Inv X pins σ H s) (hH : H l = some (.lst xs))
    (e : s.heap.get? l = some { cls := .type "list", data := .seq its.toArray n }) (hf : f its.toArray = its'.toArray) (hv : Vals ys its') (hz : ys.length ≤ sizeLine) :
    Inv X pins σ (upd H l (.lst ys)) { s with heap := s.heap.update l (Obj.mapSeq f), toks := t' } := by
  have q := PySem.IsL.update e f
  rw [hf] at q
  refine I.write (x := l) (e := l) (by rw [hH]; exact trivial) (.inl rfl) (fun b' u hb hu => (Heap.get?_update_other s.heap (Obj.mapSeq f) (Ne.symm hb)).trans hu) ⟨_, q⟩ ?_
  exact ⟨hz, its', _, hv, q⟩
theorem Inv.lnew {its : List Value} {t' : Nat} (I : Inv X pins σ H s) (hv : Vals ys its) (hz : ys.length ≤ sizeLine) :
    Inv X pins σ (upd H s.heap.objs.size (.lst ys)) { s with heap := s.heap.push { cls := .type "list", data := .seq its.toArray }, toks := t' } :=
  I.laid (fun _ _ q => Heap.get?_push_of_some _ q) (Nat.le_refl _) ⟨hz, its, 0, hv, Heap.get?_push_size _ rfl⟩
theorem Inv.fresh (I : Inv X pins σ H s) : H s.heap.objs.size = none := I.hok.fresh (Nat.le_refl _)
theorem Inv.lstM (I : Inv X pins σ H s) (hH : H l = some (.lst xs)) : xs.length ≤ sizeLine ∧ ∃ (its : List Value) (n : Nat), Vals xs its ∧ xs.length = its.length ∧ s.heap.get? l = some { cls := .type "list", data := .seq its.toArray n } := by
  obtain ⟨z, its, n, r, e⟩ := I.hok l _ hH
  exact ⟨z, its, n, r, r.length, e⟩
theorem notLongL {n : Nat} (h : n ≤ sizeLine) : Builtin.List.listTooLong n = false := by
  unfold Builtin.List.listTooLong
  exact decide_eq_false (by omega)
end
section
variable {X : Cx}
def rAppend : V → List V → Hp → VK → Prop := fun x vs H Q => ∃ l xs y, x = .ref l ∧ vs = [y] ∧ H l = some (.lst xs) ∧ xs.length < sizeLine ∧ Q .non (upd H l (.lst (xs ++ [y])))
theorem mt_append : MtM X "list.append" rAppend := by
  intro pins s σ H x vs v us Q I rx rv h
  obtain ⟨l, xs, y, rfl, rfl, hH, hz, q⟩ := h
  cases rx
  obtain ⟨u, rfl, ru⟩ := rv.one
  obtain ⟨z, its, n, r, hl, e⟩ := I.lstM hH
  refine call_meets F.slot_list_append ⟨_, e, rfl⟩ F.entry_list_append (F.args_list_append_2 _ _) (PySem.list_append l its.toArray n u (by rw [List.size_toArray]; omega)) ⟨e, ?_⟩
  refine ⟨.non, _, I.lset (its' := its ++ [u]) hH e (by simp) (r.append (.cons ru .nil)) ?_, rfl, q⟩
  rw [List.length_append, List.length_singleton]
  omega
def rExtend : V → List V → Hp → VK → Prop := fun x vs H Q => ∃ l b xs zs, x = .ref l ∧ vs = [.ref b] ∧ H l = some (.lst xs) ∧ H b = some (.lst zs) ∧ xs.length + zs.length ≤ sizeLine ∧ Q .non (upd H l (.lst (xs ++ zs)))
theorem mt_extend : MtM X "list.extend" rExtend := by
  intro pins s σ H x vs v us Q I rx rv h
  obtain ⟨l, b, xs, zs, rfl, rfl, hH, hB, hz, q⟩ := h
  cases rx
  obtain ⟨u, rfl, ru⟩ := rv.one
  cases ru
  obtain ⟨z, its, n, r, hl, e⟩ := I.lstM hH
  obtain ⟨z2, its2, n2, r2, hl2, e2⟩ := I.lstM hB
  have hsz : its.toArray.size + its2.toArray.size ≤ sizeLine := by rw [List.size_toArray, List.size_toArray]; omega
  have hlong : ¬ (!its.toArray.isEmpty && Builtin.List.listTooLong (its.toArray.size + its2.toArray.size)) = true := by
    rw [notLongL hsz, Bool.and_false]
    exact Bool.false_ne_true
  refine call_meets F.slot_list_extend ⟨_, e, rfl⟩ F.entry_list_extend (F.args_list_extend_2 _ _)
    (AutoSeq1.list_extend_list_list_0 l its.toArray n b its2.toArray n2 hlong (by rw [List.size_toArray]; omega) (by omega)) ⟨e, e2, ?_⟩
  refine ⟨.non, _, I.lset (its' := its ++ its2) hH e (by simp) (r.append r2) ?_, rfl, q⟩
  rw [List.length_append]
  omega
def rPop : V → List V → Hp → VK → Prop := fun x vs H Q => ∃ l xs y, x = .ref l ∧ vs = [] ∧ H l = some (.lst xs) ∧ xs[xs.length - 1]? = some y ∧ Q y (upd H l (.lst xs.dropLast))
theorem mt_pop : MtM X "list.pop" rPop := by
  intro pins s σ H x vs v us Q I rx rv h
  obtain ⟨l, xs, y, rfl, rfl, hH, hy, q⟩ := h
  cases rx
  have hus := rv.zero
  subst hus
  obtain ⟨z, its, n, r, hl, e⟩ := I.lstM hH
  obtain ⟨u, hu, ru⟩ := r.get hy
  have hy' : its.toArray[its.toArray.size - 1]? = some u := by
    show its.toArray[its.length - 1]? = some u
    rw [← Array.getElem?_toList, ← hl]
    exact hu
  refine call_meets F.slot_list_pop ⟨_, e, rfl⟩ F.entry_list_pop (F.args_list_pop_1 _) (MeetsSeq.list_pop_last l its.toArray n u hy' (by rw [List.size_toArray]; omega)) ⟨e, ?_⟩
  refine ⟨y, _, I.lset (its' := its.dropLast) hH e ?_ r.dropLast ?_, ru, q⟩
  · show its.toArray.eraseIdxIfInBounds (its.toArray.size - 1) = its.dropLast.toArray
    rw [List.size_toArray, List.eraseIdxIfInBounds_toArray, erase_last]
  · rw [List.length_dropLast]
    omega
def rClear : V → List V → Hp → VK → Prop := fun x vs H Q => ∃ l xs, x = .ref l ∧ vs = [] ∧ H l = some (.lst xs) ∧ Q .non (upd H l (.lst []))
theorem mt_clear : MtM X "list.clear" rClear := by
  intro pins s σ H x vs v us Q I rx rv h
  obtain ⟨l, xs, rfl, rfl, hH, q⟩ := h
  cases rx
  have hus := rv.zero
  subst hus
  obtain ⟨z, its, n, r, hl, e⟩ := I.lstM hH
  refine call_meets F.slot_list_clear ⟨_, e, rfl⟩ F.entry_list_clear (F.args_list_clear_1 _) (AutoSeq1.list_clear_list_0 l its.toArray n (by rw [List.size_toArray]; omega)) ⟨e, ?_⟩
  exact ⟨.non, _, I.lset (its' := []) (ys := []) hH e rfl .nil (Nat.zero_le _), rfl, q⟩
def rCat : R2 := fun x y H Q => ∃ l b xs zs, x = .ref l ∧ y = .ref b ∧ H l = some (.lst xs) ∧ H b = some (.lst zs) ∧ xs.length + zs.length ≤ sizeLine ∧ ∀ p, H p = none → Q (.ref p) (upd H p (.lst (xs ++ zs)))
theorem op_cat : OpR X (binaryOp .Add) rCat := by
  intro pins s σ H x y v u Q I rx ry h
  obtain ⟨l, b, xs, zs, rfl, rfl, hH, hB, hz, q⟩ := h
  cases rx
  cases ry
  obtain ⟨z, its, n, r, hl, e⟩ := I.lstM hH
  obtain ⟨z2, its2, n2, r2, hl2, e2⟩ := I.lstM hB
  refine PySem.P.add_list e e2 ?_ (by rw [List.size_toArray, List.size_toArray]; omega)
  have ea : its.toArray ++ its2.toArray = (its ++ its2).toArray := by simp
  rw [ea]
  exact ⟨.ref _, _, I.lnew (t' := s.toks) (r.append r2) (by rw [List.length_append]; omega), rfl, q _ I.fresh⟩
end
section
variable {prog : Program} {w : World} {A : Around} {E : Value → Shared → Prop} {s : Shared}
end
section
variable {X : Cx}
end
end L2
namespace Att
open PySem PySem.W PySem.Calls PyProof.Rows
theorem ints_of_wellAll {P : Params} {h : Heap} : ∀ (ns : List Int) (vs : List Value), WellAll P h vs (ns.map WData.int) → IntsAre vs ns := by
  intro ns
  induction ns with
  | nil =>
    intro vs w
    rw [List.map_nil] at w
    cases w
    exact .nil
  | cons n ns ih =>
    intro vs w
    rw [List.map_cons] at w
    cases w with
    | cons a b =>
      cases a
      exact .cons _ _ (ih _ b)
theorem script_of {l : OpenLaw} {n : Nat} (hn : l.most = some n) {P : Params} {h : Heap} {args : List WData} {vals : List Value}
    (hpre : l.row.toRowW.claim.pre args = true) (hwl : WellAll P h vals args) :
    ∃ a vs ns, vals = [Value.ref a] ∧ args = [WData.list (ns.map WData.int)] ∧ h.get? a = some { cls := .type "list", data := .seq vs.toArray } ∧ IntsAre vs ns ∧ ns.length ≤ n := by
  have hsh : WShape.hasAll [] args [.list .int] = true := (pre_splitW hpre).1
  have hc : l.pre.holds [] { args := args } = true := (pre_splitW hpre).2
  obtain ⟨d, r, rfl, h1, h2⟩ := hasAllW_cons hsh
  obtain rfl := hasAllW_nil h2
  obtain ⟨xs, rfl, h3⟩ := hasW_list h1
  obtain ⟨ns, rfl⟩ := items_int h3
  have hlen : ns.length ≤ n := by
    unfold OpenLaw.pre at hc
    have h4 : (WTm.not (.lt (.lit (.int (n : Int))) (.len (.arg 0)))).holds [] { args := [.list (ns.map .int)] } = true := by
      have h4 := (holds_andW hc).1
      rw [hn] at h4
      exact h4
    have h5 := condW_of h4 (w_not (w_lt w_lit (w_len_list (w_arg rfl))))
    rw [List.length_map] at h5
    refine Nat.le_of_not_lt fun q => ?_
    have q' : (n : Int) < ((ns.length : Nat) : Int) := by omega
    first
      | (rw [decide_eq_true q'] at h5; exact absurd h5 (by decide))
      | (simp at h5; omega)
  cases hwl with
  | cons w1 w2 =>
    cases w2
    cases w1 with
    | list ho hall => exact ⟨_, _, ns, rfl, rfl, ho, ints_of_wellAll ns _ hall, hlen⟩
theorem post_true (l : OpenLaw) (args : List WData) : l.row.toRowW.claim.post args (.bool true) args = true :=
  postW_of (r := l.row.toRowW) (X := (true == true))
    (show WShape.has [] (.bool true) .bool = true by first | rfl | decide | simp [WShape.has, WShape.arms, WShape.armsAll])
    (show (WTm.eq .res (.lit (.bool true))).value [] { args := args, res := some (.bool true), after := args } = some (.bool (true == true)) from w_eq_bool (w_res rfl) w_lit) rfl
theorem attach_call {l : OpenLaw} {n : Nat} {q : Program} {loose : List Str} {XP : (Str → Option Value) → Heap → Prop} {YP : World → Heap → Prop} {d : DefRec}
    (hn : l.most = some n) (hdf : d.params.defaults = [])
    (call : ∀ (w : World) (s₀ s₁ : Shared) (mg mb : Str → Option Value) (fa : Addr) (o : Obj) (pm cd doc : Value) (a : Addr) (vs : List Value) (ns : List Int),
      Ground q loose [] XP w s₀ mg mb s₁.heap → YP w s₁.heap →
      s₁.heap.get? fa = some o → o.data = .func (docDef d.name d.params d.body d.scope pm cd doc) → s₁.heap.CodeRec cd d.name → mg d.name = some (.ref fa) →
      s₁.heap.get? a = some { cls := .type "list", data := .seq vs.toArray } → IntsAre vs ns → ns.length ≤ n → s₁.gens = #[] →
      codeAny (model l.prog w) callerA (.call (.ref fa) ⟨[.ref a], []⟩) (fun r s' => r = .ok (.ret (.bool true)) ∧ OldK s₁.heap s'.heap ∧ s'.os = s₁.os ∧ AllBare s'.gens) s₁) :
    WalkO q loose XP YP l.row.toRowW d [] (fun f vs => PySem.call f vs) := by
  intro w s₀ s₁ mg mb G Y fa o pm cd doc dV kV ho hd hcd hD hmg hg args vals as hpre hlay hrd hwl hlo
  obtain rfl : dV = .none := Dflts.none hD hdf
  obtain rfl : kV = .none := Dflts.noKw hD
  obtain ⟨a, vs, ns, rfl, rfl, hobj, hints, hlen⟩ := script_of hn hpre hwl
  refine enter_call (codeAny_mono (call w s₀ s₁ mg mb fa o pm cd doc a vs ns G Y ho (fd_plain hd) hcd hmg hobj hints hlen hg) fun r s' hq => ?_)
  obtain ⟨rfl, h2, h3, h4⟩ := hq
  exact ⟨.inl ⟨.bool true, .bool true, [], rfl, fun _ => rfl, .bool true, post_true l _, fun _ => ⟨List.Pairwise.nil, fun _ hm => (nomatch hm)⟩⟩, h2, h3, h4⟩
section
variable {prog : Program} {w : World} {A : Around} {E : Value → Shared → Prop} {s : Shared} {K : Frag}
end
end Att
namespace L2
open PySem PySem.Spec PyProof.Rows
theorem vals_ints : ∀ {vs : List Value} {ns : List Int}, IntsAre vs ns → Vals (ns.map V.int) vs
  | _, _, .nil => .nil
  | _, _, .cons n t h => .cons ⟨t, rfl⟩ (vals_ints h)
end L2
namespace L2
open PySem PySem.Spec PyProof.Rows
abbrev KOf {K : PySem.W.Frag} {h : Heap} (_ : K.In h) : PySem.W.Frag := K
end L2
namespace L2
open PySem PySem.Spec PyProof.Rows
def defArgs (s : Stmt) : Arguments := match s with
  | .FunctionDef _ a _ _ _ _ _ _ _ _ => a
  | _ => { posonlyargs := [], args := [], vararg := none, kwonlyargs := [], kw_defaults := [], kwarg := none, defaults := [] }
def defBody (s : Stmt) : List Stmt := match s with
  | .FunctionDef _ _ b _ _ _ _ _ _ _ => b
  | _ => []
def defScope (s : Stmt) : Scope := match s with
  | .FunctionDef _ _ _ _ _ _ sc _ _ _ => sc
  | _ => { kind := .function, names := [], isGenerator := false, isCoroutine := false }
abbrev CX0 : CXT := fun _ _ _ _ _ _ => False
abbrev E0 : XK := fun _ _ _ => False
theorem pass0 {X : Cx} : Passes CX0 X E0 := fun _ _ _ _ _ _ _ h => h.elim
structure Fun (K : PySem.W.Frag) (x qual : Str) (st : Stmt) (f : Addr) (fd : FuncData) : Prop where
  ex : ∃ (oc : Value) (od : Option Addr) (kV doc pm : Value) (an : Option Addr) (cdv ct : Value) (osl : Array (Option Value)),
    fd = PySem.W.fnOf x qual (defArgs st) (defBody st) (defScope st) .none kV doc pm an cdv ct ∧ K.lookup f = some ⟨oc, od, .func fd, osl⟩ ∧ PySem.W.codeIn K cdv qual = true
  kp : PySem.W.keepIn K (.ref f) = true
section
variable {P : Program} {w : World} {K : PySem.W.Frag} {mg : Str → Option Value} {base : Heap}
theorem Fun.ok {x qual : Str} {st : Stmt} {f : Addr} {fd : FuncData} {N ps : List Str} {k : Nat} {sp : Sp} (F : Fun K x qual st f fd) (S : FnScope N ps (defScope st)) (len : ∀ vs H Q E, sp vs H Q E → vs.length = ps.length)
    (hbody : ∀ (cdv : Value) (A : Around) (outer : List Env) (s : Shared) (H : Hp) (vs : List V) (Q : VK) (E : XK), Room k (A.deeper (envOfC qual (defScope st) s.heap.objs.size f cdv)) → sp vs H Q E →
      ∃ t, PSs (cxOf CX0 P w K mg base N qual (defScope st) f cdv A outer s H E).nox (defBody st) t ∧ t { nx := fun _ H' => Q .non H', rt := Q } (start N vs) H) : FnOk P w K mg base CX0 (k + 1) f fd ps sp := by
  obtain ⟨oc, od, kV, doc, pm, an, cdv, ct, osl, rfl, lk, hcd⟩ := F.ex
  refine fn_of lk hcd S len fun A outer s H vs Q E hr hsp => ?_
  obtain ⟨t, h, q⟩ := hbody cdv A outer s H vs Q E hr hsp
  exact ⟨t, h.nox, q⟩
theorem Fun.binds {x qual : Str} {st : Stmt} {f : Addr} {fd : FuncData} {ps : List Str} (F : Fun K x qual st f fd)
    (h : ∀ (kV doc pm : Value) (an : Option Addr) (cdv ct : Value) (us : List Value), us.length = ps.length → bindArgs (PySem.W.fnOf x qual (defArgs st) (defBody st) (defScope st) .none kV doc pm an cdv ct) ⟨us, []⟩ = pure (ps.zip us)) : Binds K fd ps [] := by
  obtain ⟨oc, od, kV, doc, pm, an, cdv, ct, osl, rfl, lk, hcd⟩ := F.ex
  exact .all (h kV doc pm an cdv ct)
theorem fun_mk {x qual : Str} {st : Stmt} {f : Addr} {oc : Value} {od an : Option Addr} {osl : Array (Option Value)} {kV doc pm cdv ct : Value} (l : K.lookup f = some ⟨oc, od, .func (PySem.W.fnOf x qual (defArgs st) (defBody st) (defScope st) .none kV doc pm an cdv ct), osl⟩)
    (c : PySem.W.codeIn K cdv qual = true) (k : PySem.W.keepIn K (.ref f) = true) : Fun K x qual st f (PySem.W.fnOf x qual (defArgs st) (defBody st) (defScope st) .none kV doc pm an cdv ct) := ⟨⟨oc, od, kV, doc, pm, an, cdv, ct, osl, rfl, l, c⟩, k⟩
end
section
variable {X : Cx}
theorem pv (i : Nat) {x : Str} {pos : Pos} (hN : X.N[i]? = some x := by rfl) (hv : Vis X.env.scope x := by first | exact Or.inl rfl | exact Or.inr (Or.inl rfl) | exact Or.inr (Or.inr rfl)) (hd : (x == ("__debug__" : Str)) = false := by decide)
    (hcd : (x == ("__classdict__" : Str)) = false := by decide) : PE X (.Name x pos) (tVar i) := pe_var hN hv hd hcd
end
def Same (H H' : Hp) : Prop := ∀ b o, H b = some o → H' b = some o
theorem Same.seq {K : PySem.W.Frag} {H H' : Hp} {a : Addr} {xs : List V} (e : Same H H') (h : SqL K H a xs) : SqL K H' a xs := by
  rcases h with (h | ⟨o, h⟩) | h
  · exact .inl (.inl (e _ _ h))
  · exact .inl (.inr ⟨o, e _ _ h⟩)
  · exact .inr h
end L2
namespace L2
open PySem PySem.Spec PyProof.Rows
section
variable {κ : Type} [DecidableEq κ]
def valV (kvs : List (κ × V)) (k : κ) : Option V := (kvs.find? fun kv => decide (kv.1 = k)).map (·.2)
def putK (kvs : List (κ × V)) (k : κ) (v : V) : List (κ × V) :=
  if (kvs.any fun kv => decide (kv.1 = k)) = true then kvs.map (fun kv => if kv.1 = k then (kv.1, v) else kv) else kvs ++ [(k, v)]
theorem KV.length {kvs : List (κ × V)} {vs : List (κ × Value)} (r : KV kvs vs) : kvs.length = vs.length := Paired.length r
end
abbrev KT (H : Hp) : List (List Key × V) → List (List Key × Addr × Value) → Prop := Paired fun p q => p.1 = q.1 ∧ H q.2.1 = some (.tup (p.1.map kV)) ∧ RelV p.2 q.2.2
section
variable {P : Program} {w : World} {H : Hp} {h : Heap} {a : Addr}
end
def DGet (H : Hp) (a : Addr) (y : V) (r : Option V) : Prop :=
  (∃ kvs k, Rd H a (.dK kvs) ∧ y = kV k ∧ r = valV kvs k) ∨ ∃ kvs k b, Rd H a (.dT kvs) ∧ y = .ref b ∧ H b = some (.tup (k.map kV)) ∧ r = valV kvs k
def DPut (H : Hp) (a : Addr) (y v : V) (H' : Hp) : Prop :=
  (∃ kvs k, H a = some (.dK kvs) ∧ y = kV k ∧ kvs.length < sizeLine ∧ H' = upd H a (.dK (putK kvs k v))) ∨
  ∃ kvs k b, H a = some (.dT kvs) ∧ y = .ref b ∧ H b = some (.tup (k.map kV)) ∧ kvs.length < sizeLine ∧ H' = upd H a (.dT (putK kvs k v))
theorem DGet.k {H : Hp} {a : Addr} {kvs : List (Key × V)} {k : Key} (e : H a = some (.dK kvs)) : DGet H a (kV k) (valV kvs k) := .inl ⟨kvs, k, .inl e, rfl, rfl⟩
theorem DGet.t {H : Hp} {a b : Addr} {kvs : List (List Key × V)} {k : List Key} (e : H a = some (.dT kvs)) (eb : H b = some (.tup (k.map kV))) : DGet H a (.ref b) (valV kvs k) := .inr ⟨kvs, k, b, .inl e, rfl, eb, rfl⟩
theorem DPut.k {H : Hp} {a : Addr} {kvs : List (Key × V)} {k : Key} {v : V} (e : H a = some (.dK kvs)) (hl : kvs.length < sizeLine) : DPut H a (kV k) v (upd H a (.dK (putK kvs k v))) := .inl ⟨kvs, k, e, rfl, hl, rfl⟩
theorem DPut.t {H : Hp} {a b : Addr} {kvs : List (List Key × V)} {k : List Key} {v : V} (e : H a = some (.dT kvs)) (eb : H b = some (.tup (k.map kV))) (hl : kvs.length < sizeLine) :
    DPut H a (.ref b) v (upd H a (.dT (putK kvs k v))) := .inr ⟨kvs, k, b, e, rfl, eb, hl, rfl⟩
section
variable {X : Cx} {pins : List (Addr × Obj)} {σ : St} {H : Hp} {s : Shared} {a : Addr} {y v : V} {u r : Value} {o : Option V} {A : Around} {E : Value → Shared → Prop}
end
section
variable {X : Cx} {pins : List (Addr × Obj)} {σ : St} {H : Hp} {s : Shared} {a : Addr} {kvs : List (Key × V)} {k : Key} {u : Value} {A : Around} {E : Value → Shared → Prop}
end
section
variable {X : Cx} {o i e value : Expr} {pos pos' tpos : Pos} {td ty tv : TE}
end
section
variable {X : Cx} {pos : Pos}
end
section
variable {X : Cx} {pins : List (Addr × Obj)} {σ : St} {H : Hp} {s : Shared} {a : Addr} {y d : V} {u r : Value} {o : Option V} {A : Around} {E : Value → Shared → Prop}
end
section
variable {X : Cx} {o e f : Expr} {apos cpos : Pos} {td ty tx : TE}
end
section
variable {X : Cx} {pins : List (Addr × Obj)} {σ : St} {H : Hp} {s : Shared} {a : Addr} {kvs : List (Key × V)} {A : Around} {E : Value → Shared → Prop}
end
section
variable {X : Cx} {pins : List (Addr × Obj)} {σ : St} {H : Hp} {s : Shared} {a : Addr} {y : V} {u : Value} {A : Around} {E : Value → Shared → Prop}
end
end L2
namespace My
structure Bd (k : Nat) (x : Int) : Prop where
  lt : x.natAbs < 2 ^ k
theorem Bd.mono {j k : Nat} {x : Int} (h : Bd j x) (e : j ≤ k) : Bd k x := ⟨Nat.lt_of_lt_of_le h.lt (Nat.pow_le_pow_right (by decide) e)⟩
theorem Bd.mul {j k : Nat} {x y : Int} (h : Bd j x) (g : Bd k y) : Bd (j + k) (x * y) := by
  refine ⟨?_⟩
  rw [Int.natAbs_mul, Nat.pow_add]
  exact Nat.mul_lt_mul_of_lt_of_lt h.lt g.lt
theorem Bd.add {j k : Nat} {x y : Int} (h : Bd j x) (g : Bd k y) : Bd (max j k + 1) (x + y) := by
  have h' := (h.mono (Nat.le_max_left j k)).lt
  have g' := (g.mono (Nat.le_max_right j k)).lt
  refine ⟨?_⟩
  rw [Nat.pow_succ]
  omega
theorem Bd.neg {k : Nat} {x : Int} (h : Bd k x) : Bd k (-x) := ⟨by have := h.lt; omega⟩
theorem Bd.sub {j k : Nat} {x y : Int} (h : Bd j x) (g : Bd k y) : Bd (max j k + 1) (x - y) := by
  rw [Int.sub_eq_add_neg]; exact h.add g.neg
theorem Bd.log2 {k : Nat} {x : Int} (h : Bd k x) (hk : 0 < k) : x.natAbs.log2 < k := by
  have h := h.lt
  by_cases z : x.natAbs = 0
  · rw [z]; simpa using hk
  · exact (Nat.log2_lt z).mpr h
theorem gcd_fmod (n m : Int) : Int.gcd m (n.fmod m) = Int.gcd n m := by
  rw [Int.fmod_def, Int.mul_comm, Int.gcd_sub_mul_right_right, Int.gcd_comm]
def sg (n d : Int) : Int := if d < 0 then -(Int.gcd n d : Int) else (Int.gcd n d : Int)
def nm (n d : Int) : Int := n.fdiv (sg n d)
def dn (n d : Int) : Int := d.fdiv (sg n d)
end My
namespace My
def sgn (n : Int) : Int := if 0 < n then 1 else if n < 0 then -1 else 0
end My
namespace My
end My
namespace My
def ahd (p0 p1 p2 q0 q1 q2 : Int) : Bool := if p0 * q2 = q0 * p2 then decide (p1 * q2 < q1 * p2) else decide (p0 * q2 < q0 * p2)
def m0 (a0 a1 a2 b0 b1 b2 c0 c1 c2 d0 d1 d2 : Int) : Int := (a2 * b0 - a0 * b2) * (c0 * d1 - c1 * d0) - (a0 * b1 - a1 * b0) * (c2 * d0 - c0 * d2)
def m1 (a0 a1 a2 b0 b1 b2 c0 c1 c2 d0 d1 d2 : Int) : Int := (a0 * b1 - a1 * b0) * (c1 * d2 - c2 * d1) - (a1 * b2 - a2 * b1) * (c0 * d1 - c1 * d0)
def m2 (a0 a1 a2 b0 b1 b2 c0 c1 c2 d0 d1 d2 : Int) : Int := (a1 * b2 - a2 * b1) * (c2 * d0 - c0 * d2) - (a2 * b0 - a0 * b2) * (c1 * d2 - c2 * d1)
section
variable (a0 a1 a2 b0 b1 b2 c0 c1 c2 d0 d1 d2 : Int)
def u0 : Int := b0 * (a2 * c2 * d2) - a0 * (b2 * c2 * d2)
def u1 : Int := b1 * (a2 * c2 * d2) - a1 * (b2 * c2 * d2)
def v1 : Int := d1 * (a2 * b2 * c2) - c1 * (a2 * b2 * d2)
end
section
variable {a0 a1 a2 b0 b1 b2 c0 c1 c2 d0 d1 d2 : Int}
end
end My
namespace L2
open PySem PySem.Spec PyProof.Rows
section
variable {X : Cx} {a b : Expr} {ta tb : TE} {pos : Pos}
theorem op_mulB : OpR X (binaryOp .Mult) (rI IntMulOk fun i j => .int (i * j)) := opI fun _ _ _ _ _ _ _ hc q => mul_int q hc
def CDivB (_i j : Int) : Prop := j ≠ 0 ∧ j.natAbs.log2 < 9000
theorem op_fdivB : OpR X (binaryOp .FloorDiv) (rI CDivB fun i j => .int (i.fdiv j)) := opI fun _ _ _ _ _ _ _ hc q => floordiv_int hc.1 q (.inl (PyProof.noPylong_of_log2 hc.2))
theorem call_isinst : CallR X (.builtin "isinstance") (fun xs H Q => ∃ x n t k, xs = [x, .ty n] ∧ TyOf X.K H x t ∧ PySem.W.kitOne X.K t (.type n) = some k ∧ Q (.bl k) H) := by
  intro pins s σ H xs us Q I r h
  obtain ⟨x, n, t, k, rfl, ty, e, q⟩ := h
  obtain ⟨u, w', rfl, rx, rc⟩ := vals2 r
  cases (show w' = Value.type n from rc)
  exact isinst_ok I rx ty e fun tk => ⟨.bl k, H, I.tok tk, rfl, q⟩
end
section
variable {X : Cx} {K : PySem.W.Frag}
end
theorem get_new {H : Hp} {p q : Addr} {x z : HO} (h : H p = some x) (hq : H q = none) : upd H q z p = some x := by
  rw [upd_ne (ne_of_none h hq)]; exact h
theorem same_new {H : Hp} {q : Addr} {z : HO} (hq : H q = none) : Same H (upd H q z) := fun _ _ h => get_new h hq
section
variable {P : Program} {w : World} {K : PySem.W.Frag} {mg : Str → Option Value} {base : Heap}
end
end L2
namespace My
open PySem PyProof.Rows
theorem bits_le {k : Nat} {x : Int} (h : Bd k x) : PySem.Builtin.Int.intBits x ≤ k := by
  unfold PySem.Builtin.Int.intBits
  split
  · exact Nat.zero_le _
  · rename_i z
    have z' : x.natAbs ≠ 0 := by
      intro e
      apply z
      have : x = 0 := by omega
      rw [this]; rfl
    have := (Nat.log2_lt z').mpr h.lt
    omega
theorem mulOk {x y : Int} {j k : Nat} (hx : Bd j x) (hy : Bd k y) (h : (decide (j ≤ 100000) && decide (k ≤ 100000)) = true) : PySem.IntMulOk x y := by
  rw [Bool.and_eq_true, decide_eq_true_eq, decide_eq_true_eq] at h
  have e : (2 : Nat) ^ 20 = 1048576 := by decide
  exact PySem.IntMulOk.of_bits (by have := bits_le hx; omega) (by have := bits_le hy; omega)
theorem mulOkL {x y : Int} (h1 : -(2 ^ 64) < x) (h2 : x < 2 ^ 64) : PySem.IntMulOk x y := PySem.IntMulOk.of_left (PySem.intBits_le_64 h1 h2)
theorem mulOkR {x y : Int} (h1 : -(2 ^ 64) < y) (h2 : y < 2 ^ 64) : PySem.IntMulOk x y := PySem.IntMulOk.of_right (PySem.intBits_le_64 h1 h2)
end My
namespace L2
open PySem PySem.Spec PyProof.Rows
theorem bt_abs : bootBuiltins "abs" = some (.builtin "abs") := by decide +kernel
theorem bt_len : bootBuiltins "len" = some (.builtin "len") := by decide +kernel
theorem bt_isinstance : bootBuiltins "isinstance" = some (.builtin "isinstance") := by decide +kernel
theorem bt_int : bootBuiltins "int" = some (.type "int") := by decide +kernel
theorem bt_list : bootBuiltins "list" = some (.type "list") := by decide +kernel
def Pl (H : Hp) (p : Addr) : Prop := ∃ a b : Int, H p = some (.lst [.int a, .int b]) ∧ 0 ≤ a ∧ 0 ≤ b
theorem Pl.new {H : Hp} {p : Addr} {a b : Int} (h1 : 0 ≤ a) (h2 : 0 ≤ b) : Pl (upd H p (.lst [.int a, .int b])) p := ⟨a, b, upd_same, h1, h2⟩
theorem divB {i j : Int} {k : Nat} (h0 : j ≠ 0) (h : My.Bd k j) (hk : (decide (0 < k) && decide (k ≤ 9000)) = true) : CDivB i j := by
  rw [Bool.and_eq_true, decide_eq_true_eq, decide_eq_true_eq] at hk
  exact ⟨h0, Nat.lt_of_lt_of_le (My.Bd.log2 h hk.1) hk.2⟩
end L2
namespace L2
open PySem PySem.Spec PyProof.Rows
def closOf (cells : List (Str × Addr)) : List (Str × NameKind) → List (Str × Addr) → List (Str × Addr)
  | [], cs => cs
  | (n, k) :: r, cs => closOf cells r (if k == .free then (match cells.lookup n with | some a => (n, a) :: cs | none => cs) else cs)
theorem clos_forIn {env : Env} : ∀ (names : List (Str × NameKind)) (cs : List (Str × Addr)), (∀ y ∈ names, y.2 = .free → ∃ c, env.cells.lookup y.1 = some c) →
    (forIn names cs (fun (x : Str × NameKind) (r : List (Str × Addr)) => (do
      if x.2 == .free then
        let a ← cellOf env x.1
        pure (ForInStep.yield ((x.1, a) :: r))
      else pure (ForInStep.yield r) : Sem (ForInStep (List (Str × Addr)))))) = (pure (closOf env.cells names cs) : Sem _)
  | [], cs, _ => rfl
  | (n, k) :: r, cs, h => by
    rw [List.forIn_cons]
    have hr : ∀ y ∈ r, y.2 = .free → ∃ c, env.cells.lookup y.1 = some c := fun y hy => h y (List.mem_cons_of_mem _ hy)
    by_cases hk : k = .free
    · subst hk
      obtain ⟨c, hc⟩ := h (n, .free) List.mem_cons_self rfl
      have hc' : env.cells.lookup n = some c := hc
      simp only [beq_self_eq_true, if_true, cellOf, hc', pure_bind, closOf]
      exact clos_forIn r _ hr
    · have hb : (k == NameKind.free) = false := by simpa using hk
      simp only [hb, Bool.false_eq_true, if_false, pure_bind, closOf]
      exact clos_forIn r _ hr
theorem closureFor_of {scope : Scope} {env : Env} (h : ∀ y ∈ scope.names, y.2 = .free → ∃ c, env.cells.lookup y.1 = some c) : closureFor scope env = pure (closOf env.cells scope.names []) := by
  have e := clos_forIn (env := env) scope.names [] h
  unfold closureFor
  simp only [bind_pure_comp] at e ⊢
  first
    | (simpa using e)
    | (rw [← e]; rfl)
theorem closOf_sub {cells : List (Str × Addr)} {x : Str} {c : Addr} : ∀ {names : List (Str × NameKind)} {cs : List (Str × Addr)}, (closOf cells names cs).lookup x = some c → (∀ c', cs.lookup x = some c' → cells.lookup x = some c') → cells.lookup x = some c
  | [], cs, h, hc => hc c h
  | (n, k) :: r, cs, h, hc => by
    refine closOf_sub (names := r) h fun c' hc' => ?_
    by_cases hk : (k == NameKind.free) = true
    · rw [if_pos hk] at hc'
      cases e : cells.lookup n with
      | none => rw [e] at hc'; exact hc c' hc'
      | some a =>
        rw [e] at hc'
        by_cases hx : x = n
        · subst hx
          simp only [List.lookup_cons, beq_self_eq_true] at hc'
          rw [e]; exact hc'
        · have hb : (x == n) = false := beq_eq_false_iff_ne.mpr hx
          simp only [List.lookup_cons, hb] at hc'
          exact hc c' hc'
    · rw [if_neg hk] at hc'
      exact hc c' hc'
theorem closOf_mono {cells : List (Str × Addr)} {x : Str} : ∀ {names : List (Str × NameKind)} {cs : List (Str × Addr)}, (∃ c, cs.lookup x = some c) → ∃ c, (closOf cells names cs).lookup x = some c
  | [], _, h => h
  | (n, k) :: r, cs, h => by
    refine closOf_mono (names := r) ?_
    split
    · split
      · rename_i a _
        by_cases hx : x = n
        · subst hx; exact ⟨a, by simp⟩
        · have hb : (x == n) = false := beq_eq_false_iff_ne.mpr hx
          simpa [List.lookup_cons, hb] using h
      · exact h
    · exact h
theorem closOf_has {cells : List (Str × Addr)} {x : Str} : ∀ {names : List (Str × NameKind)} {cs : List (Str × Addr)}, (x, NameKind.free) ∈ names → (∃ c, cells.lookup x = some c) → ∃ c, (closOf cells names cs).lookup x = some c
  | [], _, h, _ => nomatch h
  | (n, k) :: r, cs, h, hc => by
    rcases List.mem_cons.mp h with e | h
    · cases e
      refine closOf_mono (names := r) ?_
      obtain ⟨c, hc⟩ := hc
      rw [if_pos (by rfl), hc]
      exact ⟨c, by simp⟩
    · exact closOf_has (names := r) h hc
theorem compLoop_own {prog : Program} {w : World} {A : Around} {R : Result → Shared → Prop} {s : Shared} {elt target iter : Expr} {ifs : List Expr} {scope : Scope} {pos : Pos} {it acc : Value} {env : Env} (I : Nat → Shared → Prop)
    (turn : ∀ n s, I n s → wpAny (model prog w) A (pyNext it) (fun r s₁ => match r with
      | none => R (.ok .next) s₁
      | some v => wpAny (model prog w) A (letOwnedTupleGo target it v) (fun _ s₀ => wpAny (model prog w) A (assign target env v) (fun _ s₂ =>
          wpAny (model prog w) A (forIn ifs true fun c r => if r = true then do let ok ← isTrue c env (eval c env); pure (ForInStep.yield ok) else pure (ForInStep.yield r)) (fun ok s₃ =>
            if ok = true then wpAny (model prog w) A (eval elt env) (fun x s₄ =>
              wpAny (model prog w) A (call (.builtin "list.append") [acc, x]) (fun _ s₅ => ∃ m, m < n ∧ I m s₅) (fun _ _ => False) s₄) (fun _ _ => False) s₃
            else ∃ m, m < n ∧ I m s₃) (fun _ _ => False) s₂) (fun _ _ => False) s₀) (fun _ _ => False) s₁) (fun _ _ => False) s)
    (n : Nat) (h : I n s) :
    codeAny (model prog w) A (.compLoop (.ListComp elt [⟨target, iter, ifs, 0⟩] scope pos) 0 it acc env) R s := by
  refine codeAny_loop rfl I (fun n s hI => ?_) n h
  show wpAny _ A ((compTurn (.ListComp elt [⟨target, iter, ifs, 0⟩] scope pos) 0 it acc env).onRaise (fun x => do noteFrame x env; theTreesLotGoes x)) _ _ s
  refine wpAny_noted ?_
  rw [compTurn_list]
  refine wpAny_bind (wpAny_standAt (wpAny_bind (wpAny_mono (turn n s hI) (fun r s₁ h₁ => ?_) fun _ _ h' => h'.elim)))
  cases r with
  | none => exact wpAny_pure h₁
  | some v =>
    refine wpAny_bind (wpAny_mono h₁ (fun _ s₀ h₀ => ?_) fun _ _ h' => h'.elim)
    refine wpAny_bind (wpAny_mono h₀ (fun _ s₂ h₂ => wpAny_bind (wpAny_mono h₂ (fun ok s₃ h₃ => ?_) fun _ _ h' => h'.elim)) fun _ _ h' => h'.elim)
    cases ok with
    | false => exact wpAny_pure ⟨rfl, h₃⟩
    | true =>
      exact wpAny_bind (wpAny_bind (wpAny_mono h₃ (fun x s₄ h₄ => wpAny_bind (wpAny_mono h₄ (fun _ s₅ h₅ => wpAny_pure (wpAny_pure ⟨rfl, h₅⟩)) fun _ _ h' => h'.elim)) fun _ _ h' => h'.elim))
abbrev Cx.blk (X : Cx) (scope : Scope) (C : Addr) (N' : List Str) (s₀ : Shared) (H₀ : Hp) (fp : List Addr) : Cx :=
  { X with N := N', s₀ := s₀, H₀ := H₀, env := compEnvC scope (closOf X.env.cells scope.names []) C X.env, outer := X.stack, ex := fp, fn := fun _ => false, pn := [], xe := fun _ _ => False }
def tau (σ : St) (cap : List (Option Nat)) : St := cap.map fun o => match o with
  | some i => (match σ[i]? with | some v => v | none => none)
  | none => none
structure BlkOk (X : Cx) (scope : Scope) (N' : List Str) (cap : List (Option Nat)) : Prop where
  kind : scope.kind = .function
  ncell : ∀ y ∈ scope.names, y.2 ≠ .cell
  names : ∀ y ∈ scope.names, y.2 = .local → scope.names.lookup y.1 = some .local
  frees : ∀ y ∈ scope.names, y.2 = .free → X.env.kindOf y.1 = some .cell ∨ X.env.kindOf y.1 = some .free
  len : cap.length = N'.length
  caps : ∀ (j i : Nat) (x : Str), cap[j]? = some (some i) → N'[j]? = some x → X.N[i]? = some x ∧ (x, NameKind.free) ∈ scope.names
  vis : ∀ (j i : Nat) (x : Str), cap[j]? = some (some i) → N'[j]? = some x → Vis X.env.scope x
  un : ∀ (j i : Nat) (x : Str), cap[j]? = some (some i) → N'[j]? = some x → ∀ z ∈ scope.names, z.1 = x → z.2 = .free
def capOk (sc scope : Scope) (NN : List Str) : List Str → List (Option Nat) → Bool
  | [], [] => true
  | _ :: N, none :: c => capOk sc scope NN N c
  | x :: N, some i :: c => decide (NN[i]? = some x) && decide ((x, NameKind.free) ∈ scope.names) && (decide (sc.names.lookup x = some .local) || decide (sc.names.lookup x = some .cell) || decide (sc.names.lookup x = some .free)) && decide (∀ z ∈ scope.names, z.1 = x → z.2 = .free) && capOk sc scope NN N c
  | _, _ => false
theorem capOk_len {sc scope : Scope} {NN : List Str} : ∀ {N' : List Str} {cap : List (Option Nat)}, capOk sc scope NN N' cap = true → cap.length = N'.length
  | [], [], _ => rfl
  | _ :: _, none :: _, h => congrArg (· + 1) (capOk_len (by simpa only [capOk] using h))
  | _ :: _, some _ :: _, h => congrArg (· + 1) (capOk_len (by simp only [capOk, Bool.and_eq_true] at h; exact h.2))
  | [], _ :: _, h => by simp [capOk] at h
  | _ :: _, [], h => by simp [capOk] at h
theorem capOk_at {sc scope : Scope} {NN : List Str} : ∀ {N' : List Str} {cap : List (Option Nat)}, capOk sc scope NN N' cap = true → ∀ (j i : Nat) (x : Str), cap[j]? = some (some i) → N'[j]? = some x →
    NN[i]? = some x ∧ (x, NameKind.free) ∈ scope.names ∧ Vis sc x ∧ ∀ z ∈ scope.names, z.1 = x → z.2 = .free
  | [], [], _, j, i, x, e, _ => by simp at e
  | _ :: _, none :: _, h, 0, i, x, e, _ => by simp at e
  | _ :: _, none :: _, h, j + 1, i, x, e, e' => capOk_at (by simpa only [capOk] using h) j i x (by simpa using e) (by simpa using e')
  | y :: _, some k :: _, h, 0, i, x, e, e' => by
    simp only [List.getElem?_cons_zero, Option.some.injEq] at e e'
    subst e e'
    simp only [capOk, Bool.and_eq_true, Bool.or_eq_true, decide_eq_true_eq] at h
    obtain ⟨⟨⟨⟨h1, h2⟩, h3⟩, h4⟩, _⟩ := h
    refine ⟨h1, h2, ?_, h4⟩
    rcases h3 with (h3 | h3) | h3
    · exact .inl h3
    · exact .inr (.inl h3)
    · exact .inr (.inr h3)
  | _ :: _, some _ :: _, h, j + 1, i, x, e, e' => capOk_at (by simp only [capOk, Bool.and_eq_true] at h; exact h.2) j i x (by simpa using e) (by simpa using e')
  | [], _ :: _, h, _, _, _, _, _ => by simp [capOk] at h
  | _ :: _, [], h, _, _, _, _, _ => by simp [capOk] at h
theorem blk_mk {X : Cx} {sc scope : Scope} {NN N' : List Str} {cap : List (Option Nat)} (e : X.env.scope = sc) (eN : X.N = NN) (h1 : scope.kind = .function) (h2 : ∀ y ∈ scope.names, y.2 ≠ .cell) (h3 : ∀ y ∈ scope.names, y.2 = .local → scope.names.lookup y.1 = some .local)
    (h4 : ∀ y ∈ scope.names, y.2 = .free → sc.names.lookup y.1 = some .cell ∨ sc.names.lookup y.1 = some .free) (h5 : capOk sc scope NN N' cap = true) : BlkOk X scope N' cap := by
  subst e eN
  exact ⟨h1, h2, h3, h4, capOk_len h5, fun j i x a b => ⟨(capOk_at h5 j i x a b).1, (capOk_at h5 j i x a b).2.1⟩, fun j i x a b => (capOk_at h5 j i x a b).2.2.1, fun j i x a b => (capOk_at h5 j i x a b).2.2.2⟩
def tComp (wi : TI) (cap : List (Option Nat)) (g : TG) (tt : TT) (te : TE) : TE := fun σ H Q => wi σ H fun J H1 => ∀ l, H1 l = none →
  ∃ W : Nat → Nat → St → Hp → Prop, (∃ m, W 0 m (tau σ cap) (upd H1 l (.lst []))) ∧ ∀ i m τ H2, W i m τ H2 →
    (J.stop i H2 ∧ Q (.ref l) H2) ∨ (J.go i H2 ∧ ∃ N : St → Hp → Prop, (∀ τ' H', N τ' H' → ∃ m', m' < m ∧ W (i + 1) m' τ' H') ∧
      ∀ x H', J.yld i H2 x H' → g x τ H' fun τ2 H3 => tt τ2 H3 fun b H4 => if b = true then te τ2 H4 fun y H5 => ∃ ys, H5 l = some (.lst ys) ∧ ys.length < sizeLine ∧ N τ2 (upd H5 l (.lst (ys ++ [y]))) else N τ2 H4)
def tYes : TT := fun _ H Q => Q true H
namespace Zu
set_option allowUnsafeReducibility true in
@[scoped irreducible] def _root_.L2.PIfs (X : Cx) (ifs : List Expr) (t : TT) : Prop :=
  ∀ (pins : List (Addr × Obj)) (s : Shared) (σ : St) (H : Hp) (Q : Bool → Hp → Prop), Inv X pins σ H s → t σ H Q →
    wpAny (model X.prog X.w) X.A (forIn ifs true fun c r => if r = true then do let ok ← isTrue c X.env (eval c X.env); pure (ForInStep.yield ok) else pure (ForInStep.yield r)) (TP X pins σ Q) X.xe s
end Zu
theorem ifs_none {X : Cx} : PIfs X [] tYes := fun _ _ _ H _ I h => wpAny_tests_nil ⟨H, I, h⟩
section
variable {X : Cx} {pos : Pos} {elt iter tg : Expr} {ifs : List Expr} {scope : Scope} {N' : List Str} {cap : List (Option Nat)} {wi : TI} {g : TG} {tt : TT} {te : TE}
theorem relabel_free {X : Cx} : ∀ {names : List (Str × NameKind)} {y : Str} {k : NameKind}, (names.map fun (n, k) => if (k == NameKind.free && X.env.scope.kind == .function && X.env.kindOf n == some .cell) then (n, NameKind.cell) else (n, k)).lookup y = some k →
    (k = .cell ∨ k = .free) → (∀ z ∈ names, z.2 ≠ .cell) → (y, NameKind.free) ∈ names
  | [], _, _, h, _, _ => by simp at h
  | (n, k0) :: r, y, k, h, hk, hc => by
    have hcr : ∀ z ∈ r, z.2 ≠ .cell := fun z hz => hc z (List.mem_cons_of_mem _ hz)
    have h0 : k0 ≠ .cell := hc (n, k0) List.mem_cons_self
    rw [List.map_cons] at h
    dsimp only at h
    by_cases hy : y = n
    · subst hy
      have : k0 = .free := by
        by_cases hf : k0 = .free
        · exact hf
        · exfalso
          have hb : (k0 == NameKind.free) = false := by simpa using hf
          simp only [hb, Bool.false_and, Bool.false_eq_true, if_false, List.lookup_cons, beq_self_eq_true] at h
          cases h
          rcases hk with e | e
          · exact h0 e
          · exact hf e
      subst this
      exact List.mem_cons_self
    · have hb : (y == n) = false := beq_eq_false_iff_ne.mpr hy
      have h' : (r.map fun (n, k) => if (k == NameKind.free && X.env.scope.kind == .function && X.env.kindOf n == some .cell) then (n, NameKind.cell) else (n, k)).lookup y = some k := by
        split at h <;> simpa only [List.lookup_cons, hb] using h
      exact List.mem_cons_of_mem _ (relabel_free (X := X) h' hk hcr)
theorem relabel_kind {X : Cx} : ∀ {names : List (Str × NameKind)} {y : Str}, (y, NameKind.free) ∈ names → (∀ z ∈ names, z.1 = y → z.2 = .free) → ∃ k, (k = NameKind.cell ∨ k = .free) ∧
    (names.map fun (n, k) => if (k == NameKind.free && X.env.scope.kind == .function && X.env.kindOf n == some .cell) then (n, NameKind.cell) else (n, k)).lookup y = some k
  | [], _, h, _ => nomatch h
  | (n, k0) :: r, y, h, hu => by
    rw [List.map_cons]
    dsimp only
    by_cases hy : y = n
    · subst hy
      have : k0 = .free := hu (y, k0) List.mem_cons_self rfl
      subst this
      split
      · exact ⟨.cell, .inl rfl, by simp⟩
      · exact ⟨.free, .inr rfl, by simp⟩
    · have hb : (y == n) = false := beq_eq_false_iff_ne.mpr hy
      have hm : (y, NameKind.free) ∈ r := by
        rcases List.mem_cons.mp h with e | h
        · cases e; exact absurd rfl hy
        · exact h
      obtain ⟨k, hk, e⟩ := relabel_kind (X := X) hm fun z hz => hu z (List.mem_cons_of_mem _ hz)
      refine ⟨k, hk, ?_⟩
      split <;> simpa only [List.lookup_cons, hb] using e
theorem inv_blk {pins : List (Addr × Obj)} {σ : St} {H : Hp} {s : Shared} {fp : List Addr} {h1 : Heap} {m : Str → Option Value} {t' : Nat} (B : BlkOk X scope N' cap)
    (I : Inv X pins σ H s) (hf : ∀ b ∈ fp, FpOk X pins H b) (ho : ∀ b ∈ fp, ∃ o, s.heap.get? b = some o) (keep : ∀ b o, s.heap.get? b = some o → h1.get? b = some o) (hns : h1.Ns s.heap.objs.size m) :
    Inv (X.blk scope s.heap.objs.size N' s H fp) [] (tau σ cap) H { s with heap := h1, toks := t' } := by
  have I1 : Inv X pins σ H { s with heap := h1, toks := t' } := I.kept keep
  have csub : ∀ y c, (closOf X.env.cells scope.names []).lookup y = some c → X.env.cells.lookup y = some c := fun y c h => closOf_sub h fun c' hc' => by simp at hc'
  refine ⟨⟨I.ok.mod, B.kind, I.ok.glob, I.ok.blt, Nat.le_refl _, fun y z c e1 e2 => I.ok.inj y z c (csub y c e1) (csub z c e2), fun y hy => ?_, fun y c e _ => absurd e (by simp), I.ok.hd, I.ok.frames, .inl rfl, fun b hb => ⟨?_, fun y c e => (hf b hb).2.2.2.2.1 y c (csub y c e)⟩, fun b o e => I.bs b o e, Nat.le_trans I.ok.bsz I.sz, fun b o e hb => ?_, fun b hb hs => ?_, I.stack, I.stkFree⟩,
    rfl, I.bare, Un.kept keep, ⟨m, hns, fun j y v e1 e2 e3 => ?_⟩, fun y c e => I1.cell y c (csub y c e), I.hok.fresh (Nat.le_refl _), fun y c e => (I.freeC y c (csub y c e)).imp id fun z => ⟨rfl, z.2⟩, fun p hp => absurd hp (by simp), I1.hok, ?_⟩
  · -- has
    have hy' : (y, NameKind.free) ∈ scope.names := by
      rcases hy with hy | hy
      · exact relabel_free (X := X) (k := .cell) hy (.inl rfl) B.ncell
      · exact relabel_free (X := X) (k := .free) hy (.inr rfl) B.ncell
    exact closOf_has hy' (I.ok.has y (B.frees (y, .free) hy' rfl))
  · -- fp below the block's frame
    obtain ⟨o, e⟩ := ho b hb
    exact Nat.ne_of_lt (Heap.lt_size e)
  · -- base
    rcases (hf b hb).2.2.2.1 with z | z
    · exact I.ok.noex b o e z
    · exact absurd (Nat.lt_of_lt_of_le (Heap.lt_size e) (Nat.le_trans I.ok.bsz z)) (Nat.lt_irrefl _)
  · -- frames
    rcases List.mem_cons.mp (I.stkSub b hs) with z | z
    · exact (hf b hb).2.1 z
    · exact (hf b hb).2.2.1 z
  · -- captured values
    have hc : ∃ i, cap[j]? = some (some i) ∧ σ[i]? = some (some v) := by
      unfold tau at e2
      rw [List.getElem?_map] at e2
      cases e : cap[j]? with
      | none => rw [e] at e2; cases e2
      | some o =>
        rw [e] at e2
        cases o with
        | none => simp at e2
        | some i =>
          refine ⟨i, rfl, ?_⟩
          simp only [Option.map_some, Option.some.injEq] at e2
          cases q : σ[i]? with
          | none => rw [q] at e2; cases e2
          | some w =>
            rw [q] at e2
            have e2' : w = some v := e2
            rw [e2']
    obtain ⟨i, hi, hv⟩ := hc
    obtain ⟨hN, hfree⟩ := B.caps j i y hi e1
    obtain ⟨m1, _, hl⟩ := I1.loc
    obtain ⟨u, r, l⟩ := hl i y v hN hv (B.vis j i y hi e1)
    refine ⟨u, r, .inr ?_⟩
    obtain ⟨k, hk, ek⟩ := relabel_kind (X := X) hfree (B.un j i y hi e1)
    have hcell : ∃ c, X.env.cells.lookup y = some c ∧ h1.IsCell c (some u) := by
      rcases l with ⟨k1, _⟩ | ⟨_, c, e, z⟩
      · rcases B.frees (y, .free) hfree rfl with q | q
        · rw [show X.env.kindOf y = some NameKind.local from k1] at q; cases q
        · rw [show X.env.kindOf y = some NameKind.local from k1] at q; cases q
      · exact ⟨c, e, z⟩
    obtain ⟨c, ec, zc⟩ := hcell
    obtain ⟨c', ec'⟩ := closOf_has (cs := []) hfree ⟨c, ec⟩
    have : c' = c := by have := csub y c' ec'; rw [ec] at this; cases this; rfl
    subst this
    refine ⟨?_, c', ec', zc⟩
    rcases hk with rfl | rfl
    · exact .inl ek
    · exact .inr ek
  · show (tau σ cap).length = N'.length
    unfold tau
    rw [List.length_map]; exact B.len
theorem comp_core {RR : Value → Addr → Result → Shared → Prop} {pins : List (Addr × Obj)} {σ : St} {H2 : Hp} {s2 : Shared} {it : Addr} {fp : List Addr} {tn : Nat → Heap → Prop} {J : It} {Q : VK} (B : BlkOk X scope N' cap) (hc : X.calm = true)
    (hg : ∀ C s₀ H₀ fp, PG (X.blk scope C N' s₀ H₀ fp) tg g) (ht : ∀ C s₀ H₀ fp, PIfs (X.blk scope C N' s₀ H₀ fp) ifs tt) (he : ∀ C s₀ H₀ fp, PE (X.blk scope C N' s₀ H₀ fp) elt te)
    (I2 : Inv X pins σ H2 s2) (T : Turn X.prog X.w X.K tg J fp it tn) (st2 : tn 0 s2.heap) (f2 : ∀ b ∈ fp, FpOk X pins H2 b)
    (hcont : ∀ l, H2 l = none → ∃ W : Nat → Nat → St → Hp → Prop, (∃ m, W 0 m (tau σ cap) (upd H2 l (.lst []))) ∧ ∀ i m τ H2, W i m τ H2 →
      (J.stop i H2 ∧ Q (.ref l) H2) ∨ (J.go i H2 ∧ ∃ N : St → Hp → Prop, (∀ τ' H', N τ' H' → ∃ m', m' < m ∧ W (i + 1) m' τ' H') ∧
        ∀ x H', J.yld i H2 x H' → g x τ H' fun τ2 H3 => tt τ2 H3 fun b H4 => if b = true then te τ2 H4 fun y H5 => ∃ ys, H5 l = some (.lst ys) ∧ ys.length < sizeLine ∧ N τ2 (upd H5 l (.lst (ys ++ [y]))) else N τ2 H4))
    (fin : ∀ (D C : Addr) (o : Obj) (m : Str → Option Value) (H5 : Hp) (s5 : Shared), Inv X pins σ H5 s5 → FpOk X pins H5 C → s5.heap.get? C = some o → (∀ v, o.data ≠ .cell v) → s5.heap.Ns C m → Q (.ref D) H5 → RR (.ref D) C (.ok .next) s5) :
    wpAny (model X.prog X.w) X.A (newList []) (fun acc s₃ => wpAny (model X.prog X.w) X.A (newFunctionEnv scope X.env.globals (closOf X.env.cells scope.names []) [] X.env.qual none .none (some X.env)) (fun cenv s₄ =>
      codeAny (model X.prog X.w) X.A (.compStart (.ListComp elt [⟨tg, iter, ifs, 0⟩] scope pos) 0 (.ref it) acc { cenv with scope := relabel scope X.env }) (RR acc cenv.locals) s₄) X.xe s₃) X.xe s2 := by
  refine wpAny_newObj_type (wpAny_newFunctionEnv B.ncell (by intro y hy; simp at hy) (fun h₁ hns₁ hsb₁ => ?_) B.kind)
  dsimp only at hns₁ hsb₁ ⊢
  have I3 : Inv X pins σ (upd H2 s2.heap.objs.size (.lst [])) { s2 with heap := s2.heap.push { cls := .type "list", dict := none, data := .seq ([] : List Value).toArray } } := I2.lnew (t' := s2.toks) (its := []) (ys := []) .nil (Nat.zero_le _)
  have hD : H2 s2.heap.objs.size = none := I2.fresh
  have hfpD : ∀ b ∈ fp, b ≠ s2.heap.objs.size := fun b hb => by
    obtain ⟨o, e, _⟩ := T.obj 0 _ st2 b hb
    exact Nat.ne_of_lt (Heap.lt_size e)
  have f3 : ∀ b ∈ fp, FpOk X pins (upd H2 s2.heap.objs.size (.lst [])) b := fun b hb => ⟨by rw [upd_ne (hfpD b hb)]; exact (f2 b hb).1, (f2 b hb).2⟩
  obtain ⟨W, ⟨m0, w0⟩, turn⟩ := hcont s2.heap.objs.size hD
  generalize hs3 : ({ s2 with heap := s2.heap.push { cls := .type "list", dict := none, data := .seq ([] : List Value).toArray } } : Shared) = s3 at I3
  have hh3 : s3.heap = s2.heap.push { cls := .type "list", dict := none, data := .seq ([] : List Value).toArray } := by rw [← hs3]
  have keep : ∀ b o, s3.heap.get? b = some o → h₁.get? b = some o := fun b o e => by
    have hlt := Heap.lt_size e
    rw [hh3] at e hlt
    exact hsb₁.extBut b o (Nat.ne_of_lt hlt) (Heap.get?_push_of_some _ e)
  have ho3 : ∀ b ∈ fp, ∃ o, s3.heap.get? b = some o := fun b hb => by
    obtain ⟨o, e, _⟩ := T.obj 0 _ st2 b hb
    exact ⟨o, by rw [hh3]; exact Heap.get?_push_of_some _ e⟩
  have hsz3 : s3.heap.objs.size = (s2.heap.push { cls := .type "list", dict := none, data := .seq ([] : List Value).toArray }).objs.size := by rw [hh3]
  rw [← hsz3] at hns₁ ⊢
  have J0 : Inv (X.blk scope s3.heap.objs.size N' s3 (upd H2 s2.heap.objs.size (.lst [])) fp) [] (tau σ cap) (upd H2 s2.heap.objs.size (.lst [])) { s3 with heap := h₁, toks := s3.toks } := inv_blk (t' := s3.toks) B I3 f3 ho3 keep hns₁
  have tn0 : tn 0 h₁ := T.keep 0 s2.heap h₁ st2 fun b hb o e => keep b o (by rw [hh3]; exact Heap.get?_push_of_some _ e)
  have es : ({ s2 with heap := h₁, toks := s2.toks + ([] : List (Str × Value)).length } : Shared) = { s3 with heap := h₁, toks := s3.toks } := by
    rw [← hs3]; rfl
  have keep5 : ∀ {s5 : Shared} {H5 : Hp} {τ5 : St}, Inv (X.blk scope s3.heap.objs.size N' s3 (upd H2 s2.heap.objs.size (.lst [])) fp) [] τ5 H5 s5 → Inv X pins σ H5 s5 := fun {s5 H5 τ5} J5 =>
    I3.call' (ch := fp) J5.os J5.base J5.hok J5.bare fun b hb => ⟨(f3 b hb).2.2.2.1, (f3 b hb).2.1, (f3 b hb).2.2.2.2.1, (f3 b hb).2.2.2.2.2⟩
  have fok : ∀ {H' : Hp}, (∀ b ∈ fp, H' b = none) → ∀ b ∈ fp, FpOk (X.blk scope s3.heap.objs.size N' s3 (upd H2 s2.heap.objs.size (.lst [])) fp) [] H' b := fun {H'} hn b hb =>
    ⟨hn b hb, (J0.ok.exf b hb).1, J0.ok.exfs b hb, .inl hb, (J0.ok.exf b hb).2, fun p hp => absurd hp (by simp)⟩
  have loop : codeAny (model X.prog X.w) X.A (.compLoop (.ListComp elt [⟨tg, iter, ifs, 0⟩] scope pos) 0 (.ref it) (.ref s2.heap.objs.size) (compEnvC scope (closOf X.env.cells scope.names []) s3.heap.objs.size X.env))
      (RR (.ref s2.heap.objs.size) s3.heap.objs.size) { s3 with heap := h₁, toks := s3.toks } := by
    refine compLoop_own (fun n s' => ∃ i τ H', Inv (X.blk scope s3.heap.objs.size N' s3 (upd H2 s2.heap.objs.size (.lst [])) fp) [] τ H' s' ∧ tn i s'.heap ∧ (∀ b ∈ fp, H' b = none) ∧ W i n τ H') ?_ m0 ⟨0, _, _, J0, tn0, fun b hb => (f3 b hb).1, w0⟩
    rintro n s4 ⟨i, τ, H4, J4, st4, fr4, w4⟩
    rcases turn i n τ H4 w4 with ⟨stop, q⟩ | ⟨go, N, hN, step⟩
    · refine wpAny_mono (T.done (X.blk scope s3.heap.objs.size N' s3 (upd H2 s2.heap.objs.size (.lst [])) fp) rfl rfl rfl hc i [] s4 τ H4 (fun _ _ => False) J4 (fok fr4) st4 stop) (fun r s5 ⟨hr, J5⟩ => ?_) (fun _ _ f => f)
      subst hr
      obtain ⟨m5, hn5, _⟩ := J5.loc
      have I5 : Inv X pins σ H4 s5 := keep5 J5
      obtain ⟨o5, es5, ep5, ho5, hd5, _⟩ := id hn5
      refine fin _ _ o5 m5 H4 s5 I5 ⟨J5.free, fun e => ?_, I3.nofs (Nat.le_refl _), .inr I3.sz, fun y c e z => ?_, fun p hp z => ?_⟩ ho5 (fun v e => ?_) hn5 q
      · have := I3.lt
        rw [← e] at this
        exact Nat.lt_irrefl _ this
      · obtain ⟨v, o, hoc, _⟩ := I3.cell y c e
        have := Heap.lt_size hoc
        rw [z] at this
        exact Nat.lt_irrefl _ this
      · have := Heap.lt_size (I3.pin p hp).1
        rw [z] at this
        exact Nat.lt_irrefl _ this
      · rw [hd5] at e; cases e
    · refine wpAny_mono (T.item (X.blk scope s3.heap.objs.size N' s3 (upd H2 s2.heap.objs.size (.lst [])) fp) rfl rfl rfl hc i [] s4 τ H4 (fun _ _ => False) J4 (fok fr4) st4 go) (fun r s5 ⟨u, hr, h5⟩ => ?_) (fun _ _ f => f)
      subst hr
      refine wpAny_mono h5 (fun _ s6 ⟨xv, H6, J6, r6, y6, st6, fr6⟩ => ?_) (fun _ _ f => f)
      have J6' := J6.pinned (fok fr6) (T.obj _ _ st6)
      have again : ∀ {s7 : Shared} {τ7 : St} {H7 : Hp}, Inv (X.blk scope s3.heap.objs.size N' s3 (upd H2 s2.heap.objs.size (.lst [])) fp) ([] ++ pinsAt fp s6.heap) τ7 H7 s7 → N τ7 H7 → ∃ m, m < n ∧ ∃ i τ H', Inv (X.blk scope s3.heap.objs.size N' s3 (upd H2 s2.heap.objs.size (.lst [])) fp) [] τ H' s7 ∧ tn i s7.heap ∧ (∀ b ∈ fp, H' b = none) ∧ W i m τ H' := fun {s7 τ7 H7} J7 n7 => by
        obtain ⟨m', hm, w7⟩ := hN τ7 H7 n7
        refine ⟨m', hm, i + 1, τ7, H7, J7.unpinned, T.keep _ _ _ st6 fun b hb o e => (J7.pin (b, o) (List.mem_append_right _ (List.mem_append_right _ (mem_pinsAt hb e)))).1, fun b hb => ?_, w7⟩
        obtain ⟨o, e, d⟩ := T.obj _ _ st6 b hb
        exact (J7.pin (b, o) (List.mem_append_right _ (List.mem_append_right _ (mem_pinsAt hb e)))).2.1
      refine wpAny_mono (hg s3.heap.objs.size s3 (upd H2 s2.heap.objs.size (.lst [])) fp _ s6 τ H6 xv u _ J6' r6 (step xv H6 y6)) (fun _ s7 ⟨τ7, H7, J7, q7⟩ => ?_) (fun _ _ f => f)
      refine wpAny_mono (ht s3.heap.objs.size s3 (upd H2 s2.heap.objs.size (.lst [])) fp _ s7 τ7 H7 _ J7 q7) (fun ok s8 ⟨H8, J8, q8⟩ => ?_) (fun _ _ f => f)
      cases ok with
      | false =>
        rw [if_neg (by decide)] at q8 ⊢
        exact again J8 q8
      | true =>
        rw [if_pos rfl] at q8 ⊢
        refine wpAny_mono (he s3.heap.objs.size s3 (upd H2 s2.heap.objs.size (.lst [])) fp _ s8 τ7 H8 _ J8 q8) (fun yv s9 ⟨y, H9, J9, r9, q9⟩ => ?_) (fun _ _ f => f)
        obtain ⟨ys, hl, hz, n9⟩ := q9
        exact wpAny_mono (mt_append (X := X.blk scope s3.heap.objs.size N' s3 (upd H2 s2.heap.objs.size (.lst [])) fp) _ s9 τ7 H9 (.ref s2.heap.objs.size) [y] (.ref s2.heap.objs.size) [yv] (fun _ H' => N τ7 H') J9 rfl (.cons r9 .nil) ⟨_, ys, y, rfl, rfl, hl, hz, n9⟩) (fun _ s10 ⟨_, H10, J10, _, n10⟩ => again J10 n10) (fun _ _ f => f)
  rw [es]
  exact codeAny_compStart_list loop (T.self _ 0 _ _ _ tn0 loop)
theorem pe_comp (B : BlkOk X scope N' cap) (hc : X.calm = true)
    (hi : PI X tg iter wi) (hg : ∀ C s₀ H₀ fp, PG (X.blk scope C N' s₀ H₀ fp) tg g) (ht : ∀ C s₀ H₀ fp, PIfs (X.blk scope C N' s₀ H₀ fp) ifs tt) (he : ∀ C s₀ H₀ fp, PE (X.blk scope C N' s₀ H₀ fp) elt te)
    (hs : ∀ x, foldedSetIterable iter X.env x = pure x := by intro _; rfl) :
    PE X (.ListComp elt [⟨tg, iter, ifs, 0⟩] scope pos) (tComp wi cap g tt te) := by
  intro pins s σ H Q I h
  rw [eval_ListComp]
  refine wpAny_comprehension_free (use := none) rfl hs (closureFor_of fun y hy hf => I.ok.has y.1 (B.frees y hy hf)) B.kind B.names ?_
  refine thn (hi pins s σ H _ I h) fun v s1 h1 => thn h1 fun itv s2 h2 => ?_
  obtain ⟨it, fp, tn, J, H2, e, I2, T, st2, f2, hcont⟩ := h2
  subst e
  refine comp_core (RR := fun acc C => compPost (model X.prog X.w) X.A X.xe none (EP X pins σ Q) acc C) B hc hg ht he I2 T st2 f2 hcont fun D C o m H5 s5 I5 f5 ho hd hn q => ?_
  refine ⟨m, hn, fun h' hs' => ?_⟩
  exact ⟨.ref D, H5, I5.turned (t' := s5.toks) (it := C) (fun b o hb e => hs'.extBut b o hb e) f5.1 (fun e => f5.2.1 e) f5.2.2.2.1 f5.2.2.2.2.1 f5.2.2.2.2.2, rfl, q⟩
theorem ps_comp {i : Nat} {y : Str} {py spos : Pos} (B : BlkOk X scope N' cap) (hc : X.calm = true)
    (hi : PI X tg iter wi) (hg : ∀ C s₀ H₀ fp, PG (X.blk scope C N' s₀ H₀ fp) tg g) (ht : ∀ C s₀ H₀ fp, PIfs (X.blk scope C N' s₀ H₀ fp) ifs tt) (he : ∀ C s₀ H₀ fp, PE (X.blk scope C N' s₀ H₀ fp) elt te)
    (hN : X.N.Nodup) (hiy : X.N[i]? = some y) (hy : Loc X.env.scope y) (hsw : swapsWith (.ListComp elt [⟨tg, iter, ifs, 0⟩] scope pos) (some (.Name y py)) spos.line X.env = pure true)
    (hf : X.fn y = true ∨ X.env.scope.names.lookup y = some .local := by first | exact .inl rfl | exact .inr rfl | assumption)
    (hs : ∀ x, foldedSetIterable iter X.env x = pure x := by intro _; rfl) :
    PS X (.Assign [.Name y py] (.ListComp elt [⟨tg, iter, ifs, 0⟩] scope pos) spos) (tAsg (tComp wi cap g tt te) (gName i)) := by
  intro pins s σ H D I h
  rw [exec_Assign_Name_used _ _ _ _ hsw]
  refine wpAny_bind (wpAny_standAt (wpAny_bind ?_))
  show wpAny _ X.A (do let _ ← comprehension (.ListComp elt [⟨tg, iter, ifs, 0⟩] scope pos) scope X.env _ (newList []) false (eval iter X.env) (some (assign (.Name y py) X.env))) _ _ s
  refine wpAny_bind (wpAny_mono (wpAny_comprehension_free (use := some (assign (.Name y py) X.env)) (Q := fun _ s' => SP X pins D .next s') rfl hs (closureFor_of fun y hy hf => I.ok.has y.1 (B.frees y hy hf)) B.kind B.names
    (thn (hi pins s σ H _ I h) fun v s1 h1 => thn h1 fun itv s2 h2 => ?_)) (fun _ s' hq => wpAny_pure (wpAny_pure hq)) fun _ _ e => e)
  obtain ⟨it, fp, tn, J, H2, e, I2, T, st2, f2, hcont⟩ := h2
  subst e
  refine comp_core (Q := fun v H' => gName i v σ H' D.nx) (RR := fun acc C => compPost (model X.prog X.w) X.A X.xe (some (assign (.Name y py) X.env)) (fun _ s' => SP X pins D .next s') acc C) B hc hg ht he I2 T st2 f2 hcont fun D' C o m H5 s5 I5 f5 ho hd hn q => ?_
  show wpAny _ X.A (assign (.Name y py) X.env (.ref D')) _ _ _
  have I5' : Inv X (pins ++ [(C, o)]) σ H5 s5 := I5.pins_of fun p hp => by
    rcases List.mem_append.mp hp with z | z
    · exact I5.pin p (List.mem_append_right _ z)
    · have : p = (C, o) := by simpa using z
      subst this
      exact ⟨ho, f5.1, f5.2.1, f5.2.2.1, hd⟩
  refine thn (pg_name (pos := py) hN hiy hy hf (pins ++ [(C, o)]) s5 σ H5 (.ref D') (.ref D') _ I5' rfl q) fun _ s6 ⟨σ6, H6, I6, q6⟩ => ?_
  obtain ⟨e6, n6, _⟩ := I6.pin (C, o) (List.mem_append_right _ (List.mem_append_right _ List.mem_cons_self))
  have hn6 : s6.heap.Ns C m := by
    obtain ⟨o', es, ep, q1, r⟩ := hn
    rw [ho] at q1; cases q1
    exact ⟨o, es, ep, e6, r⟩
  refine ⟨m, hn6, fun h' hs' => ⟨σ6, H6, I6.unpinned.turned (t' := s6.toks) (it := C) (fun b o hb e => hs'.extBut b o hb e) n6 f5.2.1 f5.2.2.2.1 f5.2.2.2.2.1 f5.2.2.2.2.2, q6⟩⟩
end
end L2
namespace L2
open PySem PySem.Spec PyProof.Rows
end L2
namespace L2
open PySem PySem.Spec PyProof.Rows
end L2
namespace L2
open PySem PySem.Spec PyProof.Rows
mutual
inductive RdV (K : PySem.W.Frag) (H : Hp) : V → PyData → Prop
  | non : RdV K H .non .none
  | bl (b : Bool) : RdV K H (.bl b) (.bool b)
  | int (i : Int) : RdV K H (.int i) (.int i)
  | str (x : Str) : RdV K H (.str x) (.str x)
  | tup {p : Addr} {xs : List V} {ds : List PyData} : SqT K H p xs → RdA K H xs ds → RdV K H (.ref p) (.tuple ds)
  | lst {p : Addr} {xs : List V} {ds : List PyData} : SqL K H p xs → RdA K H xs ds → RdV K H (.ref p) (.list ds)
inductive RdA (K : PySem.W.Frag) (H : Hp) : List V → List PyData → Prop
  | nil : RdA K H [] []
  | cons {x : V} {xs : List V} {d : PyData} {ds : List PyData} : RdV K H x d → RdA K H xs ds → RdA K H (x :: xs) (d :: ds)
end
section
variable {X : Cx} {pins : List (Addr × Obj)} {σ : St} {H : Hp} {s : Shared}
mutual
theorem RdV.reads (I : Inv X pins σ H s) : ∀ {x : V} {d : PyData}, RdV X.K H x d → ∀ {v : Value}, RelV x v → ∃ as, Reads s.heap v d as
  | _, _, .non, v, r => by cases (show v = Value.none from r); exact ⟨_, .none⟩
  | _, _, .bl b, v, r => by cases (show v = Value.bool b from r); exact ⟨_, .bool b⟩
  | _, _, .int i, v, r => by
    obtain ⟨t, e⟩ := (show ∃ t, v = Value.int i t from r)
    cases e
    exact ⟨_, .int i t⟩
  | _, _, .str x, v, r => by
    obtain ⟨t, e⟩ := (show ∃ t, v = Value.str x t from r)
    cases e
    exact ⟨_, .str x t⟩
  | _, _, .tup (p := p) h a, v, r => by
    cases (show v = Value.ref p from r)
    obtain ⟨its, hv, ⟨o, ho, hc, n, hd⟩, _⟩ := I.tuple h
    obtain ⟨as, ra⟩ := RdA.reads I a hv
    exact ⟨as, .tuple ho hc hd (by simpa using ra)⟩
  | _, _, .lst (p := p) h a, v, r => by
    cases (show v = Value.ref p from r)
    obtain ⟨its, hv, pl, _⟩ := I.list h
    obtain ⟨o, ho, hc, n, hd⟩ := pl.isList
    obtain ⟨as, ra⟩ := RdA.reads I a hv
    exact ⟨_, .list ho hc hd (by simpa using ra)⟩
theorem RdA.reads (I : Inv X pins σ H s) : ∀ {xs : List V} {ds : List PyData}, RdA X.K H xs ds → ∀ {us : List Value}, Vals xs us → ∃ as, ReadsAll s.heap us ds as
  | _, _, .nil, _, .nil => ⟨_, .nil⟩
  | _, _, .cons h a, _, .cons r t => by
    obtain ⟨as, ra⟩ := RdV.reads I h r
    obtain ⟨bs, rb⟩ := RdA.reads I a t
    exact ⟨_, .cons ra rb⟩
end
end
def rEqD (K : PySem.W.Frag) (neg : Bool) : R2 := fun x y H Q => ∃ d e, RdV K H x d ∧ RdV K H y e ∧ SeqAt.shaped d = true ∧ SeqAt.shaped e = true ∧ Q (.bl (if neg then !PyData.eqv d e else PyData.eqv d e)) H
section
variable {X : Cx}
theorem op_eqD (hu : X.A.units + 64 < cLine) : OpR X (compareOp .Eq) (rEqD X.K false) := by
  intro pins s σ H x y v u Q I rx ry h
  obtain ⟨d, e, h1, h2, s1, s2, q⟩ := h
  obtain ⟨as, ra⟩ := h1.reads I rx
  obtain ⟨bs, rb⟩ := h2.reads I ry
  exact eq_dataH ra rb s1 s2 hu ⟨.bl (PyData.eqv d e), H, I, rfl, q⟩
theorem op_neD (hu : X.A.units + 64 < cLine) : OpR X (compareOp .NotEq) (rEqD X.K true) := by
  intro pins s σ H x y v u Q I rx ry h
  obtain ⟨d, e, h1, h2, s1, s2, q⟩ := h
  obtain ⟨as, ra⟩ := h1.reads I rx
  obtain ⟨bs, rb⟩ := h2.reads I ry
  exact ne_dataH ra rb s1 s2 hu ⟨.bl (!PyData.eqv d e), H, I, rfl, q⟩
end
section
variable {X : Cx}
end
end L2
namespace L2
open PySem PySem.W PySem.Spec
abbrev vE : List Value := [.type "ValueError", .type "Exception", .type "BaseException", .type "object"]
structure XK0 (K : Frag) (C S : Addr) (cd : ClassData) : Prop where
  cls : clsIn K C = some cd
  mro : cd.mro = .ref C :: .ref S :: vE
  dct : cd.hasDict = true
  ty : typeIn K (.ref C) = some (.type "type")
  sa : findIn K (.ref C) "__setattr__" = some (some (.builtin "object.__setattr__"))
  ga : findIn K (.ref C) "__getattribute__" = some (some (.builtin "BaseException.__getattribute__"))
  gt : findIn K (.ref C) "__getattr__" = some none
  cl : findIn K (.ref C) "__class__" = some (some (.builtin "object.__class__"))
def xm (a : Addr) (o : Obj) : HO := .ext fun h => h.get? a = some o
def xh (a : Addr) (o : Obj) : HO := .frz o (xm a o)
abbrev xo (C : Addr) (d : Option Addr) (vs : Array Value) (sl : Array (Option Value)) : Obj := ⟨.ref C, d, .fields vs, sl⟩
def XDct (H : Hp) : Option Addr → Option Obj → Prop
  | some dx, some od => H dx = some (xh dx od)
  | none, none => True
  | _, _ => False
structure XObj (K : Frag) (H : Hp) (a C S : Addr) (vs : List (Key × V)) : Prop where
  ex : ∃ (cd : ClassData) (d : Option Addr) (vs0 : Array Value) (sl : Array (Option Value)) (odo : Option Obj), XK0 K C S cd ∧ H a = some (xh a (xo C d vs0 sl)) ∧ XDct H d odo ∧
    ∀ (f : Str) (v : V), (Sum.inr f, v) ∈ vs → findIn K (.ref C) f = some none ∧ ∃ od u, odo = some od ∧ lookIn f od = some (some u) ∧ RelV v u
theorem XObj.up {K : Frag} {H H' : Hp} {a C S : Addr} {vs : List (Key × V)} (h : XObj K H a C S vs) (fz : ∀ p o x, H p = some (.frz o x) → H' p = some (.frz o x)) : XObj K H' a C S vs := by
  obtain ⟨cd, d, vs0, sl, odo, h1, h2, h3, h4⟩ := h.ex
  refine ⟨cd, d, vs0, sl, odo, h1, fz _ _ _ h2, ?_, h4⟩
  cases d with
  | none =>
    cases odo with
    | none => exact True.intro
    | some od => exact h3
  | some dx =>
    cases odo with
    | none => exact h3
    | some od => exact fz _ _ _ h3
end L2
namespace Qm
open PySem
structure LamT where
  params : Arguments
  body : Expr
  scope : Scope
  qual : Str
  code : Nat
  pos : Pos
  free : List Str
end Qm
namespace L2
open PySem PySem.W PySem.Spec PyProof.Rows
structure LamO (H : Hp) (a : Addr) (t : Qm.LamT) (vs : List V) : Prop where
  ex : ∃ (clos : List (Str × Addr)) (pm ctv : Value) (c' : Addr) (oc : Obj) (fs : Array Value) (tk : Tok), H a = some (xh a (kla_obj "<lambda>" t.qual t.params t.body t.scope clos pm c' ctv)) ∧
    H c' = some (xh c' oc) ∧ oc.data = .fields fs ∧ fs[1]? = some (.str t.qual tk) ∧ (∀ x y c, clos.lookup x = some c → clos.lookup y = some c → x = y) ∧
    (∀ x c, clos.lookup x = some c → x ∈ t.free) ∧ vs.length = t.free.length ∧
    ∀ (i : Nat) (x : Str) (v : V), t.free[i]? = some x → vs[i]? = some v → ∃ c o u u0, clos.lookup x = some c ∧ H c = some (.frz o u0) ∧ o.data = .cell (some u) ∧ RelV v u
theorem LamO.up {H H' : Hp} {a : Addr} {t : Qm.LamT} {vs : List V} (h : LamO H a t vs) (fz : ∀ p o x, H p = some (.frz o x) → H' p = some (.frz o x)) : LamO H' a t vs := by
  obtain ⟨clos, pm, ctv, c', oc, fs, tk, h1, h2, h3, h4, h5, h6, h7, h8⟩ := h.ex
  refine ⟨clos, pm, ctv, c', oc, fs, tk, fz _ _ _ h1, fz _ _ _ h2, h3, h4, h5, h6, h7, fun i x v e1 e2 => ?_⟩
  obtain ⟨c, o, u, u0, g1, g2, g3⟩ := h8 i x v e1 e2
  exact ⟨c, o, u, u0, g1, fz _ _ _ g2, g3⟩
structure TabO (K : Frag) (H : Hp) (cd : Addr) (q : Str) (P : Addr) : Prop where
  hd : codeHdIn K cd P = true
  ex : ∃ ps : Array Value, H P = some (.tbl ps) ∧ TriplesOk ps.toList ∧ ∀ pos cv, codeAmong pos ps.toList = some cv → ∃ c' oc fs tk, cv = .ref c' ∧ H c' = some (xh c' oc) ∧ oc.data = .fields fs ∧ fs[1]? = some (.str q tk)
theorem TabO.up {K : Frag} {H H' : Hp} {cd P : Addr} {q : Str} (h : TabO K H cd q P) (fz : ∀ p o x, H p = some (.frz o x) → H' p = some (.frz o x)) (hs : ∀ o, H P = some o → H' P = some o) : TabO K H' cd q P := by
  obtain ⟨ps, h1, h2, h3⟩ := h.ex
  refine ⟨h.hd, ps, hs _ h1, h2, fun pos cv e => ?_⟩
  obtain ⟨c', oc, fs, tk, g1, g2, g3⟩ := h3 pos cv e
  exact ⟨c', oc, fs, tk, g1, fz _ _ _ g2, g3⟩
end L2
namespace Qm
open PySem
noncomputable section
inductive D where
  | non | bl (b : Bool) | int (i : Int) | str (x : Str) | tup (xs : List D) | ref (n : Nat) | ty (n : String) | adr (a : Nat) | clo (t : LamT) (bs : List D)
inductive Cell where
  | lst (xs : List D)
  | ro (xs : List D)
  | dct (ps : List (Str × D))
  | dro (ps : List (Str × D))
  | dt1 (ps : List (List Int × D))
  | dt2 (ps : List (List (List Int) × D))
  | dt2r (ps : List (List (List Int) × D))
  | exc (C S : Nat) (fs : List (Str × D))
  | tab (cd : Nat) (q : Str)
def Cell.mt : Cell → Bool
  | .ro _ => false
  | .dro _ => false
  | .dt2r _ => false
  | .exc _ _ _ => false
  | _ => true
abbrev Cells := List Cell
abbrev Env := List (Option D)
abbrev XE := Env → Cells → Option (D × Cells)
abbrev XA := Env → Cells → Option (List D × Cells)
abbrev XT := Env → Cells → Option (Bool × Cells)
abbrev XO := Env → Cells → Option (Option Int × Cells)
inductive Fl where
  | nx | rt (d : D) | bk | ct
abbrev XS := Env → Cells → Option (Fl × Env × Cells)
abbrev XG := D → Env → Cells → Option (Env × Cells)
abbrev XGs := List D → Env → Cells → Option (Env × Cells)
abbrev FN := List D → Cells → Option (D × Cells)
structure Itm where
  ds : List D
  ks : List (Nat × Cell)
abbrev XI := Env → Cells → Option (Itm × Cells)
abbrev G1 := D → Cells → Option (D × Cells)
abbrev G2 := D → D → Cells → Option (D × Cells)
def LINE : Nat := Classical.choose (⟨10000000, rfl⟩ : ∃ n : Nat, n = 10000000)
theorem LINE_eq : LINE = 10000000 := Classical.choose_spec (⟨10000000, rfl⟩ : ∃ n : Nat, n = 10000000)
def eC (d : D) : XE := fun _ c => some (d, c)
def eV (i : Nat) : XE := fun σ c => (σ[i]?.join).bind fun d => some (d, c)
def e1 (g : G1) (a : XE) : XE := fun σ c => (a σ c).bind fun p => g p.1 p.2
def e2 (g : G2) (a b : XE) : XE := fun σ c => (a σ c).bind fun p => (b σ p.2).bind fun q => g p.1 q.1 q.2
def asB (d : D) : Option Bool := match d with
  | .bl b => some b
  | _ => none
def eAnd (a b : XE) : XE := fun σ c => (a σ c).bind fun p => (asB p.1).bind fun k => if k = true then b σ p.2 else some (.bl false, p.2)
def eOr (a b : XE) : XE := fun σ c => (a σ c).bind fun p => (asB p.1).bind fun k => if k = true then some (.bl true, p.2) else b σ p.2
def eNot (a : XE) : XE := fun σ c => (a σ c).bind fun p => (asB p.1).bind fun k => some (.bl (!k), p.2)
def eIf (t : XT) (a b : XE) : XE := fun σ c => (t σ c).bind fun p => if p.1 = true then a σ p.2 else b σ p.2
def aNil : XA := fun _ c => some ([], c)
def aCons (a : XE) (r : XA) : XA := fun σ c => (a σ c).bind fun p => (r σ p.2).bind fun q => some (p.1 :: q.1, q.2)
def eTup (a : XA) : XE := fun σ c => (a σ c).bind fun p => if p.1.length ≤ LINE then some (.tup p.1, p.2) else none
def eLst (a : XA) : XE := fun σ c => (a σ c).bind fun p => if p.1.length ≤ LINE then some (.ref p.2.length, p.2 ++ [.lst p.1]) else none
def eCall (F : FN) (ds : List D) (a : XA) : XE := fun σ c => (a σ c).bind fun p => F (p.1 ++ ds) p.2
def eB (F : FN) (a : XA) : XE := fun σ c => (a σ c).bind fun p => F p.1 p.2
def oNone : XO := fun _ c => some (none, c)
def oSome (a : XE) : XO := fun σ c => (a σ c).bind fun p => match p.1 with
  | .int i => some (some i, p.2)
  | _ => none
def eSl (g : D → Option Int → Option Int → Cells → Option (D × Cells)) (a : XE) (lo hi : XO) : XE := fun σ c => (a σ c).bind fun p => (lo σ p.2).bind fun l => (hi σ l.2).bind fun h => g p.1 l.1 h.1 h.2
def eChain (g h : G2) (a b d : XE) : XE := fun σ c => (a σ c).bind fun p => (b σ p.2).bind fun q => (g p.1 q.1 q.2).bind fun z => (asB z.1).bind fun k =>
  if k = true then (d σ z.2).bind fun u => h q.1 u.1 u.2 else some (.bl false, z.2)
def tV (a : XE) : XT := fun σ c => (a σ c).bind fun p => (asB p.1).bind fun k => some (k, p.2)
def tAnd (a b : XT) : XT := fun σ c => (a σ c).bind fun p => if p.1 = true then b σ p.2 else some (false, p.2)
def tOr (a b : XT) : XT := fun σ c => (a σ c).bind fun p => if p.1 = true then some (true, p.2) else b σ p.2
def tNot (a : XT) : XT := fun σ c => (a σ c).bind fun p => some (!p.1, p.2)
def sNil : XS := fun σ c => some (.nx, σ, c)
def sSeq (a b : XS) : XS := fun σ c => (a σ c).bind fun p => match p.1 with
  | .nx => b p.2.1 p.2.2
  | _ => some p
def sSet (i : Nat) (e : XE) : XS := fun σ c => (e σ c).bind fun p => some (.nx, σ.set i (some p.1), p.2)
def sAsg (e : XE) (g : XG) : XS := fun σ c => (e σ c).bind fun p => (g p.1 σ p.2).bind fun q => some (.nx, q.1, q.2)
def sPar (is : List Nat) (a : XA) : XS := fun σ c => (a σ c).bind fun p => if p.1.length = is.length then some (.nx, (is.zip p.1).foldl (fun σ q => σ.set q.1 (some q.2)) σ, p.2) else none
def sIf (t : XT) (a b : XS) : XS := fun σ c => (t σ c).bind fun p => if p.1 = true then a σ p.2 else b σ p.2
def sRet (e : XE) : XS := fun σ c => (e σ c).bind fun p => some (.rt p.1, σ, p.2)
def sExpr (e : XE) : XS := fun σ c => (e σ c).bind fun p => some (.nx, σ, p.2)
def gName (i : Nat) : XG := fun d σ c => some (σ.set i (some d), c)
def gNil : XGs := fun ds σ c => match ds with
  | [] => some (σ, c)
  | _ => none
def gCons (g : XG) (r : XGs) : XGs := fun ds σ c => match ds with
  | d :: t => (g d σ c).bind fun p => r t p.1 p.2
  | [] => none
def gTup (n : Nat) (g : XGs) : XG := fun d σ c => match d with
  | .tup xs => if xs.length = n then g xs σ c else none
  | _ => none
def stays (ks : List (Nat × Cell)) (c : Cells) : Prop := ∀ p ∈ ks, c[p.1]? = some p.2
open Classical in
def forGo (ks : List (Nat × Cell)) (g : XG) (body : XS) : List D → XS
  | [], σ, c => if stays ks c then some (.nx, σ, c) else none
  | d :: r, σ, c => if stays ks c then (g d σ c).bind fun p => (body p.1 p.2).bind fun q => (match q.1 with
      | .nx => forGo ks g body r q.2.1 q.2.2
      | .ct => forGo ks g body r q.2.1 q.2.2
      | .bk => some (.nx, q.2.1, q.2.2)
      | .rt d => some (.rt d, q.2.1, q.2.2)) else none
def sFor (it : XI) (g : XG) (body : XS) : XS := fun σ c => (it σ c).bind fun p => forGo p.1.ks g body p.1.ds σ p.2
def whGo (t : XT) (b : XS) : Nat → XS
  | 0, _, _ => none
  | n + 1, σ, c => (t σ c).bind fun p => if p.1 = true then (b σ p.2).bind fun q => (match q.1 with
      | .nx => whGo t b n q.2.1 q.2.2
      | .ct => whGo t b n q.2.1 q.2.2
      | .bk => some (.nx, q.2.1, q.2.2)
      | .rt d => some (.rt d, q.2.1, q.2.2)) else some (.nx, σ, p.2)
open Classical in
def sWhile (t : XT) (b : XS) : XS := fun σ c => if h : ∃ n r, whGo t b n σ c = some r then whGo t b (Classical.choose h) σ c else none
def capt (σ : Env) (cap : List (Option Nat)) : Env := cap.map fun o => match o with
  | some i => (match σ[i]? with | some v => v | none => none)
  | none => none
open Classical in
def compGo (L : Nat) (ks : List (Nat × Cell)) (g : XG) (tt : XT) (te : XE) : List D → Env → Cells → Option Cells
  | [], _, c => if stays ks c then some c else none
  | d :: r, τ, c => if stays ks c then (g d τ c).bind fun p => (tt p.1 p.2).bind fun b => if b.1 = true then (te p.1 b.2).bind fun y =>
      (match y.2[L]? with
        | some (.lst ys) => if ys.length < LINE then compGo L ks g tt te r p.1 (y.2.set L (.lst (ys ++ [y.1]))) else none
        | _ => none) else compGo L ks g tt te r p.1 b.2 else none
def eComp (it : XI) (cap : List (Option Nat)) (g : XG) (tt : XT) (te : XE) : XE := fun σ c => (it σ c).bind fun p =>
  (compGo p.2.length p.1.ks g tt te p.1.ds (capt σ cap) (p.2 ++ [.lst []])).bind fun c' => some (.ref p.2.length, c')
def tYes : XT := fun _ c => some (true, c)
def mkF (n N : Nat) (b : XS) : FN := fun ds c => if ds.length = n then (b (ds.map some ++ List.replicate (N - n) none) c).bind fun p => (match p.1 with
  | .rt d => some (d, p.2.2)
  | .nx => some (.non, p.2.2)
  | _ => none) else none
def seqOf (d : D) (c : Cells) : Option (List D) := match d with
  | .tup xs => some xs
  | .ref n => (match c[n]? with
    | some (.lst xs) => some xs
    | some (.ro xs) => some xs
    | _ => none)
  | _ => none
def lstOf (d : D) (c : Cells) : Option (Nat × List D) := match d with
  | .ref n => (match c[n]? with
    | some (.lst xs) => some (n, xs)
    | _ => none)
  | _ => none
def asI (d : D) : Option Int := match d with
  | .int i => some i
  | _ => none
def ii (f : Int → Int → Option D) : G2 := fun x y c => (asI x).bind fun i => (asI y).bind fun j => (f i j).bind fun d => some (d, c)
def MulOk (i j : Int) : Prop := (My.Bd 90000 i ∧ My.Bd 90000 j) ∨ (My.Bd 64 i ∨ My.Bd 64 j)
open Classical in
def gMul : G2 := ii fun i j => if MulOk i j then some (.int (i * j)) else none
def gSub : G2 := ii fun i j => some (.int (i - j))
open Classical in
def gFdiv : G2 := ii fun i j => if j ≠ 0 ∧ My.Bd 8900 j then some (.int (i.fdiv j)) else none
def gMod : G2 := ii fun i j => if j ≠ 0 then some (.int (i.fmod j)) else none
def gPow : G2 := ii fun i j => if 0 ≤ j ∧ j ≤ 100 ∧ i.natAbs < 1000 then some (.int (i ^ j.toNat)) else none
def gLt : G2 := ii fun i j => some (.bl (decide (i < j)))
def gLe : G2 := ii fun i j => some (.bl (decide (i ≤ j)))
def gGt : G2 := ii fun i j => some (.bl (decide (j < i)))
def gGe : G2 := ii fun i j => some (.bl (decide (j ≤ i)))
def gAdd : G2 := fun x y c => match x, y with
  | .int i, .int j => some (.int (i + j), c)
  | .tup xs, .tup ys => if xs ≠ [] ∧ xs.length + ys.length ≤ LINE then some (.tup (xs ++ ys), c) else none
  | x, y => (lstOf x c).bind fun p => (lstOf y c).bind fun q => if p.2.length + q.2.length ≤ LINE then some (.ref c.length, c ++ [.lst (p.2 ++ q.2)]) else none
def gNeg : G1 := fun x c => (asI x).bind fun i => some (.int (-i), c)
def omap {α β : Type} (f : α → Option β) : List α → Option (List β)
  | [] => some []
  | x :: xs => (f x).bind fun d => (omap f xs).bind fun ds => some (d :: ds)
def data (c : Cells) : Nat → D → Option PyData
  | 0, _ => none
  | k + 1, d => match d with
    | .non => some .none
    | .int i => some (.int i)
    | .str x => if x.cps.all (· < 1114112) = true then some (.str x) else none
    | .tup xs => (omap (data c k) xs).bind fun ds => some (.tuple ds)
    | .ref n => (match c[n]? with
      | some (.lst xs) => (omap (data c k) xs).bind fun ds => some (.list ds)
      | some (.ro xs) => (omap (data c k) xs).bind fun ds => some (.list ds)
      | _ => none)
    | _ => none
open Classical in
def eqM (x y : D) (c : Cells) : Option Bool := match x, y with
  | .bl a, .bl b => some (a == b)
  | x, y => (data c 6 x).bind fun d => (data c 6 y).bind fun e => some (decide (d = e))
def gEq : G2 := fun x y c => (eqM x y c).bind fun b => some (.bl b, c)
def gNe : G2 := fun x y c => (eqM x y c).bind fun b => some (.bl (!b), c)
open Classical in
def inM (x y : D) (c : Cells) : Option Bool := (seqOf y c).bind fun xs => (data c 5 x).bind fun d => (omap (data c 5) xs).bind fun ds => some (decide (d ∈ ds))
def ixD (n : Nat) (i : Int) : Option Nat := if 0 ≤ i then (if i < n then some i.toNat else none) else if -(n : Int) ≤ i then some (i + n).toNat else none
def atD {α : Type} (xs : List α) (i : Int) : Option α := (ixD xs.length i).bind fun j => xs[j]?
def gIx : G2 := fun x y c => (seqOf x c).bind fun xs => (asI y).bind fun i => (atD xs i).bind fun d => some (d, c)
def sxD (n d : Nat) : Option Int → Nat
  | none => d
  | some v => if v < 0 then (v + n).toNat else min v.toNat n
def cutD {α : Type} (xs : List α) (lo hi : Option Int) : List α := (xs.drop (sxD xs.length 0 lo)).take (sxD xs.length xs.length hi - sxD xs.length 0 lo)
def gCut (x : D) (lo hi : Option Int) (c : Cells) : Option (D × Cells) := match x with
  | .tup xs => some (.tup (cutD xs lo hi), c)
  | x => (seqOf x c).bind fun xs => some (.ref c.length, c ++ [.lst (cutD xs lo hi)])
def gPut (o i : XE) : XG := fun d σ c => (o σ c).bind fun p => (i σ p.2).bind fun q => (lstOf p.1 q.2).bind fun l => (asI q.1).bind fun k => (ixD l.2.length k).bind fun j => some (σ, q.2.set l.1 (.lst (l.2.set j d)))
def one (g : G1) : FN := fun ds c => match ds with
  | [x] => g x c
  | _ => none
def two (g : G2) : FN := fun ds c => match ds with
  | [x, y] => g x y c
  | _ => none
def bAbs : FN := one fun x c => (asI x).bind fun i => some (.int (if i < 0 then -i else i), c)
def bLen : FN := one fun x c => (seqOf x c).bind fun xs => some (.int xs.length, c)
def bInt : FN := one fun x c => match x with
  | .int i => some (.int i, c)
  | .bl k => some (.int (if k then 1 else 0), c)
  | _ => none
def bMax2 : FN := two (ii fun i j => some (.int (if j > i then j else i)))
def bMin2 : FN := two (ii fun i j => some (.int (if j < i then j else i)))
def bList : FN := one fun x c => (seqOf x c).bind fun xs => some (.ref c.length, c ++ [.lst xs])
def isKind (n : String) (d : D) (c : Cells) : Option Bool := match d with
  | .int _ => if n = "int" then some true else if n = "bool" then some false else none
  | .bl _ => if n = "bool" then some true else none
  | .tup _ => if n = "tuple" then some true else none
  | .ref m => (match c[m]? with
    | some (.lst _) => if n = "list" then some true else none
    | _ => none)
  | _ => none
def bIsinst : FN := two fun x y c => match y with
  | .ty n => (isKind n x c).bind fun k => some (.bl k, c)
  | _ => none
def bAny : FN := one fun x c => (lstOf x c).bind fun l => (omap asB l.2).bind fun bs => some (.bl (bs.any id), c)
def zipD (xs ys : List D) : List D := (xs.zip ys).map fun p => .tup [p.1, p.2]
def eM (g : D → FN) (o : XE) (a : XA) : XE := fun σ c => (o σ c).bind fun p => (lstOf p.1 p.2).bind fun _ => (a σ p.2).bind fun q => g p.1 q.1 q.2
def mAppend (o : D) : FN := one fun y c => (lstOf o c).bind fun l => if l.2.length < LINE then some (.non, c.set l.1 (.lst (l.2 ++ [y]))) else none
def mExtend (o : D) : FN := one fun y c => (lstOf o c).bind fun l => (lstOf y c).bind fun z => if l.2.length + z.2.length ≤ LINE then some (.non, c.set l.1 (.lst (l.2 ++ z.2))) else none
def mClear (o : D) : FN := fun ds c => match ds with
  | [] => (lstOf o c).bind fun l => some (.non, c.set l.1 (.lst []))
  | _ => none
def iLst (a : XE) : XI := fun σ c => (a σ c).bind fun p => match p.1 with
  | .ref n => (p.2[n]?).bind fun z => (seqOf (.ref n) p.2).bind fun xs => some (⟨xs, [(n, z)]⟩, p.2)
  | _ => none
def rng (lo : Int) (n : Nat) : List D := (List.range n).map fun (i : Nat) => .int (lo + i)
structure Rin (j : Int) : Prop where
  lo : -(2 ^ 62) ≤ j
  hi : j < 2 ^ 62
open Classical in
def iRng1 (a : XA) : XI := fun σ c => (a σ c).bind fun p => match p.1 with
  | [.int j] => if Rin j then some (⟨rng 0 j.toNat, []⟩, p.2) else none
  | _ => none
theorem whGo_more {t : XT} {b : XS} : ∀ {n k : Nat} {σ : Env} {c : Cells} {r}, whGo t b n σ c = some r → whGo t b (n + k) σ c = some r
  | 0, _, _, _, _, h => by simp [whGo] at h
  | n + 1, k, σ, c, r, h => by
    rw [show n + 1 + k = (n + k) + 1 by omega]
    simp only [whGo] at h ⊢
    cases ht : t σ c with
    | none => rw [ht] at h; simp at h
    | some p =>
      rw [ht] at h
      simp only [Option.bind_some] at h ⊢
      split
      · rename_i hp
        rw [if_pos hp] at h
        cases hb : b σ p.2 with
        | none => rw [hb] at h; simp at h
        | some q =>
          rw [hb] at h
          simp only [Option.bind_some] at h ⊢
          obtain ⟨f, σ', c'⟩ := q
          cases f with
          | nx => exact whGo_more h
          | ct => exact whGo_more h
          | bk => exact h
          | rt d => exact h
      · rename_i hp
        rw [if_neg hp] at h
        exact h
theorem sWhile_of {t : XT} {b : XS} {n : Nat} {σ : Env} {c : Cells} {r} (h : whGo t b n σ c = some r) : sWhile t b σ c = some r := by
  have hx : ∃ n r, whGo t b n σ c = some r := ⟨n, r, h⟩
  unfold sWhile
  rw [dif_pos hx]
  obtain ⟨r', h'⟩ := Classical.choose_spec hx
  have h1 := whGo_more (k := n) h'
  have h2 := whGo_more (k := Classical.choose hx) h
  rw [Nat.add_comm] at h2
  rw [h']
  exact h1.symm.trans h2
theorem of_sWhile {t : XT} {b : XS} {σ : Env} {c : Cells} {r} (h : sWhile t b σ c = some r) : ∃ n, whGo t b n σ c = some r := by
  unfold sWhile at h
  split at h
  · exact ⟨_, h⟩
  · cases h
theorem sWhile_stop {t : XT} {b : XS} {σ : Env} {c c' : Cells} (h : t σ c = some (false, c')) : sWhile t b σ c = some (.nx, σ, c') :=
  sWhile_of (n := 1) (by simp [whGo, h])
theorem sWhile_go {t : XT} {b : XS} {σ σ' : Env} {c c' c2 : Cells} {r} (h : t σ c = some (true, c')) (hb : b σ c' = some (.nx, σ', c2)) (hr : sWhile t b σ' c2 = some r) : sWhile t b σ c = some r := by
  obtain ⟨n, hn⟩ := of_sWhile hr
  exact sWhile_of (n := n + 1) (by simp [whGo, h, hb, hn])
end
end Qm
namespace L2
open PySem PySem.Spec PyProof.Rows
theorem bnd {α β : Type} {x : Option α} {f : α → Option β} {z : β} (h : x.bind f = some z) : ∃ a, x = some a ∧ f a = some z := by
  cases x with
  | none => cases h
  | some a => exact ⟨a, rfl, h⟩
theorem line_le {n : Nat} (h : n ≤ Qm.LINE) : n ≤ sizeLine := Nat.le_trans h (by rw [Qm.LINE_eq, sizeLine_eq]; decide)
theorem line_lt {n : Nat} (h : n < Qm.LINE) : n < sizeLine := Nat.lt_of_lt_of_le h (by rw [Qm.LINE_eq, sizeLine_eq]; decide)
mutual
inductive RD (K : PySem.W.Frag) (ρ : Nat → Addr) (N : Nat) (H : Hp) : Qm.D → V → Prop
  | non : RD K ρ N H .non .non
  | bl (b : Bool) : RD K ρ N H (.bl b) (.bl b)
  | int (i : Int) : RD K ρ N H (.int i) (.int i)
  | str (x : Str) : RD K ρ N H (.str x) (.str x)
  | ty (n : String) : RD K ρ N H (.ty n) (.ty n)
  | tup {p : Addr} {xs : List V} {ds : List Qm.D} : H p = some (.tup xs) → RA K ρ N H ds xs → RD K ρ N H (.tup ds) (.ref p)
  | ref {n : Nat} : n < N → RD K ρ N H (.ref n) (.ref (ρ n))
  | adr (a : Nat) : RD K ρ N H (.adr a) (.ref a)
  | clo {a : Addr} {t : Qm.LamT} {ds : List Qm.D} {vs : List V} : LamO H a t vs → RA K ρ N H ds vs → RD K ρ N H (.clo t ds) (.ref a)
inductive RA (K : PySem.W.Frag) (ρ : Nat → Addr) (N : Nat) (H : Hp) : List Qm.D → List V → Prop
  | nil : RA K ρ N H [] []
  | cons {d : Qm.D} {ds : List Qm.D} {x : V} {xs : List V} : RD K ρ N H d x → RA K ρ N H ds xs → RA K ρ N H (d :: ds) (x :: xs)
end
structure Up (K : PySem.W.Frag) (ρ : Nat → Addr) (N : Nat) (H : Hp) (ρ' : Nat → Addr) (N' : Nat) (H' : Hp) : Prop where
  agree : ∀ n, n < N → ρ' n = ρ n
  len : N ≤ N'
  ts : ∀ p xs, H p = some (.tup xs) → H' p = some (.tup xs)
  fz : ∀ p o x, H p = some (.frz o x) → H' p = some (.frz o x)
section
variable {K : PySem.W.Frag} {ρ ρ' ρ'' : Nat → Addr} {N N' N'' : Nat} {H H' H'' : Hp}
theorem Up.refl : Up K ρ N H ρ N H := ⟨fun _ _ => rfl, Nat.le_refl _, fun _ _ h => h, fun _ _ _ h => h⟩
theorem Up.trans (a : Up K ρ N H ρ' N' H') (b : Up K ρ' N' H' ρ'' N'' H'') : Up K ρ N H ρ'' N'' H'' :=
  ⟨fun n h => (b.agree n (Nat.lt_of_lt_of_le h a.len)).trans (a.agree n h), Nat.le_trans a.len b.len, fun p xs h => b.ts p xs (a.ts p xs h), fun p o x h => b.fz p o x (a.fz p o x h)⟩
mutual
theorem RD.up (u : Up K ρ N H ρ' N' H') : ∀ {d : Qm.D} {v : V}, RD K ρ N H d v → RD K ρ' N' H' d v
  | _, _, .non => .non
  | _, _, .bl b => .bl b
  | _, _, .int i => .int i
  | _, _, .str x => .str x
  | _, _, .ty n => .ty n
  | _, _, .adr a => .adr a
  | _, _, .clo h a => .clo (h.up u.fz) (RA.up u a)
  | _, _, .tup h a => .tup (u.ts _ _ h) (RA.up u a)
  | _, _, .ref (n := n) h => by rw [← u.agree n h]; exact .ref (Nat.lt_of_lt_of_le h u.len)
theorem RA.up (u : Up K ρ N H ρ' N' H') : ∀ {ds : List Qm.D} {vs : List V}, RA K ρ N H ds vs → RA K ρ' N' H' ds vs
  | _, _, .nil => .nil
  | _, _, .cons h a => .cons (RD.up u h) (RA.up u a)
end
theorem RA.length : ∀ {ds : List Qm.D} {vs : List V}, RA K ρ N H ds vs → ds.length = vs.length
  | _, _, .nil => rfl
  | _, _, .cons _ a => congrArg (· + 1) (RA.length a)
theorem RA.append : ∀ {ds es : List Qm.D} {vs us : List V}, RA K ρ N H ds vs → RA K ρ N H es us → RA K ρ N H (ds ++ es) (vs ++ us)
  | _, _, _, _, .nil, b => b
  | _, _, _, _, .cons h a, b => .cons h (RA.append a b)
theorem RA.get : ∀ {ds : List Qm.D} {vs : List V} {i : Nat} {d : Qm.D}, RA K ρ N H ds vs → ds[i]? = some d → ∃ v, vs[i]? = some v ∧ RD K ρ N H d v
  | _, _, _, _, .nil, e => by simp at e
  | _, _, 0, _, .cons h _, e => by simp at e; subst e; exact ⟨_, rfl, h⟩
  | _, _, i + 1, d, .cons _ a, e => by
    obtain ⟨v, h1, h2⟩ := RA.get (i := i) (d := d) a (by simpa using e)
    exact ⟨v, by simpa using h1, h2⟩
theorem RA.take : ∀ {ds : List Qm.D} {vs : List V} (n : Nat), RA K ρ N H ds vs → RA K ρ N H (ds.take n) (vs.take n)
  | _, _, 0, _ => .nil
  | _, _, _ + 1, .nil => .nil
  | _, _, n + 1, .cons h a => .cons h (RA.take n a)
theorem RA.drop : ∀ {ds : List Qm.D} {vs : List V} (n : Nat), RA K ρ N H ds vs → RA K ρ N H (ds.drop n) (vs.drop n)
  | _, _, 0, a => a
  | _, _, _ + 1, .nil => .nil
  | _, _, n + 1, .cons _ a => RA.drop n a
theorem RA.set {d : Qm.D} {v : V} (r : RD K ρ N H d v) : ∀ {ds : List Qm.D} {vs : List V} (n : Nat), RA K ρ N H ds vs → RA K ρ N H (ds.set n d) (vs.set n v)
  | _, _, _, .nil => .nil
  | _, _, 0, .cons _ a => .cons r a
  | _, _, n + 1, .cons h a => .cons h (RA.set r n a)
theorem RA.one {d : Qm.D} {v : V} (h : RD K ρ N H d v) : RA K ρ N H [d] [v] := .cons h .nil
theorem RA.one' {d : Qm.D} {vs : List V} (h : RA K ρ N H [d] vs) : ∃ v, vs = [v] ∧ RD K ρ N H d v := by
  cases h with
  | cons r t => cases t; exact ⟨_, rfl, r⟩
theorem RA.two' {d e : Qm.D} {vs : List V} (h : RA K ρ N H [d, e] vs) : ∃ v u, vs = [v, u] ∧ RD K ρ N H d v ∧ RD K ρ N H e u := by
  cases h with
  | cons r t => obtain ⟨u, rfl, q⟩ := RA.one' t; exact ⟨_, _, rfl, r, q⟩
theorem RA.nil' {vs : List V} (h : RA K ρ N H [] vs) : vs = [] := by cases h; rfl
theorem RD.int' {i : Int} {v : V} (h : RD K ρ N H (.int i) v) : v = .int i := by cases h; rfl
theorem RD.bl' {b : Bool} {v : V} (h : RD K ρ N H (.bl b) v) : v = .bl b := by cases h; rfl
theorem RD.non' {v : V} (h : RD K ρ N H .non v) : v = .non := by cases h; rfl
theorem RD.tup' {ds : List Qm.D} {v : V} (h : RD K ρ N H (.tup ds) v) : ∃ p xs, v = .ref p ∧ H p = some (.tup xs) ∧ RA K ρ N H ds xs := by cases h with | tup a b => exact ⟨_, _, rfl, a, b⟩
theorem RD.ref' {n : Nat} {v : V} (h : RD K ρ N H (.ref n) v) : v = .ref (ρ n) ∧ n < N := by cases h with | ref h => exact ⟨rfl, h⟩
end
def RoOk (K : PySem.W.Frag) (H : Hp) (a : Addr) (xs : List V) : Prop := (∃ o, H a = some (.frz o (.lst xs))) ∨ SqL K (fun _ => none) a xs
theorem RoOk.seq {K : PySem.W.Frag} {H : Hp} {a : Addr} {xs : List V} (h : RoOk K H a xs) : SqL K H a xs := by
  rcases h with ⟨o, h⟩ | h
  · exact .inl (.inr ⟨o, h⟩)
  · rcases h with (h | ⟨o, h⟩) | h
    · cases h
    · cases h
    · exact .inr h
inductive RK (K : PySem.W.Frag) (ρ : Nat → Addr) (N : Nat) (H : Hp) : List (Str × Qm.D) → List (Key × V) → Prop
  | nil : RK K ρ N H [] []
  | cons {k : Str} {d : Qm.D} {ds : List (Str × Qm.D)} {x : V} {xs : List (Key × V)} : RD K ρ N H d x → RK K ρ N H ds xs → RK K ρ N H ((k, d) :: ds) ((.inr k, x) :: xs)
theorem RK.up {K : PySem.W.Frag} {ρ ρ' : Nat → Addr} {N N' : Nat} {H H' : Hp} (u : Up K ρ N H ρ' N' H') : ∀ {ds : List (Str × Qm.D)} {vs : List (Key × V)}, RK K ρ N H ds vs → RK K ρ' N' H' ds vs
  | _, _, .nil => .nil
  | _, _, .cons h a => .cons (h.up u) (RK.up u a)
inductive RT1 (K : PySem.W.Frag) (ρ : Nat → Addr) (N : Nat) (H : Hp) : List (List Int × Qm.D) → List (List Key × V) → Prop
  | nil : RT1 K ρ N H [] []
  | cons {k : List Int} {d : Qm.D} {ds : List (List Int × Qm.D)} {x : V} {xs : List (List Key × V)} : RD K ρ N H d x → RT1 K ρ N H ds xs → RT1 K ρ N H ((k, d) :: ds) ((k.map Sum.inl, x) :: xs)
inductive RT2 (K : PySem.W.Frag) (ρ : Nat → Addr) (N : Nat) (H : Hp) : List (List (List Int) × Qm.D) → List (List (List Key) × V) → Prop
  | nil : RT2 K ρ N H [] []
  | cons {k : List (List Int)} {d : Qm.D} {ds : List (List (List Int) × Qm.D)} {x : V} {xs : List (List (List Key) × V)} : RD K ρ N H d x → RT2 K ρ N H ds xs → RT2 K ρ N H ((k, d) :: ds) ((k.map (List.map Sum.inl), x) :: xs)
theorem RT1.up {K : PySem.W.Frag} {ρ ρ' : Nat → Addr} {N N' : Nat} {H H' : Hp} (u : Up K ρ N H ρ' N' H') : ∀ {ds : List (List Int × Qm.D)} {vs : List (List Key × V)}, RT1 K ρ N H ds vs → RT1 K ρ' N' H' ds vs
  | _, _, .nil => .nil
  | _, _, .cons h a => .cons (h.up u) (RT1.up u a)
theorem RT2.up {K : PySem.W.Frag} {ρ ρ' : Nat → Addr} {N N' : Nat} {H H' : Hp} (u : Up K ρ N H ρ' N' H') : ∀ {ds : List (List (List Int) × Qm.D)} {vs : List (List (List Key) × V)}, RT2 K ρ N H ds vs → RT2 K ρ' N' H' ds vs
  | _, _, .nil => .nil
  | _, _, .cons h a => .cons (h.up u) (RT2.up u a)
def CO (K : PySem.W.Frag) (ρ : Nat → Addr) (N : Nat) (H : Hp) (a : Addr) : Qm.Cell → Prop
  | .lst ds => ∃ vs, H a = some (.lst vs) ∧ RA K ρ N H ds vs
  | .ro ds => ∃ vs, RoOk K H a vs ∧ RA K ρ N H ds vs
  | .dct ds => ∃ vs, H a = some (.dK vs) ∧ RK K ρ N H ds vs
  | .dro ds => ∃ o vs, H a = some (.frz o (.dK vs)) ∧ RK K ρ N H ds vs
  | .dt1 ds => ∃ vs, H a = some (.dT vs) ∧ RT1 K ρ N H ds vs
  | .dt2 ds => ∃ vs, H a = some (.dU vs) ∧ RT2 K ρ N H ds vs
  | .dt2r ds => ∃ o vs, H a = some (.frz o (.dU vs)) ∧ RT2 K ρ N H ds vs
  | .exc C S ds => ∃ vs, XObj K H a C S vs ∧ RK K ρ N H ds vs
  | .tab cd q => TabO K H cd q a
structure RS (K : PySem.W.Frag) (ρ : Nat → Addr) (c : Qm.Cells) (H : Hp) : Prop where
  inj : ∀ (i j : Nat) (z y : Qm.Cell), c[i]? = some z → c[j]? = some y → z.mt = true → y.mt = true → ρ i = ρ j → i = j
  ok : ∀ (n : Nat) (z : Qm.Cell), c[n]? = some z → CO K ρ c.length H (ρ n) z
structure RE (K : PySem.W.Frag) (ρ : Nat → Addr) (N : Nat) (H : Hp) (env : Qm.Env) (σ : St) : Prop where
  len : env.length = σ.length
  at_ : ∀ (i : Nat) (d : Qm.D), env[i]? = some (some d) → ∃ v : V, σ[i]? = some (some v) ∧ RD K ρ N H d v
structure Nx (K : PySem.W.Frag) (ρ : Nat → Addr) (c : Qm.Cells) (H : Hp) (ρ' : Nat → Addr) (c' : Qm.Cells) (H' : Hp) : Prop where
  up : Up K ρ c.length H ρ' c'.length H'
  rs : RS K ρ' c' H'
section
variable {K : PySem.W.Frag} {ρ ρ' ρ'' : Nat → Addr} {N N' : Nat} {c c' c'' : Qm.Cells} {H H' H'' : Hp} {env : Qm.Env} {σ : St}
theorem RE.up (h : RE K ρ N H env σ) (u : Up K ρ N H ρ' N' H') : RE K ρ' N' H' env σ := ⟨h.len, fun i d e => let ⟨v, h1, h2⟩ := h.at_ i d e; ⟨v, h1, h2.up u⟩⟩
theorem Nx.refl (r : RS K ρ c H) : Nx K ρ c H ρ c H := ⟨Up.refl, r⟩
theorem Nx.trans (a : Nx K ρ c H ρ' c' H') (b : Nx K ρ' c' H' ρ'' c'' H'') : Nx K ρ c H ρ'' c'' H'' := ⟨a.up.trans b.up, b.rs⟩
theorem CO.up {a : Addr} {z : Qm.Cell} (h : CO K ρ N H a z) (u : Up K ρ N H ρ' N' H') (hs : ∀ o, H a = some o → H' a = some o) : CO K ρ' N' H' a z := by
  cases z with
  | lst ds => obtain ⟨vs, h1, h2⟩ := h; exact ⟨vs, hs _ h1, h2.up u⟩
  | ro ds =>
    obtain ⟨vs, h1, h2⟩ := h
    refine ⟨vs, ?_, h2.up u⟩
    rcases h1 with ⟨o, h1⟩ | h1
    · exact .inl ⟨o, hs _ h1⟩
    · exact .inr h1
  | dct ds => obtain ⟨vs, h1, h2⟩ := h; exact ⟨vs, hs _ h1, h2.up u⟩
  | dro ds => obtain ⟨o, vs, h1, h2⟩ := h; exact ⟨o, vs, hs _ h1, h2.up u⟩
  | dt1 ds => obtain ⟨vs, h1, h2⟩ := h; exact ⟨vs, hs _ h1, h2.up u⟩
  | dt2 ds => obtain ⟨vs, h1, h2⟩ := h; exact ⟨vs, hs _ h1, h2.up u⟩
  | dt2r ds => obtain ⟨o, vs, h1, h2⟩ := h; exact ⟨o, vs, hs _ h1, h2.up u⟩
  | exc C S ds => obtain ⟨vs, h1, h2⟩ := h; exact ⟨vs, h1.up u.fz, h2.up u⟩
  | tab cd q => exact TabO.up h u.fz hs
theorem CO.obj {a : Addr} {z : Qm.Cell} (h : CO K ρ N H a z) (m : z.mt = true) : ∃ o, H a = some o ∧ (∀ xs, o ≠ .tup xs) ∧ ∀ q x, o ≠ .frz q x := by
  cases z with
  | lst ds => obtain ⟨vs, h1, _⟩ := h; exact ⟨_, h1, (fun _ z => by cases z), (fun _ _ z => by cases z)⟩
  | ro ds => cases m
  | dro ds => cases m
  | dct ds => obtain ⟨vs, h1, _⟩ := h; exact ⟨_, h1, (fun _ z => by cases z), (fun _ _ z => by cases z)⟩
  | dt1 ds => obtain ⟨vs, h1, _⟩ := h; exact ⟨_, h1, (fun _ z => by cases z), (fun _ _ z => by cases z)⟩
  | dt2 ds => obtain ⟨vs, h1, _⟩ := h; exact ⟨_, h1, (fun _ z => by cases z), (fun _ _ z => by cases z)⟩
  | dt2r ds => cases m
  | exc C S ds => cases m
  | tab cd q => obtain ⟨ps, h1, _⟩ := TabO.ex h; exact ⟨_, h1, (fun _ z => by cases z), (fun _ _ z => by cases z)⟩
theorem RE.set {d : Qm.D} {v : V} {i : Nat} (h : RE K ρ N H env σ) (r : RD K ρ N H d v) : RE K ρ N H (env.set i (some d)) (σ.set i (some v)) := by
  refine ⟨by rw [List.length_set, List.length_set]; exact h.len, fun j e he => ?_⟩
  rw [List.getElem?_set] at he ⊢
  have hl := h.len
  by_cases hij : i = j
  · rw [if_pos hij] at he ⊢
    subst hij
    split at he
    · rename_i hlt
      rw [if_pos (by omega)]
      cases he
      exact ⟨v, rfl, r⟩
    · cases he
  · rw [if_neg hij] at he ⊢
    exact h.at_ j e he
theorem Nx.same (r : RS K ρ c H) (e : Same H H') : Nx K ρ c H ρ c H' := by
  have u : Up K ρ c.length H ρ c.length H' := ⟨fun _ _ => rfl, Nat.le_refl _, fun p xs h => e _ _ h, fun p o x h => e _ _ h⟩
  exact ⟨u, r.inj, fun n z hz => (r.ok n z hz).up u (fun o h => e _ _ h)⟩
theorem Nx.allocG (r : RS K ρ c H) {l : Addr} (hl : H l = none) {z : Qm.Cell} {o : HO} (hz : ∀ ρ' N' H', Up K ρ c.length H ρ' N' H' → H' l = some o → CO K ρ' N' H' l z) : Nx K ρ c H (fun n => if n = c.length then l else ρ n) (c ++ [z]) (upd H l o) ∧ RD K (fun n => if n = c.length then l else ρ n) (c ++ [z]).length (upd H l o) (.ref c.length) (.ref l) := by
  have hlen : (c ++ [z]).length = c.length + 1 := by simp
  have u : Up K ρ c.length H (fun n => if n = c.length then l else ρ n) (c ++ [z]).length (upd H l o) := by
    refine ⟨fun n h => if_neg (by omega), by omega, fun p xs h => get_new h hl, fun p o x h => get_new h hl⟩
  refine ⟨⟨u, fun i j x y h1 h2 m1 m2 e => ?_, fun n z' hz' => ?_⟩, ?_⟩
  · have lt1 : i < c.length + 1 := by rw [← hlen]; exact (List.getElem?_eq_some_iff.mp h1).1
    have lt2 : j < c.length + 1 := by rw [← hlen]; exact (List.getElem?_eq_some_iff.mp h2).1
    have fresh : ∀ k y, k < c.length → (c ++ [z])[k]? = some y → y.mt = true → ρ k ≠ l := fun k y hk hz m e' => by
      rw [List.getElem?_append_left hk] at hz
      obtain ⟨o', h', _⟩ := (r.ok k _ hz).obj m
      rw [e', hl] at h'; cases h'
    by_cases hi : i = c.length <;> by_cases hj : j = c.length
    · omega
    · exfalso
      simp only [hi, if_true, if_neg hj] at e
      exact fresh j y (by omega) h2 m2 e.symm
    · exfalso
      simp only [hj, if_true, if_neg hi] at e
      exact fresh i x (by omega) h1 m1 e
    · simp only [if_neg hi, if_neg hj] at e
      rw [List.getElem?_append_left (by omega)] at h1 h2
      exact r.inj i j x y h1 h2 m1 m2 e
  · have lt : n < c.length + 1 := by rw [← hlen]; exact (List.getElem?_eq_some_iff.mp hz').1
    by_cases hn : n = c.length
    · subst hn
      have : z' = z := by simpa using hz'.symm
      subst this
      simp only [if_true]
      exact hz _ _ _ u upd_same
    · simp only [if_neg hn]
      rw [List.getElem?_append_left (by omega)] at hz'
      exact (r.ok n z' hz').up u (fun o h => get_new h hl)
  · have := RD.ref (K := K) (ρ := fun n => if n = c.length then l else ρ n) (N := (c ++ [z]).length) (H := upd H l o) (n := c.length) (by omega)
    simpa using this
theorem Nx.alloc (r : RS K ρ c H) {l : Addr} (hl : H l = none) {ds : List Qm.D} {vs : List V} (a : RA K ρ c.length H ds vs) : Nx K ρ c H (fun n => if n = c.length then l else ρ n) (c ++ [.lst ds]) (upd H l (.lst vs)) ∧ RD K (fun n => if n = c.length then l else ρ n) (c ++ [Qm.Cell.lst ds]).length (upd H l (.lst vs)) (.ref c.length) (.ref l) :=
  Nx.allocG r hl fun _ _ _ u h => ⟨vs, h, a.up u⟩
theorem Nx.putG (r : RS K ρ c H) {n : Nat} {y z : Qm.Cell} (hn : c[n]? = some y) (my : y.mt = true) {o : HO} (hz : ∀ N' H', Up K ρ c.length H ρ N' H' → H' (ρ n) = some o → CO K ρ N' H' (ρ n) z) : Nx K ρ c H ρ (c.set n z) (upd H (ρ n) o) := by
  obtain ⟨w, hw, hk⟩ := (r.ok n _ hn).obj my
  have hlt : n < c.length := (List.getElem?_eq_some_iff.mp hn).1
  have tne : ∀ {p : Addr} {q : HO}, H p = some q → ((∃ ys, q = .tup ys) ∨ ∃ o x, q = .frz o x) → p ≠ ρ n := fun {p q} h h1 e => by
    rw [e, hw] at h; cases h
    rcases h1 with ⟨_, rfl⟩ | ⟨_, _, rfl⟩
    · exact hk.1 _ rfl
    · exact hk.2 _ _ rfl
  have u : Up K ρ c.length H ρ (c.set n z).length (upd H (ρ n) o) := by
    refine ⟨fun _ _ => rfl, by rw [List.length_set]; exact Nat.le_refl _, fun p ys h => ?_, fun p q x h => ?_⟩
    · rw [upd_ne (tne h (.inl ⟨_, rfl⟩))]; exact h
    · rw [upd_ne (tne h (.inr ⟨_, _, rfl⟩))]; exact h
  have look : ∀ {j : Nat} {x : Qm.Cell}, j ≠ n → (c.set n z)[j]? = some x → c[j]? = some x := fun {j x} hj hx => by
    rw [List.getElem?_set, if_neg (fun e => hj e.symm)] at hx; exact hx
  have back : ∀ {j : Nat} {x : Qm.Cell}, (c.set n z)[j]? = some x → x.mt = true → ∃ x', c[j]? = some x' ∧ x'.mt = true := fun {j x} hx m => by
    by_cases hj : j = n
    · subst hj; exact ⟨y, hn, my⟩
    · exact ⟨x, look hj hx, m⟩
  refine ⟨u, fun i j p q h1 h2 m1 m2 e => ?_, fun j x hx => ?_⟩
  · obtain ⟨_, g1, w1⟩ := back h1 m1
    obtain ⟨_, g2, w2⟩ := back h2 m2
    exact r.inj i j _ _ g1 g2 w1 w2 e
  · by_cases hj : j = n
    · subst hj
      have : x = z := by
        rw [List.getElem?_set, if_pos rfl, if_pos hlt] at hx; cases hx; rfl
      subst this
      exact hz _ _ u upd_same
    · have hx' := look hj hx
      by_cases hm : x.mt = true
      · have hp : ρ j ≠ ρ n := fun e => hj (r.inj j n _ _ hx' hn hm my e)
        exact (r.ok j _ hx').up u (fun ys h => by rw [upd_ne hp]; exact h)
      · cases x with
        | lst zs => exact absurd rfl hm
        | dct zs => exact absurd rfl hm
        | dt1 zs => exact absurd rfl hm
        | dt2 zs => exact absurd rfl hm
        | tab cd q => exact absurd rfl hm
        | dro zs =>
          obtain ⟨o', ws', h1, h2⟩ := r.ok j _ hx'
          exact ⟨o', ws', by rw [upd_ne (tne h1 (.inr ⟨_, _, rfl⟩))]; exact h1, h2.up u⟩
        | dt2r zs =>
          obtain ⟨o', ws', h1, h2⟩ := r.ok j _ hx'
          exact ⟨o', ws', by rw [upd_ne (tne h1 (.inr ⟨_, _, rfl⟩))]; exact h1, h2.up u⟩
        | exc C S zs =>
          obtain ⟨ws', h1, h2⟩ := r.ok j _ hx'
          exact ⟨ws', h1.up u.fz, h2.up u⟩
        | ro zs =>
          obtain ⟨ws', h1, h2⟩ := r.ok j _ hx'
          refine ⟨ws', ?_, h2.up u⟩
          rcases h1 with ⟨o, h1⟩ | h1
          · exact .inl ⟨o, by rw [upd_ne (tne h1 (.inr ⟨_, _, rfl⟩))]; exact h1⟩
          · exact .inr h1
theorem Nx.put (r : RS K ρ c H) {n : Nat} {xs : List Qm.D} (hn : c[n]? = some (.lst xs)) {ds : List Qm.D} {vs : List V} (a : RA K ρ c.length H ds vs) : Nx K ρ c H ρ (c.set n (.lst ds)) (upd H (ρ n) (.lst vs)) :=
  Nx.putG r hn rfl fun _ _ u h => ⟨vs, h, a.up u⟩
theorem RS.lst (r : RS K ρ c H) {n : Nat} {ds : List Qm.D} (h : c[n]? = some (.lst ds)) : ∃ vs, H (ρ n) = some (.lst vs) ∧ RA K ρ c.length H ds vs := r.ok n _ h
theorem RS.seq (r : RS K ρ c H) {d : Qm.D} {ds : List Qm.D} {v : V} (h : RD K ρ c.length H d v) (e : Qm.seqOf d c = some ds) : ∃ p vs, v = .ref p ∧ (SqL K H p vs ∨ H p = some (.tup vs)) ∧ RA K ρ c.length H ds vs := by
  unfold Qm.seqOf at e
  split at e
  · cases e
    obtain ⟨p, xs, rfl, h1, h2⟩ := h.tup'
    exact ⟨p, xs, rfl, .inr h1, h2⟩
  · rename_i n
    obtain ⟨rfl, hn⟩ := h.ref'
    split at e
    · rename_i xs hx
      cases e
      obtain ⟨vs, h1, h2⟩ := r.lst hx
      exact ⟨_, vs, rfl, .inl (SqL.of h1), h2⟩
    · rename_i xs hx
      cases e
      obtain ⟨vs, h1, h2⟩ := r.ok n _ hx
      exact ⟨_, vs, rfl, .inl h1.seq, h2⟩
    · cases e
  · cases e
theorem seqOf_cases {d : Qm.D} {c : Qm.Cells} {ds : List Qm.D} (e : Qm.seqOf d c = some ds) : d = .tup ds ∨ ∃ n, d = .ref n := by
  unfold Qm.seqOf at e
  split at e
  · cases e; exact .inl rfl
  · exact .inr ⟨_, rfl⟩
  · cases e
theorem RS.seqR (r : RS K ρ c H) {n : Nat} {ds : List Qm.D} {v : V} (h : RD K ρ c.length H (.ref n) v) (e : Qm.seqOf (.ref n) c = some ds) : ∃ vs, v = .ref (ρ n) ∧ SqL K H (ρ n) vs ∧ RA K ρ c.length H ds vs := by
  obtain ⟨rfl, hn⟩ := h.ref'
  unfold Qm.seqOf at e
  dsimp only at e
  split at e
  · rename_i xs hx
    cases e
    obtain ⟨vs, h1, h2⟩ := r.lst hx
    exact ⟨vs, rfl, SqL.of h1, h2⟩
  · rename_i xs hx
    cases e
    obtain ⟨vs, h1, h2⟩ := r.ok n _ hx
    exact ⟨vs, rfl, h1.seq, h2⟩
  · cases e
theorem RS.lstOf (r : RS K ρ c H) {d : Qm.D} {n : Nat} {ds : List Qm.D} {v : V} (h : RD K ρ c.length H d v) (e : Qm.lstOf d c = some (n, ds)) : d = .ref n ∧ c[n]? = some (.lst ds) ∧ ∃ vs, v = .ref (ρ n) ∧ H (ρ n) = some (.lst vs) ∧ RA K ρ c.length H ds vs := by
  unfold Qm.lstOf at e
  split at e
  · obtain ⟨rfl, hn⟩ := h.ref'
    split at e
    · rename_i xs hx
      cases e
      obtain ⟨vs, h1, h2⟩ := r.lst hx
      exact ⟨rfl, hx, vs, rfl, h1, h2⟩
    · cases e
  · cases e
end
def TQ (K : PySem.W.Frag) (f : Qm.XE) : TE := fun σ H Q => ∃ ρ env c d c', RS K ρ c H ∧ RE K ρ c.length H env σ ∧ f env c = some (d, c') ∧ ∀ ρ' v H', Nx K ρ c H ρ' c' H' → RD K ρ' c'.length H' d v → Q v H'
def AQ (K : PySem.W.Frag) (f : Qm.XA) : TA := fun σ H Q => ∃ ρ env c ds c', RS K ρ c H ∧ RE K ρ c.length H env σ ∧ f env c = some (ds, c') ∧ ∀ ρ' vs H', Nx K ρ c H ρ' c' H' → RA K ρ' c'.length H' ds vs → Q vs H'
def BQ (K : PySem.W.Frag) (f : Qm.XT) : TT := fun σ H Q => ∃ ρ env c b c', RS K ρ c H ∧ RE K ρ c.length H env σ ∧ f env c = some (b, c') ∧ ∀ ρ' H', Nx K ρ c H ρ' c' H' → Q b H'
def OQ (K : PySem.W.Frag) (f : Qm.XO) : TO := fun σ H Q => ∃ ρ env c o c', RS K ρ c H ∧ RE K ρ c.length H env σ ∧ f env c = some (o, c') ∧ ∀ ρ' H', Nx K ρ c H ρ' c' H' → Q o H'
def EndQ (K : PySem.W.Frag) (ρ : Nat → Addr) (c : Qm.Cells) (H : Hp) (env : Qm.Env) (D : Ends) : Qm.Fl → Prop
  | .nx => ∀ σ, RE K ρ c.length H env σ → D.nx σ H
  | .bk => ∀ σ, RE K ρ c.length H env σ → D.bk σ H
  | .ct => ∀ σ, RE K ρ c.length H env σ → D.ct σ H
  | .rt d => ∀ v, RD K ρ c.length H d v → D.rt v H
def SQ (K : PySem.W.Frag) (f : Qm.XS) : TS := fun D σ H => ∃ ρ env c fl env' c', RS K ρ c H ∧ RE K ρ c.length H env σ ∧ f env c = some (fl, env', c') ∧ ∀ ρ' H', Nx K ρ c H ρ' c' H' → EndQ K ρ' c' H' env' D fl
def GQ (K : PySem.W.Frag) (g : Qm.XG) : TG := fun v σ H Q => ∃ ρ env c d env' c', RS K ρ c H ∧ RE K ρ c.length H env σ ∧ RD K ρ c.length H d v ∧ g d env c = some (env', c') ∧ ∀ ρ' H' σ', Nx K ρ c H ρ' c' H' → RE K ρ' c'.length H' env' σ' → Q σ' H'
def ItOk (K : PySem.W.Frag) (ρ0 : Nat → Addr) (N0 : Nat) (H0 : Hp) (m : Qm.Itm) (J : It) : Prop := ∀ ρ c H, Up K ρ0 N0 H0 ρ c.length H → RS K ρ c H → Qm.stays m.ks c →
  (∀ i, i < m.ds.length → J.go i H) ∧ J.stop m.ds.length H ∧ ∀ i d x H', m.ds[i]? = some d → J.yld i H x H' → Nx K ρ c H ρ c H' ∧ RD K ρ c.length H' d x
def IQ (K : PySem.W.Frag) (f : Qm.XI) : TI := fun σ H R => ∃ ρ env c m c', RS K ρ c H ∧ RE K ρ c.length H env σ ∧ f env c = some (m, c') ∧ ∀ ρ' J H', Nx K ρ c H ρ' c' H' → ItOk K ρ' c'.length H' m J → R J H'
abbrev QE (X : Cx) (e : Expr) (f : Qm.XE) : Prop := PE X e (TQ X.K f)
abbrev QA (X : Cx) (es : List Expr) (f : Qm.XA) : Prop := PA X es (AQ X.K f)
abbrev QT (X : Cx) (e : Expr) (f : Qm.XT) : Prop := PT X e (BQ X.K f)
abbrev QW (X : Cx) (e : Expr) (f : Qm.XT) : Prop := PW X e (BQ X.K f)
abbrev QO (X : Cx) (e : Option Expr) (f : Qm.XO) : Prop := PO X e (OQ X.K f)
abbrev QS (X : Cx) (e : Stmt) (f : Qm.XS) : Prop := PS X e (SQ X.K f)
abbrev QSs (X : Cx) (e : List Stmt) (f : Qm.XS) : Prop := PSs X e (SQ X.K f)
abbrev QG (X : Cx) (e : Expr) (f : Qm.XG) : Prop := PG X e (GQ X.K f)
abbrev QI (X : Cx) (tg e : Expr) (f : Qm.XI) : Prop := PI X tg e (IQ X.K f)
abbrev QIfs (X : Cx) (e : List Expr) (f : Qm.XT) : Prop := PIfs X e (BQ X.K f)
section
variable {X : Cx}
theorem PE.imp {e : Expr} {t t' : TE} (h : PE X e t) (k : ∀ σ H Q, t' σ H Q → t σ H Q) : PE X e t' := fun pins s σ H Q I q => h pins s σ H Q I (k σ H Q q)
theorem PT.imp {e : Expr} {t t' : TT} (h : PT X e t) (k : ∀ σ H Q, t' σ H Q → t σ H Q) : PT X e t' := fun pins s σ H Q I q => h pins s σ H Q I (k σ H Q q)
theorem PW.imp {e : Expr} {t t' : TT} (h : PW X e t) (k : ∀ σ H Q, t' σ H Q → t σ H Q) : PW X e t' := fun wh pins s σ H Q I q => h wh pins s σ H Q I (k σ H Q q)
theorem PA.imp {e : List Expr} {t t' : TA} (h : PA X e t) (k : ∀ σ H Q, t' σ H Q → t σ H Q) : PA X e t' := fun pos pins s σ H Q I q => h pos pins s σ H Q I (k σ H Q q)
theorem PS.imp {e : Stmt} {t t' : TS} (h : PS X e t) (k : ∀ D σ H, t' D σ H → t D σ H) : PS X e t' := fun pins s σ H D I q => h pins s σ H D I (k D σ H q)
theorem PSs.imp {e : List Stmt} {t t' : TS} (h : PSs X e t) (k : ∀ D σ H, t' D σ H → t D σ H) : PSs X e t' := fun pins s σ H D I q => h pins s σ H D I (k D σ H q)
theorem PO.imp {e : Option Expr} {t t' : TO} (h : PO X e t) (k : ∀ σ H Q, t' σ H Q → t σ H Q) : PO X e t' := fun pins s σ H Q I q => h pins s σ H Q I (k σ H Q q)
theorem PG.imp {e : Expr} {t t' : TG} (h : PG X e t) (k : ∀ v σ H Q, t' v σ H Q → t v σ H Q) : PG X e t' := fun pins s σ H x v Q I r q => h pins s σ H x v Q I r (k x σ H Q q)
theorem PI.imp {tg e : Expr} {t t' : TI} (h : PI X tg e t) (k : ∀ σ H Q, t' σ H Q → t σ H Q) : PI X tg e t' := fun pins s σ H R I q => h pins s σ H R I (k σ H R q)
theorem PIfs.imp {e : List Expr} {t t' : TT} (h : PIfs X e t) (k : ∀ σ H Q, t' σ H Q → t σ H Q) : PIfs X e t' := fun pins s σ H Q I q => h pins s σ H Q I (k σ H Q q)
end
end L2
namespace L2
open PySem PySem.Spec PyProof.Rows
section
variable {X : Cx} {a b e : Expr} {es : List Expr} {fa fb fc fe : Qm.XE} {ft fu : Qm.XT} {pos : Pos}
theorem qe_var (i : Nat) (h : PE X e (tVar i)) : QE X e (Qm.eV i) := h.imp fun σ H Q ⟨ρ, env, c, d, c', rs, re, e, k⟩ => by
  unfold Qm.eV at e
  obtain ⟨d', e1, e2⟩ := bnd e
  cases e2
  have e3 : env[i]? = some (some d) := by
    cases h : env[i]? with
    | none => rw [h] at e1; cases e1
    | some o => rw [h] at e1; rw [show o = some d from e1]
  obtain ⟨v, h1, h2⟩ := re.at_ i d e3
  exact ⟨v, h1, k ρ v H (Nx.refl rs) h2⟩
theorem qe_c {v : V} (d : Qm.D) (h : PE X e (tC v)) (r : ∀ ρ N H, RD X.K ρ N H d v) : QE X e (Qm.eC d) := h.imp fun σ H Q ⟨ρ, env, c, d', c', rs, re, e, k⟩ => by
  unfold Qm.eC at e
  cases e
  exact k ρ v H (Nx.refl rs) (r _ _ _)
theorem qe_int {i : Int} {j pos} : QE X (.Constant (.int i) j pos) (Qm.eC (.int i)) := qe_c _ pe_int fun _ _ _ => .int i
theorem qe_bl {i : Bool} {j pos} : QE X (.Constant (.bool i) j pos) (Qm.eC (.bl i)) := qe_c _ pe_bl fun _ _ _ => .bl i
def Lk2 (K : PySem.W.Frag) (r : R2) (g : Qm.G2) : Prop := ∀ ρ c H x y d c' v u Q, RS K ρ c H → RD K ρ c.length H x v → RD K ρ c.length H y u → g x y c = some (d, c') → (∀ ρ' w H', Nx K ρ c H ρ' c' H' → RD K ρ' c'.length H' d w → Q w H') → r v u H Q
theorem tOp_q {K : PySem.W.Frag} {r : R2} {g : Qm.G2} (hl : Lk2 K r g) {σ : St} {H : Hp} {Q : VK} (h : TQ K (Qm.e2 g fa fb) σ H Q) : tOp r (TQ K fa) (TQ K fb) σ H Q := by
  obtain ⟨ρ, env, c, d, c', rs, re, e, k⟩ := h
  obtain ⟨p, e1, e⟩ := bnd e
  obtain ⟨q, e2, e3⟩ := bnd e
  exact ⟨ρ, env, c, p.1, p.2, rs, re, e1, fun ρ1 v H1 n1 r1 => ⟨ρ1, env, p.2, q.1, q.2, n1.rs, re.up n1.up, e2, fun ρ2 u H2 n2 r2 =>
    hl ρ2 q.2 H2 p.1 q.1 d c' v u Q n2.rs (r1.up n2.up) r2 e3 fun ρ' w H' n3 r3 => k ρ' w H' (n1.trans (n2.trans n3)) r3⟩⟩
theorem qe_op {op : Operator} {r : R2} {g : Qm.G2} (ho : OpR X (binaryOp op) r) (hl : Lk2 X.K r g) (ha : QE X a fa) (hb : QE X b fb) : QE X (.BinOp a op b pos) (Qm.e2 g fa fb) := (pe_op ho ha hb).imp fun _ _ _ h => tOp_q hl h
theorem qe_cmp {op : CmpOp} {r : R2} {g : Qm.G2} (ho : OpR X (compareOp op) r) (hl : Lk2 X.K r g) (ha : QE X a fa) (hb : QE X b fb) (hm : behindInMarks op b = false) : QE X (.Compare a [op] [b] pos) (Qm.e2 g fa fb) := (pe_cmpR ho ha hb hm).imp fun _ _ _ h => tOp_q hl h
theorem qe_ix {r : R2} {g : Qm.G2} (hr : IxR X r) (hl : Lk2 X.K r g) (ha : QE X a fa) (hb : QE X b fb) (hs : PlainIx b) : QE X (.Subscript a b pos) (Qm.e2 g fa fb) := (pe_ix hr ha hb hs).imp fun _ _ _ h => tOp_q hl h
theorem asI_of {d : Qm.D} {i : Int} (h : Qm.asI d = some i) : d = .int i := by
  unfold Qm.asI at h
  split at h
  · cases h; rfl
  · cases h
theorem asB_of {d : Qm.D} {i : Bool} (h : Qm.asB d = some i) : d = .bl i := by
  unfold Qm.asB at h
  split at h
  · cases h; rfl
  · cases h
theorem lk_int {K : PySem.W.Frag} {C : Int → Int → Prop} {g : Int → Int → V} {f : Int → Int → Option Qm.D} (h : ∀ i j d, f i j = some d → C i j ∧ ∀ ρ N H, RD K ρ N H d (g i j)) : Lk2 K (rI C g) (Qm.ii f) := by
  intro ρ c H x y d c' v u Q rs rx ry e k
  obtain ⟨i, e1, e⟩ := bnd e
  obtain ⟨j, e2, e⟩ := bnd e
  obtain ⟨d', e3, e⟩ := bnd e
  cases e
  cases asI_of e1; cases asI_of e2
  cases rx.int'; cases ry.int'
  obtain ⟨hc, hr⟩ := h i j d e3
  exact ⟨i, j, rfl, rfl, hc, k ρ _ H (Nx.refl rs) (hr _ _ _)⟩
theorem lk_int0 {K : PySem.W.Frag} {g : Int → Int → V} {f : Int → Int → Option Qm.D} (h : ∀ i j d, f i j = some d → ∀ ρ N H, RD K ρ N H d (g i j)) : Lk2 K (rI0 g) (Qm.ii f) := by
  intro ρ c H x y d c' v u Q rs rx ry e k
  obtain ⟨i, e1, e⟩ := bnd e
  obtain ⟨j, e2, e⟩ := bnd e
  obtain ⟨d', e3, e⟩ := bnd e
  cases e
  cases asI_of e1; cases asI_of e2
  cases rx.int'; cases ry.int'
  exact ⟨i, j, rfl, rfl, k ρ _ H (Nx.refl rs) (h i j d e3 _ _ _)⟩
theorem lk_sub {K : PySem.W.Frag} : Lk2 K (rI0 fun i j => .int (i - j)) Qm.gSub := lk_int0 fun i j d e ρ N H => by cases e; exact .int _
theorem lk_mul {K : PySem.W.Frag} : Lk2 K (rI IntMulOk fun i j => .int (i * j)) Qm.gMul := lk_int fun i j d e => by
  split at e
  · rename_i h
    cases e
    refine ⟨?_, fun _ _ _ => .int _⟩
    have e64 : (2 : Nat) ^ 64 = 18446744073709551616 := by decide
    rcases h with h | h | h
    · exact My.mulOk h.1 h.2 rfl
    · have := h.lt
      exact My.mulOkL (by omega) (by omega)
    · have := h.lt
      exact My.mulOkR (by omega) (by omega)
  · cases e
theorem lk_fdiv {K : PySem.W.Frag} : Lk2 K (rI CDivB fun i j => .int (i.fdiv j)) Qm.gFdiv := lk_int fun i j d e => by
  split at e
  · rename_i h
    cases e
    exact ⟨divB h.1 h.2 rfl, fun _ _ _ => .int _⟩
  · cases e
theorem lk_mod {K : PySem.W.Frag} : Lk2 K (rI (fun _ j => j ≠ 0) fun i j => .int (i.fmod j)) Qm.gMod := lk_int fun i j d e => by
  split at e
  · rename_i h
    cases e
    exact ⟨h, fun _ _ _ => .int _⟩
  · cases e
theorem lk_pow {K : PySem.W.Frag} : Lk2 K (rI CPow fun i j => .int (i ^ j.toNat)) Qm.gPow := lk_int fun i j d e => by
  split at e
  · rename_i h
    cases e
    exact ⟨⟨h.1, by omega, by (have := h.2.2; have : (2 : Nat) ^ 64 = 18446744073709551616 := (by decide); omega)⟩, fun _ _ _ => .int _⟩
  · cases e
theorem lk_lt {K : PySem.W.Frag} : Lk2 K (rI0 fun i j => .bl (decide (i < j))) Qm.gLt := lk_int0 fun i j d e ρ N H => by cases e; exact .bl _
theorem lk_gt {K : PySem.W.Frag} : Lk2 K (rI0 fun i j => .bl (decide (j < i))) Qm.gGt := lk_int0 fun i j d e ρ N H => by cases e; exact .bl _
theorem lk_ge {K : PySem.W.Frag} : Lk2 K (rI0 fun i j => .bl (decide (j ≤ i))) Qm.gGe := lk_int0 fun i j d e ρ N H => by cases e; exact .bl _
theorem lk_add {K : PySem.W.Frag} : Lk2 K (fun x y H Q => (rI0 fun i j => .int (i + j)) x y H Q ∨ (rCatT K x y H Q ∨ rCat x y H Q)) Qm.gAdd := by
  intro ρ c H x y d c' v u Q rs rx ry e k
  unfold Qm.gAdd at e
  split at e
  · cases e
    cases rx.int'; cases ry.int'
    exact .inl ⟨_, _, rfl, rfl, k ρ _ H (Nx.refl rs) (.int _)⟩
  · rename_i xs ys
    split at e
    · rename_i h
      cases e
      obtain ⟨p, vs, rfl, h1, a1⟩ := rx.tup'
      obtain ⟨q, us, rfl, h2, a2⟩ := ry.tup'
      have l1 := a1.length
      have l2 := a2.length
      refine .inr (.inl ⟨p, q, vs, us, rfl, rfl, SqT.of h1, SqT.of h2, ?_, line_le (by omega), fun z => ?_, fun _ l hl => ?_⟩)
      · intro z; subst z
        have : xs = [] := List.length_eq_zero_iff.mp (by simpa using l1)
        exact h.1 this
      · subst z
        have : ys = [] := List.length_eq_zero_iff.mp (by simpa using l2)
        subst this
        rw [List.append_nil] at k
        exact k ρ _ H (Nx.refl rs) (.tup h1 a1)
      · have n := Nx.same rs (same_new (z := .tup (vs ++ us)) hl)
        exact k ρ _ _ n (.tup upd_same ((a1.append a2).up n.up))
    · cases e
  · obtain ⟨p, e1, e⟩ := bnd e
    obtain ⟨q, e2, e⟩ := bnd e
    split at e
    · rename_i h
      cases e
      obtain ⟨_, hp, vs, rfl, h1, a1⟩ := rs.lstOf rx e1
      obtain ⟨_, hq, us, rfl, h2, a2⟩ := rs.lstOf ry e2
      have l1 := a1.length
      have l2 := a2.length
      refine .inr (.inr ⟨_, _, vs, us, rfl, rfl, h1, h2, line_le (by omega), fun l hl => ?_⟩)
      obtain ⟨n, r⟩ := Nx.alloc rs hl (a1.append a2)
      exact k _ _ _ n r
    · cases e
theorem op_addQ : OpR X (binaryOp .Add) (fun x y H Q => (rI0 fun i j => .int (i + j)) x y H Q ∨ (rCatT X.K x y H Q ∨ rCat x y H Q)) := op_add.or (op_catT.or op_cat)
theorem lk_ix {K : PySem.W.Frag} : Lk2 K (rIx K) Qm.gIx := by
  intro ρ c H x y d c' v u Q rs rx ry e k
  obtain ⟨xs, e1, e⟩ := bnd e
  obtain ⟨i, e2, e⟩ := bnd e
  obtain ⟨d', e3, e⟩ := bnd e
  cases e
  cases asI_of e2
  cases ry.int'
  obtain ⟨p, vs, rfl, h, a⟩ := rs.seq rx e1
  obtain ⟨j, hj, hx⟩ := bnd (show (Qm.ixD xs.length i).bind (fun j => xs[j]?) = some d from e3)
  obtain ⟨w, hw, rw'⟩ := a.get hx
  have hat : atI vs i = some w := by
    show (ixN vs.length i).bind (fun j => vs[j]?) = some w
    rw [← a.length, show ixN xs.length i = some j from hj]
    exact hw
  rcases h with h | h
  · exact .inl ⟨p, vs, i, w, rfl, rfl, h, hat, k ρ _ H (Nx.refl rs) rw'⟩
  · exact .inr (.inl ⟨p, vs, i, w, rfl, rfl, SqT.of h, hat, k ρ _ H (Nx.refl rs) rw'⟩)
theorem qe_item (ha : QE X a fa) (hb : QE X b fb) (hs : PlainIx b) : QE X (.Subscript a b pos) (Qm.e2 Qm.gIx fa fb) := qe_ix ix_seq lk_ix ha hb hs
theorem qe_neg (ha : QE X a fa) : QE X (.UnaryOp .USub a pos) (Qm.e1 Qm.gNeg fa) := (pe_un un_neg ha).imp fun σ H Q ⟨ρ, env, c, d, c', rs, re, e, k⟩ => by
  obtain ⟨p, e1, e⟩ := bnd e
  obtain ⟨i, e2, e⟩ := bnd e
  cases e
  refine ⟨ρ, env, c, p.1, p.2, rs, re, e1, fun ρ1 v H1 n1 r1 => ?_⟩
  rw [asI_of e2] at r1
  cases r1.int'
  exact ⟨i, rfl, k ρ1 _ H1 n1 (.int _)⟩
theorem qe_one {op} (h : QE X a fa) : QE X (.BoolOp op [a] pos) fa := pe_one h
theorem qe_and {rest : List Expr} (ha : QE X a fa) (hb : QE X (.BoolOp .And (b :: rest) pos) fb) : QE X (.BoolOp .And (a :: b :: rest) pos) (Qm.eAnd fa fb) := (pe_and ha hb).imp fun σ H Q ⟨ρ, env, c, d, c', rs, re, e, k⟩ => by
  obtain ⟨p, e1, e⟩ := bnd e
  obtain ⟨i, e2, e⟩ := bnd e
  refine ⟨ρ, env, c, p.1, p.2, rs, re, e1, fun ρ1 v H1 n1 r1 => ?_⟩
  rw [asB_of e2] at r1
  cases r1.bl'
  refine ⟨i, rfl, ?_⟩
  split at e
  · rename_i hi
    rw [if_pos hi]
    exact ⟨ρ1, env, p.2, d, c', n1.rs, re.up n1.up, e, fun ρ' w H' n r => k ρ' w H' (n1.trans n) r⟩
  · rename_i hi
    rw [if_neg hi]
    cases e
    exact k ρ1 _ H1 n1 (.bl _)
theorem qe_or {rest : List Expr} (ha : QE X a fa) (hb : QE X (.BoolOp .Or (b :: rest) pos) fb) : QE X (.BoolOp .Or (a :: b :: rest) pos) (Qm.eOr fa fb) := (pe_or ha hb).imp fun σ H Q ⟨ρ, env, c, d, c', rs, re, e, k⟩ => by
  obtain ⟨p, e1, e⟩ := bnd e
  obtain ⟨i, e2, e⟩ := bnd e
  refine ⟨ρ, env, c, p.1, p.2, rs, re, e1, fun ρ1 v H1 n1 r1 => ?_⟩
  rw [asB_of e2] at r1
  cases r1.bl'
  refine ⟨i, rfl, ?_⟩
  split at e
  · rename_i hi
    rw [if_pos hi]
    cases e
    exact k ρ1 _ H1 n1 (.bl _)
  · rename_i hi
    rw [if_neg hi]
    exact ⟨ρ1, env, p.2, d, c', n1.rs, re.up n1.up, e, fun ρ' w H' n r => k ρ' w H' (n1.trans n) r⟩
theorem qe_not (ha : QE X a fa) : QE X (.UnaryOp .Not a pos) (Qm.eNot fa) := (pe_not ha).imp fun σ H Q ⟨ρ, env, c, d, c', rs, re, e, k⟩ => by
  obtain ⟨p, e1, e⟩ := bnd e
  obtain ⟨i, e2, e⟩ := bnd e
  cases e
  refine ⟨ρ, env, c, p.1, p.2, rs, re, e1, fun ρ1 v H1 n1 r1 => ?_⟩
  rw [asB_of e2] at r1
  cases r1.bl'
  exact ⟨i, rfl, k ρ1 _ H1 n1 (.bl _)⟩
theorem qe_ifExp {c0 : Expr} (hc : QT X c0 ft) (ha : QE X a fa) (hb : QE X b fb) : QE X (.IfExp c0 a b pos) (Qm.eIf ft fa fb) := (pe_ifExp hc ha hb).imp fun σ H Q ⟨ρ, env, c, d, c', rs, re, e, k⟩ => by
  obtain ⟨p, e1, e⟩ := bnd e
  refine ⟨ρ, env, c, p.1, p.2, rs, re, e1, fun ρ1 H1 n1 => ?_⟩
  split at e
  · rename_i hi
    rw [if_pos hi]
    exact ⟨ρ1, env, p.2, d, c', n1.rs, re.up n1.up, e, fun ρ' w H' n r => k ρ' w H' (n1.trans n) r⟩
  · rename_i hi
    rw [if_neg hi]
    exact ⟨ρ1, env, p.2, d, c', n1.rs, re.up n1.up, e, fun ρ' w H' n r => k ρ' w H' (n1.trans n) r⟩
theorem qa_nil : QA X [] Qm.aNil := pa_nil.imp fun σ H Q ⟨ρ, env, c, ds, c', rs, re, e, k⟩ => by
  cases e
  exact k ρ [] H (Nx.refl rs) .nil
theorem qa_cons {fr : Qm.XA} (ha : QE X e fa) (hr : QA X es fr) (hs : starEach (e :: es) X.env = (false, eval e X.env) :: starEach es X.env := by rfl) : QA X (e :: es) (Qm.aCons fa fr) := (pa_cons ha hr hs).imp fun σ H Q ⟨ρ, env, c, ds, c', rs, re, e, k⟩ => by
  obtain ⟨p, e1, e⟩ := bnd e
  obtain ⟨q, e2, e⟩ := bnd e
  cases e
  exact ⟨ρ, env, c, p.1, p.2, rs, re, e1, fun ρ1 v H1 n1 r1 => ⟨ρ1, env, p.2, q.1, q.2, n1.rs, re.up n1.up, e2, fun ρ2 vs H2 n2 r2 => k ρ2 (v :: vs) H2 (n1.trans n2) (.cons (r1.up n2.up) r2)⟩⟩
theorem qe_tup {x1} {f : Qm.XA} (h : QA X es f) : QE X (.Tuple es x1 pos) (Qm.eTup f) := (pe_tup h).imp fun σ H Q ⟨ρ, env, c, d, c', rs, re, e, k⟩ => by
  obtain ⟨p, e1, e⟩ := bnd e
  split at e
  · rename_i hz
    cases e
    refine ⟨ρ, env, c, p.1, p.2, rs, re, e1, fun ρ1 vs H1 n1 r1 => ⟨line_le (by rw [← r1.length]; exact hz), fun l hl => ?_⟩⟩
    have n := Nx.same n1.rs (same_new (z := .tup vs) hl)
    exact k ρ1 _ _ (n1.trans n) (.tup upd_same (r1.up n.up))
  · cases e
theorem qe_lst {f : Qm.XA} (h : QA X es f) : QE X (.List es pos) (Qm.eLst f) := (pe_lst h).imp fun σ H Q ⟨ρ, env, c, d, c', rs, re, e, k⟩ => by
  obtain ⟨p, e1, e⟩ := bnd e
  split at e
  · rename_i hz
    cases e
    refine ⟨ρ, env, c, p.1, p.2, rs, re, e1, fun ρ1 vs H1 n1 r1 => ⟨line_le (by rw [← r1.length]; exact hz), fun l hl => ?_⟩⟩
    obtain ⟨n, r⟩ := Nx.alloc n1.rs hl r1
    exact k _ _ _ (n1.trans n) r
  · cases e
def spD (K : PySem.W.Frag) (F : Qm.FN) : Sp := fun vs H Q _ => ∃ ρ c ds d c', RS K ρ c H ∧ RA K ρ c.length H ds vs ∧ F ds c = some (d, c') ∧ ∀ ρ' v H', Nx K ρ c H ρ' c' H' → RD K ρ' c'.length H' d v → Q v H'
theorem tCall_q {K : PySem.W.Frag} {F : Qm.FN} {f : Qm.XA} {ds : List Qm.D} {dvs : List V} {E : XK} (hd : ∀ ρ N H, RA K ρ N H ds dvs) {σ : St} {H : Hp} {Q : VK} (h : TQ K (Qm.eCall F ds f) σ H Q) : tCall (spD K F) dvs E (AQ K f) σ H Q := by
  obtain ⟨ρ, env, c, d, c', rs, re, e, k⟩ := h
  obtain ⟨p, e1, e⟩ := bnd e
  exact ⟨ρ, env, c, p.1, p.2, rs, re, e1, fun ρ1 vs H1 n1 r1 => ⟨ρ1, p.2, p.1 ++ ds, d, c', n1.rs, r1.append (hd _ _ _), e, fun ρ' v H' n r => k ρ' v H' (n1.trans n) r⟩⟩
theorem qe_call {k : Nat} {f : Addr} {fd : FuncData} {ps : List Str} {F : Qm.FN} {dvs : List V} {ds : List Value} {x : Str} {p : Pos} {fx : Qm.XA} (qs : List Qm.D) (G : FnOk X.prog X.w X.K X.mg X.base CX0 k f fd ps (spD X.K F)) (hr : Room k X.A) (hg : Gl X x) (hm : X.mg x = some (.ref f)) (hk : PySem.W.keepIn X.K (.ref f) = true) (hb : Binds X.K fd ps ds) (hd : Vals dvs ds) (hq : ∀ ρ N H, RA X.K ρ N H qs dvs)
    (ha : QA X (e :: es) fx) (hdb : (x == ("__debug__" : Str)) = false := by decide) (he : starEach (e :: es) X.env = (false, eval e X.env) :: starEach es X.env := by rfl) (hpl : (backTo pos (starEach es X.env)).any (·.1) = false := by rfl) :
    QE X (.Call (.Name x p) (e :: es) [] pos) (Qm.eCall F qs fx) := (pe_call (E := E0) G hr hg hm hk hb hd pass0 ha hdb he hpl).imp fun _ _ _ h => tCall_q hq h
def LkF (K : PySem.W.Frag) (r : List V → Hp → VK → Prop) (F : Qm.FN) : Prop := ∀ ρ c H ds d c' vs Q, RS K ρ c H → RA K ρ c.length H ds vs → F ds c = some (d, c') → (∀ ρ' w H', Nx K ρ c H ρ' c' H' → RD K ρ' c'.length H' d w → Q w H') → r vs H Q
theorem tCB_q {K : PySem.W.Frag} {r : List V → Hp → VK → Prop} {F : Qm.FN} (hl : LkF K r F) {f : Qm.XA} {σ : St} {H : Hp} {Q : VK} (h : TQ K (Qm.eB F f) σ H Q) : tCB r (AQ K f) σ H Q := by
  obtain ⟨ρ, env, c, d, c', rs, re, e, k⟩ := h
  obtain ⟨p, e1, e⟩ := bnd e
  exact ⟨ρ, env, c, p.1, p.2, rs, re, e1, fun ρ1 vs H1 n1 r1 => hl ρ1 p.2 H1 p.1 d c' vs Q n1.rs r1 e fun ρ' v H' n r => k ρ' v H' (n1.trans n) r⟩
theorem qe_callB {id : String} {r : List V → Hp → VK → Prop} {F : Qm.FN} {x : Str} {p : Pos} {f : Qm.XA} (hc : CallR X (.builtin id) r) (hl : LkF X.K r F) (hg : Gl X x) (hm : X.mg x = none) (hv : bootBuiltins x = some (.builtin id)) (ha : QA X (e :: es) f) (hn : x ≠ "__name__" := by decide) (hdb : (x == ("__debug__" : Str)) = false := by decide)
    (he : starEach (e :: es) X.env = (false, eval e X.env) :: starEach es X.env := by rfl) (hpl : (backTo pos (starEach es X.env)).any (·.1) = false := by rfl) : QE X (.Call (.Name x p) (e :: es) [] pos) (Qm.eB F f) := (pe_callB hc hg hm hv ha hn hdb he hpl).imp fun _ _ _ h => tCB_q hl h
theorem qe_callTy {id : String} {r : List V → Hp → VK → Prop} {F : Qm.FN} {x : Str} {p : Pos} {f : Qm.XA} (hc : CallR X (.type id) r) (hl : LkF X.K r F) (hg : Gl X x) (hm : X.mg x = none) (hv : bootBuiltins x = some (.type id)) (ha : QA X (e :: es) f) (hn : x ≠ "__name__" := by decide) (hdb : (x == ("__debug__" : Str)) = false := by decide)
    (he : starEach (e :: es) X.env = (false, eval e X.env) :: starEach es X.env := by rfl) (hpl : (backTo pos (starEach es X.env)).any (·.1) = false := by rfl) : QE X (.Call (.Name x p) (e :: es) [] pos) (Qm.eB F f) := (pe_callTy hc hg hm hv ha hn hdb he hpl).imp fun _ _ _ h => tCB_q hl h
end
end L2
namespace L2
open PySem PySem.Spec PyProof.Rows
section
variable {X : Cx} {a b e : Expr} {es : List Expr} {fa fb fc fe : Qm.XE} {ft fu : Qm.XT} {pos : Pos}
theorem tB_q {K : PySem.W.Frag} {t : TE} {f : Qm.XE} (ht : ∀ σ H Q, TQ K f σ H Q → t σ H Q) {σ : St} {H : Hp} {Q : Bool → Hp → Prop} (h : BQ K (Qm.tV f) σ H Q) : t σ H fun x H1 => ∃ k, x = .bl k ∧ Q k H1 := by
  obtain ⟨ρ, env, c, d, c', rs, re, e, k⟩ := h
  obtain ⟨p, e1, e⟩ := bnd e
  obtain ⟨i, e2, e⟩ := bnd e
  cases e
  refine ht σ H _ ⟨ρ, env, c, p.1, p.2, rs, re, e1, fun ρ1 v H1 n1 r1 => ?_⟩
  rw [asB_of e2] at r1
  cases r1.bl'
  exact ⟨_, rfl, k ρ1 H1 n1⟩
theorem qt_val (h : QE X e fe) (he : ∀ whole, isTrue e X.env whole = (do let v ← whole; standAt e.pos; holding [v] (truthy v)) := by intro _; rfl) : QT X e (Qm.tV fe) := (pt_val h he).imp fun _ _ _ q => tB_q (fun _ _ _ z => z) q
theorem qt_cmp {op : CmpOp} {r : R2} {g : Qm.G2} (ho : OpR X (compareOp op) r) (hl : Lk2 X.K r g) (ha : QE X a fa) (hb : QE X b fb) (hm : behindInMarks op b = false) : QT X (.Compare a [op] [b] pos) (Qm.tV (Qm.e2 g fa fb)) := (pt_cmpR ho ha hb hm).imp fun _ _ _ q => tB_q (fun _ _ _ z => tOp_q hl z) q
theorem qw_and1 (ha : QT X a ft) : QW X (.BoolOp .And [a] pos) ft := pw_and1 ha
theorem qw_or1 (ha : QT X a ft) : QW X (.BoolOp .Or [a] pos) ft := pw_or1 ha
theorem qw_and {rest : List Expr} (ha : QT X a ft) (hb : QW X (.BoolOp .And (b :: rest) pos) fu) : QW X (.BoolOp .And (a :: b :: rest) pos) (Qm.tAnd ft fu) := (pw_and ha hb).imp fun σ H Q ⟨ρ, env, c, d, c', rs, re, e, k⟩ => by
  obtain ⟨p, e1, e⟩ := bnd e
  refine ⟨ρ, env, c, p.1, p.2, rs, re, e1, fun ρ1 H1 n1 => ?_⟩
  split at e
  · rename_i hi
    rw [if_pos hi]
    exact ⟨ρ1, env, p.2, d, c', n1.rs, re.up n1.up, e, fun ρ' H' n => k ρ' H' (n1.trans n)⟩
  · rename_i hi
    rw [if_neg hi]
    cases e
    exact k ρ1 H1 n1
theorem qw_or {rest : List Expr} (ha : QT X a ft) (hb : QW X (.BoolOp .Or (b :: rest) pos) fu) : QW X (.BoolOp .Or (a :: b :: rest) pos) (Qm.tOr ft fu) := (pw_or ha hb).imp fun σ H Q ⟨ρ, env, c, d, c', rs, re, e, k⟩ => by
  obtain ⟨p, e1, e⟩ := bnd e
  refine ⟨ρ, env, c, p.1, p.2, rs, re, e1, fun ρ1 H1 n1 => ?_⟩
  split at e
  · rename_i hi
    rw [if_pos hi]
    cases e
    exact k ρ1 H1 n1
  · rename_i hi
    rw [if_neg hi]
    exact ⟨ρ1, env, p.2, d, c', n1.rs, re.up n1.up, e, fun ρ' H' n => k ρ' H' (n1.trans n)⟩
theorem qt_not (ha : QT X a ft) : QT X (.UnaryOp .Not a pos) (Qm.tNot ft) := (pt_not ha).imp fun σ H Q ⟨ρ, env, c, d, c', rs, re, e, k⟩ => by
  obtain ⟨p, e1, e⟩ := bnd e
  cases e
  exact ⟨ρ, env, c, p.1, p.2, rs, re, e1, fun ρ1 H1 n1 => k ρ1 H1 n1⟩
theorem qo_none : QO X none Qm.oNone := po_none.imp fun σ H Q ⟨ρ, env, c, d, c', rs, re, e, k⟩ => by
  cases e
  exact k ρ H (Nx.refl rs)
theorem qo_some (h : QE X e fe) : QO X (some e) (Qm.oSome fe) := (po_some h).imp fun σ H Q ⟨ρ, env, c, d, c', rs, re, e, k⟩ => by
  obtain ⟨p, e1, e⟩ := bnd e
  refine ⟨ρ, env, c, p.1, p.2, rs, re, e1, fun ρ1 v H1 n1 r1 => ?_⟩
  split at e
  · rename_i i hi
    cases e
    rw [hi] at r1
    cases r1.int'
    exact ⟨_, rfl, k ρ1 H1 n1⟩
  · cases e
theorem cut_link {K : PySem.W.Frag} {ρ : Nat → Addr} {N : Nat} {H : Hp} {ds : List Qm.D} {vs : List V} (a : RA K ρ N H ds vs) (lo hi : Option Int) : RA K ρ N H (Qm.cutD ds lo hi) (cutV vs lo hi) := by
  have e : ∀ n d o, Qm.sxD n d o = HT.sIx n d o := fun n d o => by cases o <;> rfl
  unfold Qm.cutD cutV
  rw [e, e, a.length]
  exact (a.drop _).take _
end
section
variable {prog : Program} {w : World} {A : Around} {E : Value → Shared → Prop} {s : Shared}
theorem getItem_tuple_whole {t sl : Addr} {items : Array Value} {vl vu : Value} {lo hi : Option Int} {Q : Value → Shared → Prop} (ht : IsTup s.heap t items) (hs : s.heap.IsSliceOf sl vl vu .none) (pl : IsPart vl lo) (pu : IsPart vu hi)
    (hw : HT.sIx items.size 0 lo = 0 ∧ HT.sIx items.size items.size hi = items.size) (h : Q (.ref t) s) : wpAny (model prog w) A (getItem (.ref t) (.ref sl)) Q E s := by
  obtain ⟨os, hos, hcs, hds⟩ := id hs
  have hTs : s.TypeIs (.ref sl) "slice" := ⟨os, hos, hcs⟩
  unfold getItem
  try with_reducible refine wpAny_holding ?_
  first | refine wpAny_bind (wpAny_pure ?_) | skip
  refine wpAny_bind (wpAny_sequenceKey ht.typeIs (by decide) ?_)
  refine wpAny_bind (wpAny_callSpecial?_slot (name := Str.ofString "__getitem__") ht.typeIs PyProof.Rows.slot_tuple_getitem
    (wpAny_call_entry PyProof.Rows.slot_tuple_getitem ht.typeIs entry_tuple_getitem ?_ (args_tuple_getitem _ _)))
  show wpAny _ _ (Builtin.Tuple.tupleItemsOf (.ref t) >>= _) _ _ s
  refine wpAny_bind (tupleItemsOf_ ht ?_)
  refine wpAny_bind (wpAny_typeOf hTs ?_)
  rw [if_pos (by decide)]
  refine wpAny_bind (HT.sliceApplied_gen hs pl pu ?_)
  have hyes : (((HT.sIx items.size 0 lo : Nat) : Int) == 0 && (1 : Int) == 1 && (HT.sIx items.size items.size hi - HT.sIx items.size 0 lo) == items.size) = true := by
    rw [hw.1, hw.2]; simp
  show wpAny _ _ (if (((HT.sIx items.size 0 lo : Nat) : Int) == 0 && (1 : Int) == 1 && (HT.sIx items.size items.size hi - HT.sIx items.size 0 lo) == items.size) = true then _ else _) _ _ s
  rw [if_pos hyes]
  unfold Builtin.Tuple.tupleIsExact
  refine wpAny_bind (wpAny_bind (wpAny_typeOf ht.typeIs (wpAny_pure ?_)))
  rw [if_pos (by decide)]
  refine wpAny_bind (wpAny_rule ?_)
  exact wpAny_pure ⟨_, rfl, wpAny_pure h⟩
end
section
variable {X : Cx} {a b e : Expr} {es : List Expr} {fa fb fc fe : Qm.XE} {ft fu : Qm.XT} {pos p2 : Pos} {lo hi : Option Expr} {fl fh : Qm.XO}
def rSlTW (K : PySem.W.Frag) : V → Option Int → Option Int → Hp → VK → Prop := fun x lo hi H Q => ∃ a xs, x = .ref a ∧ SqT K H a xs ∧ (HT.sIx xs.length 0 lo = 0 ∧ HT.sIx xs.length xs.length hi = xs.length) ∧ Q (.ref a) H
theorem sl_tupW : SlR X (rSlTW X.K) := by
  intro pins s σ H x v vl vu lo hi sl Q I rx hs pl pu h
  obtain ⟨a, xs, rfl, hx, hw, q⟩ := h
  cases rx
  obtain ⟨its, r, ht, hz⟩ := I.tuple hx
  have hlen : its.toArray.size = xs.length := by rw [List.size_toArray]; exact r.length.symm
  refine ⟨"tuple", _, PyProof.Rows.slot_tuple_getitem.lookup, ht.typeIs, ?_⟩
  exact getItem_tuple_whole ht hs pl pu (by rw [hlen]; exact hw) ⟨.ref a, H, I, rfl, q⟩
def rCut (K : PySem.W.Frag) : V → Option Int → Option Int → Hp → VK → Prop := fun x lo hi H Q => rSlT K x lo hi H Q ∨ (rSlTW K x lo hi H Q ∨ rSlL K x lo hi H Q)
theorem sl_cut : SlR X (rCut X.K) := sl_tup.or (sl_tupW.or sl_list)
theorem lk_cut {K : PySem.W.Frag} {ρ : Nat → Addr} {c c' : Qm.Cells} {H : Hp} {x d : Qm.D} {v : V} {lo hi : Option Int} {Q : VK} (rs : RS K ρ c H) (rx : RD K ρ c.length H x v) (e : Qm.gCut x lo hi c = some (d, c')) (k : ∀ ρ' w H', Nx K ρ c H ρ' c' H' → RD K ρ' c'.length H' d w → Q w H') : rCut K v lo hi H Q := by
  unfold Qm.gCut at e
  split at e
  · rename_i xs
    cases e
    obtain ⟨p, vs, rfl, h1, a1⟩ := rx.tup'
    by_cases hw : HT.sIx vs.length 0 lo = 0 ∧ HT.sIx vs.length vs.length hi = vs.length
    · refine .inr (.inl ⟨p, vs, rfl, SqT.of h1, hw, ?_⟩)
      have : cutV vs lo hi = vs := by
        unfold cutV
        rw [hw.1, hw.2]; simp
      have a2 := cut_link a1 lo hi
      rw [this] at a2
      exact k ρ _ H (Nx.refl rs) (.tup h1 a2)
    · refine .inl ⟨p, vs, rfl, SqT.of h1, hw, fun l hl => ?_⟩
      have n := Nx.same rs (same_new (z := .tup (cutV vs lo hi)) hl)
      exact k ρ _ _ n (.tup upd_same ((cut_link a1 lo hi).up n.up))
  · rename_i x' hne
    obtain ⟨xs, e1, e⟩ := bnd e
    cases e
    rcases seqOf_cases e1 with z | ⟨n, z⟩
    · exact absurd z (hne xs)
    · subst z
      obtain ⟨vs, rfl, h, a⟩ := rs.seqR rx e1
      refine .inr (.inr ⟨_, vs, rfl, h, fun l hl => ?_⟩)
      obtain ⟨n, r⟩ := Nx.alloc rs hl (cut_link a lo hi)
      exact k _ _ _ n r
theorem qe_slice (he : QE X e fe) (hl : QO X lo fl) (hu : QO X hi fh) : QE X (.Subscript e (.Slice lo hi none p2) pos) (Qm.eSl Qm.gCut fe fl fh) := (pe_slice sl_cut he hl hu).imp fun σ H Q ⟨ρ, env, c, d, c', rs, re, e, k⟩ => by
  obtain ⟨p, e1, e⟩ := bnd e
  obtain ⟨l, e2, e⟩ := bnd e
  obtain ⟨h, e3, e⟩ := bnd e
  exact ⟨ρ, env, c, p.1, p.2, rs, re, e1, fun ρ1 v H1 n1 r1 => ⟨ρ1, env, p.2, l.1, l.2, n1.rs, re.up n1.up, e2, fun ρ2 H2 n2 => ⟨ρ2, env, l.2, h.1, h.2, n2.rs, re.up (n1.trans n2).up, e3, fun ρ3 H3 n3 =>
    lk_cut n3.rs ((r1.up n2.up).up n3.up) e fun ρ' w H' n r => k ρ' w H' (n1.trans (n2.trans (n3.trans n))) r⟩⟩⟩
def LkM (K : PySem.W.Frag) (r : V → List V → Hp → VK → Prop) (g : Qm.D → Qm.FN) : Prop := ∀ ρ c H x ds d c' v vs Q, RS K ρ c H → RD K ρ c.length H x v → RA K ρ c.length H ds vs → g x ds c = some (d, c') → (∀ ρ' w H', Nx K ρ c H ρ' c' H' → RD K ρ' c'.length H' d w → Q w H') → r v vs H Q
theorem tyL {K : PySem.W.Frag} {ρ : Nat → Addr} {c : Qm.Cells} {H : Hp} {x : Qm.D} {v : V} {z : Nat × List Qm.D} (rs : RS K ρ c H) (rx : RD K ρ c.length H x v) (e : Qm.lstOf x c = some z) : tyV K "list" v H := by
  obtain ⟨_, _, vs, rfl, h, _⟩ := rs.lstOf rx e
  exact .inl ⟨rfl, _, SqL.of h⟩
theorem qe_m {name : Str} {id : String} {r : V → List V → Hp → VK → Prop} {g : Qm.D → Qm.FN} {o : Expr} {fo : Qm.XE} {f : Qm.XA} {apos cpos : Pos} (slot : Slot "list" name id) (hty : typeOf (.builtin id) = pure (.type "method_descriptor")) (hm : MtM X id r) (hl : LkM X.K r g) (ho : QE X o fo) (ha : QA X (e :: es) f)
    (hbase : attributeBase o name X.env (eval o X.env) = eval o X.env := by rfl)
    (hfew : ((backTo cpos (starEach (e :: es) X.env)).all (fun x => !x.1) && (backToKw cpos (keywordEach [] X.env)).all (fun x => x.1.isSome)
      && decide ((e :: es).length + ([] : List Keyword).length + (if ([] : List Keyword).isEmpty then 0 else 1) < 30)) = true := by rfl)
    (hline : (apos.endLine == cpos.line) = true := by rfl) (hs : starEach (e :: es) X.env = (false, eval e X.env) :: starEach es X.env := by rfl) (hplain : (backTo cpos (starEach es X.env)).any (·.1) = false := by rfl) :
    QE X (.Call (.Attribute o name apos) (e :: es) [] cpos) (Qm.eM g fo f) := (pe_bm PySem.F.plainAttrs_list slot hty hm ho ha hbase hfew hline hs hplain).imp fun σ H Q ⟨ρ, env, c, d, c', rs, re, e, k⟩ => by
  obtain ⟨p, e1, e⟩ := bnd e
  obtain ⟨z, e2, e⟩ := bnd e
  obtain ⟨q, e3, e⟩ := bnd e
  exact ⟨ρ, env, c, p.1, p.2, rs, re, e1, fun ρ1 v H1 n1 r1 => ⟨tyL n1.rs r1 e2, ρ1, env, p.2, q.1, q.2, n1.rs, re.up n1.up, e3, fun ρ2 vs H2 n2 r2 =>
    hl ρ2 q.2 H2 p.1 q.1 d c' v vs Q n2.rs (r1.up n2.up) r2 e fun ρ' w H' n r => k ρ' w H' (n1.trans (n2.trans n)) r⟩⟩
theorem qe_m0 {name : Str} {id : String} {r : V → List V → Hp → VK → Prop} {g : Qm.D → Qm.FN} {o : Expr} {fo : Qm.XE} {apos cpos : Pos} (slot : Slot "list" name id) (hty : typeOf (.builtin id) = pure (.type "method_descriptor")) (hm : MtM X id r) (hl : LkM X.K r g) (ho : QE X o fo)
    (hbase : attributeBase o name X.env (eval o X.env) = eval o X.env := by rfl) (hline : (apos.endLine == cpos.line) = true := by rfl) :
    QE X (.Call (.Attribute o name apos) [] [] cpos) (Qm.eM g fo Qm.aNil) := (pe_bm0 PySem.F.plainAttrs_list slot hty hm ho hbase hline).imp fun σ H Q ⟨ρ, env, c, d, c', rs, re, e, k⟩ => by
  obtain ⟨p, e1, e⟩ := bnd e
  obtain ⟨z, e2, e⟩ := bnd e
  obtain ⟨q, e3, e⟩ := bnd e
  cases e3
  exact ⟨ρ, env, c, p.1, p.2, rs, re, e1, fun ρ1 v H1 n1 r1 => ⟨tyL n1.rs r1 e2, hl ρ1 p.2 H1 p.1 [] d c' v [] Q n1.rs r1 .nil e fun ρ' w H' n r => k ρ' w H' (n1.trans n) r⟩⟩
theorem lk_append {K : PySem.W.Frag} : LkM K rAppend Qm.mAppend := by
  intro ρ c H x ds d c' v vs Q rs rx ra e k
  unfold Qm.mAppend Qm.one at e
  split at e
  · rename_i y
    obtain ⟨l, e1, e⟩ := bnd e
    obtain ⟨u, rfl, ry⟩ := ra.one'
    split at e
    · rename_i hz
      cases e
      obtain ⟨_, hn, ws, rfl, h, a⟩ := rs.lstOf rx e1
      have n := Nx.put rs hn (a.append (RA.one ry))
      exact ⟨_, ws, u, rfl, rfl, h, line_lt (by rw [← a.length]; exact hz), k ρ _ _ n .non⟩
    · cases e
  · cases e
theorem lk_extend {K : PySem.W.Frag} : LkM K rExtend Qm.mExtend := by
  intro ρ c H x ds d c' v vs Q rs rx ra e k
  unfold Qm.mExtend Qm.one at e
  split at e
  · rename_i y
    obtain ⟨l, e1, e⟩ := bnd e
    obtain ⟨z, e2, e⟩ := bnd e
    obtain ⟨u, rfl, ry⟩ := ra.one'
    split at e
    · rename_i hz
      cases e
      obtain ⟨_, hn, ws, rfl, h, a⟩ := rs.lstOf rx e1
      obtain ⟨_, hn2, us, rfl, h2, a2⟩ := rs.lstOf ry e2
      have n := Nx.put rs hn (a.append a2)
      exact ⟨_, _, ws, us, rfl, rfl, h, h2, line_le (by rw [← a.length, ← a2.length]; exact hz), k ρ _ _ n .non⟩
    · cases e
  · cases e
theorem lk_clear {K : PySem.W.Frag} : LkM K rClear Qm.mClear := by
  intro ρ c H x ds d c' v vs Q rs rx ra e k
  unfold Qm.mClear at e
  split at e
  · obtain ⟨l, e1, e⟩ := bnd e
    cases ra.nil'
    cases e
    obtain ⟨_, hn, ws, rfl, h, a⟩ := rs.lstOf rx e1
    exact ⟨_, ws, rfl, rfl, h, k ρ _ _ (Nx.put rs hn .nil) .non⟩
  · cases e
theorem one_of {g : Qm.G1} {ds : List Qm.D} {c : Qm.Cells} {z} (h : Qm.one g ds c = some z) : ∃ x, ds = [x] ∧ g x c = some z := by
  unfold Qm.one at h
  split at h
  · exact ⟨_, rfl, h⟩
  · cases h
theorem two_of {g : Qm.G2} {ds : List Qm.D} {c : Qm.Cells} {z} (h : Qm.two g ds c = some z) : ∃ x y, ds = [x, y] ∧ g x y c = some z := by
  unfold Qm.two at h
  split at h
  · exact ⟨_, _, rfl, h⟩
  · cases h
theorem lk_abs {K : PySem.W.Frag} : LkF K (fun xs H Q => ∃ i, xs = [.int i] ∧ Q (.int (if i < 0 then -i else i)) H) Qm.bAbs := by
  intro ρ c H ds d c' vs Q rs ra e k
  obtain ⟨x, rfl, e⟩ := one_of e
  obtain ⟨v, rfl, rx⟩ := ra.one'
  obtain ⟨i, e1, e⟩ := bnd e
  cases e
  cases asI_of e1
  cases rx.int'
  exact ⟨i, rfl, k ρ _ H (Nx.refl rs) (.int _)⟩
theorem lk_len {K : PySem.W.Frag} : LkF K (fun xs H Q => ∃ p ys, xs = [.ref p] ∧ (SqL K H p ys ∨ SqT K H p ys) ∧ Q (.int ys.length) H) Qm.bLen := by
  intro ρ c H ds d c' vs Q rs ra e k
  obtain ⟨x, rfl, e⟩ := one_of e
  obtain ⟨v, rfl, rx⟩ := ra.one'
  obtain ⟨xs, e1, e⟩ := bnd e
  cases e
  obtain ⟨p, ws, rfl, h, a⟩ := rs.seq rx e1
  exact ⟨p, ws, rfl, h.imp id SqT.of, k ρ _ H (Nx.refl rs) (by rw [a.length]; exact .int _)⟩
theorem lk_intB {K : PySem.W.Frag} : LkF K (fun xs H Q => (∃ i, xs = [.int i] ∧ Q (.int i) H) ∨ ∃ k, xs = [.bl k] ∧ Q (.int (if k then 1 else 0)) H) Qm.bInt := by
  intro ρ c H ds d c' vs Q rs ra e k
  obtain ⟨x, rfl, e'⟩ := one_of e
  obtain ⟨v, rfl, rx⟩ := ra.one'
  split at e'
  · cases e'
    cases rx.int'
    exact .inl ⟨_, rfl, k ρ _ H (Nx.refl rs) (.int _)⟩
  · cases e'
    cases rx.bl'
    exact .inr ⟨_, rfl, k ρ _ H (Nx.refl rs) (.int _)⟩
  · cases e'
theorem lk_list {K : PySem.W.Frag} : LkF K (fun xs H Q => ∃ p ys, xs = [.ref p] ∧ (SqL K H p ys ∨ SqT K H p ys) ∧ ∀ l, H l = none → Q (.ref l) (upd H l (.lst ys))) Qm.bList := by
  intro ρ c H ds d c' vs Q rs ra e k
  obtain ⟨x, rfl, e⟩ := one_of e
  obtain ⟨v, rfl, rx⟩ := ra.one'
  obtain ⟨xs, e1, e⟩ := bnd e
  cases e
  obtain ⟨p, ws, rfl, h, a⟩ := rs.seq rx e1
  refine ⟨p, ws, rfl, h.imp id SqT.of, fun l hl => ?_⟩
  obtain ⟨n, r⟩ := Nx.alloc rs hl a
  exact k _ _ _ n r
end
end L2
namespace L2
open PySem PySem.Spec PyProof.Rows
section
variable {X : Cx} {a b e tg : Expr} {es : List Expr} {fa fb fc fe : Qm.XE} {ft fu : Qm.XT} {pos : Pos} {st : Stmt} {rest : List Stmt} {fs fr : Qm.XS} {fg : Qm.XG}
theorem qss_nil : QSs X [] Qm.sNil := pss_nil.imp fun D σ H ⟨ρ, env, c, fl, env', c', rs, re, e, k⟩ => by
  cases e
  exact k ρ H (Nx.refl rs) σ re
theorem qss_cons (h1 : QS X st fs) (h2 : QSs X rest fr) : QSs X (st :: rest) (Qm.sSeq fs fr) := (pss_cons h1 h2).imp fun D σ H ⟨ρ, env, c, fl, env', c', rs, re, e, k⟩ => by
  obtain ⟨p, e1, e⟩ := bnd e
  obtain ⟨f, e2, c2⟩ := p
  cases f with
  | nx => exact ⟨ρ, env, c, .nx, e2, c2, rs, re, e1, fun ρ1 H1 n1 σ1 re1 => ⟨ρ1, e2, c2, fl, env', c', n1.rs, re1, e, fun ρ' H' n => k ρ' H' (n1.trans n)⟩⟩
  | rt d => cases e; exact ⟨ρ, env, c, .rt d, env', c', rs, re, e1, fun ρ1 H1 n1 => k ρ1 H1 n1⟩
  | bk => cases e; exact ⟨ρ, env, c, .bk, env', c', rs, re, e1, fun ρ1 H1 n1 => k ρ1 H1 n1⟩
  | ct => cases e; exact ⟨ρ, env, c, .ct, env', c', rs, re, e1, fun ρ1 H1 n1 => k ρ1 H1 n1⟩
theorem qss_one (h1 : QS X st fs) : QSs X [st] fs := pss_one h1
theorem qs_expr (he : QE X e fe) (hs : swapsWith e none pos.line X.env = pure false := by rfl) : QS X (.Expr e pos) (Qm.sExpr fe) := (ps_expr he hs).imp fun D σ H ⟨ρ, env, c, fl, env', c', rs, re, e, k⟩ => by
  obtain ⟨p, e1, e⟩ := bnd e
  cases e
  exact ⟨ρ, env, c, p.1, p.2, rs, re, e1, fun ρ1 v H1 n1 _ => k ρ1 H1 n1 σ (re.up n1.up)⟩
theorem qs_ret (he : QE X e fe) : QS X (.Return (some e) pos) (Qm.sRet fe) := (ps_ret he).imp fun D σ H ⟨ρ, env, c, fl, env', c', rs, re, e, k⟩ => by
  obtain ⟨p, e1, e⟩ := bnd e
  cases e
  exact ⟨ρ, env, c, p.1, p.2, rs, re, e1, fun ρ1 v H1 n1 r1 => k ρ1 H1 n1 v r1⟩
theorem qs_if {c0 : Expr} {x y : List Stmt} (hc : QT X c0 ft) (ha : QSs X x fs) (hb : QSs X y fr) : QS X (.If c0 x y pos) (Qm.sIf ft fs fr) := (ps_if hc ha hb).imp fun D σ H ⟨ρ, env, c, fl, env', c', rs, re, e, k⟩ => by
  obtain ⟨p, e1, e⟩ := bnd e
  refine ⟨ρ, env, c, p.1, p.2, rs, re, e1, fun ρ1 H1 n1 => ?_⟩
  split at e
  · rename_i hi
    rw [if_pos hi]
    exact ⟨ρ1, env, p.2, fl, env', c', n1.rs, re.up n1.up, e, fun ρ' H' n => k ρ' H' (n1.trans n)⟩
  · rename_i hi
    rw [if_neg hi]
    exact ⟨ρ1, env, p.2, fl, env', c', n1.rs, re.up n1.up, e, fun ρ' H' n => k ρ' H' (n1.trans n)⟩
theorem qs_set {i : Nat} {x : Str} {pos' : Pos} (hN : X.N.Nodup) (hi : X.N[i]? = some x) (hx : Loc X.env.scope x) (he : QE X e fe) (hs : swapsWith e (some (.Name x pos')) pos.line X.env = pure false := by rfl) (hf : X.fn x = true ∨ X.env.scope.names.lookup x = some .local := by first | exact .inl rfl | exact .inr rfl | assumption) :
    QS X (.Assign [.Name x pos'] e pos) (Qm.sSet i fe) := (ps_set hN hi hx he hs hf).imp fun D σ H ⟨ρ, env, c, fl, env', c', rs, re, e, k⟩ => by
  obtain ⟨p, e1, e⟩ := bnd e
  cases e
  exact ⟨ρ, env, c, p.1, p.2, rs, re, e1, fun ρ1 v H1 n1 r1 => k ρ1 H1 n1 _ ((re.up n1.up).set r1)⟩
theorem qs_asg (he : QE X e fe) (hg : QG X tg fg) (hs : swapsWithSole [tg] e pos.line X.env = pure false := by rfl) (hw : swappedStores [tg] e X.env = pure none := by rfl)
    (h1 : (assignEach [tg] X.env).map (·.2) = [assign tg X.env] := by rfl) : QS X (.Assign [tg] e pos) (Qm.sAsg fe fg) := (ps_asg he hg hs hw h1).imp fun D σ H ⟨ρ, env, c, fl, env', c', rs, re, e, k⟩ => by
  obtain ⟨p, e1, e⟩ := bnd e
  obtain ⟨q, e2, e⟩ := bnd e
  cases e
  exact ⟨ρ, env, c, p.1, p.2, rs, re, e1, fun ρ1 v H1 n1 r1 => ⟨ρ1, env, p.2, p.1, q.1, q.2, n1.rs, re.up n1.up, r1, e2, fun ρ' H' σ' n re' => k ρ' H' (n1.trans n) σ' re'⟩⟩
theorem qs_par2 {i j : Nat} {x y : Str} {f : Qm.XA} {px py pt : Pos} {kt k2 pt2} (hc : X.calm = true) (hN : X.N.Nodup) (hi : X.N[i]? = some x) (hj : X.N[j]? = some y) (hij : i ≠ j)
    (hx : X.env.scope.names.lookup x = some .local) (hy : X.env.scope.names.lookup y = some .local) (ha : QA X [a, b] f)
    (hw : swappedStores [.Tuple [.Name x px, .Name y py] kt pt] (.Tuple [a, b] k2 pt2) X.env = pure (some [x, y]))
    (hs : swapsWithSole [.Tuple [.Name x px, .Name y py] kt pt] (.Tuple [a, b] k2 pt2) pos.line X.env = pure false := by rfl) :
    QS X (.Assign [.Tuple [.Name x px, .Name y py] kt pt] (.Tuple [a, b] k2 pt2) pos) (Qm.sPar [i, j] f) := (ps_par hc hN hi hj hij hx hy ha hw hs).imp fun D σ H ⟨ρ, env, c, fl, env', c', rs, re, e, k⟩ => by
  obtain ⟨p, e1, e⟩ := bnd e
  split at e
  · rename_i hl
    cases e
    refine ⟨ρ, env, c, p.1, p.2, rs, re, e1, fun ρ1 vs H1 n1 r1 => ?_⟩
    obtain ⟨ds, c2⟩ := p
    match ds, hl, r1 with
    | [d1, d2], _, r1 =>
      obtain ⟨v, u, rfl, ra, rb⟩ := r1.two'
      exact ⟨v, u, rfl, k ρ1 H1 n1 _ (((re.up n1.up).set ra).set rb)⟩
  · cases e
theorem qg_name {i : Nat} {x : Str} (hN : X.N.Nodup) (hi : X.N[i]? = some x) (hx : Loc X.env.scope x) (hf : X.fn x = true ∨ X.env.scope.names.lookup x = some .local := by first | exact .inl rfl | exact .inr rfl | assumption) : QG X (.Name x pos) (Qm.gName i) := (pg_name hN hi hx hf).imp fun v σ H Q ⟨ρ, env, c, d, env', c', rs, re, rd, e, k⟩ => by
  cases e
  exact k ρ H _ (Nx.refl rs) (re.set rd)
theorem qg_put {o i : Expr} {fo fi : Qm.XE} (ho : QE X o fo) (hi : QE X i fi)
    (ha : ∀ v, assign (.Subscript o i pos) X.env v = (do
      let ov ← holding [v] (eval o X.env)
      let iv ← holding [v, ov] (eval i X.env)
      standAt pos
      holding [v, ov, iv] (setItem ov iv v)
      release [v, ov, iv] []) := by intro _; rfl) : QG X (.Subscript o i pos) (Qm.gPut fo fi) := (pg_sub ho hi set_list ha).imp fun v σ H Q ⟨ρ, env, c, d, env', c', rs, re, rd, e, k⟩ => by
  obtain ⟨p, e1, e⟩ := bnd e
  obtain ⟨q, e2, e⟩ := bnd e
  obtain ⟨l, e3, e⟩ := bnd e
  obtain ⟨m, e4, e⟩ := bnd e
  obtain ⟨j, e5, e⟩ := bnd e
  cases e
  refine ⟨ρ, env, c, p.1, p.2, rs, re, e1, fun ρ1 v1 H1 n1 r1 => ⟨ρ1, env, p.2, q.1, q.2, n1.rs, re.up n1.up, e2, fun ρ2 v2 H2 n2 r2 => ?_⟩⟩
  rw [asI_of e4] at r2
  cases r2.int'
  obtain ⟨_, hn, ws, rfl, h, a⟩ := n2.rs.lstOf (r1.up n2.up) e3
  have n := Nx.put n2.rs hn (RA.set (rd.up (n1.trans n2).up) j a)
  refine ⟨_, ws, m, j, rfl, rfl, h, by rw [← a.length]; exact e5, ?_⟩
  exact k ρ2 _ σ (n1.trans (n2.trans n)) (re.up (n1.trans (n2.trans n)).up)
theorem seqL_of_stay {K : PySem.W.Frag} {ρ : Nat → Addr} {c : Qm.Cells} {H : Hp} (rs : RS K ρ c H) {n : Nat} {z : Qm.Cell} {c0 : Qm.Cells} {xs : List Qm.D} (h0 : c0[n]? = some z) (h1 : Qm.seqOf (.ref n) c0 = some xs) (h : c[n]? = some z) : ∃ vs, SqL K H (ρ n) vs ∧ RA K ρ c.length H xs vs := by
  have hn : n < c.length := (List.getElem?_eq_some_iff.mp h).1
  have e : Qm.seqOf (.ref n) c = some xs := by
    unfold Qm.seqOf at h1 ⊢
    dsimp only at h1 ⊢
    rw [h0] at h1; rw [h]; exact h1
  obtain ⟨vs, _, h2, h3⟩ := rs.seqR (.ref hn) e
  exact ⟨vs, h2, h3⟩
theorem qi_list (h : QE X e fe) : QI X tg e (Qm.iLst fe) := (pi_list h).imp fun σ H R ⟨ρ, env, c, m, c', rs, re, e, k⟩ => by
  obtain ⟨p, e1, e⟩ := bnd e
  refine ⟨ρ, env, c, p.1, p.2, rs, re, e1, fun ρ1 v H1 n1 r1 => ?_⟩
  split at e
  · rename_i n hx
    obtain ⟨z, e2, e⟩ := bnd e
    obtain ⟨xs, e3, e⟩ := bnd e
    cases e
    rw [hx] at r1
    obtain ⟨hv, hn⟩ := r1.ref'
    subst hv
    obtain ⟨vs, h1, a1⟩ := seqL_of_stay n1.rs e2 e3 e2
    refine ⟨_, rfl, ⟨vs, h1⟩, k ρ1 _ H1 n1 fun ρ2 c2 H2 u2 rs2 st2 => ?_⟩
    obtain ⟨ws, h2, a2⟩ := seqL_of_stay rs2 e2 e3 (st2 (n, z) (by simp))
    rw [u2.agree n hn] at h2
    refine ⟨fun i hi => ⟨ws, ws[i]'(by rw [← a2.length]; exact hi), h2, List.getElem?_eq_getElem _⟩, ⟨ws, h2, by rw [a2.length]; exact Nat.le_refl _⟩, fun i d x H' hd hy => ?_⟩
    obtain ⟨rfl, hy⟩ := hy
    obtain ⟨v, hv, rv⟩ := a2.get hd
    have := hy ws h2
    rw [hv] at this; cases this
    exact ⟨Nx.refl rs2, rv⟩
  · cases e
theorem rng_get {lo : Int} {n i : Nat} {d : Qm.D} (h : (Qm.rng lo n)[i]? = some d) : i < n ∧ d = .int (lo + i) := by
  unfold Qm.rng at h
  rw [List.getElem?_map] at h
  by_cases hi : i < n
  · rw [List.getElem?_range hi] at h
    cases h
    exact ⟨hi, rfl⟩
  · rw [List.getElem?_eq_none_iff.mpr (by simpa using Nat.le_of_not_lt hi)] at h
    cases h
theorem it_rng {K : PySem.W.Frag} {ρ : Nat → Addr} {N : Nat} {H : Hp} {lo : Int} {n : Nat} : ItOk K ρ N H ⟨Qm.rng lo n, []⟩ (Itr lo n) := fun ρ c H u rs _ => by
  have hl : (Qm.rng lo n).length = n := by simp [Qm.rng]
  refine ⟨fun i hi => by show i < n; rw [← hl]; exact hi, by show n ≤ (Qm.rng lo n).length; omega, fun i d x H' hd hy => ?_⟩
  obtain ⟨rfl, rfl⟩ := hy
  obtain ⟨_, rfl⟩ := rng_get hd
  exact ⟨Nx.refl rs, .int _⟩
theorem qi_range1 {f : Qm.XA} {p : Pos} (hg : Gl X "range") (hm : X.mg "range" = none) (ha : QA X [a] f) (hs : starEach [a] X.env = [(false, eval a X.env)] := by rfl) : QI X tg (.Call (.Name "range" p) [a] [] pos) (Qm.iRng1 f) := (pi_range1 hg hm ha hs).imp fun σ H R ⟨ρ, env, c, m, c', rs, re, e, k⟩ => by
  obtain ⟨p, e1, e⟩ := bnd e
  refine ⟨ρ, env, c, p.1, p.2, rs, re, e1, fun ρ1 vs H1 n1 r1 => ?_⟩
  split at e
  · rename_i j hj
    split at e
    · rename_i hb
      cases e
      rw [hj] at r1
      obtain ⟨v, rfl, rv⟩ := r1.one'
      cases rv.int'
      exact ⟨j, rfl, hb.1, hb.2, k ρ1 _ H1 n1 it_rng⟩
    · cases e
  · cases e
theorem qs_for {body : List Stmt} {fi : Qm.XI} (hp : PassesOwn (model X.prog X.w) X.A X.env X.xe) (hc : X.calm = true) (hi : QI X tg e fi) (hg : QG X tg fg) (hb : QSs X body fs)
    (hs : ∀ x, foldedSetIterable e X.env x = pure x := by intro _; rfl) : QS X (.For tg e body [] pos) (Qm.sFor fi fg fs) := (ps_for hp hc hi hg hb hs).imp fun D σ H ⟨ρ, env, c, fl, env', c', rs, re, e, k⟩ => by
  obtain ⟨m, e1, e⟩ := bnd e
  refine ⟨ρ, env, c, m.1, m.2, rs, re, e1, fun ρ0 J H0 n0 it => ?_⟩
  refine ⟨fun i q σ' H' => q = m.1.ds.length - i ∧ i ≤ m.1.ds.length ∧ ∃ ρ1 env1 c1, Nx X.K ρ0 m.2 H0 ρ1 c1 H' ∧ RE X.K ρ1 c1.length H' env1 σ' ∧ Qm.forGo m.1.ks fg fs (m.1.ds.drop i) env1 c1 = some (fl, env', c'), ⟨_, rfl, Nat.zero_le _, ρ0, env, m.2, Nx.refl n0.rs, re.up n0.up, e⟩, ?_⟩
  rintro i q σ1 H1 ⟨rfl, hi, ρ1, env1, c1, n1, re1, e1⟩
  by_cases hlt : i < m.1.ds.length
  · rw [List.drop_eq_getElem_cons hlt] at e1
    unfold Qm.forGo at e1
    split at e1
    · rename_i hst
      obtain ⟨go, _, yl⟩ := it ρ1 c1 H1 n1.up n1.rs hst
      obtain ⟨p, e2, e1⟩ := bnd e1
      obtain ⟨q, e3, e1⟩ := bnd e1
      refine .inr ⟨go i hlt, fun σ' H' => i + 1 ≤ m.1.ds.length ∧ ∃ ρ1 env1 c1, Nx X.K ρ0 m.2 H0 ρ1 c1 H' ∧ RE X.K ρ1 c1.length H' env1 σ' ∧ Qm.forGo m.1.ks fg fs (m.1.ds.drop (i + 1)) env1 c1 = some (fl, env', c'), fun σ' H' h => ⟨m.1.ds.length - (i + 1), by omega, rfl, h⟩, fun x H2 hy => ?_⟩
      obtain ⟨n2, r2⟩ := yl i _ x H2 (List.getElem?_eq_getElem hlt) hy
      refine ⟨ρ1, env1, c1, _, p.1, p.2, n2.rs, re1.up n2.up, r2, e2, fun ρ3 H3 σ3 n3 re3 => ?_⟩
      obtain ⟨f, env4, c4⟩ := q
      refine ⟨ρ3, p.1, p.2, f, env4, c4, n3.rs, re3, e3, fun ρ4 H4 n4 => ?_⟩
      have nn := n1.trans (n2.trans (n3.trans n4))
      cases f with
      | nx => exact fun σ4 re4 => ⟨hlt, ρ4, env4, c4, nn, re4, e1⟩
      | ct => exact fun σ4 re4 => ⟨hlt, ρ4, env4, c4, nn, re4, e1⟩
      | bk => cases e1; exact fun σ4 re4 => k ρ4 H4 (n0.trans nn) σ4 re4
      | rt d => cases e1; exact fun v rv => k ρ4 H4 (n0.trans nn) v rv
    · cases e1
  · have hi' : i = m.1.ds.length := by omega
    subst hi'
    rw [List.drop_length] at e1
    unfold Qm.forGo at e1
    split at e1
    · rename_i hst
      obtain ⟨_, stop, _⟩ := it ρ1 c1 H1 n1.up n1.rs hst
      cases e1
      exact .inl ⟨stop, k ρ1 H1 (n0.trans n1) σ1 re1⟩
    · cases e1
theorem qs_while {c0 : Expr} {body : List Stmt} (hp : PassesOwn (model X.prog X.w) X.A X.env X.xe) (hc : QT X c0 ft) (hb : QSs X body fs) : QS X (.While c0 body [] pos) (Qm.sWhile ft fs) := (ps_while hp hc hb).imp fun D σ H ⟨ρ, env, c, fl, env', c', rs, re, e, k⟩ => by
  obtain ⟨n, e⟩ := Qm.of_sWhile e
  refine ⟨fun q σ' H' => ∃ ρ1 env1 c1, Nx X.K ρ c H ρ1 c1 H' ∧ RE X.K ρ1 c1.length H' env1 σ' ∧ Qm.whGo ft fs q env1 c1 = some (fl, env', c'), ⟨n, ρ, env, c, Nx.refl rs, re, e⟩, ?_⟩
  rintro q σ1 H1 ⟨ρ1, env1, c1, n1, re1, e1⟩
  cases q with
  | zero => simp [Qm.whGo] at e1
  | succ q =>
    simp only [Qm.whGo] at e1
    obtain ⟨p, e2, e1⟩ := bnd e1
    refine ⟨ρ1, env1, c1, p.1, p.2, n1.rs, re1, e2, fun ρ2 H2 n2 => ?_⟩
    split at e1
    · rename_i hi
      rw [if_pos hi]
      obtain ⟨r, e3, e1⟩ := bnd e1
      refine ⟨fun σ' H' => ∃ ρ1 env1 c1, Nx X.K ρ c H ρ1 c1 H' ∧ RE X.K ρ1 c1.length H' env1 σ' ∧ Qm.whGo ft fs q env1 c1 = some (fl, env', c'), fun σ' H' h => ⟨q, Nat.lt_succ_self _, h⟩, ?_⟩
      obtain ⟨f, env4, c4⟩ := r
      refine ⟨ρ2, env1, p.2, f, env4, c4, n2.rs, re1.up n2.up, e3, fun ρ4 H4 n4 => ?_⟩
      have nn := n1.trans (n2.trans n4)
      cases f with
      | nx => exact fun σ4 re4 => ⟨ρ4, env4, c4, nn, re4, e1⟩
      | ct => exact fun σ4 re4 => ⟨ρ4, env4, c4, nn, re4, e1⟩
      | bk => cases e1; exact fun σ4 re4 => k ρ4 H4 nn σ4 re4
      | rt d => cases e1; exact fun v rv => k ρ4 H4 nn v rv
    · rename_i hi
      rw [if_neg hi]
      cases e1
      exact k ρ2 H2 (n1.trans n2) σ1 (re1.up n2.up)
theorem qifs_none : QIfs X [] Qm.tYes := ifs_none.imp fun σ H Q ⟨ρ, env, c, b, c', rs, re, e, k⟩ => by
  cases e
  exact k ρ H (Nx.refl rs)
theorem RE.tau {K : PySem.W.Frag} {ρ : Nat → Addr} {N : Nat} {H : Hp} {env : Qm.Env} {σ : St} (re : RE K ρ N H env σ) (cap : List (Option Nat)) : RE K ρ N H (Qm.capt env cap) (tau σ cap) := by
  refine ⟨by simp [Qm.capt, L2.tau], fun j d h => ?_⟩
  unfold Qm.capt at h
  unfold L2.tau
  rw [List.getElem?_map] at h ⊢
  cases e : cap[j]? with
  | none => rw [e] at h; cases h
  | some o =>
    rw [e] at h
    cases o with
    | none => simp at h
    | some i =>
      simp only [Option.map_some, Option.some.injEq] at h
      cases e2 : env[i]? with
      | none => rw [e2] at h; cases h
      | some w =>
        rw [e2] at h
        have h' : w = some d := h
        subst h'
        obtain ⟨v, h1, h2⟩ := re.at_ i d e2
        refine ⟨v, ?_, h2⟩
        simp [h1]
theorem tComp_q {K : PySem.W.Frag} {fi : Qm.XI} {cap : List (Option Nat)} {σ : St} {H : Hp} {Q : VK} (h : TQ K (Qm.eComp fi cap fg ft fe) σ H Q) : tComp (IQ K fi) cap (GQ K fg) (BQ K ft) (TQ K fe) σ H Q := by
  obtain ⟨ρ, env, c, d, c', rs, re, e, k⟩ := h
  obtain ⟨m, e1, e⟩ := bnd e
  obtain ⟨cz, e2, e⟩ := bnd e
  cases e
  refine ⟨ρ, env, c, m.1, m.2, rs, re, e1, fun ρ0 J H0 n0 it l hl => ?_⟩
  obtain ⟨na, ra⟩ := Nx.alloc n0.rs hl (ds := []) (vs := []) .nil
  generalize hρ : (fun n => if n = m.2.length then l else ρ0 n) = ρa at na ra
  have hL : ρa m.2.length = l := by rw [← hρ]; simp
  have hlen : (m.2 ++ [Qm.Cell.lst []]).length = m.2.length + 1 := by simp
  have fin : ∀ {ρ1 : Nat → Addr} {c1 : Qm.Cells} {H1 : Hp}, Nx K ρa (m.2 ++ [.lst []]) (upd H0 l (.lst [])) ρ1 c1 H1 → ρ1 m.2.length = l := fun n => by rw [n.up.agree _ (by rw [hlen]; omega), hL]
  refine ⟨fun i q τ H' => q = m.1.ds.length - i ∧ i ≤ m.1.ds.length ∧ ∃ ρ1 env1 c1, Nx K ρa (m.2 ++ [.lst []]) (upd H0 l (.lst [])) ρ1 c1 H' ∧ RE K ρ1 c1.length H' env1 τ ∧ Qm.compGo m.2.length m.1.ks fg ft fe (m.1.ds.drop i) env1 c1 = some c',
    ⟨_, rfl, Nat.zero_le _, ρa, _, _, Nx.refl na.rs, ((re.up n0.up).up na.up).tau cap, e2⟩, ?_⟩
  rintro i q τ H1 ⟨rfl, hi, ρ1, env1, c1, n1, re1, e1⟩
  have it1 := it ρ1 c1 H1 (na.up.trans n1.up) n1.rs
  by_cases hlt : i < m.1.ds.length
  · rw [List.drop_eq_getElem_cons hlt] at e1
    unfold Qm.compGo at e1
    split at e1
    · rename_i hst
      obtain ⟨go, _, yl⟩ := it1 hst
      obtain ⟨p, e2, e1⟩ := bnd e1
      obtain ⟨b, e3, e1⟩ := bnd e1
      refine .inr ⟨go i hlt, fun τ H' => i + 1 ≤ m.1.ds.length ∧ ∃ ρ1 env1 c1, Nx K ρa (m.2 ++ [.lst []]) (upd H0 l (.lst [])) ρ1 c1 H' ∧ RE K ρ1 c1.length H' env1 τ ∧ Qm.compGo m.2.length m.1.ks fg ft fe (m.1.ds.drop (i + 1)) env1 c1 = some c', fun σ' H' h => ⟨m.1.ds.length - (i + 1), by omega, rfl, h⟩, fun x H2 hy => ?_⟩
      obtain ⟨n2, r2⟩ := yl i _ x H2 (List.getElem?_eq_getElem hlt) hy
      refine ⟨ρ1, env1, c1, _, p.1, p.2, n2.rs, re1.up n2.up, r2, e2, fun ρ3 H3 σ3 n3 re3 => ?_⟩
      refine ⟨ρ3, p.1, p.2, b.1, b.2, n3.rs, re3, e3, fun ρ4 H4 n4 => ?_⟩
      have nn := n1.trans (n2.trans (n3.trans n4))
      split at e1
      · rename_i hb
        dsimp only
        rw [if_pos hb]
        obtain ⟨y, e4, e1⟩ := bnd e1
        refine ⟨ρ4, p.1, b.2, y.1, y.2, n4.rs, re3.up n4.up, e4, fun ρ5 yv H5 n5 r5 => ?_⟩
        have n15 := nn.trans n5
        split at e1
        · rename_i ys hys
          split at e1
          · rename_i hz
            obtain ⟨vs, h5, a5⟩ := n15.rs.lst hys
            rw [fin n15] at h5
            have n6 := Nx.put n15.rs hys (a5.append (RA.one r5))
            rw [fin n15] at n6
            refine ⟨vs, h5, line_lt (by rw [← a5.length]; exact hz), hlt, ρ5, p.1, _, n15.trans n6, (re3.up (n4.trans (n5.trans n6)).up), e1⟩
          · cases e1
        · cases e1
      · rename_i hb
        dsimp only
        rw [if_neg hb]
        exact ⟨hlt, ρ4, p.1, b.2, nn, re3.up n4.up, e1⟩
    · cases e1
  · have hi' : i = m.1.ds.length := by omega
    subst hi'
    rw [List.drop_length] at e1
    unfold Qm.compGo at e1
    split at e1
    · rename_i hst
      obtain ⟨_, stop, _⟩ := it1 hst
      cases e1
      refine .inl ⟨stop, k ρ1 _ H1 (n0.trans (na.trans n1)) ?_⟩
      rw [← fin n1]
      exact .ref (Nat.lt_of_lt_of_le (by rw [hlen]; omega) n1.up.len)
    · cases e1
theorem qe_comp {tg : Expr} {scope : Scope} {N' : List Str} {cap : List (Option Nat)} {ifs : List Expr} {fi : Qm.XI} (B : BlkOk X scope N' cap) (hc : X.calm = true)
    (hi : QI X tg b fi) (hg : ∀ C s₀ H₀ fp, QG (X.blk scope C N' s₀ H₀ fp) tg fg) (ht : ∀ C s₀ H₀ fp, QIfs (X.blk scope C N' s₀ H₀ fp) ifs ft) (he : ∀ C s₀ H₀ fp, QE (X.blk scope C N' s₀ H₀ fp) e fe)
    (hs : ∀ x, foldedSetIterable b X.env x = pure x := by intro _; rfl) :
    QE X (.ListComp e [⟨tg, b, ifs, 0⟩] scope pos) (Qm.eComp fi cap fg ft fe) := (pe_comp B hc hi hg ht he hs).imp fun _ _ _ h => tComp_q h
theorem qs_comp {i : Nat} {tg : Expr} {y : Str} {py spos : Pos} {scope : Scope} {N' : List Str} {cap : List (Option Nat)} {ifs : List Expr} {fi : Qm.XI} (B : BlkOk X scope N' cap) (hc : X.calm = true)
    (hi : QI X tg b fi) (hg : ∀ C s₀ H₀ fp, QG (X.blk scope C N' s₀ H₀ fp) tg fg) (ht : ∀ C s₀ H₀ fp, QIfs (X.blk scope C N' s₀ H₀ fp) ifs ft) (he : ∀ C s₀ H₀ fp, QE (X.blk scope C N' s₀ H₀ fp) e fe)
    (hN : X.N.Nodup) (hiy : X.N[i]? = some y) (hy : Loc X.env.scope y) (hsw : swapsWith (.ListComp e [⟨tg, b, ifs, 0⟩] scope pos) (some (.Name y py)) spos.line X.env = pure true)
    (hf : X.fn y = true ∨ X.env.scope.names.lookup y = some .local := by first | exact .inl rfl | exact .inr rfl | assumption)
    (hs : ∀ x, foldedSetIterable b X.env x = pure x := by intro _; rfl) :
    QS X (.Assign [.Name y py] (.ListComp e [⟨tg, b, ifs, 0⟩] scope pos) spos) (Qm.sSet i (Qm.eComp fi cap fg ft fe)) := (ps_comp B hc hi hg ht he hN hiy hy hsw hf hs).imp fun D σ H ⟨ρ, env, c, fl, env', c', rs, re, e, k⟩ => by
  obtain ⟨p, e1, e⟩ := bnd e
  cases e
  exact tComp_q ⟨ρ, env, c, p.1, p.2, rs, re, e1, fun ρ1 v H1 n1 r1 => k ρ1 H1 n1 _ ((re.up n1.up).set r1)⟩
theorem fnq_body {K : PySem.W.Frag} {n : Nat} {N : List Str} {B : Qm.XS} {vs : List V} {H : Hp} {Q : VK} {E : XK} (hn : n ≤ N.length) (h : spD K (Qm.mkF n N.length B) vs H Q E) : vs.length = n ∧ SQ K B { nx := fun _ H' => Q .non H', rt := Q } (start N vs) H := by
  obtain ⟨ρ, c, ds, d, c', rs, ra, e, k⟩ := h
  unfold Qm.mkF at e
  split at e
  · rename_i hl
    obtain ⟨p, e1, e⟩ := bnd e
    obtain ⟨f, env', c2⟩ := p
    have hv : vs.length = n := by rw [← ra.length]; exact hl
    refine ⟨hv, ρ, _, c, f, env', c2, rs, ⟨?_, fun i d hd => ?_⟩, e1, fun ρ' H' nx => ?_⟩
    · simp [start, hl, hv]
    · have hi : i < ds.length := by
        by_cases hi : i < ds.length
        · exact hi
        · exfalso
          rw [List.getElem?_append_right (by simp; omega)] at hd
          have := List.mem_of_getElem? hd
          have := List.eq_of_mem_replicate this
          cases this
      rw [List.getElem?_append_left (by simpa using hi), List.getElem?_map] at hd
      cases e : ds[i]? with
      | none => rw [e] at hd; cases hd
      | some d' =>
        rw [e] at hd
        cases hd
        obtain ⟨v, h1, h2⟩ := ra.get e
        refine ⟨v, ?_, h2⟩
        unfold start
        rw [List.getElem?_append_left (by have := ra.length; simp; omega), List.getElem?_map, h1]
        rfl
    · cases f with
      | nx => cases e; exact fun σ' _ => k ρ' .non H' nx .non
      | rt d => cases e; exact fun v rv => k ρ' v H' nx rv
      | bk => cases e
      | ct => cases e
  · cases e
end
section
variable {P : Program} {w : World} {K : PySem.W.Frag} {mg : Str → Option Value} {base : Heap}
theorem Fun.okQ {x qual : Str} {st : Stmt} {f : Addr} {fd : FuncData} {N ps : List Str} {k n m : Nat} {B : Qm.XS} {FF : Qm.FN} (F : Fun K x qual st f fd) (S : FnScope N ps (defScope st)) (hn : ps.length = n) (hm : N.length = m) (hN : n ≤ m) (hF : FF = Qm.mkF n m B)
    (hbody : ∀ (cdv : Value) (A : Around) (outer : List Env) (s : Shared) (H : Hp) (E : XK), Room k (A.deeper (envOfC qual (defScope st) s.heap.objs.size f cdv)) →
      QSs (cxOf CX0 P w K mg base N qual (defScope st) f cdv A outer s H E).nox (defBody st) B) : FnOk P w K mg base CX0 (k + 1) f fd ps (spD K FF) := by
  subst hm hF
  exact F.ok S (fun vs H Q E h => by rw [(fnq_body hN h).1, hn]) fun cdv A outer s H vs Q E hr h => ⟨_, hbody cdv A outer s H E hr, (fnq_body hN h).2⟩
end
end L2
namespace L2
open PySem PySem.Spec PyProof.Rows
section
variable {prog : Program} {w : World} {A : Around} {E : Value → Shared → Prop} {s : Shared}
def ZRec (h : Heap) (z TI TO : Addr) (f0 f1 : Value) : Prop := h.get? z = some { cls := .type "zip", dict := none, data := .fields #[f0, f1, .bool false, .ref TI, .ref TO], slots := #[] }
def PairAt (h : Heap) (T : Addr) (a b : Value) : Prop := h.get? T = some { cls := .type "tuple", data := .seq #[a, b] }
structure ZApart (z TI TO i1 i2 t1 t2 : Addr) : Prop where
  nd : [z, TI, TO, i1, i2].Nodup
  n1 : t1 ∉ [z, TI, TO, i1, i2]
  n2 : t2 ∉ [z, TI, TO, i1, i2]
def ZFree (h : Heap) (f0 : Value) : Prop := f0 = .none ∨ ∃ T o, f0 = rawInt (T : Addr) ∧ h.get? T = some o
structure ZSt (h : Heap) (z TI TO i1 i2 t1 t2 : Addr) (xs ys : Array Value) (k : Nat) : Prop where
  ap : ZApart z TI TO i1 i2 t1 t2
  rc : ∃ f0 b1, ZRec h z TI TO f0 (.bool b1) ∧ ZFree h f0
  ti : PairAt h TI (.ref i1) (.ref i2)
  to : ∃ a b, PairAt h TO a b
  j1 : h.IsTupleIter i1 t1 k
  j2 : h.IsTupleIter i2 t2 k
  l1 : h.IsTuple t1 xs
  l2 : h.IsTuple t2 ys
theorem ZSt.type {z TI TO i1 i2 t1 t2 : Addr} {xs ys : Array Value} {k : Nat} (Z : ZSt s.heap z TI TO i1 i2 t1 t2 xs ys k) : s.TypeIs (.ref z) "zip" := by
  obtain ⟨f0, b1, h, _⟩ := Z.rc
  exact ⟨_, h, rfl⟩
end
end L2
namespace L2
open PySem PySem.Spec PyProof.Rows
section
variable {prog : Program} {w : World} {A : Around} {E : Value → Shared → Prop} {s : Shared}
theorem ZSt.at {h h' : Heap} {z TI TO i1 i2 t1 t2 : Addr} {xs ys : Array Value} {k : Nat} (Z : ZSt h z TI TO i1 i2 t1 t2 xs ys k) (up : ∀ c, c ∈ [z, TI, TO, i1, i2, t1, t2] → ∀ o, h.get? c = some o → h'.get? c = some o) (al : ∀ c o, h.get? c = some o → ∃ o', h'.get? c = some o') : ZSt h' z TI TO i1 i2 t1 t2 xs ys k := by
  obtain ⟨D, ⟨f0, b1, hz, hf⟩, gI, ⟨a, b, gO⟩, j1, j2, l1, l2⟩ := Z
  refine ⟨D, ⟨f0, b1, up _ (by simp) _ hz, ?_⟩, up _ (by simp) _ gI, ⟨a, b, up _ (by simp) _ gO⟩, j1.at fun o e => up _ (by simp) o e, j2.at fun o e => up _ (by simp) o e, l1.at fun o e => up _ (by simp) o e, l2.at fun o e => up _ (by simp) o e⟩
  rcases hf with e | ⟨T, o, e, g⟩
  · exact .inl e
  · obtain ⟨o', g'⟩ := al _ _ g
    exact .inr ⟨T, o', e, g'⟩
end
end L2
namespace L2
open PySem PySem.Spec PyProof.Rows
structure Came (h : Heap) (b0 : Nat) (xs ys : Array Value) (Ts : List Addr) (k : Nat) : Prop where
  len : Ts.length = k
  nd : Ts.Nodup
  new : ∀ T ∈ Ts, b0 ≤ T ∧ T < h.objs.size
  at_ : ∀ (i : Nat) (T : Addr), Ts[i]? = some T → ∃ x y, xs[i]? = some x ∧ ys[i]? = some y ∧ PairAt h T x y
theorem Came.nil {h : Heap} {b0 : Nat} {xs ys : Array Value} : Came h b0 xs ys [] 0 := ⟨rfl, List.nodup_nil, fun _ h => (nomatch h), fun i T h => by simp at h⟩
section
variable {prog : Program} {w : World} {A : Around} {s : Shared} {R : Result → Shared → Prop}
end
section
variable {prog : Program} {w : World} {A : Around} {E : Value → Shared → Prop} {s : Shared}
end
end L2
namespace L2
open PySem PySem.Spec PyProof.Rows
section
variable {X : Cx} {pins : List (Addr × Obj)} {σ : St} {H H' : Hp} {s : Shared} {h' : Heap}
end
section
variable {X : Cx}
end
end L2
namespace L2
open PySem PySem.Spec PyProof.Rows
section
variable {X : Cx} {e1 e2 : Expr} {p0 p1 p2 pos : Pos} {f : Qm.XA}
theorem RA.zip {K : PySem.W.Frag} {ρ : Nat → Addr} {N : Nat} {H : Hp} : ∀ {xs ys : List Qm.D} {vs us : List V} {Ts : List Addr}, RA K ρ N H xs vs → RA K ρ N H ys us → Ts.length = min vs.length us.length → (∀ (i : Nat) (T : Addr) (x y : V), Ts[i]? = some T → vs[i]? = some x → us[i]? = some y → H T = some (.tup [x, y])) → RA K ρ N H (Qm.zipD xs ys) (Ts.map V.ref)
  | [], _, _, _, Ts, .nil, _, hl, _ => by
    have : Ts = [] := List.length_eq_zero_iff.mp (by simpa using hl)
    subst this
    exact .nil
  | _ :: _, [], _, _, Ts, .cons _ _, .nil, hl, _ => by
    have : Ts = [] := List.length_eq_zero_iff.mp (by simpa using hl)
    subst this
    exact .nil
  | x :: xs, y :: ys, v :: vs, u :: us, Ts, .cons r1 a1, .cons r2 a2, hl, h => by
    cases Ts with
    | nil => simp at hl
    | cons T Ts =>
      refine .cons (.tup (h 0 T v u rfl rfl rfl) (.cons r1 (.cons r2 .nil))) (RA.zip a1 a2 (by simp at hl ⊢; omega) fun i T' x y h1 h2 h3 => h (i + 1) T' x y (by simpa using h1) (by simpa using h2) (by simpa using h3))
end
end L2
namespace L2
open PySem PySem.Spec PyProof.Rows
end L2
namespace L2
open PySem PySem.Spec PyProof.Rows
section
variable {prog : Program} {w : World} {A : Around} {E : Value → Shared → Prop} {s : Shared}
def IsRv (h : Heap) (a t : Addr) (i : Int) : Prop := ∃ o, h.get? a = some o ∧ o.cls = .type "reversed" ∧ o.data = .fields #[.ref t, rawInt i]
theorem IsRv.at {h h' : Heap} {a t : Addr} {i : Int} (x : IsRv h a t i) (e : ∀ o, h.get? a = some o → h'.get? a = some o) : IsRv h' a t i := let ⟨o, ho, r⟩ := x; ⟨o, e _ ho, r⟩
end
end L2
namespace L2
open PySem PySem.Spec PyProof.Rows
section
variable {prog : Program} {w : World} {A : Around} {E : Value → Shared → Prop} {s : Shared} {I : Addr} {fp wr : List Addr} {G : Array GenState → Array GenState → Prop} {n : Nat} {P : Nat → Value → Prop} {St : Nat → Shared → Prop}
end
end L2
namespace L2
open PySem PySem.Spec PyProof.Rows
section
variable {prog : Program} {w : World} {A : Around} {E : Value → Shared → Prop} {s : Shared} {I : Addr} {fp wr : List Addr} {G : Array GenState → Array GenState → Prop} {P : Nat → Value → Prop} {St : Nat → Shared → Prop}
end
section
variable {X : Cx}
end
end L2
namespace Qm
open PySem
end Qm
namespace L2
open PySem PySem.Spec PyProof.Rows
section
variable {X : Cx} {e1 : Expr} {p0 p1 p2 pos : Pos} {f : Qm.XA}
theorem RA.snoc {K : PySem.W.Frag} {ρ : Nat → Addr} {N : Nat} {H : Hp} : ∀ {xs ys : List Qm.D} {vs us : List V}, RA K ρ N H xs vs → RA K ρ N H ys us → RA K ρ N H (xs ++ ys) (vs ++ us)
  | [], _, _, _, .nil, h => h
  | _ :: _, _, _, _, .cons r t, h => .cons r (RA.snoc t h)
theorem RA.back {K : PySem.W.Frag} {ρ : Nat → Addr} {N : Nat} {H : Hp} : ∀ {xs : List Qm.D} {vs : List V}, RA K ρ N H xs vs → RA K ρ N H xs.reverse vs.reverse
  | [], _, .nil => .nil
  | _ :: _, _, .cons r t => by
    rw [List.reverse_cons, List.reverse_cons]
    exact RA.snoc (RA.back t) (.cons r .nil)
end
end L2
namespace L2
open PySem PySem.Spec PyProof.Rows
mutual
def nb : PyData → Bool
  | .none => true
  | .int _ => true
  | .str _ => true
  | .tuple ds => nbA ds
  | .list ds => nbA ds
  | _ => false
def nbA : List PyData → Bool
  | [] => true
  | d :: ds => nb d && nbA ds
end
section
variable {K : PySem.W.Frag} {ρ : Nat → Addr} {c : Qm.Cells} {H : Hp}
theorem rdA_of {k : Nat} (rs : RS K ρ c H) (ih : ∀ {x : Qm.D} {v : V} {d : PyData}, RD K ρ c.length H x v → Qm.data c k x = some d → RdV K H v d ∧ PyData.canLay0 d = true ∧ d.depth ≤ k ∧ nb d = true) :
    ∀ {xs : List Qm.D} {vs : List V} {ds : List PyData}, RA K ρ c.length H xs vs → Qm.omap (Qm.data c k) xs = some ds → RdA K H vs ds ∧ PyData.canLayAll0 ds = true ∧ PyData.depthAll ds ≤ k ∧ nbA ds = true
  | [], _, ds, a, h => by
    cases a
    cases h
    exact ⟨.nil, rfl, Nat.zero_le _, rfl⟩
  | x :: xs, _, ds, a, h => by
    cases a with
    | cons r a =>
      obtain ⟨d, h1, h⟩ := bnd h
      obtain ⟨es, h2, h⟩ := bnd h
      cases h
      obtain ⟨a1, a2, a3, a4⟩ := ih r h1
      obtain ⟨b1, b2, b3, b4⟩ := rdA_of rs ih a h2
      exact ⟨.cons a1 b1, by simp [PyData.canLayAll0, a2, b2], by simp only [PyData.depthAll]; omega, by simp [nbA, a4, b4]⟩
theorem rdV_of (rs : RS K ρ c H) : ∀ (k : Nat) {x : Qm.D} {v : V} {d : PyData}, RD K ρ c.length H x v → Qm.data c k x = some d → RdV K H v d ∧ PyData.canLay0 d = true ∧ d.depth ≤ k ∧ nb d = true
  | 0, _, _, _, _, h => by simp [Qm.data] at h
  | k + 1, x, v, d, r, h => by
    have A : ∀ {xs : List Qm.D} {vs : List V} {ds : List PyData}, RA K ρ c.length H xs vs → Qm.omap (Qm.data c k) xs = some ds → RdA K H vs ds ∧ PyData.canLayAll0 ds = true ∧ PyData.depthAll ds ≤ k ∧ nbA ds = true := fun {xs vs ds} => rdA_of (k := k) rs (fun r h => rdV_of rs k r h)
    cases x with
    | non => simp [Qm.data] at h; subst h; cases r.non'; exact ⟨.non, rfl, Nat.zero_le _, rfl⟩
    | int i => simp [Qm.data] at h; subst h; cases r.int'; exact ⟨.int i, rfl, Nat.zero_le _, rfl⟩
    | bl b => simp [Qm.data] at h
    | str b =>
      simp only [Qm.data] at h
      split at h
      · rename_i hb
        cases h
        cases r
        exact ⟨.str b, hb, Nat.zero_le _, rfl⟩
      · cases h
    | ty b => simp [Qm.data] at h
    | adr b => simp [Qm.data] at h
    | clo t bs => simp [Qm.data] at h
    | tup xs =>
      simp only [Qm.data] at h
      obtain ⟨ds, h1, h⟩ := bnd h
      cases h
      obtain ⟨p, vs, rfl, g, a⟩ := r.tup'
      obtain ⟨a1, a2, a3, a4⟩ := A a h1
      exact ⟨.tup (SqT.of g) a1, by simpa [PyData.canLay0] using a2, by simp only [PyData.depth]; omega, by simpa [nb] using a4⟩
    | ref n =>
      simp only [Qm.data] at h
      have hs : ∀ {xs : List Qm.D}, Qm.seqOf (.ref n) c = some xs → (Qm.omap (Qm.data c k) xs).bind (fun ds => some (PyData.list ds)) = some d → RdV K H v d ∧ PyData.canLay0 d = true ∧ d.depth ≤ k + 1 ∧ nb d = true := fun {xs} e h => by
        obtain ⟨ds, h1, h⟩ := bnd h
        cases h
        obtain ⟨vs, rfl, g, a⟩ := rs.seqR r e
        obtain ⟨a1, a2, a3, a4⟩ := A a h1
        exact ⟨.lst g a1, by simpa [PyData.canLay0] using a2, by simp only [PyData.depth]; omega, by simpa [nb] using a4⟩
      cases e : c[n]? with
      | none => rw [e] at h; cases h
      | some z =>
        rw [e] at h
        cases z with
        | lst xs => exact hs (by simp [Qm.seqOf, e]) h
        | ro xs => exact hs (by simp [Qm.seqOf, e]) h
        | dct xs => cases h
        | dro xs => cases h
        | dt1 xs => cases h
        | dt2 xs => cases h
        | dt2r xs => cases h
        | exc C S xs => cases h
        | tab cd q => cases h
end
mutual
theorem eqv_iff : ∀ (d e : PyData), nb d = true → nb e = true → (PyData.eqv d e = true ↔ d = e)
  | .none, e, _, he => by cases e <;> simp_all [PyData.eqv, nb]
  | .int i, e, _, he => by cases e <;> simp_all [PyData.eqv, nb]
  | .tuple ds, e, hd, he => by
    cases e <;> simp_all [PyData.eqv, nb]
    exact eqvA_iff _ _ hd he
  | .list ds, e, hd, he => by
    cases e <;> simp_all [PyData.eqv, nb]
    exact eqvA_iff _ _ hd he
  | .bool _, _, h, _ => by simp [nb] at h
  | .str a, e, _, he => by cases e <;> simp_all [PyData.eqv, nb]
  | .dict _, _, h, _ => by simp [nb] at h
theorem eqvA_iff : ∀ (ds es : List PyData), nbA ds = true → nbA es = true → (PyData.eqvAll ds es = true ↔ ds = es)
  | [], [], _, _ => by simp [PyData.eqvAll]
  | [], _ :: _, _, _ => by simp [PyData.eqvAll]
  | _ :: _, [], _, _ => by simp [PyData.eqvAll]
  | d :: ds, e :: es, hd, he => by
    simp only [nbA, Bool.and_eq_true] at hd he
    simp only [PyData.eqvAll, Bool.and_eq_true, List.cons.injEq]
    rw [eqv_iff d e hd.1 he.1, eqvA_iff ds es hd.2 he.2]
end
section
variable {X : Cx}
theorem eqM_of {x y : Qm.D} {c : Qm.Cells} {b : Bool} (h : Qm.eqM x y c = some b) : (∃ p q, x = .bl p ∧ y = .bl q ∧ b = (p == q)) ∨ ∃ d e, Qm.data c 6 x = some d ∧ Qm.data c 6 y = some e ∧ (b = true ↔ d = e) := by
  unfold Qm.eqM at h
  split at h
  · cases h; exact .inl ⟨_, _, rfl, rfl, rfl⟩
  · obtain ⟨d, h1, h⟩ := bnd h
    obtain ⟨e, h2, h⟩ := bnd h
    cases h
    exact .inr ⟨d, e, h1, h2, by simp⟩
theorem eqM_eqv {K : PySem.W.Frag} {ρ : Nat → Addr} {c : Qm.Cells} {H : Hp} {x y : Qm.D} {v u : V} {d e : PyData} {b : Bool} (rs : RS K ρ c H) (rx : RD K ρ c.length H x v) (ry : RD K ρ c.length H y u) (h1 : Qm.data c 6 x = some d) (h2 : Qm.data c 6 y = some e) (hb : b = true ↔ d = e) :
    RdV K H v d ∧ RdV K H u e ∧ SeqAt.shaped d = true ∧ SeqAt.shaped e = true ∧ PyData.eqv d e = b := by
  obtain ⟨a1, a2, a3, a4⟩ := rdV_of rs 6 rx h1
  obtain ⟨b1, b2, b3, b4⟩ := rdV_of rs 6 ry h2
  refine ⟨a1, b1, by simp [SeqAt.shaped, a2]; omega, by simp [SeqAt.shaped, b2]; omega, ?_⟩
  have := eqv_iff d e a4 b4
  cases b with
  | true => exact this.mpr (hb.mp rfl)
  | false =>
    cases q : PyData.eqv d e with
    | false => rfl
    | true => exact absurd (hb.mpr (this.mp q)) (by decide)
theorem op_eqQ (hu : X.A.units + 64 < cLine) : OpR X (compareOp .Eq) (fun x y H Q => rEq x y H Q ∨ rEqD X.K false x y H Q) := op_eq.or (op_eqD hu)
theorem op_neQ (hu : X.A.units + 64 < cLine) : OpR X (compareOp .NotEq) (fun x y H Q => rNe x y H Q ∨ rEqD X.K true x y H Q) := op_ne.or (op_neD hu)
theorem lk_eq {K : PySem.W.Frag} : Lk2 K (fun x y H Q => rEq x y H Q ∨ rEqD K false x y H Q) Qm.gEq := by
  intro ρ c H x y d c' v u Q rs rx ry e k
  obtain ⟨b, e1, e⟩ := bnd e
  cases e
  rcases eqM_of e1 with ⟨p, q, rfl, rfl, rfl⟩ | ⟨dd, ee, h1, h2, hb⟩
  · cases rx.bl'; cases ry.bl'
    exact .inl ⟨rfl, by rw [dec_bl]; exact k ρ _ H (Nx.refl rs) (.bl _)⟩
  · obtain ⟨a1, a2, a3, a4, a5⟩ := eqM_eqv rs rx ry h1 h2 hb
    refine .inr ⟨dd, ee, a1, a2, a3, a4, ?_⟩
    rw [if_neg (by decide), a5]
    exact k ρ _ H (Nx.refl rs) (.bl _)
theorem lk_ne {K : PySem.W.Frag} : Lk2 K (fun x y H Q => rNe x y H Q ∨ rEqD K true x y H Q) Qm.gNe := by
  intro ρ c H x y d c' v u Q rs rx ry e k
  obtain ⟨b, e1, e⟩ := bnd e
  cases e
  rcases eqM_of e1 with ⟨p, q, rfl, rfl, rfl⟩ | ⟨dd, ee, h1, h2, hb⟩
  · cases rx.bl'; cases ry.bl'
    exact .inl ⟨rfl, by rw [dec_bl]; exact k ρ _ H (Nx.refl rs) (.bl _)⟩
  · obtain ⟨a1, a2, a3, a4, a5⟩ := eqM_eqv rs rx ry h1 h2 hb
    refine .inr ⟨dd, ee, a1, a2, a3, a4, ?_⟩
    rw [if_pos rfl, a5]
    exact k ρ _ H (Nx.refl rs) (.bl _)
theorem kit_is (K : PySem.W.Frag) : PySem.W.kitOne K (.type "int") (.type "int") = some true ∧ PySem.W.kitOne K (.type "int") (.type "bool") = some false ∧ PySem.W.kitOne K (.type "bool") (.type "bool") = some true ∧ PySem.W.kitOne K (.type "bool") (.type "int") = some true ∧ PySem.W.kitOne K (.type "tuple") (.type "tuple") = some true ∧ PySem.W.kitOne K (.type "list") (.type "list") = some true :=
  ⟨by with_unfolding_all rfl, by with_unfolding_all rfl, by with_unfolding_all rfl, by with_unfolding_all rfl, by with_unfolding_all rfl, by with_unfolding_all rfl⟩
theorem lk_isinst {K : PySem.W.Frag} : LkF K (fun xs H Q => ∃ x n t k, xs = [x, .ty n] ∧ TyOf K H x t ∧ PySem.W.kitOne K t (.type n) = some k ∧ Q (.bl k) H) Qm.bIsinst := by
  intro ρ c H ds d c' vs Q rs ra e k
  obtain ⟨x, y, rfl, e'⟩ := two_of e
  obtain ⟨v, u, rfl, rx, ry⟩ := ra.two'
  obtain ⟨k1, k2, k3, k4, k5, k6⟩ := kit_is K
  split at e'
  · rename_i n
    obtain ⟨b, e1, e2⟩ := bnd e'
    cases e2
    have hu : u = .ty n := by cases ry; rfl
    subst hu
    unfold Qm.isKind at e1
    split at e1
    · cases rx.int'
      split at e1
      · rename_i hn; cases e1; subst hn; exact ⟨_, _, _, _, rfl, .int _, k1, k ρ _ H (Nx.refl rs) (.bl _)⟩
      · split at e1
        · rename_i hn; cases e1; subst hn; exact ⟨_, _, _, _, rfl, .int _, k2, k ρ _ H (Nx.refl rs) (.bl _)⟩
        · cases e1
    · cases rx.bl'
      split at e1
      · rename_i hn; cases e1; subst hn; exact ⟨_, _, _, _, rfl, .bl _, k3, k ρ _ H (Nx.refl rs) (.bl _)⟩
      · cases e1
    · obtain ⟨p, ws, rfl, g, _⟩ := rx.tup'
      split at e1
      · rename_i hn; cases e1; subst hn; exact ⟨_, _, _, _, rfl, .tup g, k5, k ρ _ H (Nx.refl rs) (.bl _)⟩
      · cases e1
    · rename_i m
      obtain ⟨rfl, _⟩ := rx.ref'
      split at e1
      · rename_i ws hw
        obtain ⟨us, g, _⟩ := rs.lst hw
        split at e1
        · rename_i hn; cases e1; subst hn; exact ⟨_, _, _, _, rfl, .lst g, k6, k ρ _ H (Nx.refl rs) (.bl _)⟩
        · cases e1
      · cases e1
    · cases e1
  · cases e'
end
end L2
namespace L2
open PySem PySem.Spec PyProof.Rows
section
variable {X : Cx}
theorem canLay_mem : ∀ {ds : List PyData}, PyData.canLayAll0 ds = true → ∀ e ∈ ds, PyData.canLay0 e = true
  | [], _, e, he => nomatch he
  | d :: ds, h, e, he => by
    simp only [PyData.canLayAll0, Bool.and_eq_true] at h
    rcases List.mem_cons.mp he with rfl | he
    · exact h.1
    · exact canLay_mem h.2 e he
theorem nbA_mem : ∀ {ds : List PyData}, nbA ds = true → ∀ e ∈ ds, nb e = true
  | [], _, e, he => nomatch he
  | d :: ds, h, e, he => by
    simp only [nbA, Bool.and_eq_true] at h
    rcases List.mem_cons.mp he with rfl | he
    · exact h.1
    · exact nbA_mem h.2 e he
theorem inM_of {K : PySem.W.Frag} {ρ : Nat → Addr} {c : Qm.Cells} {H : Hp} {x y : Qm.D} {v u : V} {b : Bool} (rs : RS K ρ c H) (rx : RD K ρ c.length H x v) (ry : RD K ρ c.length H y u) (h : Qm.inM x y c = some b) :
    ∃ (p : Addr) (xs : List V) (d : PyData) (ds : List PyData), u = .ref p ∧ (SqL K H p xs ∨ SqT K H p xs) ∧ RdV K H v d ∧ RdA K H xs ds ∧ SeqAt.shaped d = true ∧ d.depth ≤ 8 ∧ (∀ e ∈ ds, PyData.canLay0 e = true) ∧ (ds.any fun e => PyData.eqv e d) = b := by
  obtain ⟨xs, h1, h⟩ := bnd h
  obtain ⟨d, h2, h⟩ := bnd h
  obtain ⟨ds, h3, h⟩ := bnd h
  cases h
  obtain ⟨p, vs, rfl, hp, a⟩ := rs.seq ry h1
  obtain ⟨a1, a2, a3, a4⟩ := rdV_of rs 5 rx h2
  obtain ⟨b1, b2, b3, b4⟩ := rdA_of (k := 5) rs (fun r h => rdV_of rs 5 r h) a h3
  refine ⟨p, vs, d, ds, rfl, hp.imp id SqT.of, a1, b1, by simp [SeqAt.shaped, a2]; omega, by omega, canLay_mem b2, ?_⟩
  rw [Bool.eq_iff_iff]
  simp only [List.any_eq_true, decide_eq_true_eq]
  constructor
  · rintro ⟨e, he, q⟩
    rw [eqv_iff e d (nbA_mem b4 e he) a4] at q
    exact q ▸ he
  · intro hd
    exact ⟨d, hd, (eqv_iff d d a4 a4).mpr rfl⟩
theorem bls_get : ∀ {bs : List Bool} {us : List Value}, Vals (bs.map V.bl) us → ∀ (i : Nat) (v : Value), us[i]? = some v → v = .bool (bs.getD i false)
  | [], _, .nil, i, v, h => by simp at h
  | b :: bs, _, .cons r t, 0, v, h => by
    simp at h
    subst h
    simpa using (show _ = Value.bool b from r)
  | b :: bs, _, .cons r t, i + 1, v, h => by
    have := bls_get t i v (by simpa using h)
    simpa using this
theorem truth_bls {prog : Program} {w : World} {A : Around} {bs : List Bool} {us : List Value} (hv : Vals (bs.map V.bl) us) : TruthOf prog w A (fun i v => us.toArray[i]? = some v) fun i => bs.getD i false := fun i v s Q E h q => by
  rw [bls_get hv i v (by simpa using h)]
  exact wpAny_truthy_bool q
theorem range_all (bs : List Bool) : (List.range bs.length).all (fun i => bs.getD i false) = bs.all id := by
  rw [Bool.eq_iff_iff]
  simp only [List.all_eq_true, List.mem_range]
  constructor
  · intro h b hb
    obtain ⟨i, hi⟩ := List.getElem?_of_mem hb
    have hl := (List.getElem?_eq_some_iff.mp hi).1
    have := h i hl
    simpa [List.getD, hi] using this
  · intro h i hi
    have : bs[i]? = some bs[i] := List.getElem?_eq_getElem hi
    simp only [List.getD, this, Option.getD_some]
    exact h _ (List.getElem_mem hi)
theorem range_any (bs : List Bool) : (List.range bs.length).any (fun i => bs.getD i false) = bs.any id := by
  rw [Bool.eq_iff_iff]
  simp only [List.any_eq_true, List.mem_range]
  constructor
  · rintro ⟨i, hi, h⟩
    have : bs[i]? = some bs[i] := List.getElem?_eq_getElem hi
    simp only [List.getD, this, Option.getD_some] at h
    exact ⟨_, List.getElem_mem hi, h⟩
  · rintro ⟨b, hb, h⟩
    obtain ⟨i, hi⟩ := List.getElem?_of_mem hb
    exact ⟨i, (List.getElem?_eq_some_iff.mp hi).1, by simpa [List.getD, hi] using h⟩
theorem call_anyQ (hc : X.calm = true) : CallR X (.builtin "any") (fun xs H Q => ∃ (p : Addr) (bs : List Bool), xs = [.ref p] ∧ SqL X.K H p (bs.map V.bl) ∧ Q (.bl (bs.any id)) H) := by
  intro pins s σ H xs us Q I r h
  obtain ⟨p, bs, rfl, hp, q⟩ := h
  obtain ⟨u, rfl, ru⟩ := vals1 r
  cases (show u = Value.ref p from ru)
  obtain ⟨its, hv, pl, _⟩ := I.list hp
  have hl := pl.isList
  have hlt : p < s.heap.objs.size := by obtain ⟨o, e, _⟩ := hl; exact Heap.lt_size e
  refine call_any_walk (wpAny_pyIter_list hl ?_)
  refine ⟨s.heap.objs.size, _, _, _, _, _, _, rfl, Walks.list (A := X.A.in1) (I.ok.hd hc) s.heap.objs.size p (Nat.ne_of_lt hlt) its.toArray, ⟨⟨_, Heap.get?_push_size _ rfl, rfl, rfl⟩, hl.at fun o e => Heap.get?_push_of_some _ e⟩, truth_bls hv, fun h' tk kk => ?_⟩
  have e : its.toArray.size = bs.length := by rw [List.size_toArray, ← hv.length, List.length_map]
  rw [e, range_any]
  exact ⟨.bl _, H, I.kept (t' := tk) fun b o g => kk b o (by simpa using Nat.ne_of_lt (Heap.lt_size g)) (Heap.get?_push_of_some _ g), rfl, q⟩
theorem bools_of {K : PySem.W.Frag} {ρ : Nat → Addr} {N : Nat} {H : Hp} : ∀ {ds : List Qm.D} {vs : List V} {bs : List Bool}, RA K ρ N H ds vs → Qm.omap Qm.asB ds = some bs → vs = bs.map V.bl
  | [], _, bs, a, h => by cases a; cases h; rfl
  | d :: ds, _, bs, a, h => by
    cases a with
    | cons r a =>
      obtain ⟨b, h1, h⟩ := bnd h
      obtain ⟨cs, h2, h⟩ := bnd h
      cases h
      rw [asB_of h1] at r
      cases r.bl'
      rw [bools_of a h2]; rfl
theorem lk_any {K : PySem.W.Frag} : LkF K (fun xs H Q => ∃ (p : Addr) (bs : List Bool), xs = [.ref p] ∧ SqL K H p (bs.map V.bl) ∧ Q (.bl (bs.any id)) H) Qm.bAny := by
  intro ρ c H ds d c' vs Q rs ra e k
  obtain ⟨x, rfl, e'⟩ := one_of e
  obtain ⟨v, rfl, rx⟩ := ra.one'
  obtain ⟨n, e0, e'⟩ := bnd e'
  obtain ⟨bs, e2, e'⟩ := bnd e'
  cases e'
  obtain ⟨rfl, hn, ws, rfl, g, a⟩ := rs.lstOf rx e0
  exact ⟨_, bs, rfl, bools_of a e2 ▸ SqL.of g, k ρ _ H (Nx.refl rs) (.bl _)⟩
theorem bt_any : bootBuiltins "any" = some (.builtin "any") := by decide +kernel
end
end L2
namespace Qm
open PySem
noncomputable section
def gAddK : G2 := fun x y c => match x with
  | .ref n => (match c[n]? with
    | some (.ro xs) => (lstOf y c).bind fun q => if xs.length + q.2.length ≤ LINE then some (.ref c.length, c ++ [.lst (xs ++ q.2)]) else none
    | _ => none)
  | _ => none
end
end Qm
namespace L2
open PySem PySem.Spec PyProof.Rows
section
variable {X : Cx}
end
end L2
namespace L2
open PySem PySem.Spec PyProof.Rows
def gtL : List Int → List Int → Bool
  | [], _ => false
  | _ :: _, [] => true
  | a :: r, b :: t => if a = b then gtL r t else decide (a > b)
section
variable {prog : Program} {w : World} {A : Around} {E : Value → Shared → Prop} {s : Shared}
end
theorem ints_of : ∀ {ns : List Int} {us : List Value}, Vals (ns.map V.int) us → IntsAre us ns
  | [], _, h => by cases h; exact .nil
  | n :: ns, _, h => by
    cases h with
    | cons r t =>
      obtain ⟨k, rfl⟩ := r
      exact .cons n k (ints_of t)
section
variable {X : Cx}
end
end L2
namespace L2
open PySem PySem.Spec PyProof.Rows
section
variable {prog : Program} {w : World} {A : Around}
end
section
variable {X : Cx}
end
end L2
namespace L2
open PySem PySem.Spec PyProof.Rows PySem.W
theorem objThere {P : Program} {w : World} {H : Hp} {h : Heap} {a : Addr} {o : HO} (x : ObjOk P w H h a o) : ∃ u, h.get? a = some u := by
  cases o with
  | lst xs => obtain ⟨_, _, _, _, e⟩ := x; exact ⟨_, e⟩
  | tup xs => obtain ⟨_, _, _, ob, e, _⟩ := x; exact ⟨_, e⟩
  | dK kvs => obtain ⟨_, _, _, _, o, _, _, e, _⟩ := x; exact ⟨_, e⟩
  | dT kvs => obtain ⟨_, _, _, _, o, _, _, e, _⟩ := x; exact ⟨_, e⟩
  | dU kvs => obtain ⟨_, _, _, _, o, _, _, e, _⟩ := x; exact ⟨_, e⟩
  | set S n => obtain ⟨o, _, _, _, e, _⟩ := x; exact ⟨_, e⟩
  | ins C dx fs => obtain ⟨_, _, _, e, _⟩ := x; exact ⟨_, e⟩
  | own y => exact x
  | xd fs => obtain ⟨_, ⟨_, _, _, e, _⟩, _⟩ := x; exact ⟨_, e⟩
  | rng lo hi => obtain ⟨_, _, _, e⟩ := x; exact ⟨_, e⟩
  | frz ob u => obtain ⟨e, _⟩ := x; exact ⟨_, e⟩
  | tbl ps => exact ⟨_, show h.get? a = some _ from x⟩
  | met f y => exact ⟨_, show h.get? a = some _ from x⟩
  | ext φ => obtain ⟨_, e, _⟩ := x; exact e
section
variable {X : Cx} {pins : List (Addr × Obj)} {σ : St} {H : Hp} {s : Shared}
theorem Inv.newsL {h' : Heap} {m : Str → Option Value} {D : Addr} {out : List Value} {xs : List V} {c : Nat} (I : Inv X pins σ H s) (hm : s.heap.Ns X.env.locals m) (F : Fr X.base X.env.locals h' m)
    (N : News X.base X.env.locals h' ((D, listOf out.toArray c) :: allNews X.base s.heap X.env.locals)) (hD : ∀ q ∈ allNews X.base s.heap X.env.locals, q.1 < D) (r : Vals xs out) (hz : xs.length ≤ sizeLine) :
    Inv X pins σ (upd H D (.lst xs)) { s with heap := h' } ∧ H D = none := by
  have d1 := N _ List.mem_cons_self
  have kp : ∀ b o, b ≠ X.env.locals → s.heap.get? b = some o → h'.get? b = some o := fun b o hb e => by
    cases q : X.base.get? b with
    | some u =>
      have := I.bk b u q
      rw [e] at this; cases this
      exact F.keep b _ q
    | none => exact (N (b, o) (List.mem_cons_of_mem _ (mem_allNews hb q e))).1
  have sD : s.heap.get? D = none := by
    cases q : s.heap.get? D with
    | none => rfl
    | some o => exact absurd (hD (D, o) (mem_allNews d1.2.1 d1.2.2 q)) (Nat.lt_irrefl _)
  have hDn : H D = none := by
    cases q : H D with
    | none => rfl
    | some u =>
      obtain ⟨o, e⟩ := objThere (I.hok D u q)
      rw [sD] at e; cases e
  refine ⟨?_, hDn⟩
  have ne : ∀ {b : Addr} {u : HO}, H b = some u → b ≠ D := fun q => ne_of_none q hDn
  refine I.step (ch := []) (fun b hb => by cases hb) (fun b o h1 _ _ e _ => kp b o h1 e) (fun b o h1 _ _ e _ => ⟨o.slots, kp b o h1 e⟩) (fun b o _ e q => ?_) (fun b o _ e => ?_) (fun b xs q => by rw [upd_ne (ne q)]; exact q) (fun b o u q => by rw [upd_ne (ne q)]; exact q) (fun b ps q => ⟨#[], by rw [upd_ne (ne q), Array.append_empty]; exact q⟩) (fun m' hn => ?_) ?_ I.bare
  · rw [upd_ne (fun z => by rw [z, sD] at e; cases e)]; exact q
  · by_cases hb : b = X.env.locals
    · obtain ⟨o', _, _, ho, _⟩ := F.ns
      exact ⟨o', by rw [hb]; exact ho⟩
    · exact ⟨o, kp b o hb e⟩
  · have : m' = m := funext fun x => hn.agree hm x
    rw [this]; exact F.ns
  · intro b u e
    by_cases hb : b = D
    · subst hb; rw [upd_same] at e; cases e
      exact ⟨hz, out, c, r, d1.1⟩
    · rw [upd_ne hb] at e
      have nL : ∀ {b : Addr} {u : HO}, H b = some u → b ≠ X.env.locals := fun q => ne_of_none q I.free
      refine (I.hok b u e).stay (fun d v hd q => kp d v ?_ q) (fun d q => by rw [upd_ne (ne q)]; exact q) fun d xs q => by rw [upd_ne (ne q)]; exact q
      rcases hd with rfl | hd
      · exact nL e
      · exact nL hd
end
section
variable {prog : Program} {w : World} {A : Around} {s : Shared} {Q : Bool → Shared → Prop}
theorem katLex_ints {fin : Bool} : ∀ {xs ys : List Value} {x y : List Int} (i : Nat), IntsAre xs x → IntsAre ys y → (xs.length ≠ ys.length ∨ xs.length = ys.length → fin = decide (xs.length < ys.length)) → Q (gtL y x) s → KatLex prog w A true fin Q (xs.zip ys) i s
  | [], ys, _, y, i, .nil, hy, hf, h => by
    refine (show Q fin s from ?_)
    rw [hf (by omega)]
    cases hy with
    | nil => simpa [gtL] using h
    | cons _ _ _ => simpa [gtL] using h
  | _, _, _, _, i, .cons n t (vs := vs) (ns := ns) hx, .nil, hf, h => by
    refine (show Q fin s from ?_)
    rw [hf (by omega)]
    simpa [gtL] using h
  | _, _, _, _, i, .cons n t (vs := vs) (ns := ns) hx, .cons k u (vs := ws) (ns := ms) hy, hf, h => by
    refine (show wpAny (model prog w) A (eqBool (.int n t) (.int k u)) _ _ s from wpAny_eqBool_int ?_)
    by_cases hk : n = k
    · subst hk
      rw [beq_self_eq_true, if_pos rfl]
      refine katLex_ints (i + 1) hx hy (fun _ => ?_) (by simpa [gtL] using h)
      have := hf (by omega)
      simpa using this
    · rw [beq_eq_false_iff_ne.mpr hk, if_neg (by decide)]
      have e : gtL (k :: ms) (n :: ns) = decide (n < k) := by simp [gtL, Ne.symm hk]
      rw [e] at h
      cases hi : (i == 0) with
      | true => exact oneLt_int h
      | false => exact kat_one _ _ (lt_int h)
end
section
variable {X : Cx}
theorem first_of {its : List Value} {n : Int} {ns : List Int} (h : IntsAre its (n :: ns)) : ∃ t, its.toArray[0]? = some (.int n t) := by
  cases h with
  | cons n t r => exact ⟨t, by simp⟩
theorem looks_int {M : Model} {h : Heap} {n : Int} {t : Tok} : Looks M h (typeOf (.int n t)) (.type "int") := fun _ _ _ s _ q => wpAny_pure q
end
end L2
namespace L2
open PySem PySem.Spec PyProof.Rows
section
variable {prog : Program} {w : World} {A : Around} {E : Value → Shared → Prop}
end
section
variable {X : Cx} {pos : Pos}
end
end L2
namespace Qm
open PySem
noncomputable section
def gtL : List Int → List Int → Bool
  | [], _ => false
  | _ :: _, [] => true
  | a :: r, b :: t => if a = b then gtL r t else decide (a > b)
def nums (xs : List D) : Option (List Int) := omap asI xs
def gGtT : G2 := fun x y c => match x, y with
  | .tup xs, .tup ys => (nums xs).bind fun ns => (nums ys).bind fun ms => some (.bl (gtL ns ms), c)
  | _, _ => none
def bMax2T : FN := fun ds c => match ds with
  | [.tup xs, .tup ys] => (nums xs).bind fun ns => (nums ys).bind fun ms => some (if gtL ms ns = true then .tup ys else .tup xs, c)
  | _ => none
def two2T (xs : List D) : Option (List D × List D × List Int × List Int) := match xs with
  | [.tup xs, .tup ys] => (nums xs).bind fun ns => (nums ys).bind fun ms => if ns ≠ [] ∧ ms ≠ [] then some (xs, ys, ns, ms) else none
  | _ => none
def bSorted2 : FN := fun ds c => match ds with
  | [.ref l] => (seqOf (.ref l) c).bind fun zs => (two2T zs).bind fun q => some (.ref c.length, c ++ [.lst (if gtL q.2.2.1 q.2.2.2 = true then [.tup q.2.1, .tup q.1] else [.tup q.1, .tup q.2.1])])
  | _ => none
end
end Qm
namespace L2
open PySem PySem.Spec PyProof.Rows
theorem bt_sorted : bootBuiltins "sorted" = some (.builtin "sorted") := by decide +kernel
theorem gtL_eq : ∀ x y : List Int, gtL x y = Qm.gtL x y
  | [], y => by cases y <;> rfl
  | _ :: _, [] => rfl
  | a :: r, b :: t => by simp only [gtL, Qm.gtL]; rw [gtL_eq r t]
section
variable {K : PySem.W.Frag}
theorem nums_ra {ρ : Nat → Addr} {N : Nat} {H : Hp} : ∀ {xs : List Qm.D} {vs : List V} {ns : List Int}, RA K ρ N H xs vs → Qm.nums xs = some ns → vs = ns.map V.int
  | [], _, ns, a, h => by cases a; cases h; rfl
  | x :: xs, _, ns, a, h => by
    cases a with
    | cons r a =>
      obtain ⟨i, h1, h⟩ := bnd h
      obtain ⟨ms, h2, h⟩ := bnd h
      cases h
      rw [asI_of h1] at r
      cases r.int'
      rw [nums_ra a h2]
      rfl
end
section
variable {X : Cx} {pos : Pos} {es : List Expr}
end
end L2
namespace Qm
open PySem
noncomputable section
end
end Qm
namespace PySem
open Sem (wp)
section
variable {prog : Program} {w : World} {K : Type} [DecidableEq K] {knd : KeyKind prog w K} {A : Around} {E : Value → Shared → Prop} {s : Shared}
end
end PySem
namespace L2
open PySem PySem.Spec PyProof.Rows
section
variable {K : PySem.W.Frag} {ρ ρ' : Nat → Addr} {N : Nat} {c c' : Qm.Cells} {H H' : Hp}
theorem RK.length : ∀ {ps : List (Str × Qm.D)} {us : List (Key × V)}, RK K ρ N H ps us → ps.length = us.length
  | _, _, .nil => rfl
  | _, _, .cons _ a => congrArg (· + 1) (RK.length a)
end
section
variable {X : Cx} {a b e : Expr} {es : List Expr} {fa fb fc fe : Qm.XE} {pos apos cpos : Pos}
end
end L2
namespace L2
open PySem PySem.Spec PyProof.Rows
section
variable {X : Cx}
end
section
variable {K : PySem.W.Frag} {ρ : Nat → Addr} {c : Qm.Cells} {H : Hp}
inductive PD (K : PySem.W.Frag) (H : Hp) : List (Str × PyData) → List (Key × V) → Prop
  | nil : PD K H [] []
  | cons {k : Str} {d : PyData} {r : List (Str × PyData)} {v : V} {t : List (Key × V)} : RdV K H v d → SeqAt.shaped d = true → nb d = true → PD K H r t → PD K H ((k, d) :: r) ((.inr k, v) :: t)
theorem PD.length : ∀ {ds : List (Str × PyData)} {us : List (Key × V)}, PD K H ds us → ds.length = us.length
  | _, _, .nil => rfl
  | _, _, .cons _ _ _ a => congrArg (· + 1) (PD.length a)
end
end L2
namespace L2
open PySem PySem.Spec PyProof.Rows
theorem FnOk.none {P : Program} {w : World} {K : PySem.W.Frag} {mg : Str → Option Value} {base : Heap} {k : Nat} {f : Addr} {fd : FuncData} {ps : List Str} {F : Qm.FN} (h : ∀ ds c, F ds c = Option.none) : FnOk P w K mg base CX0 k f fd ps (spD K F) :=
  ⟨fun vs H Q E ⟨_, _, _, _, _, _, _, e, _⟩ => (by rw [h] at e; cases e), fun A outer s H args us vs Q E _ _ _ _ ⟨_, _, _, _, _, _, _, e, _⟩ => (by rw [h] at e; cases e)⟩
end L2
namespace L2
open PySem PySem.Spec PyProof.Rows
end L2
namespace L2
open PySem PySem.Spec PyProof.Rows
section
variable {X : Cx} {es : List Expr} {fr : Qm.XA} {p : Pos}
end
end L2
namespace L2
open PySem PySem.Spec PyProof.Rows
section
variable {X : Cx} {pins : List (Addr × Obj)} {σ : St} {H : Hp} {s : Shared} {h' : Heap}
theorem Inv.turnN {ch : List Addr} {T : Addr} {o : HO} {t' : Nat} (I : Inv X pins σ H s) (hch : ∀ b ∈ ch, FpOk X pins H b) (k : ∀ b u, b ∉ ch → s.heap.get? b = some u → h'.get? b = some u) (hT : s.heap.objs.size ≤ T) (new : ObjOk X.prog X.w (upd H T o) h' T o) :
    Inv X pins σ (upd H T o) { s with heap := h', toks := t' } := by
  have hn : H T = none := I.hok.fresh hT
  have ne : ∀ b u, s.heap.get? b = some u → b ≠ T := fun b u e => Nat.ne_of_lt (Nat.lt_of_lt_of_le (Heap.lt_size e) hT)
  have nc : ∀ b u, H b = some u → b ∉ ch := fun b u e hb => by rw [(hch b hb).1] at e; cases e
  refine I.step (g' := s.gens) (d' := s.drawn) (ch := ch) (fun b hb => ⟨(hch b hb).2.2.2.1, (hch b hb).2.1, (hch b hb).2.2.2.2.1, (hch b hb).2.2.2.2.2⟩) (fun b u _ _ hc e _ => k b u hc e) (fun b u _ _ hc e _ => ⟨u.slots, k b u hc e⟩) (fun b u _ e z => by rw [upd_ne (ne b u e)]; exact z)
    (fun b u hc e => ⟨u, k b u hc e⟩) (fun b xs e => by rw [upd_ne (ne_of_none e hn)]; exact e) (fun b u v e => by rw [upd_ne (ne_of_none e hn)]; exact e) (fun b ps e => ⟨#[], by rw [upd_ne (ne_of_none e hn), e]; simp⟩) (fun m hm => ?_) (fun b u e => ?_) I.bare
  · obtain ⟨ob, es, ep, ho, r⟩ := hm
    exact ⟨ob, es, ep, k _ ob (fun z => (hch _ z).2.1 rfl) ho, r⟩
  · by_cases hb : b = T
    · subst hb
      rw [upd_same] at e
      cases e
      exact new
    · rw [upd_ne hb] at e
      refine (I.hok b u e).stay (fun c v hc q => k c v ?_ q) (fun c q => by rw [upd_ne (ne_of_none q hn)]; exact q) fun c xs q => by rw [upd_ne (ne_of_none q hn)]; exact q
      rcases hc with z | z
      · rw [z]; exact nc b u e
      · exact nc c _ z
end
section
variable {X : Cx} {e1 e2 : Expr} {p0 p1 p2 pos : Pos} {f : Qm.XA} {es : List Expr} {k0 : Nat}
end
end L2
namespace Qm
open PySem
noncomputable section
open Classical in
def eqMW (x y : D) (c : Cells) : Option Bool := (data c 60 x).bind fun d => (data c 60 y).bind fun e => some (decide (d = e))
def gEqW : G2 := fun x y c => (eqMW x y c).bind fun b => some (.bl b, c)
def gNeW : G2 := fun x y c => (eqMW x y c).bind fun b => some (.bl (!b), c)
end
end Qm
namespace L2
open PySem PySem.Spec PyProof.Rows
section
variable {K : PySem.W.Frag}
theorem eqMW_eqv {ρ : Nat → Addr} {c : Qm.Cells} {H : Hp} {x y : Qm.D} {v u : V} {b : Bool} (rs : RS K ρ c H) (rx : RD K ρ c.length H x v) (ry : RD K ρ c.length H y u) (h : Qm.eqMW x y c = some b) :
    ∃ d e, RdV K H v d ∧ RdV K H u e ∧ SeqAt.shaped d = true ∧ SeqAt.shaped e = true ∧ PyData.eqv d e = b := by
  unfold Qm.eqMW at h
  obtain ⟨d, h1, h⟩ := bnd h
  obtain ⟨e, h2, h⟩ := bnd h
  cases h
  obtain ⟨a1, a2, a3, a4⟩ := rdV_of rs 60 rx h1
  obtain ⟨b1, b2, b3, b4⟩ := rdV_of rs 60 ry h2
  refine ⟨d, e, a1, b1, by simp [SeqAt.shaped, a2]; omega, by simp [SeqAt.shaped, b2]; omega, ?_⟩
  have := eqv_iff d e a4 b4
  by_cases q : d = e
  · rw [this.mpr q]; simp [q]
  · cases z : PyData.eqv d e with
    | false => simp [q]
    | true => exact absurd (this.mp z) q
theorem lk_eqW : Lk2 K (fun x y H Q => rEq x y H Q ∨ rEqD K false x y H Q) Qm.gEqW := by
  intro ρ c H x y d c' v u Q rs rx ry e k
  obtain ⟨b, e1, e⟩ := bnd e
  cases e
  obtain ⟨dd, ee, a1, a2, a3, a4, a5⟩ := eqMW_eqv rs rx ry e1
  refine .inr ⟨dd, ee, a1, a2, a3, a4, ?_⟩
  rw [if_neg (by decide), a5]
  exact k ρ _ H (Nx.refl rs) (.bl _)
theorem lk_neW : Lk2 K (fun x y H Q => rNe x y H Q ∨ rEqD K true x y H Q) Qm.gNeW := by
  intro ρ c H x y d c' v u Q rs rx ry e k
  obtain ⟨b, e1, e⟩ := bnd e
  cases e
  obtain ⟨dd, ee, a1, a2, a3, a4, a5⟩ := eqMW_eqv rs rx ry e1
  refine .inr ⟨dd, ee, a1, a2, a3, a4, ?_⟩
  rw [if_pos rfl, a5]
  exact k ρ _ H (Nx.refl rs) (.bl _)
end
section
variable {X : Cx} {e1 : Expr} {p0 p1 p2 pos : Pos} {f : Qm.XA} {es : List Expr} {k0 : Nat}
end
end L2
namespace L2
open PySem PySem.Spec PyProof.Rows
section
variable {X : Cx} {pins : List (Addr × Obj)} {σ : St} {H : Hp} {s : Shared} {h' : Heap}
end
section
variable {X : Cx} {tg l : Expr} {tl : TE}
end
section
variable {K : PySem.W.Frag} {ρ ρ' : Nat → Addr} {N : Nat} {c c' : Qm.Cells} {H H' : Hp}
theorem RK.at_ : ∀ {ps : List (Str × Qm.D)} {us : List (Key × V)}, RK K ρ N H ps us → ∀ {i : Nat} {p : Str × Qm.D}, ps[i]? = some p → ∃ kv, us[i]? = some kv ∧ kv.1 = .inr p.1
  | _, _, .nil, i, p, h => by simp at h
  | _, _, .cons (k := k') _ a, 0, p, h => by simp at h; subst h; exact ⟨_, rfl, rfl⟩
  | _, _, .cons _ a, i + 1, p, h => by
    obtain ⟨kv, h1, h2⟩ := RK.at_ a (i := i) (p := p) (by simpa using h)
    exact ⟨kv, by simpa using h1, h2⟩
end
section
variable {X : Cx} {e a b tg : Expr} {fe fa fb : Qm.XE} {pos : Pos}
end
end L2
namespace L2
open PySem PySem.Spec PyProof.Rows
section
variable {X : Cx} {pins : List (Addr × Obj)} {σ : St} {H : Hp} {s : Shared}
end
end L2
namespace Qm
open PySem
noncomputable section
end
end Qm
namespace Qm
open PySem
noncomputable section
end
end Qm
namespace L2
open PySem PySem.Spec PyProof.Rows
section
variable {X : Cx}
end
section
variable {K : PySem.W.Frag} {ρ : Nat → Addr} {c : Qm.Cells} {H : Hp}
end
end L2
namespace PySem
open Sem (wp)
open AutoSeq1 (wpAny_loadPart')
open MeetsSeq MeetsSeq2 MeetsSeq3 SeqRoads2
section
variable {P : Program} {W : World}
variable {A : Around} {E : Value → Shared → Prop} {s : Shared}
end
end PySem
namespace L2
open PySem PySem.Spec PyProof.Rows
section
variable {X : Cx}
end
section
variable {K : PySem.W.Frag} {ρ : Nat → Addr} {c : Qm.Cells} {H : Hp}
end
end L2
namespace Qm
open PySem
noncomputable section
def iZipL (a : XA) : XI := fun σ c => (a σ c).bind fun p => match p.1 with
  | [.ref n, .ref m] => (p.2[n]?).bind fun z => (p.2[m]?).bind fun y => (lstOf (.ref n) p.2).bind fun l => (lstOf (.ref m) p.2).bind fun k => some (⟨zipD l.2 k.2, [(n, z), (m, y)]⟩, p.2)
  | _ => none
def bListRev : FN := fun ds c => match ds with
  | [.ref n] => (lstOf (.ref n) c).bind fun l => if l.2.length ≤ LINE then some (.ref c.length, c ++ [.lst l.2.reverse]) else none
  | _ => none
end
end Qm
namespace PySem
open Sem (wp)
theorem nolen_lr : typeLookup (.type "list_reverseiterator") "__len__" = pure none := by rw [typeLookup_type, builtinLookup_eq_fast]; kernel_rfl
theorem hint_lr : typeLookup (.type "list_reverseiterator") "__length_hint__" = pure (some (.builtin "list_reverseiterator.__length_hint__")) := by rw [typeLookup_type, builtinLookup_eq_fast]; kernel_rfl
section
variable {prog : Program} {w : World} {A : Around} {E : Value → Shared → Prop} {s : Shared} {I : Addr} {fp wr : List Addr} {G : Array GenState → Array GenState → Prop} {n : Nat} {P : Nat → Value → Prop} {St : Nat → Shared → Prop}
theorem ext_lri {R : Result → Shared → Prop} (W : WalksS prog w A.in1 I fp wr G n P St) (hT : ∀ i s, St i s → s.TypeIs (.ref I) "list_reverseiterator") (S : Addr) (res : Value) (hst : St 0 s) (hSf : S ∉ fp) (hI : I ∈ fp)
    {nn : Nat} (hS : s.heap.get? S = some { cls := .type "list", data := .seq #[] nn })
    (hR : ∀ s' acc' c', Moved (S :: wr) G s s' → s'.heap.get? S = some { cls := .type "list", dict := none, data := .seq acc' c', slots := #[] } → ItemsOf P acc' n → R (.ok (.ret res)) s') (hn : n ≤ sizeLine) :
    wpAny (model prog w) A.in1 (Builtin.List.listExtendWith (.ref S) (.ref I) res)
      (fun fin s' => match fin with | .done f => R (.ok f) s' | .again c' => c'.quiet = true ∧ codeAny (model prog w) A c' R s') (fun e s' => R (.error e) s') s := by
  have ty := hT 0 _ hst
  have two : Builtin.List.listSameRef (.ref S) (.ref I) = false := by
    have : S ≠ I := by rintro rfl; exact hSf hI
    simp [Builtin.List.listSameRef, this]
  refine wpAny_bind (wpAny_typeOf ty ?_)
  rw [if_neg (by rw [two]; decide)]
  refine wpAny_bind (W.self 0 _ _ _ hst (wpAny_bind (wpAny_holding (wpAny_bind (wpAny_specialOf ty nolen_lr (show wpAny _ _ (specialOf _ (Str.ofString "__length_hint__") >>= _) _ _ _ from wpAny_bind (wpAny_specialOf ty hint_lr ?_)))))))
  generalize said : ("list_reverseiterator.__length_hint__" : String) = nm
  have cut : splitId nm = some ("list_reverseiterator", "__length_hint__") := by rw [← said]; decide +kernel
  wp_delta
  rw [cut, ← said]
  refine wpAny_bind (wpAny_isInstance (b := true) ty (by rw [isSubtype_type]; kernel_rfl) (wpAny_pure ?_))
  rw [if_neg (by decide)]
  exact wpAny_pure ⟨plainId_quiet F.plain_extend_loop _, codeAny_extend_loopS W hn _ hSf _ n 0 _ _ _ rfl (Nat.zero_le _) hst hS (ItemsOf.nil P) hR⟩
theorem init_lri {R : Result → Shared → Prop} (W : WalksS prog w A.in1 I fp wr G n P St) (hT : ∀ i s, St i s → s.TypeIs (.ref I) "list_reverseiterator") (S : Addr) (hst : St 0 s) (hSf : S ∉ fp) (hI : I ∈ fp)
    (hS : s.heap.get? S = some { cls := .type "list", data := .seq #[] })
    (hR : ∀ s' acc' c', Moved (S :: wr) G s s' → s'.heap.get? S = some { cls := .type "list", dict := none, data := .seq acc' c', slots := #[] } → ItemsOf P acc' n → R (.ok (.ret .none)) s') (hn : n ≤ sizeLine) :
    wpAny (model prog w) A.in1 (Builtin.«list.__init__» ⟨[.ref S, .ref I], []⟩)
      (fun fin s' => match fin with | .done f => R (.ok f) s' | .again c' => c'.quiet = true ∧ codeAny (model prog w) A c' R s') (fun e s' => R (.error e) s') s := by
  show wpAny _ A.in1 (Builtin.List.listItems (.ref S) >>= fun old => Builtin.List.listUpdate (.ref S) (fun _ => #[]) >>= fun _ => letGo old.toList.reverse >>= fun _ => Builtin.List.listExtendWith (.ref S) (.ref I) .none) _ _ s
  refine wpAny_bind (m := Builtin.List.listItems (.ref S)) ?_
  unfold Builtin.List.listItems
  refine wpAny_bind (wpAny_seqItems hS rfl (wpAny_pure ?_))
  show wpAny _ A.in1 (updateSeq S (fun _ => #[]) >>= fun _ => letGo ([] : List Value).reverse >>= fun _ => Builtin.List.listExtendWith (.ref S) (.ref I) .none) _ _ s
  refine wpAny_bind (wpAny_updateSeq hS rfl ?_)
  have hS2 := Heap.get?_update_self (Obj.mapSeq (fun _ => (#[] : Array Value))) hS rfl
  have oth : ∀ b o, b ≠ S → s.heap.get? b = some o → (s.heap.update S (Obj.mapSeq (fun _ => (#[] : Array Value)))).get? b = some o := fun b o hb e => (Heap.get?_update_other _ _ (Ne.symm hb)).trans e
  refine wpAny_bind (wpAny_letGo (ext_lri (hn := hn) W hT S .none (W.frame 0 s _ s.toks hst (Nat.le_refl _) fun b hb o e => oth b o (fun h => hSf (h ▸ hb)) e) hSf hI hS2 fun s' acc' c' hm hS' hacc => ?_))
  exact hR s' acc' c' (Moved.trans W.gtrans ((Moved.refl W.grefl).then_heap (Nat.le_refl _) (fun b o hb e => oth b o (fun h => hb (h ▸ List.mem_cons_self)) e)) hm) hS' hacc
theorem call_list_lri {Q : Value → Shared → Prop} (W : WalksS prog w A.in1.in1 I fp wr G n P St) (hT : ∀ i s, St i s → s.TypeIs (.ref I) "list_reverseiterator") (hst : St 0 s) (hfp : ∀ b ∈ fp, b < s.heap.objs.size) (hI : I ∈ fp)
    (hQ : ∀ s' acc' c', Moved (s.heap.objs.size :: wr) G { s with heap := s.heap.push { cls := .type "list", data := .seq #[] } } s' → s'.heap.get? s.heap.objs.size = some { cls := .type "list", dict := none, data := .seq acc' c', slots := #[] } → ItemsOf P acc' n → Q (.ref s.heap.objs.size) s') (hn : n ≤ sizeLine) :
    wpAny (model prog w) A (call (.type "list") [.ref I]) Q E s := by
  have hSf : s.heap.objs.size ∉ fp := fun hm => Nat.lt_irrefl _ (hfp _ hm)
  refine callType_codes (Q₁ := fun obj s₁ => obj = .ref s.heap.objs.size ∧ s₁ = { s with heap := s.heap.push { cls := .type "list", data := .seq #[] } }) F.called_list (F.typeCall_list_1 _) F.entry_list_init (code_list_new _ ⟨rfl, rfl⟩) fun obj s₁ h₁ => ?_
  obtain ⟨rfl, rfl⟩ := h₁
  have hS : (s.heap.push { cls := .type "list", data := .seq #[] }).get? s.heap.objs.size = some { cls := .type "list", data := .seq #[] } := Heap.get?_push_size _ rfl
  exact ⟨⟨_, hS, rfl⟩, F.args_list_init_2 _ _, init_lri (hn := hn) W hT _ (W.frame 0 s _ s.toks hst (Nat.le_refl _) fun b _ o e => Heap.get?_push_of_some _ e) hSf hI hS fun s' acc' c' hm hS' hacc => ⟨rfl, hQ s' acc' c' hm hS' hacc⟩⟩
end
end PySem
namespace L2
open PySem PySem.Spec PyProof.Rows
theorem lri_items {its : List Value} {acc : Array Value} (h : ItemsOf (fun i v => its.toArray[its.toArray.size - 1 - i]? = some v) acc its.toArray.size) : acc.toList = its.reverse := by
  obtain ⟨h1, h2⟩ := h
  apply List.ext_getElem?
  intro j
  have el : acc.toList.length = its.length := by simpa using h1
  by_cases hj : j < its.length
  · have e1 : acc[j]? = some (acc[j]'(by rw [h1]; simpa using hj)) := Array.getElem?_eq_getElem _
    have e2 := h2 j _ e1
    rw [List.getElem?_reverse hj, show acc.toList[j]? = acc[j]? by simp, e1, ← e2]
    simp
  · rw [List.getElem?_eq_none (by omega), List.getElem?_eq_none (by rw [List.length_reverse]; omega)]
def tListRev (K : PySem.W.Frag) (t : TA) : TE := fun σ H Q => t σ H fun vs H1 => ∃ a xs, vs = [.ref a] ∧ SqL K H1 a xs ∧ ∀ l, H1 l = none → Q (.ref l) (upd H1 l (.lst xs.reverse))
section
variable {X : Cx}
theorem pe_listrev {p0 p1 p2 pos : Pos} {e : Expr} {f : TA} (hc : X.calm = true) (hg : Gl X "list") (hm : X.mg "list" = none) (hg2 : Gl X "reversed") (hm2 : X.mg "reversed" = none) (ha : PA X [e] f)
    (hs : starEach [.Call (.Name "reversed" p1) [e] [] p2] X.env = [(false, eval (.Call (.Name "reversed" p1) [e] [] p2) X.env)] := by rfl)
    (hs2 : starEach [e] X.env = (false, eval e X.env) :: starEach [] X.env := by rfl) (hpl : (backTo p2 (starEach [] X.env)).any (·.1) = false := by rfl) :
    PE X (.Call (.Name "list" p0) [.Call (.Name "reversed" p1) [e] [] p2] [] pos) (tListRev X.K f) := by
  intro pins s σ H Q I h
  refine wpAny_Call_Name_kw (ld_blt I hg hm (u := .type "list") (by decide +kernel) ?_)
  refine PyProof.Rows.callWith_type1 ?_ hs rfl
  rw [hs]
  show wpAny _ _ (spliced [(false, eval (.Call (.Name "reversed" p1) [e] [] p2) X.env)]) _ _ _
  refine Calls.spliced_cons ?_
  refine wpAny_Call_Name_kw (ld_blt I hg2 hm2 (u := .type "reversed") (by decide +kernel) ?_)
  refine PyProof.Rows.callWith_type1 (thn (ha p2 pins s σ H _ I h) fun us s1 ⟨vs, H1, I1, r1, q1⟩ => ?_) hs2 hpl
  obtain ⟨t, xs, rfl, ht, q⟩ := q1
  obtain ⟨u1, rfl, ra⟩ := vals1 r1
  cases (show u1 = Value.ref t from ra)
  obtain ⟨its, hv, tt, hz⟩ := I1.list ht
  have hlen := hv.length
  have hsz : its.toArray.size ≤ sizeLine := by simp only [List.size_toArray]; omega
  refine call_reversed_list (l := t) (items := its.toArray) tt.isList (Calls.spliced_nil ?_)
  have I2 : Inv X pins σ H1 { s1 with heap := s1.heap.push (revObj t ((its.toArray.size : Int) - 1)) } := I1.kept (t' := s1.toks) fun b o e => Heap.get?_push_of_some _ e
  have hit : (s1.heap.push (revObj t ((its.toArray.size : Int) - 1))).IsRevIter s1.heap.objs.size t ((its.toArray.size : Int) - 1) := ⟨_, Heap.get?_push_size _ rfl, rfl, rfl⟩
  have tt2 : (s1.heap.push (revObj t ((its.toArray.size : Int) - 1))).IsList t its.toArray := Heap.IsList.push tt.isList _
  have htl : t < s1.heap.objs.size := by obtain ⟨o, ho, _⟩ := tt.isList; exact Heap.lt_size ho
  have hnt : t ≠ s1.heap.objs.size := Nat.ne_of_lt htl
  have hnew : H1 s1.heap.objs.size = none := I1.fresh
  have fpk : FpOk X pins H1 s1.heap.objs.size := I1.fpOk (Nat.le_refl _) hnew
  have es : s1.heap.objs.size < (s1.heap.push (revObj t ((its.toArray.size : Int) - 1))).objs.size := by rw [Heap.size_push]; exact Nat.lt_succ_self _
  generalize s1.heap.objs.size = p at *
  generalize hs3 : ({ s1 with heap := s1.heap.push (revObj t ((its.toArray.size : Int) - 1)) } : Shared) = s3 at *
  have hh : s3.heap = s1.heap.push (revObj t ((its.toArray.size : Int) - 1)) := by rw [← hs3]
  rw [← hh] at hit tt2 es
  have W := (Walks.listRev (prog := X.prog) (w := X.w) (A := X.A.in1.in1) (I.ok.hd hc) p t hnt its.toArray).toS
  refine call_list_lri W (fun i s' st => Heap.IsRevIter.typeIs st.2.1) ⟨Nat.zero_le _, by simpa using hit, tt2⟩ (fun b hb => ?_) (by simp) (fun s' acc cc hm hS hacc => ?_) hsz
  · have : b = p ∨ b = t := by simpa using hb
    rcases this with rfl | rfl
    · exact es
    · exact Nat.lt_trans htl es
  · have ea := lri_items hacc
    have hs' : s' = { s3 with heap := s'.heap, toks := s'.toks } := by
      obtain ⟨c1, c2, c3, c4, c5⟩ := s'
      obtain ⟨d1, d2, d3, d4, d5⟩ := s3
      have q1 := hm.gens; have q2 := hm.drawn; have q3 := hm.os
      simp only at q1 q2 q3
      subst q1 q2 q3
      rfl
    have hL : H1 s3.heap.objs.size = none := I2.fresh
    have hpL : p ≠ s3.heap.objs.size := Nat.ne_of_lt es
    have k3 : ∀ b o, b ≠ p → b ≠ s3.heap.objs.size → s3.heap.get? b = some o → s'.heap.get? b = some o := fun b o h1 h2 e => hm.heap b o (by simp [h1, h2]) (Heap.get?_push_of_some _ e)
    have hv2 : Vals xs.reverse its.reverse := hv.reverse
    have hz2 : xs.reverse.length ≤ sizeLine := by rw [List.length_reverse]; exact hz
    have ea2 : acc = its.reverse.toArray := by rw [← ea]
    have hS' : s'.heap.get? s3.heap.objs.size = some { cls := .type "list", dict := none, data := .seq its.reverse.toArray cc, slots := #[] } := by rw [← ea2]; exact hS
    have I4 : Inv X pins σ (upd H1 s3.heap.objs.size (.lst xs.reverse)) { s3 with heap := s'.heap, toks := s'.toks } := I2.turnN (ch := [p]) (t' := s'.toks) (fun b hb => by rw [List.mem_singleton.mp hb]; exact fpk) (fun b u hb e => k3 b u (by simpa using hb) (Nat.ne_of_lt (Heap.lt_size e)) e) (Nat.le_refl _) ⟨hz2, its.reverse, cc, hv2, hS'⟩
    rw [hs']
    exact ⟨.ref s3.heap.objs.size, _, I4, rfl, q _ hL⟩
theorem qe_ListRev {e1 : Expr} {p0 p1 p2 pos : Pos} {f : Qm.XA} (hg : Gl X "list") (hm : X.mg "list" = none) (hg2 : Gl X "reversed") (hm2 : X.mg "reversed" = none) (ha : QA X [e1] f) (hc : X.calm = true := by rfl)
    (hs : starEach [.Call (.Name "reversed" p1) [e1] [] p2] X.env = [(false, eval (.Call (.Name "reversed" p1) [e1] [] p2) X.env)] := by rfl)
    (hs2 : starEach [e1] X.env = (false, eval e1 X.env) :: starEach [] X.env := by rfl) (hpl : (backTo p2 (starEach [] X.env)).any (·.1) = false := by rfl) :
    QE X (.Call (.Name "list" p0) [.Call (.Name "reversed" p1) [e1] [] p2] [] pos) (Qm.eB Qm.bListRev f) := (pe_listrev hc hg hm hg2 hm2 ha hs hs2 hpl).imp fun σ H Q ⟨ρ, env, c, d, c', rs, re, e, k⟩ => by
  obtain ⟨p, ea, e⟩ := bnd e
  refine ⟨ρ, env, c, p.1, p.2, rs, re, ea, fun ρ1 vs H1 n1 r1 => ?_⟩
  unfold Qm.bListRev at e
  split at e
  · rename_i n hp
    obtain ⟨l, e3, e⟩ := bnd e
    split at e
    · cases e
      rw [hp] at r1
      obtain ⟨v, rfl, rx⟩ := r1.one'
      obtain ⟨hv, hn⟩ := rx.ref'
      subst hv
      obtain ⟨dn, hc1, ws, _, h1, a1⟩ := n1.rs.lstOf (d := .ref n) (.ref hn) (show Qm.lstOf (.ref n) p.2 = some (l.1, l.2) from e3)
      have hln : l.1 = n := by cases dn; rfl
      rw [hln] at h1
      refine ⟨_, ws, rfl, SqL.of h1, fun a ha1 => ?_⟩
      obtain ⟨n2, r2⟩ := Nx.alloc n1.rs ha1 (RA.back a1)
      exact k _ _ _ (n1.trans n2) r2
    · cases e
  · cases e
end
end L2
namespace L2
open PySem PySem.Spec PyProof.Rows
section
variable {X : Cx} {e1 e2 : Expr} {p0 p1 p2 pos : Pos} {f : Qm.XA} {es : List Expr} {k0 : Nat}
end
end L2
namespace PySem
open Sem (wp)
open AutoSeq1 (wpAny_loadPart')
open MeetsSeq MeetsSeq2 MeetsSeq3 SeqRoads2
section
variable {P : Program} {W : World}
end
end PySem
namespace L2
open PySem PySem.Spec PyProof.Rows
section
variable {X : Cx}
end
end L2
namespace Qm
open PySem
noncomputable section
def eCallV (tab : List (Nat × FN)) (f : XE) (a : XA) : XE := fun σ c => (f σ c).bind fun p => match p.1 with
  | .adr x => (tab.lookup x).bind fun F => (a σ p.2).bind fun q => F q.1 q.2
  | _ => none
def rngS (lo : Int) (n : Nat) : List D := (List.range n).map fun (i : Nat) => .int (lo + i * 2)
open Classical in
def iRngS (a : XA) : XI := fun σ c => (a σ c).bind fun p => match p.1 with
  | [.int i, .int j, .int k] => if k = 2 ∧ Rin i ∧ Rin j then some (⟨rngS i ((j - i + 1) / 2).toNat, []⟩, p.2) else none
  | _ => none
end
end Qm
namespace L2
open PySem PySem.Spec PyProof.Rows
structure FnPk (X : Cx) (f : Addr) (F : Qm.FN) : Prop where
  ex : ∃ (k : Nat) (fd : FuncData) (ps : List Str), FnOk X.prog X.w X.K X.mg X.base CX0 k f fd ps (spD X.K F) ∧ Room k X.A ∧ PySem.W.keepIn X.K (.ref f) = true ∧ Binds X.K fd ps []
section
variable {X : Cx} {e : Expr} {es : List Expr} {x : Str} {p pos : Pos} {fx : Qm.XA} {fe : Qm.XE}
theorem lookup_mem {tab : List (Nat × Qm.FN)} {a : Nat} {F : Qm.FN} (h : tab.lookup a = some F) : (a, F) ∈ tab := by
  induction tab with
  | nil => cases h
  | cons q r ih =>
    obtain ⟨b, G⟩ := q
    rw [List.lookup_cons] at h
    cases hb : (a == b) with
    | true =>
      rw [hb] at h
      cases h
      have : a = b := by simpa using hb
      subst this
      exact List.mem_cons_self ..
    | false =>
      rw [hb] at h
      exact List.mem_cons_of_mem _ (ih h)
theorem qe_callV (tab : List (Nat × Qm.FN)) (hT : ∀ q ∈ tab, FnPk X q.1 q.2) (hv : QE X (.Name x p) fe) (ha : QA X (e :: es) fx)
    (he : starEach (e :: es) X.env = (false, eval e X.env) :: starEach es X.env := by rfl) (hpl : (backTo pos (starEach es X.env)).any (·.1) = false := by rfl) :
    QE X (.Call (.Name x p) (e :: es) [] pos) (Qm.eCallV tab fe fx) := by
  intro pins s σ H Q I ⟨ρ, env, c, d, c', rs, re, h, k⟩
  obtain ⟨q, e1, h⟩ := bnd h
  split at h
  · rename_i a hq
    obtain ⟨F, e2, h⟩ := bnd h
    obtain ⟨r, e3, h⟩ := bnd h
    obtain ⟨lv, fd, ps, G, hr, hk, hb⟩ := (hT _ (lookup_mem e2)).ex
    refine wpAny_Call_Name_kw (thn (hv pins s σ H (fun v H1 => v = .ref a ∧ ∃ ρ1, Nx X.K ρ c H ρ1 q.2 H1) I ⟨ρ, env, c, q.1, q.2, rs, re, e1, fun ρ1 v H1 n1 r1 => ?_⟩) fun u s1 ⟨v, H1, I1, rv, hva, ρ1, n1⟩ => ?_)
    · rw [hq] at r1
      cases r1
      exact ⟨rfl, ρ1, n1⟩
    · subst hva
      cases (show u = Value.ref a from rv)
      have t1 : tCall (spD X.K F) [] E0 (AQ X.K fx) σ H1 Q := ⟨ρ1, env, q.2, r.1, r.2, n1.rs, re.up n1.up, e3, fun ρ2 vs H2 n2 r2 => ⟨ρ2, r.2, r.1, d, c', n2.rs, by simpa using r2, h, fun ρ' v H' n r => k ρ' v H' ((n1.trans n2).trans n) r⟩⟩
      refine PySem.W.callWith_K (h₀ := X.base) I.ok.mod.kin hk (thn (ha pos pins s1 σ H1 _ I1 t1) fun us s2 ⟨vs, H2, I2, r, q⟩ => ⟨I2.kIn, ?_⟩) he hpl
      exact run_fn G hr hb .nil pass0 I2 r q
  · cases h
end
def ItrS (lo : Int) (n : Nat) : It := ⟨fun i _ => i < n, fun i H x H' => H' = H ∧ x = .int (lo + i * 2), fun i _ => n ≤ i⟩
theorem turn_rangeS {P : Program} {w : World} {K : PySem.W.Frag} {tg : Expr} (it : Addr) (lo : Int) (n : Nat) : Turn P w K tg (ItrS lo n) [it] it (fun i h => IsRangeIter h it (lo + (i : Nat) * 2) ((n : Int) - (i : Nat)) 2) where
  mem := by simp
  obj := fun i h st b hb => by
    have e : b = it := by simpa using hb
    subst e
    exact ⟨_, st, fun v z => by
      have z' : Data.fields _ = Data.cell v := z
      cases z'⟩
  keep := fun i h h' st k => k it (by simp) _ st
  item := by
    intro X hP hw hK hc i pins s σ H E I hf st hg
    subst hP hw hK
    obtain ⟨f0, f1, f2, f3, f4, f5⟩ := hf it (by simp)
    have W := Walks.range (prog := X.prog) (w := X.w) (I.ok.hd hc) it lo 2 n
    refine W.item i s _ _ hg st fun v h' tk hv st' kk => ?_
    obtain ⟨t, rfl⟩ := hv
    have I1 : Inv X pins σ H { s with heap := h', toks := tk } := I.turned (fun b o hb e => kk b o (by simpa using hb) e) f0 f1 f3 f4 f5
    exact ⟨_, rfl, go_of (s := { s with heap := h', toks := tk }) (n := "range_iterator") st' rfl rfl (by decide) ⟨.int (lo + i * 2), H, I1, ⟨t, rfl⟩, ⟨rfl, rfl⟩, st', fun b hb => (hf b hb).1⟩⟩
  done := by
    intro X hP hw hK hc i pins s σ H E I hf st hg
    subst hP hw hK
    obtain ⟨f0, f1, f2, f3, f4, f5⟩ := hf it (by simp)
    exact wpAny_pyNext_range_end (I.ok.hd hc) st (by have : n ≤ i := hg; omega) fun h' eb => ⟨rfl, I.turned (t' := s.toks) (fun b o hb e => eb b o hb e) f0 f1 f3 f4 f5⟩
  self := fun _ _ _ _ _ st h => wpAny_pyIter_rangeiter st h
section
variable {X : Cx} {tg : Expr}
theorem smallS {lo hi : Int} (h1 : -(2 ^ 62) ≤ lo) (h2 : lo < 2 ^ 62) (h3 : -(2 ^ 62) ≤ hi) (h4 : hi < 2 ^ 62) : Builtin.Range.small lo hi 2 = true := by
  have e : Builtin.Range.rangeSize lo hi 2 = if lo < hi then (hi - lo - 1) / 2 + 1 else 0 := by
    unfold Builtin.Range.rangeSize
    rw [if_pos (by decide)]
  unfold Builtin.Range.small
  rw [e]
  simp only [Builtin.Range.rangeFitsLong, Bool.and_eq_true, Bool.or_eq_true, decide_eq_true_eq, beq_iff_eq, show (2 : Int) > 0 by decide, if_true]
  split <;> omega
theorem rangeS_it {pins : List (Addr × Obj)} {σ : St} {H : Hp} {s : Shared} {R : It → Hp → Prop} {E : Value → Shared → Prop} {lo hi : Int} {t u v : Tok} {tk : Nat} (I : Inv X pins σ H s) (h1 : -(2 ^ 62) ≤ lo) (h2 : lo < 2 ^ 62) (h3 : -(2 ^ 62) ≤ hi) (h4 : hi < 2 ^ 62)
    (q : R (ItrS lo ((hi - lo + 1) / 2).toNat) H) : wpAny (model X.prog X.w) X.A (pyIter (.ref s.heap.objs.size)) (PIE X pins σ tg R) E { s with heap := s.heap.push { cls := .type "range", data := .fields #[.int lo t, .int hi u, .int 2 v] }, toks := tk } := by
  refine wpAny_pyIter_range (IsRange.new ..) (smallS h1 h2 h3 h4) ?_
  have I1 : Inv X pins σ H { s with heap := s.heap.push { cls := .type "range", data := .fields #[.int lo t, .int hi u, .int 2 v] }, toks := tk } := I.kept fun b o e => Heap.get?_push_of_some _ e
  refine ⟨(s.heap.push { cls := .type "range", data := .fields #[.int lo t, .int hi u, .int 2 v] }).objs.size, [(s.heap.push { cls := .type "range", data := .fields #[.int lo t, .int hi u, .int 2 v] }).objs.size], _, _, H, rfl,
    I1.kept (t' := tk) fun b o e => Heap.get?_push_of_some _ e, turn_rangeS _ lo ((hi - lo + 1) / 2).toNat, ?_, fun b hb => ?_, q⟩
  · have e1 : lo + ((0 : Nat) : Int) * 2 = lo := by simp
    have e2 : ((((hi - lo + 1) / 2).toNat : Nat) : Int) - ((0 : Nat) : Int) = Builtin.Range.rangeSize lo hi 2 := by
      unfold Builtin.Range.rangeSize
      rw [if_pos (by decide)]
      split <;> omega
    show IsRangeIter _ _ (lo + ((0 : Nat) : Int) * 2) (((((hi - lo + 1) / 2).toNat : Nat) : Int) - ((0 : Nat) : Int)) 2
    rw [e1, e2]
    exact Heap.get?_push_size _ rfl
  · have e : b = (s.heap.push { cls := .type "range", data := .fields #[.int lo t, .int hi u, .int 2 v] }).objs.size := by simpa using hb
    subst e
    exact I1.fpOk (Nat.le_refl _) (I1.hok.fresh (Nat.le_refl _))
def iRngST (ta : TA) : TI := fun σ H R => ta σ H fun vs H1 => ∃ i j : Int, vs = [.int i, .int j, .int 2] ∧ (-(2 ^ 62) ≤ i ∧ i < 2 ^ 62 ∧ -(2 ^ 62) ≤ j ∧ j < 2 ^ 62) ∧ R (ItrS i ((j - i + 1) / 2).toNat) H1
theorem pi_rangeS {a b d : Expr} {ta : TA} {p pos : Pos} (hg : Gl X "range") (hm : X.mg "range" = none) (ha : PA X [a, b, d] ta) (hs : starEach [a, b, d] X.env = (false, eval a X.env) :: starEach [b, d] X.env := by rfl) (hpl : (backTo pos (starEach [b, d] X.env)).any (·.1) = false := by rfl) :
    PI X tg (.Call (.Name "range" p) [a, b, d] [] pos) (iRngST ta) := by
  intro pins s σ H R I h
  refine Call_ (ld_blt I hg hm boot_range (PyProof.Rows.callWith_type1 (thn (ha pos pins s σ H _ I h) fun us s1 ⟨vs, H1, I1, r1, q1⟩ => ?_) hs hpl))
  obtain ⟨i, j, e, ⟨q1, q2, q3, q4⟩, q⟩ := q1
  subst e
  cases r1 with
  | cons r rr =>
    cases rr with
    | cons r' rr =>
      cases rr with
      | cons r'' rr =>
        cases rr
        obtain ⟨t, rfl⟩ := r
        obtain ⟨t', rfl⟩ := r'
        obtain ⟨t'', rfl⟩ := r''
        exact call_range_3 (by decide) (rangeS_it I1 q1 q2 q3 q4 q) (Or.inl (PyProof.noPylong_of_log2 (by decide +kernel)))
theorem it_rngS {K : PySem.W.Frag} {ρ : Nat → Addr} {N : Nat} {H : Hp} {lo : Int} {n : Nat} : ItOk K ρ N H ⟨Qm.rngS lo n, []⟩ (ItrS lo n) := by
  intro ρ' c' H' _ rs' _
  refine ⟨fun i hi => by show i < n; simpa [Qm.rngS] using hi, by show n ≤ (Qm.rngS lo n).length; simp [Qm.rngS], fun i d x H2 hd hy => ?_⟩
  obtain ⟨rfl, rfl⟩ := hy
  unfold Qm.rngS at hd
  rw [List.getElem?_map] at hd
  cases q : (List.range n)[i]? with
  | none => rw [q] at hd; cases hd
  | some j =>
    rw [q] at hd
    cases hd
    have : j = i := by
      obtain ⟨h1, h2⟩ := List.getElem?_eq_some_iff.mp q
      simpa using h2.symm
    subst this
    exact ⟨Nx.refl rs', .int _⟩
theorem qi_rangeS {a b d : Expr} {f : Qm.XA} {p pos : Pos} (hg : Gl X "range") (hm : X.mg "range" = none) (ha : QA X [a, b, d] f) (hs : starEach [a, b, d] X.env = (false, eval a X.env) :: starEach [b, d] X.env := by rfl) (hpl : (backTo pos (starEach [b, d] X.env)).any (·.1) = false := by rfl) :
    QI X tg (.Call (.Name "range" p) [a, b, d] [] pos) (Qm.iRngS f) := (pi_rangeS hg hm ha hs hpl).imp fun σ H R ⟨ρ, env, c, m, c', rs, re, e, k⟩ => by
  obtain ⟨p, e1, e⟩ := bnd e
  refine ⟨ρ, env, c, p.1, p.2, rs, re, e1, fun ρ1 vs H1 n1 r1 => ?_⟩
  split at e
  · rename_i i j kk hj
    split at e
    · rename_i hb
      cases e
      obtain ⟨rfl, hi, hjj⟩ := hb
      rw [hj] at r1
      cases r1 with
      | cons rv rr =>
        obtain ⟨v2, v3, rfl, ru, rw'⟩ := rr.two'
        cases rv.int'; cases ru.int'; cases rw'.int'
        exact ⟨i, j, rfl, ⟨hi.1, hi.2, hjj.1, hjj.2⟩, k ρ1 _ H1 n1 it_rngS⟩
    · cases e
  · cases e
end
end L2
namespace Qm
open PySem
noncomputable section
def k1 (d : D) : Option (List Int) := match d with
  | .tup xs => nums xs
  | _ => none
def k2 (d : D) : Option (List (List Int)) := match d with
  | .tup xs => omap k1 xs
  | _ => none
section
variable {κ α : Type} [DecidableEq κ]
end
end
end Qm
namespace L2
open PySem PySem.Spec PyProof.Rows
abbrev fk1 (k : List Int) : List Key := k.map Sum.inl
abbrev fk2 (k : List (List Int)) : List (List Key) := k.map (List.map Sum.inl)
section
variable {K : PySem.W.Frag} {ρ ρ' : Nat → Addr} {N N' : Nat} {H H' : Hp}
theorem RT1.length : ∀ {ps : List (List Int × Qm.D)} {us : List (List Key × V)}, RT1 K ρ N H ps us → ps.length = us.length
  | _, _, .nil => rfl
  | _, _, .cons _ a => congrArg (· + 1) (RT1.length a)
theorem RT1.at_ : ∀ {ps : List (List Int × Qm.D)} {us : List (List Key × V)} {i : Nat} {p : List Int × Qm.D}, RT1 K ρ N H ps us → ps[i]? = some p → ∃ v, us[i]? = some (fk1 p.1, v) ∧ RD K ρ N H p.2 v
  | _, _, _, _, .nil, e => by simp at e
  | _, _, 0, _, .cons h _, e => by simp at e; subst e; exact ⟨_, rfl, h⟩
  | _, _, i + 1, p, .cons _ a, e => by
    obtain ⟨v, h1, h2⟩ := RT1.at_ (i := i) (p := p) a (by simpa using e)
    exact ⟨v, by simpa using h1, h2⟩
end
section
variable {K : PySem.W.Frag} {ρ ρ' : Nat → Addr} {N N' : Nat} {H H' : Hp}
theorem RT2.length : ∀ {ps : List (List (List Int) × Qm.D)} {us : List (List (List Key) × V)}, RT2 K ρ N H ps us → ps.length = us.length
  | _, _, .nil => rfl
  | _, _, .cons _ a => congrArg (· + 1) (RT2.length a)
theorem RT2.at_ : ∀ {ps : List (List (List Int) × Qm.D)} {us : List (List (List Key) × V)} {i : Nat} {p : List (List Int) × Qm.D}, RT2 K ρ N H ps us → ps[i]? = some p → ∃ v, us[i]? = some (fk2 p.1, v) ∧ RD K ρ N H p.2 v
  | _, _, _, _, .nil, e => by simp at e
  | _, _, 0, _, .cons h _, e => by simp at e; subst e; exact ⟨_, rfl, h⟩
  | _, _, i + 1, p, .cons _ a, e => by
    obtain ⟨v, h1, h2⟩ := RT2.at_ (i := i) (p := p) a (by simpa using e)
    exact ⟨v, by simpa using h1, h2⟩
end
end L2
namespace L2
open PySem PySem.Spec PyProof.Rows
section
variable {K : PySem.W.Frag} {ρ : Nat → Addr} {N : Nat} {H : Hp}
theorem ra_of_ints : ∀ (is : List Int), RA K ρ N H (is.map Qm.D.int) (is.map V.int)
  | [] => .nil
  | i :: is => .cons (.int i) (ra_of_ints is)
end
section
variable {K : PySem.W.Frag} {ρ : Nat → Addr} {c : Qm.Cells} {H : Hp}
end
section
variable {X : Cx} {pos : Pos}
end
end L2
namespace L2
open PySem PySem.Spec PyProof.Rows
section
variable {P : Program} {w : World} {H : Hp} {h : Heap} {a : Addr}
abbrev KU (H : Hp) (kvs : List (List (List Key) × V)) (xs : List (List (List Key) × Addr × Value)) : Prop := Paired (fun (p : List (List Key) × V) (q : List (List Key) × Addr × Value) => p.1 = q.1 ∧ KeyU H p.1 q.2.1 ∧ RelV p.2 q.2.2) kvs xs
theorem KU.length {kvs : List (List (List Key) × V)} {xs : List (List (List Key) × Addr × Value)} (r : KU H kvs xs) : kvs.length = xs.length := by
  induction r with
  | nil => rfl
  | cons _ _ ih => simp [ih]
theorem KT.len {kvs : List (List Key × V)} {xs : List (List Key × Addr × Value)} (r : KT H kvs xs) : kvs.length = xs.length := by
  induction r with
  | nil => rfl
  | cons _ _ ih => simp [ih]
end
section
variable {X : Cx}
end
end L2
namespace PySem
section
variable {prog : Program} {w : World} {K : Type} [DecidableEq K] {knd : HeapKind prog w K} {A : Around} {E : Value → Shared → Prop} {s : Shared}
end
end PySem
namespace L2
open PySem PySem.Spec PyProof.Rows
section
variable {K : Type} [DecidableEq K]
end
section
variable {X : Cx} {o i e f : Expr} {pos apos cpos : Pos} {td ty tx : TE}
end
section
variable {X : Cx} {o i b : Expr} {pos apos cpos p0 p1 p2 lp : Pos} {fo fb : Qm.XE}
end
end L2
namespace L2
open PySem PySem.Spec PyProof.Rows
section
variable {X : Cx} {o : Expr} {p0 pos apos cpos : Pos} {td : TE} {fo : Qm.XE}
end
end L2
namespace PySem
set_option maxRecDepth 100000
end PySem
namespace L2
open PySem PySem.Spec PyProof.Rows
section
variable {X : Cx} {pins : List (Addr × Obj)} {σ : St} {H : Hp} {A : Around} {E : Value → Shared → Prop}
end
end L2
namespace L2
open PySem PySem.Spec PyProof.Rows
section
variable {X : Cx}
end
end L2
namespace PySem
set_option maxRecDepth 100000
section
variable {prog : Program} {w : World} {A : Around} {E : Value → Shared → Prop} {s : Shared} {z TI TO i1 i2 : Addr} {f0 f1 x y a b : Value}
end
end PySem
namespace PySem
section
variable {prog : Program} {w : World} {A : Around} {E : Value → Shared → Prop} {s : Shared} {z TI TO : Addr} {f0 f1 : Value}
end
end PySem
namespace L2
open PySem PySem.Spec PyProof.Rows
end L2
namespace PySem
section
variable {prog : Program} {w : World} {A : Around} {E : Value → Shared → Prop} {s : Shared}
end
end PySem
namespace L2
open PySem PySem.Spec PyProof.Rows
section
variable {X : Cx} {e1 e2 tg : Expr} {p1 p2 : Pos} {f : Qm.XA}
end
end L2
namespace L2
open PySem PySem.Spec PyProof.Rows
section
variable {X : Cx} {e1 e2 tg : Expr} {p1 p2 : Pos} {f : Qm.XA}
end
end L2
namespace Qm
open PySem
noncomputable section
end
end Qm
namespace Qm
open PySem
noncomputable section
end
end Qm
namespace PySem
open Sem (wp)
section
variable {prog : Program} {w : World} {A : Around} {E : Value → Shared → Prop} {s : Shared}
end
end PySem
namespace L2
open PySem PySem.Spec PyProof.Rows
section
variable {X : Cx}
end
end L2
namespace L2
open PySem PySem.Spec PyProof.Rows
end L2
namespace PySem
open Sem (wp)
open AutoSeq1 (wpAny_loadPart')
end PySem
namespace L2
open PySem PySem.Spec PyProof.Rows
section
variable {X : Cx}
end
end L2
namespace Qm
open PySem
noncomputable section
def lamF (n : Nat) (fb : XE) : FN := fun ds c => if ds.length = n then fb (ds.map some) c else none
def takeV : List Nat → Env → Option (List D)
  | [], _ => some []
  | i :: r, σ => (σ[i]?.join).bind fun d => (takeV r σ).bind fun ds => some (d :: ds)
def eLam (t : LamT) (n : Nat) (is : List Nat) : XE := fun σ c => match c[n]? with
  | some (.tab cd q) => if cd = t.code ∧ q = t.qual then (takeV is σ).bind fun bs => some (.clo t bs, c) else none
  | _ => none
open Classical in
def lamOf : List (LamT × FN) → LamT → Option FN
  | [], _ => none
  | (u, F) :: r, t => if u = t then some F else lamOf r t
def eCallW (tab : List (Nat × FN)) (lt : List (LamT × FN)) (f : XE) (a : XA) : XE := fun σ c => (f σ c).bind fun q => match q.1 with
  | .adr b => (tab.lookup b).bind fun F => (a σ q.2).bind fun r => F r.1 r.2
  | .clo t bs => (lamOf lt t).bind fun F => (a σ q.2).bind fun r => F (r.1 ++ bs) r.2
  | _ => none
end
end Qm
namespace L2
open PySem PySem.W PySem.Spec PyProof.Rows
abbrev cxL (P : Program) (w : World) (K : Frag) (mg : Str → Option Value) (base : Heap) (N : List Str) (t : Qm.LamT) (f c' : Addr) (clos : List (Str × Addr)) (A : Around) (outer : List Env) (s : Shared) (H : Hp) : Cx where
  prog := P
  w := w
  K := K
  mg := mg
  base := base
  A := A.deeper (envX t.qual t.scope s.heap.objs.size f (.ref c') clos)
  N := N
  s₀ := s
  H₀ := H
  env := envX t.qual t.scope s.heap.objs.size f (.ref c') clos
  outer := outer
  stack := envX t.qual t.scope s.heap.objs.size f (.ref c') clos :: outer
  ex := []
  calm := true
  fn := fun _ => false
  pn := []
  xe := fun _ _ => False
structure LamScope (N ps : List Str) (t : Qm.LamT) : Prop where
  kind : t.scope.kind = .function
  co : t.scope.isCoroutine = false
  gen : t.scope.isGenerator = false
  nd : N.Nodup
  pre : N = ps ++ t.free
  par : ∀ x ∈ ps, t.scope.names.lookup x = some .local
  fr : ∀ x ∈ t.free, t.scope.names.lookup x = some .free
  nocell : ∀ y ∈ t.scope.names, y.2 ≠ .cell
  free : ∀ x, t.scope.names.lookup x = some .free → x ∈ t.free
  bind : ∀ (clos : List (Str × Addr)) (pm cdv ct : Value) (us : List Value), us.length = ps.length → bindArgs (kla_fn "<lambda>" t.qual t.params t.body t.scope clos pm cdv ct) ⟨us, []⟩ = pure (ps.zip us)
theorem lookup_uniq {x : Str} {u : Value} : ∀ {l : List (Str × Value)}, (l.map (·.1)).Nodup → (x, u) ∈ l → l.lookup x = some u
  | [], _, h => nomatch h
  | (y, v) :: r, nd, h => by
    rw [List.map_cons, List.nodup_cons] at nd
    rcases List.mem_cons.mp h with e | h
    · cases e; simp
    · have : x ≠ y := fun e => nd.1 (by rw [← e]; exact List.mem_map_of_mem (f := (·.1)) h)
      rw [List.lookup_cons, show (x == y) = false by simpa using this]
      exact lookup_uniq nd.2 h
theorem zip_lookup {x : Str} {u : Value} {ps : List Str} {us : List Value} {i : Nat} (nd : ps.Nodup) (h1 : ps[i]? = some x) (h2 : us[i]? = some u) : (ps.zip us).reverse.lookup x = some u := by
  refine lookup_uniq ?_ (List.mem_reverse.mpr (List.mem_of_getElem? (i := i) ?_))
  · rw [List.map_reverse]
    refine List.pairwise_reverse.mpr (List.Pairwise.imp (fun h => Ne.symm h) ?_)
    have : ((ps.zip us).map (·.1)).Sublist ps := by
      clear nd h1 h2
      induction ps generalizing us with
      | nil => simp
      | cons p ps ih =>
        cases us with
        | nil => simp
        | cons u us => simpa using ih (us := us)
    exact nd.sublist this
  · rw [List.getElem?_zip_eq_some]
    exact ⟨h1, h2⟩
section
variable {P : Program} {w : World} {K : Frag} {mg : Str → Option Value} {base : Heap} {N ps : List Str} {t : Qm.LamT} {k : Nat} {fb : Qm.XE}
structure LamOk (P : Program) (w : World) (K : Frag) (mg : Str → Option Value) (base : Heap) (k : Nat) (t : Qm.LamT) (F : Qm.FN) : Prop where
  run : ∀ (A : Around) (outer : List Env) (s : Shared) (H : Hp) (f : Addr) (us : List Value) (vs bs : List V) (Q : VK) (E : XK), Room k A → Env0 P w K mg base A outer s H → LamO H f t bs → Vals vs us → spD K F (vs ++ bs) H Q E →
    codeAny (model P w) A (.call (.ref f) ⟨us, []⟩) (CR CX0 outer P w H s Q E) s
theorem lam_ok {n : Nat} (S : LamScope N ps t) (hn : N.length = n) (hbody : ∀ (f c' : Addr) (clos : List (Str × Addr)) (A : Around) (outer : List Env) (s : Shared) (H : Hp), Room k (A.deeper (envX t.qual t.scope s.heap.objs.size f (.ref c') clos)) → QE (cxL P w K mg base N t f c' clos A outer s H) t.body fb) :
    LamOk P w K mg base (k + 1) t (Qm.lamF n fb) := by
  refine ⟨fun A outer s H f us vs bs Q E hr e0 L r hsp => ?_⟩
  obtain ⟨clos, pm, ctv, c', oc, fs, tk, h1, h2, h3, h4, h5, h6, h7, h8⟩ := L.ex
  obtain ⟨ρ, c, ds, d, c2, rs, ra, e, kq⟩ := hsp
  unfold Qm.lamF at e
  split at e
  · rename_i hl
    have hvl : vs.length + bs.length = n := by rw [← hl, ra.length, List.length_append]
    have hNl : ps.length + t.free.length = n := by rw [← hn, S.pre, List.length_append]
    have hvp : vs.length = ps.length := by omega
    have hup : us.length = ps.length := by rw [← r.length]; exact hvp
    have g0 : s.heap.get? f = some (kla_obj "<lambda>" t.qual t.params t.body t.scope clos pm c' ctv) := (e0.hok f _ h1).1
    have lim : s.heap.NoLimit := e0.mod.nolimit.keeps fun b o e => (e0.bs b o e).1
    refine kla_callFunE hr.depth g0 rfl S.co S.gen rfl ⟨c', oc, fs, tk, rfl, (e0.hok c' _ h2).1, h3, h4⟩ ?_
    rw [S.bind clos pm (.ref c') ctv us hup]
    have hloc : ∀ y ∈ ps.zip us, t.scope.names.lookup y.1 = some .local := fun y hy => S.par y.1 (List.of_mem_zip (a := y.1) (b := y.2) hy).1
    refine wpAny_pure (wpAny_newFunctionEnv S.nocell hloc (fun h' hns hsb => ?_) S.kind)
    have hk : ∀ b o, s.heap.get? b = some o → h'.get? b = some o := fun b o e => hsb.extBut b o (Nat.ne_of_lt (Heap.lt_size e)) (Heap.get?_push_of_some _ e)
    refine ⟨lim.keeps hk, ?_⟩
    show codeAny _ _ (.expr t.body (envX t.qual t.scope s.heap.objs.size f (.ref c') clos)) _ _
    have I : Inv (cxL P w K mg base N t f c' clos A outer s H) [] ((vs ++ bs).map some) H { s with heap := h', toks := s.toks + (ps.zip us).length } := by
      have noA : ∀ b : Addr, b ∉ (cxL P w K mg base N t f c' clos A outer s H).ex := fun b z => absurd (show b ∈ ([] : List Addr) from z) (by simp)
      have cl : ∀ x c, clos.lookup x = some c → ∃ o u u0, H c = some (.frz o u0) ∧ o.data = .cell (some u) := fun x c hx => by
        obtain ⟨i, hi⟩ := List.getElem?_of_mem (h6 x c hx)
        have hib : i < bs.length := by rw [h7]; exact (List.getElem?_eq_some_iff.mp hi).1
        obtain ⟨c1, o, u, u0, g1, g2, g3, _⟩ := h8 i x bs[i] hi (List.getElem?_eq_getElem hib)
        rw [hx] at g1; cases g1
        exact ⟨o, u, u0, g2, g3⟩
      refine ⟨⟨e0.mod, S.kind, rfl, rfl, Nat.le_refl _, h5, fun y hy => ?_, fun y c z => absurd z (by simp), fun _ => hr.hd, Around.frames_deeper e0.frames, .inr ⟨rfl, rfl⟩, fun b z => absurd z (noA b), e0.bs, e0.bsz, fun b _ _ => noA b, fun b z => absurd z (noA b), e0.funs, e0.frf⟩,
        rfl, e0.bare, Un.kept hk, ⟨_, hns, fun i x v q1 q2 q3 => ?_⟩, fun y c hy => ?_, e0.hok.fresh (Nat.le_refl _), fun y c hy => ?_, fun p hp => absurd (show p ∈ ([] : List (Addr × Obj)) from hp) (by simp), e0.hok.kept hk, ?_⟩
      · have hy : t.scope.names.lookup y = some .cell ∨ t.scope.names.lookup y = some .free := hy
        rcases hy with hy | hy
        · exact absurd rfl (S.nocell _ (PySem.mem_of_lookup hy))
        · obtain ⟨i, hi⟩ := List.getElem?_of_mem (S.free y hy)
          have hib : i < bs.length := by rw [h7]; exact (List.getElem?_eq_some_iff.mp hi).1
          obtain ⟨c1, o, u, u0, g1, _⟩ := h8 i y bs[i] hi (List.getElem?_eq_getElem hib)
          exact ⟨c1, g1⟩
      · have q1 : N[i]? = some x := q1
        rw [S.pre] at q1
        rw [List.getElem?_map] at q2
        have q2' : (vs ++ bs)[i]? = some v := by
          cases z : (vs ++ bs)[i]? with
          | none => rw [z] at q2; cases q2
          | some y => rw [z] at q2; cases q2; rfl
        by_cases hi : i < ps.length
        · rw [List.getElem?_append_left hi] at q1
          rw [List.getElem?_append_left (by omega)] at q2'
          obtain ⟨u, hu, rv⟩ := r.get q2'
          refine ⟨u, rv, .inl ⟨S.par x (List.mem_of_getElem? q1), ?_⟩⟩
          have ndP : ps.Nodup := by have := S.nd; rw [S.pre] at this; exact (List.nodup_append.mp this).1
          exact zip_lookup ndP q1 hu
        · rw [List.getElem?_append_right (by omega)] at q1 q2'
          rw [hvp] at q2'
          obtain ⟨c1, o, u, u0, g1, g2, g3, g4⟩ := h8 _ x v q1 q2'
          exact ⟨u, g4, .inr ⟨.inr (S.fr x (List.mem_of_getElem? q1)), c1, g1, o, hk _ _ (e0.hok c1 _ g2).1, g3⟩⟩
      · obtain ⟨o, u, u0, g2, g3⟩ := cl y c hy
        exact ⟨_, o, hk _ _ (e0.hok c _ g2).1, g3⟩
      · obtain ⟨o, u, u0, g2, g3⟩ := cl y c hy
        exact .inr ⟨rfl, o, _, g2⟩
      · rw [List.length_map, List.length_append]; exact hvl.trans hn.symm
    have re : RE K ρ c.length H (ds.map some) ((vs ++ bs).map some) := by
      refine ⟨by rw [List.length_map, List.length_map]; exact ra.length, fun i d hd => ?_⟩
      rw [List.getElem?_map] at hd
      cases z : ds[i]? with
      | none => rw [z] at hd; cases hd
      | some d' =>
        rw [z] at hd; cases hd
        obtain ⟨v, e1, e2⟩ := ra.get z
        exact ⟨v, by rw [List.getElem?_map, e1]; rfl, e2⟩
    refine kla_codeExpr (wpAny_mono (hbody f c' clos A outer s H (hr.deeper _) [] _ ((vs ++ bs).map some) H Q I ⟨ρ, ds.map some, c, d, c2, rs, re, e, kq⟩) (fun u s' hu => ?_) fun _ _ z => False.elim z)
    obtain ⟨v, H', J, rv, q⟩ := hu
    exact ⟨v, H', J.os, J.bare, J.base, J.hok, rv, q⟩
  · cases e
end
end L2
namespace L2
open PySem PySem.W PySem.Spec PyProof.Rows
structure LamPk (X : Cx) (t : Qm.LamT) (F : Qm.FN) : Prop where
  ex : ∃ k : Nat, LamOk X.prog X.w X.K X.mg X.base k t F ∧ Room k X.A
theorem LamO.fnAt {P : Program} {w : World} {H : Hp} {h : Heap} {a : Addr} {t : Qm.LamT} {vs : List V} (L : LamO H a t vs) (ok : HOk P w H h) : FnAt a h := by
  obtain ⟨clos, pm, ctv, c', oc, fs, tk, h1, _⟩ := L.ex
  exact ⟨_, _, _, _, (ok a _ h1).1⟩
theorem lamOf_mem {lt : List (Qm.LamT × Qm.FN)} {t : Qm.LamT} {F : Qm.FN} (h : Qm.lamOf lt t = some F) : (t, F) ∈ lt := by
  induction lt with
  | nil => cases h
  | cons q r ih =>
    obtain ⟨u, G⟩ := q
    unfold Qm.lamOf at h
    split at h
    · rename_i e
      cases h
      subst e
      exact List.mem_cons_self ..
    · exact List.mem_cons_of_mem _ (ih h)
section
variable {X : Cx} {e : Expr} {es : List Expr} {x : Str} {p pos : Pos} {fx : Qm.XA} {fe : Qm.XE}
theorem qe_callW (tab : List (Nat × Qm.FN)) (lt : List (Qm.LamT × Qm.FN)) (hT : ∀ q ∈ tab, FnPk X q.1 q.2) (hL : ∀ q ∈ lt, LamPk X q.1 q.2) (hv : QE X (.Name x p) fe) (ha : QA X (e :: es) fx)
    (he : starEach (e :: es) X.env = (false, eval e X.env) :: starEach es X.env := by rfl) (hpl : (backTo pos (starEach es X.env)).any (·.1) = false := by rfl) :
    QE X (.Call (.Name x p) (e :: es) [] pos) (Qm.eCallW tab lt fe fx) := by
  intro pins s σ H Q I ⟨ρ, env, c, d, c', rs, re, h, k⟩
  obtain ⟨q, e1, h⟩ := bnd h
  split at h
  · rename_i a hq
    obtain ⟨F, e2, h⟩ := bnd h
    obtain ⟨r, e3, h⟩ := bnd h
    refine qe_callV tab hT hv ha he hpl pins s σ H Q I ⟨ρ, env, c, d, c', rs, re, ?_, k⟩
    unfold Qm.eCallV
    rw [e1]
    simp only [Option.bind_some, hq, e2, e3]
    exact h
  · rename_i t bs hq
    obtain ⟨F, e2, h⟩ := bnd h
    obtain ⟨r, e3, h⟩ := bnd h
    obtain ⟨lv, G, hr⟩ := (hL _ (lamOf_mem e2)).ex
    refine wpAny_Call_Name_kw (thn (hv pins s σ H (fun v H1 => ∃ a bvs, v = .ref a ∧ LamO H1 a t bvs ∧ ∃ ρ1, Nx X.K ρ c H ρ1 q.2 H1 ∧ RA X.K ρ1 q.2.length H1 bs bvs) I ⟨ρ, env, c, q.1, q.2, rs, re, e1, fun ρ1 v H1 n1 r1 => ?_⟩) fun u s1 ⟨v, H1, I1, rv, a, bvs, hva, La, ρ1, n1, rb⟩ => ?_)
    · rw [hq] at r1
      cases r1 with
      | clo l b => exact ⟨_, _, rfl, l, ρ1, n1, b⟩
    · subst hva
      cases (show u = Value.ref a from rv)
      have t1 : AQ X.K fx σ H1 (fun vs H2 => LamO H2 a t bvs ∧ spD X.K F (vs ++ bvs) H2 Q E0) :=
        ⟨ρ1, env, q.2, r.1, r.2, n1.rs, re.up n1.up, e3, fun ρ2 vs H2 n2 r2 => ⟨La.up n2.up.fz, ρ2, r.2, r.1 ++ bs, d, c', n2.rs, r2.append (rb.up n2.up), h, fun ρ' v H' n r => k ρ' v H' ((n1.trans n2).trans n) r⟩⟩
      refine callWith_F (La.fnAt I1.hok) (thn (ha pos pins s1 σ H1 _ I1 t1) fun us s2 ⟨vs, H2, I2, r, L2, q⟩ => ⟨L2.fnAt I2.hok, ?_⟩) he hpl
      refine wpAny_call (codeAny_mono (G.run X.A X.stack s2 H2 a us vs bvs Q E0 hr I2.env0 L2 r q) fun r s' hq => ?_)
      cases r with
      | error e => exact False.elim hq
      | ok fl =>
        cases fl with
        | ret u => exact I2.after hq
        | next => exact False.elim hq
        | brk => exact False.elim hq
        | cont => exact False.elim hq
  · cases h
end
end L2
namespace L2
open PySem PySem.W PySem.Spec PyProof.Rows
theorem closOf_key {cells : List (Str × Addr)} {x : Str} {c : Addr} : ∀ {names : List (Str × NameKind)} {cs : List (Str × Addr)}, (closOf cells names cs).lookup x = some c → (x, NameKind.free) ∈ names ∨ ∃ c', cs.lookup x = some c'
  | [], cs, h => .inr ⟨c, h⟩
  | (n, k) :: r, cs, h => by
    rcases closOf_key (names := r) h with g | ⟨c', g⟩
    · exact .inl (List.mem_cons_of_mem _ g)
    · by_cases hk : (k == NameKind.free) = true
      · rw [if_pos hk] at g
        have hk' : k = .free := by simpa using hk
        cases e : cells.lookup n with
        | none => rw [e] at g; exact .inr ⟨c', g⟩
        | some a =>
          rw [e] at g
          by_cases hx : x = n
          · rw [hx, hk']; exact .inl List.mem_cons_self
          · have hb : (x == n) = false := beq_eq_false_iff_ne.mpr hx
            simp only [List.lookup_cons, hb] at g
            exact .inr ⟨c', g⟩
      · rw [if_neg hk] at g
        exact .inr ⟨c', g⟩
theorem codeAmong_snoc' {pos : Pos} {a b : Int} {c cv : Value} (l : List Value) (h : TriplesOk l) (hn : codeAmong pos (l ++ [rawInt a, rawInt b, c]) = some cv) : codeAmong pos l = some cv ∨ cv = c := by
  fun_induction TriplesOk l with
  | case1 =>
    simp only [List.nil_append, codeAmong, rawInt] at hn
    split at hn
    · cases hn; exact .inr rfl
    · cases hn
  | case2 a' t b' u x rest ih =>
    simp only [List.cons_append, codeAmong] at hn ⊢
    split at hn
    · rename_i hc; rw [if_pos hc]; exact .inl hn
    · rename_i hc; rw [if_neg hc]; exact ih h hn
  | case3 l h1 h2 => exact h.elim
def frzC (h : Heap) (cs : List Addr) (H : Hp) : Hp := fun b => if b ∈ cs then (match H b with
  | none => (h.get? b).map (xh b)
  | some z => some z) else H b
theorem frzC_some {h : Heap} {cs : List Addr} {H : Hp} {b : Addr} {z : HO} (e : H b = some z) : frzC h cs H b = some z := by
  unfold frzC
  split
  · rw [e]
  · exact e
theorem frzC_out {h : Heap} {cs : List Addr} {H : Hp} {b : Addr} (e : b ∉ cs) : frzC h cs H b = H b := if_neg e
theorem frzC_new {h : Heap} {cs : List Addr} {H : Hp} {b : Addr} {o : Obj} (e : b ∈ cs) (n : H b = none) (g : h.get? b = some o) : frzC h cs H b = some (xh b o) := by
  unfold frzC
  rw [if_pos e, n, g]
  rfl
theorem xh_ok {P : Program} {w : World} {H : Hp} {h : Heap} {a : Addr} {o : Obj} (e : h.get? a = some o) : ObjOk P w H h a (xh a o) :=
  ⟨e, e, ⟨o, e⟩, fun _ _ q k => k o q⟩
section
variable {X : Cx} {pins : List (Addr × Obj)} {σ : St} {H : Hp} {s : Shared} {cs : List Addr}
theorem Inv.freeze (I : Inv X pins σ H s) (hcs : ∀ b ∈ cs, ∃ x, X.env.cells.lookup x = some b ∧ X.fn x = false) (hab : ∀ x c, X.env.cells.lookup x = some c → X.s₀.heap.objs.size ≤ c) : Inv X pins σ (frzC s.heap cs H) s := by
  have here : ∀ b ∈ cs, ∃ o v, s.heap.get? b = some o ∧ o.data = .cell v := fun b hb => by
    obtain ⟨x, e, _⟩ := hcs b hb
    obtain ⟨v, o, h1, h2⟩ := I.cell x b e
    exact ⟨o, v, h1, h2⟩
  refine ⟨I.ok, I.os, I.bare, ⟨I.base.keep, I.base.slot, fun b o e n hx => ?_, I.base.there, fun b xs e => frzC_some (I.base.tups b xs e), fun b o u e => frzC_some (I.base.frzs b o u e), fun b ps e => ?_⟩, I.loc, I.cell, ?_, fun x c e => ?_, fun p hp => ?_, fun b u e => ?_, I.len⟩
  · have hb : b ∉ cs := fun z => by
      obtain ⟨x, e', _⟩ := hcs b z
      exact absurd (Nat.lt_of_lt_of_le (Heap.lt_size e) (hab x b e')) (Nat.lt_irrefl _)
    rw [frzC_out hb]; exact I.base.free b o e n hx
  · obtain ⟨more, q⟩ := I.base.tbls b ps e
    exact ⟨more, frzC_some q⟩
  · have hb : X.env.locals ∉ cs := fun z => by
      obtain ⟨x, e', _⟩ := hcs _ z
      exact I.cne x _ e' rfl
    rw [frzC_out hb]; exact I.free
  · by_cases hb : c ∈ cs
    · obtain ⟨y, e', hf⟩ := hcs c hb
      have : y = x := I.ok.inj y x c e' e
      subst this
      obtain ⟨o, v, g, _⟩ := here c hb
      rcases I.freeC y c e with n | ⟨_, o', u, n⟩
      · exact .inr ⟨hf, o, _, frzC_new hb n g⟩
      · exact .inr ⟨hf, o', u, frzC_some n⟩
    · rcases I.freeC x c e with n | ⟨f, o', u, n⟩
      · exact .inl (by rw [frzC_out hb]; exact n)
      · exact .inr ⟨f, o', u, frzC_some n⟩
  · obtain ⟨e, n, ne, nf, d⟩ := I.pin p hp
    have hb : p.1 ∉ cs := fun hz => by
      obtain ⟨o, v, g, dd⟩ := here _ hz
      rw [e] at g; cases g
      exact d v dd
    exact ⟨e, by rw [frzC_out hb]; exact n, ne, nf, d⟩
  · cases q : H b with
    | some z =>
      rw [frzC_some q] at e; cases e
      exact (I.hok b _ q).stay (fun _ _ _ g => g) (fun _ g => frzC_some g) fun _ _ g => frzC_some g
    | none =>
      by_cases hb : b ∈ cs
      · obtain ⟨o, v, g, _⟩ := here b hb
        rw [frzC_new hb q g] at e; cases e
        exact xh_ok g
      · rw [frzC_out hb, q] at e; cases e
theorem Inv.tabled {P c' : Addr} {ps more : Array Value} {oc : Obj} {h' : Heap} {tk : Nat} (I : Inv X pins σ H s) (hP : H P = some (.tbl ps)) (hx : Heap.ExtBut P s.heap h') (hge : s.heap.objs.size ≤ c') (hoc : h'.get? c' = some oc) (htb : h'.get? P = some (tabObj (ps ++ more))) :
    Inv X pins σ (upd (upd H P (.tbl (ps ++ more))) c' (xh c' oc)) { s with heap := h', toks := tk } := by
  have ltc : ∀ b o, s.heap.get? b = some o → b ≠ c' := fun b o e => Nat.ne_of_lt (Nat.lt_of_lt_of_le (Heap.lt_size e) hge)
  have ltH : ∀ b o, H b = some o → b ≠ c' := fun b o e => Nat.ne_of_lt (Nat.lt_of_lt_of_le (I.hok.lt e) hge)
  have neP : ∀ b o, H b = some o → (∀ ps, o ≠ .tbl ps) → b ≠ P := fun b o e d z => by subst z; rw [hP] at e; cases e; exact d _ rfl
  have noP : ∀ b, H b = none → b ≠ P := fun b e z => by subst z; rw [hP] at e; cases e
  have up : ∀ b o, H b = some o → (∀ ps, o ≠ .tbl ps) → upd (upd H P (.tbl (ps ++ more))) c' (xh c' oc) b = some o := fun b o e d => by rw [upd_ne (ltH b o e), upd_ne (neP b o e d)]; exact e
  refine I.step (g' := s.gens) (d' := s.drawn) (ch := []) (fun _ z => nomatch z) (fun b o _ _ _ e n => hx b o (noP b n) e) (fun b o _ _ _ e n => ⟨o.slots, hx b o (noP b n) e⟩) (fun b o _ e n => ?_) (fun b o _ e => ?_) (fun b xs e => up b _ e fun _ z => by cases z) (fun b o u e => up b _ e fun _ z => by cases z)
    (fun b ps' e => ?_) (fun m hm => hm.extBut hx (noP _ I.free)) (fun b u e => ?_) I.bare
  · rw [upd_ne (ltc b o e), upd_ne (noP b n)]; exact n
  · by_cases hb : b = P
    · subst hb; exact ⟨_, htb⟩
    · exact ⟨o, hx b o hb e⟩
  · by_cases hb : b = P
    · subst hb
      rw [hP] at e; cases e
      exact ⟨more, by rw [upd_ne (ltH _ _ hP), upd_same]⟩
    · exact ⟨#[], by rw [upd_ne (ltH b _ e), upd_ne hb, e]; simp⟩
  · by_cases hc : b = c'
    · subst hc; rw [upd_same] at e; cases e; exact xh_ok hoc
    · rw [upd_ne hc] at e
      by_cases hb : b = P
      · subst hb; rw [upd_same] at e; cases e; exact htb
      · rw [upd_ne hb] at e
        refine (I.hok b u e).stay (fun c v hcc g => hx c v ?_ g) (fun c g => up c _ g fun _ z => by cases z) fun c xs g => up c _ g fun _ z => by cases z
        rcases hcc with rfl | hcc
        · exact hb
        · exact neP c _ hcc fun _ z => by cases z
end
section
variable {K : Frag} {ρ ρ' : Nat → Addr} {N N' : Nat} {H H' : Hp}
theorem CO.upF {a : Addr} {z : Qm.Cell} (h : CO K ρ N H a z) (m : z.mt = false) (u : Up K ρ N H ρ' N' H') : CO K ρ' N' H' a z := by
  cases z with
  | lst ds => cases m
  | dct ds => cases m
  | dt1 ds => cases m
  | dt2 ds => cases m
  | tab cd q => cases m
  | ro ds =>
    obtain ⟨vs, h1, h2⟩ := h
    refine ⟨vs, ?_, h2.up u⟩
    rcases h1 with ⟨o, h1⟩ | h1
    · exact .inl ⟨o, u.fz _ _ _ h1⟩
    · exact .inr h1
  | dro ds => obtain ⟨o, vs, h1, h2⟩ := h; exact ⟨o, vs, u.fz _ _ _ h1, h2.up u⟩
  | dt2r ds => obtain ⟨o, vs, h1, h2⟩ := h; exact ⟨o, vs, u.fz _ _ _ h1, h2.up u⟩
  | exc C S ds => obtain ⟨vs, h1, h2⟩ := h; exact ⟨vs, h1.up u.fz, h2.up u⟩
end
end L2
namespace L2
open PySem PySem.W PySem.Spec PyProof.Rows
section
variable {X : Cx} {pins : List (Addr × Obj)} {σ : St} {H : Hp} {s : Shared}
theorem takeV_of {K : Frag} {ρ : Nat → Addr} {N : Nat} {env : Qm.Env} {Ns : List Str} (re : RE K ρ N H env σ) : ∀ {is : List Nat} {xs : List Str} {bs : List Qm.D}, is.length = xs.length → (∀ (j i : Nat) (x : Str), is[j]? = some i → xs[j]? = some x → Ns[i]? = some x) → Qm.takeV is env = some bs →
    ∃ vs, RA K ρ N H bs vs ∧ vs.length = xs.length ∧ ∀ (j : Nat) (x : Str) (v : V), xs[j]? = some x → vs[j]? = some v → ∃ i : Nat, Ns[i]? = some x ∧ σ[i]? = some (some v)
  | [], [], bs, _, _, h => by
    cases h
    exact ⟨[], .nil, rfl, fun j x v e _ => by simp at e⟩
  | [], _ :: _, _, hl, _, _ => by simp at hl
  | _ :: _, [], _, hl, _, _ => by simp at hl
  | i :: is, x :: xs, bs, hl, hx, h => by
    unfold Qm.takeV at h
    obtain ⟨d, e1, h⟩ := bnd h
    obtain ⟨ds, e2, h⟩ := bnd h
    cases h
    have e1' : env[i]? = some (some d) := by
      cases z : env[i]? with
      | none => rw [z] at e1; cases e1
      | some y => rw [z] at e1; cases y with
        | none => cases e1
        | some w => cases e1; rfl
    obtain ⟨v, h1, h2⟩ := re.at_ i d e1'
    obtain ⟨vs, g1, g2, g3⟩ := takeV_of re (is := is) (xs := xs) (bs := ds) (by simpa using hl) (fun j i' x' q1 q2 => hx (j + 1) i' x' (by simpa using q1) (by simpa using q2)) e2
    refine ⟨v :: vs, .cons h2 g1, by simp [g2], fun j y w q1 q2 => ?_⟩
    cases j with
    | zero => simp at q1 q2; subst q1; subst q2; exact ⟨i, hx 0 i x rfl rfl, h1⟩
    | succ j => exact g3 j y w (by simpa using q1) (by simpa using q2)
theorem lam_nx {K : Frag} {ρ : Nat → Addr} {c : Qm.Cells} {H1 H3 : Hp} {n : Nat} {cd : Nat} {q : Str} {ps : Array Value} {f : Addr} {o : Obj} (rs : RS K ρ c H) (hcn : c[n]? = some (.tab cd q)) (hP : H (ρ n) = some (.tbl ps)) (h1 : ∀ b z, H b = some z → H1 b = some z) (h3 : ∀ b z, H1 b = some z → b ≠ ρ n → H3 b = some z)
    (T3 : TabO K H3 cd q (ρ n)) (hf : H3 f = none) : Nx K ρ c H ρ c (upd H3 f (xh f o)) := by
  have up : ∀ b z, H3 b = some z → upd H3 f (xh f o) b = some z := fun b z e => get_new e hf
  have go : ∀ b z, H b = some z → b ≠ ρ n → upd H3 f (xh f o) b = some z := fun b z e ne => up b z (h3 b z (h1 b z e) ne)
  have u : Up K ρ c.length H ρ c.length (upd H3 f (xh f o)) := ⟨fun _ _ => rfl, Nat.le_refl _, fun p xs e => go p _ e (fun z => by rw [z, hP] at e; cases e), fun p ob x e => go p _ e (fun z => by rw [z, hP] at e; cases e)⟩
  refine ⟨u, rs.inj, fun j z hz => ?_⟩
  cases hm : z.mt with
  | false => exact (rs.ok j z hz).upF hm u
  | true =>
    by_cases hj : j = n
    · subst hj
      rw [hcn] at hz; cases hz
      exact T3.up (fun p ob x e => up p _ e) fun ob e => up _ _ e
    · have hp : ρ j ≠ ρ n := fun e => hj (rs.inj j n _ _ hz hcn hm rfl e)
      exact (rs.ok j z hz).up u fun ob e => go _ _ e hp
theorem qe_lam {t : Qm.LamT} {n : Nat} {is : List Nat} (hcode : X.env.code = .ref t.code) (hqual : X.env.qual ++ "<lambda>" = t.qual) (hdf : defaultsOf t.params X.env = ([], []))
    (hfr : ∀ y ∈ t.scope.names, y.2 = .free → y.1 ∈ t.free) (hin : ∀ x ∈ t.free, (x, NameKind.free) ∈ t.scope.names ∧ X.env.scope.names.lookup x = some .cell ∧ X.fn x = false)
    (hlen : is.length = t.free.length) (hix : ∀ (j i : Nat) (x : Str), is[j]? = some i → t.free[j]? = some x → X.N[i]? = some x) (hab : ∀ x c, X.env.cells.lookup x = some c → X.s₀.heap.objs.size ≤ c) :
    QE X (.Lambda t.params t.body t.scope t.pos) (Qm.eLam t n is) := by
  intro pins s σ H Q I ⟨ρ, env, c, d, c2, rs, re, h, k⟩
  unfold Qm.eLam at h
  split at h
  · rename_i cd q hcn
    split at h
    · rename_i hh
      obtain ⟨e1, e2⟩ := hh
      subst e1 e2
      obtain ⟨bs, e3, h⟩ := bnd h
      cases h
      have T : TabO X.K H t.code t.qual (ρ n) := rs.ok n _ hcn
      obtain ⟨ps, hP, ht, hall⟩ := T.ex
      have CH : CodeHd s.heap t.code (ρ n) := codeHd_of_K I.kIn T.hd
      have gP : s.heap.get? (ρ n) = some (tabObj ps) := I.hok _ _ hP
      obtain ⟨bm, ob, b1, b2, b3, b4, b5, b6⟩ := I.mod.bmain
      have hgl := I.mod.glob
      have hg : s.heap.Ns mainGlobals X.mg := hgl.keeps I.bk
      have hgP : mainGlobals ≠ ρ n := fun z => by
        obtain ⟨o, es, ep, e, _⟩ := hgl
        have := (I.bs _ _ e).2
        rw [z, hP] at this; cases this
      have hbP : bm ≠ ρ n := fun z => by
        have := (I.bs _ _ b3).2
        rw [z, hP] at this; cases this
      have hbG : bm ≠ mainGlobals := fun z => by
        obtain ⟨o, es, ep, e, hd, _⟩ := hgl
        rw [z, e] at b3; cases b3
        rw [hd] at b6; cases b6
      have hB : s.heap.BuiltinsAt X.mg (ρ n) := ⟨bm, ob, b1, b2, hbG, hbP, I.bk _ _ b3, b4, b5, b6⟩
      have hcl := closureFor_of (scope := t.scope) (env := X.env) fun y hy e => I.ok.has y.1 (.inl (hin _ (hfr y hy e)).2.1)
      generalize hcq : closOf X.env.cells t.scope.names [] = clos at hcl
      have csub : ∀ x c, clos.lookup x = some c → X.env.cells.lookup x = some c := fun x c e => by
        rw [← hcq] at e
        exact closOf_sub e fun c' hc' => by simp at hc'
      have ckey : ∀ x c, clos.lookup x = some c → x ∈ t.free := fun x c e => by
        rw [← hcq] at e
        rcases closOf_key e with g | ⟨_, g⟩
        · exact hfr (x, .free) g rfl
        · simp at g
      have chas : ∀ x ∈ t.free, ∃ c, clos.lookup x = some c := fun x hx => by
        rw [← hcq]
        exact closOf_has (hin x hx).1 (I.ok.has x (.inl (hin x hx).2.1))
      have hcs : ∀ b ∈ t.free.filterMap (fun x => clos.lookup x), ∃ x, X.env.cells.lookup x = some b ∧ X.fn x = false := fun b hb => by
        obtain ⟨x, hx, e⟩ := List.mem_filterMap.mp hb
        exact ⟨x, csub x b e, (hin x hx).2.2⟩
      have I1 := I.freeze hcs hab
      generalize hH1 : frzC s.heap (t.free.filterMap fun x => clos.lookup x) H = H1 at I1
      have h1 : ∀ b z, H b = some z → H1 b = some z := fun b z e => by rw [← hH1]; exact frzC_some e
      obtain ⟨vs, ra, hvl, hvs⟩ := takeV_of (Ns := X.N) re hlen hix e3
      have caps : ∀ (i : Nat) (x : Str) (v : V), t.free[i]? = some x → vs[i]? = some v → ∃ c o u u0, clos.lookup x = some c ∧ H1 c = some (.frz o u0) ∧ o.data = .cell (some u) ∧ RelV v u := fun i x v q1 q2 => by
        have hx := List.mem_of_getElem? q1
        obtain ⟨j, g1, g2⟩ := hvs i x v q1 q2
        obtain ⟨m, hn, hl⟩ := I.loc
        obtain ⟨u, rv, lk⟩ := hl j x v g1 g2 (.inr (.inl (hin x hx).2.1))
        obtain ⟨c1, ec⟩ := chas x hx
        rcases lk with ⟨kk, _⟩ | ⟨_, c3, e4, o, ho, hd⟩
        · have k2 : X.env.scope.names.lookup x = some .local := kk
          rw [(hin x hx).2.1] at k2; cases k2
        · rw [csub x c1 ec] at e4; cases e4
          have hm : c1 ∈ t.free.filterMap (fun x => clos.lookup x) := List.mem_filterMap.mpr ⟨x, hx, ec⟩
          rcases I.freeC x c1 (csub x c1 ec) with n0 | ⟨_, o', u', n0⟩
          · exact ⟨c1, o, u, _, ec, by rw [← hH1]; exact frzC_new hm n0 ho, hd, rv⟩
          · have e5 : s.heap.get? c1 = some o' := (I.hok c1 _ n0).1
            rw [ho] at e5; cases e5
            exact ⟨c1, o, u, u', ec, h1 _ _ n0, hd, rv⟩
      have hP1 := h1 _ _ hP
      -- the end
      have fin : ∀ (H3 : Hp) (s3 : Shared) (ctv : Value) (c' : Addr) (oc : Obj) (fs : Array Value) (tk : Tok) (tk' : Nat), Inv X pins σ H3 s3 → (∀ b z, H1 b = some z → b ≠ ρ n → H3 b = some z) → TabO X.K H3 t.code t.qual (ρ n) → H3 c' = some (xh c' oc) → oc.data = .fields fs → fs[1]? = some (.str t.qual tk) →
          EP X pins σ Q (.ref s3.heap.objs.size) { s3 with heap := s3.heap.push (kla_obj "<lambda>" t.qual t.params t.body t.scope clos ((X.mg "__name__").getD .none) c' ctv), toks := tk' } := fun H3 s3 ctv c' oc fs tk tk' I3 h3 T3 g1 g2 g3 => by
        have hf : H3 s3.heap.objs.size = none := I3.hok.fresh (Nat.le_refl _)
        have nx := lam_nx (o := kla_obj "<lambda>" t.qual t.params t.body t.scope clos ((X.mg "__name__").getD .none) c' ctv) rs hcn hP h1 h3 T3 hf
        have go : ∀ b z, H1 b = some z → b ≠ ρ n → upd H3 s3.heap.objs.size (xh s3.heap.objs.size (kla_obj "<lambda>" t.qual t.params t.body t.scope clos ((X.mg "__name__").getD .none) c' ctv)) b = some z := fun b z e ne => get_new (h3 b z e ne) hf
        refine ⟨.ref s3.heap.objs.size, _, I3.laid (fun b u e => Heap.get?_push_of_some _ e) (Nat.le_refl _) (xh_ok (Heap.get?_push_size _ rfl)), rfl, k ρ _ _ nx (.clo ⟨clos, _, ctv, c', oc, fs, tk, upd_same, get_new g1 hf, g2, g3, fun x y c e1 e2 => I.ok.inj x y c (csub x c e1) (csub y c e2), ckey, hvl, fun i x v q1 q2 => ?_⟩ (ra.up nx.up))⟩
        obtain ⟨c1, o, u, u0, a1, a2, a3, a4⟩ := caps i x v q1 q2
        exact ⟨c1, o, u, u0, a1, go _ _ a2 (fun z => by rw [z, hP1] at a2; cases a2), a3, a4⟩
      refine kla_eval hdf ?_
      rw [hqual]
      cases hca : codeAmong t.pos ps.toList with
      | none =>
        refine kla_makeFunction hcl I.ok.glob hg hcode CH gP ht hca hgP hB fun c' ctv h' tk hx hge hlt hrec htb => ?_
        obtain ⟨c4, oc, fs, tq, ec, hoc, hd, hv⟩ := hrec
        cases ec
        have I3 := I1.tabled (tk := tk) hP1 hx hge hoc htb
        refine fin _ { s with heap := h', toks := tk } ctv c' oc fs tq tk I3 (fun b z e ne => ?_) ⟨T.hd, ps ++ #[rawInt t.pos.line, rawInt t.pos.col, .ref c'], ?_, ?_, ?_⟩ upd_same hd hv
        · rw [upd_ne (Nat.ne_of_lt (Nat.lt_of_lt_of_le (I1.hok.lt e) hge)), upd_ne ne]; exact e
        · rw [upd_ne (Nat.ne_of_lt (Nat.lt_of_lt_of_le (I1.hok.lt hP1) hge)), upd_same]
        · rw [Array.toList_append]; exact TriplesOk_snoc _ _ _ _ ht
        · intro pos cv e
          rw [Array.toList_append] at e
          rcases codeAmong_snoc' _ ht e with e | rfl
          · obtain ⟨c5, o5, f5, t5, a1, a2, a3⟩ := hall pos cv e
            have a2' := h1 _ _ a2
            refine ⟨c5, o5, f5, t5, a1, ?_, a3⟩
            rw [upd_ne (Nat.ne_of_lt (Nat.lt_of_lt_of_le (I1.hok.lt a2') hge)), upd_ne fun z => by rw [z, hP1] at a2'; cases a2']
            exact a2'
          · exact ⟨c', oc, fs, tq, rfl, upd_same, hd, hv⟩
      | some cv =>
        obtain ⟨c', oc, fs, tq, ec, a2, a3, a4⟩ := hall t.pos cv hca
        subst ec
        refine kla_makeFunctionHit hcl I.ok.glob hg hcode CH gP ht hca hB fun ctv h' tk hk hsz => ?_
        have I3 : Inv X pins σ H1 { s with heap := h', toks := tk } := I1.kept hk
        exact fin H1 { s with heap := h', toks := tk } ctv c' oc fs tq tk I3 (fun b z e _ => e) (T.up (fun p o x e => h1 _ _ e) fun o e => h1 _ _ e) (h1 _ _ a2) a3 a4
    · cases h
  · cases h
end
end L2
namespace L2
open PySem PySem.W PySem.Spec PyProof.Rows
structure FunC (K : Frag) (x qual : Str) (st : Stmt) (f : Addr) (fd : FuncData) (c : Addr) : Prop where
  ex : ∃ (oc : Value) (od : Option Addr) (kV doc pm : Value) (an : Option Addr) (ct : Value) (osl : Array (Option Value)),
    fd = fnOf x qual (defArgs st) (defBody st) (defScope st) .none kV doc pm an (.ref c) ct ∧ K.lookup f = some ⟨oc, od, .func fd, osl⟩ ∧ codeIn K (.ref c) qual = true
  kp : keepIn K (.ref f) = true
theorem FunC.toFun {K : Frag} {x qual : Str} {st : Stmt} {f : Addr} {fd : FuncData} {c : Addr} (F : FunC K x qual st f fd c) : Fun K x qual st f fd := by
  obtain ⟨oc, od, kV, doc, pm, an, ct, osl, h1, h2, h3⟩ := F.ex
  exact ⟨⟨oc, od, kV, doc, pm, an, .ref c, ct, osl, h1, h2, h3⟩, F.kp⟩
theorem func_mk {K : Frag} {x qual : Str} {st : Stmt} {f c : Addr} {oc : Value} {od an : Option Addr} {osl : Array (Option Value)} {kV doc pm ct : Value} (l : K.lookup f = some ⟨oc, od, .func (fnOf x qual (defArgs st) (defBody st) (defScope st) .none kV doc pm an (.ref c) ct), osl⟩)
    (h : codeIn K (.ref c) qual = true) (k : keepIn K (.ref f) = true) : FunC K x qual st f (fnOf x qual (defArgs st) (defBody st) (defScope st) .none kV doc pm an (.ref c) ct) c := ⟨⟨oc, od, kV, doc, pm, an, ct, osl, rfl, l, h⟩, k⟩
abbrev Cx.less (X : Cx) (g : Str → Bool) : Cx := { X with fn := g }
theorem Inv.lessFn {X : Cx} {pins : List (Addr × Obj)} {σ : St} {H : Hp} {s : Shared} (I : Inv X pins σ H s) (hX : ∀ x, X.fn x = true) (g : Str → Bool) : Inv (X.less g) pins σ H s :=
  ⟨⟨I.ok.mod, I.ok.kind, I.ok.glob, I.ok.blt, I.ok.above, I.ok.inj, I.ok.has, fun x c _ e => I.ok.cab x c (hX x) e, I.ok.hd, I.ok.frames, I.ok.stk, I.ok.exf, I.ok.bs, I.ok.bsz, I.ok.noex, I.ok.exfs, I.ok.funs, I.ok.frf⟩,
    I.os, I.bare, I.base, I.loc, I.cell, I.free, fun x c e => (I.freeC x c e).imp id fun z => (by rw [hX x] at z; cases z.1), I.pin, I.hok, I.len⟩
section
variable {P : Program} {w : World} {K : Frag} {mg : Str → Option Value} {base : Heap}
theorem FunC.okQ {x qual : Str} {st : Stmt} {f c : Addr} {fd : FuncData} {N ps : List Str} {k n m : Nat} {B : Qm.XS} {FF : Qm.FN} (g : Str → Bool) (F : FunC K x qual st f fd c) (S : FnScope N ps (defScope st)) (hn : ps.length = n) (hm : N.length = m) (hN : n ≤ m) (hF : FF = Qm.mkF n m B)
    (hbody : ∀ (A : Around) (outer : List Env) (s : Shared) (H : Hp) (E : XK), Room k (A.deeper (envOfC qual (defScope st) s.heap.objs.size f (.ref c))) →
      QSs ((cxOf CX0 P w K mg base N qual (defScope st) f (.ref c) A outer s H E).less g).nox (defBody st) B) : FnOk P w K mg base CX0 (k + 1) f fd ps (spD K FF) := by
  subst hm hF
  obtain ⟨oc, od, kV, doc, pm, an, ct, osl, rfl, lk, hcd⟩ := F.ex
  refine ⟨fun vs H Q E h => by rw [(fnq_body hN h).1, hn], fun A outer s H args us vs Q E hr e0 hb r hsp => ?_⟩
  obtain ⟨hl, hsq⟩ := fnq_body hN hsp
  have KX : K.In s.heap := e0.mod.kin.keeps fun b o e => (e0.bs b o e).1
  have lim : s.heap.NoLimit := e0.mod.nolimit.keeps fun b o e => (e0.bs b o e).1
  have hkind : ∀ y ∈ ps.zip us, (defScope st).names.lookup y.1 = some .local ∨ ((defScope st).names.lookup y.1 = some .cell ∧ ((cellsFrom (s.heap.objs.size + 1) (defScope st).names []).lookup y.1).isSome = true) := fun ⟨n, v⟩ hy => by
    rcases S.par n (List.of_mem_zip hy).1 with q | q
    · exact .inl q
    · exact .inr ⟨q, cellsFrom_some _ _ _ (.inl q)⟩
  refine codeAny_call_function hr.depth (KX _ _ lk) rfl S.co S.gen rfl (codeRec_of KX hcd) (hb _ _ _ _ ?_)
  refine wpAny_newFunctionEnv_cells S.kind hkind fun env he s1 x => ?_
  subst he
  refine ⟨lim.keeps x.toInCall.keep, codeAny_func ?_⟩
  have I := (inv_start (CX := CX0) (E := E) (N := N) S hr.hd e0 (by rw [hl, hn]) r x).lessFn (fun _ => rfl) g
  refine wpAny_mono ((hbody A outer s H E (hr.deeper _)).nox [] s1 (start N vs) H _ I hsq) (fun fl s' hs => ?_) fun e s' hs => hs
  have fin : ∀ {σ' : St} {H' : Hp} {v : V} {u : Value}, Inv ((cxOf CX0 P w K mg base N qual (defScope st) f (.ref c) A outer s H E).less g) [] σ' H' s' → RelV v u → Q v H' → CE outer P w H s Q u s' :=
    fun {σ' H' v u} J rv q => ⟨v, H', J.os, J.bare, J.base, J.hok, rv, q⟩
  cases fl with
  | ret u =>
    obtain ⟨v, σ', H', J, rv, q⟩ := hs
    exact fin J rv q
  | next =>
    obtain ⟨σ', H', J, q⟩ := hs
    exact fin (v := V.non) (u := Value.none) J rfl q
  | brk =>
    obtain ⟨_, _, _, q⟩ := hs
    exact False.elim q
  | cont =>
    obtain ⟨_, _, _, q⟩ := hs
    exact False.elim q
end
theorem cellsFrom_ge {x : Str} {c lo : Nat} : ∀ (names : List (Str × NameKind)) (n : Nat) (cs : List (Str × Addr)), lo ≤ n → (∀ y c', cs.lookup y = some c' → lo ≤ c') → (cellsFrom n names cs).lookup x = some c → lo ≤ c
  | [], _, _, _, h, e => h x c e
  | (y, k) :: r, n, cs, hn, h, e => by
    unfold cellsFrom at e
    split at e
    · refine cellsFrom_ge r (n + 1) _ (Nat.le_succ_of_le hn) (fun z c' hz => ?_) e
      rw [List.lookup_cons] at hz
      split at hz
      · cases hz; exact hn
      · exact h z c' hz
    · exact cellsFrom_ge r n cs hn h e
theorem hab_of {CX : CXT} {P : Program} {w : World} {K : Frag} {mg : Str → Option Value} {base : Heap} {N : List Str} {qual : Str} {scope : Scope} {f : Addr} {cd : Value} {A : Around} {outer : List Env} {s : Shared} {H : Hp} {E : XK} :
    ∀ x c, (cxOf CX P w K mg base N qual scope f cd A outer s H E).env.cells.lookup x = some c → s.heap.objs.size ≤ c := fun x c e =>
  cellsFrom_ge scope.names (s.heap.objs.size + 1) [] (Nat.le_succ _) (fun y c' h => by simp at h) e
def OnlyT (ts : List Addr) (H : Hp) : Prop := (∀ P ∈ ts, H P = some (.tbl #[])) ∧ ∀ b, b ∉ ts → H b = none ∨ ∃ o xs, H b = some (.frz o (.lst xs))
theorem law_callL {P : Program} {w : World} {K : Frag} {mg mb : Str → Option Value} {k : Nat} {fa a : Addr} {fd : FuncData} {x : Str} {sp : Sp} {s₁ : Shared} {vs : List Value} {ns : List Int} {ts : List Addr}
    (KX : K.In s₁.heap) (hns : s₁.heap.Ns mainGlobals mg) (hb : s₁.heap.Ns builtinsNs mb) (hbb : ∀ x : Str, x ≠ "__name__" → mb x = bootBuiltins x) (hlim : s₁.heap.NoLimit) (hbm : ∃ bm ob, mg "__builtins__" = some (.ref bm) ∧ bm ≠ builtinsNs ∧ s₁.heap.get? bm = some ob ∧ ob.cls = .type "module" ∧ ob.dict = some builtinsNs ∧ ob.data = .plain) (hg : s₁.gens = #[])
    (hT : ∀ P ∈ ts, s₁.heap.get? P = some (tabObj #[])) (hKT : ∀ P ∈ ts, K.lookup P = none ∧ ∃ c, codeHdIn K c P = true)
    (ha : s₁.heap.get? a = some { cls := .type "list", data := .seq vs.toArray }) (hi : IntsAre vs ns) (hl : ns.length ≤ sizeLine) (hr : Room k callerA)
    (F : ∀ base : Heap, K.In base → base.Ns mainGlobals mg → FnOk P w K mg base CX0 k fa fd [x] sp) (hbind : ∀ (s : Shared) (u : Value), BindsTo s fd ⟨[u], []⟩ [(x, u)])
    (hsp : ∀ H : Hp, OnlyT ts H → SqL K H a (ns.map V.int) → sp [.ref a] H (fun v _ => v = .bl true) fun _ _ _ => False) :
    codeAny (model P w) callerA (.call (.ref fa) ⟨[.ref a], []⟩) (fun r s' => r = .ok (.ret (.bool true)) ∧ OldK s₁.heap s'.heap ∧ s'.os = s₁.os ∧ AllBare s'.gens) s₁ := by
  have rv := vals_ints hi
  have lenV := hi.length
  have haT : a ∉ ts := fun z => by
    have e := hT a z
    rw [ha] at e; cases e
  have core : ∀ H : Hp, OnlyT ts H → SqL K H a (ns.map V.int) → HOk P w H s₁.heap → (∀ b, b ∉ ts → H b ≠ none → b = a) → (H a ≠ none → K.lookup a = none) →
      codeAny (model P w) callerA (.call (.ref fa) ⟨[.ref a], []⟩) (fun r s' => r = .ok (.ret (.bool true)) ∧ OldK s₁.heap s'.heap ∧ s'.os = s₁.os ∧ AllBare s'.gens) s₁ := by
    intro H hO hS hok hA hK
    have base_of : ∀ {b : Addr} {o : Obj}, s₁.heap.get? b = some o → H b = none → (hidT s₁.heap H).get? b = some o := fun e n => hidT_get e n
    have apart : ∀ {b : Addr} {o : Obj}, s₁.heap.get? b = some o → (∀ vs n, o.data ≠ .seq vs n) → (∀ vs, o.data ≠ .fields vs) → H b = none := fun {b o} e d1 d2 => by
      cases q : H b with
      | none => rfl
      | some u =>
        by_cases hb : b ∈ ts
        · rw [hT b hb] at e; cases e
          exact absurd rfl (d2 #[])
        · have e' : b = a := hA b hb (by rw [q]; simp)
          subst e'
          rw [ha] at e; cases e
          exact absurd rfl (d1 _ _)
    have noA : ∀ {b : Addr} {o : Obj} {es : Array DictEntry} {ep : Nat}, s₁.heap.get? b = some o → o.data = .dict es ep → H b = none := fun {b o es ep} e d => apart e (fun _ _ z => by rw [d] at z; cases z) fun _ z => by rw [d] at z; cases z
    have nsK : ∀ {b : Addr} {m : Str → Option Value}, s₁.heap.Ns b m → (hidT s₁.heap H).Ns b m := fun {b m} ⟨o, es, ep, e, d, r⟩ => ⟨o, es, ep, base_of e (noA e d), d, r⟩
    have hKb : K.In (hidT s₁.heap H) := fun b o e => base_of (KX b o e) (by
      cases q : H b with
      | none => rfl
      | some u =>
        by_cases hb : b ∈ ts
        · rw [(hKT b hb).1] at e; cases e
        · have e' : b = a := hA b hb (by rw [q]; simp)
          subst e'
          rw [hK (by rw [q]; simp)] at e; cases e)
    have hM : Mod K mg (hidT s₁.heap H) := ⟨hKb, nsK hns, ⟨mb, nsK hb, hbb⟩, let ⟨mc, h1, h2⟩ := hlim; ⟨mc, nsK h1, h2⟩, let ⟨bm, ob, b1, b2, b3, b4, b5, b6⟩ := hbm; ⟨bm, ob, b1, b2, base_of b3 (apart b3 (fun _ _ z => by rw [b6] at z; cases z) fun _ z => by rw [b6] at z; cases z), b4, b5, b6⟩⟩
    have e0 : Env0 P w K mg (hidT s₁.heap H) callerA [] s₁ H := ⟨rfl, hM, fun b o e => of_hidT e, Nat.le_of_eq (hidT_size _ _), trivial, fun b hb => absurd (show b ∈ ([] : List Addr) from hb) (by simp), hok, .of_eq hg⟩
    refine codeAny_mono ((F _ hKb (nsK hns)).run callerA [] s₁ H ⟨[.ref a], []⟩ [.ref a] [.ref a] _ _ hr e0 (hbind s₁ (.ref a)) (.cons rfl .nil) (hsp H hO hS)) fun r s' h => ?_
    cases r with
    | error e => exact False.elim h
    | ok fl =>
      cases fl with
      | next => exact False.elim h
      | brk => exact False.elim h
      | cont => exact False.elim h
      | ret u =>
        obtain ⟨v, H', os, bare, un, hok', r', q⟩ := h
        have q' : v = .bl true := q
        subst q'
        obtain rfl : u = Value.bool true := r'
        refine ⟨rfl, ⟨fun b o e => ?_, fun b o e => un.there b o e (by simp)⟩, os, bare⟩
        by_cases hb : b ∈ ts
        · obtain ⟨more, z⟩ := un.tbls b #[] (hO.1 b hb)
          have z2 : s'.heap.get? b = some { cls := .none, data := .fields (#[] ++ more) } := hok' b _ z
          obtain ⟨c, hc⟩ := (hKT b hb).2
          have e2 := hT b hb
          rw [e] at e2; cases e2
          exact .inr (.inl ⟨((codeHd_of_K KX hc).tab (hT b hb)).isCodeTable, rfl, #[], more, rfl, z2⟩)
        · refine .inl ?_
          rcases hO.2 b hb with z | ⟨ob, xs, z⟩
          · exact un.keep b o e z (by intro z; exact absurd (show b ∈ ([] : List Addr) from z) (by simp)) (by simp)
          · have z2 := un.frzs b ob _ z
            obtain ⟨e1, _⟩ := hok b _ z
            obtain ⟨e2, _⟩ := hok' b _ z2
            rw [e] at e1; cases e1
            exact e2
  cases hk : K.lookup a with
  | some o =>
    have e := KX a o hk
    rw [ha] at e
    cases e
    refine core (fun b => if b ∈ ts then some (.tbl #[]) else none) ⟨fun P hP => if_pos hP, fun b hb => .inl (if_neg hb)⟩ (.inr ⟨_, vs.toArray, _, hk, rfl, rfl, rfl, by rw [List.size_toArray, lenV]; exact hl, by simpa using rv⟩) (fun b u z => ?_) (fun b hb z => absurd (if_neg hb) z) fun z => absurd (if_neg haT) z
    by_cases hb : b ∈ ts
    · have z' := (if_pos hb).symm.trans z
      cases z'
      exact hT b hb
    · have z' := (if_neg hb).symm.trans z
      cases z'
  | none =>
    refine core (fun b => if b ∈ ts then some (.tbl #[]) else if b = a then some (.frz { cls := .type "list", data := .seq vs.toArray } (.lst (ns.map V.int))) else none) ⟨fun P hP => if_pos hP, fun b hb => ?_⟩ (.inl (.inr ⟨{ cls := .type "list", data := .seq vs.toArray }, (if_neg haT).trans (if_pos rfl)⟩)) (fun b u z => ?_) (fun b hb z => ?_) fun _ => hk
    · by_cases hc : b = a
      · exact .inr ⟨_, _, (if_neg hb).trans (if_pos hc)⟩
      · exact .inl ((if_neg hb).trans (if_neg hc))
    · by_cases hb : b ∈ ts
      · have z' := (if_pos hb).symm.trans z
        cases z'
        exact hT b hb
      · by_cases hc : b = a
        · have z' := ((if_neg hb).trans (if_pos hc)).symm.trans z
          cases z'
          subst hc
          exact ⟨ha, by rw [List.length_map]; exact hl, vs, _, rv, ha⟩
        · have z' := ((if_neg hb).trans (if_neg hc)).symm.trans z
          cases z'
    · by_cases hc : b = a
      · exact hc
      · exact absurd ((if_neg hb).trans (if_neg hc)) z
theorem walk_ofL {l : OpenLaw} {n k : Nat} {q : Program} {loose : List Str} {XP : (Str → Option Value) → Heap → Prop} {YP : World → Heap → Prop} {d : DefRec} {K : Params → Frag} {sp : Frag → Sp} {x : Str} {ts : List Addr}
    (hn : l.most = some n) (hn2 : n ≤ sizeLine) (hdf : d.params.defaults = []) (hr : Room k callerA)
    (hY : ∀ (w : World) (h : Heap), YP w h → (K w.params).In h ∧ ∀ P ∈ ts, h.get? P = some (tabObj #[]))
    (F : ∀ (w : World) (mg : Str → Option Value) (fa : Addr) (h : Heap), (K w.params).In h → h.Ns mainGlobals mg → mg d.name = some (.ref fa) →
      (∀ P ∈ ts, (K w.params).lookup P = none ∧ ∃ c, codeHdIn (K w.params) c P = true) ∧ ∃ fd : FuncData, (∀ (s : Shared) (u : Value), BindsTo s fd ⟨[u], []⟩ [(x, u)]) ∧
        ∀ base : Heap, (K w.params).In base → base.Ns mainGlobals mg → FnOk l.prog w (K w.params) mg base CX0 k fa fd [x] (sp (K w.params)))
    (hsp : ∀ (K : Frag) (H : Hp) (a : Addr) (ns : List Int), ns.length ≤ n → OnlyT ts H → SqL K H a (ns.map V.int) → sp K [.ref a] H (fun v _ => v = .bl true) fun _ _ _ => False) :
    WalkO q loose XP YP l.row.toRowW d [] (fun f vs => PySem.call f vs) := by
  refine Att.attach_call hn hdf fun w s₀ s₁ mg mb fa o pm cd doc a vs ns G Y ho hd hcd hmg hobj hints hlen hg => ?_
  obtain ⟨KX, hT⟩ := hY w _ Y
  obtain ⟨hKT, fd, hb, hF⟩ := F w mg fa _ KX G.T.g hmg
  exact law_callL KX G.T.g G.T.b G.T.builtins G.T.nolimit G.T.bmain hg hT hKT hobj hints (Nat.le_trans hlen hn2) hr hF hb (fun H hO hS => hsp _ H a ns hlen hO hS)
def spL (ts : List Addr) (K : Frag) (F : Qm.LamT → Qm.FN) : Sp := fun vs H Q E => ∀ t : Qm.LamT, (∃ P ∈ ts, codeHdIn K t.code P = true) → spD K (F t) vs H Q E
theorem law_spL {K : Frag} {F : Qm.LamT → Qm.FN} {ts : List Addr} {H : Hp} {a : Addr} {ns : List Int} (hO : OnlyT ts H) (hS : SqL K H a (ns.map V.int)) (h : ∀ t : Qm.LamT, ∃ c', F t [.ref 0] [.ro (ns.map Qm.D.int), .tab t.code t.qual] = some (.bl true, c')) :
    spL ts K F [.ref a] H (fun v _ => v = .bl true) fun _ _ _ => False := by
  intro t ⟨P, hP, hd⟩
  obtain ⟨c', h⟩ := h t
  have hro : RoOk K H a (ns.map V.int) := by
    rcases hS with (h | ⟨o, h⟩) | h
    · by_cases hb : a ∈ ts
      · rw [hO.1 a hb] at h; cases h
      · rcases hO.2 a hb with z | ⟨o, ys, z⟩
        · rw [z] at h; cases h
        · rw [z] at h; cases h
    · exact .inl ⟨o, h⟩
    · exact .inr (.inr h)
  have zs : ∀ (ρ : Nat → Addr) (ms : List Int), RA K ρ 2 H (ms.map Qm.D.int) (ms.map V.int) := fun ρ ms => by
    induction ms with
    | nil => exact .nil
    | cons m ms ih => exact .cons (.int m) ih
  refine ⟨fun i => if i = 0 then a else P, [.ro (ns.map Qm.D.int), .tab t.code t.qual], [.ref 0], .bl true, c', ⟨fun i j z y h1 h2 m1 m2 _ => ?_, fun n z hz => ?_⟩, .cons (.ref (n := 0) (by simp)) .nil, h, fun ρ' v H' n r => r.bl'⟩
  · have two : ∀ (i : Nat) (z : Qm.Cell), ([.ro (ns.map Qm.D.int), .tab t.code t.qual] : Qm.Cells)[i]? = some z → z.mt = true → i = 1 := fun i z h m => by
      match i, h with
      | 0, h =>
        have : z = .ro (ns.map Qm.D.int) := by simpa using h.symm
        subst this
        cases m
      | 1, _ => rfl
      | i + 2, h => simp at h
    rw [two i z h1 m1, two j y h2 m2]
  · match n, hz with
    | 0, hz =>
      have : z = .ro (ns.map Qm.D.int) := by simpa using hz.symm
      subst this
      exact ⟨_, hro, zs _ ns⟩
    | 1, hz =>
      have : z = .tab t.code t.qual := by simpa using hz.symm
      subst this
      exact ⟨hd, #[], hO.1 P hP, trivial, fun pos cv e => by simp [codeAmong] at e⟩
    | n + 2, hz => simp at hz
end L2
namespace L2
open PySem PySem.W PySem.Spec PyProof.Rows
def lamR (st : Stmt) : Expr := match defBody st with
  | .Return (some (.Call _ (_ :: l :: _) _ _)) _ :: _ => l
  | _ => .Constant .none 0 ⟨0, 0, 0, 0⟩
def lamPa (st : Stmt) (e : Expr) : Arguments := match e with
  | .Lambda a _ _ _ => a
  | _ => defArgs st
def lamBo (e : Expr) : Expr := match e with
  | .Lambda _ b _ _ => b
  | _ => e
def lamSc (st : Stmt) (e : Expr) : Scope := match e with
  | .Lambda _ _ s _ => s
  | _ => defScope st
def lamPo (e : Expr) : Pos := match e with
  | .Lambda _ _ _ p => p
  | _ => ⟨0, 0, 0, 0⟩
theorem lt_one {X : Cx} {t : Qm.LamT} {F : Qm.FN} {k : Nat} (h : LamOk X.prog X.w X.K X.mg X.base k t F) (hr : Room k X.A) : ∀ q ∈ [(t, F)], LamPk X q.1 q.2 := fun q hq => by
  have : q = (t, F) := by simpa using hq
  subst this
  exact ⟨k, h, hr⟩
theorem tab_none {X : Cx} : ∀ q ∈ ([] : List (Nat × Qm.FN)), FnPk X q.1 q.2 := fun q hq => nomatch hq
theorem hix_one {N : List Str} {i : Nat} {x : Str} (h : N[i]? = some x) : ∀ (j i' : Nat) (x' : Str), [i][j]? = some i' → [x][j]? = some x' → N[i']? = some x'
  | 0, i', x', e1, e2 => by
    cases e1; cases e2; exact h
  | j + 1, i', x', e1, _ => by simp at e1
end L2
namespace L2
open PySem PySem.W PyProof.Rows
def ev {α : Type} (lt : Nat → Nat → Bool) : KasT α → α
  | .ret a => a
  | .ask i j k => ev lt (k (lt i j))
theorem ev_bind {α β : Type} {lt : Nat → Nat → Bool} {f : α → KasT β} : ∀ t : KasT α, ev lt (t.bind f) = ev lt (f (ev lt t))
  | .ret _ => rfl
  | .ask i j k => ev_bind (k (lt i j))
structure Ord (lt : Nat → Nat → Bool) : Prop where
  asym : ∀ a b, lt a b = true → lt b a = false
  tr : ∀ a b c, lt b a = false → lt c b = false → lt c a = false
section
variable {lt : Nat → Nat → Bool}
theorem Ord.irr (O : Ord lt) (a : Nat) : lt a a = false := by
  cases h : lt a a with
  | false => rfl
  | true => rw [O.asym a a h] at h; cases h
theorem Ord.lt_le (O : Ord lt) {a b c : Nat} (h1 : lt a b = true) (h2 : lt c b = false) : lt a c = true := by
  cases h : lt a c with
  | true => rfl
  | false => rw [O.tr b c a h2 h] at h1; cases h1
def at_ (p : Array Nat) (i : Nat) : Nat := p.getD i 0
theorem at_eq (p : Array Nat) (i : Nat) : at_ p i = p[i]?.getD 0 := Array.getD_eq_getD_getElem? ..
def Up_ (lt : Nat → Nat → Bool) (p : Array Nat) (n : Nat) : Prop := ∀ i j, i ≤ j → j < n → lt (at_ p j) (at_ p i) = false
def Dn_ (lt : Nat → Nat → Bool) (p : Array Nat) (n : Nat) : Prop := ∀ i j, i ≤ j → j < n → lt (at_ p i) (at_ p j) = false
theorem at_rev {p : Array Nat} {i j : Nat} (hj : j ≤ p.size) (k : Nat) : at_ (kas_rev p i j) k = if i ≤ k ∧ k < j then at_ p (i + j - 1 - k) else at_ p k := by
  rw [at_eq, kas_rev, getElem?_mirror_all hj]
  split <;> exact (at_eq ..).symm
theorem at_bub {p : Array Nat} {src d : Nat} (hs : src < p.size) (hd : d ≤ src) (k : Nat) : at_ (bubble p src d) k = if k = src - d then at_ p src else if src - d < k ∧ k ≤ src then at_ p (k - 1) else at_ p k := by
  rw [at_eq, getElem?_bubble hs d hd]
  split
  · exact (at_eq ..).symm
  · split <;> exact (at_eq ..).symm
theorem rev_size {p : Array Nat} {i j : Nat} : (kas_rev p i j).size = p.size := mirror_size ..
theorem asc_step {p : Array Nat} {f n : Nat} : ev lt (kas_asc p (f + 1) n) = if lt (at_ p n) (at_ p (n - 1)) = true then n else ev lt (kas_asc p f (n + 1)) := by
  show ev lt (if lt (at_ p n) (at_ p (n - 1)) = true then KasT.ret n else kas_asc p f (n + 1)) = _
  split <;> rfl
theorem asc_ok (O : Ord lt) {p : Array Nat} : ∀ (f n m : Nat), 1 ≤ n → Up_ lt p n → ev lt (kas_asc p f n) = m → n ≤ m ∧ m ≤ n + f ∧ Up_ lt p m ∧ (m = n + f ∨ lt (at_ p m) (at_ p (m - 1)) = true)
  | 0, n, m, _, h, e => by
    have e : n = m := e
    subst e
    exact ⟨Nat.le_refl _, Nat.le_refl _, h, .inl rfl⟩
  | f + 1, n, m, h1, h, e => by
    rw [asc_step] at e
    split at e
    · rename_i hc
      subst e
      exact ⟨Nat.le_refl _, by omega, h, .inr hc⟩
    · rename_i hc
      have hc : lt (at_ p n) (at_ p (n - 1)) = false := by simpa using hc
      have hu : Up_ lt p (n + 1) := fun i j hij hj => by
        by_cases hjn : j < n
        · exact h i j hij hjn
        · have : j = n := by omega
          subst this
          by_cases hi : i = j
          · rw [hi]; exact O.irr _
          · exact O.tr _ _ _ (h i (j - 1) (by omega) (by omega)) hc
      obtain ⟨a1, a2, a3, a4⟩ := asc_ok O f (n + 1) m (by omega) hu e
      exact ⟨by omega, by omega, a3, a4.imp (fun z => by omega) id⟩
structure Fall (lt : Nat → Nat → Bool) (p : Array Nat) (n q : Nat) : Prop where
  dn : Dn_ lt p n
  le : q + 1 ≤ n
  eq : ∀ i j, n - (q + 1) ≤ i → i < n → n - (q + 1) ≤ j → j < n → lt (at_ p i) (at_ p j) = false
theorem Dn_.turn {p : Array Nat} {n a : Nat} (h : Dn_ lt p n) (hn : n ≤ p.size) (eq : ∀ i j, a ≤ i → i < n → a ≤ j → j < n → lt (at_ p i) (at_ p j) = false) : Dn_ lt (kas_rev p a n) n := fun i j hij hj => by
  rw [at_rev hn, at_rev hn]
  by_cases hi : a ≤ i
  · rw [if_pos ⟨hi, by omega⟩, if_pos ⟨by omega, hj⟩]
    exact eq _ _ (by omega) (by omega) (by omega) (by omega)
  · rw [if_neg (by omega)]
    by_cases hj' : a ≤ j
    · rw [if_pos ⟨hj', hj⟩]
      exact h _ _ (by omega) (by omega)
    · rw [if_neg (by omega)]
      exact h i j hij hj
theorem Dn_.more (O : Ord lt) {p : Array Nat} {n : Nat} (h : Dn_ lt p n) (h1 : 1 ≤ n) (hc : lt (at_ p (n - 1)) (at_ p n) = false) : Dn_ lt p (n + 1) := fun i j hij hj => by
  by_cases hjn : j < n
  · exact h i j hij hjn
  · have : j = n := by omega
    subst this
    by_cases hi : i = j
    · rw [hi]; exact O.irr _
    · exact O.tr _ _ _ hc (h i (j - 1) (by omega) (by omega))
theorem desc_step {p : Array Nat} {f n q : Nat} : ev lt (kas_desc (f + 1) p n q) = if lt (at_ p n) (at_ p (n - 1)) = true then (if q > 0 then ev lt (kas_desc f (kas_rev p (n - (q + 1)) n) (n + 1) 0) else ev lt (kas_desc f p (n + 1) 0)) else if lt (at_ p (n - 1)) (at_ p n) = true then (p, n, q) else ev lt (kas_desc f p (n + 1) (q + 1)) := by
  show ev lt (if lt (at_ p n) (at_ p (n - 1)) = true then (if q > 0 then kas_desc f (kas_rev p (n - (q + 1)) n) (n + 1) 0 else kas_desc f p (n + 1) 0) else KasT.ask (at_ p (n - 1)) (at_ p n) fun d => if d = true then KasT.ret (p, n, q) else kas_desc f p (n + 1) (q + 1)) = _
  split
  · split <;> rfl
  · show ev lt (if lt (at_ p (n - 1)) (at_ p n) = true then KasT.ret (p, n, q) else kas_desc f p (n + 1) (q + 1)) = _
    split <;> rfl
theorem desc_ok (O : Ord lt) : ∀ (f : Nat) (p : Array Nat) (n q : Nat) (r : Array Nat × Nat × Nat), Fall lt p n q → n + f ≤ p.size → ev lt (kas_desc f p n q) = r → Fall lt r.1 r.2.1 r.2.2 ∧ n ≤ r.2.1 ∧ r.2.1 ≤ n + f ∧ r.1.size = p.size ∧ r.1.Perm p
  | 0, p, n, q, r, F, hs, e => by
    have e : (p, n, q) = r := e
    subst e
    exact ⟨F, Nat.le_refl _, Nat.le_refl _, rfl, Array.Perm.refl _⟩
  | f + 1, p, n, q, r, F, hs, e => by
    have hl := F.le
    rw [desc_step] at e
    split at e
    · rename_i hc
      have hc' := O.asym _ _ hc
      split at e
      · have hn : n ≤ p.size := by omega
        have hsz : (kas_rev p (n - (q + 1)) n).size = p.size := rev_size
        have e1 : at_ (kas_rev p (n - (q + 1)) n) n = at_ p n := by rw [at_rev hn, if_neg (by omega)]
        have e2 : lt (at_ (kas_rev p (n - (q + 1)) n) (n - 1)) (at_ p n) = false := by
          rw [at_rev hn, if_pos (by omega)]
          exact O.tr _ _ _ hc' (F.eq _ _ (by omega) (by omega) (by omega) (by omega))
        have F' : Fall lt (kas_rev p (n - (q + 1)) n) (n + 1) 0 := by
          refine ⟨(F.dn.turn hn F.eq).more O (by omega) (by rw [e1]; exact e2), by omega, fun i j h1 h2 h3 h4 => ?_⟩
          have : i = j := by omega
          rw [this]; exact O.irr _
        obtain ⟨a1, a2, a3, a4, a5⟩ := desc_ok O f _ (n + 1) 0 r F' (by rw [hsz]; omega) e
        exact ⟨a1, by omega, by omega, a4.trans hsz, a5.trans (mirror_perm ..)⟩
      · have F' : Fall lt p (n + 1) 0 := by
          refine ⟨F.dn.more O (by omega) hc', by omega, fun i j h1 h2 h3 h4 => ?_⟩
          have : i = j := by omega
          rw [this]; exact O.irr _
        obtain ⟨a1, a2, a3, a4, a5⟩ := desc_ok O f p (n + 1) 0 r F' (by omega) e
        exact ⟨a1, by omega, by omega, a4, a5⟩
    · rename_i hc
      have hc : lt (at_ p n) (at_ p (n - 1)) = false := by simpa using hc
      split at e
      · subst e
        exact ⟨F, Nat.le_refl _, by show n ≤ n + (f + 1); omega, rfl, Array.Perm.refl _⟩
      · rename_i hd
        have hd : lt (at_ p (n - 1)) (at_ p n) = false := by simpa using hd
        have F' : Fall lt p (n + 1) (q + 1) := by
          refine ⟨F.dn.more O (by omega) hd, by omega, fun i j h1 h2 h3 h4 => ?_⟩
          by_cases hi : i = n <;> by_cases hj : j = n
          · rw [hi, hj]; exact O.irr _
          · rw [hi]; exact O.tr _ _ _ (F.eq (n - 1) j (by omega) (by omega) (by omega) (by omega)) hc
          · rw [hj]; exact O.tr _ _ _ hd (F.eq i (n - 1) (by omega) (by omega) (by omega) (by omega))
          · exact F.eq i j (by omega) (by omega) (by omega) (by omega)
        obtain ⟨a1, a2, a3, a4, a5⟩ := desc_ok O f p (n + 1) (q + 1) r F' (by omega) e
        exact ⟨a1, by omega, by omega, a4, a5⟩
theorem Dn_.rev {p : Array Nat} {n : Nat} (h : Dn_ lt p n) (hn : n ≤ p.size) : Up_ lt (kas_rev p 0 n) n := fun i j hij hj => by
  rw [at_rev hn, at_rev hn, if_pos ⟨by omega, hj⟩, if_pos ⟨by omega, by omega⟩]
  exact h _ _ (by omega) (by omega)
structure Run (lt : Nat → Nat → Bool) (p0 : Array Nat) (nrem : Nat) (r : Nat × Array Nat) : Prop where
  ge : 1 ≤ r.1
  le : r.1 ≤ nrem
  up : Up_ lt r.2 r.1
  size : r.2.size = p0.size
  perm : r.2.Perm p0
theorem tail3_ok (O : Ord lt) {p : Array Nat} {n nrem : Nat} {r : Nat × Array Nat} (h : Dn_ lt p n) (h1 : 1 ≤ n) (hn : n ≤ nrem) (hs : nrem ≤ p.size) (e : ev lt (kas_tail3 n nrem p) = r) : Run lt p nrem r := by
  unfold kas_tail3 at e
  rw [ev_bind] at e
  obtain ⟨a1, a2, a3, _⟩ := asc_ok O (nrem - n) n _ h1 (h.rev (by omega)) rfl
  subst e
  exact ⟨Nat.le_trans h1 a1, Nat.le_trans a2 (by omega), a3, rev_size, mirror_perm ..⟩
theorem descPart_ok (O : Ord lt) {p : Array Nat} {n nrem : Nat} {r : Nat × Array Nat} (h : Dn_ lt p (n + 1)) (hn : n + 1 ≤ nrem) (hs : nrem ≤ p.size) (e : ev lt (kas_descPart n nrem p) = r) : Run lt p nrem r := by
  unfold kas_descPart at e
  rw [ev_bind] at e
  have F : Fall lt p (n + 1) 0 := ⟨h, by omega, fun i j h1 h2 h3 h4 => by
    have : i = j := by omega
    rw [this]; exact O.irr _⟩
  obtain ⟨a1, a2, a3, a4, a5⟩ := desc_ok O (nrem - (n + 1)) p (n + 1) 0 _ F (by omega) rfl
  generalize ev lt (kas_desc (nrem - (n + 1)) p (n + 1) 0) = z at *
  obtain ⟨p', m, q⟩ := z
  have hl := a1.le
  dsimp only at a1 a2 a3 a4 a5 e hl
  split at e
  · have hm : m ≤ p'.size := by omega
    have R := tail3_ok O (a1.dn.turn hm a1.eq) (by omega) (by omega) (by rw [rev_size]; omega) e
    exact ⟨R.ge, R.le, R.up, R.size.trans (rev_size.trans a4), R.perm.trans ((mirror_perm ..).trans a5)⟩
  · have R := tail3_ok O a1.dn (by omega) (by omega) (by omega) e
    exact ⟨R.ge, R.le, R.up, R.size.trans a4, R.perm.trans a5⟩
theorem count_ok (O : Ord lt) {p : Array Nat} {nrem : Nat} {r : Nat × Array Nat} (h1 : 1 ≤ nrem) (hs : nrem ≤ p.size) (e : ev lt (kas_count nrem p) = r) : Run lt p nrem r := by
  unfold kas_count at e
  rw [ev_bind] at e
  have u1 : Up_ lt p 1 := fun i j hij hj => by
    have : i = j := by omega
    rw [this]; exact O.irr _
  obtain ⟨a1, a2, a3, a4⟩ := asc_ok O (nrem - 1) 1 _ (Nat.le_refl _) u1 rfl
  generalize ev lt (kas_asc p (nrem - 1) 1) = n at *
  split at e
  · subst e
    exact ⟨a1, by show n ≤ nrem; omega, a3, rfl, Array.Perm.refl _⟩
  · rename_i hne
    have hne : n ≠ nrem := by simpa using hne
    have hc : lt (at_ p n) (at_ p (n - 1)) = true := a4.resolve_left (by omega)
    split at e
    · rename_i hn1
      have e : ev lt (if lt (at_ p 0) (at_ p (n - 1)) = true then KasT.ret (n, p) else kas_descPart n nrem (kas_rev p 0 n)) = r := e
      split at e
      · subst e
        exact ⟨a1, by show n ≤ nrem; omega, a3, rfl, Array.Perm.refl _⟩
      · rename_i h0
        have h0 : lt (at_ p 0) (at_ p (n - 1)) = false := by simpa using h0
        have eq : ∀ i j, 0 ≤ i → i < n → 0 ≤ j → j < n → lt (at_ p i) (at_ p j) = false := fun i j _ hi _ hj => by
          have b1 := a3 0 i (by omega) hi
          have b2 := a3 j (n - 1) (by omega) (by omega)
          -- p_j ≤ p_(n-1) ≤ p_0 ≤ p_i
          exact O.tr _ _ _ b2 (O.tr _ _ _ h0 b1)
        have hn : n ≤ p.size := by omega
        have d0 : Dn_ lt p n := fun i j hij hj => eq i j (by omega) (by omega) (by omega) hj
        have e1 : at_ (kas_rev p 0 n) n = at_ p n := by rw [at_rev hn, if_neg (by omega)]
        have d1 : Dn_ lt (kas_rev p 0 n) (n + 1) := (d0.turn hn eq).more O (by omega) (by
          rw [e1, at_rev hn, if_pos (by omega)]
          exact O.tr _ _ _ (O.asym _ _ hc) (eq _ _ (by omega) (by omega) (by omega) (by omega)))
        have R := descPart_ok O d1 (by omega) (by rw [rev_size]; omega) e
        exact ⟨R.ge, R.le, R.up, R.size.trans rev_size, R.perm.trans (mirror_perm ..)⟩
    · have hn1 : n = 1 := by omega
      subst hn1
      have d0 : Dn_ lt p 1 := fun i j hij hj => by
        have : i = j := by omega
        rw [this]; exact O.irr _
      exact descPart_ok O (d0.more O (by omega) (O.asym _ _ hc)) (by omega) hs e
theorem place_step {p : Array Nat} {k f l r : Nat} : ev lt (kas_place p k (f + 1) l r) = if l ≥ r then l else if lt (at_ p k) (at_ p ((l + r) / 2)) = true then ev lt (kas_place p k f l ((l + r) / 2)) else ev lt (kas_place p k f ((l + r) / 2 + 1) r) := by
  show ev lt (if l ≥ r then KasT.ret l else KasT.ask (at_ p k) (at_ p ((l + r) / 2)) fun c => if c = true then kas_place p k f l ((l + r) / 2) else kas_place p k f ((l + r) / 2 + 1) r) = _
  split
  · rfl
  · show ev lt (if lt (at_ p k) (at_ p ((l + r) / 2)) = true then kas_place p k f l ((l + r) / 2) else kas_place p k f ((l + r) / 2 + 1) r) = _
    split <;> rfl
theorem place_ok (O : Ord lt) {p : Array Nat} {k : Nat} (h : Up_ lt p k) : ∀ (f l r m : Nat), l ≤ r → r ≤ k → r - l ≤ f → (∀ i, i < l → lt (at_ p k) (at_ p i) = false) → (∀ i, r ≤ i → i < k → lt (at_ p k) (at_ p i) = true) → ev lt (kas_place p k f l r) = m →
    m ≤ k ∧ (∀ i, i < m → lt (at_ p k) (at_ p i) = false) ∧ ∀ i, m ≤ i → i < k → lt (at_ p k) (at_ p i) = true
  | 0, l, r, m, h1, h2, h3, h4, h5, e => by
    have e : l = m := e
    subst e
    exact ⟨by omega, h4, fun i hi => h5 i (by omega)⟩
  | f + 1, l, r, m, h1, h2, h3, h4, h5, e => by
    rw [place_step] at e
    split at e
    · subst e
      exact ⟨by omega, h4, fun i hi => h5 i (by omega)⟩
    · split at e
      · rename_i hc
        refine place_ok O h f l ((l + r) / 2) m (by omega) (by omega) (by omega) h4 (fun i hi hk => ?_) e
        exact O.lt_le hc (h _ _ hi hk)
      · rename_i hc
        have hc : lt (at_ p k) (at_ p ((l + r) / 2)) = false := by simpa using hc
        refine place_ok O h f ((l + r) / 2 + 1) r m (by omega) h2 (by omega) (fun i hi => ?_) h5 e
        exact O.tr _ _ _ (h i ((l + r) / 2) (by omega) (by omega)) hc
theorem bin_ok (O : Ord lt) : ∀ (f : Nat) (p : Array Nat) (k : Nat) (r : Array Nat), 1 ≤ k → k + f ≤ p.size → Up_ lt p k → ev lt (kas_bin f p k) = r → Up_ lt r (k + f) ∧ r.size = p.size ∧ r.Perm p
  | 0, p, k, r, _, _, h, e => by
    have e : p = r := e
    subst e
    exact ⟨h, rfl, Array.Perm.refl _⟩
  | f + 1, p, k, r, h1, hs, h, e => by
    have e : ev lt ((kas_place p k k 0 k).bind fun l => kas_bin f (bubble p k (k - l)) (k + 1)) = r := e
    rw [ev_bind] at e
    obtain ⟨b1, b2, b3⟩ := place_ok O h k 0 k _ (by omega) (Nat.le_refl _) (by omega) (fun i hi => by omega) (fun i hi hk => by omega) rfl
    generalize ev lt (kas_place p k k 0 k) = l at *
    have hk : k < p.size := by omega
    have u : Up_ lt (bubble p k (k - l)) (k + 1) := fun i j hij hj => by
      rw [at_bub hk (by omega), at_bub hk (by omega)]
      have e0 : k - (k - l) = l := by omega
      rw [e0]
      by_cases ji : j = l
      · rw [if_pos ji]
        by_cases ii : i = l
        · rw [if_pos ii]; exact O.irr _
        · rw [if_neg ii, if_neg (by omega)]
          exact b2 i (by omega)
      · rw [if_neg ji]
        by_cases jl : l < j ∧ j ≤ k
        · rw [if_pos jl]
          by_cases ii : i = l
          · rw [if_pos ii]
            exact O.asym _ _ (b3 (j - 1) (by omega) (by omega))
          · rw [if_neg ii]
            by_cases il : l < i ∧ i ≤ k
            · rw [if_pos il]; exact h _ _ (by omega) (by omega)
            · rw [if_neg il]; exact h _ _ (by omega) (by omega)
        · rw [if_neg jl, if_neg (by omega), if_neg (by omega)]
          exact h _ _ hij (by omega)
    obtain ⟨a1, a2, a3⟩ := bin_ok O f (bubble p k (k - l)) (k + 1) r (by omega) (by rw [bubble_size]; omega) u e
    exact ⟨by rw [show k + (f + 1) = k + 1 + f by omega]; exact a1, a2.trans (bubble_size ..), a3.trans (bubble_perm ..)⟩
theorem sort_ok (O : Ord lt) {n : Nat} (h2 : 2 ≤ n) : Up_ lt (ev lt (kas_sort n)) n ∧ (ev lt (kas_sort n)).size = n ∧ (ev lt (kas_sort n)).Perm (List.toArray (List.range n)) := by
  unfold kas_sort
  rw [ev_bind]
  have hz : (List.toArray (List.range n)).size = n := by simp
  have R := count_ok O (p := List.toArray (List.range n)) (nrem := n) (by omega) (by omega) rfl
  generalize ev lt (kas_count n (List.toArray (List.range n))) = r at *
  obtain ⟨m, p⟩ := r
  have g := R.ge; have l := R.le; have sz := R.size
  dsimp only at g l sz ⊢
  split
  · have e1 : max m 1 = m := by omega
    rw [e1]
    obtain ⟨a1, a2, a3⟩ := bin_ok O (n - m) p m _ g (by omega) R.up rfl
    exact ⟨by rw [show m + (n - m) = n by omega] at a1; exact a1, by omega, a3.trans R.perm⟩
  · have : m = n := by omega
    subst this
    exact ⟨R.up, sz.trans hz, R.perm⟩
end
end L2
namespace L2
open PySem PySem.W PySem.Spec PyProof.Rows
section
variable {prog : Program} {w : World} {A : Around} {E : Value → Shared → Prop} {s : Shared}
theorem lsort_short {a : Addr} {vs : List Value} {n : Nat} {P : PySem.Fin → Shared → Prop} (ho : s.heap.get? a = some (seqObj "list" vs.toArray n)) (h2 : vs.length < 2)
    (h : P (.done (.ret .none)) { s with heap := sortedHeap s.heap a vs ((vs.toArray.zip vs.toArray).map (·.2)) }) : wpAny (model prog w) A (Builtin.«list.sort» ⟨[.ref a], []⟩) P E s := by
  rw [list_sort_plain]
  have fits : ∀ k, k < 2 → k ≤ sizeLine := fun k z => by rw [sizeLine_eq]; omega
  refine wpAny_bind (listItems_at ho rfl (wpAny_bind (listUpdate_at ho rfl ?_ (fits _ (by simpa using h2)) (Nat.zero_le _))))
  obtain ⟨e1, ho1⟩ : ∃ e1, (s.heap.update a (Obj.mapSeq fun _ => (#[] : Array Value))).get? a = some (seqObj "list" #[] e1) := ⟨_, get?_update_seq ho (fun _ => #[])⟩
  refine wpAny_bind (seqEpoch_at ho1 rfl (wpAny_bind (wpAny_newTuple (wpAny_bind (wpAny_newList (wpAny_holding ?_) (Nat.zero_le _))) (fits _ h2))))
  have ho6 : (((s.heap.update a (Obj.mapSeq fun _ => (#[] : Array Value))).push (seqObj "tuple" vs.toArray 0)).push (seqObj "list" #[] 0)).get? a = some (seqObj "list" #[] e1) :=
    Heap.get?_push_of_some _ (Heap.get?_push_of_some _ ho1)
  show wpAny (model prog w) A _ P E { s with heap := ((s.heap.update a (Obj.mapSeq fun _ => (#[] : Array Value))).push (seqObj "tuple" vs.toArray 0)).push (seqObj "list" #[] 0) }
  dsimp only
  have hn2 : vs.toArray.size < 2 := by rw [List.size_toArray]; omega
  rw [if_pos hn2, if_pos hn2]
  refine wpAny_bind (wpAny_pure ?_)
  rw [StateT.run_pure]
  refine wpAny_bind (wpAny_pure ?_)
  dsimp only
  refine wpAny_bind (seqEpoch_at ho6 rfl ?_)
  refine wpAny_bind (listUpdate_at ho6 rfl ?_ (Nat.zero_le _) (by rw [Array.size_map]; refine Nat.le_trans (Nat.le_of_eq (by show (vs.toArray.zip vs.toArray).size = vs.length; simp)) ?_; rw [sizeLine_eq]; omega))
  simp only [bne_self_eq_false, Bool.false_eq_true, if_false]
  exact wpAny_pure h
def preSort (h : Heap) (vs : List Value) : Heap := ((h.push (seqObj "list" #[] 0)).update h.objs.size (Obj.mapSeq (· ++ vs.toArray))).push (seqObj "list" vs.toArray 0)
theorem preSort_own (h : Heap) (vs : List Value) : (preSort h vs).get? (h.objs.size + 1) = some (seqObj "list" vs.toArray 0) := by
  have e := Heap.get?_push_size (o := seqObj "list" vs.toArray 0) ((h.push (seqObj "list" #[] 0)).update h.objs.size (Obj.mapSeq (· ++ vs.toArray))) rfl
  rwa [Heap.size_update, size_push'] at e
theorem sorted_then {l : Addr} {vs : List Value} {Q : Value → Shared → Prop} (hl : s.heap.IsList l vs.toArray) (hn : vs.length ≤ 1000000)
    (srt : ∀ (B : Around) (F : Value → Shared → Prop), wpAny (model prog w) B (Builtin.«list.sort» ⟨[.ref (s.heap.objs.size + 1)], []⟩) (fun fin s' => fin = .done (.ret .none) ∧ Q (.ref (s.heap.objs.size + 1)) s') F ⟨preSort s.heap vs, s.gens, s.drawn, s.toks, s.os⟩) :
    wpAny (model prog w) A (call (.builtin "sorted") [.ref l]) Q E s := by
  have fits : vs.length ≤ sizeLine := by rw [sizeLine_eq]; omega
  have e : ((s.heap.push (seqObj "list" #[] 0)).update s.heap.objs.size (Obj.mapSeq (· ++ vs.toArray))).objs.size = s.heap.objs.size + 1 := (Heap.size_update ..).trans (size_push' ..)
  refine Calls.call_function_entry kind_sorted plain_sorted entry_sorted (args_sorted1 _) (wpAny_bind (m := checkCount "sorted" 1 1 _) (wpAny_pure (wpAny_bind (collect_list hl (wpAny_bind (wpAny_newList ?_ (by simpa using fits))) (by simpa using fits)))))
  rw [e]
  exact wpAny_bind (wpAny_holding (wpAny_call_entry slot_list_sort ⟨_, preSort_own s.heap vs, rfl⟩ entry_list_sort
    (wpAny_mono (srt _ _) (fun _ _ z => by rw [z.1]; exact ⟨_, rfl, wpAny_pure ⟨_, rfl, z.2⟩⟩) fun _ _ z => z) (args_list_sort _)))
theorem sorted_short {l : Addr} {vs : List Value} {Q : Value → Shared → Prop} (hl : s.heap.IsList l vs.toArray) (h2 : vs.length < 2)
    (h : Q (.ref (s.heap.objs.size + 1)) { s with heap := sortedAll s.heap vs ((vs.toArray.zip vs.toArray).map (·.2)) }) : wpAny (model prog w) A (call (.builtin "sorted") [.ref l]) Q E s :=
  sorted_then hl (by omega) fun _ _ => lsort_short (preSort_own _ _) h2 ⟨rfl, h⟩

end
def InQ {α : Type} (n : Nat) (t : KasT α) (Post : α → Prop) : Prop := match t with
  | .ret a => Post a
  | .ask i j k => i < n ∧ j < n ∧ ∀ b, InQ n (k b) Post
theorem InQ.bind {α β : Type} {n : Nat} {f : α → KasT β} {P : α → Prop} {Q : β → Prop} : ∀ (t : KasT α), InQ n t P → (∀ a, P a → InQ n (f a) Q) → InQ n (t.bind f) Q
  | .ret a, h, k => k a h
  | .ask i j g, h, k => ⟨h.1, h.2.1, fun b => InQ.bind (g b) (h.2.2 b) k⟩
structure AR (n : Nat) (p : Array Nat) : Prop where
  pos : 0 < n
  mem : ∀ x ∈ p.toList, x < n
section
variable {n : Nat} {p q : Array Nat}
theorem AR.perm (h : AR n p) (e : q.Perm p) : AR n q := ⟨h.pos, fun x hx => h.mem x ((Array.perm_iff_toList_perm.mp e).mem_iff.mp hx)⟩
theorem AR.get (h : AR n p) (i : Nat) : p.getD i 0 < n := by
  rw [Array.getD_eq_getD_getElem?]
  cases e : p[i]? with
  | none => exact h.pos
  | some x =>
    refine h.mem x ?_
    have e2 : p.toList[i]? = some x := by rw [Array.getElem?_toList]; exact e
    exact List.mem_of_getElem? e2
theorem AR.rev (h : AR n p) (i j : Nat) : AR n (kas_rev p i j) := h.perm (mirror_perm ..)
theorem inq_asc (h : AR n p) : ∀ f m : Nat, InQ n (kas_asc p f m) fun _ => True
  | 0, _ => trivial
  | f + 1, m => ⟨h.get _, h.get _, fun b => by
    cases b with
    | true => exact trivial
    | false => exact inq_asc h f (m + 1)⟩
theorem inq_desc : ∀ (f : Nat) (p : Array Nat) (m q : Nat), AR n p → InQ n (kas_desc f p m q) fun r => AR n r.1
  | 0, p, m, q, h => h
  | f + 1, p, m, q, h => ⟨h.get _, h.get _, fun b => by
    cases b with
    | true =>
      show InQ n (if q > 0 then kas_desc f (kas_rev p (m - (q + 1)) m) (m + 1) 0 else kas_desc f p (m + 1) 0) _
      split
      · exact inq_desc f _ _ _ (h.rev _ _)
      · exact inq_desc f _ _ _ h
    | false =>
      refine ⟨h.get _, h.get _, fun d => ?_⟩
      cases d with
      | true => exact h
      | false => exact inq_desc f p _ _ h⟩
theorem inq_tail3 (h : AR n p) (m r : Nat) : InQ n (kas_tail3 m r p) fun z => AR n z.2 := InQ.bind _ (inq_asc (h.rev _ _) _ _) fun _ _ => h.rev _ _
theorem inq_descPart (h : AR n p) (m r : Nat) : InQ n (kas_descPart m r p) fun z => AR n z.2 := InQ.bind _ (inq_desc _ _ _ _ h) fun z hz => by
  split
  · exact inq_tail3 (hz.rev _ _) _ _
  · exact inq_tail3 hz _ _
theorem inq_count (h : AR n p) (r : Nat) : InQ n (kas_count r p) fun z => AR n z.2 := InQ.bind _ (inq_asc h _ _) fun m _ => by
  split
  · exact h
  · split
    · refine ⟨h.get _, h.get _, fun b => ?_⟩
      cases b with
      | true => exact h
      | false => exact inq_descPart (h.rev _ _) _ _
    · exact inq_descPart h _ _
theorem inq_place (h : AR n p) (k : Nat) : ∀ f l r : Nat, InQ n (kas_place p k f l r) fun _ => True
  | 0, _, _ => trivial
  | f + 1, l, r => by
    show InQ n (if l ≥ r then KasT.ret l else _) _
    split
    · exact trivial
    · refine ⟨h.get _, h.get _, fun b => ?_⟩
      cases b with
      | true => exact inq_place h k f _ _
      | false => exact inq_place h k f _ _
theorem inq_bin : ∀ (f : Nat) (p : Array Nat) (k : Nat), AR n p → InQ n (kas_bin f p k) fun _ => True
  | 0, _, _, _ => trivial
  | f + 1, p, k, h => InQ.bind _ (inq_place h k _ _ _) fun l _ => inq_bin f _ _ (h.perm (bubble_perm ..))
theorem inq_sort (h : 0 < n) : InQ n (kas_sort n) fun _ => True := InQ.bind _ (inq_count (n := n) ⟨h, fun x hx => by simpa using hx⟩ n) fun r hr => by
  split
  · exact inq_bin _ _ _ hr
  · exact trivial
end
theorem kasWp_ev {α : Type} {n : Nat} {lt : Nat → Nat → Bool} {cmp : Nat → Nat → (Bool → Shared → Prop) → Shared → Prop} {P : α → Prop} {G : α → Shared → Prop} {s : Shared} (hc : ∀ i j C, i < n → j < n → C (lt i j) s → cmp i j C s) : ∀ (t : KasT α), InQ n t P → G (ev lt t) s → t.kasWp cmp G s
  | .ret a, _, h => h
  | .ask i j k, q, h => hc i j _ q.1 q.2.1 (kasWp_ev hc (k (lt i j)) (q.2.2 _) h)
end L2
namespace L2
open PySem PySem.Spec PyProof.Rows PySem.W
theorem gtL_asym : ∀ a b : List Int, gtL a b = true → gtL b a = false
  | [], [], _ => rfl
  | [], _ :: _, h => by simp [gtL] at h
  | _ :: _, [], _ => by simp [gtL]
  | x :: a, y :: b, h => by
    by_cases e : x = y
    · subst e
      simp [gtL] at h ⊢
      exact gtL_asym a b h
    · simp [gtL, e, Ne.symm e] at h ⊢
      omega
theorem gtL_tr : ∀ a b c : List Int, gtL a b = false → gtL b c = false → gtL a c = false
  | [], _, [], _, _ => by simp [gtL]
  | [], _, _ :: _, _, _ => by simp [gtL]
  | _ :: _, [], _, h, _ => by simp [gtL] at h
  | _ :: _, _ :: _, [], _, h => by simp [gtL] at h
  | x :: a, y :: b, z :: c, h1, h2 => by
    by_cases e : x = y
    · subst e
      by_cases e2 : x = z
      · subst e2
        simp [gtL] at h1 h2 ⊢
        exact gtL_tr a b c h1 h2
      · simp [gtL, e2] at h1 h2 ⊢
        omega
    · by_cases e2 : y = z
      · subst e2
        simp [gtL, e] at h1 h2 ⊢
        omega
      · simp [gtL, e, e2] at h1 h2
        have e3 : x ≠ z := by omega
        simp [gtL, e3]
        omega
theorem ord_gtL (ts : List (List Int)) : Ord fun i j => gtL (ts.getD j []) (ts.getD i []) := ⟨fun _ _ h => gtL_asym _ _ h, fun _ _ _ h1 h2 => gtL_tr _ _ _ h1 h2⟩
theorem vals_refsT : ∀ {as : List Addr} {us : List Value}, Vals (as.map V.ref) us → us = as.map Value.ref
  | [], _, .nil => rfl
  | _ :: _, _, .cons r t => by
    rw [vals_refsT t]
    have : _ = Value.ref _ := r
    rw [this]; rfl
theorem refs_valsT : ∀ (as : List Addr), Vals (as.map V.ref) (as.map Value.ref)
  | [] => .nil
  | _ :: r => .cons rfl (refs_valsT r)
theorem paired_get {α β : Type} {R : α → β → Prop} : ∀ {xs : List α} {ys : List β}, Paired R xs ys → ∀ {i : Nat}, i < xs.length → ∃ x y, xs[i]? = some x ∧ ys[i]? = some y ∧ R x y
  | _, _, .nil, i, h => by simp at h
  | _, _, .cons r t, 0, _ => ⟨_, _, rfl, rfl, r⟩
  | _, _, .cons r t, i + 1, h => by
    obtain ⟨x, y, h1, h2, h3⟩ := paired_get t (i := i) (by simpa using h)
    exact ⟨x, y, by simpa using h1, by simpa using h2, h3⟩
section
variable {X : Cx} {pins : List (Addr × Obj)} {σ : St} {H : Hp} {s : Shared}
theorem katTups_of (I : Inv X pins σ H s) : ∀ {as : List Addr} {ts : List (List Int)}, Paired (fun (a : Addr) (t : List Int) => H a = some (.tup (t.map V.int)) ∧ t ≠ []) as ts → ∃ fs, KatTups s.heap (as.map Value.ref) fs ∧ fs.length = as.length ∧ ∀ v ∈ fs, ∃ i t, v = Value.int i t
  | _, _, .nil => ⟨[], .nil, rfl, fun v hv => nomatch hv⟩
  | _, _, .cons (a := a) (b := t) r tl => by
    obtain ⟨fs, h1, h2, h3⟩ := katTups_of I tl
    obtain ⟨its, r1, ⟨o, g, c, m, d⟩, _⟩ := I.tuple (SqT.of r.1)
    have i1 := ints_of r1
    cases t with
    | nil => exact absurd rfl r.2
    | cons n ns =>
      obtain ⟨tk, z⟩ := first_of i1
      refine ⟨.int n tk :: fs, .cons g c d z h1, by simp [h2], fun v hv => ?_⟩
      rcases List.mem_cons.mp hv with rfl | hv
      · exact ⟨n, tk, rfl⟩
      · exact h3 v hv
theorem range_getD {α : Type} (d : α) (ts : List α) : (List.range ts.length).map (fun i => ts.getD i d) = ts := by
  refine List.ext_getElem? fun i => ?_
  rw [List.getElem?_map]
  by_cases h : i < ts.length
  · rw [List.getElem?_range h]
    simp [List.getD, h]
  · rw [List.getElem?_eq_none (by simp; omega), List.getElem?_eq_none (by omega)]; rfl
theorem call_sortT : CallR X (.builtin "sorted") (fun xs H Q => ∃ (l : Addr) (as : List Addr) (ts : List (List Int)), xs = [.ref l] ∧ SqL X.K H l (as.map V.ref) ∧ Paired (fun (a : Addr) (t : List Int) => H a = some (.tup (t.map V.int)) ∧ t ≠ []) as ts ∧ as.length < 64 ∧
    ∀ (D : Addr) (bs : List Addr) (us : List (List Int)), H D = none → Paired (fun (a : Addr) (t : List Int) => H a = some (.tup (t.map V.int))) bs us → us.Perm ts → us.Pairwise (fun a b => gtL a b = false) → Q (.ref D) (upd H D (.lst (bs.map V.ref)))) := by
  intro pins s σ H xs us Q I r h
  obtain ⟨l, as, ts, rfl, hl, pr, h64, q⟩ := h
  obtain ⟨u, rfl, e1⟩ := vals1 r
  cases e1
  obtain ⟨its, rv, pl, zl⟩ := I.list hl
  cases vals_refsT rv
  have lts : as.length = ts.length := Paired.length pr
  by_cases h2 : as.length < 2
  · refine sorted_short pl.isList (by simpa using h2) ?_
    obtain ⟨e, he⟩ := sortedAll_at s.heap (as.map Value.ref) (((as.map Value.ref).toArray.zip (as.map Value.ref).toArray).map (·.2))
    have eo : (((as.map Value.ref).toArray.zip (as.map Value.ref).toArray).map (·.2)).toList = as.map Value.ref := by
      rw [Array.toList_map]
      show ((pairsOf (as.map Value.ref)).toList).map (·.2) = _
      rw [pairsOf_toList]
      exact List.map_snd_zip (Nat.le_refl _)
    refine ⟨.ref (s.heap.objs.size + 1), _, I.laid (a := s.heap.objs.size + 1) (t' := s.toks) (fun _ _ => sortedAll_old) (Nat.le_succ _) (show ObjOk X.prog X.w _ _ _ (.lst (as.map V.ref)) from ⟨zl, as.map Value.ref, e, refs_valsT as, by rw [he, ← Array.toArray_toList (xs := Array.map (fun x => x.snd) ((List.map Value.ref as).toArray.zip (List.map Value.ref as).toArray)), eo]⟩), rfl, q _ as ts (I.hok.fresh (Nat.le_succ _)) (L2.Paired.mapP pr fun _ _ z => z.1) (List.Perm.refl _) ?_⟩
    match ts, lts with
    | [], _ => exact .nil
    | [_], _ => exact List.pairwise_singleton ..
    | _ :: _ :: _, e => simp at e; omega
  · obtain ⟨m, F⟩ := I.fr
    refine kat_sorted (vs := as.map Value.ref) F news_all pl.isList (by simpa using (by omega : 2 ≤ as.length)) (by simpa using h64) fun D e1 h' F' N' hD => ?_
    obtain ⟨I1, hDn⟩ := I.newsL (out := []) (c := e1) F.ns F' N' hD .nil (Nat.zero_le _)
    have pr1 : Paired (fun (a : Addr) (t : List Int) => upd H D (.lst []) a = some (.tup (t.map V.int)) ∧ t ≠ []) as ts   := L2.Paired.mapP pr fun a t z => ⟨get_new z.1 hDn, z.2⟩
    obtain ⟨fs, k1, k2, k3⟩ := katTups_of I1 pr1
    refine kat_kind (T := .type "int") (fs := fs) k1 (by omega) (fun v hv => ?_) (by decide) ?_
    · obtain ⟨i, t, rfl⟩ := k3 v hv
      exact looks_int
    rw [List.length_map]
    have O := ord_gtL ts
    have S := sort_ok O (n := as.length) (by omega)
    have hp : ∀ i ∈ (ev (fun i j => gtL (ts.getD j []) (ts.getD i [])) (kas_sort as.length)).toList, i < as.length := fun i hi => by
      have := (Array.perm_iff_toList_perm.mp S.2.2).mem_iff.mp hi
      simpa using this
    refine kasWp_ev (n := as.length) (lt := fun i j => gtL (ts.getD j []) (ts.getD i [])) (fun i j C hi hj hC => ?_) _ (inq_sort (by omega)) ?_
    · obtain ⟨a, t, ea, et, ra, _⟩ := paired_get pr1 hi
      obtain ⟨b, w, eb, ew, rb, _⟩ := paired_get pr1 hj
      obtain ⟨its1, r1, ⟨o1, g1, c1, m1, d1⟩, _⟩ := I1.tuple (SqT.of ra)
      obtain ⟨its2, r2, ⟨o2, g2, c2, m2, d2⟩, _⟩ := I1.tuple (SqT.of rb)
      unfold kas_ask
      have v1 : (as.map Value.ref).getD i Value.none = .ref a := by simp [List.getD, ea]
      have v2 : (as.map Value.ref).getD j Value.none = .ref b := by simp [List.getD, eb]
      rw [v1, v2]
      refine kat_lt g1 d1 g2 d2 (katLex_ints 0 (by simpa using ints_of r1) (by simpa using ints_of r2) (fun _ => by simp) ?_)
      have t1 : ts.getD i [] = t := by simp [List.getD, et]
      have t2 : ts.getD j [] = w := by simp [List.getD, ew]
      have hC : C (gtL (ts.getD j []) (ts.getD i [])) _ := hC
      rw [t1, t2] at hC
      exact hC
    · generalize hpe : ev (fun i j => gtL (ts.getD j []) (ts.getD i [])) (kas_sort as.length) = p at *
      refine KasFin.intro F' N' (.head fun z hz => Nat.ne_of_lt (hD z hz)) fun h2' c2 F2 N2 => ?_
      have rv2 : ∀ l : List Nat, (∀ i ∈ l, i < as.length) → Vals ((l.map fun i => as.getD i 0).map V.ref) (l.map fun i => (as.map Value.ref).getD i Value.none) := fun l => by
        induction l with
        | nil => exact fun _ => .nil
        | cons i l ih =>
          intro hl'
          have hi : i < as.length := hl' i List.mem_cons_self
          refine .cons ?_ (ih fun j hj => hl' j (List.mem_cons_of_mem _ hj))
          show (as.map Value.ref).getD i Value.none = Value.ref (as.getD i 0)
          simp [List.getD, hi]
      have lp : p.toList.length = as.length := by rw [Array.length_toList]; exact S.2.1
      obtain ⟨I2, _⟩ := I.newsL F.ns F2 N2 hD (rv2 p.toList hp) (by rw [List.length_map, List.length_map, lp, sizeLine_eq]; omega)
      refine ⟨.ref D, _, I2, rfl, q D (p.toList.map fun i => as.getD i 0) (p.toList.map fun i => ts.getD i []) hDn ?_ ?_ ?_⟩
      · have : ∀ l : List Nat, (∀ i ∈ l, i < as.length) → Paired (fun (a : Addr) (t : List Int) => H a = some (.tup (t.map V.int))) (l.map fun i => as.getD i 0) (l.map fun i => ts.getD i []) := fun l => by
          induction l with
          | nil => exact fun _ => .nil
          | cons i l ih =>
            intro hl'
            obtain ⟨a, t, ea, et, ra, _⟩ := paired_get pr (hl' i List.mem_cons_self)
            refine .cons ?_ (ih fun j hj => hl' j (List.mem_cons_of_mem _ hj))
            have t1 : ts.getD i [] = t := by simp [List.getD, et]
            have a1 : as.getD i 0 = a := by simp [List.getD, ea]
            show H (as.getD i 0) = some (.tup ((ts.getD i []).map V.int))
            rw [t1, a1]
            exact ra
        exact this p.toList hp
      · have e := (Array.perm_iff_toList_perm.mp S.2.2).map fun i => ts.getD i []
        rw [lts] at e
        have e2 : (List.range ts.length).toArray.toList = List.range ts.length := rfl
        rw [e2, range_getD] at e
        exact e
      · rw [List.pairwise_map, List.pairwise_iff_getElem]
        intro i j hi hj hij
        have := S.1 i j (Nat.le_of_lt hij) (by omega)
        have a1 : at_ p i = p.toList[i] := by rw [at_eq]; simp at hi ⊢; simp [hi]
        have a2 : at_ p j = p.toList[j] := by rw [at_eq]; simp at hj ⊢; simp [hj]
        rw [a1, a2] at this
        exact this
end
end L2
namespace Qm
open PySem
noncomputable section
def rowOf (d : D) : Option (List Int) := match d with
  | .tup xs => nums xs
  | _ => none
def leL (a b : List Int) : Bool := !gtL a b
def bSortT : FN := one fun x c => (lstOf x c).bind fun l => (omap rowOf l.2).bind fun rs => if rs.length < 64 ∧ rs.all (fun r => !r.isEmpty) = true then some (.ref c.length, c ++ [.lst ((rs.mergeSort leL).map fun r => .tup (r.map .int))]) else none
end
end Qm
namespace L2
open PySem PySem.Spec PyProof.Rows PySem.W
theorem gtL_anti : ∀ a b : List Int, gtL a b = false → gtL b a = false → a = b
  | [], [], _, _ => rfl
  | [], _ :: _, _, h => by simp [gtL] at h
  | _ :: _, [], h, _ => by simp [gtL] at h
  | x :: a, y :: b, h1, h2 => by
    by_cases e : x = y
    · subst e
      simp [gtL] at h1 h2
      rw [gtL_anti a b h1 h2]
    · simp [gtL, e, Ne.symm e] at h1 h2
      omega
theorem perm_gtL_eq : ∀ {xs ys : List (List Int)}, xs.Perm ys → xs.Pairwise (fun a b => gtL a b = false) → ys.Pairwise (fun a b => gtL a b = false) → xs = ys
  | [], _, p, _, _ => (List.nil_perm.mp p).symm
  | x :: xs, [], p, _, _ => absurd p.length_eq (by simp)
  | x :: xs, y :: ys, p, h1, h2 => by
    have e : x = y := by
      have m1 : x ∈ y :: ys := p.subset List.mem_cons_self
      have m2 : y ∈ x :: xs := p.symm.subset List.mem_cons_self
      rcases List.mem_cons.mp m1 with e | m1
      · exact e
      rcases List.mem_cons.mp m2 with e | m2
      · exact e.symm
      exact gtL_anti _ _ ((List.pairwise_cons.mp h1).1 _ m2) ((List.pairwise_cons.mp h2).1 _ m1)
    subst e
    rw [perm_gtL_eq (List.Perm.cons_inv p) (List.pairwise_cons.mp h1).2 (List.pairwise_cons.mp h2).2]
theorem srtT_eq {us ts : List (List Int)} (p : us.Perm ts) (h : us.Pairwise (fun a b => gtL a b = false)) : us = ts.mergeSort Qm.leL := by
  refine perm_gtL_eq (p.trans (List.mergeSort_perm ..).symm) h ?_
  have := List.pairwise_mergeSort (le := Qm.leL) (fun a b c h1 h2 => by
    unfold Qm.leL at *
    simp only [Bool.not_eq_true', ← gtL_eq] at *
    exact gtL_tr a b c h1 h2) (fun a b => by
    unfold Qm.leL
    simp only [Bool.or_eq_true, Bool.not_eq_true', ← gtL_eq]
    cases h : gtL a b with
    | false => exact .inl rfl
    | true => exact .inr (gtL_asym _ _ h)) ts
  exact this.imp fun h => by
    unfold Qm.leL at h
    simpa only [Bool.not_eq_true', ← gtL_eq] using h
section
variable {K : PySem.W.Frag} {ρ : Nat → Addr} {N : Nat} {H : Hp}
theorem rows_ra : ∀ {ds : List Qm.D} {ws : List V} {ts : List (List Int)}, RA K ρ N H ds ws → Qm.omap Qm.rowOf ds = some ts → ∃ as : List Addr, ws = as.map V.ref ∧ Paired (fun (a : Addr) (t : List Int) => H a = some (.tup (t.map V.int))) as ts
  | _, _, _, .nil, e => by
    cases e
    exact ⟨[], rfl, .nil⟩
  | _, _, _, .cons (d := d) r t, e => by
    simp only [Qm.omap] at e
    obtain ⟨z, e1, e⟩ := bnd e
    obtain ⟨zs, e2, e⟩ := bnd e
    cases e
    obtain ⟨as, rfl, pr⟩ := rows_ra t e2
    unfold Qm.rowOf at e1
    split at e1
    · obtain ⟨p, xs, rfl, h1, a1⟩ := r.tup'
      rw [nums_ra a1 e1] at h1
      exact ⟨p :: as, rfl, .cons h1 pr⟩
    · cases e1
theorem ra_rows : ∀ {as : List Addr} {ts : List (List Int)}, Paired (fun (a : Addr) (t : List Int) => H a = some (.tup (t.map V.int))) as ts → RA K ρ N H (ts.map fun r => Qm.D.tup (r.map .int)) (as.map V.ref)
  | _, _, .nil => .nil
  | _, _, .cons r t => .cons (.tup r (ra_of_ints _)) (ra_rows t)
theorem paired_and {as : List Addr} {ts : List (List Int)} (h : Paired (fun (a : Addr) (t : List Int) => H a = some (.tup (t.map V.int))) as ts) (h2 : ∀ t ∈ ts, t ≠ []) : Paired (fun (a : Addr) (t : List Int) => H a = some (.tup (t.map V.int)) ∧ t ≠ []) as ts := by
  induction h with
  | nil => exact .nil
  | cons r t ih => exact .cons ⟨r, h2 _ List.mem_cons_self⟩ (ih fun t ht => h2 t (List.mem_cons_of_mem _ ht))
end
theorem lk_sortT {K : PySem.W.Frag} : LkF K (fun xs H Q => ∃ (l : Addr) (as : List Addr) (ts : List (List Int)), xs = [.ref l] ∧ SqL K H l (as.map V.ref) ∧ Paired (fun (a : Addr) (t : List Int) => H a = some (.tup (t.map V.int)) ∧ t ≠ []) as ts ∧ as.length < 64 ∧
    ∀ (D : Addr) (bs : List Addr) (us : List (List Int)), H D = none → Paired (fun (a : Addr) (t : List Int) => H a = some (.tup (t.map V.int))) bs us → us.Perm ts → us.Pairwise (fun a b => gtL a b = false) → Q (.ref D) (upd H D (.lst (bs.map V.ref)))) Qm.bSortT := by
  intro ρ c H ds d c' vs Q rs ra e k
  obtain ⟨x, rfl, e⟩ := one_of e
  obtain ⟨v, rfl, rx⟩ := ra.one'
  obtain ⟨l, e1, e⟩ := bnd e
  obtain ⟨ts, e2, e⟩ := bnd e
  split at e
  · rename_i hz
    cases e
    obtain ⟨_, hc, ws, rfl, h1, a1⟩ := rs.lstOf rx e1
    obtain ⟨as, rfl, pr⟩ := rows_ra a1 e2
    have lts : as.length = ts.length := Paired.length pr
    have hne : ∀ t ∈ ts, t ≠ [] := fun t ht z => by
      have := List.all_eq_true.mp hz.2 t ht
      rw [z] at this; simp at this
    refine ⟨_, as, ts, rfl, SqL.of h1, paired_and pr hne, by rw [lts]; exact hz.1, fun D bs us hD pb pm srt => ?_⟩
    rw [srtT_eq pm srt] at pb
    obtain ⟨n, r⟩ := Nx.alloc rs hD (ra_rows pb)
    exact k _ _ _ n r
  · cases e
end L2
namespace Qm
open PySem
section
variable {σ : Env} {c c' : Cells} {d : D} {i j : Int} {b : Bool} {xs ys : List D}
@[simp] theorem eC_ : eC d σ c = some (d, c) := rfl
@[simp] theorem eV_ {k : Nat} : eV k σ c = (σ[k]?.join).bind fun d => some (d, c) := rfl
@[simp] theorem e1_ {g : G1} {a : XE} : e1 g a σ c = (a σ c).bind fun p => g p.1 p.2 := rfl
@[simp] theorem e2_ {g : G2} {a b : XE} : e2 g a b σ c = (a σ c).bind fun p => (b σ p.2).bind fun q => g p.1 q.1 q.2 := rfl
@[simp] theorem asB_ : asB (.bl b) = some b := rfl
@[simp] theorem asI_ : asI (.int i) = some i := rfl
@[simp] theorem eAnd_ {a b : XE} : eAnd a b σ c = (a σ c).bind fun p => (asB p.1).bind fun k => if k = true then b σ p.2 else some (.bl false, p.2) := rfl
@[simp] theorem eOr_ {a b : XE} : eOr a b σ c = (a σ c).bind fun p => (asB p.1).bind fun k => if k = true then some (.bl true, p.2) else b σ p.2 := rfl
@[simp] theorem eNot_ {a : XE} : eNot a σ c = (a σ c).bind fun p => (asB p.1).bind fun k => some (.bl (!k), p.2) := rfl
@[simp] theorem eIf_ {t : XT} {a b : XE} : eIf t a b σ c = (t σ c).bind fun p => if p.1 = true then a σ p.2 else b σ p.2 := rfl
@[simp] theorem aNil_ : aNil σ c = some ([], c) := rfl
@[simp] theorem aCons_ {a : XE} {r : XA} : aCons a r σ c = (a σ c).bind fun p => (r σ p.2).bind fun q => some (p.1 :: q.1, q.2) := rfl
@[simp] theorem eTup_ {a : XA} : eTup a σ c = (a σ c).bind fun p => if p.1.length ≤ LINE then some (.tup p.1, p.2) else none := rfl
@[simp] theorem eLst_ {a : XA} : eLst a σ c = (a σ c).bind fun p => if p.1.length ≤ LINE then some (.ref p.2.length, p.2 ++ [.lst p.1]) else none := rfl
@[simp] theorem eCall_ {F : FN} {ds : List D} {a : XA} : eCall F ds a σ c = (a σ c).bind fun p => F (p.1 ++ ds) p.2 := rfl
@[simp] theorem eB_ {F : FN} {a : XA} : eB F a σ c = (a σ c).bind fun p => F p.1 p.2 := rfl
@[simp] theorem eM_ {g : D → FN} {o : XE} {a : XA} : eM g o a σ c = (o σ c).bind fun p => (lstOf p.1 p.2).bind fun _ => (a σ p.2).bind fun q => g p.1 q.1 q.2 := rfl
@[simp] theorem oNone_ : oNone σ c = some (none, c) := rfl
@[simp] theorem eSl_ {g} {a : XE} {lo hi : XO} : eSl g a lo hi σ c = (a σ c).bind fun p => (lo σ p.2).bind fun l => (hi σ l.2).bind fun h => g p.1 l.1 h.1 h.2 := rfl
@[simp] theorem tV_ {a : XE} : tV a σ c = (a σ c).bind fun p => (asB p.1).bind fun k => some (k, p.2) := rfl
@[simp] theorem tAnd_ {a b : XT} : tAnd a b σ c = (a σ c).bind fun p => if p.1 = true then b σ p.2 else some (false, p.2) := rfl
@[simp] theorem tOr_ {a b : XT} : tOr a b σ c = (a σ c).bind fun p => if p.1 = true then some (true, p.2) else b σ p.2 := rfl
@[simp] theorem tNot_ {a : XT} : tNot a σ c = (a σ c).bind fun p => some (!p.1, p.2) := rfl
@[simp] theorem tYes_ : tYes σ c = some (true, c) := rfl
@[simp] theorem eChain_ {g h : G2} {a b e : XE} : eChain g h a b e σ c = (a σ c).bind fun p => (b σ p.2).bind fun q => (g p.1 q.1 q.2).bind fun z => (asB z.1).bind fun k => if k = true then (e σ z.2).bind fun u => h q.1 u.1 u.2 else some (.bl false, z.2) := rfl
@[simp] theorem sNil_ : sNil σ c = some (.nx, σ, c) := rfl
@[simp] theorem sSet_ {k : Nat} {e : XE} : sSet k e σ c = (e σ c).bind fun p => some (.nx, σ.set k (some p.1), p.2) := rfl
@[simp] theorem sAsg_ {e : XE} {g : XG} : sAsg e g σ c = (e σ c).bind fun p => (g p.1 σ p.2).bind fun q => some (.nx, q.1, q.2) := rfl
@[simp] theorem sPar_ {is : List Nat} {a : XA} : sPar is a σ c = (a σ c).bind fun p => if p.1.length = is.length then some (.nx, (is.zip p.1).foldl (fun σ q => σ.set q.1 (some q.2)) σ, p.2) else none := rfl
@[simp] theorem sIf_ {t : XT} {a b : XS} : sIf t a b σ c = (t σ c).bind fun p => if p.1 = true then a σ p.2 else b σ p.2 := rfl
@[simp] theorem sRet_ {e : XE} : sRet e σ c = (e σ c).bind fun p => some (.rt p.1, σ, p.2) := rfl
@[simp] theorem sExpr_ {e : XE} : sExpr e σ c = (e σ c).bind fun p => some (.nx, σ, p.2) := rfl
@[simp] theorem gName_ {k : Nat} : gName k d σ c = some (σ.set k (some d), c) := rfl
@[simp] theorem gNil_ : gNil [] σ c = some (σ, c) := rfl
@[simp] theorem gCons_ {g : XG} {r : XGs} : gCons g r (d :: xs) σ c = (g d σ c).bind fun p => r xs p.1 p.2 := rfl
@[simp] theorem gTup_ {n : Nat} {g : XGs} : gTup n g (.tup xs) σ c = if xs.length = n then g xs σ c else none := rfl
def sq (b : XS) (p : Fl × Env × Cells) : Option (Fl × Env × Cells) := match p.1 with
  | .nx => b p.2.1 p.2.2
  | _ => some p
@[simp] theorem sSeq_ {a b : XS} : sSeq a b σ c = (a σ c).bind (sq b) := rfl
@[simp] theorem sq_nx {b : XS} : sq b (.nx, σ, c) = b σ c := rfl
@[simp] theorem sq_rt {b : XS} : sq b (.rt d, σ, c) = some (.rt d, σ, c) := rfl
def fin (p : Fl × Env × Cells) : Option (D × Cells) := match p.1 with
  | .rt d => some (d, p.2.2)
  | .nx => some (.non, p.2.2)
  | _ => none
theorem mkF_ {n N : Nat} {b : XS} {ds : List D} : mkF n N b ds c = if ds.length = n then (b (ds.map some ++ List.replicate (N - n) none) c).bind fin else none := rfl
@[simp] theorem fin_rt : fin (.rt d, σ, c) = some (d, c) := rfl
@[simp] theorem fin_nx : fin (.nx, σ, c) = some (.non, c) := rfl
theorem ii_ {f : Int → Int → Option D} : ii f (.int i) (.int j) c = (f i j).bind fun d => some (d, c) := rfl
@[simp] theorem gSub_ : gSub (.int i) (.int j) c = some (.int (i - j), c) := rfl
@[simp] theorem gAdd_ : gAdd (.int i) (.int j) c = some (.int (i + j), c) := rfl
@[simp] theorem gLt_ : gLt (.int i) (.int j) c = some (.bl (decide (i < j)), c) := rfl
@[simp] theorem gLe_ : gLe (.int i) (.int j) c = some (.bl (decide (i ≤ j)), c) := rfl
@[simp] theorem gGt_ : gGt (.int i) (.int j) c = some (.bl (decide (j < i)), c) := rfl
@[simp] theorem gGe_ : gGe (.int i) (.int j) c = some (.bl (decide (j ≤ i)), c) := rfl
@[simp] theorem gNeg_ : gNeg (.int i) c = some (.int (-i), c) := rfl
theorem mulL (h : i.natAbs < 2 ^ 64) : MulOk i j := Or.inr (Or.inl ⟨h⟩)
theorem mulR (h : j.natAbs < 2 ^ 64) : MulOk i j := Or.inr (Or.inr ⟨h⟩)
theorem mulB (h : My.Bd 90000 i) (g : My.Bd 90000 j) : MulOk i j := Or.inl ⟨h, g⟩
theorem bd64 (h : i.natAbs < 2 ^ 64) : My.Bd 64 i := ⟨h⟩
theorem gMul_ (h : MulOk i j) : gMul (.int i) (.int j) c = some (.int (i * j), c) := by unfold gMul; rw [ii_, if_pos h]; rfl
theorem gFdiv_ (h : 0 < j) (hb : My.Bd 8900 j) : gFdiv (.int i) (.int j) c = some (.int (i / j), c) := by
  unfold gFdiv; rw [ii_, if_pos ⟨by omega, hb⟩, Int.fdiv_eq_ediv_of_nonneg i (Int.le_of_lt h)]; rfl
theorem gMod_ (h : 0 < j) : gMod (.int i) (.int j) c = some (.int (i % j), c) := by
  unfold gMod; rw [ii_, if_pos (by omega), Int.fmod_eq_emod_of_nonneg i (Int.le_of_lt h)]; rfl
@[simp] theorem data_int {k : Nat} : data c (k + 1) (.int i) = some (.int i) := by simp [data]
theorem eqM_int : eqM (.int i) (.int j) c = some (decide (i = j)) := by
  have : eqM (.int i) (.int j) c = (data c 6 (.int i)).bind fun d => (data c 6 (.int j)).bind fun e => some (@decide (d = e) (Classical.propDecidable _)) := rfl
  rw [this, data_int, data_int]
  simp
@[simp] theorem gEq_int : gEq (.int i) (.int j) c = some (.bl (decide (i = j)), c) := by unfold gEq; rw [eqM_int]; rfl
@[simp] theorem gNe_int : gNe (.int i) (.int j) c = some (.bl (!decide (i = j)), c) := by unfold gNe; rw [eqM_int]; rfl
@[simp] theorem gEq_bl {k : Bool} : gEq (.bl b) (.bl k) c = some (.bl (b == k), c) := rfl
@[simp] theorem gNe_bl {k : Bool} : gNe (.bl b) (.bl k) c = some (.bl (!(b == k)), c) := rfl
@[simp] theorem seqOf_tup : seqOf (.tup xs) c = some xs := rfl
theorem seqOf_lst {n : Nat} (h : c[n]? = some (.lst xs)) : seqOf (.ref n) c = some xs := by simp [seqOf, h]
theorem seqOf_ro {n : Nat} (h : c[n]? = some (.ro xs)) : seqOf (.ref n) c = some xs := by simp [seqOf, h]
theorem lstOf_lst {n : Nat} (h : c[n]? = some (.lst xs)) : lstOf (.ref n) c = some (n, xs) := by simp [lstOf, h]
theorem gIx_ {x : D} : gIx x (.int i) c = (seqOf x c).bind fun xs => (atD xs i).bind fun d => some (d, c) := rfl
@[simp] theorem gIx_tup : gIx (.tup xs) (.int i) c = (atD xs i).bind fun d => some (d, c) := rfl
@[simp] theorem atD_0 {α : Type} {x : α} {xs : List α} : atD (x :: xs) 0 = some x := by simp [atD, ixD]
@[simp] theorem atD_1 {α : Type} {x y : α} {xs : List α} : atD (x :: y :: xs) 1 = some y := by
  have h : (1 : Int) < ((x :: y :: xs).length : Int) := by simp only [List.length_cons]; omega
  unfold atD ixD
  rw [if_pos (by decide), if_pos h]; rfl
@[simp] theorem atD_2 {α : Type} {x y z : α} {xs : List α} : atD (x :: y :: z :: xs) 2 = some z := by
  have h : (2 : Int) < ((x :: y :: z :: xs).length : Int) := by simp only [List.length_cons]; omega
  unfold atD ixD
  rw [if_pos (by decide), if_pos h]; rfl
theorem atD_nat {α : Type} {xs : List α} {n : Nat} {x : α} (h : xs[n]? = some x) : atD xs (n : Int) = some x := by
  have hl : n < xs.length := (List.getElem?_eq_some_iff.mp h).1
  unfold atD ixD
  rw [if_pos (by omega), if_pos (by omega)]
  simpa using h
theorem atD_last {α : Type} {xs : List α} {x : α} : atD (xs ++ [x]) (-1) = some x := by
  unfold atD ixD
  rw [if_neg (by decide), if_pos (by simp only [List.length_append, List.length_cons, List.length_nil]; omega)]
  have : ((-1 : Int) + ((xs ++ [x]).length : Int)).toNat = xs.length := by simp only [List.length_append, List.length_cons, List.length_nil]; omega
  rw [this]
  simp
@[simp] theorem bAbs_ : bAbs [.int i] c = some (.int (if i < 0 then -i else i), c) := rfl
@[simp] theorem bInt_bl : bInt [.bl b] c = some (.int (if b then 1 else 0), c) := rfl
theorem bLen_ {x : D} : bLen [x] c = (seqOf x c).bind fun xs => some (.int xs.length, c) := rfl
@[simp] theorem bMax2_ : bMax2 [.int i, .int j] c = some (.int (if j > i then j else i), c) := rfl
@[simp] theorem bMin2_ : bMin2 [.int i, .int j] c = some (.int (if j < i then j else i), c) := rfl
theorem line_ok {n : Nat} (h : n ≤ 10000) : n ≤ LINE := Nat.le_trans h (by rw [LINE_eq]; decide)
@[simp] theorem line1 : 1 ≤ LINE := line_ok (by decide)
@[simp] theorem line2 : 2 ≤ LINE := line_ok (by decide)
@[simp] theorem line3 : 3 ≤ LINE := line_ok (by decide)
@[simp] theorem line4 : 4 ≤ LINE := line_ok (by decide)
@[simp] theorem line5 : 5 ≤ LINE := line_ok (by decide)
@[simp] theorem line6 : 6 ≤ LINE := line_ok (by decide)
@[simp] theorem line7 : 7 ≤ LINE := line_ok (by decide)
@[simp] theorem line8 : 8 ≤ LINE := line_ok (by decide)
theorem iRng1' {a : XA} (h : a σ c = some ([.int j], c')) (h2 : j.natAbs < 2 ^ 61) : iRng1 a σ c = some (⟨rng 0 j.toNat, []⟩, c') := by
  unfold iRng1
  rw [h, Option.bind_some]
  dsimp only
  rw [if_pos ⟨by omega, by omega⟩]
theorem stays_nil : stays [] c := fun _ h => nomatch h
end
theorem forGo_inv {ks : List (Nat × Cell)} {g : XG} {body : XS} (P : Nat → Env → Cells → Prop) :
    ∀ (ds : List D) (k : Nat) (σ : Env) (c : Cells), (∀ i σ c, P i σ c → stays ks c) → (∀ i d σ c, ds[i]? = some d → P (k + i) σ c → ∃ σ1 c1 σ2 c2, g d σ c = some (σ1, c1) ∧ body σ1 c1 = some (.nx, σ2, c2) ∧ P (k + i + 1) σ2 c2) →
      P k σ c → ∃ σ' c', forGo ks g body ds σ c = some (.nx, σ', c') ∧ P (k + ds.length) σ' c'
  | [], k, σ, c, hs, _, h => ⟨σ, c, by unfold forGo; rw [if_pos (hs k σ c h)], h⟩
  | d :: ds, k, σ, c, hs, ht, h => by
    obtain ⟨σ1, c1, σ2, c2, h1, h2, h3⟩ := ht 0 d σ c rfl h
    obtain ⟨σ', c', h4, h5⟩ := forGo_inv P ds (k + 1) σ2 c2 hs (fun i d' σ c hd hp => by
      have := ht (i + 1) d' σ c (by simpa using hd) (by rw [show k + (i + 1) = k + 1 + i by omega]; exact hp)
      rwa [show k + (i + 1) + 1 = k + 1 + i + 1 by omega] at this) h3
    refine ⟨σ', c', ?_, by rw [show k + (d :: ds).length = k + 1 + ds.length by simp only [List.length_cons]; omega]; exact h5⟩
    unfold forGo
    rw [if_pos (hs k σ c h), h1]
    simp only [Option.bind_some, h2, h4]
end Qm
namespace Law
open PySem
noncomputable def B_is_below : Qm.XS := (Qm.sRet (Qm.e2 Qm.gLt (Qm.e2 Qm.gMul (Qm.e2 Qm.gIx (Qm.eV 0) (Qm.eC (.int 1))) (Qm.e2 Qm.gIx (Qm.eV 1) (Qm.eC (.int 2)))) (Qm.e2 Qm.gMul (Qm.e2 Qm.gIx (Qm.eV 1) (Qm.eC (.int 1))) (Qm.e2 Qm.gIx (Qm.eV 0) (Qm.eC (.int 2))))))
noncomputable def F_is_below : Qm.FN := Qm.mkF 2 2 B_is_below
noncomputable def B_ahead : Qm.XS := (Qm.sSeq (Qm.sSet 2 (Qm.e2 Qm.gMul (Qm.e2 Qm.gIx (Qm.eV 0) (Qm.eC (.int 0))) (Qm.e2 Qm.gIx (Qm.eV 1) (Qm.eC (.int 2)))))
      (Qm.sSeq (Qm.sSet 3 (Qm.e2 Qm.gMul (Qm.e2 Qm.gIx (Qm.eV 1) (Qm.eC (.int 0))) (Qm.e2 Qm.gIx (Qm.eV 0) (Qm.eC (.int 2)))))
      (Qm.sSeq (Qm.sIf (Qm.tV (Qm.e2 Qm.gEq (Qm.eV 2) (Qm.eV 3)))
      (Qm.sRet (Qm.eCall F_is_below [] (Qm.aCons (Qm.eV 0) (Qm.aCons (Qm.eV 1) Qm.aNil))))
      Qm.sNil)
      (Qm.sRet (Qm.e2 Qm.gLt (Qm.eV 2) (Qm.eV 3))))))
noncomputable def F_ahead : Qm.FN := Qm.mkF 2 4 B_ahead
noncomputable def B_crossed : Qm.XS := (Qm.sRet (Qm.eTup (Qm.aCons (Qm.e2 Qm.gSub (Qm.e2 Qm.gMul (Qm.e2 Qm.gIx (Qm.eV 0) (Qm.eC (.int 1))) (Qm.e2 Qm.gIx (Qm.eV 1) (Qm.eC (.int 2)))) (Qm.e2 Qm.gMul (Qm.e2 Qm.gIx (Qm.eV 0) (Qm.eC (.int 2))) (Qm.e2 Qm.gIx (Qm.eV 1) (Qm.eC (.int 1))))) (Qm.aCons (Qm.e2 Qm.gSub (Qm.e2 Qm.gMul (Qm.e2 Qm.gIx (Qm.eV 0) (Qm.eC (.int 2))) (Qm.e2 Qm.gIx (Qm.eV 1) (Qm.eC (.int 0)))) (Qm.e2 Qm.gMul (Qm.e2 Qm.gIx (Qm.eV 0) (Qm.eC (.int 0))) (Qm.e2 Qm.gIx (Qm.eV 1) (Qm.eC (.int 2))))) (Qm.aCons (Qm.e2 Qm.gSub (Qm.e2 Qm.gMul (Qm.e2 Qm.gIx (Qm.eV 0) (Qm.eC (.int 0))) (Qm.e2 Qm.gIx (Qm.eV 1) (Qm.eC (.int 1)))) (Qm.e2 Qm.gMul (Qm.e2 Qm.gIx (Qm.eV 0) (Qm.eC (.int 1))) (Qm.e2 Qm.gIx (Qm.eV 1) (Qm.eC (.int 0))))) Qm.aNil)))))
noncomputable def F_crossed : Qm.FN := Qm.mkF 2 2 B_crossed
noncomputable def B_sign : Qm.XS := (Qm.sSeq (Qm.sIf (Qm.tV (Qm.e2 Qm.gGt (Qm.eV 0) (Qm.eC (.int 0))))
      (Qm.sRet (Qm.eC (.int 1)))
      Qm.sNil)
      (Qm.sSeq (Qm.sIf (Qm.tV (Qm.e2 Qm.gLt (Qm.eV 0) (Qm.eC (.int 0))))
      (Qm.sRet (Qm.e1 Qm.gNeg (Qm.eC (.int 1))))
      Qm.sNil)
      (Qm.sRet (Qm.eC (.int 0)))))
noncomputable def F_sign : Qm.FN := Qm.mkF 1 1 B_sign
noncomputable def B_turn : Qm.XS := (Qm.sSeq (Qm.sSet 3 (Qm.eCall F_crossed [] (Qm.aCons (Qm.eV 0) (Qm.aCons (Qm.eV 1) Qm.aNil))))
      (Qm.sRet (Qm.eCall F_sign [] (Qm.aCons (Qm.e2 Qm.gAdd (Qm.e2 Qm.gAdd (Qm.e2 Qm.gMul (Qm.e2 Qm.gIx (Qm.eV 3) (Qm.eC (.int 0))) (Qm.e2 Qm.gIx (Qm.eV 2) (Qm.eC (.int 0)))) (Qm.e2 Qm.gMul (Qm.e2 Qm.gIx (Qm.eV 3) (Qm.eC (.int 1))) (Qm.e2 Qm.gIx (Qm.eV 2) (Qm.eC (.int 1))))) (Qm.e2 Qm.gMul (Qm.e2 Qm.gIx (Qm.eV 3) (Qm.eC (.int 2))) (Qm.e2 Qm.gIx (Qm.eV 2) (Qm.eC (.int 2))))) Qm.aNil))))
noncomputable def F_turn : Qm.FN := Qm.mkF 3 4 B_turn
noncomputable def B_in_first_half : Qm.XS := (Qm.sSeq (Qm.sIf (Qm.tV (Qm.eCall F_is_below [] (Qm.aCons (Qm.eV 0) (Qm.aCons (Qm.eV 1) Qm.aNil))))
      (Qm.sRet (Qm.eC (.bl true)))
      Qm.sNil)
      (Qm.sRet (Qm.eAnd (Qm.eNot (Qm.eCall F_is_below [] (Qm.aCons (Qm.eV 1) (Qm.aCons (Qm.eV 0) Qm.aNil)))) (Qm.eCall F_ahead [] (Qm.aCons (Qm.eV 0) (Qm.aCons (Qm.eV 1) Qm.aNil))))))
noncomputable def F_in_first_half : Qm.FN := Qm.mkF 2 2 B_in_first_half
noncomputable def B_met_first : Qm.XS := (Qm.sSeq (Qm.sSet 3 (Qm.eCall F_in_first_half [] (Qm.aCons (Qm.eV 0) (Qm.aCons (Qm.eV 1) Qm.aNil))))
      (Qm.sSeq (Qm.sIf (Qm.tV (Qm.e2 Qm.gNe (Qm.eV 3) (Qm.eCall F_in_first_half [] (Qm.aCons (Qm.eV 0) (Qm.aCons (Qm.eV 2) Qm.aNil)))))
      (Qm.sRet (Qm.eV 3))
      Qm.sNil)
      (Qm.sRet (Qm.e2 Qm.gEq (Qm.eCall F_turn [] (Qm.aCons (Qm.eV 0) (Qm.aCons (Qm.eV 1) (Qm.aCons (Qm.eV 2) Qm.aNil)))) (Qm.eC (.int 1))))))
noncomputable def F_met_first : Qm.FN := Qm.mkF 3 4 B_met_first
noncomputable def F_lam0 : Qm.FN := Qm.lamF 3 (Qm.eCall F_met_first [] (Qm.aCons (Qm.eV 2) (Qm.aCons (Qm.eV 0) (Qm.aCons (Qm.eV 1) Qm.aNil))))
noncomputable def B_merged (lt : Qm.LamT) : Qm.XS := (Qm.sSeq (Qm.sSet 3 (Qm.eLst Qm.aNil))
      (Qm.sSeq (Qm.sSet 4 (Qm.eC (.int 0)))
      (Qm.sSeq (Qm.sFor (Qm.iLst (Qm.eV 1)) (Qm.gName 5)
      (Qm.sSeq (Qm.sWhile (Qm.tAnd (Qm.tV (Qm.e2 Qm.gLt (Qm.eV 4) (Qm.eB Qm.bLen (Qm.aCons (Qm.eV 0) Qm.aNil)))) (Qm.tNot (Qm.tV (Qm.eCallW [] [(lt, F_lam0)] (Qm.eV 2) (Qm.aCons (Qm.eV 5) (Qm.aCons (Qm.e2 Qm.gIx (Qm.eV 0) (Qm.eV 4)) Qm.aNil)))))) (Qm.sSeq (Qm.sExpr (Qm.eM Qm.mAppend (Qm.eV 3) (Qm.aCons (Qm.e2 Qm.gIx (Qm.eV 0) (Qm.eV 4)) Qm.aNil)))
      (Qm.sSet 4 (Qm.e2 Qm.gAdd (Qm.eV 4) (Qm.eC (.int 1))))))
      (Qm.sExpr (Qm.eM Qm.mAppend (Qm.eV 3) (Qm.aCons (Qm.eV 5) Qm.aNil)))))
      (Qm.sSeq (Qm.sExpr (Qm.eM Qm.mExtend (Qm.eV 3) (Qm.aCons (Qm.eSl Qm.gCut (Qm.eV 0) (Qm.oSome (Qm.eV 4)) Qm.oNone) Qm.aNil)))
      (Qm.sRet (Qm.eV 3))))))
noncomputable def F_merged (lt : Qm.LamT) : Qm.FN := Qm.mkF 3 6 (B_merged lt)
noncomputable def B_merged_pairs (lt : Qm.LamT) : Qm.XS := (Qm.sSeq (Qm.sSet 2 (Qm.eComp (Qm.iRngS (Qm.aCons (Qm.eC (.int 0)) (Qm.aCons (Qm.e2 Qm.gSub (Qm.eB Qm.bLen (Qm.aCons (Qm.eV 0) Qm.aNil)) (Qm.eC (.int 1))) (Qm.aCons (Qm.eC (.int 2)) Qm.aNil)))) [none, some 1, some 0] (Qm.gName 0) Qm.tYes (Qm.eCall (F_merged lt) [] (Qm.aCons (Qm.e2 Qm.gIx (Qm.eV 2) (Qm.eV 0)) (Qm.aCons (Qm.e2 Qm.gIx (Qm.eV 2) (Qm.e2 Qm.gAdd (Qm.eV 0) (Qm.eC (.int 1)))) (Qm.aCons (Qm.eV 1) Qm.aNil))))))
      (Qm.sSeq (Qm.sIf (Qm.tV (Qm.e2 Qm.gEq (Qm.e2 Qm.gMod (Qm.eB Qm.bLen (Qm.aCons (Qm.eV 0) Qm.aNil)) (Qm.eC (.int 2))) (Qm.eC (.int 1))))
      (Qm.sExpr (Qm.eM Qm.mAppend (Qm.eV 2) (Qm.aCons (Qm.e2 Qm.gIx (Qm.eV 0) (Qm.e1 Qm.gNeg (Qm.eC (.int 1)))) Qm.aNil)))
      Qm.sNil)
      (Qm.sRet (Qm.eV 2))))
noncomputable def F_merged_pairs (lt : Qm.LamT) : Qm.FN := Qm.mkF 2 3 (B_merged_pairs lt)
noncomputable def B_in_order (lt : Qm.LamT) : Qm.XS := (Qm.sSeq (Qm.sSet 2 (Qm.eComp (Qm.iLst (Qm.eV 0)) [none] (Qm.gName 0) Qm.tYes (Qm.eLst (Qm.aCons (Qm.eV 0) Qm.aNil))))
      (Qm.sSeq (Qm.sWhile (Qm.tV (Qm.e2 Qm.gGt (Qm.eB Qm.bLen (Qm.aCons (Qm.eV 2) Qm.aNil)) (Qm.eC (.int 1)))) (Qm.sSet 2 (Qm.eCall (F_merged_pairs lt) [] (Qm.aCons (Qm.eV 2) (Qm.aCons (Qm.eV 1) Qm.aNil)))))
      (Qm.sRet (Qm.eIf (Qm.tV (Qm.e2 Qm.gEq (Qm.eB Qm.bLen (Qm.aCons (Qm.eV 2) Qm.aNil)) (Qm.eC (.int 1)))) (Qm.e2 Qm.gIx (Qm.eV 2) (Qm.eC (.int 0))) (Qm.eLst Qm.aNil)))))
noncomputable def F_in_order (lt : Qm.LamT) : Qm.FN := Qm.mkF 2 3 (B_in_order lt)
noncomputable def B_round_about (lt : Qm.LamT) : Qm.XS := (Qm.sRet (Qm.eCall (F_in_order lt) [] (Qm.aCons (Qm.eV 1) (Qm.aCons (Qm.eLam lt 1 [0]) Qm.aNil))))
noncomputable def F_round_about (lt : Qm.LamT) : Qm.FN := Qm.mkF 2 2 (B_round_about lt)
noncomputable def B_law_pool : Qm.XS := (Qm.sSeq (Qm.sSet 2 (Qm.eC (.int 0)))
      (Qm.sSeq (Qm.sIf (Qm.tV (Qm.e2 Qm.gLt (Qm.eV 1) (Qm.eB Qm.bLen (Qm.aCons (Qm.eV 0) Qm.aNil))))
      (Qm.sSet 2 (Qm.e2 Qm.gIx (Qm.eV 0) (Qm.eV 1)))
      Qm.sNil)
      (Qm.sSeq (Qm.sSet 3 (Qm.e2 Qm.gMul (Qm.eB Qm.bAbs (Qm.aCons (Qm.eV 2) Qm.aNil)) (Qm.eB Qm.bInt (Qm.aCons (Qm.e2 Qm.gGe (Qm.eB Qm.bAbs (Qm.aCons (Qm.eV 2) Qm.aNil)) (Qm.e2 Qm.gPow (Qm.eC (.int 10)) (Qm.eC (.int 18)))) Qm.aNil))))
      (Qm.sSeq (Qm.sSet 4 (Qm.e2 Qm.gMul (Qm.e2 Qm.gAdd (Qm.e2 Qm.gAdd (Qm.e2 Qm.gMod (Qm.eV 2) (Qm.eC (.int 2305843009213693951))) (Qm.e2 Qm.gMul (Qm.eC (.int 7919)) (Qm.eV 1))) (Qm.eC (.int 5))) (Qm.eC (.int 6364136223846793005))))
      (Qm.sSeq (Qm.sSet 5 (Qm.eC (.int 0)))
      (Qm.sSeq (Qm.sFor (Qm.iRng1 (Qm.aCons (Qm.eC (.int 16)) Qm.aNil)) (Qm.gName 6)
      (Qm.sSeq (Qm.sSet 4 (Qm.e2 Qm.gMod (Qm.e2 Qm.gMul (Qm.e2 Qm.gMod (Qm.e2 Qm.gAdd (Qm.eV 4) (Qm.e2 Qm.gMul (Qm.eC (.int 1442695040888963407)) (Qm.e2 Qm.gAdd (Qm.eV 6) (Qm.eC (.int 1))))) (Qm.eC (.int 2305843009213693951))) (Qm.eC (.int 48271))) (Qm.eC (.int 2305843009213693921))))
      (Qm.sSeq (Qm.sSet 7 (Qm.e2 Qm.gMul (Qm.e2 Qm.gFdiv (Qm.eV 4) (Qm.eC (.int 1024))) (Qm.e2 Qm.gAdd (Qm.e2 Qm.gAdd (Qm.e2 Qm.gMod (Qm.eV 4) (Qm.eC (.int 1000003))) (Qm.e2 Qm.gMul (Qm.eC (.int 7919)) (Qm.eV 6))) (Qm.eC (.int 1)))))
      (Qm.sSet 5 (Qm.e2 Qm.gAdd (Qm.e2 Qm.gMul (Qm.eV 5) (Qm.e2 Qm.gPow (Qm.eC (.int 2)) (Qm.eC (.int 40)))) (Qm.e2 Qm.gMod (Qm.eV 7) (Qm.e2 Qm.gPow (Qm.eC (.int 2)) (Qm.eC (.int 40)))))))))
      (Qm.sRet (Qm.eLst (Qm.aCons (Qm.eV 3) (Qm.aCons (Qm.eV 5) Qm.aNil))))))))))
noncomputable def F_law_pool : Qm.FN := Qm.mkF 2 8 B_law_pool
noncomputable def B_law_digit : Qm.XS := (Qm.sSeq (Qm.sSet 2 (Qm.eB Qm.bInt (Qm.aCons (Qm.e2 Qm.gEq (Qm.e2 Qm.gIx (Qm.eV 0) (Qm.eC (.int 0))) (Qm.eC (.int 0))) Qm.aNil)))
      (Qm.sSeq (Qm.sSet 3 (Qm.e2 Qm.gMod (Qm.e2 Qm.gIx (Qm.eV 0) (Qm.eV 2)) (Qm.eV 1)))
      (Qm.sSeq (Qm.sAsg (Qm.e2 Qm.gFdiv (Qm.e2 Qm.gIx (Qm.eV 0) (Qm.eV 2)) (Qm.eV 1)) (Qm.gPut (Qm.eV 0) (Qm.eV 2)))
      (Qm.sRet (Qm.eV 3)))))
noncomputable def F_law_digit : Qm.FN := Qm.mkF 2 4 B_law_digit
noncomputable def B_law_lowest : Qm.XS := (Qm.sSeq (Qm.sPar [3, 4] (Qm.aCons (Qm.eV 2) (Qm.aCons (Qm.eB Qm.bAbs (Qm.aCons (Qm.eV 0) Qm.aNil)) Qm.aNil)))
      (Qm.sSeq (Qm.sWhile (Qm.tV (Qm.e2 Qm.gGt (Qm.eV 4) (Qm.eC (.int 0)))) (Qm.sPar [3, 4] (Qm.aCons (Qm.eV 4) (Qm.aCons (Qm.e2 Qm.gMod (Qm.eV 3) (Qm.eV 4)) Qm.aNil))))
      (Qm.sSeq (Qm.sSet 4 (Qm.eB Qm.bAbs (Qm.aCons (Qm.eV 1) Qm.aNil)))
      (Qm.sSeq (Qm.sWhile (Qm.tV (Qm.e2 Qm.gGt (Qm.eV 4) (Qm.eC (.int 0)))) (Qm.sPar [3, 4] (Qm.aCons (Qm.eV 4) (Qm.aCons (Qm.e2 Qm.gMod (Qm.eV 3) (Qm.eV 4)) Qm.aNil))))
      (Qm.sRet (Qm.eTup (Qm.aCons (Qm.e2 Qm.gFdiv (Qm.eV 0) (Qm.eV 3)) (Qm.aCons (Qm.e2 Qm.gFdiv (Qm.eV 1) (Qm.eV 3)) (Qm.aCons (Qm.e2 Qm.gFdiv (Qm.eV 2) (Qm.eV 3)) Qm.aNil)))))))))
noncomputable def F_law_lowest : Qm.FN := Qm.mkF 3 5 B_law_lowest
noncomputable def B_law_place : Qm.XS := (Qm.sSeq (Qm.sIf (Qm.tV (Qm.e2 Qm.gEq (Qm.eCall F_law_digit [] (Qm.aCons (Qm.eV 0) (Qm.aCons (Qm.eC (.int 2)) Qm.aNil))) (Qm.eC (.int 0))))
      (Qm.sSeq (Qm.sSet 1 (Qm.e2 Qm.gAdd (Qm.eC (.int 1)) (Qm.eCall F_law_digit [] (Qm.aCons (Qm.eV 0) (Qm.aCons (Qm.eC (.int 999)) Qm.aNil)))))
      (Qm.sRet (Qm.eCall F_law_lowest [] (Qm.aCons (Qm.e2 Qm.gSub (Qm.eCall F_law_digit [] (Qm.aCons (Qm.eV 0) (Qm.aCons (Qm.eC (.int 1999999)) Qm.aNil))) (Qm.eC (.int 999999))) (Qm.aCons (Qm.e2 Qm.gSub (Qm.eCall F_law_digit [] (Qm.aCons (Qm.eV 0) (Qm.aCons (Qm.eC (.int 1999999)) Qm.aNil))) (Qm.eC (.int 999999))) (Qm.aCons (Qm.eV 1) Qm.aNil))))))
      Qm.sNil)
      (Qm.sSeq (Qm.sSet 1 (Qm.e2 Qm.gAdd (Qm.eC (.int 1)) (Qm.eCall F_law_digit [] (Qm.aCons (Qm.eV 0) (Qm.aCons (Qm.eC (.int 3)) Qm.aNil)))))
      (Qm.sRet (Qm.eCall F_law_lowest [] (Qm.aCons (Qm.e2 Qm.gSub (Qm.eCall F_law_digit [] (Qm.aCons (Qm.eV 0) (Qm.aCons (Qm.eC (.int 9)) Qm.aNil))) (Qm.eC (.int 4))) (Qm.aCons (Qm.e2 Qm.gSub (Qm.eCall F_law_digit [] (Qm.aCons (Qm.eV 0) (Qm.aCons (Qm.eC (.int 9)) Qm.aNil))) (Qm.eC (.int 4))) (Qm.aCons (Qm.eV 1) Qm.aNil)))))))
noncomputable def F_law_place : Qm.FN := Qm.mkF 1 2 B_law_place
noncomputable def B_law_by : Qm.XS := (Qm.sSeq (Qm.sSet 1 (Qm.e2 Qm.gIx (Qm.eLst (Qm.aCons (Qm.eC (.int 1)) (Qm.aCons (Qm.eC (.int 9)) (Qm.aCons (Qm.e2 Qm.gPow (Qm.eC (.int 10)) (Qm.eC (.int 6))) (Qm.aCons (Qm.e2 Qm.gPow (Qm.eC (.int 10)) (Qm.eC (.int 18))) Qm.aNil))))) (Qm.eCall F_law_digit [] (Qm.aCons (Qm.eV 0) (Qm.aCons (Qm.eC (.int 4)) Qm.aNil)))))
      (Qm.sRet (Qm.eLst (Qm.aCons (Qm.e2 Qm.gSub (Qm.eCall F_law_digit [] (Qm.aCons (Qm.eV 0) (Qm.aCons (Qm.e2 Qm.gMul (Qm.eC (.int 2)) (Qm.eV 1)) Qm.aNil))) (Qm.eV 1)) (Qm.aCons (Qm.e2 Qm.gSub (Qm.eCall F_law_digit [] (Qm.aCons (Qm.eV 0) (Qm.aCons (Qm.e2 Qm.gMul (Qm.eC (.int 2)) (Qm.eV 1)) Qm.aNil))) (Qm.eV 1)) Qm.aNil)))))
noncomputable def F_law_by : Qm.FN := Qm.mkF 1 2 B_law_by
noncomputable def B_law_moved : Qm.XS := (Qm.sRet (Qm.eTup (Qm.aCons (Qm.e2 Qm.gAdd (Qm.e2 Qm.gIx (Qm.eV 0) (Qm.eC (.int 0))) (Qm.e2 Qm.gMul (Qm.e2 Qm.gIx (Qm.eV 1) (Qm.eC (.int 0))) (Qm.e2 Qm.gIx (Qm.eV 0) (Qm.eC (.int 2))))) (Qm.aCons (Qm.e2 Qm.gAdd (Qm.e2 Qm.gIx (Qm.eV 0) (Qm.eC (.int 1))) (Qm.e2 Qm.gMul (Qm.e2 Qm.gIx (Qm.eV 1) (Qm.eC (.int 1))) (Qm.e2 Qm.gIx (Qm.eV 0) (Qm.eC (.int 2))))) (Qm.aCons (Qm.e2 Qm.gIx (Qm.eV 0) (Qm.eC (.int 2))) Qm.aNil)))))
noncomputable def F_law_moved : Qm.FN := Qm.mkF 2 2 B_law_moved
noncomputable def B_law_way : Qm.XS := (Qm.sRet (Qm.eTup (Qm.aCons (Qm.e2 Qm.gSub (Qm.e2 Qm.gMul (Qm.e2 Qm.gIx (Qm.eV 1) (Qm.eC (.int 0))) (Qm.e2 Qm.gIx (Qm.eV 0) (Qm.eC (.int 2)))) (Qm.e2 Qm.gMul (Qm.e2 Qm.gIx (Qm.eV 0) (Qm.eC (.int 0))) (Qm.e2 Qm.gIx (Qm.eV 1) (Qm.eC (.int 2))))) (Qm.aCons (Qm.e2 Qm.gSub (Qm.e2 Qm.gMul (Qm.e2 Qm.gIx (Qm.eV 1) (Qm.eC (.int 1))) (Qm.e2 Qm.gIx (Qm.eV 0) (Qm.eC (.int 2)))) (Qm.e2 Qm.gMul (Qm.e2 Qm.gIx (Qm.eV 0) (Qm.eC (.int 1))) (Qm.e2 Qm.gIx (Qm.eV 1) (Qm.eC (.int 2))))) Qm.aNil))))
noncomputable def F_law_way : Qm.FN := Qm.mkF 2 2 B_law_way
noncomputable def B_law_behind : Qm.XS := (Qm.sSeq (Qm.sSet 2 (Qm.eOr (Qm.e2 Qm.gGt (Qm.e2 Qm.gIx (Qm.eV 0) (Qm.eC (.int 1))) (Qm.eC (.int 0))) (Qm.eAnd (Qm.e2 Qm.gEq (Qm.e2 Qm.gIx (Qm.eV 0) (Qm.eC (.int 1))) (Qm.eC (.int 0))) (Qm.e2 Qm.gGt (Qm.e2 Qm.gIx (Qm.eV 0) (Qm.eC (.int 0))) (Qm.eC (.int 0))))))
      (Qm.sSeq (Qm.sSet 3 (Qm.eOr (Qm.e2 Qm.gGt (Qm.e2 Qm.gIx (Qm.eV 1) (Qm.eC (.int 1))) (Qm.eC (.int 0))) (Qm.eAnd (Qm.e2 Qm.gEq (Qm.e2 Qm.gIx (Qm.eV 1) (Qm.eC (.int 1))) (Qm.eC (.int 0))) (Qm.e2 Qm.gGt (Qm.e2 Qm.gIx (Qm.eV 1) (Qm.eC (.int 0))) (Qm.eC (.int 0))))))
      (Qm.sSeq (Qm.sIf (Qm.tV (Qm.e2 Qm.gNe (Qm.eV 2) (Qm.eV 3)))
      (Qm.sRet (Qm.eV 3))
      Qm.sNil)
      (Qm.sRet (Qm.e2 Qm.gGt (Qm.e2 Qm.gSub (Qm.e2 Qm.gMul (Qm.e2 Qm.gIx (Qm.eV 1) (Qm.eC (.int 0))) (Qm.e2 Qm.gIx (Qm.eV 0) (Qm.eC (.int 1)))) (Qm.e2 Qm.gMul (Qm.e2 Qm.gIx (Qm.eV 1) (Qm.eC (.int 1))) (Qm.e2 Qm.gIx (Qm.eV 0) (Qm.eC (.int 0))))) (Qm.eC (.int 0)))))))
noncomputable def F_law_behind : Qm.FN := Qm.mkF 2 4 B_law_behind
noncomputable def B_law_same_way : Qm.XS := (Qm.sRet (Qm.eAnd (Qm.e2 Qm.gEq (Qm.e2 Qm.gMul (Qm.e2 Qm.gIx (Qm.eV 0) (Qm.eC (.int 0))) (Qm.e2 Qm.gIx (Qm.eV 1) (Qm.eC (.int 1)))) (Qm.e2 Qm.gMul (Qm.e2 Qm.gIx (Qm.eV 0) (Qm.eC (.int 1))) (Qm.e2 Qm.gIx (Qm.eV 1) (Qm.eC (.int 0))))) (Qm.e2 Qm.gGt (Qm.e2 Qm.gAdd (Qm.e2 Qm.gMul (Qm.e2 Qm.gIx (Qm.eV 0) (Qm.eC (.int 0))) (Qm.e2 Qm.gIx (Qm.eV 1) (Qm.eC (.int 0)))) (Qm.e2 Qm.gMul (Qm.e2 Qm.gIx (Qm.eV 0) (Qm.eC (.int 1))) (Qm.e2 Qm.gIx (Qm.eV 1) (Qm.eC (.int 1))))) (Qm.eC (.int 0)))))
noncomputable def F_law_same_way : Qm.FN := Qm.mkF 2 2 B_law_same_way
noncomputable def B_law (lt : Qm.LamT) : Qm.XS := (Qm.sSeq (Qm.sSet 1 (Qm.eCall F_law_by [] (Qm.aCons (Qm.eCall F_law_pool [] (Qm.aCons (Qm.eV 0) (Qm.aCons (Qm.eC (.int 40)) Qm.aNil))) Qm.aNil)))
      (Qm.sSeq (Qm.sSet 2 (Qm.eCall F_law_moved [] (Qm.aCons (Qm.eCall F_law_place [] (Qm.aCons (Qm.eCall F_law_pool [] (Qm.aCons (Qm.eV 0) (Qm.aCons (Qm.eC (.int 1)) Qm.aNil))) Qm.aNil)) (Qm.aCons (Qm.eV 1) Qm.aNil))))
      (Qm.sSeq (Qm.sSet 3 (Qm.eLst Qm.aNil))
      (Qm.sSeq (Qm.sFor (Qm.iRng1 (Qm.aCons (Qm.eCall F_law_digit [] (Qm.aCons (Qm.eCall F_law_pool [] (Qm.aCons (Qm.eV 0) (Qm.aCons (Qm.eC (.int 2)) Qm.aNil))) (Qm.aCons (Qm.eC (.int 31)) Qm.aNil))) Qm.aNil)) (Qm.gName 4)
      (Qm.sSeq (Qm.sSet 5 (Qm.eCall F_law_moved [] (Qm.aCons (Qm.eCall F_law_place [] (Qm.aCons (Qm.eCall F_law_pool [] (Qm.aCons (Qm.eV 0) (Qm.aCons (Qm.e2 Qm.gAdd (Qm.eC (.int 3)) (Qm.eV 4)) Qm.aNil))) Qm.aNil)) (Qm.aCons (Qm.eV 1) Qm.aNil))))
      (Qm.sSeq (Qm.sSet 6 (Qm.eCall F_law_way [] (Qm.aCons (Qm.eV 2) (Qm.aCons (Qm.eV 5) Qm.aNil))))
      (Qm.sIf (Qm.tAnd (Qm.tV (Qm.e2 Qm.gNe (Qm.eV 6) (Qm.eTup (Qm.aCons (Qm.eC (.int 0)) (Qm.aCons (Qm.eC (.int 0)) Qm.aNil))))) (Qm.tNot (Qm.tV (Qm.eB Qm.bAny (Qm.aCons (Qm.eComp (Qm.iLst (Qm.eV 3)) [none, some 6, some 2] (Qm.gName 0) Qm.tYes (Qm.eCall F_law_same_way [] (Qm.aCons (Qm.eV 1) (Qm.aCons (Qm.eCall F_law_way [] (Qm.aCons (Qm.eV 2) (Qm.aCons (Qm.eV 0) Qm.aNil))) Qm.aNil)))) Qm.aNil)))))
      (Qm.sExpr (Qm.eM Qm.mAppend (Qm.eV 3) (Qm.aCons (Qm.eV 5) Qm.aNil)))
      Qm.sNil))))
      (Qm.sSeq (Qm.sSet 7 (Qm.eB Qm.bList (Qm.aCons (Qm.eV 3) Qm.aNil)))
      (Qm.sSeq (Qm.sSet 8 (Qm.eCall (F_round_about lt) [] (Qm.aCons (Qm.eV 2) (Qm.aCons (Qm.eV 7) Qm.aNil))))
      (Qm.sSeq (Qm.sIf (Qm.tOr (Qm.tNot (Qm.tV (Qm.eB Qm.bIsinst (Qm.aCons (Qm.eV 8) (Qm.aCons (Qm.eC (.ty "list")) Qm.aNil))))) (Qm.tOr (Qm.tV (Qm.e2 Qm.gNeW (Qm.eB Qm.bSortT (Qm.aCons (Qm.eV 8) Qm.aNil)) (Qm.eB Qm.bSortT (Qm.aCons (Qm.eV 3) Qm.aNil)))) (Qm.tV (Qm.e2 Qm.gNeW (Qm.eV 7) (Qm.eV 3)))))
      (Qm.sRet (Qm.eC (.bl false)))
      Qm.sNil)
      (Qm.sSeq (Qm.sFor (Qm.iRng1 (Qm.aCons (Qm.eB Qm.bLen (Qm.aCons (Qm.eV 8) Qm.aNil)) Qm.aNil)) (Qm.gName 4)
      (Qm.sFor (Qm.iRng1 (Qm.aCons (Qm.eV 4) Qm.aNil)) (Qm.gName 9)
      (Qm.sIf (Qm.tNot (Qm.tV (Qm.eCall F_law_behind [] (Qm.aCons (Qm.eCall F_law_way [] (Qm.aCons (Qm.eV 2) (Qm.aCons (Qm.e2 Qm.gIx (Qm.eV 8) (Qm.eV 4)) Qm.aNil))) (Qm.aCons (Qm.eCall F_law_way [] (Qm.aCons (Qm.eV 2) (Qm.aCons (Qm.e2 Qm.gIx (Qm.eV 8) (Qm.eV 9)) Qm.aNil))) Qm.aNil)))))
      (Qm.sRet (Qm.eC (.bl false)))
      Qm.sNil)))
      (Qm.sSeq (Qm.sSet 10 (Qm.eB Qm.bList (Qm.aCons (Qm.eV 8) Qm.aNil)))
      (Qm.sSeq (Qm.sExpr (Qm.eM Qm.mClear (Qm.eV 8) Qm.aNil))
      (Qm.sRet (Qm.eAnd (Qm.e2 Qm.gEqW (Qm.eCall (F_round_about lt) [] (Qm.aCons (Qm.eV 2) (Qm.aCons (Qm.eB Qm.bListRev (Qm.aCons (Qm.eV 3) Qm.aNil)) Qm.aNil))) (Qm.eV 10)) (Qm.e2 Qm.gEqW (Qm.eCall (F_round_about lt) [] (Qm.aCons (Qm.eV 2) (Qm.aCons (Qm.eV 7) Qm.aNil))) (Qm.eV 10))))))))))))))
noncomputable def F_law (lt : Qm.LamT) : Qm.FN := Qm.mkF 1 11 (B_law lt)
end Law
namespace Law
open PySem Qm PyProof.Rows
local macro_rules | `(tactic| walk_at "bd") => `(tactic| first | assumption | ((with_reducible show My.Bd _ (_ * _)); refine' My.Bd.mul ?_ ?_ <;> walk_at "bd") | ((with_reducible show My.Bd _ (_ + _)); refine' My.Bd.add ?_ ?_ <;> walk_at "bd") | ((with_reducible show My.Bd _ (_ - _)); refine' My.Bd.sub ?_ ?_ <;> walk_at "bd") | ((with_reducible show My.Bd _ (- _)); refine' My.Bd.neg ?_ <;> walk_at "bd") | (refine' bd64 ?_; omega))
local macro_rules | `(tactic| walk_at "bdm") => `(tactic| first | assumption | (refine' My.Bd.mono ?b1 ?b2; (case b1 => walk_at "bd"); (case b2 => decide)))
local macro_rules | `(tactic| walk_at "mo") => `(tactic| first | (refine mulL ?_; omega) | (refine mulR ?_; omega) | (refine mulB ?_ ?_ <;> walk_at "bdm"))
local macro_rules | `(tactic| walk_at "dis") => `(tactic| first | assumption | omega | walk_at "mo" | walk_at "bdm")
local macro_rules | `(tactic| erw [$[$t:term],*]) => `(tactic| simp (disch := walk_at "dis") only [mkF_, sSeq_, sSet_, sAsg_, sPar_, sIf_, sRet_, sExpr_, sNil_, eC_, eV_, e1_, e2_, asB_, asI_, eAnd_, eOr_, eNot_, eIf_, aNil_, aCons_, eTup_, eLst_, eCall_, eB_, eM_, oNone_, eSl_, tV_, tAnd_, tOr_, tNot_, tYes_, eChain_, gName_, gNil_, gCons_, gTup_, sq_nx, sq_rt, fin_rt, fin_nx, gSub_, gAdd_, gLt_, gLe_, gGt_, gGe_, gNeg_, gMul_, gFdiv_, gMod_, gEq_int, gNe_int, gEq_bl, gNe_bl, seqOf_tup, gIx_tup, atD_0, atD_1, atD_2, bAbs_, bInt_bl, bMax2_, bMin2_, line1, line2, line3, line4, line5, line6, line7, line8, List.getElem?_cons_succ, List.getElem?_cons_zero, Option.join_some, Option.join_none, Option.bind_some, Option.bind_none, List.set_cons_succ, List.set_cons_zero, List.map_cons, List.map_nil, List.length_cons, List.length_nil, List.append_nil, List.nil_append, List.cons_append, List.replicate_succ, List.replicate_zero, Nat.reduceAdd, Nat.reduceSub, Nat.reduceEqDiff, if_true, if_false, Bool.false_eq_true, decide_true, decide_false, Bool.not_true, Bool.not_false, eq_self_iff_true, reduceIte, List.zip_cons_cons, List.zip_nil_right, List.zip_nil_left, List.foldl_cons, List.foldl_nil, Int.reduceLT, Int.reduceEq, Int.reduceLE, $[$t:term],*])
theorem get_lt {i : Nat} {c : Cells} {z : Cell} (h : c[i]? = some z) : i < c.length := (List.getElem?_eq_some_iff.mp h).1
theorem get_app {i : Nat} {c zs : Cells} {z : Cell} (h : c[i]? = some z) : (c ++ zs)[i]? = some z := by rw [List.getElem?_append_left (get_lt h)]; exact h
theorem pre_get {c c' : Cells} {i : Nat} {z : Cell} (h : c <+: c') (e : c[i]? = some z) : c'[i]? = some z := by
  obtain ⟨zs, rfl⟩ := h
  exact get_app e
theorem pre_len {c c' : Cells} (h : c <+: c') : c.length ≤ c'.length := h.length_le
theorem pre_set {c c' : Cells} {n : Nat} {z : Cell} (h : c <+: c') (hn : c.length ≤ n) : c <+: c'.set n z := by
  obtain ⟨zs, rfl⟩ := h
  refine ⟨zs.set (n - c.length) z, ?_⟩
  rw [List.set_append_right _ _ hn]
theorem pre_app {c c' zs : Cells} (h : c <+: c') : c <+: c' ++ zs := h.trans ⟨zs, rfl⟩
theorem set_ne {c : Cells} {n i : Nat} {z y : Cell} (h : c[i]? = some y) (hn : i ≠ n) : (c.set n z)[i]? = some y := by rw [List.getElem?_set, if_neg (Ne.symm hn)]; exact h
theorem set_eq {c : Cells} {n : Nat} {z : Cell} (h : n < c.length) : (c.set n z)[n]? = some z := by rw [List.getElem?_set, if_pos rfl, if_pos h]
theorem sFor_ {it : XI} {g : XG} {b : XS} {σ : Qm.Env} {c c1 : Cells} {I : Itm} (h : it σ c = some (I, c1)) : sFor it g b σ c = forGo I.ks g b I.ds σ c1 := by
  unfold sFor
  rw [h]
  rfl
theorem iLst' {a : XE} {σ : Qm.Env} {c : Cells} {m : Nat} {xs : List D} (ha : a σ c = some (.ref m, c)) (h : c[m]? = some (.lst xs)) : iLst a σ c = some (⟨xs, [(m, .lst xs)]⟩, c) := by
  unfold iLst
  rw [ha]
  simp [h, seqOf_lst h]
theorem oSome_ {a : XE} {σ : Qm.Env} {c : Cells} : oSome a σ c = (a σ c).bind fun p => (asI p.1).bind fun i => some (some i, p.2) := by
  unfold oSome
  cases a σ c with
  | none => rfl
  | some p => obtain ⟨d, c⟩ := p; cases d <;> rfl
def Fr (L : Nat) (c c' : Cells) : Prop := ∀ j z, j ≠ L → c[j]? = some z → c'[j]? = some z
theorem Fr.app {L : Nat} {c zs : Cells} : Fr L c (c ++ zs) := fun _ _ _ e => get_app e
theorem Fr.set {L : Nat} {c : Cells} {z : Cell} : Fr L c (c.set L z) := fun _ _ h e => set_ne e h
theorem compR_go {ks : List (Nat × Cell)} {g : XG} {te : XE} {E : Qm.Env → Prop} {Rel : Nat → D → Cells → Prop} {I : Nat → Cells → Prop} {c : Cells} (hs : stays ks c) (hI : ∀ i u z, I i u → I i (u.set c.length z)) (hR : ∀ i v c1 c2, Rel i v c1 → Fr c.length c1 c2 → Rel i v c2) : ∀ (ds acc : List D) (zs : List Cell) (τ : Qm.Env) (k : Nat), k = acc.length → E τ → I k (c ++ .lst acc :: zs) →
    (∀ (i : Nat) d, ds[i]? = some d → ∀ τ c', E τ → c <+: c' → c.length < c'.length → I (k + i) c' → ∃ τ' v ws, g d τ c' = some (τ', c') ∧ te τ' c' = some (v, c' ++ ws) ∧ E τ' ∧ Rel (k + i) v (c' ++ ws) ∧ I (k + i + 1) (c' ++ ws)) → acc.length + ds.length ≤ 9000000 → (∀ i v, acc[i]? = some v → Rel i v (c ++ .lst acc :: zs)) →
    ∃ vs zs', compGo c.length ks g tYes te ds τ (c ++ .lst acc :: zs) = some (c ++ .lst (acc ++ vs) :: zs') ∧ vs.length = ds.length ∧ ∀ i v, (acc ++ vs)[i]? = some v → Rel i v (c ++ .lst (acc ++ vs) :: zs')
  | [], acc, zs, τ, k, _, _, _, _, _, ha => by
    have st : stays ks (c ++ .lst acc :: zs) := fun p hp => pre_get ⟨_, rfl⟩ (hs p hp)
    refine ⟨[], zs, ?_, rfl, by simpa using ha⟩
    unfold compGo
    rw [if_pos st]
    simp
  | d :: ds, acc, zs, τ, k, hk, hE, hi0, hv, hn, ha => by
    have st : stays ks (c ++ .lst acc :: zs) := fun p hp => pre_get ⟨_, rfl⟩ (hs p hp)
    rw [List.length_cons] at hn
    obtain ⟨τ', v, ws, f1, f2, hE', hr, hi1⟩ := hv 0 d rfl τ (c ++ .lst acc :: zs) hE ⟨_, rfl⟩ (by simp) (by simpa using hi0)
    have f3 : (c ++ .lst acc :: zs ++ ws)[c.length]? = some (.lst acc) := by simp
    have f4 : (c ++ .lst acc :: zs ++ ws).set c.length (.lst (acc ++ [v])) = c ++ .lst (acc ++ [v]) :: (zs ++ ws) := by simp
    have fr : Fr c.length (c ++ .lst acc :: zs ++ ws) (c ++ .lst (acc ++ [v]) :: (zs ++ ws)) := by rw [← f4]; exact Fr.set
    obtain ⟨vs, zs', f5, f6, f7⟩ := compR_go hs hI hR ds (acc ++ [v]) (zs ++ ws) τ' (k + 1) (by simp [hk]) hE' (by rw [← f4]; exact hI _ _ _ (by simpa using hi1)) (fun i d' h1 => by
      have := hv (i + 1) d' (by simpa using h1)
      rwa [show k + (i + 1) = k + 1 + i by omega] at this) (by simp only [List.length_append, List.length_cons, List.length_nil]; omega) (fun i u hu => by
      rcases Nat.lt_or_ge i acc.length with hi | hi
      · rw [List.getElem?_append_left hi] at hu
        exact hR _ _ _ _ (hR _ _ _ _ (ha i u hu) Fr.app) fr
      · have : i = acc.length := by
          have := (List.getElem?_eq_some_iff.mp hu).1
          simp at this
          omega
        subst this
        rw [List.getElem?_append_right (Nat.le_refl _), Nat.sub_self] at hu
        cases hu
        rw [← hk]
        exact hR _ _ _ _ (by simpa using hr) fr)
    refine ⟨v :: vs, zs', ?_, by simp [f6], by simpa using f7⟩
    unfold compGo
    rw [if_pos st]
    have f0 : tYes τ' (c ++ .lst acc :: zs) = some (true, c ++ .lst acc :: zs) := rfl
    simp only [f1, Option.bind_some, f0, if_true, f2, f3, f4]
    rw [if_pos (show acc.length < LINE by rw [LINE_eq]; omega), f5]
    simp
theorem compI {it : XI} {cap : List (Option Nat)} {g : XG} {te : XE} {σ : Qm.Env} {c0 c : Cells} {ds : List D} {ks : List (Nat × Cell)} (E : Qm.Env → Prop) (Rel : Nat → D → Cells → Prop) (I : Nat → Cells → Prop) (hI : ∀ i u z, I i u → I i (u.set c.length z)) (hI0 : I 0 (c ++ [.lst []])) (hi : it σ c0 = some (⟨ds, ks⟩, c)) (hs : stays ks c) (hE : E (capt σ cap)) (hR : ∀ i v c1 c2, Rel i v c1 → Fr c.length c1 c2 → Rel i v c2)
    (hv : ∀ (i : Nat) d, ds[i]? = some d → ∀ τ c', E τ → c <+: c' → c.length < c'.length → I i c' → ∃ τ' v ws, g d τ c' = some (τ', c') ∧ te τ' c' = some (v, c' ++ ws) ∧ E τ' ∧ Rel i v (c' ++ ws) ∧ I (i + 1) (c' ++ ws)) (hn : ds.length ≤ 9000000) :
    ∃ vs c', eComp it cap g tYes te σ c0 = some (.ref c.length, c') ∧ c <+: c' ∧ c'[c.length]? = some (.lst vs) ∧ vs.length = ds.length ∧ ∀ i v, vs[i]? = some v → Rel i v c' := by
  obtain ⟨vs, zs, e, e2, e3⟩ := compR_go (te := te) (g := g) (E := E) (Rel := Rel) (I := I) (ks := ks) (c := c) hs hI hR ds [] [] (capt σ cap) 0 rfl hE hI0 (fun i d h => by rw [Nat.zero_add]; exact hv i d h) (by simp; omega) (fun i v h => by cases h)
  refine ⟨vs, c ++ .lst vs :: zs, ?_, ⟨_, rfl⟩, by simp, e2, by simpa using e3⟩
  unfold eComp
  rw [hi, Option.bind_some]
  dsimp only
  rw [show c ++ [Cell.lst []] = c ++ .lst [] :: [] from rfl, e]
  rfl
theorem compR {it : XI} {cap : List (Option Nat)} {g : XG} {te : XE} {σ : Qm.Env} {c0 c : Cells} {ds : List D} {ks : List (Nat × Cell)} (E : Qm.Env → Prop) (Rel : Nat → D → Cells → Prop) (hi : it σ c0 = some (⟨ds, ks⟩, c)) (hs : stays ks c) (hE : E (capt σ cap)) (hR : ∀ i v c1 c2, Rel i v c1 → Fr c.length c1 c2 → Rel i v c2)
    (hv : ∀ (i : Nat) d, ds[i]? = some d → ∀ τ c', E τ → c <+: c' → c.length < c'.length → ∃ τ' v ws, g d τ c' = some (τ', c') ∧ te τ' c' = some (v, c' ++ ws) ∧ E τ' ∧ Rel i v (c' ++ ws)) (hn : ds.length ≤ 9000000) :
    ∃ vs c', eComp it cap g tYes te σ c0 = some (.ref c.length, c') ∧ c <+: c' ∧ c'[c.length]? = some (.lst vs) ∧ vs.length = ds.length ∧ ∀ i v, vs[i]? = some v → Rel i v c' :=
  compI E Rel (fun _ _ => True) (fun _ _ _ _ => trivial) trivial hi hs hE hR (fun i d h τ c' h1 h2 h3 _ => let ⟨a, b, d, e, f, g, h⟩ := hv i d h τ c' h1 h2 h3; ⟨a, b, d, e, f, g, h, trivial⟩) hn
section
variable {α : Type} (lt : α → α → Bool)
def mrg : List α → List α → List α
  | l, [] => l
  | l, y :: r => l.takeWhile (fun x => !lt y x) ++ y :: mrg (l.dropWhile fun x => !lt y x) r
def chn : List α → Prop
  | x :: y :: l => lt y x = false ∧ chn (y :: l)
  | _ => True
variable {lt}
theorem mrg_perm : ∀ (r l : List α), (mrg lt l r).Perm (l ++ r)
  | [], l => by simp [mrg]
  | y :: r, l => by
    have h := mrg_perm r (l.dropWhile fun x => !lt y x)
    have e : l ++ y :: r = l.takeWhile (fun x => !lt y x) ++ (l.dropWhile (fun x => !lt y x) ++ y :: r) := by rw [← List.append_assoc, List.takeWhile_append_dropWhile]
    rw [e]
    refine List.Perm.append_left _ ?_
    exact (List.Perm.cons y h).trans List.perm_middle.symm
theorem chn_tail {x : α} {l : List α} (h : chn lt (x :: l)) : chn lt l := by
  cases l with
  | nil => trivial
  | cons y l => exact h.2
theorem chn_cons {x : α} {l : List α} (h : chn lt l) (h2 : ∀ y, l.head? = some y → lt y x = false) : chn lt (x :: l) := by
  cases l with
  | nil => trivial
  | cons y l => exact ⟨h2 y rfl, h⟩
theorem chn_app : ∀ {l m : List α}, chn lt l → chn lt m → (∀ x y, l.getLast? = some x → m.head? = some y → lt y x = false) → chn lt (l ++ m)
  | [], m, _, h, _ => h
  | [x], m, _, h, h2 => chn_cons h fun y hy => h2 x y rfl hy
  | x :: z :: l, m, h, hm, h2 => ⟨h.1, chn_app (l := z :: l) h.2 hm fun a b ha hb => h2 a b (by simpa using ha) hb⟩
theorem chn_take {p : α → Bool} : ∀ {l : List α}, chn lt l → chn lt (l.takeWhile p)
  | [], _ => trivial
  | x :: l, h => by
    rw [List.takeWhile_cons]
    split
    · refine chn_cons (chn_take (chn_tail h)) fun y hy => ?_
      cases l with
      | nil => cases hy
      | cons z l =>
        rw [List.takeWhile_cons] at hy
        split at hy
        · cases hy; exact h.1
        · cases hy
    · trivial
theorem chn_drop {p : α → Bool} : ∀ {l : List α}, chn lt l → chn lt (l.dropWhile p)
  | [], _ => trivial
  | x :: l, h => by
    rw [List.dropWhile_cons]
    split
    · exact chn_drop (chn_tail h)
    · exact h
theorem mrg_head : ∀ (r l : List α) {y : α}, (mrg lt l r).head? = some y → l.head? = some y ∨ r.head? = some y
  | [], l, y, h => .inl h
  | z :: r, l, y, h => by
    unfold mrg at h
    cases l with
    | nil => exact .inr h
    | cons x l =>
      rw [List.takeWhile_cons] at h
      split at h
      · exact .inl h
      · exact .inr h
theorem take_mem {p : α → Bool} : ∀ {l : List α} {x : α}, x ∈ l.takeWhile p → p x = true
  | [], x, h => by cases h
  | z :: l, x, h => by
    rw [List.takeWhile_cons] at h
    split at h
    · rename_i hz
      rcases List.mem_cons.mp h with rfl | h
      · exact hz
      · exact take_mem h
    · cases h
theorem take_last {p : α → Bool} {l : List α} {x : α} (h : (l.takeWhile p).getLast? = some x) : p x = true := take_mem (List.mem_of_getLast? h)
theorem drop_head {p : α → Bool} : ∀ {l : List α} {x : α}, (l.dropWhile p).head? = some x → p x = false
  | [], x, h => by cases h
  | z :: l, x, h => by
    rw [List.dropWhile_cons] at h
    split at h
    · exact drop_head h
    · rename_i hz
      cases h
      simpa using hz
theorem mrg_chn (as_ : ∀ x y, lt x y = true → lt y x = false) : ∀ (r l : List α), chn lt l → chn lt r → chn lt (mrg lt l r)
  | [], l, h, _ => h
  | y :: r, l, h, hr => by
    unfold mrg
    refine chn_app (chn_take h) (chn_cons (mrg_chn as_ r _ (chn_drop h) (chn_tail hr)) fun z hz => ?_) fun a b ha hb => ?_
    · rcases mrg_head r _ hz with hz | hz
      · have := drop_head hz
        exact as_ y z (by simpa using this)
      · cases r with
        | nil => cases hz
        | cons z' r => cases hz; exact hr.1
    · cases hb
      have := take_last ha
      simpa using this
theorem chn_pair (tr : ∀ x y z, lt y x = false → lt z y = false → lt z x = false) : ∀ {l : List α}, chn lt l → l.Pairwise fun x y => lt y x = false
  | [], _ => .nil
  | x :: l, h => by
    have ih := chn_pair tr (chn_tail h)
    refine List.pairwise_cons.mpr ⟨fun y hy => ?_, ih⟩
    cases l with
    | nil => cases hy
    | cons z l =>
      rcases List.mem_cons.mp hy with rfl | hy
      · exact h.1
      · exact tr x z y h.1 ((List.pairwise_cons.mp ih).1 y hy)
end
section
variable {α : Type} {e : α → D} {lt : α → α → Bool} {L0 : LamT} {bs : List D} {F : FN}
structure Look (L0 : LamT) (bs : List D) (e : α → D) (lt : α → α → Bool) (ok : α → Prop) : Prop where
  at_ : ∃ F, F = F_lam0 ∧ ∀ x y c, ok x → ok y → F (e x :: e y :: bs) c = some (.bl (lt x y), c)
theorem at_map {e : α → D} {l : List α} {k : Nat} {x : α} (h : l[k]? = some x) : atD (l.map e) (k : Int) = some (e x) := atD_nat (by rw [List.getElem?_map, h]; rfl)
theorem lenD {e : α → D} {a : Nat} {l : List α} {c : Cells} (h : c[a]? = some (.lst (l.map e))) : bLen [.ref a] c = some (.int l.length, c) := by
  rw [bLen_, seqOf_lst h]
  simp
theorem appD {e : α → D} {a : Nat} {l : List α} {x : α} {c : Cells} (h : c[a]? = some (.lst (l.map e))) (hn : l.length < 9000000) : mAppend (.ref a) [e x] c = some (.non, c.set a (.lst ((l ++ [x]).map e))) := by
  unfold mAppend one
  simp only [lstOf_lst h, Option.bind_some, List.length_map]
  rw [if_pos (show l.length < LINE by rw [LINE_eq]; omega)]
  simp
theorem last_set {c : Cells} {z y : Cell} : (c ++ [z]).set c.length y = c ++ [y] := by simp
theorem last_get {c : Cells} {z : Cell} : (c ++ [z])[c.length]? = some z := by simp
noncomputable abbrev wT (L0 : LamT) : XT := tAnd (tV (e2 gLt (eV 4) (eB bLen (aCons (eV 0) aNil)))) (tNot (tV (eCallW [] [(L0, F_lam0)] (eV 2) (aCons (eV 5) (aCons (e2 gIx (eV 0) (eV 4)) aNil)))))
noncomputable abbrev wB : XS := sSeq (sExpr (eM mAppend (eV 3) (aCons (e2 gIx (eV 0) (eV 4)) aNil))) (sSet 4 (e2 gAdd (eV 4) (eC (.int 1))))
theorem while_ {ok : α → Prop} (Lk : Look L0 bs e lt ok) {l : List α} {y : α} {a : Nat} {c : Cells} {w1 : Option D} (hok : ∀ x ∈ l, ok x) (hy : ok y) (ha : c[a]? = some (.lst (l.map e))) (hl : l.length ≤ 1000000) : ∀ (n k : Nat) (row : List α), l.length - k = n → k ≤ l.length → row.length ≤ 2000000 + k →
    sWhile (wT L0) wB [some (.ref a), w1, some (.clo L0 bs), some (.ref c.length), some (.int k), some (e y)] (c ++ [.lst (row.map e)]) = some (.nx, [some (.ref a), w1, some (.clo L0 bs), some (.ref c.length), some (.int (k + ((l.drop k).takeWhile fun x => !lt y x).length : Nat)), some (e y)], c ++ [.lst ((row ++ (l.drop k).takeWhile fun x => !lt y x).map e)]) := by
  obtain ⟨F, hF, hc⟩ := Lk.at_
  have ha2 : ∀ row : List α, (c ++ [.lst (row.map e)])[a]? = some (.lst (l.map e)) := fun row => get_app ha
  intro n
  induction n with
  | zero =>
    intro k row hk hle hr
    have hkl : k = l.length := by omega
    have b1 := lenD (ha2 row)
    have d0 : l.drop k = [] := List.drop_eq_nil_of_le (by omega)
    rw [d0]
    simp only [List.takeWhile_nil, List.length_nil, Nat.add_zero, List.append_nil]
    refine sWhile_stop ?_
    have hlt : decide ((k : Int) < (l.length : Int)) = false := decide_eq_false (by omega)
    erw [b1, hlt]
  | succ n ih =>
    intro k row hk hle hr
    have hkl : k < l.length := by omega
    have b1 := lenD (ha2 row)
    have hlt : decide ((k : Int) < (l.length : Int)) = true := decide_eq_true (by omega)
    obtain ⟨x, hx⟩ : ∃ x, l[k]? = some x := ⟨_, List.getElem?_eq_getElem hkl⟩
    have hxm : x ∈ l := List.mem_of_getElem? hx
    have d0 : l.drop k = x :: l.drop (k + 1) := by
      rw [List.drop_eq_getElem_cons hkl]
      rw [List.getElem?_eq_getElem hkl] at hx
      rw [Option.some.inj hx]
    have s1 := seqOf_lst (ha2 row)
    have a1 := at_map (e := e) hx
    have c1 := hc y x (c ++ [.lst (row.map e)]) hy (hok x hxm)
    have tst : wT L0 [some (.ref a), w1, some (.clo L0 bs), some (.ref c.length), some (.int k), some (e y)] (c ++ [.lst (row.map e)]) = some (!lt y x, c ++ [.lst (row.map e)]) := by
      have cv : eCallW [] [(L0, F_lam0)] (eV 2) (aCons (eV 5) (aCons (e2 gIx (eV 0) (eV 4)) aNil)) [some (.ref a), w1, some (.clo L0 bs), some (.ref c.length), some (.int k), some (e y)] (c ++ [.lst (row.map e)]) = some (.bl (lt y x), c ++ [.lst (row.map e)]) := by
        unfold eCallW
        have lo : lamOf [(L0, F_lam0)] L0 = some F_lam0 := by unfold lamOf; rw [if_pos rfl]
        subst hF
        erw [gIx_, s1, a1, lo, c1, List.cons_append, List.nil_append]
      erw [b1, hlt, cv]
    cases hxy : lt y x with
    | true =>
      rw [hxy] at tst
      rw [d0, List.takeWhile_cons]
      simp only [hxy, Bool.not_true, Bool.false_eq_true, if_false, List.length_nil, Nat.add_zero, List.append_nil]
      exact sWhile_stop tst
    | false =>
      rw [hxy] at tst
      rw [d0, List.takeWhile_cons]
      simp only [hxy, Bool.not_false, if_true, List.length_cons]
      have ap := appD (e := e) (x := x) (last_get (c := c) (z := .lst (row.map e))) (by omega)
      rw [last_set] at ap
      have bd : wB [some (.ref a), w1, some (.clo L0 bs), some (.ref c.length), some (.int k), some (e y)] (c ++ [.lst (row.map e)]) = some (.nx, [some (.ref a), w1, some (.clo L0 bs), some (.ref c.length), some (.int ((k + 1 : Nat) : Int)), some (e y)], c ++ [.lst ((row ++ [x]).map e)]) := by
        have s2 := lstOf_lst (last_get (c := c) (z := .lst (row.map e)))
        erw [gIx_, s1, a1, s2, ap]
        rfl
      have r := ih (k + 1) (row ++ [x]) (by omega) (by omega) (by simp; omega)
      rw [show k + 1 + ((l.drop (k + 1)).takeWhile fun x => !lt y x).length = k + (((l.drop (k + 1)).takeWhile fun x => !lt y x).length + 1) by omega, List.append_assoc] at r
      exact sWhile_go tst bd r
theorem cut_lo {e : α → D} {l : List α} {k : Nat} (h : k ≤ l.length) : Qm.cutD (l.map e) (some (k : Int)) none = (l.drop k).map e := by
  have h1 : Qm.sxD (l.map e).length 0 (some (k : Int)) = k := by
    show (if (k : Int) < 0 then ((k : Int) + (l.map e).length).toNat else min (k : Int).toNat (l.map e).length) = k
    rw [if_neg (by omega), List.length_map, Int.toNat_natCast]
    omega
  have h2 : Qm.sxD (l.map e).length (l.map e).length none = l.length := by simp [Qm.sxD]
  unfold Qm.cutD
  rw [h1, h2, List.take_of_length_le (by simp)]
  simp
theorem merged_ {ok : α → Prop} (Lk : Look L0 bs e lt ok) {l r : List α} {a b : Nat} {c : Cells} (hl : ∀ x ∈ l, ok x) (hr : ∀ x ∈ r, ok x) (ha : c[a]? = some (.lst (l.map e))) (hb : c[b]? = some (.lst (r.map e))) (nl : l.length ≤ 1000000) (nr : r.length ≤ 1000000) :
    ∃ ws, F_merged L0 [.ref a, .ref b, .clo L0 bs] c = some (.ref c.length, c ++ .lst ((mrg lt l r).map e) :: ws) := by
  have lk : ∀ z, (c ++ [z])[b]? = some (.lst (r.map e)) := fun z => get_app hb
  have it : iLst (eV 1) [some (.ref a), some (.ref b), some (.clo L0 bs), some (.ref c.length), some (.int 0), none] (c ++ [.lst []]) = some (⟨r.map e, [(b, .lst (r.map e))]⟩, c ++ [.lst []]) := iLst' rfl (lk _)
  obtain ⟨σ', c', e1, row, k, z, rfl, rfl, h1, h2, h3⟩ := forGo_inv (ks := [(b, .lst (r.map e))]) (g := gName 5) (body := sSeq (sWhile (wT L0) wB) (sExpr (eM mAppend (eV 3) (aCons (eV 5) aNil))))
    (fun i σ c' => ∃ row k z, σ = [some (.ref a), some (.ref b), some (.clo L0 bs), some (.ref c.length), some (.int ((k : Nat) : Int)), z] ∧ c' = c ++ [.lst (row.map e)] ∧ mrg lt l r = row ++ mrg lt (l.drop k) (r.drop i) ∧ k ≤ l.length ∧ row.length = k + i)
    (r.map e) 0 [some (.ref a), some (.ref b), some (.clo L0 bs), some (.ref c.length), some (.int 0), none] (c ++ [.lst []])
    (fun i σ c' ⟨row, k, z, hσ, hc', _⟩ p hp => by
      subst hc'
      cases List.mem_singleton.mp hp
      exact lk _)
    (fun i d σ c' hd ⟨row, k, z, hσ, hc', h1, h2, h3⟩ => by
      subst hσ hc'
      rw [List.getElem?_map] at hd
      obtain ⟨y, hy, rfl⟩ := Option.map_eq_some_iff.mp hd
      have hym : y ∈ r := List.mem_of_getElem? hy
      have hil : i < r.length := (List.getElem?_eq_some_iff.mp hy).1
      have w := while_ Lk (y := y) (w1 := some (.ref b)) hl (hr y hym) ha nl _ k row rfl h2 (by omega)
      generalize htk : (l.drop k).takeWhile (fun x => !lt y x) = tk at w
      have hdw : (l.drop k).dropWhile (fun x => !lt y x) = l.drop (k + tk.length) := by
        have h := List.takeWhile_append_dropWhile (p := fun x => !lt y x) (l := l.drop k)
        rw [htk] at h
        have h4 := congrArg (List.drop tk.length) h
        rw [List.drop_left] at h4
        rw [← List.drop_drop]
        exact h4
      have htl : k + tk.length ≤ l.length := by
        have : tk.length ≤ (l.drop k).length := by rw [← htk]; exact (List.takeWhile_sublist _).length_le
        rw [List.length_drop] at this
        omega
      have ap := appD (e := e) (x := y) (last_get (c := c) (z := .lst ((row ++ tk).map e))) (by simp; omega)
      rw [last_set] at ap
      have s2 := lstOf_lst (last_get (c := c) (z := .lst ((row ++ tk).map e)))
      refine ⟨_, _, [some (.ref a), some (.ref b), some (.clo L0 bs), some (.ref c.length), some (.int ((k + tk.length : Nat) : Int)), some (e y)], c ++ [.lst ((row ++ tk ++ [y]).map e)], rfl, ?_, row ++ tk ++ [y], k + tk.length, some (e y), rfl, rfl, ?_, htl, by simp; omega⟩
      · erw [w, s2, ap]
      · rw [h1, show 0 + i + 1 = i + 1 from by omega, show 0 + i = i from by omega]
        rw [List.drop_eq_getElem_cons hil]
        have : r[i] = y := by
          rw [List.getElem?_eq_getElem hil] at hy
          exact Option.some.inj hy
        rw [this, mrg, htk, hdw]
        simp)
    ⟨[], 0, none, rfl, rfl, rfl, Nat.zero_le _, rfl⟩
  have s0 := seqOf_lst (get_app (zs := [.lst (row.map e)]) ha)
  have e2 := sFor_ (g := gName 5) (b := sSeq (sWhile (wT L0) wB) (sExpr (eM mAppend (eV 3) (aCons (eV 5) aNil)))) it
  rw [e1] at e2
  have e3 : r.drop (0 + (r.map e).length) = [] := List.drop_eq_nil_of_le (by simp)
  rw [e3, mrg] at h1
  have s2 : lstOf (.ref c.length) (c ++ [.lst (row.map e)] ++ [.lst ((l.drop k).map e)]) = some (c.length, row.map e) := lstOf_lst (get_app last_get)
  have s2' : lstOf (.ref c.length) (c ++ [.lst (row.map e)]) = some (c.length, row.map e) := lstOf_lst last_get
  have s3 : lstOf (.ref (c ++ [Cell.lst (row.map e)]).length) (c ++ [.lst (row.map e)] ++ [.lst ((l.drop k).map e)]) = some ((c ++ [Cell.lst (row.map e)]).length, (l.drop k).map e) := lstOf_lst last_get
  have mx : mExtend (.ref c.length) [.ref (c ++ [Cell.lst (row.map e)]).length] (c ++ [.lst (row.map e)] ++ [.lst ((l.drop k).map e)]) = some (.non, c ++ .lst ((mrg lt l r).map e) :: [.lst ((l.drop k).map e)]) := by
    unfold mExtend one
    simp only [s2, s3, Option.bind_some, List.length_map]
    rw [if_pos (show row.length + (l.drop k).length ≤ LINE by rw [LINE_eq, List.length_drop, h3]; simp; omega)]
    rw [h1]
    simp
  refine ⟨[.lst ((l.drop k).map e)], ?_⟩
  have ct : gCut (.ref a) (some (k : Int)) none (c ++ [.lst (row.map e)]) = some (.ref (c ++ [Cell.lst (row.map e)]).length, c ++ [.lst (row.map e)] ++ [.lst ((l.drop k).map e)]) := by
    show ((seqOf (.ref a) (c ++ [.lst (row.map e)])).bind _) = _
    rw [s0, Option.bind_some, cut_lo h2]
  rw [F_merged, mkF_, B_merged]
  erw [e2, s2', oSome_, ct, mx, Nat.zero_le]
end
section
variable {α : Type} {e : α → D} {lt : α → α → Bool} {L0 : LamT} {bs : List D}
structure Runs (e : α → D) (c : Cells) (ids : List Nat) (rows : List (List α)) : Prop where
  len : ids.length = rows.length
  at_ : ∀ (i n : Nat) l, ids[i]? = some n → rows[i]? = some l → c[n]? = some (.lst (l.map e))
theorem Runs.up {c c' : Cells} {ids : List Nat} {rows : List (List α)} (h : Runs e c ids rows) (k : c <+: c') : Runs e c' ids rows := ⟨h.len, fun i n l h1 h2 => pre_get k (h.at_ i n l h1 h2)⟩
theorem Runs.get {c : Cells} {ids : List Nat} {rows : List (List α)} (h : Runs e c ids rows) {i : Nat} {l : List α} (hl : rows[i]? = some l) : ∃ n, ids[i]? = some n ∧ c[n]? = some (.lst (l.map e)) := by
  have hi := (List.getElem?_eq_some_iff.mp hl).1
  rw [← h.len] at hi
  exact ⟨ids[i], List.getElem?_eq_getElem hi, h.at_ i _ l (List.getElem?_eq_getElem hi) hl⟩
def prs (lt : α → α → Bool) : List (List α) → List (List α)
  | a :: b :: r => mrg lt a b :: prs lt r
  | r => r
theorem prs_len : ∀ (rows : List (List α)), (prs lt rows).length = (rows.length + 1) / 2
  | [] => by simp [prs]
  | [_] => by simp [prs]
  | a :: b :: r => by
    have := prs_len r
    simp only [prs, List.length_cons, this]
    omega
theorem prs_at : ∀ (rows : List (List α)) (i : Nat) (a b : List α), rows[2 * i]? = some a → rows[2 * i + 1]? = some b → (prs lt rows)[i]? = some (mrg lt a b)
  | [], i, a, b, h, _ => by simp at h
  | [_], i, a, b, h, g => by simp at g
  | x :: y :: r, 0, a, b, h, g => by
    simp at h g
    subst h g
    rfl
  | x :: y :: r, i + 1, a, b, h, g => by
    rw [show 2 * (i + 1) = 2 * i + 1 + 1 by omega] at h
    rw [show 2 * (i + 1) + 1 = 2 * i + 1 + 1 + 1 by omega] at g
    exact prs_at r i a b (by simpa using h) (by simpa using g)
theorem prs_odd : ∀ (rows : List (List α)) (a : List α), rows.length % 2 = 1 → rows[rows.length - 1]? = some a → (prs lt rows)[rows.length / 2]? = some a
  | [], a, h, _ => by simp at h
  | [x], a, _, h => by simpa [prs] using h
  | x :: y :: r, a, h, g => by
    have hr : r.length % 2 = 1 := by simp at h; omega
    have h1 : (x :: y :: r).length - 1 = (r.length - 1) + 1 + 1 := by simp; omega
    have h2 : (x :: y :: r).length / 2 = r.length / 2 + 1 := by simp; omega
    rw [h1] at g
    rw [h2]
    exact prs_odd r a hr (by simpa using g)
theorem prs_perm : ∀ (rows : List (List α)), (prs lt rows).flatten.Perm rows.flatten
  | [] => .refl _
  | [_] => .refl _
  | a :: b :: r => by
    simp only [prs, List.flatten_cons]
    exact ((mrg_perm b a).append (prs_perm r)).trans (by rw [List.append_assoc])
theorem prs_all {P : List α → Prop} (hP : ∀ a b, P a → P b → P (mrg lt a b)) : ∀ (rows : List (List α)), (∀ l ∈ rows, P l) → ∀ l ∈ prs lt rows, P l
  | [], h => h
  | [_], h => h
  | a :: b :: r, h => by
    intro l hl
    rcases List.mem_cons.mp hl with rfl | hl
    · exact hP _ _ (h a (by simp)) (h b (by simp))
    · exact prs_all hP r (fun l hl => h l (by simp [hl])) l hl
theorem refs_at {ids : List Nat} {i n : Nat} (h : ids[i]? = some n) : atD (ids.map D.ref) (i : Int) = some (.ref n) := at_map (e := D.ref) h
theorem rngS_at {lo : Int} {n i : Nat} {d : D} (h : (rngS lo n)[i]? = some d) : i < n ∧ d = .int (lo + i * 2) := by
  unfold rngS at h
  rw [List.getElem?_map] at h
  obtain ⟨j, hj, rfl⟩ := Option.map_eq_some_iff.mp h
  obtain ⟨h1, h2⟩ := List.getElem?_eq_some_iff.mp hj
  simp at h1 h2
  subst h2
  exact ⟨h1, rfl⟩
theorem merged_pairs_ {ok : α → Prop} (Lk : Look L0 bs e lt ok) {ids : List Nat} {rows : List (List α)} {R : Nat} {c : Cells} (hR : c[R]? = some (.lst (ids.map D.ref))) (hr : Runs e c ids rows) (hok : ∀ l ∈ rows, ∀ x ∈ l, ok x) (hn : ∀ l ∈ rows, l.length ≤ 1000000) (h2 : 2 ≤ rows.length) (h3 : rows.length ≤ 1000000) :
    ∃ ids' c', F_merged_pairs L0 [.ref R, .clo L0 bs] c = some (.ref c.length, c') ∧ c <+: c' ∧ c'[c.length]? = some (.lst (ids'.map D.ref)) ∧ Runs e c' ids' (prs lt rows) ∧ ∀ m ∈ ids', m ∈ ids ∨ c.length ≤ m := by
  have lids := hr.len
  have bl : bLen [.ref R] c = some (.int ids.length, c) := lenD (e := D.ref) hR
  have hi : iRngS (aCons (eC (.int 0)) (aCons (e2 gSub (eB bLen (aCons (eV 0) aNil)) (eC (.int 1))) (aCons (eC (.int 2)) aNil))) [some (.ref R), some (.clo L0 bs), none] c = some (⟨rngS 0 (rows.length / 2), []⟩, c) := by
    unfold iRngS
    have ha : aCons (eC (.int 0)) (aCons (e2 gSub (eB bLen (aCons (eV 0) aNil)) (eC (.int 1))) (aCons (eC (.int 2)) aNil)) [some (.ref R), some (.clo L0 bs), none] c = some ([.int 0, .int (ids.length - 1), .int 2], c) := by erw [bl]
    rw [ha, Option.bind_some]
    dsimp only
    rw [if_pos ⟨rfl, ⟨by omega, by omega⟩, ⟨by omega, by omega⟩⟩]
    rw [show ((ids.length : Int) - 1 - 0 + 1) / 2 = ((rows.length / 2 : Nat) : Int) by omega]
    rfl
  obtain ⟨vs, c1, e1, p1, g1, l1, r1⟩ := compR (te := eCall (F_merged L0) [] (aCons (e2 gIx (eV 2) (eV 0)) (aCons (e2 gIx (eV 2) (e2 gAdd (eV 0) (eC (.int 1)))) (aCons (eV 1) aNil)))) (g := gName 0) (cap := [none, some 1, some 0])
    (fun τ => ∃ z, τ = [z, some (.clo L0 bs), some (.ref R)]) (fun i v c' => ∃ n a b, v = .ref n ∧ c.length < n ∧ rows[2 * i]? = some a ∧ rows[2 * i + 1]? = some b ∧ c'[n]? = some (.lst ((mrg lt a b).map e))) hi stays_nil ⟨none, rfl⟩
    (fun i v c1 c2 ⟨n, a, b, h1, h2, h3, h4, h5⟩ fr => ⟨n, a, b, h1, h2, h3, h4, fr n _ (by omega) h5⟩)
    (fun i d hd τ c' ⟨z, hτ⟩ pc lc => by
      subst hτ
      obtain ⟨hi2, rfl⟩ := rngS_at hd
      obtain ⟨a, ha⟩ : ∃ a, rows[2 * i]? = some a := ⟨_, List.getElem?_eq_getElem (by omega)⟩
      obtain ⟨b, hb⟩ : ∃ b, rows[2 * i + 1]? = some b := ⟨_, List.getElem?_eq_getElem (by omega)⟩
      obtain ⟨na, ga, ca⟩ := hr.get ha
      obtain ⟨nb, gb, cb⟩ := hr.get hb
      have ma := List.mem_of_getElem? ha
      have mb := List.mem_of_getElem? hb
      obtain ⟨ws, em⟩ := merged_ Lk (hok a ma) (hok b mb) (pre_get pc ca) (pre_get pc cb) (hn a ma) (hn b mb)
      have s0 := seqOf_lst (pre_get pc hR)
      have t1 := refs_at ga
      have t2 := refs_at gb
      rw [show (((2 * i : Nat)) : Int) = 0 + (i : Int) * 2 by omega] at t1
      rw [show (((2 * i + 1 : Nat)) : Int) = 0 + (i : Int) * 2 + 1 by omega] at t2
      refine ⟨[some (.int (0 + i * 2)), some (.clo L0 bs), some (.ref R)], .ref c'.length, .lst ((mrg lt a b).map e) :: ws, rfl, ?_, ⟨_, rfl⟩, c'.length, a, b, rfl, by omega, ha, hb, by simp⟩
      erw [gIx_, s0, t1, t2, em])
    (by simp [rngS]; omega)
  have lvs : vs.length = rows.length / 2 := by rw [l1]; simp [rngS]
  have ref : ∃ ns : List Nat, vs = ns.map D.ref ∧ ns.length = vs.length ∧ ∀ (i n : Nat), ns[i]? = some n → c.length < n ∧ ∃ a b, rows[2 * i]? = some a ∧ rows[2 * i + 1]? = some b ∧ c1[n]? = some (.lst ((mrg lt a b).map e)) := by
    clear e1 g1 l1 lvs
    have : ∀ (vs : List D) (k : Nat), (∀ i v, vs[i]? = some v → ∃ n a b, v = D.ref n ∧ c.length < n ∧ rows[2 * (k + i)]? = some a ∧ rows[2 * (k + i) + 1]? = some b ∧ c1[n]? = some (.lst ((mrg lt a b).map e))) → ∃ ns : List Nat, vs = ns.map D.ref ∧ ns.length = vs.length ∧ ∀ (i n : Nat), ns[i]? = some n → c.length < n ∧ ∃ a b, rows[2 * (k + i)]? = some a ∧ rows[2 * (k + i) + 1]? = some b ∧ c1[n]? = some (.lst ((mrg lt a b).map e)) := by
      intro vs
      induction vs with
      | nil => exact fun k _ => ⟨[], rfl, rfl, fun i n h => by cases h⟩
      | cons v vs ih =>
        intro k h
        obtain ⟨n, a, b, rfl, h0, h1, h2, h3⟩ := h 0 v rfl
        obtain ⟨ns, rfl, h4, h5⟩ := ih (k + 1) fun i v hv => by
          have := h (i + 1) v (by simpa using hv)
          rwa [show k + (i + 1) = k + 1 + i by omega] at this
        refine ⟨n :: ns, rfl, by simp, fun i m hm => ?_⟩
        cases i with
        | zero =>
          cases hm
          exact ⟨h0, a, b, h1, h2, h3⟩
        | succ i =>
          have := h5 i m (by simpa using hm)
          rwa [show k + 1 + i = k + (i + 1) by omega] at this
    obtain ⟨ns, h1, h2, h3⟩ := this vs 0 fun i v hv => by rw [Nat.zero_add]; exact r1 i v hv
    exact ⟨ns, h1, h2, fun i n hn => by have := h3 i n hn; rwa [Nat.zero_add] at this⟩
  obtain ⟨ns, rfl, ln, hns⟩ := ref
  have bl1 : bLen [.ref R] c1 = some (.int ids.length, c1) := lenD (e := D.ref) (pre_get p1 hR)
  have hpl := prs_len (lt := lt) rows
  rw [← ln] at lvs
  by_cases hodd : rows.length % 2 = 1
  · obtain ⟨a, ha⟩ : ∃ a, rows[rows.length - 1]? = some a := ⟨_, List.getElem?_eq_getElem (by omega)⟩
    obtain ⟨m, gm, cm⟩ := hr.get ha
    have hm : decide ((ids.length : Int) % 2 = 1) = true := decide_eq_true (by omega)
    have s0 := seqOf_lst (pre_get p1 hR)
    have t1 : atD (ids.map D.ref) (-1) = some (.ref m) := by
      have hne : ids ≠ [] := fun h => by rw [h] at lids; simp at lids; omega
      have : ids = ids.dropLast ++ [m] := by
        have h4 := List.dropLast_concat_getLast hne
        rw [List.getLast_eq_getElem] at h4
        have h5 : ids[ids.length - 1]'(by omega) = m := by
          rw [← lids, List.getElem?_eq_getElem (by omega)] at gm
          exact Option.some.inj gm
        rw [h5] at h4
        exact h4.symm
      rw [this, List.map_append]
      exact atD_last
    have hmL : m ≠ c.length := by have := get_lt cm; omega
    have s2 := lstOf_lst g1
    have ap := appD (e := D.ref) (x := m) g1 (by omega)
    refine ⟨ns ++ [m], c1.set c.length (.lst ((ns ++ [m]).map D.ref)), ?_, pre_set p1 (Nat.le_refl _), set_eq (get_lt g1), ⟨by rw [hpl]; simp; omega, fun i n l h1 h2 => ?_⟩, fun q hq => ?_⟩
    · rw [F_merged_pairs, mkF_, B_merged_pairs]
      erw [e1, bl1, hm, gIx_, s0, t1, s2, ap]
    · rcases Nat.lt_or_ge i ns.length with hi3 | hi3
      · rw [List.getElem?_append_left hi3] at h1
        obtain ⟨q1, a', b', q2, q3, q4⟩ := hns i n h1
        rw [prs_at rows i a' b' q2 q3] at h2
        cases h2
        exact set_ne q4 (by omega)
      · have : i = ns.length := by
          have := (List.getElem?_eq_some_iff.mp h1).1
          simp at this
          omega
        subst this
        rw [List.getElem?_append_right (Nat.le_refl _), Nat.sub_self] at h1
        cases h1
        rw [lvs, prs_odd rows a hodd ha] at h2
        cases h2
        exact set_ne (pre_get p1 cm) hmL
    · rcases List.mem_append.mp hq with hq | hq
      · obtain ⟨i, hi3⟩ := List.getElem?_of_mem hq
        exact .inr (Nat.le_of_lt (hns i q hi3).1)
      · cases List.mem_singleton.mp hq
        exact .inl (List.mem_of_getElem? gm)
  · have hm : decide ((ids.length : Int) % 2 = 1) = false := decide_eq_false (by omega)
    refine ⟨ns, c1, ?_, p1, g1, ⟨by rw [hpl]; omega, fun i n l h1 h2 => ?_⟩, fun q hq => ?_⟩
    · rw [F_merged_pairs, mkF_, B_merged_pairs]
      erw [e1, bl1, hm]
    · obtain ⟨q1, a', b', q2, q3, q4⟩ := hns i n h1
      rw [prs_at rows i a' b' q2 q3] at h2
      cases h2
      exact q4
    · obtain ⟨i, hi3⟩ := List.getElem?_of_mem hq
      exact .inr (Nat.le_of_lt (hns i q hi3).1)
theorem mrg_mem {a b : List α} {x : α} : x ∈ mrg lt a b ↔ x ∈ a ∨ x ∈ b := by rw [(mrg_perm b a).mem_iff, List.mem_append]
theorem rounds_ {ok : α → Prop} (Lk : Look L0 bs e lt ok) (as_ : ∀ x y, lt x y = true → lt y x = false) {A : Option D} {c0 : Cells} : ∀ (n : Nat) (ids : List Nat) (rows : List (List α)) (R : Nat) (c : Cells), rows.length = n → c[R]? = some (.lst (ids.map D.ref)) → Runs e c ids rows → (∀ l ∈ rows, chn lt l) → (∀ l ∈ rows, ∀ x ∈ l, ok x) → rows.flatten.length ≤ 1000000 → n ≤ 1000000 → c0 <+: c → (∀ m ∈ ids, c0.length ≤ m) →
    ∃ ids' rows' R' c', sWhile (tV (e2 gGt (eB bLen (aCons (eV 2) aNil)) (eC (.int 1)))) (sSet 2 (eCall (F_merged_pairs L0) [] (aCons (eV 2) (aCons (eV 1) aNil)))) [A, some (.clo L0 bs), some (.ref R)] c = some (.nx, [A, some (.clo L0 bs), some (.ref R')], c') ∧ c0 <+: c' ∧ c'[R']? = some (.lst (ids'.map D.ref)) ∧ Runs e c' ids' rows' ∧ rows'.length ≤ 1 ∧ rows'.flatten.Perm rows.flatten ∧ (∀ l ∈ rows', chn lt l) ∧ (rows.length = 0 → rows'.length = 0) ∧ (∀ m ∈ ids', c0.length ≤ m) := by
  intro n
  induction n using Nat.strongRecOn with
  | _ n ih =>
    intro ids rows R c hn hR hr hch hok hfl hnn hp hid
    have bl : bLen [.ref R] c = some (.int ids.length, c) := lenD (e := D.ref) hR
    have lids := hr.len
    by_cases h1 : rows.length ≤ 1
    · have hm : decide ((ids.length : Int) > 1) = false := decide_eq_false (by omega)
      exact ⟨ids, rows, R, c, sWhile_stop (by erw [bl, hm]), hp, hR, hr, h1, .refl _, hch, id, hid⟩
    · have hm : decide ((ids.length : Int) > 1) = true := decide_eq_true (by omega)
      have hsz : ∀ l ∈ rows, l.length ≤ 1000000 := fun l hl => by
        have := (List.sublist_flatten_of_mem hl).length_le
        omega
      obtain ⟨ids', c', e1, p1, g1, r1, m1⟩ := merged_pairs_ Lk hR hr hok hsz (by omega) (by omega)
      have hpl := prs_len (lt := lt) rows
      have hpp := prs_perm (lt := lt) rows
      have hc0 := pre_len hp
      obtain ⟨ids2, rows2, R2, c2, f1, f2, f3, f4, f5, f6, f7, f8, f9⟩ := ih (prs lt rows).length (by omega) ids' (prs lt rows) c.length c' rfl g1 r1 (prs_all (P := chn lt) (fun a b ha hb => mrg_chn as_ b a ha hb) rows hch) (prs_all (P := fun l => ∀ x ∈ l, ok x) (fun a b ha hb x hx => (mrg_mem.mp hx).elim (ha x) (hb x)) rows hok) (by rw [hpp.length_eq]; exact hfl) (by omega) (hp.trans p1) (fun m hm => (m1 m hm).elim (hid m) fun h => Nat.le_trans hc0 h)
      refine ⟨ids2, rows2, R2, c2, sWhile_go (c' := c) (c2 := c') (σ' := [A, some (.clo L0 bs), some (.ref c.length)]) (by erw [bl, hm]) (by erw [e1]) f1, f2, f3, f4, f5, f6.trans hpp, f7, fun h => by omega, f9⟩
theorem single : ∀ (xs : List α), (xs.map fun x => [x]).flatten = xs
  | [] => rfl
  | x :: xs => by
    rw [List.map_cons, List.flatten_cons, single xs]
    rfl
theorem in_order_ {ok : α → Prop} (Lk : Look L0 bs e lt ok) (as_ : ∀ x y, lt x y = true → lt y x = false) {xs : List α} {a : Nat} {c : Cells} (ha : c[a]? = some (.lst (xs.map e))) (hok : ∀ x ∈ xs, ok x) (hn : xs.length ≤ 1000000) :
    ∃ n ys c', F_in_order L0 [.ref a, .clo L0 bs] c = some (.ref n, c') ∧ c <+: c' ∧ c.length ≤ n ∧ c'[n]? = some (.lst (ys.map e)) ∧ ys.Perm xs ∧ chn lt ys := by
  have hi : iLst (eV 0) [some (.ref a), some (.clo L0 bs), none] c = some (⟨xs.map e, [(a, .lst (xs.map e))]⟩, c) := iLst' rfl ha
  obtain ⟨vs, c1, e1, p1, g1, l1, r1⟩ := compR (te := eLst (aCons (eV 0) aNil)) (g := gName 0) (cap := [none]) (fun τ => ∃ z, τ = [z]) (fun i v c' => ∃ n x, v = .ref n ∧ c.length < n ∧ xs[i]? = some x ∧ c'[n]? = some (.lst ([x].map e))) hi (fun p hp => by cases List.mem_singleton.mp hp; exact ha) ⟨none, rfl⟩
    (fun i v c1 c2 ⟨n, x, h1, h2, h3, h4⟩ fr => ⟨n, x, h1, h2, h3, fr n _ (by omega) h4⟩)
    (fun i d hd τ c' ⟨z, hτ⟩ pc lc => by
      subst hτ
      rw [List.getElem?_map] at hd
      obtain ⟨x, hx, rfl⟩ := Option.map_eq_some_iff.mp hd
      refine ⟨[some (e x)], .ref c'.length, [.lst [e x]], rfl, ?_, ⟨_, rfl⟩, c'.length, x, rfl, lc, hx, by simp⟩
      erw [])
    (by simp; omega)
  have ref : ∃ ns : List Nat, vs = ns.map D.ref ∧ Runs e c1 ns (xs.map fun x => [x]) ∧ ∀ m ∈ ns, c.length ≤ m := by
    clear e1 g1
    rw [List.length_map] at l1
    have : ∀ (vs : List D) (xs : List α), vs.length = xs.length → (∀ (i : Nat) v, vs[i]? = some v → ∃ n x, v = D.ref n ∧ c.length < n ∧ xs[i]? = some x ∧ c1[n]? = some (.lst ([x].map e))) → ∃ ns : List Nat, vs = ns.map D.ref ∧ Runs e c1 ns (xs.map fun x => [x]) ∧ ∀ m ∈ ns, c.length ≤ m := by
      intro vs
      induction vs with
      | nil =>
        intro xs hl _
        cases xs with
        | nil => exact ⟨[], rfl, ⟨rfl, fun i n l h => by cases h⟩, fun m h => nomatch h⟩
        | cons _ _ => simp at hl
      | cons v vs ih =>
        intro xs hl h
        cases xs with
        | nil => simp at hl
        | cons x xs =>
          obtain ⟨n, x', rfl, h0, h1, h2⟩ := h 0 v rfl
          cases h1
          obtain ⟨ns, rfl, h4, h5⟩ := ih xs (by simpa using hl) fun i v hv => by
            have := h (i + 1) v (by simpa using hv)
            simpa using this
          refine ⟨n :: ns, rfl, ⟨by simpa using h4.len, fun i m l h6 h7 => ?_⟩, fun m hm => ?_⟩
          · cases i with
            | zero =>
              cases h6
              cases h7
              exact h2
            | succ i => exact h4.at_ i m l (by simpa using h6) (by simpa using h7)
          · rcases List.mem_cons.mp hm with rfl | hm
            · exact Nat.le_of_lt h0
            · exact h5 m hm
    exact this vs xs l1 r1
  obtain ⟨ns, rfl, hr, hm⟩ := ref
  have hfl : (xs.map fun x => [x]).flatten = xs := single xs
  obtain ⟨ids, rows, R, c2, f1, f2, f3, f4, f5, f6, f7, f8, f9⟩ := rounds_ Lk as_ (A := some (.ref a)) (c0 := c) _ ns (xs.map fun x => [x]) c.length c1 rfl g1 hr (fun l hl => by
    obtain ⟨x, _, rfl⟩ := List.mem_map.mp hl
    trivial) (fun l hl y hy => by
    obtain ⟨x, hx, rfl⟩ := List.mem_map.mp hl
    cases List.mem_singleton.mp hy
    exact hok _ hx) (by rw [hfl]; exact hn) (by simpa using hn) p1 hm
  rw [hfl] at f6
  have lids := f4.len
  have bl : bLen [.ref R] c2 = some (.int ids.length, c2) := lenD (e := D.ref) f3
  cases hrw : rows with
  | nil =>
    subst hrw
    have hl0 : ids.length = 0 := lids
    have hm : decide ((ids.length : Int) = 1) = false := decide_eq_false (by omega)
    refine ⟨c2.length, [], c2 ++ [.lst []], ?_, pre_app f2, pre_len f2, by simp, by simpa using f6, trivial⟩
    rw [F_in_order, mkF_, B_in_order]
    erw [e1, f1, bl, hm, Nat.zero_le]
  | cons l rest =>
    subst hrw
    have hre : rest = [] := by
      cases rest with
      | nil => rfl
      | cons _ _ => simp at f5
    subst hre
    obtain ⟨n, gn, cn⟩ := f4.get (i := 0) (l := l) rfl
    have hl0 : ids.length = 1 := lids
    have hm : decide ((ids.length : Int) = 1) = true := decide_eq_true (by omega)
    have s0 := seqOf_lst f3
    have t1 : atD (ids.map D.ref) 0 = some (.ref n) := refs_at gn
    refine ⟨n, l, c2, ?_, f2, f9 n (List.mem_of_getElem? gn), cn, by simpa using f6, f7 l (by simp)⟩
    rw [F_in_order, mkF_, B_in_order]
    erw [e1, f1, bl, hm, gIx_, s0, t1]
end
abbrev T3 := Int × Int × Int
def sd (p : T3) : D := .tup [.int p.1, .int p.2.1, .int p.2.2]
structure Sb (p : T3) : Prop where
  bx : My.Bd 1000 p.1
  by_ : My.Bd 1000 p.2.1
  bw : My.Bd 1000 p.2.2
  pos : 0 < p.2.2
theorem i0_ (r : T3) (c : Cells) : gIx (sd r) (.int 0) c = some (.int r.1, c) := rfl
theorem i1_ (r : T3) (c : Cells) : gIx (sd r) (.int 1) c = some (.int r.2.1, c) := rfl
theorem i2_ (r : T3) (c : Cells) : gIx (sd r) (.int 2) c = some (.int r.2.2, c) := rfl
def isb (p q : T3) : Bool := decide (p.2.1 * q.2.2 < q.2.1 * p.2.2)
def ahd (p q : T3) : Bool := if p.1 * q.2.2 = q.1 * p.2.2 then isb p q else decide (p.1 * q.2.2 < q.1 * p.2.2)
def sgn (n : Int) : Int := if 0 < n then 1 else if n < 0 then -1 else 0
def dt (a b c : T3) : Int := (a.2.1 * b.2.2 - a.2.2 * b.2.1) * c.1 + (a.2.2 * b.1 - a.1 * b.2.2) * c.2.1 + (a.1 * b.2.1 - a.2.1 * b.1) * c.2.2
def hf (b p : T3) : Bool := isb b p || (!isb p b && ahd b p)
def met (b p q : T3) : Bool := if hf b p = hf b q then decide (0 < dt b p q) else hf b p
theorem isb_ {p q : T3} {c : Cells} (hp : Sb p) (hq : Sb q) : F_is_below [sd p, sd q] c = some (.bl (isb p q), c) := by
  have a1 := hp.bx; have a2 := hp.by_; have a3 := hp.bw; have b1 := hq.bx; have b2 := hq.by_; have b3 := hq.bw
  unfold isb
  erw [F_is_below, B_is_below, i0_, i1_, i2_]
theorem ahead_ {p q : T3} {c : Cells} (hp : Sb p) (hq : Sb q) : F_ahead [sd p, sd q] c = some (.bl (ahd p q), c) := by
  have a1 := hp.bx; have a2 := hp.by_; have a3 := hp.bw; have b1 := hq.bx; have b2 := hq.by_; have b3 := hq.bw
  have e := isb_ (c := c) hp hq
  unfold ahd
  by_cases h : p.1 * q.2.2 = q.1 * p.2.2
  · rw [if_pos h]
    erw [F_ahead, B_ahead, i0_, i1_, i2_, decide_eq_true h, e]
  · rw [if_neg h]
    erw [F_ahead, B_ahead, i0_, i1_, i2_, decide_eq_false h]
theorem sign_ {n : Int} {c : Cells} : F_sign [.int n] c = some (.int (sgn n), c) := by
  unfold sgn
  by_cases h : 0 < n
  · rw [if_pos h]; erw [F_sign, B_sign, decide_eq_true h]
  · rw [if_neg h]
    by_cases h2 : n < 0
    · rw [if_pos h2]; erw [F_sign, B_sign, decide_eq_false h, decide_eq_true h2]
    · rw [if_neg h2]; erw [F_sign, B_sign, decide_eq_false h, decide_eq_false h2]
theorem crossed_ {p q : T3} {c : Cells} (hp : Sb p) (hq : Sb q) : F_crossed [sd p, sd q] c = some (sd (p.2.1 * q.2.2 - p.2.2 * q.2.1, p.2.2 * q.1 - p.1 * q.2.2, p.1 * q.2.1 - p.2.1 * q.1), c) := by
  have a1 := hp.bx; have a2 := hp.by_; have a3 := hp.bw; have b1 := hq.bx; have b2 := hq.by_; have b3 := hq.bw
  erw [F_crossed, B_crossed, i0_, i1_, i2_]
  rfl
theorem turn_ {a b p : T3} {c : Cells} (ha : Sb a) (hb : Sb b) (hp : Sb p) : F_turn [sd a, sd b, sd p] c = some (.int (sgn (dt a b p)), c) := by
  have a1 := ha.bx; have a2 := ha.by_; have a3 := ha.bw; have b1 := hb.bx; have b2 := hb.by_; have b3 := hb.bw; have p1 := hp.bx; have p2 := hp.by_; have p3 := hp.bw
  have e := crossed_ (c := c) ha hb
  have k0 : My.Bd 90000 (a.2.1 * b.2.2 - a.2.2 * b.2.1) := (My.Bd.sub (a2.mul b3) (a3.mul b2)).mono (by decide)
  have k1 : My.Bd 90000 (a.2.2 * b.1 - a.1 * b.2.2) := (My.Bd.sub (a3.mul b1) (a1.mul b3)).mono (by decide)
  have k2 : My.Bd 90000 (a.1 * b.2.1 - a.2.1 * b.1) := (My.Bd.sub (a1.mul b2) (a2.mul b1)).mono (by decide)
  have q1 := p1.mono (k := 90000) (by decide); have q2 := p2.mono (k := 90000) (by decide); have q3 := p3.mono (k := 90000) (by decide)
  have s := sign_ (n := dt a b p) (c := c)
  unfold dt at s ⊢
  erw [F_turn, B_turn, e, i0_, i1_, i2_, gMul_ (mulB k0 q1), gMul_ (mulB k1 q2), gMul_ (mulB k2 q3), s]
theorem half_ {b p : T3} {c : Cells} (hb : Sb b) (hp : Sb p) : F_in_first_half [sd b, sd p] c = some (.bl (hf b p), c) := by
  have e1 := isb_ (c := c) hb hp
  have e2 := isb_ (c := c) hp hb
  have e3 := ahead_ (c := c) hb hp
  unfold hf
  cases h1 : isb b p <;> cases h2 : isb p b <;> cases h3 : ahd b p <;> rw [h1] at e1 <;> rw [h2] at e2 <;> rw [h3] at e3 <;> erw [F_in_first_half, B_in_first_half, e1, e2, e3] <;> rfl
theorem sgn_one {n : Int} : decide (sgn n = 1) = decide (0 < n) := by
  unfold sgn
  by_cases h : 0 < n
  · simp [h]
  · rw [if_neg h]
    by_cases h2 : n < 0
    · simp [h2, h]
    · simp [h2, h]
theorem gNe_bl {x y : Bool} {c : Cells} : gNe (.bl x) (.bl y) c = some (.bl (!decide (x = y)), c) := by
  cases x <;> cases y <;> rfl
theorem met_ {b p q : T3} {c : Cells} (hb : Sb b) (hp : Sb p) (hq : Sb q) : F_met_first [sd b, sd p, sd q] c = some (.bl (met b p q), c) := by
  have e1 := half_ (c := c) hb hp
  have e2 := half_ (c := c) hb hq
  have e3 := turn_ (c := c) hb hp hq
  unfold met
  by_cases h : hf b p = hf b q
  · rw [if_pos h, ← sgn_one]
    have h' : (!decide (hf b p = hf b q)) = false := by simp [h]
    have h3 : (!(hf b p == hf b q)) = false := by simp [h]
    erw [F_met_first, B_met_first, e1, e2, e3, gNe_bl, h', h3]
  · rw [if_neg h]
    have h' : (!decide (hf b p = hf b q)) = true := by simp [h]
    have h3 : (!(hf b p == hf b q)) = true := by simp [h]
    erw [F_met_first, B_met_first, e1, e2, e3, gNe_bl, h', h3]
theorem lam_ {b p q : T3} {c : Cells} (hb : Sb b) (hp : Sb p) (hq : Sb q) : F_lam0 [sd p, sd q, sd b] c = some (.bl (met b p q), c) := by
  have e := met_ (c := c) hb hp hq
  unfold F_lam0 lamF
  rw [if_pos (show [sd p, sd q, sd b].length = 3 from rfl)]
  show eCall F_met_first [] (aCons (eV 2) (aCons (eV 0) (aCons (eV 1) aNil))) [some (sd p), some (sd q), some (sd b)] c = _
  erw [e]
theorem eLam_ {L0 : LamT} {d : D} {r : Qm.Env} {c : Cells} (h : c[1]? = some (.tab L0.code L0.qual)) : eLam L0 1 [0] (some d :: r) c = some (.clo L0 [d], c) := by
  unfold eLam
  rw [h]
  simp only [and_self, if_true]
  rfl
def cr (u v : Int × Int) : Int := u.1 * v.2 - u.2 * v.1
def upH (u : Int × Int) : Bool := decide (0 < u.2 ∨ (u.2 = 0 ∧ 0 < u.1))
def mv (u v : Int × Int) : Bool := if upH u = upH v then decide (0 < cr u v) else upH u
theorem cr_anti (u v : Int × Int) : cr v u = - cr u v := by unfold cr; rw [Int.mul_comm v.1, Int.mul_comm v.2]; omega
theorem mv_asym {u v : Int × Int} (h : mv u v = true) : mv v u = false := by
  unfold mv at h ⊢
  by_cases e : upH u = upH v
  · rw [if_pos e] at h
    rw [if_pos e.symm]
    have := of_decide_eq_true h
    exact decide_eq_false (by rw [cr_anti]; omega)
  · rw [if_neg e] at h
    rw [if_neg (Ne.symm e)]
    cases hv : upH v with
    | false => rfl
    | true => rw [h, hv] at e; exact absurd rfl e
theorem cr_half {x y z : Int × Int} (hx : 0 < x.2 ∨ (x.2 = 0 ∧ 0 < x.1)) (hy : 0 < y.2 ∨ (y.2 = 0 ∧ 0 < y.1)) (hz : 0 < z.2 ∨ (z.2 = 0 ∧ 0 < z.1)) (h1 : 0 ≤ cr x y) (h2 : 0 ≤ cr y z) : 0 ≤ cr x z := by
  have id : y.2 * cr x z = z.2 * cr x y + x.2 * cr y z := by
    unfold cr
    simp only [Int.mul_sub, ← Int.mul_assoc]
    have a1 : y.2 * x.1 * z.2 = z.2 * x.1 * y.2 := by rw [Int.mul_comm (y.2 * x.1), Int.mul_comm y.2, ← Int.mul_assoc]
    have a2 : z.2 * x.2 * y.1 = x.2 * y.1 * z.2 := by rw [Int.mul_assoc, Int.mul_comm]
    have a3 : x.2 * y.2 * z.1 = y.2 * x.2 * z.1 := by rw [Int.mul_comm x.2]
    omega
  rcases hy with hy | ⟨hy0, hy1⟩
  · have b1 : 0 ≤ z.2 * cr x y := Int.mul_nonneg (by omega) h1
    have b2 : 0 ≤ x.2 * cr y z := Int.mul_nonneg (by omega) h2
    have b3 : 0 ≤ y.2 * cr x z := by omega
    rcases Int.lt_or_le (cr x z) 0 with c | c
    · have := Int.mul_neg_of_pos_of_neg hy c
      omega
    · exact c
  · have hx0 : x.2 = 0 := by
      have e : cr x y = - (x.2 * y.1) := by unfold cr; rw [hy0]; omega
      rcases hx with hx | hx
      · have := Int.mul_pos hx hy1
        omega
      · exact hx.1
    have hx1 : 0 < x.1 := by omega
    have e : cr x z = x.1 * z.2 := by unfold cr; rw [hx0]; omega
    rw [e]
    exact Int.mul_nonneg (by omega) (by omega)
theorem cr_neg (u v : Int × Int) : cr (-u.1, -u.2) (-v.1, -v.2) = cr u v := by
  unfold cr
  simp only [Int.neg_mul_neg]
theorem mv_tr {x y z : Int × Int} (hx : x ≠ (0, 0)) (hy : y ≠ (0, 0)) (hz : z ≠ (0, 0)) (h1 : mv y x = false) (h2 : mv z y = false) : mv z x = false := by
  have nz : ∀ {u : Int × Int}, u ≠ (0, 0) → u.1 ≠ 0 ∨ u.2 ≠ 0 := fun {u} h => by
    obtain ⟨a, b⟩ := u
    by_cases e : a = 0
    · exact .inr fun z => h (by simp at z; rw [e, z])
    · exact .inl e
  have nx := nz hx; have ny := nz hy; have nz' := nz hz
  unfold mv at *
  cases ux : upH x <;> cases uy : upH y <;> cases uz : upH z <;> simp only [ux, uy, uz, if_true, if_false, reduceCtorEq, Bool.true_eq_false, Bool.false_eq_true] at h1 h2 ⊢
  · have vx := of_decide_eq_false ux; have vy := of_decide_eq_false uy; have vz := of_decide_eq_false uz
    have g1 := of_decide_eq_false h1; have g2 := of_decide_eq_false h2
    rw [cr_anti] at g1 g2
    refine decide_eq_false ?_
    rw [cr_anti, ← cr_neg]
    have := cr_half (x := (-x.1, -x.2)) (y := (-y.1, -y.2)) (z := (-z.1, -z.2)) (by show 0 < -x.2 ∨ (-x.2 = 0 ∧ 0 < -x.1); omega) (by show 0 < -y.2 ∨ (-y.2 = 0 ∧ 0 < -y.1); omega) (by show 0 < -z.2 ∨ (-z.2 = 0 ∧ 0 < -z.1); omega) (by rw [cr_neg]; omega) (by rw [cr_neg]; omega)
    omega
  · have vx := of_decide_eq_true ux; have vy := of_decide_eq_true uy; have vz := of_decide_eq_true uz
    have g1 := of_decide_eq_false h1; have g2 := of_decide_eq_false h2
    rw [cr_anti] at g1 g2
    refine decide_eq_false ?_
    rw [cr_anti]
    have := cr_half vx vy vz (by omega) (by omega)
    omega
def sameW (u v : Int × Int) : Bool := decide (u.1 * v.2 = u.2 * v.1) && decide (0 < u.1 * v.1 + u.2 * v.2)
def wy (b p : T3) : Int × Int := (p.1 * b.2.2 - b.1 * p.2.2, p.2.1 * b.2.2 - b.2.1 * p.2.2)
theorem hf_up {b p : T3} : hf b p = upH (wy b p) := by
  unfold hf upH wy isb ahd isb
  generalize p.1 * b.2.2 = k1
  generalize b.1 * p.2.2 = k2
  generalize p.2.1 * b.2.2 = k3
  generalize b.2.1 * p.2.2 = k4
  rw [Bool.eq_iff_iff]
  by_cases e : k2 = k1
  · simp only [if_pos e, Bool.or_eq_true, Bool.and_eq_true, Bool.not_eq_true', decide_eq_true_eq, decide_eq_false_iff_not]
    omega
  · simp only [if_neg e, Bool.or_eq_true, Bool.and_eq_true, Bool.not_eq_true', decide_eq_true_eq, decide_eq_false_iff_not]
    omega
theorem cr_dt {b p q : T3} : cr (wy b p) (wy b q) = b.2.2 * dt b p q := by
  unfold cr wy dt
  grind
theorem met_mv {b p q : T3} (hb : 0 < b.2.2) : met b p q = mv (wy b p) (wy b q) := by
  unfold met mv
  rw [hf_up, hf_up, cr_dt]
  have e : decide (0 < b.2.2 * dt b p q) = decide (0 < dt b p q) := by
    by_cases h : 0 < dt b p q
    · rw [decide_eq_true h, decide_eq_true (Int.mul_pos hb h)]
    · rw [decide_eq_false h]
      refine decide_eq_false fun z => h ?_
      rcases Int.lt_or_le 0 (dt b p q) with c | c
      · exact c
      · have := Int.mul_nonpos_of_nonneg_of_nonpos (Int.le_of_lt hb) c
        omega
  rw [e]
structure Wd (b p : T3) : Prop where
  sb : Sb p
  ne : wy b p ≠ (0, 0)
abbrev Wp (b : T3) := { p : T3 // Wd b p }
def es {b : T3} (p : Wp b) : D := sd p.1
def lw {b : T3} (p q : Wp b) : Bool := mv (wy b p.1) (wy b q.1)
theorem look_ {L0 : LamT} {b : T3} (hb : Sb b) : Look L0 [sd b] (es (b := b)) lw fun _ => True := ⟨F_lam0, rfl, fun x y c _ _ => by
  have e := lam_ (c := c) hb x.2.sb y.2.sb
  rw [met_mv hb.pos] at e
  exact e⟩
theorem round_about_ {L0 : LamT} {b : T3} {a : Nat} {xs : List (Wp b)} {c : Cells} (hb : Sb b) (h1 : c[1]? = some (.tab L0.code L0.qual)) (ha : c[a]? = some (.lst (xs.map es))) (hn : xs.length ≤ 1000000) :
    ∃ (n : Nat) (ys : List (Wp b)) (c' : Cells), F_round_about L0 [sd b, .ref a] c = some (.ref n, c') ∧ c <+: c' ∧ c.length ≤ n ∧ c'[n]? = some (.lst (ys.map es)) ∧ ys.Perm xs ∧ ys.Pairwise fun x y => lw y x = false := by
  obtain ⟨n, ys, c', e1, e2, e3, e4, e5, e6⟩ := in_order_ (look_ (L0 := L0) hb) (fun _ _ h => mv_asym h) ha (fun _ _ => trivial) hn
  refine ⟨n, ys, c', ?_, e2, e3, e4, e5, chn_pair (lt := lw (b := b)) (fun (x y z : Wp b) h g => mv_tr x.2.ne y.2.ne z.2.ne h g) e6⟩
  have l := eLam_ (d := sd b) (r := [some (.ref a)]) h1
  rw [F_round_about, mkF_, B_round_about]
  erw [l, e1]
theorem dot_up {u1 u2 v1 v2 : Int} (hu : 0 < u2 ∨ (u2 = 0 ∧ 0 < u1)) (hv : 0 < v2 ∨ (v2 = 0 ∧ 0 < v1)) (h : u1 * v2 = u2 * v1) : 0 < u1 * v1 + u2 * v2 := by
  rcases hu with hu | ⟨rfl, hu⟩
  · rcases hv with hv | ⟨rfl, hv⟩
    · have a := Int.mul_pos hu hv
      have b : 0 ≤ u1 * v1 := by
        rcases Int.lt_or_le (u1 * v1) 0 with c | c
        · exfalso
          have c1 := Int.mul_neg_of_pos_of_neg hv c
          have c2 : v2 * (u1 * v1) = u2 * (v1 * v1) := by
            rw [← Int.mul_assoc, Int.mul_comm v2, h, Int.mul_assoc]
          have c3 : 0 ≤ v1 * v1 := by
            rcases Int.le_total 0 v1 with z | z
            · exact Int.mul_nonneg z z
            · exact Int.mul_nonneg_of_nonpos_of_nonpos z z
          have c4 := Int.mul_nonneg (Int.le_of_lt hu) c3
          omega
        · exact c
      omega
    · have := Int.mul_pos hu hv
      omega
  · rcases hv with hv | ⟨rfl, hv⟩
    · have := Int.mul_pos hu hv
      omega
    · have := Int.mul_pos hu hv
      omega
theorem lw_of {b : T3} {x y : Wp b} (h : lw y x = false) (hs : sameW (wy b x.1) (wy b y.1) = false) : lw x y = true := by
  unfold lw mv at h ⊢
  by_cases e : upH (wy b y.1) = upH (wy b x.1)
  · rw [if_pos e] at h
    rw [if_pos e.symm]
    have h := of_decide_eq_false h
    rw [cr_anti] at h
    refine decide_eq_true ?_
    rcases Int.lt_trichotomy 0 (cr (wy b x.1) (wy b y.1)) with c | c | c
    · exact c
    · exfalso
      have nx := x.2.ne
      have ny := y.2.ne
      generalize wy b x.1 = u at *
      generalize wy b y.1 = v at *
      obtain ⟨u1, u2⟩ := u
      obtain ⟨v1, v2⟩ := v
      have c0 : u1 * v2 = u2 * v1 := by unfold cr at c; simp only at c; omega
      have key : 0 < u1 * v1 + u2 * v2 := by
        cases hu : upH (u1, u2) with
        | true =>
          rw [hu] at e
          exact dot_up (of_decide_eq_true hu) (of_decide_eq_true e) c0
        | false =>
          rw [hu] at e
          have w1 : ¬ (0 < u2 ∨ (u2 = 0 ∧ 0 < u1)) := of_decide_eq_false hu
          have w2 : ¬ (0 < v2 ∨ (v2 = 0 ∧ 0 < v1)) := of_decide_eq_false e
          have n1 : ¬ (u1 = 0 ∧ u2 = 0) := fun z => nx (by rw [z.1, z.2])
          have n2 : ¬ (v1 = 0 ∧ v2 = 0) := fun z => ny (by rw [z.1, z.2])
          have := dot_up (u1 := -u1) (u2 := -u2) (v1 := -v1) (v2 := -v2) (by omega) (by omega) (by rw [Int.neg_mul_neg, Int.neg_mul_neg]; exact c0)
          rw [Int.neg_mul_neg, Int.neg_mul_neg] at this
          exact this
      unfold sameW at hs
      simp only [decide_eq_true c0, decide_eq_true key] at hs
      cases hs
    · omega
  · rw [if_neg e] at h
    rw [if_neg (Ne.symm e)]
    cases hx : upH (wy b x.1) with
    | true => rfl
    | false => rw [h, hx] at e; exact absurd rfl e
theorem rows_eq {b : T3} : ∀ {xs ys : List (Wp b)}, xs.Perm ys → xs.Pairwise (fun x y => lw x y = true) → ys.Pairwise (fun x y => lw x y = true) → xs = ys
  | [], _, p, _, _ => (List.nil_perm.mp p).symm
  | x :: xs, [], p, _, _ => absurd p.length_eq (by simp)
  | x :: xs, y :: ys, p, h1, h2 => by
    have e : x = y := by
      have m1 : x ∈ y :: ys := p.subset List.mem_cons_self
      have m2 : y ∈ x :: xs := p.symm.subset List.mem_cons_self
      rcases List.mem_cons.mp m1 with e | m1
      · exact e
      rcases List.mem_cons.mp m2 with e | m2
      · exact e.symm
      have a1 := (List.pairwise_cons.mp h1).1 _ m2
      have a2 := (List.pairwise_cons.mp h2).1 _ m1
      unfold lw at a1 a2
      rw [mv_asym a1] at a2; cases a2
    subst e
    rw [rows_eq (List.Perm.cons_inv p) (List.pairwise_cons.mp h1).2 (List.pairwise_cons.mp h2).2]
def Pool (n : Nat) (c : Cells) : Prop := ∃ a b : Int, c[n]? = some (.lst [.int a, .int b]) ∧ 0 ≤ a ∧ 0 ≤ b
structure Kp (n : Nat) (c c' : Cells) : Prop where
  len : c.length ≤ c'.length
  at_ : ∀ i, i < c.length → i ≠ n → c'[i]? = c[i]?
theorem Kp.trans {n : Nat} {c c' c'' : Cells} (a : Kp n c c') (b : Kp n c' c'') : Kp n c c'' := ⟨Nat.le_trans a.len b.len, fun i h h' => (b.at_ i (Nat.lt_of_lt_of_le h a.len) h').trans (a.at_ i h h')⟩
theorem Kp.set {n : Nat} {c : Cells} {z : Cell} : Kp n c (c.set n z) := ⟨by rw [List.length_set]; exact Nat.le_refl _, fun i _ h => by rw [List.getElem?_set, if_neg (fun e => h e.symm)]⟩
theorem Kp.more {n : Nat} {c : Cells} {zs : List Cell} : Kp n c (c ++ zs) := ⟨by rw [List.length_append]; omega, fun i h _ => List.getElem?_append_left h⟩
theorem Kp.get {n i : Nat} {c c' : Cells} {z : Cell} (k : Kp n c c') (h : c[i]? = some z) (hi : i ≠ n) : c'[i]? = some z := by
  rw [k.at_ i (List.getElem?_eq_some_iff.mp h).1 hi]; exact h
theorem Pool.lt {n : Nat} {c : Cells} (h : Pool n c) : n < c.length := by
  obtain ⟨a, b, h, _⟩ := h
  exact (List.getElem?_eq_some_iff.mp h).1
theorem Pool.more {n : Nat} {c : Cells} {zs : List Cell} (h : Pool n c) : Pool n (c ++ zs) := by
  have hl := h.lt
  obtain ⟨a, b, h, r⟩ := h
  exact ⟨a, b, by rw [List.getElem?_append_left hl]; exact h, r⟩
theorem Pool.ne {n i : Nat} {c : Cells} (h : Pool n c) (hi : c.length ≤ i) : i ≠ n := by have := h.lt; omega
theorem digit_ {n : Nat} {c : Cells} {m : Int} (h : Pool n c) (h0 : 0 < m) (hm : My.Bd 8900 m) : ∃ d c', F_law_digit [.ref n, .int m] c = some (.int d, c') ∧ 0 ≤ d ∧ d < m ∧ Pool n c' ∧ Kp n c c' := by
  have hlt := h.lt
  obtain ⟨a, b, hc, a0, b0⟩ := h
  have s1 := seqOf_lst hc
  have l1 := lstOf_lst hc
  by_cases ha : a = 0
  · refine ⟨b % m, c.set n (.lst [.int a, .int (b / m)]), ?_, Int.emod_nonneg _ (by omega), Int.emod_lt_of_pos _ h0, ⟨a, b / m, ?_, a0, Int.ediv_nonneg b0 (by omega)⟩, Kp.set⟩
    · subst ha
      simp [F_law_digit, mkF_, B_law_digit, gIx_, s1, gMod_ h0, gFdiv_ h0 hm, gPut, l1, ixD]
    · simp [hlt]
  · refine ⟨a % m, c.set n (.lst [.int (a / m), .int b]), ?_, Int.emod_nonneg _ (by omega), Int.emod_lt_of_pos _ h0, ⟨a / m, b, ?_, Int.ediv_nonneg a0 (by omega), b0⟩, Kp.set⟩
    · simp [F_law_digit, mkF_, B_law_digit, gIx_, s1, gMod_ h0, gFdiv_ h0 hm, gPut, l1, ixD, ha]
    · simp [hlt]
theorem pow40 {c : Cells} : gPow (.int 2) (.int 40) c = some (.int 1099511627776, c) := by
  unfold gPow; rw [ii_, if_pos (by decide)]; rfl
theorem pow18 {c : Cells} : gPow (.int 10) (.int 18) c = some (.int 1000000000000000000, c) := by
  unfold gPow; rw [ii_, if_pos (by decide)]; rfl
noncomputable abbrev plB : XS := sSeq (sSet 4 (e2 gMod (e2 gMul (e2 gMod (e2 gAdd (eV 4) (e2 gMul (eC (.int 1442695040888963407)) (e2 gAdd (eV 6) (eC (.int 1))))) (eC (.int 2305843009213693951))) (eC (.int 48271))) (eC (.int 2305843009213693921))))
      (sSeq (sSet 7 (e2 gMul (e2 gFdiv (eV 4) (eC (.int 1024))) (e2 gAdd (e2 gAdd (e2 gMod (eV 4) (eC (.int 1000003))) (e2 gMul (eC (.int 7919)) (eV 6))) (eC (.int 1)))))
      (sSet 5 (e2 gAdd (e2 gMul (eV 5) (e2 gPow (eC (.int 2)) (eC (.int 40)))) (e2 gMod (eV 7) (e2 gPow (eC (.int 2)) (eC (.int 40)))))))
theorem poolL_ {s : Nat} {c : Cells} {k z ow sd0 : Int} : ∃ mx' tt' j' mo', 0 ≤ tt' ∧ sFor (iRng1 (aCons (eC (.int 16)) aNil)) (gName 6) plB
      [some (.ref s), some (.int k), some (.int z), some (.int ow), some (.int sd0), some (.int 0), none, none] c = some (.nx, [some (.ref s), some (.int k), some (.int z), some (.int ow), some (.int mx'), some (.int tt'), j', mo'], c) := by
  have hr : iRng1 (aCons (eC (.int 16)) aNil) [some (.ref s), some (.int k), some (.int z), some (.int ow), some (.int sd0), some (.int 0), none, none] c = some (⟨rng 0 16, []⟩, c) := iRng1' (j := 16) rfl (by decide)
  have key := forGo_inv (ks := []) (g := gName 6) (body := plB)
    (fun _ σ c' => ∃ mx' tt' j' mo', 0 ≤ tt' ∧ σ = [some (.ref s), some (.int k), some (.int z), some (.int ow), some (.int mx'), some (.int tt'), j', mo'] ∧ c' = c) (rng 0 16) 0 [some (.ref s), some (.int k), some (.int z), some (.int ow), some (.int sd0), some (.int 0), none, none] c (fun _ _ _ _ => stays_nil)
  have key2 := key (by
      rintro i d σ c' hd ⟨mx', tt', j', mo', h1, rfl, rfl⟩
      obtain ⟨hi, rfl⟩ : i < 16 ∧ d = .int (0 + (i : Int)) := by
        unfold rng at hd
        rw [List.getElem?_map] at hd
        by_cases hi : i < 16
        · rw [List.getElem?_range hi] at hd; cases hd; exact ⟨hi, rfl⟩
        · rw [List.getElem?_eq_none_iff.mpr (by simpa using Nat.le_of_not_lt hi)] at hd; cases hd
      have hM0 := Int.emod_nonneg ((mx' + 1442695040888963407 * (0 + (i : Int) + 1)) % 2305843009213693951 * 48271) (show (2305843009213693921 : Int) ≠ 0 by decide)
      have hM1 := Int.emod_lt_of_pos ((mx' + 1442695040888963407 * (0 + (i : Int) + 1)) % 2305843009213693951 * 48271) (show (0 : Int) < 2305843009213693921 by decide)
      have hN0 := Int.emod_nonneg (mx' + 1442695040888963407 * (0 + (i : Int) + 1)) (show (2305843009213693951 : Int) ≠ 0 by decide)
      have hN1 := Int.emod_lt_of_pos (mx' + 1442695040888963407 * (0 + (i : Int) + 1)) (show (0 : Int) < 2305843009213693951 by decide)
      refine ⟨_, c', [some (.ref s), some (.int k), some (.int z), some (.int ow), some (.int ((mx' + 1442695040888963407 * (0 + (i : Int) + 1)) % 2305843009213693951 * 48271 % 2305843009213693921)), some (.int (tt' * 1099511627776 + ((mx' + 1442695040888963407 * (0 + (i : Int) + 1)) % 2305843009213693951 * 48271 % 2305843009213693921) / 1024 * (((mx' + 1442695040888963407 * (0 + (i : Int) + 1)) % 2305843009213693951 * 48271 % 2305843009213693921) % 1000003 + 7919 * (0 + (i : Int)) + 1) % 1099511627776)), some (.int (0 + (i : Int))), some (.int (((mx' + 1442695040888963407 * (0 + (i : Int) + 1)) % 2305843009213693951 * 48271 % 2305843009213693921) / 1024 * (((mx' + 1442695040888963407 * (0 + (i : Int) + 1)) % 2305843009213693951 * 48271 % 2305843009213693921) % 1000003 + 7919 * (0 + (i : Int)) + 1)))], c', rfl, ?_, _, _, _, _, ?_, rfl, rfl⟩
      · simp (disch := walk_at "dis") only [sSeq_, sSet_, e2_, eV_, eC_, gAdd_, gMul_, gMod_, gFdiv_, gName_, pow40, List.getElem?_cons_succ, List.getElem?_cons_zero, Option.join_some, Option.bind_some, List.set_cons_succ, List.set_cons_zero, sq_nx]
      · have := Int.emod_nonneg (((mx' + 1442695040888963407 * (0 + (i : Int) + 1)) % 2305843009213693951 * 48271 % 2305843009213693921) / 1024 * (((mx' + 1442695040888963407 * (0 + (i : Int) + 1)) % 2305843009213693951 * 48271 % 2305843009213693921) % 1000003 + 7919 * (0 + (i : Int)) + 1)) (show (1099511627776 : Int) ≠ 0 by decide)
        omega) ⟨sd0, 0, none, none, Int.le_refl _, rfl, rfl⟩
  obtain ⟨σ', c', e, mx', tt', j', mo', h1, h2, h3⟩ := key2
  subst h2 h3
  refine ⟨mx', tt', j', mo', h1, ?_⟩
  unfold sFor
  rw [hr]
  exact e
theorem pool_ {s : Nat} {c : Cells} {ns : List Int} {k : Int} (hs : c[s]? = some (.ro (ns.map D.int))) (k0 : 0 ≤ k) (k1 : k < 1000) : ∃ a b, F_law_pool [.ref s, .int k] c = some (.ref c.length, c ++ [.lst [.int a, .int b]]) ∧ 0 ≤ a ∧ 0 ≤ b := by
  have s1 := seqOf_ro hs
  have hl : ((ns.map D.int).length : Int) = ns.length := by simp
  by_cases hk : k < ns.length
  · obtain ⟨z, hz⟩ : ∃ z, atD (ns.map D.int) k = some (.int z) := by
      have hkn : k.toNat < ns.length := by omega
      refine ⟨ns[k.toNat], ?_⟩
      have := atD_nat (xs := ns.map D.int) (n := k.toNat) (x := .int ns[k.toNat]) (by simp [hkn])
      rwa [show ((k.toNat : Nat) : Int) = k by omega] at this
    obtain ⟨mx', tt', j', mo', ht, el⟩ := poolL_ (s := s) (c := c) (k := k) (z := z) (ow := (if z < 0 then -z else z) * (if decide ((if z < 0 then -z else z) ≥ 1000000000000000000) = true then 1 else 0)) (sd0 := (z % 2305843009213693951 + 7919 * k + 5) * 6364136223846793005)
    refine ⟨(if z < 0 then -z else z) * (if decide ((if z < 0 then -z else z) ≥ 1000000000000000000) = true then 1 else 0), tt', ?_, Int.mul_nonneg (by split <;> omega) (by split <;> omega), ht⟩
    rw [F_law_pool, mkF_, B_law_pool]
    have hk' : decide (k < ((ns.map D.int).length : Int)) = true := by rw [hl]; exact decide_eq_true hk
    erw [bLen_, s1, gIx_, hk', hz, el, pow18]
  · have hk' : decide (k < ((ns.map D.int).length : Int)) = false := by rw [hl]; exact decide_eq_false (by omega)
    obtain ⟨mx', tt', j', mo', ht, el⟩ := poolL_ (s := s) (c := c) (k := k) (z := 0) (ow := 0 * 0) (sd0 := (0 % 2305843009213693951 + 7919 * k + 5) * 6364136223846793005)
    refine ⟨0 * 0, tt', ?_, by simp, ht⟩
    rw [F_law_pool, mkF_, B_law_pool]
    erw [bLen_, s1, gIx_, hk', el, pow18]
theorem gcdloop_ {A B W : Option D} {c : Cells} : ∀ (n : Nat) (a b : Int), b.toNat = n → 0 < a → 0 ≤ b → sWhile (tV (e2 gGt (eV 4) (eC (.int 0)))) (sPar [3, 4] (aCons (eV 4) (aCons (e2 gMod (eV 3) (eV 4)) aNil))) [A, B, W, some (.int a), some (.int b)] c = some (.nx, [A, B, W, some (.int (Int.gcd a b : Int)), some (.int 0)], c) := by
  intro n
  induction n using Nat.strongRecOn with
  | _ n ih =>
    intro a b hn ha hb
    by_cases h : b = 0
    · subst h
      have e : (Int.gcd a 0 : Int) = a := by rw [Int.gcd_zero_right]; omega
      rw [e]
      exact sWhile_stop (by erw [])
    · have hp : 0 < b := by omega
      have hd : decide (b > 0) = true := decide_eq_true hp
      have m0 := Int.emod_nonneg a h
      have m1 := Int.emod_lt_of_pos a hp
      have r := ih (a % b).toNat (by omega) b (a % b) rfl hp m0
      have eg : (Int.gcd b (a % b) : Int) = (Int.gcd a b : Int) := by
        rw [← Int.fmod_eq_emod_of_nonneg a hb, My.gcd_fmod]
      rw [eg] at r
      exact sWhile_go (c' := c) (c2 := c) (σ' := [A, B, W, some (.int b), some (.int (a % b))]) (by erw [hd]) (by erw [gMod_ hp]) r
theorem div_bd {x g B : Int} (hg : 0 < g) (h1 : -B ≤ x) (h2 : x ≤ B) (hB : 0 ≤ B) : -B ≤ x / g ∧ x / g ≤ B := by
  rcases Int.le_total 0 x with h | h
  · have a := Int.ediv_nonneg h (Int.le_of_lt hg)
    have b := Int.ediv_le_self g h
    omega
  · refine ⟨Int.le_ediv_of_mul_le hg ?_, ?_⟩
    · have : 0 ≤ B * (g - 1) := Int.mul_nonneg hB (by omega)
      rw [Int.mul_sub] at this
      rw [Int.neg_mul]
      omega
    · have := Int.ediv_le_ediv hg h
      rw [Int.zero_ediv] at this
      omega
theorem lowest_ {x y w : Int} {c : Cells} (hw : 0 < w) (hw2 : w ≤ 1000) (x1 : -1000000 ≤ x) (x2 : x ≤ 1000000) (y1 : -1000000 ≤ y) (y2 : y ≤ 1000000) :
    ∃ p : T3, F_law_lowest [.int x, .int y, .int w] c = some (sd p, c) ∧ (-1000000 ≤ p.1 ∧ p.1 ≤ 1000000) ∧ (-1000000 ≤ p.2.1 ∧ p.2.1 ≤ 1000000) ∧ 0 < p.2.2 ∧ p.2.2 ≤ 1000 := by
  have ab : ∀ (z : Int), 0 ≤ (if z < 0 then -z else z) := fun z => by split <;> omega
  have l1 := gcdloop_ (A := some (.int x)) (B := some (.int y)) (W := some (.int w)) (c := c) _ w (if x < 0 then -x else x) rfl hw (ab x)
  have g1 : 0 < (Int.gcd w (if x < 0 then -x else x) : Int) := by
    have := Int.gcd_pos_of_ne_zero_left (if x < 0 then -x else x) (show w ≠ 0 by omega)
    omega
  have l2 := gcdloop_ (A := some (.int x)) (B := some (.int y)) (W := some (.int w)) (c := c) _ (Int.gcd w (if x < 0 then -x else x) : Int) (if y < 0 then -y else y) rfl g1 (ab y)
  have dv : ((Int.gcd (Int.gcd w (if x < 0 then -x else x) : Int) (if y < 0 then -y else y) : Nat) : Int) ∣ w := Int.dvd_trans (Int.gcd_dvd_left ..) (Int.gcd_dvd_left ..)
  have gp : 0 < (Int.gcd (Int.gcd w (if x < 0 then -x else x) : Int) (if y < 0 then -y else y) : Int) := by
    have := Int.gcd_pos_of_ne_zero_left (if y < 0 then -y else y) (show (Int.gcd w (if x < 0 then -x else x) : Int) ≠ 0 by omega)
    omega
  generalize (Int.gcd (Int.gcd w (if x < 0 then -x else x) : Int) (if y < 0 then -y else y) : Int) = g at *
  have gw : g ≤ w := Int.le_of_dvd hw dv
  have gb : My.Bd 8900 g := by walk_at "bdm"
  refine ⟨(x / g, y / g, w / g), ?_, div_bd gp x1 x2 (by decide), div_bd gp y1 y2 (by decide), ?_, ?_⟩
  · have r : sd (x / g, y / g, w / g) = .tup [.int (x / g), .int (y / g), .int (w / g)] := rfl
    rw [r]
    erw [F_law_lowest, B_law_lowest, l1, l2, gFdiv_ gp gb]
  · exact Int.ediv_pos_of_pos_of_dvd hw (Int.le_of_lt gp) dv
  · have := Int.ediv_le_self g (Int.le_of_lt hw)
    show w / g ≤ 1000
    omega
def wd (u : Int × Int) : D := .tup [.int u.1, .int u.2]
theorem w0_ (u : Int × Int) (c : Cells) : gIx (wd u) (.int 0) c = some (.int u.1, c) := rfl
theorem w1_ (u : Int × Int) (c : Cells) : gIx (wd u) (.int 1) c = some (.int u.2, c) := rfl
theorem way_ {b p : T3} {c : Cells} (hb : Sb b) (hp : Sb p) : F_law_way [sd b, sd p] c = some (wd (wy b p), c) := by
  have a1 := hp.bx; have a2 := hp.by_; have a3 := hp.bw; have b1 := hb.bx; have b2 := hb.by_; have b3 := hb.bw
  erw [F_law_way, B_law_way, i0_, i1_, i2_]
  rfl
structure Vb (u : Int × Int) : Prop where
  bx : My.Bd 3000 u.1
  by_ : My.Bd 3000 u.2
theorem vb_wy {b p : T3} (hb : Sb b) (hp : Sb p) : Vb (wy b p) := ⟨(My.Bd.sub (hp.bx.mul hb.bw) (hb.bx.mul hp.bw)).mono (by decide), (My.Bd.sub (hp.by_.mul hb.bw) (hb.by_.mul hp.bw)).mono (by decide)⟩
theorem same_way_ {u v : Int × Int} {c : Cells} (hu : Vb u) (hv : Vb v) : F_law_same_way [wd u, wd v] c = some (.bl (sameW u v), c) := by
  have a1 := hu.bx; have a2 := hu.by_; have b1 := hv.bx; have b2 := hv.by_
  unfold sameW
  by_cases h : u.1 * v.2 = u.2 * v.1
  · erw [F_law_same_way, B_law_same_way, w0_, w1_, decide_eq_true h]
    rfl
  · erw [F_law_same_way, B_law_same_way, w0_, w1_, decide_eq_false h]
    rfl
theorem upn (u : Int × Int) (c : Cells) : (if decide (0 < u.2) = true then some (D.bl true, c) else if decide (u.2 = 0) = true then some (D.bl (decide (0 < u.1)), c) else some (D.bl false, c)) = some (D.bl (upH u), c) := by
  unfold upH
  by_cases h1 : 0 < u.2
  · rw [if_pos (decide_eq_true h1), decide_eq_true (show 0 < u.2 ∨ (u.2 = 0 ∧ 0 < u.1) from .inl h1)]
  · rw [if_neg (by simpa using h1)]
    by_cases h2 : u.2 = 0
    · rw [if_pos (decide_eq_true h2)]
      have e : decide (0 < u.2 ∨ (u.2 = 0 ∧ 0 < u.1)) = decide (0 < u.1) := by
        rw [Bool.eq_iff_iff]; simp only [decide_eq_true_eq]; omega
      rw [e]
    · rw [if_neg (by simpa using h2), decide_eq_false (show ¬ (0 < u.2 ∨ (u.2 = 0 ∧ 0 < u.1)) by omega)]
theorem behind_ {u v : Int × Int} {c : Cells} (hu : Vb u) (hv : Vb v) : F_law_behind [wd u, wd v] c = some (.bl (mv v u), c) := by
  have a1 := hu.bx; have a2 := hu.by_; have b1 := hv.bx; have b2 := hv.by_
  have e1 := upn u c
  have e2 := upn v c
  unfold mv
  by_cases h : upH v = upH u
  · rw [if_pos h]
    have h' : (!decide (upH u = upH v)) = false := by simp [h]
    have h3 : (!(upH u == upH v)) = false := by simp [h]
    unfold cr
    erw [F_law_behind, B_law_behind, e1, e2, gNe_bl, h', h3, w0_, w1_]
  · rw [if_neg h]
    have h' : (!decide (upH u = upH v)) = true := by simp [Ne.symm h]
    have h3 : (!(upH u == upH v)) = true := by simp [Ne.symm h]
    erw [F_law_behind, B_law_behind, e1, e2, gNe_bl, h', h3, w0_, w1_]
structure Pl (p : T3) : Prop where
  x : -1000000 ≤ p.1 ∧ p.1 ≤ 1000000
  y : -1000000 ≤ p.2.1 ∧ p.2.1 ≤ 1000000
  w : 0 < p.2.2 ∧ p.2.2 ≤ 1000
theorem place_ {n : Nat} {c : Cells} (h : Pool n c) : ∃ p c', F_law_place [.ref n] c = some (sd p, c') ∧ Pl p ∧ Pool n c' ∧ Kp n c c' := by
  obtain ⟨d0, c0, e0, l0, u0, p0, k0⟩ := digit_ h (m := 2) (by decide) (by walk_at "bdm")
  by_cases h0 : d0 = 0
  · obtain ⟨d1, c1, e1, l1, u1, p1, k1⟩ := digit_ p0 (m := 999) (by decide) (by walk_at "bdm")
    obtain ⟨d2, c2, e2, l2, u2, p2, k2⟩ := digit_ p1 (m := 1999999) (by decide) (by walk_at "bdm")
    obtain ⟨d3, c3, e3, l3, u3, p3, k3⟩ := digit_ p2 (m := 1999999) (by decide) (by walk_at "bdm")
    obtain ⟨q, e4, b1, b2, b3, b4⟩ := lowest_ (x := d2 - 999999) (y := d3 - 999999) (w := 1 + d1) (c := c3) (by omega) (by omega) (by omega) (by omega) (by omega) (by omega)
    have hd : decide (d0 = 0) = true := decide_eq_true h0
    refine ⟨q, c3, ?_, ⟨b1, b2, b3, b4⟩, p3, k0.trans (k1.trans (k2.trans k3))⟩
    erw [F_law_place, B_law_place, e0, hd, e1, e2, e3, e4]
  · obtain ⟨d1, c1, e1, l1, u1, p1, k1⟩ := digit_ p0 (m := 3) (by decide) (by walk_at "bdm")
    obtain ⟨d2, c2, e2, l2, u2, p2, k2⟩ := digit_ p1 (m := 9) (by decide) (by walk_at "bdm")
    obtain ⟨d3, c3, e3, l3, u3, p3, k3⟩ := digit_ p2 (m := 9) (by decide) (by walk_at "bdm")
    obtain ⟨q, e4, b1, b2, b3, b4⟩ := lowest_ (x := d2 - 4) (y := d3 - 4) (w := 1 + d1) (c := c3) (by omega) (by omega) (by omega) (by omega) (by omega) (by omega)
    have hd : decide (d0 = 0) = false := decide_eq_false h0
    refine ⟨q, c3, ?_, ⟨b1, b2, b3, b4⟩, p3, k0.trans (k1.trans (k2.trans k3))⟩
    erw [F_law_place, B_law_place, e0, hd, e1, e2, e3, e4]
theorem pow6 {c : Cells} : gPow (.int 10) (.int 6) c = some (.int 1000000, c) := by
  unfold gPow; rw [ii_, if_pos (by decide)]; rfl
theorem by_ {n : Nat} {c : Cells} (h : Pool n c) : ∃ m x y c', F_law_by [.ref n] c = some (.ref m, c') ∧ c.length ≤ m ∧ c'[m]? = some (.lst [.int x, .int y]) ∧ (-1000000000000000000 ≤ x ∧ x ≤ 1000000000000000000) ∧ (-1000000000000000000 ≤ y ∧ y ≤ 1000000000000000000) ∧ Kp n c c' := by
  obtain ⟨d1, c1, e1, l1, u1, p1, k1⟩ := digit_ (h.more (zs := [.lst [.int 1, .int 9, .int 1000000, .int 1000000000000000000]])) (m := 4) (by decide) (by walk_at "bdm")
  have hne : c.length ≠ n := h.ne (Nat.le_refl _)
  have g1 : c1[c.length]? = some (.lst [.int 1, .int 9, .int 1000000, .int 1000000000000000000]) := k1.get (by simp) hne
  have s1 := seqOf_lst g1
  have key : ∀ m : Int, 0 < m → m ≤ 1000000000000000000 → atD [D.int 1, .int 9, .int 1000000, .int 1000000000000000000] d1 = some (.int m) → ∃ m x y c', F_law_by [.ref n] c = some (.ref m, c') ∧ c.length ≤ m ∧ c'[m]? = some (.lst [.int x, .int y]) ∧ (-1000000000000000000 ≤ x ∧ x ≤ 1000000000000000000) ∧ (-1000000000000000000 ≤ y ∧ y ≤ 1000000000000000000) ∧ Kp n c c' := by
    intro m m0 m1 ha
    obtain ⟨d2, c2, e2, l2, u2, p2, k2⟩ := digit_ p1 (m := 2 * m) (by omega) (by walk_at "bdm")
    obtain ⟨d3, c3, e3, l3, u3, p3, k3⟩ := digit_ p2 (m := 2 * m) (by omega) (by walk_at "bdm")
    have kk : Kp n c c3 := Kp.more.trans (k1.trans (k2.trans k3))
    refine ⟨c3.length, d2 - m, d3 - m, c3 ++ [.lst [.int (d2 - m), .int (d3 - m)]], ?_, kk.len, by simp, by omega, by omega, kk.trans Kp.more⟩
    erw [F_law_by, B_law_by, pow6, pow18, e1, gIx_, s1, ha, e2, e3]
  have : d1 = 0 ∨ d1 = 1 ∨ d1 = 2 ∨ d1 = 3 := by omega
  rcases this with rfl | rfl | rfl | rfl
  · exact key 1 (by decide) (by decide) rfl
  · exact key 9 (by decide) (by decide) rfl
  · exact key 1000000 (by decide) (by decide) rfl
  · exact key 1000000000000000000 (by decide) (by decide) rfl
def mvd (p : T3) (x y : Int) : T3 := (p.1 + x * p.2.2, p.2.1 + y * p.2.2, p.2.2)
theorem moved_ {p : T3} {m : Nat} {x y : Int} {c : Cells} (hp : Pl p) (hc : c[m]? = some (.lst [.int x, .int y])) (hx : -1000000000000000000 ≤ x ∧ x ≤ 1000000000000000000) (hy : -1000000000000000000 ≤ y ∧ y ≤ 1000000000000000000) : F_law_moved [sd p, .ref m] c = some (sd (mvd p x y), c) := by
  have s1 := seqOf_lst hc
  have b := hp.w
  have q0 : gIx (.ref m) (.int 0) c = some (.int x, c) := by rw [gIx_, s1]; rfl
  have q1 : gIx (.ref m) (.int 1) c = some (.int y, c) := by rw [gIx_, s1]; rfl
  erw [F_law_moved, B_law_moved, q0, q1, i0_, i1_, i2_]
  rfl
theorem mvd_sb {p : T3} {x y : Int} (hp : Pl p) (hx : -1000000000000000000 ≤ x ∧ x ≤ 1000000000000000000) (hy : -1000000000000000000 ≤ y ∧ y ≤ 1000000000000000000) : Sb (mvd p x y) := by
  have b := hp.w; have bx := hp.x; have by_ := hp.y
  have a1 : My.Bd 64 x := bd64 (by omega)
  have a2 : My.Bd 64 y := bd64 (by omega)
  have a3 : My.Bd 64 p.2.2 := bd64 (by omega)
  have a4 : My.Bd 64 p.1 := bd64 (by omega)
  have a5 : My.Bd 64 p.2.1 := bd64 (by omega)
  exact ⟨(My.Bd.add a4 (a1.mul a3)).mono (by decide), (My.Bd.add a5 (a2.mul a3)).mono (by decide), a3.mono (by decide), b.1⟩
theorem compF_go {α : Type} {e : α → D} {ks : List (Nat × Cell)} {tt : XT} {te : XE} {ρ : Qm.Env} {c : Cells} (hs : stays ks c) (b : α → Bool) (v : α → D) : ∀ (l : List α),
    (∀ a ∈ l, ∀ c', c <+: c' → tt (some (e a) :: ρ) c' = some (b a, c')) →
    (∀ a ∈ l, ∀ c', c <+: c' → te (some (e a) :: ρ) c' = some (v a, c')) →
    ∀ (acc : List D) (x : Option D), acc.length + l.length ≤ 9000000 → compGo c.length ks (gName 0) tt te (l.map e) (x :: ρ) (c ++ [.lst acc]) = some (c ++ [.lst (acc ++ (l.filter b).map v)])
  | [], _, _, acc, x, _ => by
    have st : stays ks (c ++ [.lst acc]) := fun p hp => pre_get ⟨_, rfl⟩ (hs p hp)
    rw [List.map_nil]
    unfold compGo
    rw [if_pos st]
    simp
  | a :: l, ht, hv, acc, x, hn => by
    have st : stays ks (c ++ [.lst acc]) := fun p hp => pre_get ⟨_, rfl⟩ (hs p hp)
    have e1 := ht a List.mem_cons_self (c ++ [.lst acc]) ⟨_, rfl⟩
    have e2 := hv a List.mem_cons_self (c ++ [.lst acc]) ⟨_, rfl⟩
    have ht' := fun d' hd => ht d' (List.mem_cons_of_mem a hd)
    have hv' := fun d' hd => hv d' (List.mem_cons_of_mem a hd)
    rw [List.length_cons] at hn
    rw [List.map_cons]
    unfold compGo
    rw [if_pos st]
    by_cases hb : b a = true
    · have e3 : (c ++ [.lst acc])[c.length]? = some (.lst acc) := by simp
      have e4 : (c ++ [Cell.lst acc]).set c.length (.lst (acc ++ [v a])) = c ++ [.lst (acc ++ [v a])] := by simp
      have e5 := compF_go hs b v l ht' hv' (acc ++ [v a]) (some (e a)) (by simp only [List.length_append, List.length_cons, List.length_nil]; omega)
      simp only [gName_, List.set_cons_zero, Option.bind_some, e1, hb, if_true, e2, e3, e4]
      rw [if_pos (show acc.length < LINE by rw [LINE_eq]; omega), e5, List.filter_cons_of_pos hb]
      simp
    · have e5 := compF_go hs b v l ht' hv' acc (some (e a)) (by omega)
      have hb' : b a = false := by simpa using hb
      simp only [gName_, List.set_cons_zero, Option.bind_some, e1, hb', Bool.false_eq_true, if_false]
      rw [e5, List.filter_cons_of_neg hb]
theorem compF {α : Type} {e : α → D} {l : List α} {it : XI} {cap : List (Option Nat)} {tt : XT} {te : XE} {σ ρ : Qm.Env} {x : Option D} {c : Cells} {ks : List (Nat × Cell)} (b : α → Bool) (v : α → D) (hi : it σ c = some (⟨l.map e, ks⟩, c)) (hc : capt σ cap = x :: ρ) (hs : stays ks c)
    (ht : ∀ a ∈ l, ∀ c', c <+: c' → tt (some (e a) :: ρ) c' = some (b a, c')) (hv : ∀ a ∈ l, ∀ c', c <+: c' → te (some (e a) :: ρ) c' = some (v a, c')) (hn : l.length ≤ 9000000) :
    eComp it cap (gName 0) tt te σ c = some (.ref c.length, c ++ [.lst ((l.filter b).map v)]) := by
  have e := compF_go hs b v l ht hv [] x (by simp; omega)
  unfold eComp
  rw [hi, Option.bind_some]
  dsimp only
  rw [hc, e]
  rfl
theorem omap_bl {α : Type} {f : α → Bool} : ∀ l : List α, omap asB (l.map fun a => D.bl (f a)) = some (l.map f)
  | [] => rfl
  | a :: l => by simp only [List.map_cons, omap, asB, Option.bind_some, omap_bl l]
theorem any_ {α : Type} {l : List α} {f : α → Bool} {n : Nat} {c : Cells} (h : c[n]? = some (.lst (l.map fun a => D.bl (f a)))) : bAny [.ref n] c = some (.bl (l.any f), c) := by
  unfold bAny one
  simp only [lstOf_lst h, Option.bind_some, omap_bl]
  rw [List.any_map]
  rfl
noncomputable abbrev anE : XE := eComp (iLst (eV 3)) [none, some 6, some 2] (gName 0) tYes (eCall F_law_same_way [] (aCons (eV 1) (aCons (eCall F_law_way [] (aCons (eV 2) (aCons (eV 0) aNil))) aNil)))
theorem anE_ {b : T3} {S : Nat} {xs : List (Wp b)} {w : Int × Int} {A0 A1 A4 A5 : Option D} {r : Qm.Env} {c : Cells} (hb : Sb b) (hw : Vb w) (hS : c[S]? = some (.lst (xs.map es))) (hn : xs.length ≤ 1000) :
    anE (A0 :: A1 :: some (sd b) :: some (.ref S) :: A4 :: A5 :: some (wd w) :: r) c = some (.ref c.length, c ++ [.lst (xs.map fun q => D.bl (sameW w (wy b q.1)))]) := by
  have e := compF (e := es (b := b)) (l := xs) (tt := tYes) (te := eCall F_law_same_way [] (aCons (eV 1) (aCons (eCall F_law_way [] (aCons (eV 2) (aCons (eV 0) aNil))) aNil))) (it := iLst (eV 3)) (cap := [none, some 6, some 2]) (ρ := [some (wd w), some (sd b)]) (x := none) (σ := A0 :: A1 :: some (sd b) :: some (.ref S) :: A4 :: A5 :: some (wd w) :: r) (c := c) (fun _ => true) (fun q => D.bl (sameW w (wy b q.1))) (iLst' rfl hS) rfl (fun p hp => by cases List.mem_singleton.mp hp; exact hS)
    (fun a _ c' _ => rfl) (fun a _ c' _ => by
      have e1 := way_ (c := c') hb a.2.sb
      have e2 := same_way_ (c := c') hw (vb_wy hb a.2.sb)
      show eCall F_law_same_way [] (aCons (eV 1) (aCons (eCall F_law_way [] (aCons (eV 2) (aCons (eV 0) aNil))) aNil)) [some (sd a.1), some (wd w), some (sd b)] c' = _
      erw [e1, e2]) (by omega)
  rw [List.filter_eq_self.mpr (fun _ _ => rfl)] at e
  exact e
theorem gNe_w {u : Int × Int} {c : Cells} : gNe (wd u) (.tup [.int 0, .int 0]) c = some (.bl (!decide (u = (0, 0))), c) := by
  have e : eqM (wd u) (.tup [.int 0, .int 0]) c = (data c 6 (wd u)).bind fun d => (data c 6 (.tup [.int 0, .int 0])).bind fun e => some (@decide (d = e) (Classical.propDecidable _)) := rfl
  have d1 : data c 6 (wd u) = some (.tuple [.int u.1, .int u.2]) := rfl
  have d2 : data c 6 (.tup [.int 0, .int 0]) = some (.tuple [.int 0, .int 0]) := rfl
  unfold gNe
  rw [e, d1, d2, Option.bind_some, Option.bind_some]
  show some (D.bl (!_), c) = _
  congr 4
  rw [Bool.eq_iff_iff]
  simp only [decide_eq_true_eq]
  obtain ⟨u1, u2⟩ := u
  simp
theorem sameW_comm (u v : Int × Int) : sameW u v = sameW v u := by
  unfold sameW
  rw [Bool.eq_iff_iff]
  simp only [Bool.and_eq_true, decide_eq_true_eq]
  rw [Int.mul_comm u.1 v.2, Int.mul_comm u.2 v.1, Int.mul_comm u.1 v.1, Int.mul_comm u.2 v.2]
  constructor
  · rintro ⟨h1, h2⟩
    exact ⟨by rw [Int.mul_comm v.1 u.2, Int.mul_comm v.2 u.1, Int.mul_comm u.2, Int.mul_comm u.1]; omega, h2⟩
  · rintro ⟨h1, h2⟩
    exact ⟨by rw [Int.mul_comm v.1 u.2, Int.mul_comm v.2 u.1, Int.mul_comm u.2, Int.mul_comm u.1] at h1; omega, h2⟩
noncomputable abbrev clB : XS := sSeq (sSet 5 (eCall F_law_moved [] (aCons (eCall F_law_place [] (aCons (eCall F_law_pool [] (aCons (eV 0) (aCons (e2 gAdd (eC (.int 3)) (eV 4)) aNil))) aNil)) (aCons (eV 1) aNil))))
  (sSeq (sSet 6 (eCall F_law_way [] (aCons (eV 2) (aCons (eV 5) aNil))))
  (sIf (tAnd (tV (e2 gNe (eV 6) (eTup (aCons (eC (.int 0)) (aCons (eC (.int 0)) aNil))))) (tNot (tV (eB bAny (aCons anE aNil))))) (sExpr (eM mAppend (eV 3) (aCons (eV 5) aNil))) sNil))
structure Ga (ns : List Int) (L0 : LamT) (m : Nat) (x y : Int) (S : Nat) {b : T3} (xs : List (Wp b)) (c : Cells) : Prop where
  c0 : c[0]? = some (.ro (ns.map D.int))
  c1 : c[1]? = some (.tab L0.code L0.qual)
  cm : c[m]? = some (.lst [.int x, .int y])
  cs : c[S]? = some (.lst (xs.map es))
  pw : xs.Pairwise fun p q => sameW (wy b p.1) (wy b q.1) = false
theorem Ga.kp {ns : List Int} {L0 : LamT} {m n : Nat} {x y : Int} {S : Nat} {b : T3} {xs : List (Wp b)} {c c' : Cells} (h : Ga ns L0 m x y S xs c) (hn : c.length ≤ n) (k : Kp n c c') : Ga ns L0 m x y S xs c' := by
  have lt : ∀ {i : Nat} {z : Cell}, c[i]? = some z → i ≠ n := fun e => by have := get_lt e; omega
  exact ⟨k.get h.c0 (lt h.c0), k.get h.c1 (lt h.c1), k.get h.cm (lt h.cm), k.get h.cs (lt h.cs), h.pw⟩
theorem clB_ {ns : List Int} {L0 : LamT} {m : Nat} {x y : Int} {S : Nat} {b : T3} {xs : List (Wp b)} {c : Cells} {i : Nat} {A5 A6 : Option D} {r : Qm.Env} (hb : Sb b) (G : Ga ns L0 m x y S xs c) (hS : S ≠ 0 ∧ S ≠ 1 ∧ S ≠ m) (hx : -1000000000000000000 ≤ x ∧ x ≤ 1000000000000000000) (hy : -1000000000000000000 ≤ y ∧ y ≤ 1000000000000000000) (hi : i < 31) (hl : xs.length ≤ i) :
    ∃ (xs' : List (Wp b)) (A5' A6' : Option D) (c' : Cells), clB (some (.ref 0) :: some (.ref m) :: some (sd b) :: some (.ref S) :: some (.int i) :: A5 :: A6 :: r) c = some (.nx, some (.ref 0) :: some (.ref m) :: some (sd b) :: some (.ref S) :: some (.int i) :: A5' :: A6' :: r, c') ∧ Ga ns L0 m x y S xs' c' ∧ xs'.length ≤ i + 1 := by
  obtain ⟨a1, a2, e1, n1, n2⟩ := pool_ (s := 0) (c := c) (ns := ns) (k := 3 + i) G.c0 (by omega) (by omega)
  have P1 : Pool c.length (c ++ [.lst [.int a1, .int a2]]) := ⟨a1, a2, by simp, n1, n2⟩
  obtain ⟨p, c2, e2, hp, P2, k2⟩ := place_ P1
  have G2 : Ga ns L0 m x y S xs c2 := G.kp (Nat.le_refl _) (Kp.more.trans k2)
  have e3 := moved_ (p := p) hp G2.cm hx hy
  have sb := mvd_sb hp hx hy
  have e4 := way_ (c := c2) hb sb
  have vb := vb_wy hb sb
  have e5 := gNe_w (u := wy b (mvd p x y)) (c := c2)
  have e6 := anE_ (A0 := some (.ref 0)) (A1 := some (.ref m)) (A4 := some (.int i)) (A5 := some (sd (mvd p x y))) (r := r) hb vb G2.cs (by omega)
  have e7 := any_ (l := xs) (f := fun q => sameW (wy b (mvd p x y)) (wy b q.1)) (n := c2.length) (c := c2 ++ [.lst (xs.map fun q => D.bl (sameW (wy b (mvd p x y)) (wy b q.1)))]) (by simp)
  by_cases h1 : wy b (mvd p x y) = (0, 0)
  · have d1 : (!decide (wy b (mvd p x y) = (0, 0))) = false := by simp [h1]
    rw [d1] at e5
    refine ⟨xs, some (sd (mvd p x y)), some (wd (wy b (mvd p x y))), c2, ?_, G2, by omega⟩
    erw [e1, e2, e3, e4, e5]
  · have d1 : (!decide (wy b (mvd p x y) = (0, 0))) = true := by simp [h1]
    rw [d1] at e5
    have kk : Kp c2.length c2 (c2 ++ [.lst (xs.map fun q => D.bl (sameW (wy b (mvd p x y)) (wy b q.1)))]) := Kp.more
    have G3 := G2.kp (Nat.le_refl _) kk
    cases h2 : xs.any fun q => sameW (wy b (mvd p x y)) (wy b q.1) with
    | true =>
      rw [h2] at e7
      refine ⟨xs, some (sd (mvd p x y)), some (wd (wy b (mvd p x y))), _, ?_, G3, by omega⟩
      unfold anE at e6
      erw [e1, e2, e3, e4, e5, e6, e7]
    | false =>
      rw [h2] at e7
      have ap := appD (e := es (b := b)) (x := ⟨mvd p x y, sb, h1⟩) G3.cs (by omega)
      have ap' : mAppend (.ref S) [sd (mvd p x y)] (c2 ++ [Cell.lst (xs.map fun q => D.bl (sameW (wy b (mvd p x y)) (wy b q.1)))]) = some (.non, (c2 ++ [Cell.lst (xs.map fun q => D.bl (sameW (wy b (mvd p x y)) (wy b q.1)))]).set S (Cell.lst ((xs ++ [(⟨mvd p x y, sb, h1⟩ : Wp b)]).map es))) := ap
      have s2 := lstOf_lst G3.cs
      refine ⟨xs ++ [⟨mvd p x y, sb, h1⟩], some (sd (mvd p x y)), some (wd (wy b (mvd p x y))), _, ?_, ⟨set_ne G3.c0 (Ne.symm hS.1), set_ne G3.c1 (Ne.symm hS.2.1), set_ne G3.cm (Ne.symm hS.2.2), set_eq (get_lt G3.cs), ?_⟩, by simp; omega⟩
      · unfold anE at e6
        erw [e1, e2, e3, e4, e5, e6, e7, s2, ap']
      · rw [List.pairwise_append]
        refine ⟨G3.pw, List.pairwise_singleton .., fun q hq z hz => ?_⟩
        cases List.mem_singleton.mp hz
        rw [sameW_comm]
        have := List.any_eq_false.mp h2 q hq
        simpa using this
theorem gtL_asym : ∀ a b : List Int, gtL a b = true → gtL b a = false
  | [], [], _ => rfl
  | [], _ :: _, h => by simp [gtL] at h
  | _ :: _, [], _ => by simp [gtL]
  | x :: a, y :: b, h => by
    by_cases e : x = y
    · subst e
      simp [gtL] at h ⊢
      exact gtL_asym a b h
    · simp [gtL, e, Ne.symm e] at h ⊢
      omega
theorem gtL_tr : ∀ a b c : List Int, gtL a b = false → gtL b c = false → gtL a c = false
  | [], _, [], _, _ => by simp [gtL]
  | [], _, _ :: _, _, _ => by simp [gtL]
  | _ :: _, [], _, h, _ => by simp [gtL] at h
  | _ :: _, _ :: _, [], _, h => by simp [gtL] at h
  | x :: a, y :: b, z :: c, h1, h2 => by
    by_cases e : x = y
    · subst e
      by_cases e2 : x = z
      · subst e2
        simp [gtL] at h1 h2 ⊢
        exact gtL_tr a b c h1 h2
      · simp [gtL, e2] at h1 h2 ⊢
        omega
    · by_cases e2 : y = z
      · subst e2
        simp [gtL, e] at h1 h2 ⊢
        omega
      · simp [gtL, e, e2] at h1 h2
        have e3 : x ≠ z := by omega
        simp [gtL, e3]
        omega
theorem gtL_anti : ∀ a b : List Int, gtL a b = false → gtL b a = false → a = b
  | [], [], _, _ => rfl
  | [], _ :: _, _, h => by simp [gtL] at h
  | _ :: _, [], h, _ => by simp [gtL] at h
  | x :: a, y :: b, h1, h2 => by
    by_cases e : x = y
    · subst e
      simp [gtL] at h1 h2
      rw [gtL_anti a b h1 h2]
    · simp [gtL, e, Ne.symm e] at h1 h2
      omega
theorem perm_gtL_eq : ∀ {xs ys : List (List Int)}, xs.Perm ys → xs.Pairwise (fun a b => gtL a b = false) → ys.Pairwise (fun a b => gtL a b = false) → xs = ys
  | [], _, p, _, _ => (List.nil_perm.mp p).symm
  | x :: xs, [], p, _, _ => absurd p.length_eq (by simp)
  | x :: xs, y :: ys, p, h1, h2 => by
    have e : x = y := by
      have m1 : x ∈ y :: ys := p.subset List.mem_cons_self
      have m2 : y ∈ x :: xs := p.symm.subset List.mem_cons_self
      rcases List.mem_cons.mp m1 with e | m1
      · exact e
      rcases List.mem_cons.mp m2 with e | m2
      · exact e.symm
      exact gtL_anti _ _ ((List.pairwise_cons.mp h1).1 _ m2) ((List.pairwise_cons.mp h2).1 _ m1)
    subst e
    rw [perm_gtL_eq (List.Perm.cons_inv p) (List.pairwise_cons.mp h1).2 (List.pairwise_cons.mp h2).2]
theorem srt_pw (ts : List (List Int)) : (ts.mergeSort leL).Pairwise fun a b => gtL a b = false := by
  have := List.pairwise_mergeSort (le := leL) (fun a b c h1 h2 => by
    unfold leL at *
    simp only [Bool.not_eq_true'] at *
    exact gtL_tr a b c h1 h2) (fun a b => by
    unfold leL
    simp only [Bool.or_eq_true, Bool.not_eq_true']
    cases h : gtL a b with
    | false => exact .inl rfl
    | true => exact .inr (gtL_asym _ _ h)) ts
  exact this.imp fun h => by
    unfold leL at h
    simpa only [Bool.not_eq_true'] using h
theorem srt_perm {ts us : List (List Int)} (p : ts.Perm us) : ts.mergeSort leL = us.mergeSort leL :=
  perm_gtL_eq ((List.mergeSort_perm ..).trans (p.trans (List.mergeSort_perm ..).symm)) (srt_pw ts) (srt_pw us)
def row (p : T3) : List Int := [p.1, p.2.1, p.2.2]
theorem rows_ {b : T3} : ∀ xs : List (Wp b), omap rowOf (xs.map es) = some (xs.map fun p => row p.1)
  | [] => rfl
  | x :: xs => by
    simp only [List.map_cons, omap, rows_ xs]
    rfl
theorem sortT_ {b : T3} {xs : List (Wp b)} {n : Nat} {c : Cells} (h : c[n]? = some (.lst (xs.map es))) (hn : xs.length < 64) : bSortT [.ref n] c = some (.ref c.length, c ++ [.lst (((xs.map fun p => row p.1).mergeSort leL).map fun r => .tup (r.map .int))]) := by
  unfold bSortT one
  simp only [lstOf_lst h, Option.bind_some, rows_]
  rw [if_pos]
  refine ⟨by simpa using hn, ?_⟩
  rw [List.all_map]
  exact List.all_eq_true.mpr fun _ _ => rfl
theorem gather_ {ns : List Int} {L0 : LamT} {m : Nat} {x y : Int} {S : Nat} {b : T3} {c : Cells} {d : Int} (hb : Sb b) (G : Ga ns L0 m x y S ([] : List (Wp b)) c) (hS : S ≠ 0 ∧ S ≠ 1 ∧ S ≠ m) (hx : -1000000000000000000 ≤ x ∧ x ≤ 1000000000000000000) (hy : -1000000000000000000 ≤ y ∧ y ≤ 1000000000000000000) (d0 : 0 ≤ d) (d1 : d < 31) :
    ∃ (xs : List (Wp b)) (A4 A5 A6 : Option D) (c' : Cells), forGo [] (gName 4) clB (rng 0 d.toNat) [some (.ref 0), some (.ref m), some (sd b), some (.ref S), none, none, none, none, none, none, none] c = some (.nx, [some (.ref 0), some (.ref m), some (sd b), some (.ref S), A4, A5, A6, none, none, none, none], c') ∧ Ga ns L0 m x y S xs c' ∧ xs.length ≤ 31 := by
  obtain ⟨σ', c', e, xs, A4, A5, A6, rfl, G', hl⟩ := forGo_inv (ks := []) (g := gName 4) (body := clB) (fun i σ c' => ∃ (xs : List (Wp b)) (A4 A5 A6 : Option D), σ = [some (.ref 0), some (.ref m), some (sd b), some (.ref S), A4, A5, A6, none, none, none, none] ∧ Ga ns L0 m x y S xs c' ∧ xs.length ≤ i)
    (rng 0 d.toNat) 0 [some (.ref 0), some (.ref m), some (sd b), some (.ref S), none, none, none, none, none, none, none] c (fun _ _ _ _ => stays_nil) (by
      rintro i z σ c' hz ⟨xs, A4, A5, A6, rfl, G', hl⟩
      obtain ⟨hi, rfl⟩ : i < d.toNat ∧ z = .int (0 + (i : Int)) := by
        unfold rng at hz
        rw [List.getElem?_map] at hz
        by_cases hi : i < d.toNat
        · rw [List.getElem?_range hi] at hz; cases hz; exact ⟨hi, rfl⟩
        · rw [List.getElem?_eq_none_iff.mpr (by simpa using Nat.le_of_not_lt hi)] at hz; cases hz
      obtain ⟨xs', A5', A6', c2, e, G2, l2⟩ := clB_ (i := i) (A5 := A5) (A6 := A6) (r := [none, none, none, none]) hb G' hS hx hy (by omega) (by omega)
      rw [show (0 + (i : Int)) = (i : Int) by omega]
      exact ⟨_, _, _, c2, rfl, e, xs', _, A5', A6', rfl, G2, by omega⟩)
    ⟨[], none, none, none, rfl, G, Nat.zero_le _⟩
  refine ⟨xs, A4, A5, A6, c', e, G', ?_⟩
  have : (rng 0 d.toNat).length = d.toNat := by simp [rng]
  omega
theorem eqW {x y : D} {c : Cells} {p q : PyData} (hx : data c 60 x = some p) (hy : data c 60 y = some q) (h : p = q) : gEqW x y c = some (.bl true, c) ∧ gNeW x y c = some (.bl false, c) := by
  subst h
  unfold gEqW gNeW eqMW
  rw [hx, hy]
  simp
theorem data_ref {c : Cells} {k n : Nat} {l : List D} (h : c[n]? = some (.lst l)) : data c (k + 1) (.ref n) = (omap (data c k) l).bind fun ds => some (.list ds) := by
  simp only [data, h]
theorem eqSame {c : Cells} {a b : Nat} {l : List D} (ha : c[a]? = some (.lst l)) (hb : c[b]? = some (.lst l)) (hd : ∃ ds, omap (data c 59) l = some ds) : gEqW (.ref a) (.ref b) c = some (.bl true, c) ∧ gNeW (.ref a) (.ref b) c = some (.bl false, c) := by
  obtain ⟨ds, hd⟩ := hd
  have h1 : data c 60 (.ref a) = some (.list ds) := by rw [data_ref ha, hd]; rfl
  have h2 : data c 60 (.ref b) = some (.list ds) := by rw [data_ref hb, hd]; rfl
  exact eqW h1 h2 rfl
theorem dat_es {b : T3} {c : Cells} : ∀ xs : List (Wp b), ∃ ds, omap (data c 59) (xs.map es) = some ds
  | [] => ⟨[], rfl⟩
  | x :: xs => by
    obtain ⟨ds, h⟩ := dat_es (c := c) xs
    refine ⟨.tuple [.int x.1.1, .int x.1.2.1, .int x.1.2.2] :: ds, ?_⟩
    simp only [List.map_cons, omap, h]
    rfl
theorem dat_int {c : Cells} {k : Nat} : ∀ r : List Int, omap (data c (k + 1)) (r.map D.int) = some (r.map PyData.int)
  | [] => rfl
  | x :: r => by
    simp only [List.map_cons, omap, dat_int (c := c) (k := k) r]
    rfl
theorem dat_rows {c : Cells} : ∀ rs : List (List Int), ∃ ds, omap (data c 59) (rs.map fun r => D.tup (r.map .int)) = some ds
  | [] => ⟨[], rfl⟩
  | r :: rs => by
    obtain ⟨ds, h⟩ := dat_rows (c := c) rs
    have e : data c 59 (.tup (r.map .int)) = some (.tuple (r.map PyData.int)) := by
      show (omap (data c 58) (r.map D.int)).bind (fun ds => some (PyData.tuple ds)) = _
      rw [dat_int (c := c) (k := 57) r]
      rfl
    refine ⟨.tuple (r.map PyData.int) :: ds, ?_⟩
    simp only [List.map_cons, omap, h, e, Option.bind_some]
noncomputable abbrev inB : XS := sIf (tNot (tV (eCall F_law_behind [] (aCons (eCall F_law_way [] (aCons (eV 2) (aCons (e2 gIx (eV 8) (eV 4)) aNil))) (aCons (eCall F_law_way [] (aCons (eV 2) (aCons (e2 gIx (eV 8) (eV 9)) aNil))) aNil))))) (sRet (eC (.bl false))) sNil
noncomputable abbrev ouB : XS := sFor (iRng1 (aCons (eV 4) aNil)) (gName 9) inB
theorem rng_at' {lo : Int} {n i : Nat} {z : D} (hz : (rng lo n)[i]? = some z) : i < n ∧ z = .int (lo + (i : Int)) := by
  unfold rng at hz
  rw [List.getElem?_map] at hz
  by_cases hi : i < n
  · rw [List.getElem?_range hi] at hz; cases hz; exact ⟨hi, rfl⟩
  · rw [List.getElem?_eq_none_iff.mpr (by simpa using Nat.le_of_not_lt hi)] at hz; cases hz
theorem ouB_ {b : T3} {ys : List (Wp b)} {n k : Nat} {A0 A1 A3 A5 A6 A7 A9 A10 : Option D} {c : Cells} (hb : Sb b) (hc : c[n]? = some (.lst (ys.map es))) (hp : ys.Pairwise fun x y => lw x y = true) (hk : k < ys.length) (hl : ys.length ≤ 31) :
    ∃ A9', ouB [A0, A1, some (sd b), A3, some (.int k), A5, A6, A7, some (.ref n), A9, A10] c = some (.nx, [A0, A1, some (sd b), A3, some (.int k), A5, A6, A7, some (.ref n), A9', A10], c) := by
  have s1 := seqOf_lst hc
  have hr : iRng1 (aCons (eV 4) aNil) [A0, A1, some (sd b), A3, some (.int k), A5, A6, A7, some (.ref n), A9, A10] c = some (⟨rng 0 (k : Int).toNat, []⟩, c) := iRng1' (j := k) rfl (by omega)
  have ak : atD (ys.map es) (k : Int) = some (sd ys[k].1) := at_map (e := es (b := b)) (List.getElem?_eq_getElem hk)
  obtain ⟨σ', c', e, A9', rfl, rfl⟩ := forGo_inv (ks := []) (g := gName 9) (body := inB) (fun _ σ c' => ∃ A9', σ = [A0, A1, some (sd b), A3, some (.int k), A5, A6, A7, some (.ref n), A9', A10] ∧ c' = c) (rng 0 (k : Int).toNat) 0 [A0, A1, some (sd b), A3, some (.int k), A5, A6, A7, some (.ref n), A9, A10] c (fun _ _ _ _ => stays_nil) (by
      rintro i z σ c' hz ⟨A9', rfl, rfl⟩
      obtain ⟨hi, rfl⟩ := rng_at' hz
      have hik : i < k := by omega
      have hil : i < ys.length := by omega
      have ai : atD (ys.map es) (i : Int) = some (sd ys[i].1) := at_map (e := es (b := b)) (List.getElem?_eq_getElem hil)
      have lt : lw ys[i] ys[k] = true := List.pairwise_iff_getElem.mp hp i k hil hk hik
      have w1 := way_ (c := c') hb (ys[k]).2.sb
      have w2 := way_ (c := c') hb (ys[i]).2.sb
      have bh := behind_ (c := c') (vb_wy hb (ys[k]).2.sb) (vb_wy hb (ys[i]).2.sb)
      have lt' : mv (wy b ys[i].1) (wy b ys[k].1) = true := lt
      rw [lt'] at bh
      rw [show (0 + (i : Int)) = (i : Int) by omega]
      refine ⟨_, c', [A0, A1, some (sd b), A3, some (.int k), A5, A6, A7, some (.ref n), some (.int i), A10], c', rfl, ?_, _, rfl, rfl⟩
      erw [gIx_, s1, ak, ai, w1, w2, bh]) ⟨A9, rfl, rfl⟩
  refine ⟨A9', ?_⟩
  show sFor _ _ _ _ _ = _
  rw [sFor_ hr]
  exact e
noncomputable abbrev gaF : XS := sFor (iRng1 (aCons (eCall F_law_digit [] (aCons (eCall F_law_pool [] (aCons (eV 0) (aCons (eC (.int 2)) aNil))) (aCons (eC (.int 31)) aNil))) aNil)) (gName 4) clB
noncomputable abbrev twF : XS := sFor (iRng1 (aCons (eB bLen (aCons (eV 8) aNil)) aNil)) (gName 4) ouB
theorem bList_ {n : Nat} {l : List D} {c : Cells} (h : c[n]? = some (.lst l)) : bList [.ref n] c = some (.ref c.length, c ++ [.lst l]) := by
  unfold bList one
  simp only [seqOf_lst h, Option.bind_some]
theorem rev_ {n : Nat} {l : List D} {c : Cells} (h : c[n]? = some (.lst l)) (hn : l.length ≤ 1000) : bListRev [.ref n] c = some (.ref c.length, c ++ [.lst l.reverse]) := by
  unfold bListRev
  simp only [lstOf_lst h, Option.bind_some]
  rw [if_pos (by rw [LINE_eq]; omega)]
theorem clr_ {n : Nat} {l : List D} {c : Cells} (h : c[n]? = some (.lst l)) : mClear (.ref n) [] c = some (.non, c.set n (.lst [])) := by
  unfold mClear
  simp only [lstOf_lst h, Option.bind_some]
theorem isl_ {n : Nat} {l : List D} {c : Cells} (h : c[n]? = some (.lst l)) : bIsinst [.ref n, .ty "list"] c = some (.bl true, c) := by
  simp [bIsinst, isKind, two, h]
theorem twF_ {b : T3} {ys : List (Wp b)} {n : Nat} {A0 A1 A3 A4 A5 A6 A7 A9 A10 : Option D} {c : Cells} (hb : Sb b) (hc : c[n]? = some (.lst (ys.map es))) (hp : ys.Pairwise fun x y => lw x y = true) (hl : ys.length ≤ 31) :
    ∃ A4' A9', twF [A0, A1, some (sd b), A3, A4, A5, A6, A7, some (.ref n), A9, A10] c = some (.nx, [A0, A1, some (sd b), A3, A4', A5, A6, A7, some (.ref n), A9', A10], c) := by
  have bl := lenD (e := es (b := b)) hc
  have hr : iRng1 (aCons (eB bLen (aCons (eV 8) aNil)) aNil) [A0, A1, some (sd b), A3, A4, A5, A6, A7, some (.ref n), A9, A10] c = some (⟨rng 0 (ys.length : Int).toNat, []⟩, c) := iRng1' (j := ys.length) (by erw [bl]) (by omega)
  obtain ⟨σ', c', e, A4', A9', rfl, rfl⟩ := forGo_inv (ks := []) (g := gName 4) (body := ouB) (fun _ σ c' => ∃ A4' A9', σ = [A0, A1, some (sd b), A3, A4', A5, A6, A7, some (.ref n), A9', A10] ∧ c' = c) (rng 0 (ys.length : Int).toNat) 0 [A0, A1, some (sd b), A3, A4, A5, A6, A7, some (.ref n), A9, A10] c (fun _ _ _ _ => stays_nil) (by
      rintro i z σ c' hz ⟨A4', A9', rfl, rfl⟩
      obtain ⟨hi, rfl⟩ := rng_at' hz
      rw [show (0 + (i : Int)) = (i : Int) by omega]
      obtain ⟨A9'', e⟩ := ouB_ (k := i) (A0 := A0) (A1 := A1) (A3 := A3) (A5 := A5) (A6 := A6) (A7 := A7) (A9 := A9') (A10 := A10) hb hc hp (by omega) hl
      exact ⟨_, c', _, c', rfl, e, _, A9'', rfl, rfl⟩) ⟨A4, A9, rfl, rfl⟩
  refine ⟨A4', A9', ?_⟩
  show sFor _ _ _ _ _ = _
  rw [sFor_ hr]
  exact e
theorem pw_perm {b : T3} {xs ys : List (Wp b)} (p : ys.Perm xs) (h : xs.Pairwise fun p q => sameW (wy b p.1) (wy b q.1) = false) (g : ys.Pairwise fun x y => lw y x = false) : ys.Pairwise fun x y => lw x y = true := by
  have h2 : ys.Pairwise fun p q => sameW (wy b p.1) (wy b q.1) = false := (p.pairwise_iff (fun {x y} e => by rw [sameW_comm]; exact e)).mpr h
  exact List.Pairwise.imp₂ (fun a b h1 h2 => lw_of h1 h2) g h2
theorem law_true (L0 : LamT) (ns : List Int) (h : ns.length ≤ 63) : ∃ c, F_law L0 [.ref 0] [.ro (ns.map Qm.D.int), .tab L0.code L0.qual] = some (.bl true, c) := by
  obtain ⟨c0, hc0⟩ : ∃ c0 : Cells, c0 = [.ro (ns.map Qm.D.int), .tab L0.code L0.qual] := ⟨_, rfl⟩
  rw [← hc0]
  have g0 : c0[0]? = some (.ro (ns.map D.int)) := by rw [hc0]; rfl
  have g1 : c0[1]? = some (.tab L0.code L0.qual) := by rw [hc0]; rfl
  clear hc0
  have L1 := get_lt g1
  obtain ⟨a1, a2, e1, n1, n2⟩ := pool_ (s := 0) (c := c0) (ns := ns) (k := 40) g0 (by decide) (by decide)
  have P1 : Pool c0.length (c0 ++ [.lst [.int a1, .int a2]]) := ⟨a1, a2, by simp, n1, n2⟩
  obtain ⟨m, x, y, c2, e2, lm, cm, hx, hy, k2⟩ := by_ P1
  have k2' : Kp c0.length c0 c2 := Kp.more.trans k2
  have h20 := k2'.get g0 (by omega)
  have h21 := k2'.get g1 (by omega)
  have L2 := get_lt h21
  have Lm := get_lt cm
  obtain ⟨b1, b2, e3, n3, n4⟩ := pool_ (s := 0) (c := c2) (ns := ns) (k := 1) h20 (by decide) (by decide)
  have P3 : Pool c2.length (c2 ++ [.lst [.int b1, .int b2]]) := ⟨b1, b2, by simp, n3, n4⟩
  obtain ⟨p, c4, e4, hp, P4, k4⟩ := place_ P3
  have k4' : Kp c2.length c2 c4 := Kp.more.trans k4
  have h40 := k4'.get h20 (by omega)
  have h41 := k4'.get h21 (by omega)
  have h4m := k4'.get cm (by omega)
  have e5 := moved_ (p := p) hp h4m hx hy
  have sb := mvd_sb hp hx hy
  generalize mvd p x y = b at e5 sb
  have L4 := get_lt h41
  have L4m := get_lt h4m
  have G5 : Ga ns L0 m x y c4.length ([] : List (Wp b)) (c4 ++ [.lst []]) := ⟨get_app h40, get_app h41, get_app h4m, last_get, .nil⟩
  obtain ⟨f1, f2, e6, n5, n6⟩ := pool_ (s := 0) (c := c4 ++ [.lst []]) (ns := ns) (k := 2) G5.c0 (by decide) (by decide)
  have P6 : Pool (c4 ++ [Cell.lst []]).length (c4 ++ [.lst []] ++ [.lst [.int f1, .int f2]]) := ⟨f1, f2, last_get, n5, n6⟩
  obtain ⟨d, c7, e7, d0, d1, P7, k7⟩ := digit_ P6 (m := 31) (by decide) (by walk_at "bdm")
  have G7 := G5.kp (Nat.le_refl _) (Kp.more.trans k7)
  obtain ⟨xs, A4, A5, A6, c8, e8, G8, lx⟩ := gather_ (d := d) sb G7 ⟨by omega, by omega, by omega⟩ hx hy d0 d1
  have hit : iRng1 (aCons (eCall F_law_digit [] (aCons (eCall F_law_pool [] (aCons (eV 0) (aCons (eC (.int 2)) aNil))) (aCons (eC (.int 31)) aNil))) aNil) [some (.ref 0), some (.ref m), some (sd b), some (.ref c4.length), none, none, none, none, none, none, none] (c4 ++ [.lst []]) = some (⟨rng 0 d.toNat, []⟩, c7) := iRng1' (j := d) (by erw [e6, e7]) (by omega)
  have e8' : gaF [some (.ref 0), some (.ref m), some (sd b), some (.ref c4.length), none, none, none, none, none, none, none] (c4 ++ [.lst []]) = some (.nx, [some (.ref 0), some (.ref m), some (sd b), some (.ref c4.length), A4, A5, A6, none, none, none, none], c8) := by
    show sFor _ _ _ _ _ = _
    rw [sFor_ hit]
    exact e8
  have LS := get_lt G8.cs
  have e9 := bList_ G8.cs
  have h9 : (c8 ++ [.lst (xs.map es)])[c8.length]? = some (.lst (xs.map es)) := last_get
  obtain ⟨n, ys, c10, e10, p10, l10, cn, pm, pw⟩ := round_about_ (L0 := L0) sb (get_app G8.c1) h9 (by omega)
  rw [List.length_append, List.length_singleton] at l10
  have py := pw_perm pm G8.pw pw
  have ly : ys.length ≤ 31 := by rw [pm.length_eq]; exact lx
  have Ln := get_lt cn
  have i10 := isl_ cn
  have hS10 := pre_get p10 (get_app (zs := [.lst (xs.map es)]) G8.cs)
  have hH10 := pre_get p10 h9
  have h110 := pre_get p10 (get_app (zs := [.lst (xs.map es)]) G8.c1)
  have e11 := sortT_ cn (by omega)
  have e12 := sortT_ (get_app (zs := [.lst (((ys.map fun p => row p.1).mergeSort leL).map fun r => .tup (r.map .int))]) hS10) (by omega)
  rw [srt_perm (pm.map fun p => row p.1)] at e11 e12
  generalize hR : ((xs.map fun p => row p.1).mergeSort leL).map (fun r => D.tup (r.map .int)) = R at e11 e12
  have q13 := (eqSame (c := c10 ++ [.lst R] ++ [.lst R]) (a := c10.length) (b := (c10 ++ [Cell.lst R]).length) (l := R) (get_app last_get) last_get (by rw [← hR]; exact dat_rows _)).2
  have q14 := (eqSame (c := c10 ++ [.lst R] ++ [.lst R]) (a := c8.length) (b := c4.length) (get_app (get_app hH10)) (get_app (get_app hS10)) (dat_es xs)).2
  generalize hC : c10 ++ [Cell.lst R] ++ [Cell.lst R] = c12 at e12 q13 q14
  have kC : c10 <+: c12 := by rw [← hC]; exact ⟨[.lst R] ++ [.lst R], by simp⟩
  have cn12 := pre_get kC cn
  have hS12 := pre_get kC hS10
  have hH12 := pre_get kC hH10
  have h112 := pre_get kC h110
  have LC := pre_len kC
  obtain ⟨B4, B9, e15⟩ := twF_ (A0 := some (.ref 0)) (A1 := some (.ref m)) (A3 := some (.ref c4.length)) (A4 := A4) (A5 := A5) (A6 := A6) (A7 := some (.ref c8.length)) (A9 := none) (A10 := none) sb cn12 py ly
  have e16 := bList_ cn12
  have e17 := clr_ (c := c12 ++ [.lst (ys.map es)]) (get_app cn12)
  have s17 : lstOf (.ref n) (c12 ++ [Cell.lst (ys.map es)]) = some (n, ys.map es) := lstOf_lst (get_app cn12)
  generalize hD : (c12 ++ [Cell.lst (ys.map es)]).set n (Cell.lst []) = c14 at e17
  have hS14 : c14[c4.length]? = some (.lst (xs.map es)) := by rw [← hD]; exact set_ne (get_app hS12) (by omega)
  have hH14 : c14[c8.length]? = some (.lst (xs.map es)) := by rw [← hD]; exact set_ne (get_app hH12) (by omega)
  have h114 : c14[1]? = some (.tab L0.code L0.qual) := by rw [← hD]; exact set_ne (get_app h112) (by omega)
  have hK14 : c14[c12.length]? = some (.lst (ys.map es)) := by rw [← hD]; exact set_ne last_get (by omega)
  have e18 := rev_ hS14 (by simp; omega)
  rw [← List.map_reverse] at e18
  obtain ⟨n2, zs, c16, e19, p19, l19, cz, pz, wz⟩ := round_about_ (L0 := L0) (xs := xs.reverse) (c := c14 ++ [.lst (xs.reverse.map es)]) sb (get_app h114) last_get (by simp; omega)
  have pzx : zs.Perm xs := pz.trans (List.reverse_perm xs)
  have ez : zs = ys := rows_eq (pzx.trans pm.symm) (pw_perm pzx G8.pw wz) py
  subst ez
  have hK16 := pre_get p19 (get_app (zs := [.lst (xs.reverse.map es)]) hK14)
  have hH16 := pre_get p19 (get_app (zs := [.lst (xs.reverse.map es)]) hH14)
  have h116 := pre_get p19 (get_app (zs := [.lst (xs.reverse.map es)]) h114)
  have q20 := (eqSame cz hK16 (dat_es zs)).1
  obtain ⟨n3, us, c17, e21, p21, l21, cu, pu, wu⟩ := round_about_ (L0 := L0) sb h116 hH16 (by omega)
  have eu : us = zs := rows_eq (pu.trans pm.symm) (pw_perm pu G8.pw wu) py
  subst eu
  have q22 := (eqSame cu (pre_get p21 hK16) (dat_es us)).1
  refine ⟨c17, ?_⟩
  unfold gaF at e8'
  unfold twF at e15
  rw [F_law, mkF_, B_law]
  erw [Nat.zero_le, e1, e2, e3, e4, e5, e8', e9, e10, i10, e11, e12, q13, q14, e15, e16, s17, e17, e18, e19, q20, e21, q22]
end Law
set_option maxHeartbeats 4000000
namespace Law
open PySem L2
def top (i : Nat) : Stmt := PySem.Challenge.pw_sheetlay_k21_round_about.main.body.getD i (.Pass ⟨0, 0, 0, 0⟩)
def lam0 (c : Nat) : Qm.LamT := ⟨lamPa (top 12) (lamR (top 12)), lamBo (lamR (top 12)), lamSc (top 12) (lamR (top 12)), ("round_about" : Str) ++ ".<locals>." ++ "<lambda>", c, lamPo (lamR (top 12)), ["b"]⟩
structure Adr where
  tc : Addr
  tp : Addr
  f_is_below : Addr
  d_is_below : FuncData
  f_ahead : Addr
  d_ahead : FuncData
  f_crossed : Addr
  d_crossed : FuncData
  f_sign : Addr
  d_sign : FuncData
  f_turn : Addr
  d_turn : FuncData
  f_in_first_half : Addr
  d_in_first_half : FuncData
  f_met_first : Addr
  d_met_first : FuncData
  f_merged : Addr
  d_merged : FuncData
  f_merged_pairs : Addr
  d_merged_pairs : FuncData
  f_in_order : Addr
  d_in_order : FuncData
  f_round_about : Addr
  d_round_about : FuncData
  f_law_pool : Addr
  d_law_pool : FuncData
  f_law_digit : Addr
  d_law_digit : FuncData
  f_law_lowest : Addr
  d_law_lowest : FuncData
  f_law_place : Addr
  d_law_place : FuncData
  f_law_by : Addr
  d_law_by : FuncData
  f_law_moved : Addr
  d_law_moved : FuncData
  f_law_way : Addr
  d_law_way : FuncData
  f_law_behind : Addr
  d_law_behind : FuncData
  f_law_same_way : Addr
  d_law_same_way : FuncData
  f_law : Addr
  d_law : FuncData
structure Txt (K : PySem.W.Frag) (mg : Str → Option Value) (t : Adr) : Prop where
  tn : K.lookup t.tp = none
  th : PySem.W.codeHdIn K t.tc t.tp = true
  F_is_below : Fun K "is_below" "is_below" (top 1) t.f_is_below t.d_is_below
  m_is_below : mg "is_below" = some (.ref t.f_is_below)
  b_is_below : Binds K t.d_is_below ["p", "q"] []
  F_ahead : Fun K "ahead" "ahead" (top 2) t.f_ahead t.d_ahead
  m_ahead : mg "ahead" = some (.ref t.f_ahead)
  b_ahead : Binds K t.d_ahead ["p", "q"] []
  F_crossed : Fun K "crossed" "crossed" (top 3) t.f_crossed t.d_crossed
  m_crossed : mg "crossed" = some (.ref t.f_crossed)
  b_crossed : Binds K t.d_crossed ["p", "q"] []
  F_sign : Fun K "sign" "sign" (top 4) t.f_sign t.d_sign
  m_sign : mg "sign" = some (.ref t.f_sign)
  b_sign : Binds K t.d_sign ["n"] []
  F_turn : Fun K "turn" "turn" (top 5) t.f_turn t.d_turn
  m_turn : mg "turn" = some (.ref t.f_turn)
  b_turn : Binds K t.d_turn ["a", "b", "c"] []
  F_in_first_half : Fun K "in_first_half" "in_first_half" (top 10) t.f_in_first_half t.d_in_first_half
  m_in_first_half : mg "in_first_half" = some (.ref t.f_in_first_half)
  b_in_first_half : Binds K t.d_in_first_half ["b", "p"] []
  F_met_first : Fun K "met_first" "met_first" (top 11) t.f_met_first t.d_met_first
  m_met_first : mg "met_first" = some (.ref t.f_met_first)
  b_met_first : Binds K t.d_met_first ["b", "p", "q"] []
  F_merged : Fun K "merged" "merged" (top 6) t.f_merged t.d_merged
  m_merged : mg "merged" = some (.ref t.f_merged)
  b_merged : Binds K t.d_merged ["left", "right", "first"] []
  F_merged_pairs : Fun K "merged_pairs" "merged_pairs" (top 7) t.f_merged_pairs t.d_merged_pairs
  m_merged_pairs : mg "merged_pairs" = some (.ref t.f_merged_pairs)
  b_merged_pairs : Binds K t.d_merged_pairs ["runs", "first"] []
  F_in_order : Fun K "in_order" "in_order" (top 8) t.f_in_order t.d_in_order
  m_in_order : mg "in_order" = some (.ref t.f_in_order)
  b_in_order : Binds K t.d_in_order ["some", "first"] []
  F_round_about : FunC K "round_about" "round_about" (top 12) t.f_round_about t.d_round_about t.tc
  m_round_about : mg "round_about" = some (.ref t.f_round_about)
  b_round_about : Binds K t.d_round_about ["b", "some"] []
  F_law_pool : Fun K "_law_pool" "_law_pool" (top 14) t.f_law_pool t.d_law_pool
  m_law_pool : mg "_law_pool" = some (.ref t.f_law_pool)
  b_law_pool : Binds K t.d_law_pool ["_law_script", "_law_k"] []
  F_law_digit : Fun K "_law_digit" "_law_digit" (top 15) t.f_law_digit t.d_law_digit
  m_law_digit : mg "_law_digit" = some (.ref t.f_law_digit)
  b_law_digit : Binds K t.d_law_digit ["_law_pool_here", "_law_many"] []
  F_law_lowest : Fun K "_law_lowest" "_law_lowest" (top 16) t.f_law_lowest t.d_law_lowest
  m_law_lowest : mg "_law_lowest" = some (.ref t.f_law_lowest)
  b_law_lowest : Binds K t.d_law_lowest ["_law_x", "_law_y", "_law_w"] []
  F_law_place : Fun K "_law_place" "_law_place" (top 17) t.f_law_place t.d_law_place
  m_law_place : mg "_law_place" = some (.ref t.f_law_place)
  b_law_place : Binds K t.d_law_place ["_law_pool_here"] []
  F_law_by : Fun K "_law_by" "_law_by" (top 18) t.f_law_by t.d_law_by
  m_law_by : mg "_law_by" = some (.ref t.f_law_by)
  b_law_by : Binds K t.d_law_by ["_law_pool_here"] []
  F_law_moved : Fun K "_law_moved" "_law_moved" (top 19) t.f_law_moved t.d_law_moved
  m_law_moved : mg "_law_moved" = some (.ref t.f_law_moved)
  b_law_moved : Binds K t.d_law_moved ["_law_p", "_law_by_here"] []
  F_law_way : Fun K "_law_way" "_law_way" (top 20) t.f_law_way t.d_law_way
  m_law_way : mg "_law_way" = some (.ref t.f_law_way)
  b_law_way : Binds K t.d_law_way ["_law_b", "_law_p"] []
  F_law_behind : Fun K "_law_behind" "_law_behind" (top 21) t.f_law_behind t.d_law_behind
  m_law_behind : mg "_law_behind" = some (.ref t.f_law_behind)
  b_law_behind : Binds K t.d_law_behind ["_law_one", "_law_other"] []
  F_law_same_way : Fun K "_law_same_way" "_law_same_way" (top 22) t.f_law_same_way t.d_law_same_way
  m_law_same_way : mg "_law_same_way" = some (.ref t.f_law_same_way)
  b_law_same_way : Binds K t.d_law_same_way ["_law_one", "_law_other"] []
  F_law : Fun K "law" "law" (top 23) t.f_law t.d_law
  m_law : mg "law" = some (.ref t.f_law)
  b_law : Binds K t.d_law ["_law_script"] []
  z_abs : mg "abs" = none
  z_any : mg "any" = none
  z_int : mg "int" = none
  z_isinstance : mg "isinstance" = none
  z_len : mg "len" = none
  z_list : mg "list" = none
  z_range : mg "range" = none
  z_reversed : mg "reversed" = none
  z_sorted : mg "sorted" = none
section
open L2.Zu
variable {P : Program} {w : World} {K : PySem.W.Frag} {mg : Str → Option Value} {base : Heap} {t : Adr}
theorem sc_is_below : FnScope ["p", "q"] ["p", "q"] (defScope (top 1)) := ⟨rfl, rfl, rfl, by decide +kernel, rfl, by decide +kernel, by decide +kernel⟩
theorem ok_is_below (T : Txt K mg t) : FnOk P w K mg base CX0 1 t.f_is_below t.d_is_below ["p", "q"] (spD K F_is_below) := by
  refine T.F_is_below.okQ (n := 2) (m := 2) (B := B_is_below) sc_is_below rfl rfl (by decide) rfl fun cdv A outer s H E hr => ?_
  unfold B_is_below
  exact (qss_one (qs_ret (qe_cmp op_lt lk_lt (qe_op op_mulB lk_mul (qe_item (qe_var 0 (pv 0)) qe_int (fun _ _ => rfl)) (qe_item (qe_var 1 (pv 1)) qe_int (fun _ _ => rfl))) (qe_op op_mulB lk_mul (qe_item (qe_var 1 (pv 1)) qe_int (fun _ _ => rfl)) (qe_item (qe_var 0 (pv 0)) qe_int (fun _ _ => rfl))) (nomark _))))
theorem sc_ahead : FnScope ["p", "q", "one", "other"] ["p", "q"] (defScope (top 2)) := ⟨rfl, rfl, rfl, by decide +kernel, rfl, by decide +kernel, by decide +kernel⟩
theorem ok_ahead (T : Txt K mg t) : FnOk P w K mg base CX0 2 t.f_ahead t.d_ahead ["p", "q"] (spD K F_ahead) := by
  refine T.F_ahead.okQ (n := 2) (m := 4) (B := B_ahead) sc_ahead rfl rfl (by decide) rfl fun cdv A outer s H E hr => ?_
  unfold B_ahead
  exact (qss_cons (qs_set (i := 2) sc_ahead.nd rfl (Or.inl rfl) (qe_op op_mulB lk_mul (qe_item (qe_var 0 (pv 0)) qe_int (fun _ _ => rfl)) (qe_item (qe_var 1 (pv 1)) qe_int (fun _ _ => rfl))))
      (qss_cons (qs_set (i := 3) sc_ahead.nd rfl (Or.inl rfl) (qe_op op_mulB lk_mul (qe_item (qe_var 1 (pv 1)) qe_int (fun _ _ => rfl)) (qe_item (qe_var 0 (pv 0)) qe_int (fun _ _ => rfl))))
      (qss_cons (qs_if (qt_cmp (op_eqQ hr.units) lk_eq (qe_var 2 (pv 2)) (qe_var 3 (pv 3)) (nomark _)) (qss_one (qs_ret (qe_call [] (ok_is_below T) (hr.mono (by decide)) (by rfl) T.m_is_below T.F_is_below.kp T.b_is_below .nil (fun _ _ _ => .nil) (qa_cons (qe_var 0 (pv 0)) (qa_cons (qe_var 1 (pv 1)) qa_nil))))) qss_nil)
      (qss_one (qs_ret (qe_cmp op_lt lk_lt (qe_var 2 (pv 2)) (qe_var 3 (pv 3)) (nomark _)))))))
theorem sc_crossed : FnScope ["p", "q"] ["p", "q"] (defScope (top 3)) := ⟨rfl, rfl, rfl, by decide +kernel, rfl, by decide +kernel, by decide +kernel⟩
theorem ok_crossed (T : Txt K mg t) : FnOk P w K mg base CX0 1 t.f_crossed t.d_crossed ["p", "q"] (spD K F_crossed) := by
  refine T.F_crossed.okQ (n := 2) (m := 2) (B := B_crossed) sc_crossed rfl rfl (by decide) rfl fun cdv A outer s H E hr => ?_
  unfold B_crossed
  exact (qss_one (qs_ret (qe_tup (qa_cons (qe_op op_sub lk_sub (qe_op op_mulB lk_mul (qe_item (qe_var 0 (pv 0)) qe_int (fun _ _ => rfl)) (qe_item (qe_var 1 (pv 1)) qe_int (fun _ _ => rfl))) (qe_op op_mulB lk_mul (qe_item (qe_var 0 (pv 0)) qe_int (fun _ _ => rfl)) (qe_item (qe_var 1 (pv 1)) qe_int (fun _ _ => rfl)))) (qa_cons (qe_op op_sub lk_sub (qe_op op_mulB lk_mul (qe_item (qe_var 0 (pv 0)) qe_int (fun _ _ => rfl)) (qe_item (qe_var 1 (pv 1)) qe_int (fun _ _ => rfl))) (qe_op op_mulB lk_mul (qe_item (qe_var 0 (pv 0)) qe_int (fun _ _ => rfl)) (qe_item (qe_var 1 (pv 1)) qe_int (fun _ _ => rfl)))) (qa_cons (qe_op op_sub lk_sub (qe_op op_mulB lk_mul (qe_item (qe_var 0 (pv 0)) qe_int (fun _ _ => rfl)) (qe_item (qe_var 1 (pv 1)) qe_int (fun _ _ => rfl))) (qe_op op_mulB lk_mul (qe_item (qe_var 0 (pv 0)) qe_int (fun _ _ => rfl)) (qe_item (qe_var 1 (pv 1)) qe_int (fun _ _ => rfl)))) qa_nil))))))
theorem sc_sign : FnScope ["n"] ["n"] (defScope (top 4)) := ⟨rfl, rfl, rfl, by decide +kernel, rfl, by decide +kernel, by decide +kernel⟩
theorem ok_sign (T : Txt K mg t) : FnOk P w K mg base CX0 1 t.f_sign t.d_sign ["n"] (spD K F_sign) := by
  refine T.F_sign.okQ (n := 1) (m := 1) (B := B_sign) sc_sign rfl rfl (by decide) rfl fun cdv A outer s H E hr => ?_
  unfold B_sign
  exact (qss_cons (qs_if (qt_cmp op_gt lk_gt (qe_var 0 (pv 0)) qe_int (nomark _)) (qss_one (qs_ret qe_int)) qss_nil)
      (qss_cons (qs_if (qt_cmp op_lt lk_lt (qe_var 0 (pv 0)) qe_int (nomark _)) (qss_one (qs_ret (qe_neg qe_int))) qss_nil)
      (qss_one (qs_ret qe_int))))
theorem sc_turn : FnScope ["a", "b", "c", "row"] ["a", "b", "c"] (defScope (top 5)) := ⟨rfl, rfl, rfl, by decide +kernel, rfl, by decide +kernel, by decide +kernel⟩
theorem ok_turn (T : Txt K mg t) : FnOk P w K mg base CX0 2 t.f_turn t.d_turn ["a", "b", "c"] (spD K F_turn) := by
  refine T.F_turn.okQ (n := 3) (m := 4) (B := B_turn) sc_turn rfl rfl (by decide) rfl fun cdv A outer s H E hr => ?_
  unfold B_turn
  exact (qss_cons (qs_set (i := 3) sc_turn.nd rfl (Or.inl rfl) (qe_call [] (ok_crossed T) (hr.mono (by decide)) (by rfl) T.m_crossed T.F_crossed.kp T.b_crossed .nil (fun _ _ _ => .nil) (qa_cons (qe_var 0 (pv 0)) (qa_cons (qe_var 1 (pv 1)) qa_nil))))
      (qss_one (qs_ret (qe_call [] (ok_sign T) (hr.mono (by decide)) (by rfl) T.m_sign T.F_sign.kp T.b_sign .nil (fun _ _ _ => .nil) (qa_cons (qe_op op_addQ lk_add (qe_op op_addQ lk_add (qe_op op_mulB lk_mul (qe_item (qe_var 3 (pv 3)) qe_int (fun _ _ => rfl)) (qe_item (qe_var 2 (pv 2)) qe_int (fun _ _ => rfl))) (qe_op op_mulB lk_mul (qe_item (qe_var 3 (pv 3)) qe_int (fun _ _ => rfl)) (qe_item (qe_var 2 (pv 2)) qe_int (fun _ _ => rfl)))) (qe_op op_mulB lk_mul (qe_item (qe_var 3 (pv 3)) qe_int (fun _ _ => rfl)) (qe_item (qe_var 2 (pv 2)) qe_int (fun _ _ => rfl)))) qa_nil)))))
theorem sc_in_first_half : FnScope ["b", "p"] ["b", "p"] (defScope (top 10)) := ⟨rfl, rfl, rfl, by decide +kernel, rfl, by decide +kernel, by decide +kernel⟩
theorem ok_in_first_half (T : Txt K mg t) : FnOk P w K mg base CX0 3 t.f_in_first_half t.d_in_first_half ["b", "p"] (spD K F_in_first_half) := by
  refine T.F_in_first_half.okQ (n := 2) (m := 2) (B := B_in_first_half) sc_in_first_half rfl rfl (by decide) rfl fun cdv A outer s H E hr => ?_
  unfold B_in_first_half
  exact (qss_cons (qs_if (qt_val (qe_call [] (ok_is_below T) (hr.mono (by decide)) (by rfl) T.m_is_below T.F_is_below.kp T.b_is_below .nil (fun _ _ _ => .nil) (qa_cons (qe_var 0 (pv 0)) (qa_cons (qe_var 1 (pv 1)) qa_nil)))) (qss_one (qs_ret qe_bl)) qss_nil)
      (qss_one (qs_ret (qe_and (qe_not (qe_call [] (ok_is_below T) (hr.mono (by decide)) (by rfl) T.m_is_below T.F_is_below.kp T.b_is_below .nil (fun _ _ _ => .nil) (qa_cons (qe_var 1 (pv 1)) (qa_cons (qe_var 0 (pv 0)) qa_nil)))) (qe_one (qe_call [] (ok_ahead T) (hr.mono (by decide)) (by rfl) T.m_ahead T.F_ahead.kp T.b_ahead .nil (fun _ _ _ => .nil) (qa_cons (qe_var 0 (pv 0)) (qa_cons (qe_var 1 (pv 1)) qa_nil))))))))
theorem sc_met_first : FnScope ["b", "p", "q", "early"] ["b", "p", "q"] (defScope (top 11)) := ⟨rfl, rfl, rfl, by decide +kernel, rfl, by decide +kernel, by decide +kernel⟩
theorem ok_met_first (T : Txt K mg t) : FnOk P w K mg base CX0 4 t.f_met_first t.d_met_first ["b", "p", "q"] (spD K F_met_first) := by
  refine T.F_met_first.okQ (n := 3) (m := 4) (B := B_met_first) sc_met_first rfl rfl (by decide) rfl fun cdv A outer s H E hr => ?_
  unfold B_met_first
  exact (qss_cons (qs_set (i := 3) sc_met_first.nd rfl (Or.inl rfl) (qe_call [] (ok_in_first_half T) (hr.mono (by decide)) (by rfl) T.m_in_first_half T.F_in_first_half.kp T.b_in_first_half .nil (fun _ _ _ => .nil) (qa_cons (qe_var 0 (pv 0)) (qa_cons (qe_var 1 (pv 1)) qa_nil))))
      (qss_cons (qs_if (qt_cmp (op_neQ hr.units) lk_ne (qe_var 3 (pv 3)) (qe_call [] (ok_in_first_half T) (hr.mono (by decide)) (by rfl) T.m_in_first_half T.F_in_first_half.kp T.b_in_first_half .nil (fun _ _ _ => .nil) (qa_cons (qe_var 0 (pv 0)) (qa_cons (qe_var 2 (pv 2)) qa_nil))) (nomark _)) (qss_one (qs_ret (qe_var 3 (pv 3)))) qss_nil)
      (qss_one (qs_ret (qe_cmp (op_eqQ hr.units) lk_eq (qe_call [] (ok_turn T) (hr.mono (by decide)) (by rfl) T.m_turn T.F_turn.kp T.b_turn .nil (fun _ _ _ => .nil) (qa_cons (qe_var 0 (pv 0)) (qa_cons (qe_var 1 (pv 1)) (qa_cons (qe_var 2 (pv 2)) qa_nil)))) qe_int (nomark _))))))
theorem lam0_fr : ∀ y ∈ (lamSc (top 12) (lamR (top 12))).names, y.2 = NameKind.free → y.1 ∈ (["b"] : List Str) := by decide +kernel
theorem lam0_in : ∀ x ∈ (["b"] : List Str), (x, NameKind.free) ∈ (lamSc (top 12) (lamR (top 12))).names ∧ (defScope (top 12)).names.lookup x = some NameKind.cell ∧ (!(x == ("b" : Str))) = false := by decide +kernel
theorem lam0_pa : ∀ x ∈ (["p", "q"] : List Str), (lamSc (top 12) (lamR (top 12))).names.lookup x = some NameKind.local := by decide +kernel
theorem lam0_fl : ∀ x ∈ (["b"] : List Str), (lamSc (top 12) (lamR (top 12))).names.lookup x = some NameKind.free := by decide +kernel
theorem lam0_nc : ∀ y ∈ (lamSc (top 12) (lamR (top 12))).names, y.2 ≠ NameKind.cell := by decide +kernel
theorem sc_lam0 {c : Nat} : LamScope ["p", "q", "b"] ["p", "q"] (lam0 c) := ⟨rfl, rfl, rfl, by decide +kernel, rfl, lam0_pa, lam0_fl, lam0_nc, fun x h => lam0_fr (x, .free) (PySem.mem_of_lookup h) rfl, fun _ _ _ _ us hl => match us, hl with | [_, _], _ => rfl⟩
theorem ok_lam0 (T : Txt K mg t) : LamOk P w K mg base 5 (lam0 t.tc) F_lam0 := by
  refine lam_ok (N := ["p", "q", "b"]) (ps := ["p", "q"]) sc_lam0 rfl fun f c' clos A outer s H hr => ?_
  exact (qe_call [] (ok_met_first T) (hr.mono (by decide)) (by rfl) T.m_met_first T.F_met_first.kp T.b_met_first .nil (fun _ _ _ => .nil) (qa_cons (qe_var 2 (pv 2)) (qa_cons (qe_var 0 (pv 0)) (qa_cons (qe_var 1 (pv 1)) qa_nil))))
theorem sc_merged : FnScope ["left", "right", "first", "row", "k", "thing"] ["left", "right", "first"] (defScope (top 6)) := ⟨rfl, rfl, rfl, by decide +kernel, rfl, by decide +kernel, by decide +kernel⟩
theorem ok_merged (T : Txt K mg t) : FnOk P w K mg base CX0 6 t.f_merged t.d_merged ["left", "right", "first"] (spD K (F_merged (lam0 t.tc))) := by
  refine T.F_merged.okQ (n := 3) (m := 6) (B := (B_merged (lam0 t.tc))) sc_merged rfl rfl (by decide) rfl fun cdv A outer s H E hr => ?_
  unfold B_merged
  exact (qss_cons (qs_set (i := 3) sc_merged.nd rfl (Or.inl rfl) (qe_lst qa_nil))
      (qss_cons (qs_set (i := 4) sc_merged.nd rfl (Or.inl rfl) qe_int)
      (qss_cons (qs_for PassesOwn.never rfl (qi_list (qe_var 1 (pv 1))) (qg_name (i := 5) sc_merged.nd rfl (Or.inl rfl)) (qss_cons (qs_while PassesOwn.never (PW.pt (qw_and (qt_cmp op_lt lk_lt (qe_var 4 (pv 4)) (qe_callB call_len_seq lk_len (by rfl) T.z_len bt_len (qa_cons (qe_var 0 (pv 0)) qa_nil)) (nomark _)) (qw_and1 (qt_not (qt_val (qe_callW _ _ tab_none (lt_one (ok_lam0 T) (hr.mono (by decide))) (qe_var 2 (pv 2)) (qa_cons (qe_var 5 (pv 5)) (qa_cons (qe_item (qe_var 0 (pv 0)) (qe_var 4 (pv 4)) (fun _ _ => rfl)) qa_nil)))))))) (qss_cons (qs_expr (qe_m PySem.F.slot_list_append PySem.F.type_list_append mt_append lk_append (qe_var 3 (pv 3)) (qa_cons (qe_item (qe_var 0 (pv 0)) (qe_var 4 (pv 4)) (fun _ _ => rfl)) qa_nil)))
      (qss_one (qs_set (i := 4) sc_merged.nd rfl (Or.inl rfl) (qe_op op_addQ lk_add (qe_var 4 (pv 4)) qe_int)))))
      (qss_one (qs_expr (qe_m PySem.F.slot_list_append PySem.F.type_list_append mt_append lk_append (qe_var 3 (pv 3)) (qa_cons (qe_var 5 (pv 5)) qa_nil))))))
      (qss_cons (qs_expr (qe_m PySem.F.slot_list_extend PySem.F.type_list_extend mt_extend lk_extend (qe_var 3 (pv 3)) (qa_cons (qe_slice (qe_var 0 (pv 0)) (qo_some (qe_var 4 (pv 4))) qo_none) qa_nil)))
      (qss_one (qs_ret (qe_var 3 (pv 3))))))))
theorem sc_merged_pairs : FnScope ["runs", "first", "pairs"] ["runs", "first"] (defScope (top 7)) := ⟨rfl, rfl, rfl, by decide +kernel, rfl, by decide +kernel, by decide +kernel⟩
theorem ok_merged_pairs (T : Txt K mg t) : FnOk P w K mg base CX0 7 t.f_merged_pairs t.d_merged_pairs ["runs", "first"] (spD K (F_merged_pairs (lam0 t.tc))) := by
  refine T.F_merged_pairs.okQ (n := 2) (m := 3) (B := (B_merged_pairs (lam0 t.tc))) sc_merged_pairs rfl rfl (by decide) rfl fun cdv A outer s H E hr => ?_
  unfold B_merged_pairs
  exact (qss_cons (qs_comp (i := 2) (N' := ["k", "first", "runs"]) (cap := [none, some 1, some 0]) (blk_mk (sc := defScope (top 7)) (NN := ["runs", "first", "pairs"]) rfl rfl rfl (by decide +kernel) (by decide +kernel) (by decide +kernel) (by decide +kernel)) rfl (qi_rangeS (by rfl) T.z_range (qa_cons qe_int (qa_cons (qe_op op_sub lk_sub (qe_callB call_len_seq lk_len (by rfl) T.z_len bt_len (qa_cons (qe_var 0 (pv 0)) qa_nil)) qe_int) (qa_cons qe_int qa_nil)))) (fun _ _ _ _ => (qg_name (i := 0) (show List.Nodup (["k", "first", "runs"] : List Str) by decide +kernel) rfl (Or.inl rfl))) (fun _ _ _ _ => qifs_none) (fun _ _ _ _ => (qe_call [] (ok_merged T) (hr.mono (by decide)) (by rfl) T.m_merged T.F_merged.kp T.b_merged .nil (fun _ _ _ => .nil) (qa_cons (qe_item (qe_var 2 (pv 2)) (qe_var 0 (pv 0)) (fun _ _ => rfl)) (qa_cons (qe_item (qe_var 2 (pv 2)) (qe_op op_addQ lk_add (qe_var 0 (pv 0)) qe_int) (fun _ _ => rfl)) (qa_cons (qe_var 1 (pv 1)) qa_nil))))) sc_merged_pairs.nd rfl (Or.inl rfl) (by rfl))
      (qss_cons (qs_if (qt_cmp (op_eqQ hr.units) lk_eq (qe_op op_modN lk_mod (qe_callB call_len_seq lk_len (by rfl) T.z_len bt_len (qa_cons (qe_var 0 (pv 0)) qa_nil)) qe_int) qe_int (nomark _)) (qss_one (qs_expr (qe_m PySem.F.slot_list_append PySem.F.type_list_append mt_append lk_append (qe_var 2 (pv 2)) (qa_cons (qe_item (qe_var 0 (pv 0)) (qe_neg qe_int) (fun _ _ => rfl)) qa_nil)))) qss_nil)
      (qss_one (qs_ret (qe_var 2 (pv 2))))))
theorem sc_in_order : FnScope ["some", "first", "runs"] ["some", "first"] (defScope (top 8)) := ⟨rfl, rfl, rfl, by decide +kernel, rfl, by decide +kernel, by decide +kernel⟩
theorem ok_in_order (T : Txt K mg t) : FnOk P w K mg base CX0 8 t.f_in_order t.d_in_order ["some", "first"] (spD K (F_in_order (lam0 t.tc))) := by
  refine T.F_in_order.okQ (n := 2) (m := 3) (B := (B_in_order (lam0 t.tc))) sc_in_order rfl rfl (by decide) rfl fun cdv A outer s H E hr => ?_
  unfold B_in_order
  exact (qss_cons (qs_comp (i := 2) (N' := ["thing"]) (cap := [none]) (blk_mk (sc := defScope (top 8)) (NN := ["some", "first", "runs"]) rfl rfl rfl (by decide +kernel) (by decide +kernel) (by decide +kernel) (by decide +kernel)) rfl (qi_list (qe_var 0 (pv 0))) (fun _ _ _ _ => (qg_name (i := 0) (show List.Nodup (["thing"] : List Str) by decide +kernel) rfl (Or.inl rfl))) (fun _ _ _ _ => qifs_none) (fun _ _ _ _ => (qe_lst (qa_cons (qe_var 0 (pv 0)) qa_nil))) sc_in_order.nd rfl (Or.inl rfl) (by rfl))
      (qss_cons (qs_while PassesOwn.never (qt_cmp op_gt lk_gt (qe_callB call_len_seq lk_len (by rfl) T.z_len bt_len (qa_cons (qe_var 2 (pv 2)) qa_nil)) qe_int (nomark _)) (qss_one (qs_set (i := 2) sc_in_order.nd rfl (Or.inl rfl) (qe_call [] (ok_merged_pairs T) (hr.mono (by decide)) (by rfl) T.m_merged_pairs T.F_merged_pairs.kp T.b_merged_pairs .nil (fun _ _ _ => .nil) (qa_cons (qe_var 2 (pv 2)) (qa_cons (qe_var 1 (pv 1)) qa_nil))))))
      (qss_one (qs_ret (qe_ifExp (qt_cmp (op_eqQ hr.units) lk_eq (qe_callB call_len_seq lk_len (by rfl) T.z_len bt_len (qa_cons (qe_var 2 (pv 2)) qa_nil)) qe_int (nomark _)) (qe_item (qe_var 2 (pv 2)) qe_int (fun _ _ => rfl)) (qe_lst qa_nil))))))
theorem sc_round_about : FnScope ["b", "some"] ["b", "some"] (defScope (top 12)) := ⟨rfl, rfl, rfl, by decide +kernel, rfl, by decide +kernel, by decide +kernel⟩
theorem ok_round_about (T : Txt K mg t) : FnOk P w K mg base CX0 9 t.f_round_about t.d_round_about ["b", "some"] (spD K (F_round_about (lam0 t.tc))) := by
  refine T.F_round_about.okQ (fun x => !(x == ("b" : Str))) (n := 2) (m := 2) (B := (B_round_about (lam0 t.tc))) sc_round_about rfl rfl (by decide) rfl fun A outer s H E hr => ?_
  unfold B_round_about
  exact (qss_one (qs_ret (qe_call [] (ok_in_order T) (hr.mono (by decide)) (by rfl) T.m_in_order T.F_in_order.kp T.b_in_order .nil (fun _ _ _ => .nil) (qa_cons (qe_var 1 (pv 1)) (qa_cons (qe_lam (t := lam0 t.tc) (n := 1) (is := [0]) rfl rfl rfl lam0_fr lam0_in rfl (hix_one rfl) (hab_of (CX := CX0) (P := P) (w := w) (K := K) (mg := mg) (base := base) (N := []) (A := A) (outer := outer) (s := s) (H := H) (E := E))) qa_nil)))))
theorem sc_law_pool : FnScope ["_law_script", "_law_k", "_law_cell", "_law_own", "_law_seed", "_law_total", "_law_j", "_law_part"] ["_law_script", "_law_k"] (defScope (top 14)) := ⟨rfl, rfl, rfl, by decide +kernel, rfl, by decide +kernel, by decide +kernel⟩
theorem ok_law_pool (T : Txt K mg t) : FnOk P w K mg base CX0 1 t.f_law_pool t.d_law_pool ["_law_script", "_law_k"] (spD K F_law_pool) := by
  refine T.F_law_pool.okQ (n := 2) (m := 8) (B := B_law_pool) sc_law_pool rfl rfl (by decide) rfl fun cdv A outer s H E hr => ?_
  unfold B_law_pool
  exact (qss_cons (qs_set (i := 2) sc_law_pool.nd rfl (Or.inl rfl) qe_int)
      (qss_cons (qs_if (qt_cmp op_lt lk_lt (qe_var 1 (pv 1)) (qe_callB call_len_seq lk_len (by rfl) T.z_len bt_len (qa_cons (qe_var 0 (pv 0)) qa_nil)) (nomark _)) (qss_one (qs_set (i := 2) sc_law_pool.nd rfl (Or.inl rfl) (qe_item (qe_var 0 (pv 0)) (qe_var 1 (pv 1)) (fun _ _ => rfl)))) qss_nil)
      (qss_cons (qs_set (i := 3) sc_law_pool.nd rfl (Or.inl rfl) (qe_op op_mulB lk_mul (qe_callB call_abs lk_abs (by rfl) T.z_abs bt_abs (qa_cons (qe_var 2 (pv 2)) qa_nil)) (qe_callTy call_int1 lk_intB (by rfl) T.z_int bt_int (qa_cons (qe_cmp op_ge lk_ge (qe_callB call_abs lk_abs (by rfl) T.z_abs bt_abs (qa_cons (qe_var 2 (pv 2)) qa_nil)) (qe_op op_pow lk_pow qe_int qe_int) (nomark _)) qa_nil))))
      (qss_cons (qs_set (i := 4) sc_law_pool.nd rfl (Or.inl rfl) (qe_op op_mulB lk_mul (qe_op op_addQ lk_add (qe_op op_addQ lk_add (qe_op op_modN lk_mod (qe_var 2 (pv 2)) qe_int) (qe_op op_mulB lk_mul qe_int (qe_var 1 (pv 1)))) qe_int) qe_int))
      (qss_cons (qs_set (i := 5) sc_law_pool.nd rfl (Or.inl rfl) qe_int)
      (qss_cons (qs_for PassesOwn.never rfl (qi_range1 (by rfl) T.z_range (qa_cons qe_int qa_nil)) (qg_name (i := 6) sc_law_pool.nd rfl (Or.inl rfl)) (qss_cons (qs_set (i := 4) sc_law_pool.nd rfl (Or.inl rfl) (qe_op op_modN lk_mod (qe_op op_mulB lk_mul (qe_op op_modN lk_mod (qe_op op_addQ lk_add (qe_var 4 (pv 4)) (qe_op op_mulB lk_mul qe_int (qe_op op_addQ lk_add (qe_var 6 (pv 6)) qe_int))) qe_int) qe_int) qe_int))
      (qss_cons (qs_set (i := 7) sc_law_pool.nd rfl (Or.inl rfl) (qe_op op_mulB lk_mul (qe_op op_fdivB lk_fdiv (qe_var 4 (pv 4)) qe_int) (qe_op op_addQ lk_add (qe_op op_addQ lk_add (qe_op op_modN lk_mod (qe_var 4 (pv 4)) qe_int) (qe_op op_mulB lk_mul qe_int (qe_var 6 (pv 6)))) qe_int)))
      (qss_one (qs_set (i := 5) sc_law_pool.nd rfl (Or.inl rfl) (qe_op op_addQ lk_add (qe_op op_mulB lk_mul (qe_var 5 (pv 5)) (qe_op op_pow lk_pow qe_int qe_int)) (qe_op op_modN lk_mod (qe_var 7 (pv 7)) (qe_op op_pow lk_pow qe_int qe_int))))))))
      (qss_one (qs_ret (qe_lst (qa_cons (qe_var 3 (pv 3)) (qa_cons (qe_var 5 (pv 5)) qa_nil)))))))))))
theorem sc_law_digit : FnScope ["_law_pool_here", "_law_many", "_law_at", "_law_digit_here"] ["_law_pool_here", "_law_many"] (defScope (top 15)) := ⟨rfl, rfl, rfl, by decide +kernel, rfl, by decide +kernel, by decide +kernel⟩
theorem ok_law_digit (T : Txt K mg t) : FnOk P w K mg base CX0 1 t.f_law_digit t.d_law_digit ["_law_pool_here", "_law_many"] (spD K F_law_digit) := by
  refine T.F_law_digit.okQ (n := 2) (m := 4) (B := B_law_digit) sc_law_digit rfl rfl (by decide) rfl fun cdv A outer s H E hr => ?_
  unfold B_law_digit
  exact (qss_cons (qs_set (i := 2) sc_law_digit.nd rfl (Or.inl rfl) (qe_callTy call_int1 lk_intB (by rfl) T.z_int bt_int (qa_cons (qe_cmp (op_eqQ hr.units) lk_eq (qe_item (qe_var 0 (pv 0)) qe_int (fun _ _ => rfl)) qe_int (nomark _)) qa_nil)))
      (qss_cons (qs_set (i := 3) sc_law_digit.nd rfl (Or.inl rfl) (qe_op op_modN lk_mod (qe_item (qe_var 0 (pv 0)) (qe_var 2 (pv 2)) (fun _ _ => rfl)) (qe_var 1 (pv 1))))
      (qss_cons (qs_asg (qe_op op_fdivB lk_fdiv (qe_item (qe_var 0 (pv 0)) (qe_var 2 (pv 2)) (fun _ _ => rfl)) (qe_var 1 (pv 1))) (qg_put (qe_var 0 (pv 0)) (qe_var 2 (pv 2))))
      (qss_one (qs_ret (qe_var 3 (pv 3)))))))
theorem sc_law_lowest : FnScope ["_law_x", "_law_y", "_law_w", "_law_one", "_law_other"] ["_law_x", "_law_y", "_law_w"] (defScope (top 16)) := ⟨rfl, rfl, rfl, by decide +kernel, rfl, by decide +kernel, by decide +kernel⟩
theorem ok_law_lowest (T : Txt K mg t) : FnOk P w K mg base CX0 1 t.f_law_lowest t.d_law_lowest ["_law_x", "_law_y", "_law_w"] (spD K F_law_lowest) := by
  refine T.F_law_lowest.okQ (n := 3) (m := 5) (B := B_law_lowest) sc_law_lowest rfl rfl (by decide) rfl fun cdv A outer s H E hr => ?_
  unfold B_law_lowest
  exact (qss_cons (qs_par2 (i := 3) (j := 4) rfl sc_law_lowest.nd rfl rfl (by decide) rfl rfl (qa_cons (qe_var 2 (pv 2)) (qa_cons (qe_callB call_abs lk_abs (by rfl) T.z_abs bt_abs (qa_cons (qe_var 0 (pv 0)) qa_nil)) qa_nil)) (by rfl))
      (qss_cons (qs_while PassesOwn.never (qt_cmp op_gt lk_gt (qe_var 4 (pv 4)) qe_int (nomark _)) (qss_one (qs_par2 (i := 3) (j := 4) rfl sc_law_lowest.nd rfl rfl (by decide) rfl rfl (qa_cons (qe_var 4 (pv 4)) (qa_cons (qe_op op_modN lk_mod (qe_var 3 (pv 3)) (qe_var 4 (pv 4))) qa_nil)) (by rfl))))
      (qss_cons (qs_set (i := 4) sc_law_lowest.nd rfl (Or.inl rfl) (qe_callB call_abs lk_abs (by rfl) T.z_abs bt_abs (qa_cons (qe_var 1 (pv 1)) qa_nil)))
      (qss_cons (qs_while PassesOwn.never (qt_cmp op_gt lk_gt (qe_var 4 (pv 4)) qe_int (nomark _)) (qss_one (qs_par2 (i := 3) (j := 4) rfl sc_law_lowest.nd rfl rfl (by decide) rfl rfl (qa_cons (qe_var 4 (pv 4)) (qa_cons (qe_op op_modN lk_mod (qe_var 3 (pv 3)) (qe_var 4 (pv 4))) qa_nil)) (by rfl))))
      (qss_one (qs_ret (qe_tup (qa_cons (qe_op op_fdivB lk_fdiv (qe_var 0 (pv 0)) (qe_var 3 (pv 3))) (qa_cons (qe_op op_fdivB lk_fdiv (qe_var 1 (pv 1)) (qe_var 3 (pv 3))) (qa_cons (qe_op op_fdivB lk_fdiv (qe_var 2 (pv 2)) (qe_var 3 (pv 3))) qa_nil))))))))))
theorem sc_law_place : FnScope ["_law_pool_here", "_law_w"] ["_law_pool_here"] (defScope (top 17)) := ⟨rfl, rfl, rfl, by decide +kernel, rfl, by decide +kernel, by decide +kernel⟩
theorem ok_law_place (T : Txt K mg t) : FnOk P w K mg base CX0 2 t.f_law_place t.d_law_place ["_law_pool_here"] (spD K F_law_place) := by
  refine T.F_law_place.okQ (n := 1) (m := 2) (B := B_law_place) sc_law_place rfl rfl (by decide) rfl fun cdv A outer s H E hr => ?_
  unfold B_law_place
  exact (qss_cons (qs_if (qt_cmp (op_eqQ hr.units) lk_eq (qe_call [] (ok_law_digit T) (hr.mono (by decide)) (by rfl) T.m_law_digit T.F_law_digit.kp T.b_law_digit .nil (fun _ _ _ => .nil) (qa_cons (qe_var 0 (pv 0)) (qa_cons qe_int qa_nil))) qe_int (nomark _)) (qss_cons (qs_set (i := 1) sc_law_place.nd rfl (Or.inl rfl) (qe_op op_addQ lk_add qe_int (qe_call [] (ok_law_digit T) (hr.mono (by decide)) (by rfl) T.m_law_digit T.F_law_digit.kp T.b_law_digit .nil (fun _ _ _ => .nil) (qa_cons (qe_var 0 (pv 0)) (qa_cons qe_int qa_nil)))))
      (qss_one (qs_ret (qe_call [] (ok_law_lowest T) (hr.mono (by decide)) (by rfl) T.m_law_lowest T.F_law_lowest.kp T.b_law_lowest .nil (fun _ _ _ => .nil) (qa_cons (qe_op op_sub lk_sub (qe_call [] (ok_law_digit T) (hr.mono (by decide)) (by rfl) T.m_law_digit T.F_law_digit.kp T.b_law_digit .nil (fun _ _ _ => .nil) (qa_cons (qe_var 0 (pv 0)) (qa_cons qe_int qa_nil))) qe_int) (qa_cons (qe_op op_sub lk_sub (qe_call [] (ok_law_digit T) (hr.mono (by decide)) (by rfl) T.m_law_digit T.F_law_digit.kp T.b_law_digit .nil (fun _ _ _ => .nil) (qa_cons (qe_var 0 (pv 0)) (qa_cons qe_int qa_nil))) qe_int) (qa_cons (qe_var 1 (pv 1)) qa_nil))))))) qss_nil)
      (qss_cons (qs_set (i := 1) sc_law_place.nd rfl (Or.inl rfl) (qe_op op_addQ lk_add qe_int (qe_call [] (ok_law_digit T) (hr.mono (by decide)) (by rfl) T.m_law_digit T.F_law_digit.kp T.b_law_digit .nil (fun _ _ _ => .nil) (qa_cons (qe_var 0 (pv 0)) (qa_cons qe_int qa_nil)))))
      (qss_one (qs_ret (qe_call [] (ok_law_lowest T) (hr.mono (by decide)) (by rfl) T.m_law_lowest T.F_law_lowest.kp T.b_law_lowest .nil (fun _ _ _ => .nil) (qa_cons (qe_op op_sub lk_sub (qe_call [] (ok_law_digit T) (hr.mono (by decide)) (by rfl) T.m_law_digit T.F_law_digit.kp T.b_law_digit .nil (fun _ _ _ => .nil) (qa_cons (qe_var 0 (pv 0)) (qa_cons qe_int qa_nil))) qe_int) (qa_cons (qe_op op_sub lk_sub (qe_call [] (ok_law_digit T) (hr.mono (by decide)) (by rfl) T.m_law_digit T.F_law_digit.kp T.b_law_digit .nil (fun _ _ _ => .nil) (qa_cons (qe_var 0 (pv 0)) (qa_cons qe_int qa_nil))) qe_int) (qa_cons (qe_var 1 (pv 1)) qa_nil))))))))
theorem sc_law_by : FnScope ["_law_pool_here", "_law_wide"] ["_law_pool_here"] (defScope (top 18)) := ⟨rfl, rfl, rfl, by decide +kernel, rfl, by decide +kernel, by decide +kernel⟩
theorem ok_law_by (T : Txt K mg t) : FnOk P w K mg base CX0 2 t.f_law_by t.d_law_by ["_law_pool_here"] (spD K F_law_by) := by
  refine T.F_law_by.okQ (n := 1) (m := 2) (B := B_law_by) sc_law_by rfl rfl (by decide) rfl fun cdv A outer s H E hr => ?_
  unfold B_law_by
  exact (qss_cons (qs_set (i := 1) sc_law_by.nd rfl (Or.inl rfl) (qe_item (qe_lst (qa_cons qe_int (qa_cons qe_int (qa_cons (qe_op op_pow lk_pow qe_int qe_int) (qa_cons (qe_op op_pow lk_pow qe_int qe_int) qa_nil))))) (qe_call [] (ok_law_digit T) (hr.mono (by decide)) (by rfl) T.m_law_digit T.F_law_digit.kp T.b_law_digit .nil (fun _ _ _ => .nil) (qa_cons (qe_var 0 (pv 0)) (qa_cons qe_int qa_nil))) (fun _ _ => rfl)))
      (qss_one (qs_ret (qe_lst (qa_cons (qe_op op_sub lk_sub (qe_call [] (ok_law_digit T) (hr.mono (by decide)) (by rfl) T.m_law_digit T.F_law_digit.kp T.b_law_digit .nil (fun _ _ _ => .nil) (qa_cons (qe_var 0 (pv 0)) (qa_cons (qe_op op_mulB lk_mul qe_int (qe_var 1 (pv 1))) qa_nil))) (qe_var 1 (pv 1))) (qa_cons (qe_op op_sub lk_sub (qe_call [] (ok_law_digit T) (hr.mono (by decide)) (by rfl) T.m_law_digit T.F_law_digit.kp T.b_law_digit .nil (fun _ _ _ => .nil) (qa_cons (qe_var 0 (pv 0)) (qa_cons (qe_op op_mulB lk_mul qe_int (qe_var 1 (pv 1))) qa_nil))) (qe_var 1 (pv 1))) qa_nil))))))
theorem sc_law_moved : FnScope ["_law_p", "_law_by_here"] ["_law_p", "_law_by_here"] (defScope (top 19)) := ⟨rfl, rfl, rfl, by decide +kernel, rfl, by decide +kernel, by decide +kernel⟩
theorem ok_law_moved (T : Txt K mg t) : FnOk P w K mg base CX0 1 t.f_law_moved t.d_law_moved ["_law_p", "_law_by_here"] (spD K F_law_moved) := by
  refine T.F_law_moved.okQ (n := 2) (m := 2) (B := B_law_moved) sc_law_moved rfl rfl (by decide) rfl fun cdv A outer s H E hr => ?_
  unfold B_law_moved
  exact (qss_one (qs_ret (qe_tup (qa_cons (qe_op op_addQ lk_add (qe_item (qe_var 0 (pv 0)) qe_int (fun _ _ => rfl)) (qe_op op_mulB lk_mul (qe_item (qe_var 1 (pv 1)) qe_int (fun _ _ => rfl)) (qe_item (qe_var 0 (pv 0)) qe_int (fun _ _ => rfl)))) (qa_cons (qe_op op_addQ lk_add (qe_item (qe_var 0 (pv 0)) qe_int (fun _ _ => rfl)) (qe_op op_mulB lk_mul (qe_item (qe_var 1 (pv 1)) qe_int (fun _ _ => rfl)) (qe_item (qe_var 0 (pv 0)) qe_int (fun _ _ => rfl)))) (qa_cons (qe_item (qe_var 0 (pv 0)) qe_int (fun _ _ => rfl)) qa_nil))))))
theorem sc_law_way : FnScope ["_law_b", "_law_p"] ["_law_b", "_law_p"] (defScope (top 20)) := ⟨rfl, rfl, rfl, by decide +kernel, rfl, by decide +kernel, by decide +kernel⟩
theorem ok_law_way (T : Txt K mg t) : FnOk P w K mg base CX0 1 t.f_law_way t.d_law_way ["_law_b", "_law_p"] (spD K F_law_way) := by
  refine T.F_law_way.okQ (n := 2) (m := 2) (B := B_law_way) sc_law_way rfl rfl (by decide) rfl fun cdv A outer s H E hr => ?_
  unfold B_law_way
  exact (qss_one (qs_ret (qe_tup (qa_cons (qe_op op_sub lk_sub (qe_op op_mulB lk_mul (qe_item (qe_var 1 (pv 1)) qe_int (fun _ _ => rfl)) (qe_item (qe_var 0 (pv 0)) qe_int (fun _ _ => rfl))) (qe_op op_mulB lk_mul (qe_item (qe_var 0 (pv 0)) qe_int (fun _ _ => rfl)) (qe_item (qe_var 1 (pv 1)) qe_int (fun _ _ => rfl)))) (qa_cons (qe_op op_sub lk_sub (qe_op op_mulB lk_mul (qe_item (qe_var 1 (pv 1)) qe_int (fun _ _ => rfl)) (qe_item (qe_var 0 (pv 0)) qe_int (fun _ _ => rfl))) (qe_op op_mulB lk_mul (qe_item (qe_var 0 (pv 0)) qe_int (fun _ _ => rfl)) (qe_item (qe_var 1 (pv 1)) qe_int (fun _ _ => rfl)))) qa_nil)))))
theorem sc_law_behind : FnScope ["_law_one", "_law_other", "_law_upper", "_law_beyond"] ["_law_one", "_law_other"] (defScope (top 21)) := ⟨rfl, rfl, rfl, by decide +kernel, rfl, by decide +kernel, by decide +kernel⟩
theorem ok_law_behind (T : Txt K mg t) : FnOk P w K mg base CX0 1 t.f_law_behind t.d_law_behind ["_law_one", "_law_other"] (spD K F_law_behind) := by
  refine T.F_law_behind.okQ (n := 2) (m := 4) (B := B_law_behind) sc_law_behind rfl rfl (by decide) rfl fun cdv A outer s H E hr => ?_
  unfold B_law_behind
  exact (qss_cons (qs_set (i := 2) sc_law_behind.nd rfl (Or.inl rfl) (qe_or (qe_cmp op_gt lk_gt (qe_item (qe_var 0 (pv 0)) qe_int (fun _ _ => rfl)) qe_int (nomark _)) (qe_one (qe_and (qe_cmp (op_eqQ hr.units) lk_eq (qe_item (qe_var 0 (pv 0)) qe_int (fun _ _ => rfl)) qe_int (nomark _)) (qe_one (qe_cmp op_gt lk_gt (qe_item (qe_var 0 (pv 0)) qe_int (fun _ _ => rfl)) qe_int (nomark _)))))))
      (qss_cons (qs_set (i := 3) sc_law_behind.nd rfl (Or.inl rfl) (qe_or (qe_cmp op_gt lk_gt (qe_item (qe_var 1 (pv 1)) qe_int (fun _ _ => rfl)) qe_int (nomark _)) (qe_one (qe_and (qe_cmp (op_eqQ hr.units) lk_eq (qe_item (qe_var 1 (pv 1)) qe_int (fun _ _ => rfl)) qe_int (nomark _)) (qe_one (qe_cmp op_gt lk_gt (qe_item (qe_var 1 (pv 1)) qe_int (fun _ _ => rfl)) qe_int (nomark _)))))))
      (qss_cons (qs_if (qt_cmp (op_neQ hr.units) lk_ne (qe_var 2 (pv 2)) (qe_var 3 (pv 3)) (nomark _)) (qss_one (qs_ret (qe_var 3 (pv 3)))) qss_nil)
      (qss_one (qs_ret (qe_cmp op_gt lk_gt (qe_op op_sub lk_sub (qe_op op_mulB lk_mul (qe_item (qe_var 1 (pv 1)) qe_int (fun _ _ => rfl)) (qe_item (qe_var 0 (pv 0)) qe_int (fun _ _ => rfl))) (qe_op op_mulB lk_mul (qe_item (qe_var 1 (pv 1)) qe_int (fun _ _ => rfl)) (qe_item (qe_var 0 (pv 0)) qe_int (fun _ _ => rfl)))) qe_int (nomark _)))))))
theorem sc_law_same_way : FnScope ["_law_one", "_law_other"] ["_law_one", "_law_other"] (defScope (top 22)) := ⟨rfl, rfl, rfl, by decide +kernel, rfl, by decide +kernel, by decide +kernel⟩
theorem ok_law_same_way (T : Txt K mg t) : FnOk P w K mg base CX0 1 t.f_law_same_way t.d_law_same_way ["_law_one", "_law_other"] (spD K F_law_same_way) := by
  refine T.F_law_same_way.okQ (n := 2) (m := 2) (B := B_law_same_way) sc_law_same_way rfl rfl (by decide) rfl fun cdv A outer s H E hr => ?_
  unfold B_law_same_way
  exact (qss_one (qs_ret (qe_and (qe_cmp (op_eqQ hr.units) lk_eq (qe_op op_mulB lk_mul (qe_item (qe_var 0 (pv 0)) qe_int (fun _ _ => rfl)) (qe_item (qe_var 1 (pv 1)) qe_int (fun _ _ => rfl))) (qe_op op_mulB lk_mul (qe_item (qe_var 0 (pv 0)) qe_int (fun _ _ => rfl)) (qe_item (qe_var 1 (pv 1)) qe_int (fun _ _ => rfl))) (nomark _)) (qe_one (qe_cmp op_gt lk_gt (qe_op op_addQ lk_add (qe_op op_mulB lk_mul (qe_item (qe_var 0 (pv 0)) qe_int (fun _ _ => rfl)) (qe_item (qe_var 1 (pv 1)) qe_int (fun _ _ => rfl))) (qe_op op_mulB lk_mul (qe_item (qe_var 0 (pv 0)) qe_int (fun _ _ => rfl)) (qe_item (qe_var 1 (pv 1)) qe_int (fun _ _ => rfl)))) qe_int (nomark _))))))
theorem sc_law : FnScope ["_law_script", "_law_by_here", "_law_b", "_law_some", "_law_k", "_law_p", "_law_way_here", "_law_handed", "_law_found", "_law_j", "_law_kept"] ["_law_script"] (defScope (top 23)) := ⟨rfl, rfl, rfl, by decide +kernel, rfl, by decide +kernel, by decide +kernel⟩
theorem ok_law (T : Txt K mg t) : FnOk P w K mg base CX0 10 t.f_law t.d_law ["_law_script"] (spD K (F_law (lam0 t.tc))) := by
  refine T.F_law.okQ (n := 1) (m := 11) (B := (B_law (lam0 t.tc))) sc_law rfl rfl (by decide) rfl fun cdv A outer s H E hr => ?_
  unfold B_law
  exact (qss_cons (qs_set (i := 1) sc_law.nd rfl (Or.inl rfl) (qe_call [] (ok_law_by T) (hr.mono (by decide)) (by rfl) T.m_law_by T.F_law_by.kp T.b_law_by .nil (fun _ _ _ => .nil) (qa_cons (qe_call [] (ok_law_pool T) (hr.mono (by decide)) (by rfl) T.m_law_pool T.F_law_pool.kp T.b_law_pool .nil (fun _ _ _ => .nil) (qa_cons (qe_var 0 (pv 0)) (qa_cons qe_int qa_nil))) qa_nil)))
      (qss_cons (qs_set (i := 2) sc_law.nd rfl (Or.inr rfl) (qe_call [] (ok_law_moved T) (hr.mono (by decide)) (by rfl) T.m_law_moved T.F_law_moved.kp T.b_law_moved .nil (fun _ _ _ => .nil) (qa_cons (qe_call [] (ok_law_place T) (hr.mono (by decide)) (by rfl) T.m_law_place T.F_law_place.kp T.b_law_place .nil (fun _ _ _ => .nil) (qa_cons (qe_call [] (ok_law_pool T) (hr.mono (by decide)) (by rfl) T.m_law_pool T.F_law_pool.kp T.b_law_pool .nil (fun _ _ _ => .nil) (qa_cons (qe_var 0 (pv 0)) (qa_cons qe_int qa_nil))) qa_nil)) (qa_cons (qe_var 1 (pv 1)) qa_nil))))
      (qss_cons (qs_set (i := 3) sc_law.nd rfl (Or.inl rfl) (qe_lst qa_nil))
      (qss_cons (qs_for PassesOwn.never rfl (qi_range1 (by rfl) T.z_range (qa_cons (qe_call [] (ok_law_digit T) (hr.mono (by decide)) (by rfl) T.m_law_digit T.F_law_digit.kp T.b_law_digit .nil (fun _ _ _ => .nil) (qa_cons (qe_call [] (ok_law_pool T) (hr.mono (by decide)) (by rfl) T.m_law_pool T.F_law_pool.kp T.b_law_pool .nil (fun _ _ _ => .nil) (qa_cons (qe_var 0 (pv 0)) (qa_cons qe_int qa_nil))) (qa_cons qe_int qa_nil))) qa_nil)) (qg_name (i := 4) sc_law.nd rfl (Or.inl rfl)) (qss_cons (qs_set (i := 5) sc_law.nd rfl (Or.inl rfl) (qe_call [] (ok_law_moved T) (hr.mono (by decide)) (by rfl) T.m_law_moved T.F_law_moved.kp T.b_law_moved .nil (fun _ _ _ => .nil) (qa_cons (qe_call [] (ok_law_place T) (hr.mono (by decide)) (by rfl) T.m_law_place T.F_law_place.kp T.b_law_place .nil (fun _ _ _ => .nil) (qa_cons (qe_call [] (ok_law_pool T) (hr.mono (by decide)) (by rfl) T.m_law_pool T.F_law_pool.kp T.b_law_pool .nil (fun _ _ _ => .nil) (qa_cons (qe_var 0 (pv 0)) (qa_cons (qe_op op_addQ lk_add qe_int (qe_var 4 (pv 4))) qa_nil))) qa_nil)) (qa_cons (qe_var 1 (pv 1)) qa_nil))))
      (qss_cons (qs_set (i := 6) sc_law.nd rfl (Or.inr rfl) (qe_call [] (ok_law_way T) (hr.mono (by decide)) (by rfl) T.m_law_way T.F_law_way.kp T.b_law_way .nil (fun _ _ _ => .nil) (qa_cons (qe_var 2 (pv 2)) (qa_cons (qe_var 5 (pv 5)) qa_nil))))
      (qss_one (qs_if (PW.pt (qw_and (qt_cmp (op_neQ hr.units) lk_ne (qe_var 6 (pv 6)) (qe_tup (qa_cons qe_int (qa_cons qe_int qa_nil))) (nomark _)) (qw_and1 (qt_not (qt_val (qe_callB (call_anyQ rfl) lk_any (by rfl) T.z_any bt_any (qa_cons (qe_comp (N' := ["_law_q", "_law_way_here", "_law_b"]) (cap := [none, some 6, some 2]) (blk_mk (sc := defScope (top 23)) (NN := ["_law_script", "_law_by_here", "_law_b", "_law_some", "_law_k", "_law_p", "_law_way_here", "_law_handed", "_law_found", "_law_j", "_law_kept"]) rfl rfl rfl (by decide +kernel) (by decide +kernel) (by decide +kernel) (by decide +kernel)) rfl (qi_list (qe_var 3 (pv 3))) (fun _ _ _ _ => (qg_name (i := 0) (show List.Nodup (["_law_q", "_law_way_here", "_law_b"] : List Str) by decide +kernel) rfl (Or.inl rfl))) (fun _ _ _ _ => qifs_none) (fun _ _ _ _ => (qe_call [] (ok_law_same_way T) (hr.mono (by decide)) (by rfl) T.m_law_same_way T.F_law_same_way.kp T.b_law_same_way .nil (fun _ _ _ => .nil) (qa_cons (qe_var 1 (pv 1)) (qa_cons (qe_call [] (ok_law_way T) (hr.mono (by decide)) (by rfl) T.m_law_way T.F_law_way.kp T.b_law_way .nil (fun _ _ _ => .nil) (qa_cons (qe_var 2 (pv 2)) (qa_cons (qe_var 0 (pv 0)) qa_nil))) qa_nil))))) qa_nil))))))) (qss_one (qs_expr (qe_m PySem.F.slot_list_append PySem.F.type_list_append mt_append lk_append (qe_var 3 (pv 3)) (qa_cons (qe_var 5 (pv 5)) qa_nil)))) qss_nil)))))
      (qss_cons (qs_set (i := 7) sc_law.nd rfl (Or.inl rfl) (qe_callTy call_list_of lk_list (by rfl) T.z_list bt_list (qa_cons (qe_var 3 (pv 3)) qa_nil)))
      (qss_cons (qs_set (i := 8) sc_law.nd rfl (Or.inl rfl) (qe_call [] (ok_round_about T) (hr.mono (by decide)) (by rfl) T.m_round_about T.F_round_about.kp T.b_round_about .nil (fun _ _ _ => .nil) (qa_cons (qe_var 2 (pv 2)) (qa_cons (qe_var 7 (pv 7)) qa_nil))))
      (qss_cons (qs_if (PW.pt (qw_or (qt_not (qt_val (qe_callB call_isinst lk_isinst (by rfl) T.z_isinstance bt_isinstance (qa_cons (qe_var 8 (pv 8)) (qa_cons (qe_c (.ty "list") (pe_bltn (v := .ty "list") (by rfl) T.z_list bt_list rfl) fun _ _ _ => .ty "list") qa_nil))))) (qw_or (qt_cmp (op_neQ hr.units) lk_neW (qe_callB call_sortT lk_sortT (by rfl) T.z_sorted bt_sorted (qa_cons (qe_var 8 (pv 8)) qa_nil)) (qe_callB call_sortT lk_sortT (by rfl) T.z_sorted bt_sorted (qa_cons (qe_var 3 (pv 3)) qa_nil)) (nomark _)) (qw_or1 (qt_cmp (op_neQ hr.units) lk_neW (qe_var 7 (pv 7)) (qe_var 3 (pv 3)) (nomark _)))))) (qss_one (qs_ret qe_bl)) qss_nil)
      (qss_cons (qs_for PassesOwn.never rfl (qi_range1 (by rfl) T.z_range (qa_cons (qe_callB call_len_seq lk_len (by rfl) T.z_len bt_len (qa_cons (qe_var 8 (pv 8)) qa_nil)) qa_nil)) (qg_name (i := 4) sc_law.nd rfl (Or.inl rfl)) (qss_one (qs_for PassesOwn.never rfl (qi_range1 (by rfl) T.z_range (qa_cons (qe_var 4 (pv 4)) qa_nil)) (qg_name (i := 9) sc_law.nd rfl (Or.inl rfl)) (qss_one (qs_if (qt_not (qt_val (qe_call [] (ok_law_behind T) (hr.mono (by decide)) (by rfl) T.m_law_behind T.F_law_behind.kp T.b_law_behind .nil (fun _ _ _ => .nil) (qa_cons (qe_call [] (ok_law_way T) (hr.mono (by decide)) (by rfl) T.m_law_way T.F_law_way.kp T.b_law_way .nil (fun _ _ _ => .nil) (qa_cons (qe_var 2 (pv 2)) (qa_cons (qe_item (qe_var 8 (pv 8)) (qe_var 4 (pv 4)) (fun _ _ => rfl)) qa_nil))) (qa_cons (qe_call [] (ok_law_way T) (hr.mono (by decide)) (by rfl) T.m_law_way T.F_law_way.kp T.b_law_way .nil (fun _ _ _ => .nil) (qa_cons (qe_var 2 (pv 2)) (qa_cons (qe_item (qe_var 8 (pv 8)) (qe_var 9 (pv 9)) (fun _ _ => rfl)) qa_nil))) qa_nil))))) (qss_one (qs_ret qe_bl)) qss_nil)))))
      (qss_cons (qs_set (i := 10) sc_law.nd rfl (Or.inl rfl) (qe_callTy call_list_of lk_list (by rfl) T.z_list bt_list (qa_cons (qe_var 8 (pv 8)) qa_nil)))
      (qss_cons (qs_expr (qe_m0 PySem.F.slot_list_clear PySem.F.type_list_clear mt_clear lk_clear (qe_var 8 (pv 8))))
      (qss_one (qs_ret (qe_and (qe_cmp (op_eqQ hr.units) lk_eqW (qe_call [] (ok_round_about T) (hr.mono (by decide)) (by rfl) T.m_round_about T.F_round_about.kp T.b_round_about .nil (fun _ _ _ => .nil) (qa_cons (qe_var 2 (pv 2)) (qa_cons (qe_ListRev (by rfl) T.z_list (by rfl) T.z_reversed (qa_cons (qe_var 3 (pv 3)) qa_nil)) qa_nil))) (qe_var 10 (pv 10)) (nomark _)) (qe_one (qe_cmp (op_eqQ hr.units) lk_eqW (qe_call [] (ok_round_about T) (hr.mono (by decide)) (by rfl) T.m_round_about T.F_round_about.kp T.b_round_about .nil (fun _ _ _ => .nil) (qa_cons (qe_var 2 (pv 2)) (qa_cons (qe_var 7 (pv 7)) qa_nil))) (qe_var 10 (pv 10)) (nomark _))))))))))))))))
end
theorem txt_mk {K : PySem.W.Frag} {h : Heap} {mg : Str → Option Value} (X : K.In h) (G : h.Ns mainGlobals mg)
    {f0 : Addr} {od0 an0 : Option Addr} {sl0 : Array (Option Value)} {oc0 kV0 dc0 pm0 cd0 ct0 : Value}
    {f1 : Addr} {od1 an1 : Option Addr} {sl1 : Array (Option Value)} {oc1 kV1 dc1 pm1 cd1 ct1 : Value}
    {f2 : Addr} {od2 an2 : Option Addr} {sl2 : Array (Option Value)} {oc2 kV2 dc2 pm2 cd2 ct2 : Value}
    {f3 : Addr} {od3 an3 : Option Addr} {sl3 : Array (Option Value)} {oc3 kV3 dc3 pm3 cd3 ct3 : Value}
    {f4 : Addr} {od4 an4 : Option Addr} {sl4 : Array (Option Value)} {oc4 kV4 dc4 pm4 cd4 ct4 : Value}
    {f5 : Addr} {od5 an5 : Option Addr} {sl5 : Array (Option Value)} {oc5 kV5 dc5 pm5 cd5 ct5 : Value}
    {f6 : Addr} {od6 an6 : Option Addr} {sl6 : Array (Option Value)} {oc6 kV6 dc6 pm6 cd6 ct6 : Value}
    {f7 : Addr} {od7 an7 : Option Addr} {sl7 : Array (Option Value)} {oc7 kV7 dc7 pm7 cd7 ct7 : Value}
    {f8 : Addr} {od8 an8 : Option Addr} {sl8 : Array (Option Value)} {oc8 kV8 dc8 pm8 cd8 ct8 : Value}
    {f9 : Addr} {od9 an9 : Option Addr} {sl9 : Array (Option Value)} {oc9 kV9 dc9 pm9 cd9 ct9 : Value}
    {f10 : Addr} {od10 an10 : Option Addr} {sl10 : Array (Option Value)} {oc10 kV10 dc10 pm10 ct10 : Value} {cd10 tp : Addr}
    {f11 : Addr} {od11 an11 : Option Addr} {sl11 : Array (Option Value)} {oc11 kV11 dc11 pm11 cd11 ct11 : Value}
    {f12 : Addr} {od12 an12 : Option Addr} {sl12 : Array (Option Value)} {oc12 kV12 dc12 pm12 cd12 ct12 : Value}
    {f13 : Addr} {od13 an13 : Option Addr} {sl13 : Array (Option Value)} {oc13 kV13 dc13 pm13 cd13 ct13 : Value}
    {f14 : Addr} {od14 an14 : Option Addr} {sl14 : Array (Option Value)} {oc14 kV14 dc14 pm14 cd14 ct14 : Value}
    {f15 : Addr} {od15 an15 : Option Addr} {sl15 : Array (Option Value)} {oc15 kV15 dc15 pm15 cd15 ct15 : Value}
    {f16 : Addr} {od16 an16 : Option Addr} {sl16 : Array (Option Value)} {oc16 kV16 dc16 pm16 cd16 ct16 : Value}
    {f17 : Addr} {od17 an17 : Option Addr} {sl17 : Array (Option Value)} {oc17 kV17 dc17 pm17 cd17 ct17 : Value}
    {f18 : Addr} {od18 an18 : Option Addr} {sl18 : Array (Option Value)} {oc18 kV18 dc18 pm18 cd18 ct18 : Value}
    {f19 : Addr} {od19 an19 : Option Addr} {sl19 : Array (Option Value)} {oc19 kV19 dc19 pm19 cd19 ct19 : Value}
    {f20 : Addr} {od20 an20 : Option Addr} {sl20 : Array (Option Value)} {oc20 kV20 dc20 pm20 cd20 ct20 : Value}
    (a0 : PySem.W.nsIn K mainGlobals "is_below" = some (some (.ref f0)))
    (l0 : K.lookup f0 = some ⟨oc0, od0, .func (PySem.W.fnOf "is_below" "is_below" (defArgs (top 1)) (defBody (top 1)) (defScope (top 1)) .none kV0 dc0 pm0 an0 cd0 ct0), sl0⟩)
    (c0 : PySem.W.codeIn K cd0 "is_below" = true) (k0 : PySem.W.keepIn K (.ref f0) = true)
    (a1 : PySem.W.nsIn K mainGlobals "ahead" = some (some (.ref f1)))
    (l1 : K.lookup f1 = some ⟨oc1, od1, .func (PySem.W.fnOf "ahead" "ahead" (defArgs (top 2)) (defBody (top 2)) (defScope (top 2)) .none kV1 dc1 pm1 an1 cd1 ct1), sl1⟩)
    (c1 : PySem.W.codeIn K cd1 "ahead" = true) (k1 : PySem.W.keepIn K (.ref f1) = true)
    (a2 : PySem.W.nsIn K mainGlobals "crossed" = some (some (.ref f2)))
    (l2 : K.lookup f2 = some ⟨oc2, od2, .func (PySem.W.fnOf "crossed" "crossed" (defArgs (top 3)) (defBody (top 3)) (defScope (top 3)) .none kV2 dc2 pm2 an2 cd2 ct2), sl2⟩)
    (c2 : PySem.W.codeIn K cd2 "crossed" = true) (k2 : PySem.W.keepIn K (.ref f2) = true)
    (a3 : PySem.W.nsIn K mainGlobals "sign" = some (some (.ref f3)))
    (l3 : K.lookup f3 = some ⟨oc3, od3, .func (PySem.W.fnOf "sign" "sign" (defArgs (top 4)) (defBody (top 4)) (defScope (top 4)) .none kV3 dc3 pm3 an3 cd3 ct3), sl3⟩)
    (c3 : PySem.W.codeIn K cd3 "sign" = true) (k3 : PySem.W.keepIn K (.ref f3) = true)
    (a4 : PySem.W.nsIn K mainGlobals "turn" = some (some (.ref f4)))
    (l4 : K.lookup f4 = some ⟨oc4, od4, .func (PySem.W.fnOf "turn" "turn" (defArgs (top 5)) (defBody (top 5)) (defScope (top 5)) .none kV4 dc4 pm4 an4 cd4 ct4), sl4⟩)
    (c4 : PySem.W.codeIn K cd4 "turn" = true) (k4 : PySem.W.keepIn K (.ref f4) = true)
    (a5 : PySem.W.nsIn K mainGlobals "in_first_half" = some (some (.ref f5)))
    (l5 : K.lookup f5 = some ⟨oc5, od5, .func (PySem.W.fnOf "in_first_half" "in_first_half" (defArgs (top 10)) (defBody (top 10)) (defScope (top 10)) .none kV5 dc5 pm5 an5 cd5 ct5), sl5⟩)
    (c5 : PySem.W.codeIn K cd5 "in_first_half" = true) (k5 : PySem.W.keepIn K (.ref f5) = true)
    (a6 : PySem.W.nsIn K mainGlobals "met_first" = some (some (.ref f6)))
    (l6 : K.lookup f6 = some ⟨oc6, od6, .func (PySem.W.fnOf "met_first" "met_first" (defArgs (top 11)) (defBody (top 11)) (defScope (top 11)) .none kV6 dc6 pm6 an6 cd6 ct6), sl6⟩)
    (c6 : PySem.W.codeIn K cd6 "met_first" = true) (k6 : PySem.W.keepIn K (.ref f6) = true)
    (a7 : PySem.W.nsIn K mainGlobals "merged" = some (some (.ref f7)))
    (l7 : K.lookup f7 = some ⟨oc7, od7, .func (PySem.W.fnOf "merged" "merged" (defArgs (top 6)) (defBody (top 6)) (defScope (top 6)) .none kV7 dc7 pm7 an7 cd7 ct7), sl7⟩)
    (c7 : PySem.W.codeIn K cd7 "merged" = true) (k7 : PySem.W.keepIn K (.ref f7) = true)
    (a8 : PySem.W.nsIn K mainGlobals "merged_pairs" = some (some (.ref f8)))
    (l8 : K.lookup f8 = some ⟨oc8, od8, .func (PySem.W.fnOf "merged_pairs" "merged_pairs" (defArgs (top 7)) (defBody (top 7)) (defScope (top 7)) .none kV8 dc8 pm8 an8 cd8 ct8), sl8⟩)
    (c8 : PySem.W.codeIn K cd8 "merged_pairs" = true) (k8 : PySem.W.keepIn K (.ref f8) = true)
    (a9 : PySem.W.nsIn K mainGlobals "in_order" = some (some (.ref f9)))
    (l9 : K.lookup f9 = some ⟨oc9, od9, .func (PySem.W.fnOf "in_order" "in_order" (defArgs (top 8)) (defBody (top 8)) (defScope (top 8)) .none kV9 dc9 pm9 an9 cd9 ct9), sl9⟩)
    (c9 : PySem.W.codeIn K cd9 "in_order" = true) (k9 : PySem.W.keepIn K (.ref f9) = true)
    (a10 : PySem.W.nsIn K mainGlobals "round_about" = some (some (.ref f10)))
    (l10 : K.lookup f10 = some ⟨oc10, od10, .func (PySem.W.fnOf "round_about" "round_about" (defArgs (top 12)) (defBody (top 12)) (defScope (top 12)) .none kV10 dc10 pm10 an10 (.ref cd10) ct10), sl10⟩)
    (c10 : PySem.W.codeIn K (.ref cd10) "round_about" = true) (k10 : PySem.W.keepIn K (.ref f10) = true)
    (a11 : PySem.W.nsIn K mainGlobals "_law_pool" = some (some (.ref f11)))
    (l11 : K.lookup f11 = some ⟨oc11, od11, .func (PySem.W.fnOf "_law_pool" "_law_pool" (defArgs (top 14)) (defBody (top 14)) (defScope (top 14)) .none kV11 dc11 pm11 an11 cd11 ct11), sl11⟩)
    (c11 : PySem.W.codeIn K cd11 "_law_pool" = true) (k11 : PySem.W.keepIn K (.ref f11) = true)
    (a12 : PySem.W.nsIn K mainGlobals "_law_digit" = some (some (.ref f12)))
    (l12 : K.lookup f12 = some ⟨oc12, od12, .func (PySem.W.fnOf "_law_digit" "_law_digit" (defArgs (top 15)) (defBody (top 15)) (defScope (top 15)) .none kV12 dc12 pm12 an12 cd12 ct12), sl12⟩)
    (c12 : PySem.W.codeIn K cd12 "_law_digit" = true) (k12 : PySem.W.keepIn K (.ref f12) = true)
    (a13 : PySem.W.nsIn K mainGlobals "_law_lowest" = some (some (.ref f13)))
    (l13 : K.lookup f13 = some ⟨oc13, od13, .func (PySem.W.fnOf "_law_lowest" "_law_lowest" (defArgs (top 16)) (defBody (top 16)) (defScope (top 16)) .none kV13 dc13 pm13 an13 cd13 ct13), sl13⟩)
    (c13 : PySem.W.codeIn K cd13 "_law_lowest" = true) (k13 : PySem.W.keepIn K (.ref f13) = true)
    (a14 : PySem.W.nsIn K mainGlobals "_law_place" = some (some (.ref f14)))
    (l14 : K.lookup f14 = some ⟨oc14, od14, .func (PySem.W.fnOf "_law_place" "_law_place" (defArgs (top 17)) (defBody (top 17)) (defScope (top 17)) .none kV14 dc14 pm14 an14 cd14 ct14), sl14⟩)
    (c14 : PySem.W.codeIn K cd14 "_law_place" = true) (k14 : PySem.W.keepIn K (.ref f14) = true)
    (a15 : PySem.W.nsIn K mainGlobals "_law_by" = some (some (.ref f15)))
    (l15 : K.lookup f15 = some ⟨oc15, od15, .func (PySem.W.fnOf "_law_by" "_law_by" (defArgs (top 18)) (defBody (top 18)) (defScope (top 18)) .none kV15 dc15 pm15 an15 cd15 ct15), sl15⟩)
    (c15 : PySem.W.codeIn K cd15 "_law_by" = true) (k15 : PySem.W.keepIn K (.ref f15) = true)
    (a16 : PySem.W.nsIn K mainGlobals "_law_moved" = some (some (.ref f16)))
    (l16 : K.lookup f16 = some ⟨oc16, od16, .func (PySem.W.fnOf "_law_moved" "_law_moved" (defArgs (top 19)) (defBody (top 19)) (defScope (top 19)) .none kV16 dc16 pm16 an16 cd16 ct16), sl16⟩)
    (c16 : PySem.W.codeIn K cd16 "_law_moved" = true) (k16 : PySem.W.keepIn K (.ref f16) = true)
    (a17 : PySem.W.nsIn K mainGlobals "_law_way" = some (some (.ref f17)))
    (l17 : K.lookup f17 = some ⟨oc17, od17, .func (PySem.W.fnOf "_law_way" "_law_way" (defArgs (top 20)) (defBody (top 20)) (defScope (top 20)) .none kV17 dc17 pm17 an17 cd17 ct17), sl17⟩)
    (c17 : PySem.W.codeIn K cd17 "_law_way" = true) (k17 : PySem.W.keepIn K (.ref f17) = true)
    (a18 : PySem.W.nsIn K mainGlobals "_law_behind" = some (some (.ref f18)))
    (l18 : K.lookup f18 = some ⟨oc18, od18, .func (PySem.W.fnOf "_law_behind" "_law_behind" (defArgs (top 21)) (defBody (top 21)) (defScope (top 21)) .none kV18 dc18 pm18 an18 cd18 ct18), sl18⟩)
    (c18 : PySem.W.codeIn K cd18 "_law_behind" = true) (k18 : PySem.W.keepIn K (.ref f18) = true)
    (a19 : PySem.W.nsIn K mainGlobals "_law_same_way" = some (some (.ref f19)))
    (l19 : K.lookup f19 = some ⟨oc19, od19, .func (PySem.W.fnOf "_law_same_way" "_law_same_way" (defArgs (top 22)) (defBody (top 22)) (defScope (top 22)) .none kV19 dc19 pm19 an19 cd19 ct19), sl19⟩)
    (c19 : PySem.W.codeIn K cd19 "_law_same_way" = true) (k19 : PySem.W.keepIn K (.ref f19) = true)
    (a20 : PySem.W.nsIn K mainGlobals "law" = some (some (.ref f20)))
    (l20 : K.lookup f20 = some ⟨oc20, od20, .func (PySem.W.fnOf "law" "law" (defArgs (top 23)) (defBody (top 23)) (defScope (top 23)) .none kV20 dc20 pm20 an20 cd20 ct20), sl20⟩)
    (c20 : PySem.W.codeIn K cd20 "law" = true) (k20 : PySem.W.keepIn K (.ref f20) = true)
    (z_abs : PySem.W.nsIn K mainGlobals "abs" = some none)
    (z_any : PySem.W.nsIn K mainGlobals "any" = some none)
    (z_int : PySem.W.nsIn K mainGlobals "int" = some none)
    (z_isinstance : PySem.W.nsIn K mainGlobals "isinstance" = some none)
    (z_len : PySem.W.nsIn K mainGlobals "len" = some none)
    (z_list : PySem.W.nsIn K mainGlobals "list" = some none)
    (z_range : PySem.W.nsIn K mainGlobals "range" = some none)
    (z_reversed : PySem.W.nsIn K mainGlobals "reversed" = some none)
    (z_sorted : PySem.W.nsIn K mainGlobals "sorted" = some none)
    (tn : K.lookup tp = none) (th : PySem.W.codeHdIn K cd10 tp = true)
    : ∃ t, Txt K mg t ∧ (∀ (s : Shared) (v : Value), BindsTo s t.d_law ⟨[v], []⟩ [("_law_script", v)]) ∧ t.tp = tp := by
  have F0 := fun_mk (st := top 1) l0 c0 k0
  have b0 := F0.binds (ps := ["p", "q"]) fun _ _ _ _ _ _ us hl => match us, hl with | [_, _], _ => rfl
  have F1 := fun_mk (st := top 2) l1 c1 k1
  have b1 := F1.binds (ps := ["p", "q"]) fun _ _ _ _ _ _ us hl => match us, hl with | [_, _], _ => rfl
  have F2 := fun_mk (st := top 3) l2 c2 k2
  have b2 := F2.binds (ps := ["p", "q"]) fun _ _ _ _ _ _ us hl => match us, hl with | [_, _], _ => rfl
  have F3 := fun_mk (st := top 4) l3 c3 k3
  have b3 := F3.binds (ps := ["n"]) fun _ _ _ _ _ _ us hl => match us, hl with | [_], _ => rfl
  have F4 := fun_mk (st := top 5) l4 c4 k4
  have b4 := F4.binds (ps := ["a", "b", "c"]) fun _ _ _ _ _ _ us hl => match us, hl with | [_, _, _], _ => rfl
  have F5 := fun_mk (st := top 10) l5 c5 k5
  have b5 := F5.binds (ps := ["b", "p"]) fun _ _ _ _ _ _ us hl => match us, hl with | [_, _], _ => rfl
  have F6 := fun_mk (st := top 11) l6 c6 k6
  have b6 := F6.binds (ps := ["b", "p", "q"]) fun _ _ _ _ _ _ us hl => match us, hl with | [_, _, _], _ => rfl
  have F7 := fun_mk (st := top 6) l7 c7 k7
  have b7 := F7.binds (ps := ["left", "right", "first"]) fun _ _ _ _ _ _ us hl => match us, hl with | [_, _, _], _ => rfl
  have F8 := fun_mk (st := top 7) l8 c8 k8
  have b8 := F8.binds (ps := ["runs", "first"]) fun _ _ _ _ _ _ us hl => match us, hl with | [_, _], _ => rfl
  have F9 := fun_mk (st := top 8) l9 c9 k9
  have b9 := F9.binds (ps := ["some", "first"]) fun _ _ _ _ _ _ us hl => match us, hl with | [_, _], _ => rfl
  have F10 := func_mk (st := top 12) l10 c10 k10
  have b10 := F10.toFun.binds (ps := ["b", "some"]) fun _ _ _ _ _ _ us hl => match us, hl with | [_, _], _ => rfl
  have F11 := fun_mk (st := top 14) l11 c11 k11
  have b11 := F11.binds (ps := ["_law_script", "_law_k"]) fun _ _ _ _ _ _ us hl => match us, hl with | [_, _], _ => rfl
  have F12 := fun_mk (st := top 15) l12 c12 k12
  have b12 := F12.binds (ps := ["_law_pool_here", "_law_many"]) fun _ _ _ _ _ _ us hl => match us, hl with | [_, _], _ => rfl
  have F13 := fun_mk (st := top 16) l13 c13 k13
  have b13 := F13.binds (ps := ["_law_x", "_law_y", "_law_w"]) fun _ _ _ _ _ _ us hl => match us, hl with | [_, _, _], _ => rfl
  have F14 := fun_mk (st := top 17) l14 c14 k14
  have b14 := F14.binds (ps := ["_law_pool_here"]) fun _ _ _ _ _ _ us hl => match us, hl with | [_], _ => rfl
  have F15 := fun_mk (st := top 18) l15 c15 k15
  have b15 := F15.binds (ps := ["_law_pool_here"]) fun _ _ _ _ _ _ us hl => match us, hl with | [_], _ => rfl
  have F16 := fun_mk (st := top 19) l16 c16 k16
  have b16 := F16.binds (ps := ["_law_p", "_law_by_here"]) fun _ _ _ _ _ _ us hl => match us, hl with | [_, _], _ => rfl
  have F17 := fun_mk (st := top 20) l17 c17 k17
  have b17 := F17.binds (ps := ["_law_b", "_law_p"]) fun _ _ _ _ _ _ us hl => match us, hl with | [_, _], _ => rfl
  have F18 := fun_mk (st := top 21) l18 c18 k18
  have b18 := F18.binds (ps := ["_law_one", "_law_other"]) fun _ _ _ _ _ _ us hl => match us, hl with | [_, _], _ => rfl
  have F19 := fun_mk (st := top 22) l19 c19 k19
  have b19 := F19.binds (ps := ["_law_one", "_law_other"]) fun _ _ _ _ _ _ us hl => match us, hl with | [_, _], _ => rfl
  have F20 := fun_mk (st := top 23) l20 c20 k20
  have b20 := F20.binds (ps := ["_law_script"]) fun _ _ _ _ _ _ us hl => match us, hl with | [_], _ => rfl
  exact ⟨⟨cd10, tp, f0, _, f1, _, f2, _, f3, _, f4, _, f5, _, f6, _, f7, _, f8, _, f9, _, f10, _, f11, _, f12, _, f13, _, f14, _, f15, _, f16, _, f17, _, f18, _, f19, _, f20, _⟩, ⟨tn, th, F0, PySem.W.mg_of X G a0, b0, F1, PySem.W.mg_of X G a1, b1, F2, PySem.W.mg_of X G a2, b2, F3, PySem.W.mg_of X G a3, b3, F4, PySem.W.mg_of X G a4, b4, F5, PySem.W.mg_of X G a5, b5, F6, PySem.W.mg_of X G a6, b6, F7, PySem.W.mg_of X G a7, b7, F8, PySem.W.mg_of X G a8, b8, F9, PySem.W.mg_of X G a9, b9, F10, PySem.W.mg_of X G a10, b10, F11, PySem.W.mg_of X G a11, b11, F12, PySem.W.mg_of X G a12, b12, F13, PySem.W.mg_of X G a13, b13, F14, PySem.W.mg_of X G a14, b14, F15, PySem.W.mg_of X G a15, b15, F16, PySem.W.mg_of X G a16, b16, F17, PySem.W.mg_of X G a17, b17, F18, PySem.W.mg_of X G a18, b18, F19, PySem.W.mg_of X G a19, b19, F20, PySem.W.mg_of X G a20, b20, PySem.W.mg_none_of X G z_abs, PySem.W.mg_none_of X G z_any, PySem.W.mg_none_of X G z_int, PySem.W.mg_none_of X G z_isinstance, PySem.W.mg_none_of X G z_len, PySem.W.mg_none_of X G z_list, PySem.W.mg_none_of X G z_range, PySem.W.mg_none_of X G z_reversed, PySem.W.mg_none_of X G z_sorted⟩, fun s v => .of_eq rfl, rfl⟩
theorem walk {l : PySem.W.OpenLaw} {q : Program} {loose : List Str} {XP : (Str → Option Value) → Heap → Prop} {YP : World → Heap → Prop} {d : DefRec} {K : Params → PySem.W.Frag} {ts : List Addr} (hn : l.most = some 63) (hdf : d.params.defaults = [])
    (hY : ∀ (w : World) (h : Heap), YP w h → (K w.params).In h ∧ ∀ P ∈ ts, h.get? P = some (PySem.W.tabObj #[]))
    (F : ∀ (w : World) (mg : Str → Option Value) (fa : Addr) (h : Heap), (K w.params).In h → h.Ns mainGlobals mg → mg d.name = some (.ref fa) →
      (∀ P ∈ ts, (K w.params).lookup P = none ∧ ∃ c, PySem.W.codeHdIn (K w.params) c P = true) ∧ ∃ fd : FuncData, (∀ (s : Shared) (u : Value), BindsTo s fd ⟨[u], []⟩ [("_law_script", u)]) ∧ ∀ base : Heap, (K w.params).In base → base.Ns mainGlobals mg → FnOk l.prog w (K w.params) mg base CX0 10 fa fd ["_law_script"] (spL ts (K w.params) F_law)) :
    PySem.W.WalkO q loose XP YP l.row.toRowW d [] (fun f vs => PySem.call f vs) :=
  L2.walk_ofL (n := 63) (k := 10) (x := "_law_script") (sp := fun K => spL ts K F_law) hn (by decide) hdf ⟨rfl, by decide, by decide⟩ hY F (fun K H a ns hl hO hS => law_spL hO hS fun t => law_true t ns hl)
theorem fin {P : Program} {w : World} {K : PySem.W.Frag} {mg : Str → Option Value} {fa tp : Addr} (hmg : mg "law" = some (.ref fa)) (TT : ∃ t, Txt K mg t ∧ (∀ (s : Shared) (v : Value), BindsTo s t.d_law ⟨[v], []⟩ [("_law_script", v)]) ∧ t.tp = tp) :
    (∀ P ∈ [tp], K.lookup P = none ∧ ∃ c, PySem.W.codeHdIn K c P = true) ∧ ∃ fd : FuncData, (∀ (s : Shared) (u : Value), BindsTo s fd ⟨[u], []⟩ [("_law_script", u)]) ∧ ∀ base : Heap, K.In base → base.Ns mainGlobals mg → FnOk P w K mg base CX0 10 fa fd ["_law_script"] (spL [tp] K F_law) := by
  obtain ⟨t, T, hb, rfl⟩ := TT
  have e0 := hmg.symm.trans T.m_law
  cases e0
  refine ⟨fun P hP => ?_, _, hb, fun base _ _ => (ok_law T).imp fun _ _ _ _ q => q (lam0 t.tc) ⟨t.tp, by simp, T.th⟩⟩
  have : P = t.tp := by simpa using hP
  subst this
  exact ⟨T.tn, t.tc, T.th⟩
end Law
open PySem PySem.W PyProof.Rows
set_option maxRecDepth 100000 in
set_option maxHeartbeats 0 in
theorem PySem.Challenge.cw_sheetlay_k21_round_about_holds : PySem.Challenge.rw_sheetlay_k21_round_about.Holds := by
  w_on; o_law; k_head; (case hw => w_witness2)
  k_fill
  refine Law.walk (l := PySem.Challenge.rw_sheetlay_k21_round_about) rfl rfl (fun w h Y => ⟨PySem.W.km_in_of Y, PySem.W.km_tabs_of Y⟩) ?F
  case F =>
    intro w mg fa h KX G hmg
    refine Law.fin (K := L2.KOf KX) hmg ?_
    dsimp only [L2.KOf]
    refine' Law.txt_mk KX G ?a0 ?l0 ?c0 ?k0 ?a1 ?l1 ?c1 ?k1 ?a2 ?l2 ?c2 ?k2 ?a3 ?l3 ?c3 ?k3 ?a4 ?l4 ?c4 ?k4 ?a5 ?l5 ?c5 ?k5 ?a6 ?l6 ?c6 ?k6 ?a7 ?l7 ?c7 ?k7 ?a8 ?l8 ?c8 ?k8 ?a9 ?l9 ?c9 ?k9 ?a10 ?l10 ?c10 ?k10 ?a11 ?l11 ?c11 ?k11 ?a12 ?l12 ?c12 ?k12 ?a13 ?l13 ?c13 ?k13 ?a14 ?l14 ?c14 ?k14 ?a15 ?l15 ?c15 ?k15 ?a16 ?l16 ?c16 ?k16 ?a17 ?l17 ?c17 ?k17 ?a18 ?l18 ?c18 ?k18 ?a19 ?l19 ?c19 ?k19 ?a20 ?l20 ?c20 ?k20 ?z_abs ?z_any ?z_int ?z_isinstance ?z_len ?z_list ?z_range ?z_reversed ?z_sorted ?tn ?th
    (case a0 => k_is)
    (case l0 => k_is)
    (case c0 => k_is)
    (case k0 => k_is)
    (case a1 => k_is)
    (case l1 => k_is)
    (case c1 => k_is)
    (case k1 => k_is)
    (case a2 => k_is)
    (case l2 => k_is)
    (case c2 => k_is)
    (case k2 => k_is)
    (case a3 => k_is)
    (case l3 => k_is)
    (case c3 => k_is)
    (case k3 => k_is)
    (case a4 => k_is)
    (case l4 => k_is)
    (case c4 => k_is)
    (case k4 => k_is)
    (case a5 => k_is)
    (case l5 => k_is)
    (case c5 => k_is)
    (case k5 => k_is)
    (case a6 => k_is)
    (case l6 => k_is)
    (case c6 => k_is)
    (case k6 => k_is)
    (case a7 => k_is)
    (case l7 => k_is)
    (case c7 => k_is)
    (case k7 => k_is)
    (case a8 => k_is)
    (case l8 => k_is)
    (case c8 => k_is)
    (case k8 => k_is)
    (case a9 => k_is)
    (case l9 => k_is)
    (case c9 => k_is)
    (case k9 => k_is)
    (case a10 => k_is)
    (case l10 => k_is)
    (case c10 => k_is)
    (case k10 => k_is)
    (case a11 => k_is)
    (case l11 => k_is)
    (case c11 => k_is)
    (case k11 => k_is)
    (case a12 => k_is)
    (case l12 => k_is)
    (case c12 => k_is)
    (case k12 => k_is)
    (case a13 => k_is)
    (case l13 => k_is)
    (case c13 => k_is)
    (case k13 => k_is)
    (case a14 => k_is)
    (case l14 => k_is)
    (case c14 => k_is)
    (case k14 => k_is)
    (case a15 => k_is)
    (case l15 => k_is)
    (case c15 => k_is)
    (case k15 => k_is)
    (case a16 => k_is)
    (case l16 => k_is)
    (case c16 => k_is)
    (case k16 => k_is)
    (case a17 => k_is)
    (case l17 => k_is)
    (case c17 => k_is)
    (case k17 => k_is)
    (case a18 => k_is)
    (case l18 => k_is)
    (case c18 => k_is)
    (case k18 => k_is)
    (case a19 => k_is)
    (case l19 => k_is)
    (case c19 => k_is)
    (case k19 => k_is)
    (case a20 => k_is)
    (case l20 => k_is)
    (case c20 => k_is)
    (case k20 => k_is)
    (case z_abs => k_is)
    (case z_any => k_is)
    (case z_int => k_is)
    (case z_isinstance => k_is)
    (case z_len => k_is)
    (case z_list => k_is)
    (case z_range => k_is)
    (case z_reversed => k_is)
    (case z_sorted => k_is)
    (case tn => kernel_rfl)
    (case th => kernel_rfl)

