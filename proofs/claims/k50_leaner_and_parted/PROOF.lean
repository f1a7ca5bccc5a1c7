import PyProof.Rows.All
import Wide.All
import OpenK.AllK
import Wide.FinOn
import Lean
import PyProof.EqAt
import PyProof.EqKinds
import PyProof.TupleCall
import PySem.Challenge.RW_sheetlay_k50_leaner_and_parted
set_option Elab.async false
set_option linter.all false
set_option maxRecDepth 100000
namespace L2
open PySem PySem.Spec PyProof.Rows
abbrev Key := Sum Int Str
def keyIs : Key → Value → Bool
  | .inl k, v => Value.isInt k v
  | .inr x, v => Value.isStrOf x v
def keyH (w : World) : Key → Int
  | .inl k => hashInt k
  | .inr x => hashStr w x
theorem keyIs_shape : ∀ {k : Key} {v : Value}, keyIs k v = true → (∃ i t, k = Sum.inl i ∧ v = Value.int i t) ∨ (∃ x t, k = Sum.inr x ∧ v = Value.str x t)
  | .inl i, v, h => by
    obtain ⟨t, e⟩ := Value.isInt_shape (k := i) (v := v) h
    exact .inl ⟨i, t, rfl, e⟩
  | .inr x, v, h => by
    obtain ⟨t, e⟩ := Value.isStrOf_shape (x := x) (v := v) h
    exact .inr ⟨x, t, rfl, e⟩
theorem keyIs_int (i : Int) (t : Tok) : keyIs (.inl i) (.int i t) = true := by simp [keyIs, Value.isInt]
theorem keyIs_str (x : Str) (t : Tok) : keyIs (.inr x) (.str x t) = true := by simp [keyIs, Value.isStrOf]
theorem key_ll (a b : Int) : decide ((Sum.inl a : Key) = Sum.inl b) = (a == b) := by
  by_cases e : a = b
  · subst e; simp
  · have h : ¬ (Sum.inl a : Key) = Sum.inl b := fun q => e (Sum.inl.inj q)
    rw [decide_eq_false h]
    exact (beq_eq_false_iff_ne.mpr e).symm
theorem key_rr (a b : Str) : decide ((Sum.inr a : Key) = Sum.inr b) = decide (a = b) := by
  by_cases e : a = b
  · subst e; simp
  · have h : ¬ (Sum.inr a : Key) = Sum.inr b := fun q => e (Sum.inr.inj q)
    rw [decide_eq_false h, decide_eq_false e]
theorem key_lr (a : Int) (b : Str) : decide ((Sum.inl a : Key) = Sum.inr b) = false := decide_eq_false (fun q => nomatch q)
theorem key_rl (a : Str) (b : Int) : decide ((Sum.inr a : Key) = Sum.inl b) = false := decide_eq_false (fun q => nomatch q)
def mixKind (prog : Program) (w : World) : PySem.KeyKind prog w Key where
  is := keyIs
  hash := keyH w
  inj := fun v a b ha hb => by
    rcases keyIs_shape ha with ⟨i, t, rfl, rfl⟩ | ⟨x, t, rfl, rfl⟩
    · rcases keyIs_shape hb with ⟨j, u, rfl, e⟩ | ⟨y, u, rfl, e⟩
      · injection e with e1 _; rw [e1]
      · exact nomatch e
    · rcases keyIs_shape hb with ⟨j, u, rfl, e⟩ | ⟨y, u, rfl, e⟩
      · exact nomatch e
      · injection e with e1 _; rw [e1]
  byValue := fun k v h => by
    rcases keyIs_shape h with ⟨i, t, rfl, rfl⟩ | ⟨x, t, rfl, rfl⟩ <;> rfl
  pyHash := fun hv h => by
    rcases keyIs_shape hv with ⟨i, t, rfl, rfl⟩ | ⟨x, t, rfl, rfl⟩
    · exact wpAny_pyHash_int h
    · exact wpAny_pyHash_str h
  eqBool := fun hu hv h => by
    rcases keyIs_shape hu with ⟨i, t, rfl, rfl⟩ | ⟨x, t, rfl, rfl⟩
    · rcases keyIs_shape hv with ⟨j, u, rfl, rfl⟩ | ⟨y, u, rfl, rfl⟩
      · rw [key_ll] at h; exact wpAny_eqBool_int h
      · rw [key_lr] at h; exact SeqAt.EqAt.int_str i t y u _ _ _ _ h
    · rcases keyIs_shape hv with ⟨j, u, rfl, rfl⟩ | ⟨y, u, rfl, rfl⟩
      · rw [key_rl] at h; exact SeqAt.EqAt.str_int x t j u _ _ _ _ h
      · rw [key_rr] at h; exact wpAny_eqBool_str h
  «strs» := fun k x t v h => by
    rcases keyIs_shape h with ⟨i, u, rfl, e⟩ | ⟨y, u, rfl, e⟩
    · exact nomatch e
    · injection e with e1 _
      subst e1
      cases v <;> rfl
theorem mixKind_is (prog : Program) (w : World) (k : Key) (v : Value) : (mixKind prog w).is k v = keyIs k v := rfl
theorem mixKind_int (prog : Program) (w : World) (i : Int) (t : Tok) : (mixKind prog w).is (.inl i) (.int i t) = true := keyIs_int i t
theorem mixKind_str (prog : Program) (w : World) (x : Str) (t : Tok) : (mixKind prog w).is (.inr x) (.str x t) = true := keyIs_str x t
end L2
namespace L2
open PySem PySem.Spec PyProof.Rows
inductive V where
  | non | bl (b : Bool) | int (i : Int) | str (x : Str) | byt (b : Array UInt8) | flt (b : UInt64) | ref (a : Addr) | ty (n : String)
  deriving DecidableEq
def RelV : V → Value → Prop
  | .non, u => u = Value.none
  | .bl b, u => u = Value.bool b
  | .int i, u => ∃ t, u = Value.int i t
  | .str x, u => ∃ t, u = Value.str x t
  | .byt b, u => ∃ t, u = Value.bytes b t
  | .flt b, u => ∃ t, u = Value.float b t
  | .ref a, u => u = Value.ref a
  | .ty n, u => u = Value.type n
abbrev Vals : List V → List Value → Prop := Paired RelV
theorem Vals.length {xs : List V} {us : List Value} (r : Vals xs us) : xs.length = us.length := Paired.length r
theorem Vals.get : ∀ {xs : List V} {us : List Value} {i : Nat} {x : V}, Vals xs us → xs[i]? = some x → ∃ u, us[i]? = some u ∧ RelV x u
  | _, _, _, _, .nil, e => by simp at e
  | _, _, 0, _, .cons r _, e => by simp at e; subst e; exact ⟨_, rfl, r⟩
  | _, _, i + 1, x, .cons _ t, e => by
    obtain ⟨u, h1, h2⟩ := Vals.get (i := i) (x := x) t (by simpa using e)
    exact ⟨u, by simpa using h1, h2⟩
theorem Vals.set {x : V} {u : Value} (r : RelV x u) : ∀ {xs : List V} {us : List Value} (i : Nat), Vals xs us → Vals (xs.set i x) (us.set i u)
  | _, _, _, .nil => .nil
  | _, _, 0, .cons _ t => .cons r t
  | _, _, i + 1, .cons q t => .cons q (Vals.set r i t)
theorem Vals.append : ∀ {xs ys : List V} {us ws : List Value}, Vals xs us → Vals ys ws → Vals (xs ++ ys) (us ++ ws)
  | _, _, _, _, .nil, s => s
  | _, _, _, _, .cons r t, s => .cons r (Vals.append t s)
theorem Vals.take : ∀ {xs : List V} {us : List Value} (n : Nat), Vals xs us → Vals (xs.take n) (us.take n)
  | _, _, 0, _ => .nil
  | _, _, _ + 1, .nil => .nil
  | _, _, n + 1, .cons r t => .cons r (Vals.take n t)
theorem Vals.drop : ∀ {xs : List V} {us : List Value} (n : Nat), Vals xs us → Vals (xs.drop n) (us.drop n)
  | _, _, 0, r => r
  | _, _, _ + 1, .nil => .nil
  | _, _, n + 1, .cons _ t => Vals.drop n t
theorem Vals.none_of : ∀ {xs : List V} {us : List Value} {i : Nat}, Vals xs us → xs[i]? = none → us[i]? = none := fun {xs us i} r e => by
  have h1 := r.length
  have h2 : xs.length ≤ i := List.getElem?_eq_none_iff.mp e
  exact List.getElem?_eq_none_iff.mpr (by omega)
def RelO : Option V → Option Value → Prop
  | some v, some u => RelV v u
  | none, none => True
  | _, _ => False
def KV {κ : Type} : List (κ × V) → List (κ × Value) → Prop := Paired fun (p : κ × V) (q : κ × Value) => p.1 = q.1 ∧ RelV p.2 q.2
def kV : Key → V
  | .inl i => .int i
  | .inr x => .str x
inductive HO where
  | lst (xs : List V)
  | tup (xs : List V)
  | dK (kvs : List (Key × V)) | dT (kvs : List (List Key × V))
  | set (S : Int → Bool) (n : Nat)
  | ins (C dx : Addr) (fs : List (Str × V))
  | own (x : Addr)
  | xd (fs : List (Str × V))
  | met (f x : Addr)
  | rng (lo hi : Int)
  | frz (o : Obj) (u : HO)
  | tbl (ps : Array Value)
  | ext (φ : Heap → Prop)
abbrev Hp := Addr → Option HO
def upd (H : Hp) (a : Addr) (o : HO) : Hp := fun b => if b = a then some o else H b
theorem upd_same {H : Hp} {a : Addr} {o : HO} : upd H a o a = some o := by unfold upd; rw [if_pos rfl]
theorem upd_ne {H : Hp} {a b : Addr} {o : HO} (h : b ≠ a) : upd H a o b = H b := by unfold upd; rw [if_neg h]
theorem ne_of {H : Hp} {a b : Addr} {o u : HO} (h : H a = some o) (h' : H b = some u) (d : o ≠ u) : a ≠ b := by
  intro e; subst e; rw [h] at h'; exact d (Option.some.inj h')
theorem ne_of_none {H : Hp} {a b : Addr} {o : HO} (h : H a = some o) (h' : H b = none) : a ≠ b := by
  intro e; subst e; rw [h] at h'; cases h'
section
variable (P : Program) (w : World)
def ObjOk (H : Hp) (h : Heap) (a : Addr) : HO → Prop
  | .lst xs => xs.length ≤ sizeLine ∧ ∃ (its : List Value) (n : Nat), Vals xs its ∧ h.get? a = some { cls := .type "list", data := .seq its.toArray n }
  | .tup xs => xs.length ≤ sizeLine ∧ ∃ its : List Value, Vals xs its ∧ IsTup h a its.toArray
  | .dK kvs => kvs.length ≤ sizeLine ∧ (a == sysModules) = false ∧ ∃ vs, KV kvs vs ∧ h.DictOf (mixKind P w) a vs
  | .dT kvs => kvs.length ≤ sizeLine ∧ (a == sysModules) = false ∧ ∃ xs : List (List Key × Addr × Value),
      Paired (fun (p : List Key × V) (q : List Key × Addr × Value) => p.1 = q.1 ∧ H q.2.1 = some (.tup (p.1.map kV)) ∧ RelV p.2 q.2.2) kvs xs ∧
      ∃ o es ep, h.get? a = some o ∧ o.ExactDict ∧ o.data = .dict es ep ∧ es.toList = xs.map (entryOfKey (tupleKind (mixKind P w))) ∧ (xs.map (·.1)).Nodup
  | .set S n => h.SetOf (intKind P w) a S n
  | .ins C dx fs => H dx = some (.own a) ∧ fs.length ≤ 1000 ∧ dx ≠ a ∧ h.get? a = some (PySem.W.instObj C dx) ∧
      ∃ mA, h.Ns1 dx mA ∧ (∀ f, RelO (fs.lookup f) (mA f)) ∧ PySem.Within mA (fs.map (·.1))
  | .own _ => ∃ o, h.get? a = some o
  | .xd fs => ∃ mA, h.Ns1 a mA ∧ ∀ f, RelO (fs.lookup f) (mA f)
  | .rng lo hi => ∃ t u v, h.get? a = some { cls := .type "range", data := .fields #[.int lo t, .int hi u, .int 1 v] }
  | .frz o u => h.get? a = some o ∧ ObjOk H h a u
  | .tbl ps => h.get? a = some { cls := .none, data := .fields ps }
  | .met f x => h.get? a = some (PySem.W.methodObj (.ref f) (.ref x))
  | .ext φ => φ h ∧ (∃ o, h.get? a = some o) ∧ ∀ h1 h2 : Heap, φ h1 → (∀ o, h1.get? a = some o → h2.get? a = some o) → φ h2
def HOk (H : Hp) (h : Heap) : Prop := ∀ a o, H a = some o → ObjOk P w H h a o
end
section
variable {P : Program} {w : World} {H H' : Hp} {h h' : Heap} {a : Addr} {o : HO}
theorem ObjOk.lt (x : ObjOk P w H h a o) : a < h.objs.size := by
  cases o with
  | lst xs => obtain ⟨_, _, _, _, e⟩ := x; exact Heap.lt_size e
  | tup xs => obtain ⟨_, _, _, p⟩ := x; exact p.lt
  | dK kvs => obtain ⟨_, _, _, _, o, _, _, e, _⟩ := x; exact Heap.lt_size e
  | dT kvs => obtain ⟨_, _, _, _, o, _, _, e, _⟩ := x; exact Heap.lt_size e
  | set S n => obtain ⟨o, _, _, _, e, _⟩ := x; exact Heap.lt_size e
  | ins C dx fs => obtain ⟨_, _, _, e, _⟩ := x; exact Heap.lt_size e
  | own y => obtain ⟨_, e⟩ := x; exact Heap.lt_size e
  | xd fs => obtain ⟨_, ⟨_, _, _, e, _⟩, _⟩ := x; exact Heap.lt_size e
  | rng lo hi => obtain ⟨_, _, _, e⟩ := x; exact Heap.lt_size e
  | frz ob u => obtain ⟨e, _⟩ := x; exact Heap.lt_size e
  | tbl ps => exact Heap.lt_size (show h.get? a = some _ from x)
  | met f y => exact Heap.lt_size (show h.get? a = some _ from x)
  | ext φ => obtain ⟨_, ⟨_, e⟩, _⟩ := x; exact Heap.lt_size e
theorem Paired.mapP {α β : Type} {F G : α → β → Prop} : ∀ {l₁ : List α} {l₂ : List β}, Paired F l₁ l₂ → (∀ a b, F a b → G a b) → Paired G l₁ l₂
  | _, _, .nil, _ => .nil
  | _, _, .cons r t, f => .cons (f _ _ r) (Paired.mapP t f)
theorem ObjOk.stay (x : ObjOk P w H h a o) (k : ∀ b u, (b = a ∨ H b = some (.own a)) → h.get? b = some u → h'.get? b = some u)
    (ho : ∀ b, H b = some (.own a) → H' b = some (.own a)) (ht : ∀ b xs, H b = some (.tup xs) → H' b = some (.tup xs)) : ObjOk P w H' h' a o := by
  induction o with
  | lst xs => obtain ⟨z, its, n, r, e⟩ := x; exact ⟨z, its, n, r, k _ _ (.inl rfl) e⟩
  | tup xs => obtain ⟨z, its, r, ob, e, c⟩ := x; exact ⟨z, its, r, ob, k _ _ (.inl rfl) e, c⟩
  | dK kvs => obtain ⟨z, y, vs, r, ob, es, ep, e, c⟩ := x; exact ⟨z, y, vs, r, ob, es, ep, k _ _ (.inl rfl) e, c⟩
  | dT kvs =>
    obtain ⟨z, y, xs, r, ob, es, ep, e, c⟩ := x
    exact ⟨z, y, xs, Paired.mapP r fun p q z => ⟨z.1, ht _ _ z.2.1, z.2.2⟩, ob, es, ep, k _ _ (.inl rfl) e, c⟩
  | set S n => obtain ⟨ob, es, ep, t, e, c⟩ := x; exact ⟨ob, es, ep, t, k _ _ (.inl rfl) e, c⟩
  | ins C dx fs =>
    obtain ⟨d, z, ne, e, mA, ⟨od, es, ep, e2, c⟩, r⟩ := x
    exact ⟨ho _ d, z, ne, k _ _ (.inl rfl) e, mA, ⟨od, es, ep, k _ _ (.inr d) e2, c⟩, r⟩
  | own y => obtain ⟨ob, e⟩ := x; exact ⟨ob, k _ _ (.inl rfl) e⟩
  | xd fs => obtain ⟨mA, ⟨od, es, ep, e, c⟩, r⟩ := x; exact ⟨mA, ⟨od, es, ep, k _ _ (.inl rfl) e, c⟩, r⟩
  | rng lo hi => obtain ⟨t, u, v, e⟩ := x; exact ⟨t, u, v, k _ _ (.inl rfl) e⟩
  | frz ob u ih => obtain ⟨e, q⟩ := x; exact ⟨k _ _ (.inl rfl) e, ih q⟩
  | tbl ps =>
    have e : h.get? a = some { cls := .none, data := .fields ps } := x
    show h'.get? a = some { cls := .none, data := .fields ps }
    exact k a _ (.inl rfl) e
  | met f y =>
    have e : h.get? a = some (PySem.W.methodObj (.ref f) (.ref y)) := x
    show h'.get? a = some (PySem.W.methodObj (.ref f) (.ref y))
    exact k a _ (.inl rfl) e
  | ext φ => obtain ⟨p, ⟨o, e⟩, st⟩ := x; exact ⟨st _ _ p fun o q => k _ _ (.inl rfl) q, ⟨o, k _ _ (.inl rfl) e⟩, st⟩
theorem HOk.lt (x : HOk P w H h) (e : H a = some o) : a < h.objs.size := (x a o e).lt
theorem HOk.fresh (x : HOk P w H h) (e : h.objs.size ≤ a) : H a = none := by
  cases q : H a with
  | none => rfl
  | some u => exact absurd (Nat.lt_of_lt_of_le (x.lt q) e) (Nat.lt_irrefl _)
theorem HOk.kept (x : HOk P w H h) (k : ∀ b u, h.get? b = some u → h'.get? b = some u) : HOk P w H h' := fun a o e =>
  (x a o e).stay (fun b u _ q => k b u q) (fun _ q => q) fun _ _ q => q
theorem HOk.laid (x : HOk P w H h) (k : ∀ b u, h.get? b = some u → h'.get? b = some u) (hp : h.objs.size ≤ a) (new : ObjOk P w (upd H a o) h' a o) : HOk P w (upd H a o) h' := fun b u e => by
  have hn := x.fresh hp
  by_cases hb : b = a
  · subst hb; rw [upd_same] at e; cases e; exact new
  · rw [upd_ne hb] at e
    exact (x b u e).stay (fun c v _ q => k c v q) (fun c q => by rw [upd_ne (ne_of_none q hn)]; exact q) fun c xs q => by rw [upd_ne (ne_of_none q hn)]; exact q
end
def Rd (H : Hp) (a : Addr) (u : HO) : Prop := H a = some u ∨ ∃ o, H a = some (.frz o u)
theorem Rd.of {H : Hp} {a : Addr} {u : HO} (h : H a = some u) : Rd H a u := .inl h
theorem Rd.ok {P : Program} {w : World} {H : Hp} {h : Heap} {a : Addr} {u : HO} (r : Rd H a u) (x : HOk P w H h) : ObjOk P w H h a u := by
  rcases r with r | ⟨o, r⟩
  · exact x a u r
  · obtain ⟨_, q⟩ := x a _ r
    exact q
def Mut : Option HO → Prop
  | some (.lst _) => True
  | some (.dK _) => True
  | some (.dT _) => True
  | some (.set _ _) => True
  | some (.ins _ _ _) => True
  | some (.ext _) => True
  | _ => False
section
variable {P : Program} {w : World} {H : Hp} {h h' : Heap} {x e : Addr} {o' : HO}
theorem HOk.write (ok : HOk P w H h) (mu : Mut (H x)) (he : e = x ∨ H e = some (.own x)) (k : ∀ b u, b ≠ e → h.get? b = some u → h'.get? b = some u) (heo : ∃ u, h'.get? e = some u)
    (new : ObjOk P w (upd H x o') h' x o') : HOk P w (upd H x o') h' := fun b u q => by
  have nown : ∀ c y, H c = some (.own y) → c ≠ x := fun c y r z => by subst z; rw [r] at mu; exact mu
  have ntup : ∀ c xs, H c = some (.tup xs) → c ≠ x := fun c xs r z => by subst z; rw [r] at mu; exact mu
  by_cases hb : b = x
  · subst hb; rw [upd_same] at q; cases q; exact new
  · rw [upd_ne hb] at q
    by_cases hbe : b = e
    · have q' : H b = some (.own x) := by
        rcases he with z | z
        · exact absurd (hbe.trans z) hb
        · rw [hbe]; exact z
      rw [q] at q'; cases q'
      obtain ⟨v, hv⟩ := heo
      exact ⟨v, by rw [hbe]; exact hv⟩
    · refine (ok b u q).stay (fun c v hc r => k c v ?_ r) (fun c r => by rw [upd_ne (nown c b r)]; exact r) fun c xs r => by rw [upd_ne (ntup c xs r)]; exact r
      rcases hc with rfl | hc
      · exact hbe
      · rintro rfl
        rcases he with z | z
        · exact nown c b hc z
        · rw [hc] at z; cases z; exact hb rfl
end
structure Un (fs ex : List Addr) (H H' : Hp) (h h' : Heap) : Prop where
  keep : ∀ b o, h.get? b = some o → H b = none → b ∉ fs → b ∉ ex → h'.get? b = some o
  slot : ∀ b o, h.get? b = some o → H b = none → b ∈ fs → b ∉ ex → ∃ sl, h'.get? b = some { o with slots := sl }
  free : ∀ b o, h.get? b = some o → H b = none → b ∉ ex → H' b = none
  there : ∀ b o, h.get? b = some o → b ∉ ex → ∃ o', h'.get? b = some o'
  tups : ∀ b xs, H b = some (.tup xs) → H' b = some (.tup xs)
  frzs : ∀ b o u, H b = some (.frz o u) → H' b = some (.frz o u)
  tbls : ∀ b ps, H b = some (.tbl ps) → ∃ more, H' b = some (.tbl (ps ++ more))
section
variable {fs fs' ex ex' : List Addr} {H H1 H2 : Hp} {h h1 h2 h' : Heap} {a x e : Addr} {o : HO}
theorem Un.any (u : Un fs ex H H1 h h1) {b : Addr} {ob : Obj} (q : h.get? b = some ob) (n : H b = none) (hx : b ∉ ex) : ∃ sl, h1.get? b = some { ob with slots := sl } := by
  by_cases hb : b ∈ fs
  · exact u.slot b ob q n hb hx
  · exact ⟨ob.slots, u.keep b ob q n hb hx⟩
theorem Un.trans (a : Un fs ex H H1 h h1) (b : Un fs ex H1 H2 h1 h2) : Un fs ex H H2 h h2 where
  keep := fun c ob q n hc hx => b.keep c ob (a.keep c ob q n hc hx) (a.free c ob q n hx) hc hx
  slot := fun c ob q n hc hx => by
    obtain ⟨sl, e1⟩ := a.slot c ob q n hc hx
    obtain ⟨sl', e2⟩ := b.slot c _ e1 (a.free c ob q n hx) hc hx
    exact ⟨sl', e2⟩
  free := fun c ob q n hx => by
    obtain ⟨o', e1⟩ := a.there c ob q hx
    exact b.free c o' e1 (a.free c ob q n hx) hx
  there := fun c ob q hx => by
    obtain ⟨o', e1⟩ := a.there c ob q hx
    exact b.there c o' e1 hx
  tups := fun c xs q => b.tups c xs (a.tups c xs q)
  frzs := fun c ob xs q => b.frzs c ob xs (a.frzs c ob xs q)
  tbls := fun c ps q => by
    obtain ⟨m1, e1⟩ := a.tbls c ps q
    obtain ⟨m2, e2⟩ := b.tbls c _ e1
    exact ⟨m1 ++ m2, by rw [e2, Array.append_assoc]⟩
theorem Un.kept (k : ∀ b u, h.get? b = some u → h'.get? b = some u) : Un fs ex H H h h' :=
  ⟨fun b ob q _ _ _ => k b ob q, fun b ob q _ _ _ => ⟨ob.slots, k b ob q⟩, fun _ _ _ n _ => n, fun b ob q _ => ⟨ob, k b ob q⟩, fun _ _ q => q, fun _ _ _ q => q, fun _ ps q => ⟨#[], by rw [q]; simp⟩⟩
theorem Un.refl : Un fs ex H H h h := Un.kept fun _ _ q => q
theorem Un.laid (k : ∀ b u, h.get? b = some u → h'.get? b = some u) (hp : h.objs.size ≤ a) (hn : H a = none) : Un fs ex H (upd H a o) h h' where
  keep := fun b u q _ _ _ => k b u q
  slot := fun b u q _ _ _ => ⟨u.slots, k b u q⟩
  free := fun b u q n _ => by rw [upd_ne (Nat.ne_of_lt (Nat.lt_of_lt_of_le (Heap.lt_size q) hp))]; exact n
  there := fun b u q _ => ⟨u, k b u q⟩
  tups := fun b xs q => by rw [upd_ne (ne_of_none q hn)]; exact q
  frzs := fun b u xs q => by rw [upd_ne (ne_of_none q hn)]; exact q
  tbls := fun b ps q => ⟨#[], by rw [upd_ne (ne_of_none q hn), q]; simp⟩
theorem Un.write (mu : Mut (H x)) (he : e = x ∨ H e = some (.own x)) (k : ∀ b u, b ≠ e → h.get? b = some u → h'.get? b = some u) (heo : ∃ u, h'.get? e = some u) : Un fs ex H (upd H x o) h h' := by
  have hx : ∀ b, H b = none → b ≠ x := fun b n z => by subst z; rw [n] at mu; exact mu
  have hb : ∀ b, H b = none → b ≠ e := fun b n z => by
    subst z
    rcases he with r | r
    · exact hx b n r
    · rw [n] at r; cases r
  have hm : ∀ b u, H b = some u → ¬ Mut (some u) → b ≠ x := fun b u q nm z => by subst z; rw [q] at mu; exact nm mu
  refine ⟨fun b u q n _ _ => k b u (hb b n) q, fun b u q n _ _ => ⟨u.slots, k b u (hb b n) q⟩, fun b u q n _ => by rw [upd_ne (hx b n)]; exact n, fun b u q _ => ?_,
    fun b xs q => by rw [upd_ne (hm b _ q fun z => z)]; exact q, fun b u xs q => by rw [upd_ne (hm b _ q fun z => z)]; exact q, fun b ps q => ⟨#[], by rw [upd_ne (hm b _ q fun z => z), q]; simp⟩⟩
  by_cases hbe : b = e
  · subst hbe; exact heo
  · exact ⟨u, k b u hbe q⟩
theorem Un.mono (u : Un fs ex H H1 h h1) (hs : ∀ b ∈ fs, b ∈ fs') (hx : ∀ b ∈ ex, b ∈ ex') : Un fs' ex' H H1 h h1 :=
  ⟨fun b ob q n hb he => u.keep b ob q n (fun z => hb (hs b z)) fun z => he (hx b z), fun _ _ q n _ he => u.any q n fun z => he (hx _ z), fun b ob q n he => u.free b ob q n fun z => he (hx b z), fun b ob q he => u.there b ob q fun z => he (hx b z), u.tups, u.frzs, u.tbls⟩
end
def trk (h : Heap) (H : Hp) : List Addr := (List.range h.objs.size).filter fun a => (H a).isSome
def hidT (h : Heap) (H : Hp) : Heap := PySem.W.hideAll h (trk h H)
theorem hidT_size (h : Heap) (H : Hp) : (hidT h H).objs.size = h.objs.size := PySem.W.hideAll_size _ _
theorem hidT_get {h : Heap} {H : Hp} {b : Addr} {o : Obj} (e : h.get? b = some o) (n : H b = none) : (hidT h H).get? b = some o :=
  PySem.W.hideAll_get _ e fun hm => by
    have q : (H b).isSome = true := (List.mem_filter.mp hm).2
    rw [n] at q; simp at q
theorem of_hidT {h : Heap} {H : Hp} {b : Addr} {o : Obj} (e : (hidT h H).get? b = some o) : h.get? b = some o ∧ H b = none := by
  have e' : h.get? b = some o := PySem.W.of_hideAll (trk h H) e
  refine ⟨e', ?_⟩
  cases q : H b with
  | none => rfl
  | some x =>
    have hm : b ∈ trk h H := List.mem_filter.mpr ⟨List.mem_range.mpr (Heap.lt_size e'), by simp [q]⟩
    have z : (hidT h H).get? b = none := PySem.W.hideAll_none (trk h H) hm
    rw [z] at e; cases e
def allNews (g h : Heap) (L : Addr) : List (Addr × Obj) := (List.range h.objs.size).filterMap fun a => if a = L ∨ (g.get? a).isSome = true then none else (h.get? a).map fun o => (a, o)
def rest (g h : Heap) (L d : Addr) : List (Addr × Obj) := (allNews g h L).filter fun p => decide (p.1 ≠ d)
end L2
namespace L2
open PySem PySem.Spec PyProof.Rows
structure Mod (K : PySem.W.Frag) (mg : Str → Option Value) (base : Heap) : Prop where
  kin : K.In base
  glob : base.Ns mainGlobals mg
  blt : ∃ mb, base.Ns builtinsNs mb ∧ ∀ x : Str, x ≠ "__name__" → mb x = bootBuiltins x
  nolimit : base.NoLimit
structure Cx where
  prog : Program
  w : World
  K : PySem.W.Frag
  mg : Str → Option Value
  base : Heap
  A : Around
  N : List Str
  s₀ : Shared
  H₀ : Hp
  env : Env
  outer : List Env
  stack : List Env
  ex : List Addr
  fn : Str → Bool
  calm : Bool
  pn : List (Addr × Obj)
  xe : Value → Shared → Prop
def frs (l : List Env) : List Addr := l.filterMap (·.frame)
abbrev Cx.fs (X : Cx) : List Addr := frs X.outer
def Vis (sc : Scope) (x : Str) : Prop := sc.names.lookup x = some .local ∨ sc.names.lookup x = some .cell ∨ sc.names.lookup x = some .free
def Loc (sc : Scope) (x : Str) : Prop := sc.names.lookup x = some .local ∨ sc.names.lookup x = some .cell
def Look (env : Env) (h : Heap) (m : Str → Option Value) (x : Str) (u : Value) : Prop :=
  (env.kindOf x = some .local ∧ m x = some u) ∨ ((env.kindOf x = some .cell ∨ env.kindOf x = some .free) ∧ ∃ c, env.cells.lookup x = some c ∧ h.IsCell c (some u))
structure Cx.Ok (X : Cx) : Prop where
  mod : Mod X.K X.mg X.base
  kind : X.env.scope.kind = .function
  glob : X.env.globals = mainGlobals
  blt : X.env.builtins = builtinsNs
  above : X.s₀.heap.objs.size ≤ X.env.locals
  inj : ∀ x y c, X.env.cells.lookup x = some c → X.env.cells.lookup y = some c → x = y
  has : ∀ x, (X.env.kindOf x = some .cell ∨ X.env.kindOf x = some .free) → ∃ c, X.env.cells.lookup x = some c
  cab : ∀ x c, X.fn x = true → X.env.cells.lookup x = some c → X.s₀.heap.objs.size ≤ c
  hd : X.calm = true → X.A.handled = none
  frames : X.A.frames = some X.stack
  stk : X.stack = X.outer ∨ (X.stack = X.env :: X.outer ∧ X.env.frame = some X.env.locals)
  exf : ∀ b ∈ X.ex, b ≠ X.env.locals ∧ ∀ x c, X.env.cells.lookup x = some c → c ≠ b
  bs : ∀ b o, X.base.get? b = some o → X.s₀.heap.get? b = some o ∧ X.H₀ b = none
  bsz : X.base.objs.size ≤ X.s₀.heap.objs.size
  noex : ∀ b o, X.base.get? b = some o → b ∉ X.ex
  exfs : ∀ b ∈ X.ex, b ∉ X.fs
  funs : X.s₀.heap.FunFrames X.base X.outer
  frf : ∀ b ∈ X.fs, X.H₀ b = none
structure Inv (X : Cx) (pins : List (Addr × Obj)) (σ : List (Option V)) (H : Hp) (s : Shared) : Prop where
  ok : X.Ok
  os : s.os = X.s₀.os
  bare : AllBare s.gens
  base : Un X.fs X.ex X.H₀ H X.s₀.heap s.heap
  loc : ∃ m, s.heap.Ns X.env.locals m ∧ ∀ (i : Nat) (x : Str) (v : V), X.N[i]? = some x → σ[i]? = some (some v) → Vis X.env.scope x → ∃ u, RelV v u ∧ Look X.env s.heap m x u
  cell : ∀ x c, X.env.cells.lookup x = some c → ∃ v, s.heap.IsCell c v
  free : H X.env.locals = none
  freeC : ∀ x c, X.env.cells.lookup x = some c → H c = none
  pin : ∀ p ∈ X.pn ++ pins, s.heap.get? p.1 = some p.2 ∧ H p.1 = none ∧ p.1 ≠ X.env.locals ∧ p.1 ∉ X.fs ∧ ∀ v, p.2.data ≠ .cell v
  hok : HOk X.prog X.w H s.heap
  len : σ.length = X.N.length
section
variable {X : Cx} {pins : List (Addr × Obj)} {σ : List (Option V)} {H H' : Hp} {s : Shared} {h' : Heap}
theorem Cx.Ok.nofr (ok : X.Ok) {b : Addr} {o : Obj} (e : X.base.get? b = some o) : b ∉ X.fs := fun hb => by
  have := (ok.funs.mem hb).1
  rw [e] at this; cases this
theorem Inv.bs (I : Inv X pins σ H s) : ∀ b o, X.base.get? b = some o → s.heap.get? b = some o ∧ H b = none := fun b o e =>
  ⟨I.base.keep b o (I.ok.bs b o e).1 (I.ok.bs b o e).2 (I.ok.nofr e) (I.ok.noex b o e), I.base.free b o (I.ok.bs b o e).1 (I.ok.bs b o e).2 (I.ok.noex b o e)⟩
theorem Inv.bk (I : Inv X pins σ H s) : ∀ b o, X.base.get? b = some o → s.heap.get? b = some o := fun b o e => (I.bs b o e).1
theorem Inv.mod (I : Inv X pins σ H s) : Mod X.K X.mg X.base := I.ok.mod
theorem Inv.kIn (I : Inv X pins σ H s) : X.K.In s.heap := I.ok.mod.kin.keeps I.bk
theorem Inv.nolimit (I : Inv X pins σ H s) : s.heap.NoLimit := I.ok.mod.nolimit.keeps I.bk
theorem Inv.fr (I : Inv X pins σ H s) : ∃ m, Fr X.base X.env.locals s.heap m :=
  let ⟨m, hn, _⟩ := I.loc
  ⟨m, hn, I.bk, Nat.le_trans I.ok.bsz I.ok.above⟩
theorem Inv.lt (I : Inv X pins σ H s) : X.env.locals < s.heap.objs.size := let ⟨_, hn, _⟩ := I.loc; hn.lt
theorem Inv.sz (I : Inv X pins σ H s) : X.s₀.heap.objs.size ≤ s.heap.objs.size := Nat.le_trans I.ok.above (Nat.le_of_lt I.lt)
theorem Inv.nofs (I : Inv X pins σ H s) {a : Addr} (h : s.heap.objs.size ≤ a) : a ∉ X.fs := fun hb => by
  obtain ⟨_, o, ho, _⟩ := I.ok.funs.mem hb
  exact absurd (Nat.lt_of_lt_of_le (Heap.lt_size ho) (Nat.le_trans I.sz h)) (Nat.lt_irrefl _)
theorem Inv.cne (I : Inv X pins σ H s) : ∀ x c, X.env.cells.lookup x = some c → c ≠ X.env.locals := fun x c e z => by
  obtain ⟨v, o, ho, hd⟩ := I.cell x c e
  obtain ⟨m, ⟨o', es, ep, ho', hd', _⟩, _⟩ := I.loc
  rw [z, ho'] at ho; cases ho; rw [hd'] at hd; cases hd
theorem Inv.funs (I : Inv X pins σ H s) : s.heap.FunFrames X.base X.outer := by
  have all : ∀ (l : List Env), (∀ b ∈ frs l, b ∈ X.fs) → X.s₀.heap.FunFrames X.base l → s.heap.FunFrames X.base l := by
    intro l
    induction l with
    | nil => intro _ _; trivial
    | cons env r ih =>
      intro hs hl
      obtain ⟨hk, ⟨L, o, hf, hn, ho, hd⟩, hr⟩ := hl
      have hL : L ∈ X.fs := hs L (by unfold frs; rw [List.filterMap_cons, hf]; exact List.mem_cons_self)
      obtain ⟨sl, e⟩ := I.base.slot L o ho (I.ok.frf L hL) hL fun z => I.ok.exfs L z hL
      exact ⟨hk, ⟨L, _, hf, hn, e, hd⟩, ih (fun b hb => hs b (by unfold frs; rw [List.filterMap_cons, hf]; exact List.mem_cons_of_mem _ hb)) hr⟩
  exact all X.outer (fun _ hb => hb) I.ok.funs
theorem Inv.stack (I : Inv X pins σ H s) : s.heap.FunFrames X.base X.stack := by
  rcases I.ok.stk with e | ⟨e, hf⟩
  · rw [e]; exact I.funs
  · rw [e]
    obtain ⟨m, hn, _⟩ := I.loc
    refine .cons (by rw [I.ok.kind]; decide) hf hn ?_ I.funs
    exact Heap.get?_none_of_le (Nat.le_trans I.ok.bsz I.ok.above)
theorem Inv.stkSub (I : Inv X pins σ H s) : ∀ b ∈ frs X.stack, b ∈ X.env.locals :: X.fs := fun b hb => by
  rcases I.ok.stk with e | ⟨e, hf⟩
  · rw [e] at hb; exact List.mem_cons_of_mem _ hb
  · rw [e] at hb
    unfold frs at hb
    rw [List.filterMap_cons, hf] at hb
    exact hb
theorem Inv.stkFree (I : Inv X pins σ H s) : ∀ b ∈ frs X.stack, H b = none := fun b hb => by
  rcases List.mem_cons.mp (I.stkSub b hb) with e | hb
  · rw [e]; exact I.free
  · obtain ⟨_, o, ho, _⟩ := I.ok.funs.mem hb
    exact I.base.free b o ho (I.ok.frf b hb) fun z => I.ok.exfs b z hb
theorem Inv.step {g' : Array GenState} {t' : Nat} {d' : Drawn} {ch : List Addr} (I : Inv X pins σ H s)
    (hch : ∀ b ∈ ch, (b ∈ X.ex ∨ X.s₀.heap.objs.size ≤ b) ∧ b ≠ X.env.locals ∧ (∀ x c, X.env.cells.lookup x = some c → c ≠ b) ∧ ∀ p ∈ X.pn ++ pins, p.1 ≠ b)
    (keep : ∀ b o, b ≠ X.env.locals → b ∉ X.fs → b ∉ ch → s.heap.get? b = some o → H b = none → h'.get? b = some o)
    (slot : ∀ b o, b ≠ X.env.locals → b ∈ X.fs → b ∉ ch → s.heap.get? b = some o → H b = none → ∃ sl, h'.get? b = some { o with slots := sl }) (free : ∀ b o, b ∉ ch → s.heap.get? b = some o → H b = none → H' b = none)
    (there : ∀ b o, b ∉ ch → s.heap.get? b = some o → ∃ o', h'.get? b = some o')
    (tups : ∀ b xs, H b = some (.tup xs) → H' b = some (.tup xs)) (frzs : ∀ b o u, H b = some (.frz o u) → H' b = some (.frz o u)) (tbls : ∀ b ps, H b = some (.tbl ps) → ∃ more, H' b = some (.tbl (ps ++ more)))
    (ns : ∀ m, s.heap.Ns X.env.locals m → h'.Ns X.env.locals m) (hok : HOk X.prog X.w H' h') (hg : AllBare g') :
    Inv X pins σ H' { s with heap := h', gens := g', drawn := d', toks := t' } := by
  have neL : ∀ b o, X.s₀.heap.get? b = some o → b ≠ X.env.locals := fun b o e => Nat.ne_of_lt (Nat.lt_of_lt_of_le (Heap.lt_size e) I.ok.above)
  have neC : ∀ b o, X.s₀.heap.get? b = some o → b ∉ X.ex → b ∉ ch := fun b o e hx hb => by
    rcases (hch b hb).1 with z | z
    · exact hx z
    · exact absurd (Nat.lt_of_lt_of_le (Heap.lt_size e) z) (Nat.lt_irrefl _)
  have cellK : ∀ x c, X.env.cells.lookup x = some c → ∀ v, s.heap.IsCell c v → h'.IsCell c v := fun x c e v ⟨o, ho, hd⟩ => by
    have nch : c ∉ ch := fun z => (hch c z).2.2.1 x c e rfl
    by_cases hc : c ∈ X.fs
    · obtain ⟨sl, q⟩ := slot c o (I.cne x c e) hc nch ho (I.freeC x c e)
      exact ⟨_, q, hd⟩
    · exact ⟨o, keep c o (I.cne x c e) hc nch ho (I.freeC x c e), hd⟩
  refine ⟨I.ok, I.os, hg, ⟨fun b o e n hb hx => ?_, fun b o e n hb hx => ?_, fun b o e n hx => ?_, fun b o e hx => ?_, fun b xs e => tups b xs (I.base.tups b xs e), fun b o xs e => frzs b o xs (I.base.frzs b o xs e), fun b ps e => ?_⟩, ?_, fun x c e => ?_, ?_, fun x c e => ?_, fun p hp => ?_, hok, I.len⟩
  · exact keep b o (neL b o e) hb (neC b o e hx) (I.base.keep b o e n hb hx) (I.base.free b o e n hx)
  · obtain ⟨sl, e1⟩ := I.base.slot b o e n hb hx
    obtain ⟨sl', e2⟩ := slot b _ (neL b o e) hb (neC b o e hx) e1 (I.base.free b o e n hx)
    exact ⟨sl', e2⟩
  · obtain ⟨o', e1⟩ := I.base.there b o e hx
    exact free b o' (neC b o e hx) e1 (I.base.free b o e n hx)
  · obtain ⟨o', e1⟩ := I.base.there b o e hx
    exact there b o' (neC b o e hx) e1
  · obtain ⟨m1, e1⟩ := I.base.tbls b ps e
    obtain ⟨m2, e2⟩ := tbls b _ e1
    exact ⟨m1 ++ m2, by rw [e2, Array.append_assoc]⟩
  · obtain ⟨m, hn, hl⟩ := I.loc
    refine ⟨m, ns m hn, fun i x v e1 e2 e3 => ?_⟩
    obtain ⟨u, r, l⟩ := hl i x v e1 e2 e3
    refine ⟨u, r, ?_⟩
    rcases l with l | ⟨k, c, e, z⟩
    · exact .inl l
    · exact .inr ⟨k, c, e, cellK x c e _ z⟩
  · obtain ⟨v, z⟩ := I.cell x c e
    exact ⟨v, cellK x c e v z⟩
  · obtain ⟨m, ⟨o, _, _, ho, _⟩, _⟩ := I.loc
    exact free _ o (fun z => (hch _ z).2.1 rfl) ho I.free
  · obtain ⟨v, o, ho, hd⟩ := I.cell x c e
    exact free c o (fun z => (hch c z).2.2.1 x c e rfl) ho (I.freeC x c e)
  · obtain ⟨e, n, ne, nf, d⟩ := I.pin p hp
    have nch : p.1 ∉ ch := fun z => (hch p.1 z).2.2.2 p hp rfl
    exact ⟨keep p.1 p.2 ne nf nch e n, free p.1 p.2 nch e n, ne, nf, d⟩
theorem Inv.un {t' : Nat} (I : Inv X pins σ H s) (u : Un X.fs [] H H' s.heap h') (hok : HOk X.prog X.w H' h') : Inv X pins σ H' { s with heap := h', toks := t' } := by
  obtain ⟨m, ⟨o, es, ep, ho, r⟩, _⟩ := id I.loc
  obtain ⟨sl, hL⟩ := u.any ho I.free (by simp)
  exact I.step (g' := s.gens) (d' := s.drawn) (ch := []) (fun _ z => nomatch z) (fun b o _ hb _ e n => u.keep b o e n hb (by simp)) (fun b o _ hb _ e n => u.slot b o e n hb (by simp)) (fun b o _ e n => u.free b o e n (by simp)) (fun b o _ e => u.there b o e (by simp)) u.tups u.frzs u.tbls (fun m' hm => by
    obtain ⟨o', es', ep', ho', r'⟩ := hm
    rw [ho] at ho'; cases ho'
    exact ⟨_, es', ep', hL, r'⟩) hok I.bare
theorem Inv.call {g' : Array GenState} {t' : Nat} {d' : Drawn} {ch : List Addr} (I : Inv X pins σ H s) (u : Un (frs X.stack) ch H H' s.heap h') (hok : HOk X.prog X.w H' h') (hg : AllBare g')
    (hch : ∀ b ∈ ch, (b ∈ X.ex ∨ X.s₀.heap.objs.size ≤ b) ∧ b ≠ X.env.locals ∧ (∀ x c, X.env.cells.lookup x = some c → c ≠ b) ∧ ∀ p ∈ X.pn ++ pins, p.1 ≠ b) :
    Inv X pins σ H' { s with heap := h', gens := g', drawn := d', toks := t' } := by
  obtain ⟨m, ⟨o, es, ep, ho, r⟩, _⟩ := id I.loc
  obtain ⟨sl, hL⟩ := u.any ho I.free fun z => (hch _ z).2.1 rfl
  exact I.step (ch := ch) hch (fun b o hL hb hc e n => u.keep b o e n (fun z => (List.mem_cons.mp (I.stkSub b z)).elim hL hb) hc) (fun b o _ _ hc e n => u.any e n hc) (fun b o hc e n => u.free b o e n hc) (fun b o hc e => u.there b o e hc) u.tups u.frzs u.tbls (fun m' hm => by
    obtain ⟨o', es', ep', ho', r'⟩ := hm
    rw [ho] at ho'; cases ho'
    exact ⟨_, es', ep', hL, r'⟩) hok hg
theorem Inv.turned {t' : Nat} {it : Addr} (I : Inv X pins σ H s) (k : ∀ b o, b ≠ it → s.heap.get? b = some o → h'.get? b = some o) (hn : H it = none) (hL : it ≠ X.env.locals)
    (h1 : it ∈ X.ex ∨ X.s₀.heap.objs.size ≤ it) (h2 : ∀ x c, X.env.cells.lookup x = some c → c ≠ it) (h3 : ∀ p ∈ X.pn ++ pins, p.1 ≠ it) : Inv X pins σ H { s with heap := h', toks := t' } := by
  have nit : ∀ b u, H b = some u → b ≠ it := fun b u e z => by rw [z, hn] at e; cases e
  refine I.step (g' := s.gens) (d' := s.drawn) (ch := [it]) (fun b hb => ?_) (fun b o _ _ hc e _ => k b o (fun z => hc (by simp [z])) e) (fun b o _ _ hc e _ => ⟨o.slots, k b o (fun z => hc (by simp [z])) e⟩) (fun _ _ _ _ n => n)
    (fun b o hc e => ⟨o, k b o (fun z => hc (by simp [z])) e⟩) (fun _ _ e => e) (fun _ _ _ e => e) (fun b ps e => ⟨#[], by rw [e]; simp⟩) (fun m hm => ?_) (fun b u e => ?_) I.bare
  · have e : b = it := by simpa using hb
    subst e
    exact ⟨h1, hL, h2, h3⟩
  · obtain ⟨o, es, ep, ho, r⟩ := hm
    exact ⟨o, es, ep, k _ o (Ne.symm hL) ho, r⟩
  · refine (I.hok b u e).stay (fun c v hc q => k c v ?_ q) (fun _ q => q) fun _ _ q => q
    rcases hc with z | z
    · rw [z]; exact nit b u e
    · exact nit c _ z
theorem Inv.tok (I : Inv X pins σ H s) (t : Nat) : Inv X pins σ H { s with toks := t } := I.un (h' := s.heap) (t' := t) Un.refl I.hok
theorem Inv.kept {t' : Nat} (I : Inv X pins σ H s) (k : ∀ b u, s.heap.get? b = some u → h'.get? b = some u) : Inv X pins σ H { s with heap := h', toks := t' } := I.un (Un.kept k) (I.hok.kept k)
theorem Inv.laid {a : Addr} {o : HO} {t' : Nat} (I : Inv X pins σ H s) (k : ∀ b u, s.heap.get? b = some u → h'.get? b = some u) (hp : s.heap.objs.size ≤ a) (new : ObjOk X.prog X.w (upd H a o) h' a o) :
    Inv X pins σ (upd H a o) { s with heap := h', toks := t' } := I.un (Un.laid k hp (I.hok.fresh hp)) (I.hok.laid k hp new)
theorem Inv.write {x e : Addr} {o : HO} {t' : Nat} (I : Inv X pins σ H s) (mu : Mut (H x)) (he : e = x ∨ H e = some (.own x)) (k : ∀ b u, b ≠ e → s.heap.get? b = some u → h'.get? b = some u) (heo : ∃ u, h'.get? e = some u)
    (new : ObjOk X.prog X.w (upd H x o) h' x o) : Inv X pins σ (upd H x o) { s with heap := h', toks := t' } := I.un (Un.write mu he k heo) (I.hok.write mu he k heo new)
theorem Inv.pins_of {pins' : List (Addr × Obj)} (I : Inv X pins σ H s) (h : ∀ p ∈ pins', s.heap.get? p.1 = some p.2 ∧ H p.1 = none ∧ p.1 ≠ X.env.locals ∧ p.1 ∉ X.fs ∧ ∀ v, p.2.data ≠ .cell v) : Inv X pins' σ H s :=
  ⟨I.ok, I.os, I.bare, I.base, I.loc, I.cell, I.free, I.freeC, fun p hp => (List.mem_append.mp hp).elim (fun z => I.pin p (List.mem_append_left _ z)) (h p), I.hok, I.len⟩
theorem nodup_ix {N : List Str} (hN : N.Nodup) {i j : Nat} {x : Str} (a : N[i]? = some x) (b : N[j]? = some x) : i = j := by
  obtain ⟨h1, e1⟩ := List.getElem?_eq_some_iff.mp a
  obtain ⟨h2, e2⟩ := List.getElem?_eq_some_iff.mp b
  exact (List.getElem_inj hN).mp (e1.trans e2.symm)
theorem store_ok2 {M : Model} {A : Around} {E : Value → Shared → Prop} {i : Nat} {x : Str} {v : V} {u : Value} {Q : Unit → Shared → Prop} (I : Inv X pins σ H s) (hN : X.N.Nodup) (hi : X.N[i]? = some x) (hx : Loc X.env.scope x) (r : RelV v u)
    (h : ∀ s', Inv X pins (σ.set i (some v)) H s' → (∃ a, Heap.SameBut a s.heap s'.heap ∧ (a = X.env.locals ∨ X.env.cells.lookup x = some a)) → Q () s') (hf : X.fn x = true ∨ X.env.scope.names.lookup x = some .local := by first | exact .inl rfl | exact .inr rfl | assumption) : wpAny M A (storeName X.env x u) Q E s := by
  obtain ⟨m, hn, hl⟩ := id I.loc
  have hcls : (X.env.scope.kind == .class || (X.env.scope.kind == .module && X.env.locals != X.env.globals)) = false := by rw [I.ok.kind]; rfl
  have hiσ : i < σ.length := by rw [I.len]; exact (List.getElem?_eq_some_iff.mp hi).1
  have cne := I.cne
  have tracked : ∀ {a : Addr} {h' : Heap}, (∃ o, s.heap.get? a = some o ∧ H a = none) → Heap.SameBut a s.heap h' → HOk X.prog X.w H h' := fun {a h'} ha hs b ob e => by
    obtain ⟨_, _, hfree⟩ := ha
    refine (I.hok b ob e).stay (fun c w' hc q => (hs.2 c ?_).trans q) (fun _ q => q) fun _ _ q => q
    rintro rfl
    rcases hc with rfl | hc
    · rw [hfree] at e; cases e
    · rw [hfree] at hc; cases hc
  rcases hx with hk | hk
  · refine wpAny_storeName_local hk hn (fun h' hn' hs => ?_) hcls
    obtain ⟨oL, _, _, hoL, _⟩ := id hn
    refine h _ ⟨I.ok, I.os, I.bare, ⟨fun b o e n hb hx => ?_, fun b o e n hb hx => ?_, I.base.free, fun b o e hx => ?_, I.base.tups, I.base.frzs, I.base.tbls⟩, ⟨_, hn', fun j y v' e1 e2 e3 => ?_⟩, fun y c e => ?_, I.free, I.freeC, fun p hp => ?_, tracked ⟨oL, hoL, I.free⟩ hs, by simpa using I.len⟩ ⟨_, hs, .inl rfl⟩
    · exact (hs.2 b (Nat.ne_of_lt (Nat.lt_of_lt_of_le (Heap.lt_size e) I.ok.above))).trans (I.base.keep b o e n hb hx)
    · obtain ⟨sl, e1⟩ := I.base.slot b o e n hb hx
      exact ⟨sl, (hs.2 b (Nat.ne_of_lt (Nat.lt_of_lt_of_le (Heap.lt_size e) I.ok.above))).trans e1⟩
    · obtain ⟨o', e1⟩ := I.base.there b o e hx
      exact ⟨o', (hs.2 b (Nat.ne_of_lt (Nat.lt_of_lt_of_le (Heap.lt_size e) I.ok.above))).trans e1⟩
    · by_cases hj : j = i
      · subst hj
        rw [hi] at e1; cases e1
        rw [List.getElem?_set_self hiσ] at e2
        cases e2
        exact ⟨u, r, .inl ⟨hk, by simp⟩⟩
      · rw [List.getElem?_set_ne (Ne.symm hj)] at e2
        obtain ⟨u', r', q⟩ := hl j y v' e1 e2 e3
        refine ⟨u', r', ?_⟩
        rcases q with ⟨k, e⟩ | ⟨k, c, e, z⟩
        · refine .inl ⟨k, ?_⟩
          have : y ≠ x := fun e => hj (nodup_ix hN e1 (e ▸ hi))
          simp [this, e]
        · exact .inr ⟨k, c, e, z.sameBut hs (cne y c e)⟩
    · obtain ⟨w', z⟩ := I.cell y c e
      exact ⟨w', z.sameBut hs (cne y c e)⟩
    · obtain ⟨e, n, ne, nf, d⟩ := I.pin p hp
      exact ⟨(hs.2 p.1 ne).trans e, n, ne, nf, d⟩
  · have hfn : X.fn x = true := by
      rcases hf with z | z
      · exact z
      · rw [z] at hk; cases hk
    obtain ⟨c, hc⟩ := I.ok.has x (.inl hk)
    obtain ⟨w', z⟩ := I.cell x c hc
    refine wpAny_storeName_cell I.ok.kind hk hc z (fun h' hc' hs => ?_)
    obtain ⟨oc, hoc, hocd⟩ := id z
    refine h { s with heap := h' } ⟨I.ok, I.os, I.bare, ⟨fun b o e n hb hx => ?_, fun b o e n hb hx => ?_, I.base.free, fun b o e hx => ?_, I.base.tups, I.base.frzs, I.base.tbls⟩, ⟨m, hn.sameBut hs (Ne.symm (cne x c hc)), fun j y v' e1 e2 e3 => ?_⟩, fun y c' e => ?_, I.free, I.freeC, fun p hp => ?_, tracked ⟨oc, hoc, I.freeC x c hc⟩ hs, by simpa using I.len⟩ ⟨c, hs, .inr hc⟩
    · exact (hs.2 b (Nat.ne_of_lt (Nat.lt_of_lt_of_le (Heap.lt_size e) (I.ok.cab x c hfn hc)))).trans (I.base.keep b o e n hb hx)
    · obtain ⟨sl, e1⟩ := I.base.slot b o e n hb hx
      exact ⟨sl, (hs.2 b (Nat.ne_of_lt (Nat.lt_of_lt_of_le (Heap.lt_size e) (I.ok.cab x c hfn hc)))).trans e1⟩
    · obtain ⟨o', e1⟩ := I.base.there b o e hx
      exact ⟨o', (hs.2 b (Nat.ne_of_lt (Nat.lt_of_lt_of_le (Heap.lt_size e) (I.ok.cab x c hfn hc)))).trans e1⟩
    · by_cases hj : j = i
      · subst hj
        rw [hi] at e1; cases e1
        rw [List.getElem?_set_self hiσ] at e2
        cases e2
        exact ⟨u, r, .inr ⟨.inl hk, c, hc, hc'⟩⟩
      · rw [List.getElem?_set_ne (Ne.symm hj)] at e2
        obtain ⟨u', r', q⟩ := hl j y v' e1 e2 e3
        refine ⟨u', r', ?_⟩
        rcases q with q | ⟨k, c', e, z'⟩
        · exact .inl q
        · refine .inr ⟨k, c', e, z'.sameBut hs ?_⟩
          rintro rfl
          exact hj (nodup_ix hN e1 (I.ok.inj _ _ _ e hc ▸ hi))
    · by_cases hcc : c' = c
      · subst hcc; exact ⟨_, hc'⟩
      · obtain ⟨w2, z2⟩ := I.cell y c' e
        exact ⟨w2, z2.sameBut hs hcc⟩
    · obtain ⟨e, n, ne, nf, d⟩ := I.pin p hp
      refine ⟨(hs.2 p.1 ?_).trans e, n, ne, nf, d⟩
      intro q
      rw [q, hoc] at e
      have q' : oc = p.2 := Option.some.inj e
      exact d w' (by rw [← q']; exact hocd)
theorem store_ok {M : Model} {A : Around} {E : Value → Shared → Prop} {i : Nat} {x : Str} {v : V} {u : Value} {Q : Unit → Shared → Prop} (I : Inv X pins σ H s) (hN : X.N.Nodup) (hi : X.N[i]? = some x) (hx : Loc X.env.scope x) (r : RelV v u)
    (h : ∀ s', Inv X pins (σ.set i (some v)) H s' → Q () s') (hf : X.fn x = true ∨ X.env.scope.names.lookup x = some .local := by first | exact .inl rfl | exact .inr rfl | assumption) : wpAny M A (storeName X.env x u) Q E s :=
  store_ok2 I hN hi hx r (fun s' I' _ => h s' I') hf
theorem Inv.call' {s' : Shared} {ch : List Addr} (I : Inv X pins σ H s) (ho : s'.os = s.os) (u : Un (frs X.stack) ch H H' s.heap s'.heap) (hok : HOk X.prog X.w H' s'.heap) (hg : AllBare s'.gens)
    (hch : ∀ b ∈ ch, (b ∈ X.ex ∨ X.s₀.heap.objs.size ≤ b) ∧ b ≠ X.env.locals ∧ (∀ x c, X.env.cells.lookup x = some c → c ≠ b) ∧ ∀ p ∈ X.pn ++ pins, p.1 ≠ b) : Inv X pins σ H' s' := by
  obtain ⟨h', g', d', t', o'⟩ := s'
  have e : o' = s.os := ho
  subst e
  exact I.call (g' := g') (t' := t') (d' := d') u hok hg hch
end
abbrev XK := Value → Option Addr → Hp → Prop
abbrev St := List (Option V)
abbrev VK := V → Hp → Prop
abbrev TE := St → Hp → VK → Prop
abbrev TT := St → Hp → (Bool → Hp → Prop) → Prop
abbrev TA := St → Hp → (List V → Hp → Prop) → Prop
structure Ends where
  nx : St → Hp → Prop
  rt : VK
  bk : St → Hp → Prop := fun _ _ => False
  ct : St → Hp → Prop := fun _ _ => False
abbrev TS := Ends → St → Hp → Prop
def EP (X : Cx) (pins : List (Addr × Obj)) (σ : St) (Q : VK) (u : Value) (s' : Shared) : Prop := ∃ v H', Inv X pins σ H' s' ∧ RelV v u ∧ Q v H'
def TP (X : Cx) (pins : List (Addr × Obj)) (σ : St) (Q : Bool → Hp → Prop) (b : Bool) (s' : Shared) : Prop := ∃ H', Inv X pins σ H' s' ∧ Q b H'
def AP (X : Cx) (pins : List (Addr × Obj)) (σ : St) (Q : List V → Hp → Prop) (us : List Value) (s' : Shared) : Prop := ∃ vs H', Inv X pins σ H' s' ∧ Vals vs us ∧ Q vs H'
def SP (X : Cx) (pins : List (Addr × Obj)) (D : Ends) (f : Flow) (s' : Shared) : Prop :=
  match f with
  | .next => ∃ σ' H', Inv X pins σ' H' s' ∧ D.nx σ' H'
  | .brk => ∃ σ' H', Inv X pins σ' H' s' ∧ D.bk σ' H'
  | .cont => ∃ σ' H', Inv X pins σ' H' s' ∧ D.ct σ' H'
  | .ret u => ∃ v σ' H', Inv X pins σ' H' s' ∧ RelV v u ∧ D.rt v H'
namespace Zu
set_option allowUnsafeReducibility true in
@[scoped irreducible] def _root_.L2.PE (X : Cx) (e : Expr) (t : TE) : Prop :=
  ∀ (pins : List (Addr × Obj)) (s : Shared) (σ : St) (H : Hp) (Q : VK), Inv X pins σ H s → t σ H Q → wpAny (model X.prog X.w) X.A (eval e X.env) (EP X pins σ Q) X.xe s
end Zu
namespace Zu
set_option allowUnsafeReducibility true in
@[scoped irreducible] def _root_.L2.PT (X : Cx) (e : Expr) (t : TT) : Prop :=
  ∀ (pins : List (Addr × Obj)) (s : Shared) (σ : St) (H : Hp) (Q : Bool → Hp → Prop), Inv X pins σ H s → t σ H Q → wpAny (model X.prog X.w) X.A (isTrue e X.env (eval e X.env)) (TP X pins σ Q) X.xe s
end Zu
namespace Zu
set_option allowUnsafeReducibility true in
@[scoped irreducible] def _root_.L2.PW (X : Cx) (e : Expr) (t : TT) : Prop :=
  ∀ (whole : Sem Value) (pins : List (Addr × Obj)) (s : Shared) (σ : St) (H : Hp) (Q : Bool → Hp → Prop), Inv X pins σ H s → t σ H Q → wpAny (model X.prog X.w) X.A (isTrue e X.env whole) (TP X pins σ Q) X.xe s
end Zu
theorem PW.pt {X : Cx} {e : Expr} {t : TT} (h : PW X e t) : PT X e t := h _
namespace Zu
set_option allowUnsafeReducibility true in
@[scoped irreducible] def _root_.L2.PA (X : Cx) (es : List Expr) (t : TA) : Prop :=
  ∀ (pos : Pos) (pins : List (Addr × Obj)) (s : Shared) (σ : St) (H : Hp) (Q : List V → Hp → Prop), Inv X pins σ H s → t σ H Q → wpAny (model X.prog X.w) X.A (spliced (backTo pos (starEach es X.env))) (AP X pins σ Q) X.xe s
end Zu
namespace Zu
set_option allowUnsafeReducibility true in
@[scoped irreducible] def _root_.L2.PS (X : Cx) (st : Stmt) (t : TS) : Prop :=
  ∀ (pins : List (Addr × Obj)) (s : Shared) (σ : St) (H : Hp) (D : Ends), Inv X pins σ H s → t D σ H → wpAny (model X.prog X.w) X.A (exec st X.env) (SP X pins D) X.xe s
end Zu
namespace Zu
set_option allowUnsafeReducibility true in
@[scoped irreducible] def _root_.L2.PSs (X : Cx) (st : List Stmt) (t : TS) : Prop :=
  ∀ (pins : List (Addr × Obj)) (s : Shared) (σ : St) (H : Hp) (D : Ends), Inv X pins σ H s → t D σ H → wpAny (model X.prog X.w) X.A (execs st X.env) (SP X pins D) X.xe s
end Zu
theorem thn {α : Type} {t : Sem α} {Q Q' : α → Shared → Prop} {M : Model} {A : Around} {E : Value → Shared → Prop} {s : Shared} (h : wpAny M A t Q E s) (hQ : ∀ a s, Q a s → Q' a s) : wpAny M A t Q' E s := wpAny_mono h hQ fun _ _ x => x
end L2
namespace L2
open PySem PySem.Spec PyProof.Rows
section
variable {X : Cx}
def tVar (i : Nat) : TE := fun σ H Q => ∃ v, σ[i]? = some (some v) ∧ Q v H
def tC (v : V) : TE := fun _ H Q => Q v H
theorem pe_var {i : Nat} {x : Str} {pos : Pos} (hN : X.N[i]? = some x) (hv : Vis X.env.scope x) (hd : (x == ("__debug__" : Str)) = false := by decide) (hcd : (x == ("__classdict__" : Str)) = false := by decide) : PE X (.Name x pos) (tVar i) := by
  intro pins s σ H Q I h
  obtain ⟨v, e, h⟩ := h
  obtain ⟨m, hn, hl⟩ := I.loc
  obtain ⟨u, r, l⟩ := hl i x v hN e hv
  have fin : EP X pins σ Q u s := ⟨v, H, I, r, h⟩
  rcases l with ⟨hk, hm⟩ | ⟨hk, c, hc, hcell⟩
  · exact wpAny_Name (wpAny_loadName_local I.ok.kind hk hn hm fin) hd
  · rcases hk with hk | hk
    · exact wpAny_Name (wpAny_loadName_cell I.ok.kind hk hc hcell fin) hd
    · exact wpAny_Name (wpAny_loadName_free I.ok.kind hk hc hcell fin hcd) hd
theorem pe_int {i j pos} : PE X (.Constant (.int i) j pos) (tC (.int i)) := fun _ _ _ H _ I h => wpAny_Constant_int ⟨.int i, H, I.tok _, ⟨_, rfl⟩, h⟩
theorem pe_bl {b j pos} : PE X (.Constant (.bool b) j pos) (tC (.bl b)) := fun _ _ _ H _ I h => Constant_bool ⟨.bl b, H, I, rfl, h⟩
theorem pe_non {j pos} : PE X (.Constant .none j pos) (tC .non) := fun _ _ _ H _ I h => Constant_none ⟨.non, H, I, rfl, h⟩
theorem pe_str {x j pos} : PE X (.Constant (.str x) j pos) (tC (.str x)) := fun _ _ _ H _ I h => Calls.Constant_str ⟨.str x, H, I.tok _, ⟨_, rfl⟩, h⟩
def Gl (X : Cx) (x : Str) : Prop := X.env.kindOf x = some .globalImplicit
theorem ld_glob {E : Value → Shared → Prop} {pins : List (Addr × Obj)} {s : Shared} {σ : St} {H : Hp} {x : Str} {u : Value} {pos : Pos} {Q : Value → Shared → Prop} (I : Inv X pins σ H s) (hg : Gl X x) (hm : X.mg x = some u) (h : Q u s)
    (hd : (x == ("__debug__" : Str)) = false := by decide) : wpAny (model X.prog X.w) X.A (eval (.Name x pos) X.env) Q E s :=
  Calls.Name_function_global I.ok.kind hg (Calls.loadGlobal_global (by rw [I.ok.glob]; exact I.mod.glob.keeps I.bk) hm h) hd
theorem ld_blt {E : Value → Shared → Prop} {pins : List (Addr × Obj)} {s : Shared} {σ : St} {H : Hp} {x : Str} {u : Value} {pos : Pos} {Q : Value → Shared → Prop} (I : Inv X pins σ H s) (hg : Gl X x) (hm : X.mg x = none) (hv : bootBuiltins x = some u) (h : Q u s)
    (hn : x ≠ "__name__" := by decide) (hd : (x == ("__debug__" : Str)) = false := by decide) : wpAny (model X.prog X.w) X.A (eval (.Name x pos) X.env) Q E s := by
  obtain ⟨mb, h1, h2⟩ := I.mod.blt
  exact Calls.Name_function_global I.ok.kind hg (Calls.loadGlobal_builtin (by rw [I.ok.glob]; exact I.mod.glob.keeps I.bk) hm (by rw [I.ok.blt]; exact h1.keeps I.bk) ((h2 x hn).trans hv) h) hd
def t2I (ta tb : TE) (k : Int → Int → Hp → Prop) : St → Hp → Prop := fun σ H => ta σ H fun x H1 => tb σ H1 fun y H2 => ∃ i j, x = .int i ∧ y = .int j ∧ k i j H2
def tAdd (ta tb : TE) : TE := fun σ H Q => t2I ta tb (fun i j H2 => Q (.int (i + j)) H2) σ H
def tSub (ta tb : TE) : TE := fun σ H Q => t2I ta tb (fun i j H2 => Q (.int (i - j)) H2) σ H
def tMul (ta tb : TE) : TE := fun σ H Q => t2I ta tb (fun i j H2 => (-(2 ^ 64) < i ∧ i < 2 ^ 64) ∧ Q (.int (i * j)) H2) σ H
variable {a b : Expr} {ta tb : TE} {pos : Pos}
def PC (X : Cx) (op : CmpOp) (a b : Expr) (t : TE) : Prop :=
  ∀ (pins : List (Addr × Obj)) (s : Shared) (σ : St) (H : Hp) (Q : VK), Inv X pins σ H s → t σ H Q →
    wpAny (model X.prog X.w) X.A (eval a X.env) (fun v s₁ => wpAny (model X.prog X.w) X.A (eval b X.env) (fun u s₂ => wpAny (model X.prog X.w) X.A (compareOp op v u) (EP X pins σ Q) X.xe s₂) X.xe s₁) X.xe s
def tCmp (p : Int → Int → Bool) (ta tb : TE) : TE := fun σ H Q => t2I ta tb (fun i j H2 => Q (.bl (p i j)) H2) σ H
abbrev tLt : TE → TE → TE := tCmp fun i j => decide (i < j)
abbrev tLe : TE → TE → TE := tCmp fun i j => decide (i ≤ j)
abbrev tGt : TE → TE → TE := tCmp fun i j => decide (j < i)
abbrev tGe : TE → TE → TE := tCmp fun i j => decide (j ≤ i)
abbrev tEqI : TE → TE → TE := tCmp fun i j => decide (i = j)
abbrev tNeI : TE → TE → TE := tCmp fun i j => !decide (i = j)
def tIsN (ta : TE) : TE := fun σ H Q => ta σ H fun x H1 => Q (.bl (decide (x = .non))) H1
def tNotN (ta : TE) : TE := fun σ H Q => ta σ H fun x H1 => Q (.bl (!decide (x = .non))) H1
def tB (t : TE) : TT := fun σ H Q => t σ H fun x H1 => ∃ c, x = .bl c ∧ Q c H1
theorem pt_val {e : Expr} {t : TE} (h : PE X e t) (he : ∀ whole, isTrue e X.env whole = (do let v ← whole; standAt e.pos; holding [v] (truthy v)) := by intro _; rfl) : PT X e (tB t) := by
  intro pins s σ H Q I hw
  refine isTrue_plain (thn (h pins s σ H _ I hw) fun v s1 ⟨x, H1, I1, r1, q1⟩ => ?_) (he _)
  obtain ⟨d, rfl, q⟩ := q1
  cases r1
  exact wpAny_truthy_bool ⟨H1, I1, q⟩
variable {tA tB' : TT} {rest : List Expr}
def tAnd (t u : TT) : TT := fun σ H Q => t σ H fun c H1 => if c = true then u σ H1 Q else Q false H1
def tOr (t u : TT) : TT := fun σ H Q => t σ H fun c H1 => if c = true then Q true H1 else u σ H1 Q
def tNot (t : TT) : TT := fun σ H Q => t σ H fun c H1 => Q (!c) H1
theorem pw_and1 (ha : PT X a tA) : PW X (.BoolOp .And [a] pos) tA := by
  intro wh pins s σ H Q I h
  refine isTrue_and (thn (ha pins s σ H Q I h) fun c s1 e => ?_)
  cases c with
  | true => exact isTrue_and_nil e
  | false => exact e
theorem pw_or1 (ha : PT X a tA) : PW X (.BoolOp .Or [a] pos) tA := by
  intro wh pins s σ H Q I h
  refine isTrue_or (thn (ha pins s σ H Q I h) fun c s1 e => ?_)
  cases c with
  | false => exact isTrue_or_nil e
  | true => exact e
theorem pw_and (ha : PT X a tA) (hb : PW X (.BoolOp .And (b :: rest) pos) tB') : PW X (.BoolOp .And (a :: b :: rest) pos) (tAnd tA tB') := by
  intro wh pins s σ H Q I h
  refine isTrue_and (thn (ha pins s σ H _ I h) fun c s1 ⟨H1, I1, q1⟩ => ?_)
  cases c with
  | true => exact hb wh pins s1 σ H1 Q I1 q1
  | false => exact ⟨H1, I1, q1⟩
theorem pw_or (ha : PT X a tA) (hb : PW X (.BoolOp .Or (b :: rest) pos) tB') : PW X (.BoolOp .Or (a :: b :: rest) pos) (tOr tA tB') := by
  intro wh pins s σ H Q I h
  refine isTrue_or (thn (ha pins s σ H _ I h) fun c s1 ⟨H1, I1, q1⟩ => ?_)
  cases c with
  | true => exact ⟨H1, I1, q1⟩
  | false => exact hb wh pins s1 σ H1 Q I1 q1
def tAndV (ta tb : TE) : TE := fun σ H Q => ta σ H fun x H1 => ∃ c, x = .bl c ∧ if c = true then tb σ H1 Q else Q (.bl false) H1
def tOrV (ta tb : TE) : TE := fun σ H Q => ta σ H fun x H1 => ∃ c, x = .bl c ∧ if c = true then Q (.bl true) H1 else tb σ H1 Q
def tNotV (ta : TE) : TE := fun σ H Q => ta σ H fun x H1 => ∃ c, x = .bl c ∧ Q (.bl (!c)) H1
theorem pe_one {op} {t : TE} (h : PE X a t) : PE X (.BoolOp op [a] pos) t := fun pins s σ H Q I hw => BoolOp_one (h pins s σ H Q I hw)
theorem pe_and (ha : PE X a ta) (hb : PE X (.BoolOp .And (b :: rest) pos) tb) : PE X (.BoolOp .And (a :: b :: rest) pos) (tAndV ta tb) := by
  intro pins s σ H Q I h
  refine BoolOp_and (thn (ha pins s σ H _ I h) fun v s1 ⟨x, H1, I1, r1, q1⟩ => ?_)
  obtain ⟨c, rfl, q1⟩ := q1
  cases r1
  refine wpAny_truthy_bool ?_
  cases c with
  | true => exact hb pins s1 σ H1 Q I1 q1
  | false => exact ⟨.bl false, H1, I1, rfl, q1⟩
theorem pe_or (ha : PE X a ta) (hb : PE X (.BoolOp .Or (b :: rest) pos) tb) : PE X (.BoolOp .Or (a :: b :: rest) pos) (tOrV ta tb) := by
  intro pins s σ H Q I h
  refine BoolOp_or (thn (ha pins s σ H _ I h) fun v s1 ⟨x, H1, I1, r1, q1⟩ => ?_)
  obtain ⟨c, rfl, q1⟩ := q1
  cases r1
  refine wpAny_truthy_bool ?_
  cases c with
  | false => exact hb pins s1 σ H1 Q I1 q1
  | true => exact ⟨.bl true, H1, I1, rfl, q1⟩
theorem pe_not (ha : PE X a ta) : PE X (.UnaryOp .Not a pos) (tNotV ta) := by
  intro pins s σ H Q I h
  refine UnaryOp_ (thn (ha pins s σ H _ I h) fun v s1 ⟨x, H1, I1, r1, q1⟩ => ?_)
  obtain ⟨c, rfl, q1⟩ := q1
  cases r1
  exact not_of (wpAny_truthy_bool ⟨.bl (!c), H1, I1, rfl, q1⟩)
def tIf (t : TT) (ta tb : TE) : TE := fun σ H Q => t σ H fun c H1 => if c = true then ta σ H1 Q else tb σ H1 Q
theorem pe_ifExp {c : Expr} (hc : PT X c tA) (ha : PE X a ta) (hb : PE X b tb) : PE X (.IfExp c a b pos) (tIf tA ta tb) := by
  intro pins s σ H Q I h
  refine wpAny_IfExp (thn (hc pins s σ H _ I h) fun d s1 ⟨H1, I1, q1⟩ => ?_)
  cases d with
  | true => exact ha pins s1 σ H1 Q I1 q1
  | false => exact hb pins s1 σ H1 Q I1 q1
end
end L2
namespace L2
open PySem PySem.Spec PyProof.Rows
def SqL (K : PySem.W.Frag) (H : Hp) (a : Addr) (xs : List V) : Prop :=
  Rd H a (.lst xs) ∨
    ∃ (o : Obj) (its : Array Value) (n : Nat), K.lookup a = some o ∧ o.cls = .type "list" ∧ o.dict = none ∧ o.data = .seq its n ∧ its.size ≤ sizeLine ∧ Vals xs its.toList
def SqT (K : PySem.W.Frag) (H : Hp) (a : Addr) (xs : List V) : Prop :=
  Rd H a (.tup xs) ∨
    ∃ (o : Obj) (its : Array Value) (n : Nat), K.lookup a = some o ∧ o.cls = .type "tuple" ∧ o.data = .seq its n ∧ its.size ≤ sizeLine ∧ Vals xs its.toList
def absV : Value → Option V
  | .none => some .non
  | .bool b => some (.bl b)
  | .int i _ => some (.int i)
  | .str x _ => some (.str x)
  | .bytes b _ => some (.byt b)
  | .float b _ => some (.flt b)
  | .ref a => some (.ref a)
  | .type n => some (.ty n)
  | _ => none
theorem RelV.abs {x : V} {u : Value} (r : RelV x u) : absV u = some x := by
  cases x with
  | non => cases r; rfl
  | bl _ => cases r; rfl
  | int _ => obtain ⟨t, rfl⟩ := r; rfl
  | str _ => obtain ⟨t, rfl⟩ := r; rfl
  | byt _ => obtain ⟨t, rfl⟩ := r; rfl
  | flt _ => obtain ⟨t, rfl⟩ := r; rfl
  | ref _ => cases r; rfl
  | ty _ => cases r; rfl
theorem RelV.inj {x y : V} {u : Value} (r : RelV x u) (q : RelV y u) : x = y := Option.some.inj (r.abs.symm.trans q.abs)
theorem Vals.inj : ∀ {xs ys : List V} {us : List Value}, Vals xs us → Vals ys us → xs = ys
  | _, _, _, .nil, .nil => rfl
  | _, _, _, .cons r t, .cons r' t' => by rw [r.inj r', Vals.inj t t']
section
variable {X : Cx} {pins : List (Addr × Obj)} {σ : St} {H : Hp} {s : Shared} {a : Addr} {xs ys : List V}
theorem SqL.of {K : PySem.W.Frag} (h : H a = some (.lst xs)) : SqL K H a xs := .inl (.inl h)
theorem SqT.of {K : PySem.W.Frag} (h : H a = some (.tup xs)) : SqT K H a xs := .inl (.inl h)
theorem Inv.list (I : Inv X pins σ H s) (h : SqL X.K H a xs) : ∃ its : List Value, Vals xs its ∧ PlainL s.heap a its.toArray ∧ xs.length ≤ sizeLine := by
  rcases h with h | ⟨o, its, n, hk, hc, hd, hs, hz, r⟩
  · obtain ⟨z, its, n, r, e⟩ := h.ok I.hok
    exact ⟨its, r, ⟨_, n, e, rfl, rfl, rfl⟩, z⟩
  · refine ⟨its.toList, r, ⟨o, n, I.kIn a o hk, hc, hd, by simpa using hs⟩, ?_⟩
    have e := r.length
    simp only [Array.length_toList] at e
    omega
theorem Inv.tuple (I : Inv X pins σ H s) (h : SqT X.K H a xs) : ∃ its : List Value, Vals xs its ∧ IsTup s.heap a its.toArray ∧ xs.length ≤ sizeLine := by
  rcases h with h | ⟨o, its, n, hk, hc, hs, hz, r⟩
  · obtain ⟨z, its, r, p⟩ := h.ok I.hok
    exact ⟨its, r, p, z⟩
  · refine ⟨its.toList, r, ⟨o, I.kIn a o hk, hc, n, by simpa using hs⟩, ?_⟩
    have e := r.length
    simp only [Array.length_toList] at e
    omega
theorem Inv.list_inj (I : Inv X pins σ H s) (h : SqL X.K H a xs) (h' : SqL X.K H a ys) : xs = ys := by
  obtain ⟨its, r, ⟨o, n, e, _, _, d⟩, _⟩ := I.list h
  obtain ⟨its', r', ⟨o', n', e', _, _, d'⟩, _⟩ := I.list h'
  rw [e] at e'; cases e'
  rw [d] at d'
  injection d' with d1 _
  have : its = its' := by simpa using congrArg Array.toList d1
  subst this
  exact r.inj r'
theorem Inv.tuple_inj (I : Inv X pins σ H s) (h : SqT X.K H a xs) (h' : SqT X.K H a ys) : xs = ys := by
  obtain ⟨its, r, ⟨o, e, _, n, d⟩, _⟩ := I.tuple h
  obtain ⟨its', r', ⟨o', e', _, n', d'⟩, _⟩ := I.tuple h'
  rw [e] at e'; cases e'
  rw [d] at d'
  injection d' with d1 _
  have : its = its' := by simpa using congrArg Array.toList d1
  subst this
  exact r.inj r'
end
abbrev Cx.wish (X : Cx) (E : Value → Shared → Prop) : Cx := { X with xe := E }
abbrev Cx.nox (X : Cx) : Cx := X.wish fun _ _ => False
theorem Cx.Ok.wish {X : Cx} (ok : X.Ok) (E : Value → Shared → Prop) : (X.wish E).Ok :=
  ⟨ok.mod, ok.kind, ok.glob, ok.blt, ok.above, ok.inj, ok.has, ok.cab, ok.hd, ok.frames, ok.stk, ok.exf, ok.bs, ok.bsz, ok.noex, ok.exfs, ok.funs, ok.frf⟩
theorem Cx.Ok.unwish {X : Cx} {E : Value → Shared → Prop} (ok : (X.wish E).Ok) : X.Ok :=
  ⟨ok.mod, ok.kind, ok.glob, ok.blt, ok.above, ok.inj, ok.has, ok.cab, ok.hd, ok.frames, ok.stk, ok.exf, ok.bs, ok.bsz, ok.noex, ok.exfs, ok.funs, ok.frf⟩
section
variable {X : Cx} {pins : List (Addr × Obj)} {σ : St} {H : Hp} {s : Shared} {E : Value → Shared → Prop}
theorem Inv.wish (I : Inv X pins σ H s) (E : Value → Shared → Prop) : Inv (X.wish E) pins σ H s := ⟨I.ok.wish E, I.os, I.bare, I.base, I.loc, I.cell, I.free, I.freeC, I.pin, I.hok, I.len⟩
theorem Inv.unwish (I : Inv (X.wish E) pins σ H s) : Inv X pins σ H s := ⟨I.ok.unwish, I.os, I.bare, I.base, I.loc, I.cell, I.free, I.freeC, I.pin, I.hok, I.len⟩
theorem SP.unwish {D : Ends} {f : Flow} {s' : Shared} (h : SP (X.wish E) pins D f s') : SP X pins D f s' := by
  cases f with
  | next => obtain ⟨σ', H', I, q⟩ := h; exact ⟨σ', H', I.unwish, q⟩
  | brk => obtain ⟨σ', H', I, q⟩ := h; exact ⟨σ', H', I.unwish, q⟩
  | cont => obtain ⟨σ', H', I, q⟩ := h; exact ⟨σ', H', I.unwish, q⟩
  | ret u => obtain ⟨v, σ', H', I, r, q⟩ := h; exact ⟨v, σ', H', I.unwish, r, q⟩
theorem PE.nox {e : Expr} {t : TE} (h : PE X.nox e t) : PE X e t := fun pins s σ H Q I hw =>
  wpAny_mono (h pins s σ H Q (I.wish _) hw) (fun _ _ ⟨v, H', I', r, q⟩ => ⟨v, H', I'.unwish, r, q⟩) fun _ _ z => False.elim z
theorem PT.nox {e : Expr} {t : TT} (h : PT X.nox e t) : PT X e t := fun pins s σ H Q I hw =>
  wpAny_mono (h pins s σ H Q (I.wish _) hw) (fun _ _ ⟨H', I', q⟩ => ⟨H', I'.unwish, q⟩) fun _ _ z => False.elim z
theorem PSs.nox {st : List Stmt} {t : TS} (h : PSs X.nox st t) : PSs X st t := fun pins s σ H D I hw =>
  wpAny_mono (h pins s σ H D (I.wish _) hw) (fun _ _ q => q.unwish) fun _ _ z => False.elim z
end
section
variable {X : Cx} {st : Stmt} {rest : List Stmt} {t u : TS} {e : Expr} {te : TE} {pos : Pos}
def tNext : TS := fun D σ H => D.nx σ H
def tSeq (t u : TS) : TS := fun D σ H => t { D with nx := u D } σ H
theorem pss_nil : PSs X [] tNext := fun _ _ σ H _ I h => wpAny_execs_nil ⟨σ, H, I, h⟩
theorem pss_cons (h1 : PS X st t) (h2 : PSs X rest u) : PSs X (st :: rest) (tSeq t u) := by
  intro pins s σ H D I h
  refine wpAny_execs_cons (thn (h1 pins s σ H { D with nx := u D } I h) fun f s1 q => ?_)
  cases f with
  | next =>
    obtain ⟨σ', H', I', q⟩ := q
    exact h2 pins s1 σ' H' D I' q
  | ret v => exact q
  | brk => exact q
  | cont => exact q
theorem pss_one (h1 : PS X st t) : PSs X [st] t := by
  intro pins s σ H D I h
  refine wpAny_execs_cons (thn (h1 pins s σ H D I h) fun f s1 q => ?_)
  cases f with
  | next => exact wpAny_execs_nil q
  | ret v => exact q
  | brk => exact q
  | cont => exact q
def tBreak : TS := fun D σ H => D.bk σ H
def tCont : TS := fun D σ H => D.ct σ H
theorem Inv.quiet {pins : List (Addr × Obj)} {σ : St} {H : Hp} {s : Shared} (I : Inv X pins σ H s) : interactive X.env = false := by simp [interactive, I.ok.kind]
def tDrop (te : TE) : TS := fun D σ H => te σ H fun _ H1 => D.nx σ H1
theorem ps_expr (he : PE X e te) (hs : swapsWith e none pos.line X.env = pure false := by rfl) : PS X (.Expr e pos) (tDrop te) := by
  intro pins s σ H D I h
  exact wpAny_Expr_any (thn (he pins s σ H _ I h) fun v s1 ⟨x, H1, I1, r1, q1⟩ => ⟨σ, H1, I1, q1⟩) I.quiet hs
def tRet (te : TE) : TS := fun D σ H => te σ H D.rt
theorem ps_ret (he : PE X e te) : PS X (.Return (some e) pos) (tRet te) := by
  intro pins s σ H D I h
  exact wpAny_Return_some (thn (he pins s σ H _ I h) fun v s1 ⟨x, H1, I1, r1, q1⟩ => ⟨x, σ, H1, I1, r1, q1⟩)
def tRetN : TS := fun D _ H => D.rt .non H
def tIfS (c : TT) (t u : TS) : TS := fun D σ H => c σ H fun b H1 => if b = true then t D σ H1 else u D σ H1
theorem ps_if {c : Expr} {a b : List Stmt} {tc : TT} (hc : PT X c tc) (ha : PSs X a t) (hb : PSs X b u) : PS X (.If c a b pos) (tIfS tc t u) := by
  intro pins s σ H D I h
  refine wpAny_If (thn (hc pins s σ H _ I h) fun d s1 ⟨H1, I1, q1⟩ => ?_)
  cases d with
  | true => exact ha pins s1 σ H1 D I1 q1
  | false => exact hb pins s1 σ H1 D I1 q1
def tNever : TS := fun _ _ _ => False
end
abbrev TG := V → St → Hp → (St → Hp → Prop) → Prop
abbrev TGs := List V → St → Hp → (St → Hp → Prop) → Prop
namespace Zu
set_option allowUnsafeReducibility true in
@[scoped irreducible] def _root_.L2.PG (X : Cx) (target : Expr) (t : TG) : Prop :=
  ∀ (pins : List (Addr × Obj)) (s : Shared) (σ : St) (H : Hp) (v : V) (u : Value) (Q : St → Hp → Prop), Inv X pins σ H s → RelV v u → t v σ H Q →
    wpAny (model X.prog X.w) X.A (assign target X.env u) (fun _ s' => ∃ σ' H', Inv X pins σ' H' s' ∧ Q σ' H') X.xe s
end Zu
namespace Zu
set_option allowUnsafeReducibility true in
@[scoped irreducible] def _root_.L2.PGs (X : Cx) (ts : List Expr) (t : TGs) : Prop :=
  ∀ (pins : List (Addr × Obj)) (s : Shared) (σ : St) (H : Hp) (vs : List V) (us : List Value) (Q : St → Hp → Prop), Inv X pins σ H s → Vals vs us → t vs σ H Q →
    wpAny (model X.prog X.w) X.A (assignInOrder ((assignEach ts X.env).map (·.2)) us) (fun _ s' => ∃ σ' H', Inv X pins σ' H' s' ∧ Q σ' H') X.xe s
end Zu
abbrev TSet := V → V → V → Hp → (Hp → Prop) → Prop
def PSet (X : Cx) (t : TSet) : Prop :=
  ∀ (pins : List (Addr × Obj)) (s : Shared) (σ : St) (H : Hp) (o i v : V) (ov iv u : Value) (Q : Hp → Prop), Inv X pins σ H s → RelV o ov → RelV i iv → RelV v u → t o i v H Q →
    wpAny (model X.prog X.w) X.A (setItem ov iv u) (fun _ s' => ∃ H', Inv X pins σ H' s' ∧ Q H') X.xe s
abbrev TIp := V → V → Hp → VK → Prop
def PIp (X : Cx) (op : Operator) (t : TIp) : Prop :=
  ∀ (pins : List (Addr × Obj)) (s : Shared) (σ : St) (H : Hp) (x y : V) (v u : Value) (Q : VK), Inv X pins σ H s → RelV x v → RelV y u → t x y H Q →
    wpAny (model X.prog X.w) X.A (inplaceOp op v u) (EP X pins σ Q) X.xe s
section
variable {X : Cx} {pos : Pos}
def gName (i : Nat) : TG := fun v σ H Q => Q (σ.set i (some v)) H
theorem pg_name {i : Nat} {x : Str} (hN : X.N.Nodup) (hi : X.N[i]? = some x) (hx : Loc X.env.scope x) (hf : X.fn x = true ∨ X.env.scope.names.lookup x = some .local := by first | exact .inl rfl | exact .inr rfl | assumption) : PG X (.Name x pos) (gName i) := by
  intro pins s σ H v u Q I r h
  exact wpAny_assign_Name (store_ok I hN hi hx r (fun s' I' => ⟨_, H, I', h⟩) hf)
def gNil : TGs := fun vs σ H Q => vs = [] ∧ Q σ H
def gCons (t : TG) (u : TGs) : TGs := fun vs σ H Q => ∃ v r, vs = v :: r ∧ t v σ H fun σ' H' => u r σ' H' Q
theorem pgs_nil : PGs X [] gNil := by
  intro pins s σ H vs us Q I r h
  obtain ⟨e, h⟩ := h
  subst e
  cases r
  exact assignInOrder_nil ⟨σ, H, I, h⟩
theorem pgs_cons {e : Expr} {es : List Expr} {t : TG} {u : TGs} (h1 : PG X e t) (h2 : PGs X es u)
    (hs : (assignEach (e :: es) X.env).map (·.2) = assign e X.env :: (assignEach es X.env).map (·.2) := by rfl) : PGs X (e :: es) (gCons t u) := by
  intro pins s σ H vs us Q I r h
  obtain ⟨v, vr, e1, h⟩ := h
  subst e1
  cases r with
  | cons r rr =>
    rw [hs]
    refine assignInOrder_cons (thn (h1 pins s σ H _ _ _ I r h) fun _ s1 ⟨σ1, H1, I1, q1⟩ => ?_)
    exact h2 pins s1 σ1 H1 _ _ Q I1 rr q1
def gTup (K : PySem.W.Frag) (n : Nat) (t : TGs) : TG := fun v σ H Q => ∃ a xs, v = .ref a ∧ SqT K H a xs ∧ xs.length = n ∧ t xs σ H Q
theorem pg_tup {es : List Expr} {k : Nat} {t : TGs} {n : Nat} (hc : X.calm = true) (h : PGs X es t)
    (hn : (assignEach es X.env).length = n := by rfl) (hst : (assignEach es X.env).findIdx? (·.1) = none := by rfl) : PG X (.Tuple es k pos) (gTup X.K n t) := by
  intro pins s σ H v u Q I r hw
  obtain ⟨a, xs, e1, hq, hl, hw⟩ := hw
  subst e1
  cases r
  obtain ⟨its, rv, ht, hz⟩ := I.tuple hq
  refine assign_Tuple_tuple (I.ok.hd hc) ht (by simp [hn, ← hl, rv.length]) hst fun h' hx => ?_
  have I1 : Inv X pins σ H { s with heap := h' } := I.kept (t' := s.toks) fun b o e => hx b o (Nat.ne_of_lt (Heap.lt_size e)) e
  exact h pins _ σ H xs _ Q I1 (by simpa using rv) hw
def gSub (to ti : TE) (t : TSet) : TG := fun v σ H Q => to σ H fun o H1 => ti σ H1 fun i H2 => t o i v H2 fun H3 => Q σ H3
theorem pg_sub {o i : Expr} {to ti : TE} {t : TSet} (ho : PE X o to) (hi : PE X i ti) (hs : PSet X t)
    (ha : ∀ v, assign (.Subscript o i pos) X.env v = (do
      let ov ← holding [v] (eval o X.env)
      let iv ← holding [v, ov] (eval i X.env)
      standAt pos
      holding [v, ov, iv] (setItem ov iv v)
      release [v, ov, iv] []) := by intro _; rfl) : PG X (.Subscript o i pos) (gSub to ti t) := by
  intro pins s σ H v u Q I r h
  rw [ha]
  refine wpAny_bind (wpAny_holding (thn (ho pins s σ H _ I h) fun ov s1 ⟨x, H1, I1, r1, q1⟩ => ?_))
  refine wpAny_bind (wpAny_holding (thn (hi pins s1 σ H1 _ I1 q1) fun iv s2 ⟨y, H2, I2, r2, q2⟩ => ?_))
  refine wpAny_bind (wpAny_standAt (wpAny_bind (wpAny_holding (thn (hs pins s2 σ H2 x y v ov iv u _ I2 r1 r2 r q2) fun _ s3 ⟨H3, I3, q3⟩ => ?_))))
  exact wpAny_release ⟨σ, H3, I3, q3⟩
def tAsg (te : TE) (g : TG) : TS := fun D σ H => te σ H fun x H1 => g x σ H1 D.nx
theorem ps_asg {tg e : Expr} {te : TE} {g : TG} (he : PE X e te) (hg : PG X tg g) (hs : swapsWithSole [tg] e pos.line X.env = pure false := by rfl) (hw : swappedStores [tg] e X.env = pure none := by rfl)
    (h1 : (assignEach [tg] X.env).map (·.2) = [assign tg X.env] := by rfl) : PS X (.Assign [tg] e pos) (tAsg te g) := by
  intro pins s σ H D I h
  refine wpAny_Assign_stores (thn (he pins s σ H _ I h) fun v s1 ⟨x, H1, I1, r1, q1⟩ => ?_) hs hw
  rw [h1]
  exact thn (hg pins s1 σ H1 x v _ I1 r1 q1) fun _ s2 q => q
theorem ps_set {i : Nat} {x : Str} {e : Expr} {te : TE} {pos' : Pos} (hN : X.N.Nodup) (hi : X.N[i]? = some x) (hx : Loc X.env.scope x) (he : PE X e te) (hs : swapsWith e (some (.Name x pos')) pos.line X.env = pure false := by rfl) (hf : X.fn x = true ∨ X.env.scope.names.lookup x = some .local := by first | exact .inl rfl | exact .inr rfl | assumption) :
    PS X (.Assign [.Name x pos'] e pos) (tAsg te (gName i)) := by
  intro pins s σ H D I h
  refine wpAny_Assign_Name (thn (he pins s σ H _ I h) fun v s1 ⟨y, H1, I1, r1, q1⟩ => ?_) hs
  exact store_ok I1 hN hi hx r1 (fun s2 I2 => ⟨_, H1, I2, q1⟩) hf
def tPar (i j : Nat) (ta : TA) : TS := fun D σ H => ta σ H fun vs H1 => ∃ v w, vs = [v, w] ∧ D.nx ((σ.set i (some v)).set j (some w)) H1
theorem ps_par {i j : Nat} {x y : Str} {a b : Expr} {ta : TA} {px py pt : Pos} {kt k2 pt2} (hc : X.calm = true) (hN : X.N.Nodup) (hi : X.N[i]? = some x) (hj : X.N[j]? = some y) (hij : i ≠ j)
    (hx : X.env.scope.names.lookup x = some .local) (hy : X.env.scope.names.lookup y = some .local) (ha : PA X [a, b] ta)
    (hw : swappedStores [.Tuple [.Name x px, .Name y py] kt pt] (.Tuple [a, b] k2 pt2) X.env = pure (some [x, y]))
    (hs : swapsWithSole [.Tuple [.Name x px, .Name y py] kt pt] (.Tuple [a, b] k2 pt2) pos.line X.env = pure false := by rfl) :
    PS X (.Assign [.Tuple [.Name x px, .Name y py] kt pt] (.Tuple [a, b] k2 pt2) pos) (tPar i j ta) := by
  intro pins s σ H D I h
  rw [exec_Assign_arm]
  refine wpAny_bind (wpAny_standAt ?_)
  rw [hs]
  refine wpAny_bind (wpAny_pure ?_)
  rw [if_neg (by decide)]
  refine wpAny_bind (Tuple_ (thn (ha _ pins s σ H _ I h) fun us s1 ⟨vs, H1, I1, r1, q1⟩ => ?_))
  obtain ⟨v, w, e1, q1⟩ := q1
  subst e1
  obtain ⟨u1, u2, rfl, rv, rw'⟩ : ∃ u1 u2, us = [u1, u2] ∧ RelV v u1 ∧ RelV w u2 := by
    cases r1 with
    | cons p q =>
      cases q with
      | cons p' q' =>
        cases q'
        exact ⟨_, _, rfl, p, p'⟩
  refine wpAny_newObj_type ?_ (by show 2 ≤ sizeLine; decide)
  have I2 : Inv X pins σ H1 { s1 with heap := s1.heap.push { cls := .type "tuple", data := .seq [u1, u2].toArray } } := I1.kept (t' := s1.toks) fun b o e => Heap.get?_push_of_some _ e
  rw [hw]
  refine wpAny_bind (wpAny_pure ?_)
  show wpAny (model X.prog X.w) X.A (do rule "assign.swapped-stores"; let items ← unpackItems (.ref s1.heap.objs.size) 2 none; assignInOrder [fun v => bindName X.env y v, fun v => bindName X.env x v] items.reverse; pure Flow.next) _ _ _
  refine wpAny_bind (wpAny_rule (wpAny_bind (unpackItems_tuple (items := #[u1, u2]) (I.ok.hd hc) (IsTup.new s1.heap _) fun h' hx' => ?_)))
  have I3 := I2.kept (h' := h') (t' := s1.toks) fun b o e => hx' b o (Nat.ne_of_lt (Heap.lt_size e)) e
  show wpAny _ _ (assignInOrder [fun v => bindName X.env y v, fun v => bindName X.env x v] [u2, u1] >>= fun _ => pure Flow.next) _ _ _
  refine wpAny_bind (assignInOrder_cons (wpAny_bindName (store_ok I3 hN hj (.inl hy) rw' (fun s2 I4 => ?_) (.inr hy))))
  refine assignInOrder_cons (wpAny_bindName (store_ok I4 hN hi (.inl hx) rv (fun s3 I5 => assignInOrder_nil (wpAny_pure ?_)) (.inr hx)))
  rw [List.set_comm _ _ (Ne.symm hij)] at I5
  exact ⟨_, H1, I5, q1⟩
def tAug (i : Nat) (te : TE) (ti : TIp) : TS := fun D σ H => ∃ x, σ[i]? = some (some x) ∧ te σ H fun y H1 => ti x y H1 fun z H2 => D.nx (σ.set i (some z)) H2
def tAugS (to ti te : TE) (tget : V → V → Hp → VK → Prop) (tip : TIp) (tset : TSet) : TS := fun D σ H => to σ H fun o H1 => ti σ H1 fun i H2 => tget o i H2 fun x H3 => te σ H3 fun y H4 => tip x y H4 fun z H5 => tset o i z H5 fun H6 => D.nx σ H6
def PGet (X : Cx) (t : V → V → Hp → VK → Prop) : Prop :=
  ∀ (pins : List (Addr × Obj)) (s : Shared) (σ : St) (H : Hp) (o i : V) (ov iv : Value) (Q : VK), Inv X pins σ H s → RelV o ov → RelV i iv → t o i H Q →
    wpAny (model X.prog X.w) X.A (getItem ov iv) (EP X pins σ Q) X.xe s
def ipI (f : Int → Int → Int) : TIp := fun x y H Q => ∃ i j, x = .int i ∧ y = .int j ∧ Q (.int (f i j)) H
end
section
variable {X : Cx} {pos : Pos}
def tWhile (c : TT) (tb : TS) : TS := fun D σ H => ∃ W : Nat → St → Hp → Prop, (∃ m, W m σ H) ∧ ∀ m σ H, W m σ H →
  c σ H fun b H1 => if b = true then ∃ N : St → Hp → Prop, (∀ σ' H', N σ' H' → ∃ m', m' < m ∧ W m' σ' H') ∧ tb { D with nx := N, ct := N, bk := D.nx } σ H1 else D.nx σ H1
theorem ps_while {c : Expr} {body : List Stmt} {tc : TT} {tb : TS} (hp : PassesOwn (model X.prog X.w) X.A X.env X.xe) (hc : PT X c tc) (hb : PSs X body tb) : PS X (.While c body [] pos) (tWhile tc tb) := by
  intro pins s σ H D I h
  obtain ⟨W, ⟨m0, w0⟩, turn⟩ := h
  refine wpAny_While (codeAny_whileLoop (fun n s' => ∃ σ' H', Inv X pins σ' H' s' ∧ W n σ' H') ?_ m0 ⟨σ, H, I, w0⟩)
  rintro n s1 ⟨σ1, H1, I1, w1⟩
  refine wpAny_passesOwn hp (thn (hc pins s1 σ1 H1 _ I1 (turn n σ1 H1 w1)) fun b s2 ⟨H2, I2, q2⟩ => ?_)
  cases b with
  | true =>
    obtain ⟨N, hN, q2⟩ := q2
    rw [if_pos rfl]
    refine wpAny_passesOwn hp (thn (hb pins s2 σ1 H2 _ I2 q2) fun f s3 q3 => ?_)
    cases f with
    | next =>
      obtain ⟨σ3, H3, I3, n3⟩ := q3
      obtain ⟨m', hm, w3⟩ := hN σ3 H3 n3
      exact ⟨m', hm, σ3, H3, I3, w3⟩
    | cont =>
      obtain ⟨σ3, H3, I3, n3⟩ := q3
      obtain ⟨m', hm, w3⟩ := hN σ3 H3 n3
      exact ⟨m', hm, σ3, H3, I3, w3⟩
    | brk => exact q3
    | ret v => exact q3
  | false =>
    rw [if_neg Bool.false_ne_true]
    exact wpAny_execs_nil ⟨σ1, H2, I2, q2⟩
end
structure It where
  go : Nat → Hp → Prop
  yld : Nat → Hp → V → Hp → Prop
  stop : Nat → Hp → Prop
def FpOk (X : Cx) (pins : List (Addr × Obj)) (H : Hp) (b : Addr) : Prop :=
  H b = none ∧ b ≠ X.env.locals ∧ b ∉ X.fs ∧ (b ∈ X.ex ∨ X.s₀.heap.objs.size ≤ b) ∧ (∀ x c, X.env.cells.lookup x = some c → c ≠ b) ∧ ∀ p ∈ X.pn ++ pins, p.1 ≠ b
theorem Inv.fpOk {X : Cx} {pins : List (Addr × Obj)} {σ : St} {H H' : Hp} {s : Shared} {b : Addr} (I : Inv X pins σ H s) (hb : s.heap.objs.size ≤ b) (hn : H' b = none) : FpOk X pins H' b := by
  refine ⟨hn, Nat.ne_of_gt (Nat.lt_of_lt_of_le I.lt hb), I.nofs hb, .inr (Nat.le_trans I.sz hb), fun x c e z => ?_, fun p hp z => ?_⟩
  · obtain ⟨v, q⟩ := I.cell x c e
    exact absurd (Nat.lt_of_lt_of_le q.lt (by rw [z]; exact hb)) (Nat.lt_irrefl _)
  · exact absurd (Nat.lt_of_lt_of_le (Heap.lt_size (I.pin p hp).1) (by rw [z]; exact hb)) (Nat.lt_irrefl _)
structure Turn (P : Program) (w : World) (K : PySem.W.Frag) (tg : Expr) (J : It) (fp : List Addr) (it : Addr) (tn : Nat → Heap → Prop) : Prop where
  mem : it ∈ fp
  obj : ∀ i h, tn i h → ∀ b ∈ fp, ∃ o, h.get? b = some o ∧ ∀ v, o.data ≠ .cell v
  keep : ∀ i h h', tn i h → (∀ b ∈ fp, ∀ o, h.get? b = some o → h'.get? b = some o) → tn i h'
  item : ∀ (X : Cx), X.prog = P → X.w = w → X.K = K → X.calm = true → ∀ (i : Nat) (pins : List (Addr × Obj)) (s : Shared) (σ : St) (H : Hp) (E : Value → Shared → Prop), Inv X pins σ H s → (∀ b ∈ fp, FpOk X pins H b) → tn i s.heap → J.go i H →
    wpAny (model P w) X.A (pyNext (.ref it)) (fun r s1 => ∃ u, r = some u ∧
      wpAny (model P w) X.A (letOwnedTupleGo tg (.ref it) u) (fun _ s2 => ∃ x H', Inv X pins σ H' s2 ∧ RelV x u ∧ J.yld i H x H' ∧ tn (i + 1) s2.heap ∧ ∀ b ∈ fp, H' b = none) E s1) E s
  done : ∀ (X : Cx), X.prog = P → X.w = w → X.K = K → X.calm = true → ∀ (i : Nat) (pins : List (Addr × Obj)) (s : Shared) (σ : St) (H : Hp) (E : Value → Shared → Prop), Inv X pins σ H s → (∀ b ∈ fp, FpOk X pins H b) → tn i s.heap → J.stop i H →
    wpAny (model P w) X.A (pyNext (.ref it)) (fun r s1 => r = none ∧ Inv X pins σ H s1) E s
  self : ∀ (A : Around) (i : Nat) (s : Shared) (Q : Value → Shared → Prop) (E : Value → Shared → Prop), tn i s.heap → Q (.ref it) s → wpAny (model P w) A (pyIter (.ref it)) Q E s
abbrev TI := St → Hp → (It → Hp → Prop) → Prop
def PIE (X : Cx) (pins : List (Addr × Obj)) (σ : St) (tg : Expr) (R : It → Hp → Prop) (itv : Value) (s2 : Shared) : Prop :=
  ∃ (it : Addr) (fp : List Addr) (tn : Nat → Heap → Prop) (J : It) (H' : Hp), itv = .ref it ∧ Inv X pins σ H' s2 ∧ Turn X.prog X.w X.K tg J fp it tn ∧ tn 0 s2.heap ∧ (∀ b ∈ fp, FpOk X pins H' b) ∧ R J H'
namespace Zu
set_option allowUnsafeReducibility true in
@[scoped irreducible] def _root_.L2.PI (X : Cx) (tg iter : Expr) (wi : TI) : Prop :=
  ∀ (pins : List (Addr × Obj)) (s : Shared) (σ : St) (H : Hp) (R : It → Hp → Prop), Inv X pins σ H s → wi σ H R →
    wpAny (model X.prog X.w) X.A (eval iter X.env) (fun v s1 => wpAny (model X.prog X.w) X.A (pyIter v) (PIE X pins σ tg R) X.xe s1) X.xe s
end Zu
theorem go_of {M : Model} {A : Around} {E : Value → Shared → Prop} {s : Shared} {tg : Expr} {it : Addr} {u : Value} {o : Obj} {n : String} {vs : Array Value} {Q : Unit → Shared → Prop} (ho : s.heap.get? it = some o) (hc : o.cls = .type n) (hd : o.data = .fields vs)
    (hn : ["enumerate", "zip", "dict_itemiterator", "dict_reverseitemiterator", "odict_iterator", "itertools.zip_longest", "itertools.pairwise"].contains n = false) (hQ : Q () s) : wpAny M A (letOwnedTupleGo tg (.ref it) u) Q E s := by
  unfold letOwnedTupleGo
  cases tg <;> first
    | exact wpAny_pure hQ
    | (cases u <;> first
        | exact wpAny_pure hQ
        | (refine wpAny_bind (wpAny_load ho ?_)
           rw [hc, hd]
           show wpAny M A (if (["enumerate", "zip", "dict_itemiterator", "dict_reverseitemiterator", "odict_iterator", "itertools.zip_longest", "itertools.pairwise"].contains n && vs[0]? == some (rawInt _)) = true then _ else _) Q E s
           rw [if_neg (by intro h; rw [hn, Bool.false_and] at h; cases h)]
           exact wpAny_pure hQ))
def Itl (K : PySem.W.Frag) (a : Addr) : It :=
  ⟨fun i H => ∃ xs x, SqL K H a xs ∧ xs[i]? = some x, fun i H x H' => H' = H ∧ ∀ xs, SqL K H a xs → xs[i]? = some x, fun i H => ∃ xs, SqL K H a xs ∧ xs.length ≤ i⟩
def Itt (K : PySem.W.Frag) (a : Addr) : It :=
  ⟨fun i H => ∃ xs x, SqT K H a xs ∧ xs[i]? = some x, fun i H x H' => H' = H ∧ ∀ xs, SqT K H a xs → xs[i]? = some x, fun i H => ∃ xs, SqT K H a xs ∧ xs.length ≤ i⟩
def Itr (lo : Int) (n : Nat) : It := ⟨fun i _ => i < n, fun i H x H' => H' = H ∧ x = .int (lo + i), fun i _ => n ≤ i⟩
theorem turn_list {P : Program} {w : World} {K : PySem.W.Frag} {tg : Expr} (a it : Addr) : Turn P w K tg (Itl K a) [it] it (fun i h => h.IsListIter it a i) where
  mem := by simp
  obj := fun i h st b hb => by
    have e : b = it := by simpa using hb
    subst e
    obtain ⟨o, e, c, d⟩ := st
    exact ⟨o, e, fun v z => by rw [d] at z; cases z⟩
  keep := fun i h h' st k => st.at fun o e => k it (by simp) o e
  item := by
    intro X hP hw hK hc i pins s σ H E I hf st hg
    subst hP hw hK
    obtain ⟨xs, x, hq, hx⟩ := hg
    obtain ⟨its, rv, p, hz⟩ := I.list hq
    obtain ⟨u, hu, ru⟩ := rv.get hx
    obtain ⟨f0, f1, f2, f3, f4, f5⟩ := hf it (by simp)
    refine wpAny_pyNext_list_item st p.isList (x := u) (by simpa using hu) fun h' st' sb => ?_
    have I1 : Inv X pins σ H { s with heap := h' } := I.turned (t' := s.toks) (fun b o hb e => (sb.2 b hb).trans e) f0 f1 f3 f4 f5
    obtain ⟨o, e, c, d⟩ := id st'
    exact ⟨u, rfl, go_of (s := { s with heap := h' }) e c d (by decide) ⟨x, H, I1, ru, ⟨rfl, fun ys hy => by rw [I.list_inj hy hq]; exact hx⟩, st', fun b hb => (hf b hb).1⟩⟩
  done := by
    intro X hP hw hK hc i pins s σ H E I hf st hg
    subst hP hw hK
    obtain ⟨xs, hq, hx⟩ := hg
    obtain ⟨its, rv, p, hz⟩ := I.list hq
    obtain ⟨f0, f1, f2, f3, f4, f5⟩ := hf it (by simp)
    have hl := rv.length
    exact wpAny_pyNext_list_end (I.ok.hd hc) st p.isList (by simp; omega) fun h' eb => ⟨rfl, I.turned (t' := s.toks) (fun b o hb e => eb b o hb e) f0 f1 f3 f4 f5⟩
  self := fun _ _ _ _ _ st h => wpAny_pyIter_listiter st h
theorem turn_tuple {P : Program} {w : World} {K : PySem.W.Frag} {tg : Expr} (a it : Addr) : Turn P w K tg (Itt K a) [it] it (fun i h => h.IsTupleIter it a i) where
  mem := by simp
  obj := fun i h st b hb => by
    have e : b = it := by simpa using hb
    subst e
    obtain ⟨o, e, c, d⟩ := st
    exact ⟨o, e, fun v z => by rw [d] at z; cases z⟩
  keep := fun i h h' st k => st.at fun o e => k it (by simp) o e
  item := by
    intro X hP hw hK hc i pins s σ H E I hf st hg
    subst hP hw hK
    obtain ⟨xs, x, hq, hx⟩ := hg
    obtain ⟨its, rv, p, hz⟩ := I.tuple hq
    obtain ⟨u, hu, ru⟩ := rv.get hx
    obtain ⟨f0, f1, f2, f3, f4, f5⟩ := hf it (by simp)
    refine wpAny_pyNext_tuple_item st (show s.heap.IsTuple a its.toArray from p) (x := u) (by simpa using hu) fun h' st' sb => ?_
    have I1 : Inv X pins σ H { s with heap := h' } := I.turned (t' := s.toks) (fun b o hb e => (sb.2 b hb).trans e) f0 f1 f3 f4 f5
    obtain ⟨o, e, c, d⟩ := id st'
    exact ⟨u, rfl, go_of (s := { s with heap := h' }) e c d (by decide) ⟨x, H, I1, ru, ⟨rfl, fun ys hy => by rw [I.tuple_inj hy hq]; exact hx⟩, st', fun b hb => (hf b hb).1⟩⟩
  done := by
    intro X hP hw hK hc i pins s σ H E I hf st hg
    subst hP hw hK
    obtain ⟨xs, hq, hx⟩ := hg
    obtain ⟨its, rv, p, hz⟩ := I.tuple hq
    obtain ⟨f0, f1, f2, f3, f4, f5⟩ := hf it (by simp)
    have hl := rv.length
    exact wpAny_pyNext_tuple_end (I.ok.hd hc) st (show s.heap.IsTuple a its.toArray from p) (by simp; omega) fun h' eb => ⟨rfl, I.turned (t' := s.toks) (fun b o hb e => eb b o hb e) f0 f1 f3 f4 f5⟩
  self := fun _ _ _ _ _ st h => wpAny_pyIter_tupleiter st h
theorem turn_range {P : Program} {w : World} {K : PySem.W.Frag} {tg : Expr} (it : Addr) (lo : Int) (n : Nat) : Turn P w K tg (Itr lo n) [it] it (fun i h => IsRangeIter h it (lo + (i : Nat) * 1) ((n : Int) - (i : Nat)) 1) where
  mem := by simp
  obj := fun i h st b hb => by
    have e : b = it := by simpa using hb
    subst e
    exact ⟨_, st, fun v z => by
      have z' : Data.fields _ = Data.cell v := z
      cases z'⟩
  keep := fun i h h' st k => k it (by simp) _ st
  item := by
    intro X hP hw hK hc i pins s σ H E I hf st hg
    subst hP hw hK
    obtain ⟨f0, f1, f2, f3, f4, f5⟩ := hf it (by simp)
    have W := Walks.range (prog := X.prog) (w := X.w) (I.ok.hd hc) it lo 1 n
    refine W.item i s _ _ hg st fun v h' tk hv st' kk => ?_
    obtain ⟨t, rfl⟩ := hv
    have I1 : Inv X pins σ H { s with heap := h', toks := tk } := I.turned (fun b o hb e => kk b o (by simpa using hb) e) f0 f1 f3 f4 f5
    refine ⟨_, rfl, go_of (s := { s with heap := h', toks := tk }) (n := "range_iterator") st' rfl rfl (by decide) ⟨.int (lo + i), H, I1, ⟨t, ?_⟩, ⟨rfl, rfl⟩, st', fun b hb => (hf b hb).1⟩⟩
    rw [Int.mul_one]
  done := by
    intro X hP hw hK hc i pins s σ H E I hf st hg
    subst hP hw hK
    obtain ⟨f0, f1, f2, f3, f4, f5⟩ := hf it (by simp)
    exact wpAny_pyNext_range_end (I.ok.hd hc) st (by have : n ≤ i := hg; omega) fun h' eb => ⟨rfl, I.turned (t' := s.toks) (fun b o hb e => eb b o hb e) f0 f1 f3 f4 f5⟩
  self := fun _ _ _ _ _ st h => wpAny_pyIter_rangeiter st h
end L2
namespace L2
open PySem PySem.Spec PyProof.Rows
section
variable {X : Cx} {tg : Expr}
def iList (K : PySem.W.Frag) (tl : TE) : TI := fun σ H R => tl σ H fun x H1 => ∃ a, x = .ref a ∧ (∃ xs, SqL K H1 a xs) ∧ R (Itl K a) H1
def iTup (K : PySem.W.Frag) (tl : TE) : TI := fun σ H R => tl σ H fun x H1 => ∃ a, x = .ref a ∧ (∃ xs, SqT K H1 a xs) ∧ R (Itt K a) H1
theorem pi_list {l : Expr} {tl : TE} (hl : PE X l tl) : PI X tg l (iList X.K tl) := by
  intro pins s σ H R I h
  refine thn (hl pins s σ H _ I h) fun v s1 ⟨x, H1, I1, r1, q1⟩ => ?_
  obtain ⟨a, e, ⟨xs, hq⟩, q⟩ := q1
  subst e
  cases r1
  obtain ⟨its, rv, p, hz⟩ := I1.list hq
  refine wpAny_pyIter_list p.isList ?_
  refine ⟨s1.heap.objs.size, [s1.heap.objs.size], _, _, H1, rfl, I1.kept (t' := s1.toks) fun b o e => Heap.get?_push_of_some _ e, turn_list a _, ⟨_, Heap.get?_push_size _ rfl, rfl, rfl⟩, fun b hb => ?_, q⟩
  have e : b = s1.heap.objs.size := by simpa using hb
  subst e
  exact I1.fpOk (Nat.le_refl _) (I1.hok.fresh (Nat.le_refl _))
theorem pi_tup {l : Expr} {tl : TE} (hl : PE X l tl) : PI X tg l (iTup X.K tl) := by
  intro pins s σ H R I h
  refine thn (hl pins s σ H _ I h) fun v s1 ⟨x, H1, I1, r1, q1⟩ => ?_
  obtain ⟨a, e, ⟨xs, hq⟩, q⟩ := q1
  subst e
  cases r1
  obtain ⟨its, rv, p, hz⟩ := I1.tuple hq
  refine wpAny_pyIter_tuple (show s1.heap.IsTuple a its.toArray from p) ?_
  refine ⟨s1.heap.objs.size, [s1.heap.objs.size], _, _, H1, rfl, I1.kept (t' := s1.toks) fun b o e => Heap.get?_push_of_some _ e, turn_tuple a _, ⟨_, Heap.get?_push_size _ rfl, rfl, rfl⟩, fun b hb => ?_, q⟩
  have e : b = s1.heap.objs.size := by simpa using hb
  subst e
  exact I1.fpOk (Nat.le_refl _) (I1.hok.fresh (Nat.le_refl _))
theorem range_it {pins : List (Addr × Obj)} {σ : St} {H : Hp} {s : Shared} {R : It → Hp → Prop} {E : Value → Shared → Prop} {lo hi : Int} {t u v : Tok} {tk : Nat} (I : Inv X pins σ H s) (h1 : -(2 ^ 62) ≤ lo) (h2 : lo < 2 ^ 62) (h3 : -(2 ^ 62) ≤ hi) (h4 : hi < 2 ^ 62)
    (q : R (Itr lo (hi - lo).toNat) H) : wpAny (model X.prog X.w) X.A (pyIter (.ref s.heap.objs.size)) (PIE X pins σ tg R) E { s with heap := s.heap.push { cls := .type "range", data := .fields #[.int lo t, .int hi u, .int 1 v] }, toks := tk } := by
  refine wpAny_pyIter_range (IsRange.new ..) (small_one h1 h2 h3 h4) ?_
  have I1 : Inv X pins σ H { s with heap := s.heap.push { cls := .type "range", data := .fields #[.int lo t, .int hi u, .int 1 v] }, toks := tk } := I.kept fun b o e => Heap.get?_push_of_some _ e
  refine ⟨(s.heap.push { cls := .type "range", data := .fields #[.int lo t, .int hi u, .int 1 v] }).objs.size, [(s.heap.push { cls := .type "range", data := .fields #[.int lo t, .int hi u, .int 1 v] }).objs.size], _, _, H, rfl,
    I1.kept (t' := tk) fun b o e => Heap.get?_push_of_some _ e, turn_range _ lo (hi - lo).toNat, ?_, fun b hb => ?_, q⟩
  · have e1 : lo + ((0 : Nat) : Int) * 1 = lo := by simp
    have e2 : (((hi - lo).toNat : Nat) : Int) - ((0 : Nat) : Int) = Builtin.Range.rangeSize lo hi 1 := by rw [rangeSize_one]; split <;> omega
    show IsRangeIter _ _ (lo + ((0 : Nat) : Int) * 1) ((((hi - lo).toNat : Nat) : Int) - ((0 : Nat) : Int)) 1
    rw [e1, e2]
    exact Heap.get?_push_size _ rfl
  · have e : b = (s.heap.push { cls := .type "range", data := .fields #[.int lo t, .int hi u, .int 1 v] }).objs.size := by simpa using hb
    subst e
    exact I1.fpOk (Nat.le_refl _) (I1.hok.fresh (Nat.le_refl _))
def iRng1 (ta : TA) : TI := fun σ H R => ta σ H fun vs H1 => ∃ j : Int, vs = [.int j] ∧ -(2 ^ 62) ≤ j ∧ j < 2 ^ 62 ∧ R (Itr 0 j.toNat) H1
def iRng2 (ta : TA) : TI := fun σ H R => ta σ H fun vs H1 => ∃ i j : Int, vs = [.int i, .int j] ∧ (-(2 ^ 62) ≤ i ∧ i < 2 ^ 62 ∧ -(2 ^ 62) ≤ j ∧ j < 2 ^ 62) ∧ R (Itr i (j - i).toNat) H1
theorem pi_range1 {a : Expr} {ta : TA} {p pos : Pos} (hg : Gl X "range") (hm : X.mg "range" = none) (ha : PA X [a] ta) (hs : starEach [a] X.env = [(false, eval a X.env)] := by rfl) : PI X tg (.Call (.Name "range" p) [a] [] pos) (iRng1 ta) := by
  intro pins s σ H R I h
  refine Call_ (ld_blt I hg hm boot_range (PyProof.Rows.callWith_type1 (thn (ha pos pins s σ H _ I h) fun us s1 ⟨vs, H1, I1, r1, q1⟩ => ?_) hs rfl))
  obtain ⟨j, e, q1, q2, q⟩ := q1
  subst e
  cases r1 with
  | cons r rr =>
    cases rr
    obtain ⟨t, rfl⟩ := r
    exact call_range_1 (range_it I1 (by omega) (by omega) q1 q2 (by simpa using q))
theorem pi_range2 {a b : Expr} {ta : TA} {p pos : Pos} (hg : Gl X "range") (hm : X.mg "range" = none) (ha : PA X [a, b] ta) (hs : starEach [a, b] X.env = [(false, eval a X.env), (false, eval b X.env)] := by rfl) (hs2 : starEach [b] X.env = [(false, eval b X.env)] := by rfl) :
    PI X tg (.Call (.Name "range" p) [a, b] [] pos) (iRng2 ta) := by
  intro pins s σ H R I h
  refine Call_ (ld_blt I hg hm boot_range (PyProof.Rows.callWith_type1 (thn (ha pos pins s σ H _ I h) fun us s1 ⟨vs, H1, I1, r1, q1⟩ => ?_) (by rw [hs, hs2]) (by rw [hs2]; rfl)))
  obtain ⟨i, j, e, ⟨q1, q2, q3, q4⟩, q⟩ := q1
  subst e
  cases r1 with
  | cons r rr =>
    cases rr with
    | cons r' rr =>
      cases rr
      obtain ⟨t, rfl⟩ := r
      obtain ⟨t', rfl⟩ := r'
      exact call_range_2 (range_it I1 q1 q2 q3 q4 q)
def tFor (wi : TI) (g : TG) (tb : TS) : TS := fun D σ H => wi σ H fun J H1 => ∃ W : Nat → Nat → St → Hp → Prop, (∃ m, W 0 m σ H1) ∧ ∀ i m σ H, W i m σ H →
  (J.stop i H ∧ D.nx σ H) ∨ (J.go i H ∧ ∃ N : St → Hp → Prop, (∀ σ' H', N σ' H' → ∃ m', m' < m ∧ W (i + 1) m' σ' H') ∧ ∀ x H', J.yld i H x H' → g x σ H' fun σ2 H2 => tb { D with nx := N, ct := N, bk := D.nx } σ2 H2)
def pinsAt (fp : List Addr) (h : Heap) : List (Addr × Obj) := fp.filterMap fun b => (h.get? b).map fun o => (b, o)
theorem mem_pinsAt {fp : List Addr} {h : Heap} {b : Addr} {o : Obj} (hb : b ∈ fp) (e : h.get? b = some o) : (b, o) ∈ pinsAt fp h := List.mem_filterMap.mpr ⟨b, hb, by rw [e]; rfl⟩
theorem of_pinsAt {fp : List Addr} {h : Heap} {p : Addr × Obj} (hp : p ∈ pinsAt fp h) : p.1 ∈ fp ∧ h.get? p.1 = some p.2 := by
  obtain ⟨b, hb, e⟩ := List.mem_filterMap.mp hp
  cases q : h.get? b with
  | none => rw [q] at e; cases e
  | some o =>
    rw [q] at e
    have e' : (b, o) = p := Option.some.inj e
    subst e'
    exact ⟨hb, q⟩
theorem Inv.pinned {pins : List (Addr × Obj)} {σ : St} {H : Hp} {s : Shared} {fp : List Addr} (I : Inv X pins σ H s) (hf : ∀ b ∈ fp, FpOk X pins H b) (ho : ∀ b ∈ fp, ∃ o, s.heap.get? b = some o ∧ ∀ v, o.data ≠ .cell v) : Inv X (pins ++ pinsAt fp s.heap) σ H s :=
  I.pins_of fun p hp => (List.mem_append.mp hp).elim (fun z => I.pin p (List.mem_append_right _ z)) fun z => by
    obtain ⟨hb, e⟩ := of_pinsAt z
    obtain ⟨f0, f1, f2, _⟩ := hf p.1 hb
    obtain ⟨o, e', d⟩ := ho p.1 hb
    rw [e] at e'; cases e'
    exact ⟨e, f0, f1, f2, d⟩
theorem Inv.unpinned {pins pl : List (Addr × Obj)} {σ : St} {H : Hp} {s : Shared} (I : Inv X (pins ++ pl) σ H s) : Inv X pins σ H s := I.pins_of fun p hp => I.pin p (List.mem_append_right _ (List.mem_append_left _ hp))
theorem ps_for {iter : Expr} {body : List Stmt} {wi : TI} {g : TG} {tb : TS} {pos : Pos} (hp : PassesOwn (model X.prog X.w) X.A X.env X.xe) (hc : X.calm = true) (hi : PI X tg iter wi) (hg : PG X tg g) (hb : PSs X body tb)
    (hs : ∀ x, foldedSetIterable iter X.env x = pure x := by intro _; rfl) : PS X (.For tg iter body [] pos) (tFor wi g tb) := by
  intro pins s σ H D I h
  refine wpAny_For (thn (hi pins s σ H _ I h) fun v s1 h1 => thn h1 fun itv s2 h2 => ?_) hs
  obtain ⟨it, fp, tn, J, H2, e, I2, T, st2, f2, W, ⟨m0, w0⟩, turn⟩ := h2
  subst e
  -- what stays true of the iterator's objects through the loop
  have stat : ∀ {H' : Hp}, (∀ b ∈ fp, H' b = none) → ∀ b ∈ fp, FpOk X pins H' b := fun hn b hb => ⟨hn b hb, (f2 b hb).2⟩
  refine codeAny_forLoop_any (fun n s' => ∃ i σ' H', Inv X pins σ' H' s' ∧ tn i s'.heap ∧ (∀ b ∈ fp, H' b = none) ∧ W i n σ' H') ?_ m0 ⟨0, σ, H2, I2, st2, fun b hb => (f2 b hb).1, w0⟩
  rintro n s3 ⟨i, σ3, H3, I3, st3, fr3, w3⟩
  rcases turn i n σ3 H3 w3 with ⟨stop, qn⟩ | ⟨go, N, hN, step⟩
  · refine wpAny_passesOwn hp (thn (T.done X rfl rfl rfl hc i pins s3 σ3 H3 X.xe I3 (stat fr3) st3 stop) fun r s4 ⟨hr, I4⟩ => ?_)
    subst hr
    exact wpAny_execs_nil ⟨σ3, H3, I4, qn⟩
  · refine wpAny_passesOwn hp (thn (T.item X rfl rfl rfl hc i pins s3 σ3 H3 X.xe I3 (stat fr3) st3 go) fun r s4 ⟨u, hr, h4⟩ => ?_)
    subst hr
    refine wpAny_passesOwn hp (thn h4 fun _ s5 ⟨x, H5, I5, r5, y5, st5, fr5⟩ => ?_)
    have I5' := I5.pinned (stat fr5) (T.obj _ _ st5)
    refine wpAny_passesOwn hp (thn (hg _ s5 σ3 H5 x u _ I5' r5 (step x H5 y5)) fun _ s6 ⟨σ6, H6, I6, q6⟩ => ?_)
    refine wpAny_passesOwn hp (thn (hb _ s6 σ6 H6 _ I6 q6) fun f s7 q7 => ?_)
    have again : ∀ {σ7 : St} {H7 : Hp}, Inv X (pins ++ pinsAt fp s5.heap) σ7 H7 s7 → N σ7 H7 → ∃ m, m < n ∧ ∃ i σ' H', Inv X pins σ' H' s7 ∧ tn i s7.heap ∧ (∀ b ∈ fp, H' b = none) ∧ W i m σ' H' := fun {σ7 H7} I7 n7 => by
      obtain ⟨m', hm, w7⟩ := hN σ7 H7 n7
      refine ⟨m', hm, i + 1, σ7, H7, I7.unpinned, T.keep _ _ _ st5 fun b hb o e => (I7.pin (b, o) (List.mem_append_right _ (List.mem_append_right _ (mem_pinsAt hb e)))).1, fun b hb => ?_, w7⟩
      obtain ⟨o, e, d⟩ := T.obj _ _ st5 b hb
      exact (I7.pin (b, o) (List.mem_append_right _ (List.mem_append_right _ (mem_pinsAt hb e)))).2.1
    cases f with
    | next => obtain ⟨σ7, H7, I7, n7⟩ := q7; exact again I7 n7
    | cont => obtain ⟨σ7, H7, I7, n7⟩ := q7; exact again I7 n7
    | brk => obtain ⟨σ7, H7, I7, q7⟩ := q7; exact ⟨σ7, H7, I7.unpinned, q7⟩
    | ret v => obtain ⟨x7, σ7, H7, I7, r7, q7⟩ := q7; exact ⟨x7, σ7, H7, I7.unpinned, r7, q7⟩
end
end L2
namespace L2
open PySem PySem.Spec PyProof.Rows
abbrev R2 := V → V → Hp → VK → Prop
def OpR (X : Cx) (f : Value → Value → Sem Value) (r : R2) : Prop :=
  ∀ (pins : List (Addr × Obj)) (s : Shared) (σ : St) (H : Hp) (x y : V) (v u : Value) (Q : VK), Inv X pins σ H s → RelV x v → RelV y u → r x y H Q →
    wpAny (model X.prog X.w) X.A (f v u) (EP X pins σ Q) X.xe s
def UnR (X : Cx) (f : Value → Sem Value) (r : V → Hp → VK → Prop) : Prop :=
  ∀ (pins : List (Addr × Obj)) (s : Shared) (σ : St) (H : Hp) (x : V) (v : Value) (Q : VK), Inv X pins σ H s → RelV x v → r x H Q →
    wpAny (model X.prog X.w) X.A (f v) (EP X pins σ Q) X.xe s
def CallR (X : Cx) (f : Value) (r : List V → Hp → VK → Prop) : Prop :=
  ∀ (pins : List (Addr × Obj)) (s : Shared) (σ : St) (H : Hp) (xs : List V) (us : List Value) (Q : VK), Inv X pins σ H s → Vals xs us → r xs H Q →
    wpAny (model X.prog X.w) X.A (call f us) (EP X pins σ Q) X.xe s
def TruR (X : Cx) (r : V → Hp → (Bool → Hp → Prop) → Prop) : Prop :=
  ∀ (pins : List (Addr × Obj)) (s : Shared) (σ : St) (H : Hp) (x : V) (v : Value) (Q : Bool → Hp → Prop), Inv X pins σ H s → RelV x v → r x H Q →
    wpAny (model X.prog X.w) X.A (truthy v) (TP X pins σ Q) X.xe s
def tOp (r : R2) (ta tb : TE) : TE := fun σ H Q => ta σ H fun x H1 => tb σ H1 fun y H2 => r x y H2 Q
def tUn (r : V → Hp → VK → Prop) (ta : TE) : TE := fun σ H Q => ta σ H fun x H1 => r x H1 Q
def rI (C : Int → Int → Prop) (g : Int → Int → V) : R2 := fun x y H Q => ∃ i j, x = .int i ∧ y = .int j ∧ C i j ∧ Q (g i j) H
def rI0 (g : Int → Int → V) : R2 := fun x y H Q => ∃ i j, x = .int i ∧ y = .int j ∧ Q (g i j) H
def rU (g : Int → V) : V → Hp → VK → Prop := fun x H Q => ∃ i, x = .int i ∧ Q (g i) H
section
variable {X : Cx} {a b c : Expr} {ta tb tc : TE} {pos : Pos}
theorem binT (ha : PE X a ta) (hb : PE X b tb) {pins : List (Addr × Obj)} {s : Shared} {σ : St} {H : Hp} {R : V → V → Hp → Prop} (I : Inv X pins σ H s)
    (h : ta σ H fun x H1 => tb σ H1 fun y H2 => R x y H2) {Q : Value → Shared → Prop} {f : Value → Value → Sem Value}
    (hf : ∀ v u s2 x y H2, Inv X pins σ H2 s2 → RelV x v → RelV y u → R x y H2 → wpAny (model X.prog X.w) X.A (f v u) Q X.xe s2) :
    wpAny (model X.prog X.w) X.A (eval a X.env) (fun v s₁ => wpAny (model X.prog X.w) X.A (eval b X.env) (fun u s₂ => wpAny (model X.prog X.w) X.A (f v u) Q X.xe s₂) X.xe s₁) X.xe s := by
  refine thn (ha pins s σ H _ I h) fun v s1 ⟨x, H1, I1, r1, q1⟩ => ?_
  refine thn (hb pins s1 σ H1 _ I1 q1) fun u s2 ⟨y, H2, I2, r2, q2⟩ => ?_
  exact hf v u s2 x y H2 I2 r1 r2 q2
theorem pe_op {op : Operator} {r : R2} (ho : OpR X (binaryOp op) r) (ha : PE X a ta) (hb : PE X b tb) : PE X (.BinOp a op b pos) (tOp r ta tb) := by
  intro pins s σ H Q I h
  exact wpAny_BinOp (binT ha hb I h fun v u s2 x y H2 I2 rx ry q => ho pins s2 σ H2 x y v u Q I2 rx ry q)
theorem pe_un {op : UnaryOp} {r : V → Hp → VK → Prop} (ho : UnR X (unaryOp op) r) (ha : PE X a ta) : PE X (.UnaryOp op a pos) (tUn r ta) := by
  intro pins s σ H Q I h
  exact UnaryOp_ (thn (ha pins s σ H _ I h) fun v s1 ⟨x, H1, I1, r1, q1⟩ => ho pins s1 σ H1 x v Q I1 r1 q1)
theorem opI {f : Value → Value → Sem Value} {C : Int → Int → Prop} {g : Int → Int → Int}
    (rule : ∀ (i j : Int) (t u : Tok) (s : Shared) (Q : Value → Shared → Prop) (E : Value → Shared → Prop), C i j → Q (.int (g i j) s.toks) { s with toks := s.toks + 1 } → wpAny (model X.prog X.w) X.A (f (.int i t) (.int j u)) Q E s) :
    OpR X f (rI C fun i j => .int (g i j)) := by
  intro pins s σ H x y v u Q I rx ry h
  obtain ⟨i, j, rfl, rfl, hc, q⟩ := h
  obtain ⟨t, rfl⟩ := rx
  obtain ⟨t', rfl⟩ := ry
  exact rule i j t t' s _ _ hc ⟨.int (g i j), H, I.tok _, ⟨_, rfl⟩, q⟩
theorem opI0 {f : Value → Value → Sem Value} {g : Int → Int → Int}
    (rule : ∀ (i j : Int) (t u : Tok) (s : Shared) (Q : Value → Shared → Prop) (E : Value → Shared → Prop), Q (.int (g i j) s.toks) { s with toks := s.toks + 1 } → wpAny (model X.prog X.w) X.A (f (.int i t) (.int j u)) Q E s) :
    OpR X f (rI0 fun i j => .int (g i j)) := by
  intro pins s σ H x y v u Q I rx ry h
  obtain ⟨i, j, rfl, rfl, q⟩ := h
  obtain ⟨t, rfl⟩ := rx
  obtain ⟨t', rfl⟩ := ry
  exact rule i j t t' s _ _ ⟨.int (g i j), H, I.tok _, ⟨_, rfl⟩, q⟩
theorem opB0 {f : Value → Value → Sem Value} {g : Int → Int → Bool}
    (rule : ∀ (i j : Int) (t u : Tok) (s : Shared) (Q : Value → Shared → Prop) (E : Value → Shared → Prop), Q (.bool (g i j)) s → wpAny (model X.prog X.w) X.A (f (.int i t) (.int j u)) Q E s) :
    OpR X f (rI0 fun i j => .bl (g i j)) := by
  intro pins s σ H x y v u Q I rx ry h
  obtain ⟨i, j, rfl, rfl, q⟩ := h
  obtain ⟨t, rfl⟩ := rx
  obtain ⟨t', rfl⟩ := ry
  exact rule i j t t' s _ _ ⟨.bl (g i j), H, I, rfl, q⟩
def CDiv (i j : Int) : Prop := 0 < j ∧ j < 1073741824
def CDivN (i j : Int) : Prop := j ≠ 0 ∧ j.natAbs < 1073741824
def CPow (i j : Int) : Prop := 0 ≤ j ∧ j ≤ 1000000 ∧ i.natAbs < 2 ^ 64
def CMul (i j : Int) : Prop := (-(2 ^ 64) < i ∧ i < 2 ^ 64) ∨ (-(2 ^ 64) < j ∧ j < 2 ^ 64)
theorem CMul.ok {i j : Int} (h : CMul i j) : IntMulOk i j := by
  rcases h with ⟨h1, h2⟩ | ⟨h1, h2⟩
  · exact .of_left (intBits_le_64 h1 h2)
  · exact .of_right (intBits_le_64 h1 h2)
theorem op_add : OpR X (binaryOp .Add) (rI0 fun i j => .int (i + j)) := opI0 fun _ _ _ _ _ _ _ q => add_int q
theorem op_sub : OpR X (binaryOp .Sub) (rI0 fun i j => .int (i - j)) := opI0 fun _ _ _ _ _ _ _ q => sub_int q
theorem op_modN : OpR X (binaryOp .Mod) (rI (fun _ j => j ≠ 0) fun i j => .int (i.fmod j)) := opI fun _ _ _ _ _ _ _ hc q => mod_int' hc q
theorem op_pow : OpR X (binaryOp .Pow) (rI CPow fun i j => .int (i ^ j.toNat)) := opI fun _ _ _ _ _ _ _ hc q => pow_int_small hc.1 hc.2.1 hc.2.2 q
theorem unI {f : Value → Sem Value} {g : Int → Int}
    (rule : ∀ (i : Int) (t : Tok) (s : Shared) (Q : Value → Shared → Prop) (E : Value → Shared → Prop), Q (.int (g i) s.toks) { s with toks := s.toks + 1 } → wpAny (model X.prog X.w) X.A (f (.int i t)) Q E s) :
    UnR X f (rU fun i => .int (g i)) := by
  intro pins s σ H x v Q I rx h
  obtain ⟨i, rfl, q⟩ := h
  obtain ⟨t, rfl⟩ := rx
  exact rule i t s _ _ ⟨.int (g i), H, I.tok _, ⟨_, rfl⟩, q⟩
theorem un_neg : UnR X (unaryOp .USub) (rU fun i => .int (-i)) := unI fun _ _ _ _ _ q => neg_int q
end
def scal : V → V → Bool
  | .non, .non => true | .non, .int _ => true | .int _, .non => true | .non, .bl _ => true | .bl _, .non => true | .non, .str _ => true | .str _, .non => true
  | .int _, .int _ => true | .bl _, .bl _ => true | .str _, .str _ => true | .byt _, .byt _ => true
  | .int _, .str _ => true | .str _, .int _ => true | .bl _, .str _ => true | .str _, .bl _ => true
  | _, _ => false
def rEq : R2 := fun x y H Q => scal x y = true ∧ Q (.bl (decide (x = y))) H
def rNe : R2 := fun x y H Q => scal x y = true ∧ Q (.bl (!decide (x = y))) H
theorem dec_int {i j : Int} : decide (V.int i = V.int j) = (i == j) := by
  rw [Bool.eq_iff_iff]
  simp
theorem dec_bl {i j : Bool} : decide (V.bl i = V.bl j) = (i == j) := by
  rw [Bool.eq_iff_iff]
  simp
theorem dec_str {i j : Str} : decide (V.str i = V.str j) = (i == j) := by
  rw [Bool.eq_iff_iff]
  simp
theorem dec_byt {i j : Array UInt8} : decide (V.byt i = V.byt j) = (i.toList == j.toList) := by
  rw [Bool.eq_iff_iff]
  cases i
  cases j
  simp
section
variable {X : Cx} {a b c : Expr} {ta tb tc : TE} {pos : Pos}
theorem fin_bl {pins : List (Addr × Obj)} {σ : St} {H : Hp} {s : Shared} {Q : VK} {k k' : Bool} (I : Inv X pins σ H s) (q : Q (.bl k) H) (e : k = k') : EP X pins σ Q (.bool k') s := by
  subst e
  exact ⟨.bl k, H, I, rfl, q⟩
theorem op_eq : OpR X (compareOp .Eq) rEq := by
  intro pins s σ H x y v u Q I rx ry h
  obtain ⟨hs, q⟩ := h
  cases x with
  | non =>
    cases rx
    cases y with
    | non => cases ry; exact PySem.EqNone.eq_none_none (fin_bl I q (by simp))
    | bl j => cases ry; exact PySem.EqNone.eq_none_bool (fin_bl I q (by simp))
    | int j => obtain ⟨t', rfl⟩ := ry; exact PySem.EqNone.eq_none_int (fin_bl I q (by simp))
    | str j => obtain ⟨t', rfl⟩ := ry; exact PySem.EqNone.eq_none_str (fin_bl I q (by simp))
    | _ => exact absurd (show false = true from hs) Bool.false_ne_true
  | bl i =>
    cases rx
    cases y with
    | non => cases ry; exact PySem.EqNone.eq_bool_none (fin_bl I q (by simp))
    | bl j => cases ry; exact eq_bool (fin_bl I q dec_bl)
    | str j => obtain ⟨t', rfl⟩ := ry; exact PySem.EqMixed.eq_bool_str (fin_bl I q (by simp))
    | _ => exact absurd (show false = true from hs) Bool.false_ne_true
  | int i =>
    obtain ⟨t, rfl⟩ := rx
    cases y with
    | non => cases ry; exact PySem.EqNone.eq_int_none (fin_bl I q (by simp))
    | int j => obtain ⟨t', rfl⟩ := ry; exact eq_int (fin_bl I q dec_int)
    | str j => obtain ⟨t', rfl⟩ := ry; exact PySem.EqMixed.eq_int_str (fin_bl I q (by simp))
    | _ => exact absurd (show false = true from hs) Bool.false_ne_true
  | str i =>
    obtain ⟨t, rfl⟩ := rx
    cases y with
    | non => cases ry; exact PySem.EqNone.eq_str_none (fin_bl I q (by simp))
    | bl j => cases ry; exact PySem.EqMixed.eq_str_bool (fin_bl I q (by simp))
    | int j => obtain ⟨t', rfl⟩ := ry; exact PySem.EqMixed.eq_str_int (fin_bl I q (by simp))
    | str j => obtain ⟨t', rfl⟩ := ry; exact eq_str (fin_bl I q dec_str)
    | _ => exact absurd (show false = true from hs) Bool.false_ne_true
  | byt i =>
    obtain ⟨t, rfl⟩ := rx
    cases y with
    | byt j => obtain ⟨t', rfl⟩ := ry; exact PySem.W.eq_bytes (fin_bl I q dec_byt)
    | _ => exact absurd (show false = true from hs) Bool.false_ne_true
  | _ => cases y <;> exact absurd (show false = true from hs) Bool.false_ne_true
theorem op_ne : OpR X (compareOp .NotEq) rNe := by
  intro pins s σ H x y v u Q I rx ry h
  obtain ⟨hs, q⟩ := h
  cases x with
  | non =>
    cases rx
    cases y with
    | non => cases ry; exact PySem.EqNone.ne_none_none (fin_bl I q (by simp))
    | bl j => cases ry; exact PySem.EqNone.ne_none_bool (fin_bl I q (by simp))
    | int j => obtain ⟨t', rfl⟩ := ry; exact PySem.EqNone.ne_none_int (fin_bl I q (by simp))
    | str j => obtain ⟨t', rfl⟩ := ry; exact PySem.EqNone.ne_none_str (fin_bl I q (by simp))
    | _ => exact absurd (show false = true from hs) Bool.false_ne_true
  | bl i =>
    cases rx
    cases y with
    | non => cases ry; exact PySem.EqNone.ne_bool_none (fin_bl I q (by simp))
    | bl j => cases ry; exact ne_bool (fin_bl I q (congrArg not dec_bl))
    | str j => obtain ⟨t', rfl⟩ := ry; exact PySem.EqMixed.ne_bool_str (fin_bl I q (by simp))
    | _ => exact absurd (show false = true from hs) Bool.false_ne_true
  | int i =>
    obtain ⟨t, rfl⟩ := rx
    cases y with
    | non => cases ry; exact PySem.EqNone.ne_int_none (fin_bl I q (by simp))
    | int j => obtain ⟨t', rfl⟩ := ry; exact ne_int (fin_bl I q (congrArg not dec_int))
    | str j => obtain ⟨t', rfl⟩ := ry; exact PySem.EqMixed.ne_int_str (fin_bl I q (by simp))
    | _ => exact absurd (show false = true from hs) Bool.false_ne_true
  | str i =>
    obtain ⟨t, rfl⟩ := rx
    cases y with
    | non => cases ry; exact PySem.EqNone.ne_str_none (fin_bl I q (by simp))
    | bl j => cases ry; exact PySem.EqMixed.ne_str_bool (fin_bl I q (by simp))
    | int j => obtain ⟨t', rfl⟩ := ry; exact PySem.EqMixed.ne_str_int (fin_bl I q (by simp))
    | str j => obtain ⟨t', rfl⟩ := ry; exact ne_str (fin_bl I q (congrArg not dec_str))
    | _ => exact absurd (show false = true from hs) Bool.false_ne_true
  | byt i =>
    obtain ⟨t, rfl⟩ := rx
    cases y with
    | byt j => obtain ⟨t', rfl⟩ := ry; exact PySem.W.ne_bytes (fin_bl I q (congrArg not dec_byt))
    | _ => exact absurd (show false = true from hs) Bool.false_ne_true
  | _ => cases y <;> exact absurd (show false = true from hs) Bool.false_ne_true
theorem op_lt : OpR X (compareOp .Lt) (rI0 fun i j => .bl (decide (i < j))) := opB0 fun _ _ _ _ _ _ _ q => lt_int q
theorem op_gt : OpR X (compareOp .Gt) (rI0 fun i j => .bl (decide (j < i))) := opB0 fun _ _ _ _ _ _ _ q => gt_int q
theorem op_isN : OpR X (compareOp .Is) (fun x y H Q => y = .non ∧ Q (.bl (decide (x = .non))) H) := by
  intro pins s σ H x y v u Q I rx ry h
  obtain ⟨rfl, q⟩ := h
  cases ry
  refine is_none_gen (fin_bl I q ?_)
  cases x <;> first
    | (cases rx; rfl)
    | (obtain ⟨t, rfl⟩ := rx; rfl)
theorem op_notN : OpR X (compareOp .IsNot) (fun x y H Q => y = .non ∧ Q (.bl (!decide (x = .non))) H) := by
  intro pins s σ H x y v u Q I rx ry h
  obtain ⟨rfl, q⟩ := h
  cases ry
  refine isnot_none_gen (fin_bl I q ?_)
  cases x <;> first
    | (cases rx; rfl)
    | (obtain ⟨t, rfl⟩ := rx; rfl)
def isObj : HO → Bool
  | .lst _ => true
  | .ins _ _ _ => true
  | _ => false
theorem OpR.or {f : Value → Value → Sem Value} {r r' : R2} (h : OpR X f r) (h' : OpR X f r') : OpR X f (fun x y H Q => r x y H Q ∨ r' x y H Q) := by
  intro pins s σ H x y v u Q I rx ry q
  rcases q with q | q
  · exact h pins s σ H x y v u Q I rx ry q
  · exact h' pins s σ H x y v u Q I rx ry q
theorem nomark (b : Expr) {op : CmpOp} (h : op ≠ .In := by decide) (h2 : op ≠ .NotIn := by decide) : behindInMarks op b = false := by
  have e1 : (op == CmpOp.In) = false := by cases op <;> first | rfl | exact absurd rfl h
  have e2 : (op == CmpOp.NotIn) = false := by cases op <;> first | rfl | exact absurd rfl h2
  cases b <;> simp [behindInMarks, e1, e2]
theorem pe_cmpR {op : CmpOp} {r : R2} (ho : OpR X (compareOp op) r) (ha : PE X a ta) (hb : PE X b tb) (hm : behindInMarks op b = false) : PE X (.Compare a [op] [b] pos) (tOp r ta tb) := by
  intro pins s σ H Q I h
  exact wpAny_Compare1 (binT ha hb I h fun v u s2 x y H2 I2 rx ry q => ho pins s2 σ H2 x y v u Q I2 rx ry q) hm
def tTest (t : TE) : TT := fun σ H Q => t σ H fun x H' => ∃ k, x = .bl k ∧ Q k H'
theorem pt_cmpR {op : CmpOp} {r : R2} (ho : OpR X (compareOp op) r) (ha : PE X a ta) (hb : PE X b tb) (hm : behindInMarks op b = false) : PT X (.Compare a [op] [b] pos) (tTest (tOp r ta tb)) := by
  intro pins s σ H Q I h
  refine wpAny_isTrue_Compare1 (thn (ha pins s σ H _ I h) fun v s1 ⟨x, H1, I1, r1, q1⟩ => thn (hb pins s1 σ H1 _ I1 q1) fun u s2 ⟨y, H2, I2, r2, q2⟩ =>
    thn (ho pins s2 σ H2 x y v u _ I2 r1 r2 q2) fun c s3 ⟨z, H3, I3, r3, k, e, q3⟩ => ?_) hm
  subst e
  cases r3
  exact wpAny_truthy_bool ⟨H3, I3, q3⟩
def tChain (r r' : R2) (ta tb tc : TE) : TE := fun σ H Q => ta σ H fun x H1 => tb σ H1 fun y H2 => r x y H2 fun z H3 => ∃ k, z = .bl k ∧
  (if k = true then tc σ H3 fun w' H4 => r' y w' H4 Q else Q (.bl false) H3)
def TruV (K : PySem.W.Frag) (x : V) (H : Hp) (k : Bool) : Prop :=
  match x with
  | .non => k = false
  | .bl b => k = b
  | .int i => k = (i != 0)
  | .str y => y.length ≤ sizeLine ∧ k = ((y.length : Int) != 0)
  | .byt y => y.size ≤ sizeLine ∧ k = ((y.size : Int) != 0)
  | .ref p => (∃ xs, SqL K H p xs ∧ k = !xs.isEmpty) ∨ (∃ xs, SqT K H p xs ∧ k = !xs.isEmpty) ∨ ∃ kvs, H p = some (.dK kvs) ∧ k = !kvs.isEmpty
  | _ => False
theorem line63 : (sizeLine : Nat) < 2 ^ 63 := by rw [sizeLine_eq]; decide
theorem op_add_str : OpR X (binaryOp .Add) (fun x y H Q => ∃ i j, x = .str i ∧ y = .str j ∧ i.length + j.length ≤ sizeLine ∧ Q (.str (i ++ j)) H) := by
  intro pins s σ H x y v u Q I rx ry h
  obtain ⟨i, j, rfl, rfl, hz, q⟩ := h
  obtain ⟨t, rfl⟩ := rx
  obtain ⟨t', rfl⟩ := ry
  exact add_str (fun t' tk => ⟨.str (i ++ j), H, I.tok _, ⟨_, rfl⟩, q⟩) hz
def PlainIxT (b : Expr) : Prop := ∀ o i, subscripted b false o i = operate [o, i] (getItem o i)
theorem vals1 {x : V} {us : List Value} (r : Vals [x] us) : ∃ u, us = [u] ∧ RelV x u := by
  cases r with
  | cons r1 r2 => cases r2; exact ⟨_, rfl, r1⟩
theorem vals2 {x y : V} {us : List Value} (r : Vals [x, y] us) : ∃ u w', us = [u, w'] ∧ RelV x u ∧ RelV y w' := by
  cases r with
  | cons r1 r2 =>
    cases r2 with
    | cons r3 r4 => cases r4; exact ⟨_, _, rfl, r1, r3⟩
theorem call_abs : CallR X (.builtin "abs") (fun xs H Q => ∃ i, xs = [.int i] ∧ Q (.int (if i < 0 then -i else i)) H) := by
  intro pins s σ H xs us Q I r h
  obtain ⟨i, rfl, q⟩ := h
  obtain ⟨u, rfl, t, rfl⟩ := vals1 r
  exact call_abs_int fun u tk => ⟨.int (if i < 0 then -i else i), H, I.tok _, ⟨_, rfl⟩, q⟩
theorem call_max2 (hc : X.calm = true) : CallR X (.builtin "max") (fun xs H Q => ∃ i j, xs = [.int i, .int j] ∧ Q (.int (if j > i then j else i)) H) := by
  intro pins s σ H xs us Q I r h
  obtain ⟨i, j, rfl, q⟩ := h
  obtain ⟨u, w', rfl, ⟨t, rfl⟩, ⟨t', rfl⟩⟩ := vals2 r
  refine max_two_ints (I.ok.hd hc) fun h' tk k => ⟨_, H, I.kept k, ?_, q⟩
  by_cases hj : j > i
  · rw [if_pos hj, if_pos hj]; exact ⟨_, rfl⟩
  · rw [if_neg hj, if_neg hj]; exact ⟨_, rfl⟩
theorem call_min2 (hc : X.calm = true) : CallR X (.builtin "min") (fun xs H Q => ∃ i j, xs = [.int i, .int j] ∧ Q (.int (if j < i then j else i)) H) := by
  intro pins s σ H xs us Q I r h
  obtain ⟨i, j, rfl, q⟩ := h
  obtain ⟨u, w', rfl, ⟨t, rfl⟩, ⟨t', rfl⟩⟩ := vals2 r
  refine min_two_ints (I.ok.hd hc) fun h' tk k => ⟨_, H, I.kept k, ?_, q⟩
  by_cases hj : j < i
  · rw [if_pos hj, if_pos hj]; exact ⟨_, rfl⟩
  · rw [if_neg hj, if_neg hj]; exact ⟨_, rfl⟩
theorem call_int1 : CallR X (.type "int") (fun xs H Q => (∃ i, xs = [.int i] ∧ Q (.int i) H) ∨ ∃ k, xs = [.bl k] ∧ Q (.int (if k then 1 else 0)) H) := by
  intro pins s σ H xs us Q I r h
  rcases h with ⟨i, rfl, q⟩ | ⟨k, rfl, q⟩
  · obtain ⟨u, rfl, t, rfl⟩ := vals1 r
    exact call_int_int ⟨.int i, H, I, ⟨_, rfl⟩, q⟩
  · obtain ⟨u, rfl, r1⟩ := vals1 r
    cases r1
    exact call_int_bool ⟨.int (if k then 1 else 0), H, I.tok _, ⟨_, rfl⟩, q⟩
def LenV (K : PySem.W.Frag) (x : V) (H : Hp) (n : Nat) : Prop :=
  match x with
  | .str y => y.length ≤ sizeLine ∧ n = y.length
  | .byt y => y.size ≤ sizeLine ∧ n = y.size
  | .ref p => (∃ xs, SqL K H p xs ∧ n = xs.length) ∨ ∃ xs, SqT K H p xs ∧ n = xs.length
  | _ => False
end
end L2
namespace L2
open PySem PySem.Spec PyProof.Rows
structure ObjM (h : Heap) (x dx C : Addr) (mA : Str → Option Value) : Prop where
  obj : h.get? x = some (PySem.W.instObj C dx)
  ns : h.Ns1 dx mA
  ne : dx ≠ x
theorem lookIn_ns {h : Heap} {dx : Addr} {mA : Str → Option Value} (n : h.Ns1 dx mA) : ∃ od, h.get? dx = some od ∧ ∀ name, PySem.W.lookIn name od = some (mA name) := by
  obtain ⟨o, es, ep, ho, hd, hk, _, hm⟩ := n
  refine ⟨o, ho, fun name => ?_⟩
  have e := hm name
  unfold nsFind findBy at e
  rw [← Array.find?_toList] at e
  unfold PySem.W.lookIn
  rw [hd]
  dsimp only
  split
  · rename_i y q
    rw [q] at e
    exact congrArg some e
  · rename_i q
    rw [q] at e
    have a : es.toList.any (·.refKey) = false := by
      rw [List.any_eq_false]
      intro y hy
      obtain ⟨z, t, hkey⟩ := hk y (Array.mem_toList_iff.mp hy)
      simp [DictEntry.refKey, hkey]
    have a' : ¬ es.toList.any (·.refKey) = true := by rw [a]; exact Bool.false_ne_true
    rw [if_neg a']
    exact congrArg some e
theorem ObjM.look {h : Heap} {x dx C : Addr} {mA : Str → Option Value} (I : ObjM h x dx C mA) : ∃ od, PySem.W.InstAt h x (PySem.W.instObj C dx) C (some od) ∧ ∀ name, PySem.W.lookIn name od = some (mA name) :=
  let ⟨od, ho, hl⟩ := lookIn_ns I.ns
  ⟨od, ⟨I.obj, rfl, rfl, ho⟩, hl⟩
section
variable {prog : Program} {w : World} {A : Around} {E : Value → Shared → Prop} {s : Shared} {K : PySem.W.Frag} {x dx C f : Addr} {mA : Str → Option Value} {name : Str} {v : Value}
end
def putF (f : Str) (v : V) : List (Str × V) → List (Str × V)
  | [] => [(f, v)]
  | (g, x) :: r => if g = f then (g, v) :: r else (g, x) :: putF f v r
theorem RelO.some_of {v : V} {o : Option Value} (r : RelO (some v) o) : ∃ u, o = some u ∧ RelV v u := by
  cases o with
  | none => exact (show False from r).elim
  | some u => exact ⟨u, rfl, r⟩
theorem RelO.none_of {o : Option Value} (r : RelO none o) : o = none := by
  cases o with
  | none => rfl
  | some u => exact (show False from r).elim
section
variable {P : Program} {w : World} {H H' : Hp} {h h' : Heap} {a C dx : Addr} {fs fs' : List (Str × V)}
end
structure Cls (K : PySem.W.Frag) (C : Addr) : Prop where
  pg : PySem.W.plainGet K C Str.empty = true
  hd : PySem.W.hasDictIn K C = true
  po : PySem.W.plainOver K C = true
  sa : PySem.W.findIn K (.ref C) "__setattr__" = some (some (.builtin "object.__setattr__"))
theorem Cls.get {K : PySem.W.Frag} {C : Addr} (c : Cls K C) (f : Str) : PySem.W.plainGet K C f = true := c.pg
def NoAttr (K : PySem.W.Frag) (C : Addr) (f : Str) : Prop := PySem.W.findIn K (.ref C) f = some none
structure Con (K : PySem.W.Frag) (C : Addr) (f : Str) (v : V) (u : Value) : Prop where
  at_ : PySem.W.findIn K (.ref C) f = some (some u)
  rel : RelV v u
  get : PySem.W.specialIn K u "__get__" = some none
  cp : PySem.W.copiedNames.contains f = false
structure Meth (K : PySem.W.Frag) (C : Addr) (m : Str) (f : Addr) : Prop where
  at_ : PySem.W.findIn K (.ref C) m = some (some (.ref f))
  fn : PySem.W.isFn K (.ref f) = true
  kp : PySem.W.keepIn K (.ref f) = true
section
variable {X : Cx} {pins : List (Addr × Obj)} {σ : St} {H : Hp} {s : Shared} {a C dx : Addr} {fs : List (Str × V)} {f : Str} {v : V} {A : Around} {E : Value → Shared → Prop}
end
def tFld (K : PySem.W.Frag) (ta : TE) (f : Str) : TE := fun σ H Q => ta σ H fun x H1 => ∃ a C dx fs v, x = .ref a ∧ H1 a = some (.ins C dx fs) ∧ Cls K C ∧ NoAttr K C f ∧ fs.lookup f = some v ∧ Q v H1
def tCon (K : PySem.W.Frag) (ta : TE) (f : Str) : TE := fun σ H Q => ta σ H fun x H1 => ∃ a C dx fs v u, x = .ref a ∧ H1 a = some (.ins C dx fs) ∧ Cls K C ∧ Con K C f v u ∧ fs.lookup f = none ∧ Q v H1
def sFld (K : PySem.W.Frag) (ta tv : TE) (f : Str) : TS := fun D σ H => tv σ H fun y H1 => ta σ H1 fun x H2 => ∃ a C dx fs, x = .ref a ∧ H2 a = some (.ins C dx fs) ∧ Cls K C ∧ NoAttr K C f ∧ fs.length < 1000 ∧
  D.nx σ (upd H2 a (.ins C dx (putF f y fs)))
def InOp (X : Cx) (op : Operator) (rd : V → V → Hp → VK → Prop) : Prop :=
  ∀ (pins : List (Addr × Obj)) (s : Shared) (σ : St) (H : Hp) (x y : V) (u v : Value) (Q : VK), Inv X pins σ H s → RelV x u → RelV y v → rd x y H Q → wpAny (model X.prog X.w) X.A (inplaceOp op u v) (EP X pins σ Q) X.xe s
def sFldAug (K : PySem.W.Frag) (ta tv : TE) (rd : V → V → Hp → VK → Prop) (f : Str) : TS := fun D σ H => ta σ H fun x H1 => ∃ a C dx fs v, x = .ref a ∧ H1 a = some (.ins C dx fs) ∧ Cls K C ∧ NoAttr K C f ∧ fs.lookup f = some v ∧
  tv σ H1 fun y H2 => rd v y H2 fun z H3 => ∃ dx' fs', H3 a = some (.ins C dx' fs') ∧ fs'.length < 1000 ∧ D.nx σ (upd H3 a (.ins C dx' (putF f z fs')))
section
variable {X : Cx} {o e value : Expr} {f : Str} {pos pos' tpos : Pos} {ta tv : TE}
def rAdd : V → V → Hp → VK → Prop := fun x y H Q => ∃ i j, x = .int i ∧ y = .int j ∧ Q (.int (i + j)) H
def rSub : V → V → Hp → VK → Prop := fun x y H Q => ∃ i j, x = .int i ∧ y = .int j ∧ Q (.int (i - j)) H
end
section
variable {X : Cx} {pins : List (Addr × Obj)} {σ : St} {H : Hp} {s : Shared} {A : Around} {E : Value → Shared → Prop} {Q : Value → Shared → Prop} {c : Value} {b : Bool}
inductive TyOf (K : PySem.W.Frag) (H : Hp) : V → Value → Prop where
  | non : TyOf K H .non (.type "NoneType")
  | bl (x : Bool) : TyOf K H (.bl x) (.type "bool")
  | int (i : Int) : TyOf K H (.int i) (.type "int")
  | str (x : Str) : TyOf K H (.str x) (.type "str")
  | flt (x : UInt64) : TyOf K H (.flt x) (.type "float")
  | lst {a : Addr} {xs : List V} (e : H a = some (.lst xs)) : TyOf K H (.ref a) (.type "list")
  | frz {a : Addr} {o : Obj} {xs : List V} (e : H a = some (.frz o (.lst xs))) : TyOf K H (.ref a) (.type "list")
  | tup {a : Addr} {xs : List V} (e : H a = some (.tup xs)) : TyOf K H (.ref a) (.type "tuple")
  | dK {a : Addr} {kvs : List (Key × V)} (e : H a = some (.dK kvs)) : TyOf K H (.ref a) (.type "dict")
  | dT {a : Addr} {kvs : List (List Key × V)} (e : H a = some (.dT kvs)) : TyOf K H (.ref a) (.type "dict")
  | ins {a C dx : Addr} {fs : List (Str × V)} (e : H a = some (.ins C dx fs)) (cl : Cls K C) (ha : PySem.W.findIn K (.ref C) "__class__" = some (some (.builtin "object.__class__")))
      (hn : PySem.W.specialIn K (.builtin "object.__class__") "__get__" = some (some (.builtin "getset_descriptor.__get__"))) (htk : PySem.W.takesIn K (.builtin "object.__class__") = some true)
      (hm : PySem.W.mroIn K C (.type "object") = some true) : TyOf K H (.ref a) (.ref C)
end
end L2
namespace L2
open PySem PySem.Spec PyProof.Rows
structure Room (k : Nat) (A : Around) : Prop where
  hd : A.handled = none
  dp : A.depth + 3 * k + 5 < recursionLimit
  un : A.units + 16 * k + 200 < cLine
theorem Room.mono {j k : Nat} {A : Around} (r : Room k A) (h : j ≤ k) : Room j A := ⟨r.hd, by have := r.dp; omega, by have := r.un; omega⟩
theorem Room.deeper {k : Nat} {A : Around} (r : Room (k + 1) A) (env : Env) : Room k (A.deeper env) :=
  ⟨r.hd, by have := r.dp; show A.depth + 1 + 3 * k + 5 < _; omega, by have := r.un; show A.units + 3 + 16 * k + 200 < _; omega⟩
theorem Room.in1 {k : Nat} {A : Around} (r : Room (k + 1) A) : Room k A.in1 :=
  ⟨r.hd, by have := r.dp; show A.depth + 3 * k + 5 < _; omega, by have := r.un; show A.units + 1 + 16 * k + 200 < _; omega⟩
theorem Room.depth {k : Nat} {A : Around} (r : Room k A) : A.depth < recursionLimit := by have := r.dp; omega
theorem Room.units {k : Nat} {A : Around} (r : Room k A) : A.units + 64 < cLine := by have := r.un; omega
def tNil : TA := fun _ H Q => Q [] H
def tCons (ta : TE) (tr : TA) : TA := fun σ H Q => ta σ H fun x H1 => tr σ H1 fun xs H2 => Q (x :: xs) H2
section
variable {X : Cx} {e : Expr} {es : List Expr} {te : TE} {t : TA} {pos : Pos}
theorem pa_nil : PA X [] tNil := fun _ _ _ _ H Q I h => Calls.spliced_nil ⟨[], H, I, .nil, h⟩
theorem pa_cons (ha : PE X e te) (hr : PA X es t) (hs : starEach (e :: es) X.env = (false, eval e X.env) :: starEach es X.env := by rfl) : PA X (e :: es) (tCons te t) := by
  intro pos pins s σ H Q I h
  rw [hs]
  show wpAny _ _ (spliced ((false, eval e X.env) :: backTo pos (starEach es X.env))) _ _ s
  refine Calls.spliced_cons (thn (ha pins s σ H _ I h) fun u s1 ⟨x, H1, I1, r1, q1⟩ => ?_)
  exact thn (hr pos pins s1 σ H1 _ I1 q1) fun us s2 ⟨xs, H2, I2, r2, q2⟩ => ⟨x :: xs, H2, I2, .cons r1 r2, q2⟩
def tTup (t : TA) : TE := fun σ H Q => t σ H fun xs H1 => xs.length ≤ sizeLine ∧ ∀ p, H1 p = none → Q (.ref p) (upd H1 p (.tup xs))
def tLst (t : TA) : TE := fun σ H Q => t σ H fun xs H1 => xs.length ≤ sizeLine ∧ ∀ p, H1 p = none → Q (.ref p) (upd H1 p (.lst xs))
theorem pe_tup {x1} (h : PA X es t) : PE X (.Tuple es x1 pos) (tTup t) := by
  intro pins s σ H Q I hq
  refine wpAny_Tuple_spliced (thn (h pos pins s σ H _ I hq) fun us s1 ⟨xs, H1, I1, r, z, q⟩ => ⟨by rw [← r.length]; exact z, ?_⟩)
  have hf : H1 s1.heap.objs.size = none := I1.hok.fresh (Nat.le_refl _)
  refine ⟨.ref s1.heap.objs.size, upd H1 s1.heap.objs.size (.tup xs), I1.laid (t' := s1.toks) (fun b u e => Heap.get?_push_of_some _ e) (Nat.le_refl _) ?_, rfl, q _ hf⟩
  exact ⟨z, us, r, ⟨_, Heap.get?_push_size _ rfl, rfl, _, rfl⟩⟩
theorem pe_lst (h : PA X es t) : PE X (.List es pos) (tLst t) := by
  intro pins s σ H Q I hq
  refine wpAny_List_spliced (thn (h pos pins s σ H _ I hq) fun us s1 ⟨xs, H1, I1, r, z, q⟩ => ⟨by rw [← r.length]; exact z, ?_⟩)
  have hf : H1 s1.heap.objs.size = none := I1.hok.fresh (Nat.le_refl _)
  refine ⟨.ref s1.heap.objs.size, upd H1 s1.heap.objs.size (.lst xs), I1.laid (t' := s1.toks) (fun b u e => Heap.get?_push_of_some _ e) (Nat.le_refl _) ?_, rfl, q _ hf⟩
  exact ⟨z, us, 0, r, Heap.get?_push_size _ rfl⟩
end
abbrev Sp := List V → Hp → VK → XK → Prop
abbrev CXT := List Env → Hp → Shared → XK → Value → Shared → Prop
structure Env0 (P : Program) (w : World) (K : PySem.W.Frag) (mg : Str → Option Value) (base : Heap) (A : Around) (outer : List Env) (s : Shared) (H : Hp) : Prop where
  frames : A.frames = some outer
  mod : Mod K mg base
  bs : ∀ b o, base.get? b = some o → s.heap.get? b = some o ∧ H b = none
  bsz : base.objs.size ≤ s.heap.objs.size
  funs : s.heap.FunFrames base outer
  frf : ∀ b ∈ frs outer, H b = none
  hok : HOk P w H s.heap
  bare : AllBare s.gens
def CE (outer : List Env) (P : Program) (w : World) (H : Hp) (s : Shared) (Q : VK) (u : Value) (s' : Shared) : Prop :=
  ∃ v H', s'.os = s.os ∧ AllBare s'.gens ∧ Un (frs outer) [] H H' s.heap s'.heap ∧ HOk P w H' s'.heap ∧ RelV v u ∧ Q v H'
def CR (CX : CXT) (outer : List Env) (P : Program) (w : World) (H : Hp) (s : Shared) (Q : VK) (E : XK) (r : Result) (s' : Shared) : Prop :=
  match r with
  | .ok (.ret u) => CE outer P w H s Q u s'
  | .ok _ => False
  | .error e => CX outer H s E e s'
structure FnOk (P : Program) (w : World) (K : PySem.W.Frag) (mg : Str → Option Value) (base : Heap) (CX : CXT) (k : Nat) (f : Addr) (fd : FuncData) (ps : List Str) (sp : Sp) : Prop where
  len : ∀ vs H Q E, sp vs H Q E → vs.length = ps.length
  run : ∀ (A : Around) (outer : List Env) (s : Shared) (H : Hp) (args : Args) (us : List Value) (vs : List V) (Q : VK) (E : XK), Room k A → Env0 P w K mg base A outer s H → BindsTo s fd args (ps.zip us) → Vals vs us → sp vs H Q E →
    codeAny (model P w) A (.call (.ref f) args) (CR CX outer P w H s Q E) s
theorem FnOk.mono {P : Program} {w : World} {K : PySem.W.Frag} {mg : Str → Option Value} {base : Heap} {CX : CXT} {j k : Nat} {f : Addr} {fd : FuncData} {ps : List Str} {sp : Sp} (F : FnOk P w K mg base CX j f fd ps sp) (h : j ≤ k) :
    FnOk P w K mg base CX k f fd ps sp := ⟨F.len, fun A outer s H args us vs Q E hr => F.run A outer s H args us vs Q E (hr.mono h)⟩
theorem FnOk.imp {P : Program} {w : World} {K : PySem.W.Frag} {mg : Str → Option Value} {base : Heap} {CX : CXT} {k : Nat} {f : Addr} {fd : FuncData} {ps : List Str} {sp sp' : Sp} (F : FnOk P w K mg base CX k f fd ps sp)
    (h : ∀ vs H Q E, sp' vs H Q E → sp vs H Q E) : FnOk P w K mg base CX k f fd ps sp' :=
  ⟨fun vs H Q E q => F.len vs H Q E (h _ _ _ _ q), fun A outer s H args us vs Q E hr he hb hv hs => F.run A outer s H args us vs Q E hr he hb hv (h _ _ _ _ hs)⟩
theorem Env0.in1 {P : Program} {w : World} {K : PySem.W.Frag} {mg : Str → Option Value} {base : Heap} {A : Around} {outer : List Env} {s : Shared} {H : Hp} (e : Env0 P w K mg base A outer s H) :
    Env0 P w K mg base A.in1 outer s H := ⟨e.frames, e.mod, e.bs, e.bsz, e.funs, e.frf, e.hok, e.bare⟩
section
variable {X : Cx} {pins : List (Addr × Obj)} {σ : St} {H : Hp} {s s' : Shared}
theorem Inv.env0 (I : Inv X pins σ H s) : Env0 X.prog X.w X.K X.mg X.base X.A X.stack s H :=
  ⟨I.ok.frames, I.ok.mod, I.bs, Nat.le_trans I.ok.bsz I.sz, I.stack, I.stkFree, I.hok, I.bare⟩
theorem Inv.after {Q : VK} {u : Value} (I : Inv X pins σ H s) (h : CE X.stack X.prog X.w H s Q u s') : EP X pins σ Q u s' := by
  obtain ⟨v, H', os, bare, un, hok, r, q⟩ := h
  obtain ⟨hh, g, d, t, os'⟩ := s'
  obtain rfl : os' = s.os := os
  exact ⟨v, H', I.call (h' := hh) (g' := g) (d' := d) (t' := t) (ch := []) un hok bare (fun b z => absurd z (by simp)), r, q⟩
end
def tCall (sp : Sp) (dvs : List V) (E : XK) (t : TA) : TE := fun σ H Q => t σ H fun vs H1 => sp (vs ++ dvs) H1 Q E
def tMeth (C : Addr) (m : Str) (sp : Sp) (dvs : List V) (E : XK) (ta : TE) (t : TA) : TE := fun σ H Q => ta σ H fun x H1 => ∃ a dx fs, x = .ref a ∧ H1 a = some (.ins C dx fs) ∧ fs.lookup m = none ∧
  t σ H1 fun vs H2 => sp (x :: (vs ++ dvs)) H2 Q E
def tMake (C : Addr) (sp : Sp) (dvs : List V) (E : XK) (t : TA) : TE := fun σ H Q => t σ H fun vs H1 => ∀ x dx, H1 x = none → H1 dx = none → dx ≠ x →
  sp (.ref x :: (vs ++ dvs)) (upd (upd H1 dx (.own x)) x (.ins C dx [])) (fun v H2 => v = .non ∧ Q (.ref x) H2) E
def Binds (K : PySem.W.Frag) (fd : FuncData) (ps : List Str) (ds : List Value) : Prop :=
  ∀ (s : Shared) (us : List Value), K.In s.heap → (us ++ ds).length = ps.length → BindsTo s fd ⟨us, []⟩ (ps.zip (us ++ ds))
theorem Binds.all {K : PySem.W.Frag} {fd : FuncData} {ps : List Str} (h : ∀ us : List Value, us.length = ps.length → bindArgs fd ⟨us, []⟩ = pure (ps.zip us)) : Binds K fd ps [] := fun s us _ hl => by
  rw [List.append_nil] at hl ⊢
  exact .of_eq (h us hl)
def Passes (CX : CXT) (X : Cx) (E : XK) : Prop := ∀ (pins : List (Addr × Obj)) (σ : St) (H : Hp) (s : Shared) (e : Value) (s' : Shared), Inv X pins σ H s → CX X.stack H s E e s' → X.xe e s'
section
variable {X : Cx} {CX : CXT} {k : Nat} {f C : Addr} {fd : FuncData} {ps : List Str} {sp : Sp} {dvs : List V} {ds : List Value} {E : XK} {x m : Str} {p pos apos : Pos} {e o : Expr} {es : List Expr} {ta : TE} {t : TA}
theorem run_fn {pins : List (Addr × Obj)} {σ : St} {H : Hp} {s : Shared} {Q : VK} {us : List Value} {vs : List V} (F : FnOk X.prog X.w X.K X.mg X.base CX k f fd ps sp) (hr : Room k X.A) (hb : Binds X.K fd ps ds) (hd : Vals dvs ds) (hx : Passes CX X E)
    (I : Inv X pins σ H s) (r : Vals vs us) (h : sp (vs ++ dvs) H Q E) : wpAny (model X.prog X.w) X.A (call (.ref f) us) (EP X pins σ Q) X.xe s := by
  have r2 : Vals (vs ++ dvs) (us ++ ds) := r.append hd
  have hl : (us ++ ds).length = ps.length := by rw [← r2.length]; exact F.len _ _ _ _ h
  refine wpAny_call (codeAny_mono (F.run X.A X.stack s H ⟨us, []⟩ (us ++ ds) (vs ++ dvs) Q E hr I.env0 (hb s us I.kIn hl) r2 h) fun r s' hq => ?_)
  cases r with
  | error e => exact hx pins σ H s e s' I hq
  | ok fl =>
    cases fl with
    | ret u => exact I.after hq
    | next => exact False.elim hq
    | brk => exact False.elim hq
    | cont => exact False.elim hq
theorem pe_call (F : FnOk X.prog X.w X.K X.mg X.base CX k f fd ps sp) (hr : Room k X.A) (hg : Gl X x) (hm : X.mg x = some (.ref f)) (hk : PySem.W.keepIn X.K (.ref f) = true) (hb : Binds X.K fd ps ds) (hd : Vals dvs ds) (hx : Passes CX X E)
    (ha : PA X (e :: es) t) (hdb : (x == ("__debug__" : Str)) = false := by decide) (he : starEach (e :: es) X.env = (false, eval e X.env) :: starEach es X.env := by rfl) (hpl : (backTo pos (starEach es X.env)).any (·.1) = false := by rfl) :
    PE X (.Call (.Name x p) (e :: es) [] pos) (tCall sp dvs E t) := by
  intro pins s σ H Q I h
  refine wpAny_Call_Name_kw (ld_glob I hg hm ?_ hdb)
  refine PySem.W.callWith_K (h₀ := X.base) I.ok.mod.kin hk (thn (ha pos pins s σ H _ I h) fun us s1 ⟨vs, H1, I1, r, q⟩ => ⟨I1.kIn, ?_⟩) he hpl
  exact run_fn F hr hb hd hx I1 r q
structure Mk (K : PySem.W.Frag) (C f : Addr) : Prop where
  makes : PySem.W.makesIn K C = true
  init : PySem.W.findIn K (.ref C) "__init__" = some (some (.ref f))
  fn : PySem.W.isFn K (.ref f) = true
  kp : PySem.W.keepIn K (.ref C) = true
end
def PK (X : Cx) (kws : List Keyword) (t : TA) : Prop :=
  ∀ (pos : Pos) (pins : List (Addr × Obj)) (s : Shared) (σ : St) (H : Hp) (Q : List V → Hp → Prop), Inv X pins σ H s → t σ H Q → wpAny (model X.prog X.w) X.A (evalAll ((backToKw pos (keywordEach kws X.env)).map (·.2))) (AP X pins σ Q) X.xe s
section
variable {X : Cx} {CX : CXT} {k : Nat} {f C : Addr} {fd : FuncData} {ps ks : List Str} {sp : Sp} {E : XK} {x m : Str} {p pos apos kpos : Pos} {e o : Expr} {es : List Expr} {kws : List Keyword} {te ta : TE} {t tk : TA} {nm : Option Str}
structure KBinds (K : PySem.W.Frag) (fd : FuncData) (ps ks : List Str) (g : List Value → List Value → List Value) (gV : List V → List V → List V) : Prop where
  to : ∀ (s : Shared) (us ws : List Value), K.In s.heap → (g us ws).length = ps.length → BindsTo s fd ⟨us, ks.zip ws⟩ (ps.zip (g us ws))
  rel : ∀ {vs : List V} {us : List Value} {zs : List V} {ws : List Value}, Vals vs us → Vals zs ws → Vals (gV vs zs) (g us ws)
def tCallK (sp : Sp) (gV : List V → List V → List V) (E : XK) (t tk : TA) : TE := fun σ H Q => t σ H fun vs H1 => tk σ H1 fun zs H2 => sp (gV vs zs) H2 Q E
variable {g : List Value → List Value → List Value} {gV : List V → List V → List V}
end
structure FnScope (N P : List Str) (sc : Scope) : Prop where
  kind : sc.kind = .function
  co : sc.isCoroutine = false
  gen : sc.isGenerator = false
  nd : N.Nodup
  pre : N.take P.length = P
  par : ∀ x ∈ P, sc.names.lookup x = some .local ∨ sc.names.lookup x = some .cell
  nofree : ∀ y ∈ sc.names, y.2 ≠ .free
theorem bindL_out {kindOf : Str → Option NameKind} {x : Str} : ∀ {binds : List (Str × Value)} {m : Str → Option Value}, (∀ v, (x, v) ∉ binds) → bindL kindOf binds m x = m x
  | [], _, _ => rfl
  | (n, v) :: r, m, h => by
    unfold bindL
    rw [bindL_out fun w hw => h w (List.mem_cons_of_mem _ hw)]
    split
    · have : x ≠ n := by rintro rfl; exact h v List.mem_cons_self
      simp [this]
    · rfl
theorem bindC_out {kindOf : Str → Option NameKind} {x : Str} : ∀ {binds : List (Str × Value)} {m : Str → Option Value}, (∀ v, (x, v) ∉ binds) → bindC kindOf binds m x = m x
  | [], _, _ => rfl
  | (n, v) :: r, m, h => by
    unfold bindC
    rw [bindC_out fun w hw => h w (List.mem_cons_of_mem _ hw)]
    split
    · rfl
    · have : x ≠ n := by rintro rfl; exact h v List.mem_cons_self
      simp [this]
theorem bindL_get {kindOf : Str → Option NameKind} {x : Str} {v : Value} : ∀ {P : List Str} {vs : List Value} {i : Nat} {m : Str → Option Value}, P.Nodup → P[i]? = some x → vs[i]? = some v → kindOf x = some .local →
    bindL kindOf (P.zip vs) m x = some v
  | [], _, _, _, _, h, _, _ => by simp at h
  | _ :: _, [], _, _, _, _, h, _ => by simp at h
  | p :: P, w :: vs, 0, m, nd, h1, h2, hk => by
    simp at h1 h2; subst h1; subst h2
    show bindL kindOf ((p, w) :: P.zip vs) m p = _
    unfold bindL
    rw [bindL_out fun v hv => (List.nodup_cons.mp nd).1 (List.of_mem_zip hv).1, if_pos hk]
    simp
  | p :: P, w :: vs, i + 1, m, nd, h1, h2, hk => by
    show bindL kindOf ((p, w) :: P.zip vs) m x = _
    unfold bindL
    exact bindL_get (i := i) (List.nodup_cons.mp nd).2 (by simpa using h1) (by simpa using h2) hk
theorem bindC_get {kindOf : Str → Option NameKind} {x : Str} {v : Value} : ∀ {P : List Str} {vs : List Value} {i : Nat} {m : Str → Option Value}, P.Nodup → P[i]? = some x → vs[i]? = some v → kindOf x ≠ some .local →
    bindC kindOf (P.zip vs) m x = some v
  | [], _, _, _, _, h, _, _ => by simp at h
  | _ :: _, [], _, _, _, _, h, _ => by simp at h
  | p :: P, w :: vs, 0, m, nd, h1, h2, hk => by
    simp at h1 h2; subst h1; subst h2
    show bindC kindOf ((p, w) :: P.zip vs) m p = _
    unfold bindC
    rw [bindC_out fun v hv => (List.nodup_cons.mp nd).1 (List.of_mem_zip hv).1, if_neg hk]
    simp
  | p :: P, w :: vs, i + 1, m, nd, h1, h2, hk => by
    show bindC kindOf ((p, w) :: P.zip vs) m x = _
    unfold bindC
    exact bindC_get (i := i) (List.nodup_cons.mp nd).2 (by simpa using h1) (by simpa using h2) hk
def start (N : List Str) (vs : List V) : St := vs.map some ++ List.replicate (N.length - vs.length) none
def cxOf (CX : CXT) (P : Program) (w : World) (K : PySem.W.Frag) (mg : Str → Option Value) (base : Heap) (N : List Str) (qual : Str) (scope : Scope) (f : Addr) (cd : Value) (A : Around) (outer : List Env) (s : Shared) (H : Hp) (E : XK) : Cx where
  prog := P
  w := w
  K := K
  mg := mg
  base := base
  A := A.deeper (envOfC qual scope s.heap.objs.size f cd)
  N := N
  s₀ := s
  H₀ := H
  env := envOfC qual scope s.heap.objs.size f cd
  outer := outer
  stack := envOfC qual scope s.heap.objs.size f cd :: outer
  ex := []
  calm := true
  fn := fun _ => true
  pn := []
  xe := fun e s' => wpAny (model P w) (A.deeper (envOfC qual scope s.heap.objs.size f cd)) (leaving (envOfC qual scope s.heap.objs.size f cd) e) (fun _ s'' => CX outer H s E e s'') (fun e' s'' => CX outer H s E e' s'') s'
theorem cell_has {sc : Scope} {n : Nat} {x : Str} (h : sc.names.lookup x = some .cell) : ∃ c, (cellsFrom n sc.names []).lookup x = some c := by
  have q := PySem.W.cellsFrom_some sc.names n [] (.inl h)
  exact Option.isSome_iff_exists.mp q
theorem inv_start {CX : CXT} {P : Program} {w : World} {K : PySem.W.Frag} {mg : Str → Option Value} {base : Heap} {N ps : List Str} {qual : Str} {scope : Scope} {f : Addr} {cd : Value} {A : Around} {outer : List Env} {s s1 : Shared} {H : Hp} {E : XK} {us : List Value} {vs : List V}
    (S : FnScope N ps scope) (hd : A.handled = none) (e0 : Env0 P w K mg base A outer s H) (hl : vs.length = ps.length) (r : Vals vs us)
    (x : InCallC s s.heap.objs.size (bindL (envOfC qual scope s.heap.objs.size f cd).kindOf (ps.zip us) fun _ => none) (cellsFrom (s.heap.objs.size + 1) scope.names []) (bindC (envOfC qual scope s.heap.objs.size f cd).kindOf (ps.zip us) fun _ => none) s1) :
    Inv (cxOf CX P w K mg base N qual scope f cd A outer s H E) [] (start N vs) H s1 := by
  have hpl : ps.length ≤ N.length := by have := congrArg List.length S.pre; rw [List.length_take] at this; omega
  obtain ⟨h1, tk, rfl, hk⟩ := x.done
  have noA : ∀ b : Addr, b ∉ (cxOf CX P w K mg base N qual scope f cd A outer s H E).ex := fun b z => absurd (show b ∈ ([] : List Addr) from z) (by simp)
  refine ⟨⟨e0.mod, S.kind, rfl, rfl, Nat.le_refl _, fun y z c h1 h2 => ?_, fun y hy => ?_, fun y c _ h => ?_, fun _ => hd, Around.frames_deeper e0.frames, .inr ⟨rfl, rfl⟩, fun b z => absurd z (noA b), e0.bs, e0.bsz, fun b _ _ => noA b, fun b z => absurd z (noA b), e0.funs, e0.frf⟩,
    rfl, e0.bare, Un.kept hk, ⟨_, x.toInCall.ns, fun i y v h1 h2 h3 => ?_⟩, fun y c h => ⟨_, x.cell y c h⟩, e0.hok.fresh (Nat.le_refl _), fun y c h => ?_, fun p hp => absurd (show p ∈ ([] : List (Addr × Obj)) from hp) (by simp), e0.hok.kept hk, ?_⟩
  · exact name_of_addr x.apart (PySem.mem_of_lookup h1) (PySem.mem_of_lookup h2)
  · have hy : scope.names.lookup y = some .cell ∨ scope.names.lookup y = some .free := hy
    rcases hy with hy | hy
    · exact cell_has hy
    · exact absurd rfl (S.nofree _ (PySem.mem_of_lookup hy))
  · exact Nat.le_of_lt (x.above y c (PySem.mem_of_lookup h))
  · have hi : i < vs.length := by
      unfold start at h2
      by_cases hi : i < vs.length
      · exact hi
      · rw [List.getElem?_append_right (by simpa using hi)] at h2
        rw [List.getElem?_replicate] at h2
        split at h2 <;> cases h2
    have ha : vs[i]? = some v := by
      unfold start at h2
      rw [List.getElem?_append_left (by simpa using hi), List.getElem?_map] at h2
      cases e : vs[i]? with
      | none => rw [e] at h2; cases h2
      | some a => rw [e] at h2; cases h2; rfl
    obtain ⟨u, hu, rv⟩ := r.get ha
    have hp : ps[i]? = some y := by
      rw [← S.pre, List.getElem?_take_of_lt (by omega)]; exact h1
    have ndP : ps.Nodup := by rw [← S.pre]; exact S.nd.sublist (List.take_sublist _ _)
    refine ⟨u, rv, ?_⟩
    rcases S.par y (List.mem_of_getElem? hp) with k | k
    · exact .inl ⟨k, bindL_get ndP hp hu k⟩
    · obtain ⟨c, e⟩ := cell_has (n := s.heap.objs.size + 1) k
      refine .inr ⟨.inl k, c, e, ?_⟩
      have q := x.cell y c e
      rw [bindC_get ndP hp hu (by show scope.names.lookup y ≠ _; rw [k]; decide)] at q
      exact q
  · exact e0.hok.fresh (Nat.le_of_lt (x.above y c (PySem.mem_of_lookup h)))
  · unfold start
    show _ = N.length
    rw [List.length_append, List.length_map, List.length_replicate]
    omega
theorem fn_of {CX : CXT} {P : Program} {w : World} {K : PySem.W.Frag} {mg : Str → Option Value} {base : Heap} {k : Nat} {f : Addr} {name qual : Str} {params : Arguments} {body : List Stmt} {scope : Scope} {dV kV doc pm cdv ct oc : Value} {an od : Option Addr}
    {osl : Array (Option Value)} {N ps : List Str} {sp : Sp} (lk : K.lookup f = some ⟨oc, od, .func (PySem.W.fnOf name qual params body scope dV kV doc pm an cdv ct), osl⟩) (hcd : PySem.W.codeIn K cdv qual = true) (S : FnScope N ps scope)
    (len : ∀ vs H Q E, sp vs H Q E → vs.length = ps.length)
    (hbody : ∀ (A : Around) (outer : List Env) (s : Shared) (H : Hp) (vs : List V) (Q : VK) (E : XK), Room k (A.deeper (envOfC qual scope s.heap.objs.size f cdv)) → sp vs H Q E →
      ∃ t, PSs (cxOf CX P w K mg base N qual scope f cdv A outer s H E) body t ∧ t { nx := fun _ H' => Q .non H', rt := Q } (start N vs) H) :
    FnOk P w K mg base CX (k + 1) f (PySem.W.fnOf name qual params body scope dV kV doc pm an cdv ct) ps sp := by
  refine ⟨len, fun A outer s H args us vs Q E hr e0 hb r hsp => ?_⟩
  have hl := len _ _ _ _ hsp
  have KX : K.In s.heap := e0.mod.kin.keeps fun b o e => (e0.bs b o e).1
  have lim : s.heap.NoLimit := e0.mod.nolimit.keeps fun b o e => (e0.bs b o e).1
  have hkind : ∀ y ∈ ps.zip us, scope.names.lookup y.1 = some .local ∨ (scope.names.lookup y.1 = some .cell ∧ ((cellsFrom (s.heap.objs.size + 1) scope.names []).lookup y.1).isSome = true) := fun ⟨n, v⟩ hy => by
    rcases S.par n (List.of_mem_zip hy).1 with q | q
    · exact .inl q
    · exact .inr ⟨q, PySem.W.cellsFrom_some _ _ _ (.inl q)⟩
  refine codeAny_call_function hr.depth (KX _ _ lk) rfl S.co S.gen rfl (PySem.W.codeRec_of KX hcd) (hb _ _ _ _ ?_)
  refine wpAny_newFunctionEnv_cells S.kind hkind fun env he s1 x => ?_
  subst he
  refine ⟨lim.keeps x.toInCall.keep, codeAny_func ?_⟩
  obtain ⟨t, ht, hq⟩ := hbody A outer s H vs Q E (hr.deeper _) hsp
  have I : Inv (cxOf CX P w K mg base N qual scope f cdv A outer s H E) [] (start N vs) H s1 := inv_start S hr.hd e0 hl r x
  refine wpAny_mono (ht [] s1 (start N vs) H _ I hq) (fun fl s' hs => ?_) fun e s' hs => hs
  have fin : ∀ {σ' : St} {H' : Hp} {v : V} {u : Value}, Inv (cxOf CX P w K mg base N qual scope f cdv A outer s H E) [] σ' H' s' → RelV v u → Q v H' → CE outer P w H s Q u s' :=
    fun {σ' H' v u} J rv q => ⟨v, H', J.os, J.bare, J.base, J.hok, rv, q⟩
  cases fl with
  | ret u =>
    obtain ⟨v, σ', H', J, rv, q⟩ := hs
    exact fin J rv q
  | next =>
    obtain ⟨σ', H', J, q⟩ := hs
    exact fin (v := V.non) (u := Value.none) J rfl q
  | brk =>
    obtain ⟨_, _, _, q⟩ := hs
    exact False.elim q
  | cont =>
    obtain ⟨_, _, _, q⟩ := hs
    exact False.elim q
end L2
namespace L2
open PySem PySem.Spec PyProof.Rows
section
variable {X : Cx} {x : Str} {p pos : Pos} {e : Expr} {es : List Expr} {t : TA} {id T : String} {r : List V → Hp → VK → Prop}
def tCB (r : List V → Hp → VK → Prop) (t : TA) : TE := fun σ H Q => t σ H fun vs H1 => r vs H1 Q
theorem pe_callB (hc : CallR X (.builtin id) r) (hg : Gl X x) (hm : X.mg x = none) (hv : bootBuiltins x = some (.builtin id)) (ha : PA X (e :: es) t) (hn : x ≠ "__name__" := by decide) (hdb : (x == ("__debug__" : Str)) = false := by decide)
    (he : starEach (e :: es) X.env = (false, eval e X.env) :: starEach es X.env := by rfl) (hpl : (backTo pos (starEach es X.env)).any (·.1) = false := by rfl) : PE X (.Call (.Name x p) (e :: es) [] pos) (tCB r t) := by
  intro pins s σ H Q I h
  refine wpAny_Call_Name_kw (ld_blt I hg hm hv ?_ hn hdb)
  exact PyProof.Rows.callWith_builtin1 (thn (ha pos pins s σ H _ I h) fun us s1 ⟨vs, H1, I1, r1, q1⟩ => hc pins s1 σ H1 vs us Q I1 r1 q1) he hpl
theorem pe_callTy (hc : CallR X (.type T) r) (hg : Gl X x) (hm : X.mg x = none) (hv : bootBuiltins x = some (.type T)) (ha : PA X (e :: es) t) (hn : x ≠ "__name__" := by decide) (hdb : (x == ("__debug__" : Str)) = false := by decide)
    (he : starEach (e :: es) X.env = (false, eval e X.env) :: starEach es X.env := by rfl) (hpl : (backTo pos (starEach es X.env)).any (·.1) = false := by rfl) : PE X (.Call (.Name x p) (e :: es) [] pos) (tCB r t) := by
  intro pins s σ H Q I h
  refine wpAny_Call_Name_kw (ld_blt I hg hm hv ?_ hn hdb)
  exact PyProof.Rows.callWith_type1 (thn (ha pos pins s σ H _ I h) fun us s1 ⟨vs, H1, I1, r1, q1⟩ => hc pins s1 σ H1 vs us Q I1 r1 q1) he hpl
end
end L2
namespace HT
open PySem PyProof.Rows
def lexLt : List Int → List Int → Bool
  | [], [] => false
  | [], _ :: _ => true
  | _ :: _, [] => false
  | x :: xs, y :: ys => if x = y then lexLt xs ys else decide (x < y)
section
open PySem.SeqAt
open PySem.AutoSeq1 (wpAny_loadPart')
open PySem.MeetsSeq PySem.MeetsSeq2 PySem.MeetsSeq3
end
section
variable {prog : Program} {w : World} {A : Around} {E : Value → Shared → Prop} {s : Shared}
theorem cat_tup {t b : Addr} {vs ws : List Value} {Q : Value → Shared → Prop} (ht : IsTup s.heap t vs.toArray) (hb : IsTup s.heap b ws.toArray) (hv : vs ≠ [])
    (h1 : ws = [] → Q (.ref t) s) (h2 : ws ≠ [] → Q (.ref s.heap.objs.size) { s with heap := s.heap.push { cls := .type "tuple", data := .seq (vs ++ ws).toArray } })
    (hsz : vs.length + ws.length ≤ sizeLine) : wpAny (model prog w) A (binaryOp .Add (.ref t) (.ref b)) Q E s := by
  obtain ⟨⟨cls, dd, data, sl⟩, ho, hc, n, hd⟩ := id ht
  obtain ⟨⟨cls2, dd2, data2, sl2⟩, ho2, hc2, n2, hd2⟩ := id hb
  simp only at hc hd hc2 hd2
  subst hc hd hc2 hd2
  have e : vs.toArray ++ ws.toArray = (vs ++ ws).toArray := by simp
  by_cases hw : ws = []
  · exact concat_meets ⟨_, ho, rfl⟩ ⟨_, ho2, rfl⟩ noFill_tuple_add seq_tuple_add PySem.F.slot_tuple_add PySem.F.entry_tuple_add (PySem.F.args_tuple_add_2 _ _)
      (tuple_addW1 t b vs.toArray ws.toArray n n2 dd dd2 sl sl2 (by simpa using hv) (by simp [hw])) ⟨ho, ho2, h1 hw⟩
  · refine concat_meets ⟨_, ho, rfl⟩ ⟨_, ho2, rfl⟩ noFill_tuple_add seq_tuple_add PySem.F.slot_tuple_add PySem.F.entry_tuple_add (PySem.F.args_tuple_add_2 _ _)
      (tuple_addW2 t b vs.toArray ws.toArray n n2 dd dd2 sl sl2 (by simpa using hv) (by simpa using hw) (by rw [List.size_toArray, List.size_toArray]; exact hsz)) ⟨ho, ho2, ?_⟩
    rw [e]
    exact h2 hw
def sIx (n d : Nat) : Option Int → Nat
  | none => d
  | some v => if v < 0 then (v + (n : Int)).toNat else min v.toNat n
theorem sIx_le (n d : Nat) (hd : d ≤ n) (o : Option Int) : sIx n d o ≤ n := by
  cases o with
  | none => exact hd
  | some v =>
    show (if v < 0 then (v + (n : Int)).toNat else min v.toNat n) ≤ n
    by_cases hv : v < 0
    · rw [if_pos hv]; omega
    · rw [if_neg hv]; exact Nat.min_le_right _ _
theorem clip_eq (v : Int) (n d : Nat) : (if v < 0 then max (v + (n : Int)) 0 else min v (n : Int)) = ((sIx n d (some v) : Nat) : Int) := by
  show (if v < 0 then max (v + (n : Int)) 0 else min v (n : Int)) = (((if v < 0 then (v + (n : Int)).toNat else min v.toNat n) : Nat) : Int)
  by_cases hv : v < 0
  · simp only [if_pos hv]; omega
  · simp only [if_neg hv]; omega
theorem adjust_gen (lo hi : Option Int) (n : Nat) : Builtin.Slice.sliceAdjust lo hi 1 (n : Int) = (((sIx n 0 lo : Nat) : Int), ((sIx n n hi : Nat) : Int)) := by
  have h1 : ¬ ((1 : Int) < 0) := by omega
  unfold Builtin.Slice.sliceAdjust
  simp only [h1, if_false]
  refine Prod.ext ?_ ?_
  · cases lo with
    | none => rfl
    | some v => exact clip_eq v n 0
  · cases hi with
    | none => rfl
    | some v => exact clip_eq v n n
theorem places_gen (i j : Nat) : Builtin.Slice.slicePlaces (i : Int) (j : Int) 1 = j - i := by
  unfold Builtin.Slice.slicePlaces
  have h1 : (1 : Int) > 0 := by omega
  simp only [h1, if_true, Int.ediv_one]
  split <;> omega
theorem slicePart_ {v : Value} {o : Option Int} {Q : Option Int → Shared → Prop} (p : IsPart v o) (h : Q o s) : wpAny (model prog w) A (Builtin.Slice.slicePartIndex v) Q E s := by
  cases p with
  | none => exact slicePart_none h
  | int i t => exact slicePart_int h
theorem sliceApplied_gen {sl : Addr} {vl vu : Value} {lo hi : Option Int} {n : Nat} {Q : Int × Int × Nat → Shared → Prop} (hs : s.heap.IsSliceOf sl vl vu .none) (pl : IsPart vl lo) (pu : IsPart vu hi)
    (h : Q (((sIx n 0 lo : Nat) : Int), 1, sIx n n hi - sIx n 0 lo) s) : wpAny (model prog w) A (Builtin.Slice.sliceApplied (.ref sl) (pure (n : Int))) Q E s := by
  obtain ⟨os, hos, hcs, hds⟩ := id hs
  unfold Builtin.Slice.sliceApplied Builtin.Slice.sliceFields
  refine wpAny_bind (wpAny_bind (wpAny_field hos hds (x := vl) rfl (wpAny_bind (wpAny_field hos hds (x := vu) rfl (wpAny_bind (wpAny_field hos hds (x := .none) rfl (wpAny_pure ?_)))))))
  refine wpAny_bind (slicePart_none ?_)
  show wpAny _ _ (if ((1 : Int) == 0) = true then _ else _) _ _ s
  rw [if_neg (by decide)]
  refine wpAny_bind (slicePart_ pl (wpAny_bind (slicePart_ pu (wpAny_bind (wpAny_pure ?_)))))
  show wpAny _ _ (match Builtin.Slice.sliceAdjust lo hi 1 (n : Int) with | (lo, hi) => pure (lo, (1 : Int), Builtin.Slice.slicePlaces lo hi 1)) _ _ s
  rw [adjust_gen lo hi n]
  show wpAny _ _ (pure (((sIx n 0 lo : Nat) : Int), (1 : Int), Builtin.Slice.slicePlaces ((sIx n 0 lo : Nat) : Int) ((sIx n n hi : Nat) : Int) 1)) _ _ s
  rw [places_gen]
  exact wpAny_pure h
theorem pick_gen (xs : Array Value) (i k : Nat) : ((List.range k).filterMap fun (m : Nat) => xs[((i : Int) + (m : Int) * 1).toNat]?).toArray = ((xs.toList.drop i).take k).toArray := by
  have e : (fun (m : Nat) => xs[((i : Int) + (m : Int) * 1).toNat]?) = fun m => xs[i + m]? := by
    funext m
    have : ((i : Int) + (m : Int) * 1).toNat = i + m := by omega
    rw [this]
  rw [e]
  have := pick_run xs i k
  rw [List.filterMap_map] at this
  have e2 : ((fun x => xs[x]?) ∘ fun x => i + x) = fun m => xs[i + m]? := rfl
  rw [e2] at this
  rw [this]
theorem getItem_tuple_cut {t sl : Addr} {items : Array Value} {vl vu : Value} {lo hi : Option Int} {Q : Value → Shared → Prop} (ht : IsTup s.heap t items) (hs : s.heap.IsSliceOf sl vl vu .none) (pl : IsPart vl lo) (pu : IsPart vu hi)
    (hw : ¬ (sIx items.size 0 lo = 0 ∧ sIx items.size items.size hi = items.size))
    (h : Q (.ref s.heap.objs.size) { s with heap := s.heap.push { cls := .type "tuple", data := .seq ((items.toList.drop (sIx items.size 0 lo)).take (sIx items.size items.size hi - sIx items.size 0 lo)).toArray } })
    (hsz : items.size ≤ sizeLine) : wpAny (model prog w) A (getItem (.ref t) (.ref sl)) Q E s := by
  have htake : sizeOk (.seq ((items.toList.drop (sIx items.size 0 lo)).take (sIx items.size items.size hi - sIx items.size 0 lo)).toArray) := by
    show ((items.toList.drop (sIx items.size 0 lo)).take (sIx items.size items.size hi - sIx items.size 0 lo)).toArray.size ≤ sizeLine
    rw [List.size_toArray, List.length_take, List.length_drop, Array.length_toList]
    omega
  have hj : sIx items.size items.size hi ≤ items.size := sIx_le _ _ (Nat.le_refl _) hi
  obtain ⟨os, hos, hcs, hds⟩ := id hs
  have hTs : s.TypeIs (.ref sl) "slice" := ⟨os, hos, hcs⟩
  unfold getItem
  try with_reducible refine wpAny_holding ?_
  first | refine wpAny_bind (wpAny_pure ?_) | skip
  refine wpAny_bind (wpAny_sequenceKey ht.typeIs (by decide) ?_)
  refine wpAny_bind (wpAny_callSpecial?_slot (name := Str.ofString "__getitem__") ht.typeIs PyProof.Rows.slot_tuple_getitem
    (wpAny_call_entry PyProof.Rows.slot_tuple_getitem ht.typeIs entry_tuple_getitem ?_ (args_tuple_getitem _ _)))
  show wpAny _ _ (Builtin.Tuple.tupleItemsOf (.ref t) >>= _) _ _ s
  refine wpAny_bind (tupleItemsOf_ ht ?_)
  refine wpAny_bind (wpAny_typeOf hTs ?_)
  rw [if_pos (by decide)]
  refine wpAny_bind (sliceApplied_gen hs pl pu ?_)
  have hno : ¬ ((((sIx items.size 0 lo : Nat) : Int) == 0 && (1 : Int) == 1 && (sIx items.size items.size hi - sIx items.size 0 lo) == items.size) = true) := by
    intro q
    rw [Bool.and_eq_true, Bool.and_eq_true] at q
    have q1 : ((sIx items.size 0 lo : Nat) : Int) = 0 := eq_of_beq q.1.1
    have q2 : sIx items.size items.size hi - sIx items.size 0 lo = items.size := eq_of_beq q.2
    exact hw ⟨by omega, by omega⟩
  show wpAny _ _ (if (((sIx items.size 0 lo : Nat) : Int) == 0 && (1 : Int) == 1 && (sIx items.size items.size hi - sIx items.size 0 lo) == items.size) = true then _ else _) _ _ s
  rw [if_neg hno, pick_gen]
  first
    | exact wpAny_bind (m := Builtin.Tuple.tupleExact _) (wpAny_newObj_type (wpAny_pure ⟨_, rfl, wpAny_pure h⟩) htake)
    | exact wpAny_bind (m := Builtin.Tuple.tupleExact _) (wpAny_newObj_type (wpAny_bind (wpAny_pure (wpAny_pure ⟨_, rfl, wpAny_pure h⟩))) htake)
    | exact wpAny_bind (wpAny_bind (m := Builtin.Tuple.tupleExact _) (wpAny_newObj_type (wpAny_pure (wpAny_pure ⟨_, rfl, wpAny_pure h⟩)) htake))
    | exact wpAny_bind (wpAny_bind (m := Builtin.Tuple.tupleExact _) (wpAny_newObj_type (wpAny_pure ⟨_, rfl, wpAny_pure h⟩) htake))
end
end HT
namespace L2
open PySem PySem.Spec PyProof.Rows
abbrev TO := St → Hp → (Option Int → Hp → Prop) → Prop
namespace Zu
set_option allowUnsafeReducibility true in
@[scoped irreducible] def _root_.L2.PO (X : Cx) (e : Option Expr) (t : TO) : Prop :=
  ∀ (pins : List (Addr × Obj)) (s : Shared) (σ : St) (H : Hp) (Q : Option Int → Hp → Prop), Inv X pins σ H s → t σ H Q →
    wpAny (model X.prog X.w) X.A (evalPart e X.env) (fun u s' => ∃ o H', Inv X pins σ H' s' ∧ IsPart u o ∧ Q o H') X.xe s
end Zu
def tNoPart : TO := fun _ H Q => Q none H
def tPart (t : TE) : TO := fun σ H Q => t σ H fun x H1 => ∃ i, x = .int i ∧ Q (some i) H1
section
variable {X : Cx} {e : Expr} {te : TE} {lo hi : Option Expr} {tl th : TO} {pos p2 : Pos}
theorem po_none : PO X none tNoPart := by
  intro pins s σ H Q I h
  rw [evalPart_none]
  exact wpAny_pure ⟨none, H, I, .none, h⟩
theorem po_some (h : PE X e te) : PO X (some e) (tPart te) := by
  intro pins s σ H Q I hw
  rw [evalPart_some]
  refine thn (h pins s σ H _ I hw) fun u s1 ⟨x, H1, I1, r1, q1⟩ => ?_
  obtain ⟨i, rfl, q⟩ := q1
  obtain ⟨t, rfl⟩ := r1
  exact ⟨some i, H1, I1, .int i t, q⟩
def SlR (X : Cx) (r : V → Option Int → Option Int → Hp → VK → Prop) : Prop :=
  ∀ (pins : List (Addr × Obj)) (s : Shared) (σ : St) (H : Hp) (x : V) (v vl vu : Value) (lo hi : Option Int) (sl : Addr) (Q : VK), Inv X pins σ H s → RelV x v → s.heap.IsSliceOf sl vl vu .none → IsPart vl lo → IsPart vu hi → r x lo hi H Q →
    ∃ T id, typeLookup (.type T) "__getitem__" = pure (some (.builtin id)) ∧ s.TypeIs v T ∧ wpAny (model X.prog X.w) X.A (getItem v (.ref sl)) (EP X pins σ Q) X.xe s
theorem SlR.or {r r' : V → Option Int → Option Int → Hp → VK → Prop} (h : SlR X r) (h' : SlR X r') : SlR X (fun x lo hi H Q => r x lo hi H Q ∨ r' x lo hi H Q) := by
  intro pins s σ H x v vl vu lo hi sl Q I rx hs pl pu q
  rcases q with q | q
  · exact h pins s σ H x v vl vu lo hi sl Q I rx hs pl pu q
  · exact h' pins s σ H x v vl vu lo hi sl Q I rx hs pl pu q
def tSl (r : V → Option Int → Option Int → Hp → VK → Prop) (te : TE) (tl th : TO) : TE := fun σ H Q => te σ H fun x H1 => tl σ H1 fun l H2 => th σ H2 fun u H3 => r x l u H3 Q
theorem pe_slice {r : V → Option Int → Option Int → Hp → VK → Prop} (hr : SlR X r) (he : PE X e te) (hl : PO X lo tl) (hu : PO X hi th) : PE X (.Subscript e (.Slice lo hi none p2) pos) (tSl r te tl th) := by
  intro pins s σ H Q I h
  refine Subscript_ (thn (he pins s σ H _ I h) fun v s1 ⟨x, H1, I1, r1, q1⟩ => ?_)
  refine wpAny_Slice (thn (hl pins s1 σ H1 _ I1 q1) fun vl s2 ⟨l, H2, I2, pl, q2⟩ => thn (hu pins s2 σ H2 _ I2 q2) fun vu s3 ⟨u, H3, I3, pu, q3⟩ => ?_)
  rw [evalPart_none]
  refine wpAny_pure ?_
  have I4 : Inv X pins σ H3 { s3 with heap := s3.heap.push { cls := .type "slice", data := .fields #[vl, vu, .none] } } := I3.kept (t' := s3.toks) fun b ob q => Heap.get?_push_of_some _ q
  obtain ⟨T, id, hT, ht, hg⟩ := hr pins { s3 with heap := s3.heap.push { cls := .type "slice", data := .fields #[vl, vu, .none] } } σ H3 x v vl vu l u s3.heap.objs.size Q I4 r1 (Heap.IsSliceOf.new ..) pl pu q3
  show wpAny (model X.prog X.w) X.A (subscriptTail e (.Slice lo hi none p2) v (.ref s3.heap.objs.size)) (EP X pins σ Q) X.xe { s3 with heap := s3.heap.push { cls := .type "slice", data := .fields #[vl, vu, .none] } }
  exact tail_any (ops := [.ref s3.heap.objs.size, v]) ht hT hg (by with_unfolding_all rfl)
def cutV (xs : List V) (lo hi : Option Int) : List V := (xs.drop (HT.sIx xs.length 0 lo)).take (HT.sIx xs.length xs.length hi - HT.sIx xs.length 0 lo)
theorem cutV_length (xs : List V) (lo hi : Option Int) : (cutV xs lo hi).length ≤ xs.length := by
  unfold cutV
  rw [List.length_take, List.length_drop]
  omega
def rSlT (K : PySem.W.Frag) : V → Option Int → Option Int → Hp → VK → Prop := fun x lo hi H Q => ∃ a xs, x = .ref a ∧ SqT K H a xs ∧
  ¬ (HT.sIx xs.length 0 lo = 0 ∧ HT.sIx xs.length xs.length hi = xs.length) ∧ ∀ p, H p = none → Q (.ref p) (upd H p (.tup (cutV xs lo hi)))
theorem sl_tup : SlR X (rSlT X.K) := by
  intro pins s σ H x v vl vu lo hi sl Q I rx hs pl pu h
  obtain ⟨a, xs, rfl, hx, hw, q⟩ := h
  cases rx
  obtain ⟨its, r, ht, hz⟩ := I.tuple hx
  have hlen : its.toArray.size = xs.length := by rw [List.size_toArray]; exact r.length.symm
  refine ⟨"tuple", _, PyProof.Rows.slot_tuple_getitem.lookup, ht.typeIs, ?_⟩
  refine HT.getItem_tuple_cut ht hs pl pu (by rw [hlen]; exact hw) ?_ (by rw [hlen]; exact hz)
  rw [hlen]
  refine ⟨.ref s.heap.objs.size, _, I.laid (t' := s.toks) (o := .tup (cutV xs lo hi)) (fun b ob q => Heap.get?_push_of_some _ q) (Nat.le_refl _) ?_, rfl, q _ (I.hok.fresh (Nat.le_refl _))⟩
  exact ⟨Nat.le_trans (cutV_length xs lo hi) hz, _, (r.drop (HT.sIx xs.length 0 lo)).take (HT.sIx xs.length xs.length hi - HT.sIx xs.length 0 lo), IsTup.new _ _⟩
def rLtT (K : PySem.W.Frag) : R2 := fun x y H Q => ∃ a b ns ms, x = .ref a ∧ y = .ref b ∧ SqT K H a (ns.map V.int) ∧ SqT K H b (ms.map V.int) ∧ Q (.bl (HT.lexLt ns ms)) H
def rCatT (K : PySem.W.Frag) : R2 := fun x y H Q => ∃ a b xs ys, x = .ref a ∧ y = .ref b ∧ SqT K H a xs ∧ SqT K H b ys ∧ xs ≠ [] ∧ xs.length + ys.length ≤ sizeLine ∧
  (ys = [] → Q (.ref a) H) ∧ (ys ≠ [] → ∀ p, H p = none → Q (.ref p) (upd H p (.tup (xs ++ ys))))
theorem Vals.nil_iff {xs : List V} {us : List Value} (r : Vals xs us) : us = [] ↔ xs = [] := by
  cases r with
  | nil => simp
  | cons _ _ => simp
theorem op_catT : OpR X (binaryOp .Add) (rCatT X.K) := by
  intro pins s σ H x y v u Q I rx ry h
  obtain ⟨a, b, xs, ys, rfl, rfl, ha, hb, hx, hz, q1, q2⟩ := h
  cases rx
  cases ry
  obtain ⟨its, r1, p1, _⟩ := I.tuple ha
  obtain ⟨its2, r2, p2, _⟩ := I.tuple hb
  refine HT.cat_tup p1 p2 (fun z => hx (r1.nil_iff.mp z)) (fun z => ⟨.ref a, H, I, rfl, q1 (r2.nil_iff.mp z)⟩) (fun z => ?_) (by rw [← r1.length, ← r2.length]; exact hz)
  refine ⟨.ref s.heap.objs.size, _, I.laid (t' := s.toks) (o := .tup (xs ++ ys)) (fun b ob q => Heap.get?_push_of_some _ q) (Nat.le_refl _) ?_, rfl, q2 (fun w => z (r2.nil_iff.mpr w)) _ (I.hok.fresh (Nat.le_refl _))⟩
  exact ⟨by rw [List.length_append]; exact hz, _, r1.append r2, IsTup.new _ _⟩
end
end L2
namespace L2
open PySem PySem.Spec PyProof.Rows
def ixN (n : Nat) (i : Int) : Option Nat := if 0 ≤ i then (if i < n then some i.toNat else none) else if -(n : Int) ≤ i then some (i + n).toNat else none
def atI {α : Type} (xs : List α) (i : Int) : Option α := (ixN xs.length i).bind fun j => xs[j]?
theorem ixN_seq {n : Nat} {i : Int} {j : Nat} (h : ixN n i = some j) : seqIndex? i n = some j ∧ j < n ∧ -(n : Int) ≤ i ∧ i < n := by
  unfold ixN at h
  by_cases h0 : 0 ≤ i
  · rw [if_pos h0] at h
    by_cases h1 : i < n
    · rw [if_pos h1] at h
      have e : i.toNat = j := Option.some.inj h
      exact ⟨by rw [seqIndex_of h0 h1, e], by omega, by omega, h1⟩
    · rw [if_neg h1] at h; cases h
  · rw [if_neg h0] at h
    by_cases h1 : -(n : Int) ≤ i
    · rw [if_pos h1] at h
      have e : (i + n).toNat = j := Option.some.inj h
      exact ⟨by rw [seqIndex_neg (by omega) h1, e], by omega, h1, by omega⟩
    · rw [if_neg h1] at h; cases h
theorem atI_get {α : Type} {xs : List α} {i : Int} {v : α} (h : atI xs i = some v) : ∃ j, seqIndex? i xs.length = some j ∧ xs[j]? = some v ∧ j < xs.length ∧ -(xs.length : Int) ≤ i ∧ i < xs.length := by
  unfold atI at h
  cases e : ixN xs.length i with
  | none => rw [e] at h; cases h
  | some j =>
    rw [e] at h
    obtain ⟨h1, h2, h3, h4⟩ := ixN_seq e
    exact ⟨j, h1, h, h2, h3, h4⟩
def PlainIx (b : Expr) : Prop := ∀ o i, subscripted b false o i = operate [o, i] (getItem o i)
def IxR (X : Cx) (r : R2) : Prop :=
  ∀ (value slice : Expr) (pins : List (Addr × Obj)) (s : Shared) (σ : St) (H : Hp) (x y : V) (v u : Value) (Q : VK), Inv X pins σ H s → RelV x v → RelV y u → r x y H Q →
    subscripted slice false v u = operate [v, u] (getItem v u) → wpAny (model X.prog X.w) X.A (subscriptTail value slice v u) (EP X pins σ Q) X.xe s
def MtR (X : Cx) (id : String) (r : V → List V → Hp → VK → Prop) : Prop :=
  ∀ (pins : List (Addr × Obj)) (s : Shared) (σ : St) (H : Hp) (x : V) (xs : List V) (v : Value) (us : List Value) (Q : VK), Inv X pins σ H s → RelV x v → Vals xs us → r x xs H Q →
    wpAny (model X.prog X.w) X.A (call (.builtin id) (v :: us)) (EP X pins σ Q) X.xe s
section
variable {X : Cx} {a b : Expr} {ta tb : TE} {pos : Pos}
theorem IxR.or {r r' : R2} (h : IxR X r) (h' : IxR X r') : IxR X (fun x y H Q => r x y H Q ∨ r' x y H Q) := by
  intro value slice pins s σ H x y v u Q I rx ry q hs
  rcases q with q | q
  · exact h value slice pins s σ H x y v u Q I rx ry q hs
  · exact h' value slice pins s σ H x y v u Q I rx ry q hs
theorem MtR.or {id : String} {r r' : V → List V → Hp → VK → Prop} (h : MtR X id r) (h' : MtR X id r') : MtR X id (fun x xs H Q => r x xs H Q ∨ r' x xs H Q) := by
  intro pins s σ H x xs v us Q I rx rs q
  rcases q with q | q
  · exact h pins s σ H x xs v us Q I rx rs q
  · exact h' pins s σ H x xs v us Q I rx rs q
theorem pe_ix {r : R2} (hr : IxR X r) (ha : PE X a ta) (hb : PE X b tb) (hs : PlainIx b) : PE X (.Subscript a b pos) (tOp r ta tb) := by
  intro pins s σ H Q I h
  exact Subscript_ (binT ha hb I h fun v u s2 x y H2 I2 rx ry q => hr a b pins s2 σ H2 x y v u Q I2 rx ry q (hs _ _))
def rIxL (K : PySem.W.Frag) : R2 := fun x y H Q => ∃ p xs i v, x = .ref p ∧ y = .int i ∧ SqL K H p xs ∧ atI xs i = some v ∧ Q v H
def rIxT (K : PySem.W.Frag) : R2 := fun x y H Q => ∃ p xs i v, x = .ref p ∧ y = .int i ∧ SqT K H p xs ∧ atI xs i = some v ∧ Q v H
def rIxS : R2 := fun x y H Q => ∃ z i c, x = .str z ∧ y = .int i ∧ z.length ≤ sizeLine ∧ atI z.cps.toList i = some c ∧ Q (.str ⟨#[c]⟩) H
theorem ix_list : IxR X (rIxL X.K) := by
  intro value slice pins s σ H x y v u Q I rx ry h hs
  obtain ⟨p, xs, i, z, rfl, rfl, hq, he, q⟩ := h
  cases rx
  obtain ⟨t, rfl⟩ := ry
  obtain ⟨its, r, pl, hz⟩ := I.list hq
  obtain ⟨j, h1, h2, h3, h4, h5⟩ := atI_get he
  obtain ⟨w, ew, rw'⟩ := r.get h2
  have hl := r.length
  have hn := line63
  have fin : EP X pins σ Q w s := ⟨z, H, I, rw', q⟩
  by_cases h0 : 0 ≤ i
  · have hj : i.toNat = j := by
      rw [seqIndex_of h0 h5] at h1
      exact Option.some.inj h1
    exact item_listR pl.isList h0 (by omega) (by rw [hj]; simpa using ew) fin hs
  · have hj : (i + (its.toArray.size : Int)).toNat = j := by
      rw [seqIndex_neg (by omega) h4] at h1
      rw [List.size_toArray, ← hl]
      exact Option.some.inj h1
    exact subscriptTail_builtinR (x := w) pl.isList.typeIs slot_list_getitem.lookup
      (wpAny_getItem_list_neg (Q := fun r s' => r = w ∧ EP X pins σ Q r s') pl.isList (by omega) (by rw [List.size_toArray] <;> omega) (by omega) (by rw [hj]; simpa using ew) ⟨rfl, fin⟩) hs
theorem ix_tup : IxR X (rIxT X.K) := by
  intro value slice pins s σ H x y v u Q I rx ry h hs
  obtain ⟨p, xs, i, z, rfl, rfl, hq, he, q⟩ := h
  cases rx
  obtain ⟨t, rfl⟩ := ry
  obtain ⟨its, r, pl, hz⟩ := I.tuple hq
  obtain ⟨j, h1, h2, h3, h4, h5⟩ := atI_get he
  obtain ⟨w, ew, rw'⟩ := r.get h2
  have hl := r.length
  have hn := line63
  have fin : EP X pins σ Q w s := ⟨z, H, I, rw', q⟩
  exact subscriptTail_builtinR (x := w) pl.typeIs slot_tuple_getitem.lookup
    (getItem_tuple (j := j) (Q := fun r s' => r = w ∧ EP X pins σ Q r s') pl (by omega) (by omega) (by rw [List.size_toArray, ← hl]; exact h1) (by simpa using ew) ⟨rfl, fin⟩) hs
theorem ix_str : IxR X rIxS := by
  intro value slice pins s σ H x y v u Q I rx ry h hs
  obtain ⟨z, i, c, rfl, rfl, hz, he, q⟩ := h
  obtain ⟨t, rfl⟩ := rx
  obtain ⟨t', rfl⟩ := ry
  obtain ⟨j, h1, h2, h3, h4, h5⟩ := atI_get he
  have hl : z.cps.toList.length = z.length := by simp [Str.length]
  rw [hl] at h1 h4 h5
  have hn := line63
  exact tail_any (typeIs_str s z t) slot_str_getitem.lookup (getItem_str (c := c) (by
    have e1 : decide (i < -(2 ^ 63 : Int)) = false := decide_eq_false (by omega)
    have e2 : decide (i ≥ 2 ^ 63) = false := decide_eq_false (by omega)
    rw [e1, e2, Bool.or_false]) (by rw [h1]; simpa using h2) ⟨.str ⟨#[c]⟩, H, I.tok _, ⟨_, rfl⟩, q⟩) hs
def rIx (K : PySem.W.Frag) : R2 := fun x y H Q => rIxL K x y H Q ∨ rIxT K x y H Q ∨ rIxS x y H Q
theorem ix_seq : IxR X (rIx X.K) := ix_list.or (ix_tup.or ix_str)
theorem mapSeq_set (its : List Value) (n j : Nat) (u : Value) : Obj.mapSeq (·.setIfInBounds j u) { cls := .type "list", data := .seq its.toArray n } = { cls := .type "list", data := .seq (its.set j u).toArray n } := by
  simp [Obj.mapSeq]
theorem Inv.lst {pins : List (Addr × Obj)} {σ : St} {H : Hp} {s : Shared} {p : Addr} {xs : List V} (I : Inv X pins σ H s) (h : H p = some (.lst xs)) :
    ∃ (its : List Value) (n : Nat), Vals xs its ∧ s.heap.get? p = some { cls := .type "list", data := .seq its.toArray n } ∧ xs.length ≤ sizeLine := by
  obtain ⟨z, its, n, r, e⟩ := I.hok p _ h
  exact ⟨its, n, r, e, z⟩
theorem Inv.lstUpd {pins : List (Addr × Obj)} {σ : St} {H : Hp} {s : Shared} {p : Addr} {xs ys : List V} {its its' : List Value} {n n' : Nat} {f : Obj → Obj} (I : Inv X pins σ H s) (h : H p = some (.lst xs))
    (ho : s.heap.get? p = some { cls := .type "list", data := .seq its.toArray n }) (hf : f { cls := .type "list", data := .seq its.toArray n } = { cls := .type "list", data := .seq its'.toArray n' }) (r : Vals ys its') (hz : ys.length ≤ sizeLine) (t : Nat) :
    Inv X pins σ (upd H p (.lst ys)) { s with heap := s.heap.update p f, toks := t } := by
  have e : (s.heap.update p f).get? p = some { cls := .type "list", data := .seq its'.toArray n' } := by
    rw [Heap.get?_update_self f ho (by rw [hf] <;> rfl), hf]
  refine I.write (x := p) (e := p) (by rw [h]; trivial) (.inl rfl) (fun b u hb q => (Heap.get?_update_other _ _ (Ne.symm hb)).trans q) ⟨_, e⟩ ?_
  exact ⟨hz, its', n', r, e⟩
def rSetL : V → V → V → Hp → (Hp → Prop) → Prop := fun o i v H Q => ∃ p xs k j, o = .ref p ∧ i = .int k ∧ H p = some (.lst xs) ∧ ixN xs.length k = some j ∧ Q (upd H p (.lst (xs.set j v)))
theorem set_list : PSet X rSetL := by
  intro pins s σ H o i v ov iv u Q I ro ri rv h
  obtain ⟨p, xs, k, j, rfl, rfl, hp, hj, q⟩ := h
  cases ro
  obtain ⟨t, rfl⟩ := ri
  obtain ⟨its, n, r, ho, hz⟩ := I.lst hp
  obtain ⟨h1, h2, h3, h4⟩ := ixN_seq hj
  have hl := r.length
  have hn := line63
  have I' : Inv X pins σ (upd H p (.lst (xs.set j v))) { s with heap := s.heap.update p (Obj.mapSeq (·.setIfInBounds j u)) } :=
    I.lstUpd hp ho (mapSeq_set its n j u) (r.set rv j) (by rw [List.length_set]; exact hz) s.toks
  by_cases h0 : 0 ≤ k
  · have hk : k.toNat = j := by
      rw [seqIndex_of h0 h4] at h1
      exact Option.some.inj h1
    exact PySem.W.ki_setAt ho h0 (by omega) (by rw [List.size_toArray, ← hl]; exact h4) (by rw [hk]; exact ⟨_, I', q⟩)
  · have hk : (k + (its.toArray.size : Int)).toNat = j := by
      rw [seqIndex_neg (by omega) h3] at h1
      rw [List.size_toArray, ← hl]
      exact Option.some.inj h1
    exact PySem.W.ki_setBack ho (by omega) (by rw [List.size_toArray, ← hl]; exact h3) (by omega) (by rw [hk]; exact ⟨_, I', q⟩)
theorem slice_bounds (lo hi : Option Int) (n : Nat) : (sliceBounds lo hi none n).1 = ((HT.sIx n 0 lo : Nat) : Int) ∧ (sliceBounds lo hi none n).2.1 = ((HT.sIx n n hi : Nat) : Int) ∧ (sliceBounds lo hi none n).2.2 = 1 := by
  refine ⟨?_, ?_, rfl⟩
  · cases lo with
    | none => simp [sliceBounds, HT.sIx]
    | some i =>
      simp only [sliceBounds, HT.sIx, Option.getD_none, show (1 : Int) > 0 by decide, if_true]
      by_cases h : i < 0
      · simp only [h, if_true] <;> omega
      · simp only [h, if_false] <;> omega
  · cases hi with
    | none => simp [sliceBounds, HT.sIx]
    | some i =>
      simp only [sliceBounds, HT.sIx, Option.getD_none, show (1 : Int) > 0 by decide, if_true]
      by_cases h : i < 0
      · simp only [h, if_true] <;> omega
      · simp only [h, if_false] <;> omega
theorem slicePick_cut (its : List Value) (lo hi : Option Int) : slicePick its.toArray lo hi none = ((its.drop (HT.sIx its.length 0 lo)).take (HT.sIx its.length its.length hi - HT.sIx its.length 0 lo)).toArray := by
  obtain ⟨h1, h2, h3⟩ := slice_bounds lo hi its.toArray.size
  unfold slicePick
  rw [h1, h2, h3]
  simp only [sliceRange_one, pick_run, List.size_toArray] <;> rfl
def rSlL (K : PySem.W.Frag) : V → Option Int → Option Int → Hp → VK → Prop := fun x lo hi H Q => ∃ a xs, x = .ref a ∧ SqL K H a xs ∧ ∀ p, H p = none → Q (.ref p) (upd H p (.lst (cutV xs lo hi)))
theorem sl_list : SlR X (rSlL X.K) := by
  intro pins s σ H x v vl vu lo hi sl Q I rx hs pl pu h
  obtain ⟨a, xs, rfl, hx, q⟩ := h
  cases rx
  obtain ⟨its, r, ht, hz⟩ := I.list hx
  have hlen := r.length
  refine ⟨"list", _, slot_list_getitem.lookup, ht.isList.typeIs, ?_⟩
  refine wpAny_getItem_list_slice ht.isList hs pl pu .none (by simp) ?_ (by rw [List.size_toArray] <;> omega)
  rw [slicePick_cut, ← hlen]
  refine ⟨.ref s.heap.objs.size, _, I.laid (t' := s.toks) (o := .lst (cutV xs lo hi)) (fun b ob q => Heap.get?_push_of_some _ q) (Nat.le_refl _) ?_, rfl, q _ (I.hok.fresh (Nat.le_refl _))⟩
  exact ⟨Nat.le_trans (cutV_length xs lo hi) hz, _, 0, (r.drop (HT.sIx xs.length 0 lo)).take (HT.sIx xs.length xs.length hi - HT.sIx xs.length 0 lo), Heap.get?_push_size _ rfl⟩
def flatV : V → Bool
  | .non => true
  | .bl _ => true
  | .int _ => true
  | .str _ => true
  | _ => false
def eqV : V → V → Bool
  | .non, .non => true
  | .bl a, .bl b => a == b
  | .bl a, .int b => (if a then 1 else 0) == b
  | .int a, .bl b => a == (if b then 1 else 0)
  | .int a, .int b => a == b
  | .str a, .str b => a == b
  | _, _ => false
def eqU (x : V) (u : Value) : Bool := match u with
  | .none => eqV .non x
  | .bool b => eqV (.bl b) x
  | .int i _ => eqV (.int i) x
  | .str z _ => eqV (.str z) x
  | _ => false
def inV (x : V) (xs : List V) : Bool := xs.any fun y => eqV y x
def rIn (K : PySem.W.Frag) (neg : Bool) : R2 := fun x y H Q => ∃ p xs, y = .ref p ∧ (SqL K H p xs ∨ SqT K H p xs) ∧ flatV x = true ∧ xs.all flatV = true ∧ Q (.bl (if neg then !inV x xs else inV x xs)) H
theorem call_len_seq : CallR X (.builtin "len") (fun xs H Q => ∃ p ys, xs = [.ref p] ∧ (SqL X.K H p ys ∨ SqT X.K H p ys) ∧ Q (.int ys.length) H) := by
  intro pins s σ H xs us Q I r h
  obtain ⟨p, ys, rfl, hq, q⟩ := h
  obtain ⟨u, rfl, rx⟩ := vals1 r
  cases rx
  have hn := line63
  rcases hq with hq | hq
  · obtain ⟨its, r', pl, hz⟩ := I.list hq
    have hlen := r'.length
    exact Calls.call_len_list pl.isList (by simp only [List.size_toArray] <;> omega) ⟨.int ys.length, H, I.tok _, ⟨s.toks + 1, by rw [List.size_toArray, hlen]⟩, q⟩
  · obtain ⟨its, r', pl, hz⟩ := I.tuple hq
    have hlen := r'.length
    exact len_tuple pl (by simp only [List.size_toArray] <;> omega) ⟨.int ys.length, H, I.tok _, ⟨s.toks + 1, by rw [List.size_toArray, hlen]⟩, q⟩
theorem CallR.or {f : Value} {r r' : List V → Hp → VK → Prop} (h : CallR X f r) (h' : CallR X f r') : CallR X f (fun xs H Q => r xs H Q ∨ r' xs H Q) := by
  intro pins s σ H xs us Q I rs q
  rcases q with q | q
  · exact h pins s σ H xs us Q I rs q
  · exact h' pins s σ H xs us Q I rs q
theorem call_list_of : CallR X (.type "list") (fun xs H Q => ∃ p ys, xs = [.ref p] ∧ (SqL X.K H p ys ∨ SqT X.K H p ys) ∧ ∀ l, H l = none → Q (.ref l) (upd H l (.lst ys))) := by
  intro pins s σ H xs us Q I r h
  obtain ⟨p, ys, rfl, hq, q⟩ := h
  obtain ⟨u, rfl, rx⟩ := vals1 r
  cases rx
  have fin : ∀ (its : List Value), Vals ys its → ys.length ≤ sizeLine → ∀ (h' : Heap) (c' : Nat), (∀ b o', s.heap.get? b = some o' → h'.get? b = some o') →
      h'.get? s.heap.objs.size = some { cls := .type "list", dict := none, data := .seq its.toArray c', slots := #[] } → EP X pins σ Q (.ref s.heap.objs.size) { s with heap := h' } := fun its r' hz h' c' kp e =>
    ⟨.ref s.heap.objs.size, _, I.laid (t' := s.toks) kp (Nat.le_refl _) (show ObjOk X.prog X.w _ h' _ (.lst ys) from ⟨hz, its, c', r', e⟩), rfl, q _ (I.hok.fresh (Nat.le_refl _))⟩
  rcases hq with hq | hq
  · obtain ⟨its, r', pl, hz⟩ := I.list hq
    have hlen := r'.length
    obtain ⟨o, ho, hc, n, hd⟩ := pl.isList
    exact call_list_seq p (.inl rfl) ho hc hd (fun h' c' kp e => fin its r' hz h' c' kp e) (by simp only [List.size_toArray] <;> omega)
  · obtain ⟨its, r', pl, hz⟩ := I.tuple hq
    have hlen := r'.length
    obtain ⟨o, ho, hc, n, hd⟩ := pl
    exact call_list_seq p (.inr rfl) ho hc hd (fun h' c' kp e => fin its r' hz h' c' kp e) (by simp only [List.size_toArray] <;> omega)
def tyV (K : PySem.W.Frag) (T : String) (x : V) (H : Hp) : Prop := match x with
  | .str _ => T = "str"
  | .int _ => T = "int"
  | .ref p => (T = "list" ∧ ∃ xs, SqL K H p xs) ∨ (T = "tuple" ∧ ∃ o, K.lookup p = some o ∧ o.cls = .type "tuple" ∧ o.dict = none) ∨
      (T = "dict" ∧ ((∃ kvs, H p = some (.dK kvs)) ∨ ∃ kvs, H p = some (.dT kvs))) ∨ (T = "set" ∧ ∃ S n, H p = some (.set S n))
  | _ => False
theorem tyV_is {pins : List (Addr × Obj)} {σ : St} {H : Hp} {s : Shared} {T : String} {x : V} {v : Value} (I : Inv X pins σ H s) (r : RelV x v) (ty : tyV X.K T x H) :
    s.TypeIs v T ∧ ∀ a, v = .ref a → ∃ ob, s.heap.get? a = some ob ∧ ob.dict = none := by
  cases x with
  | str z =>
    obtain ⟨t, rfl⟩ := r
    cases (show T = "str" from ty)
    exact ⟨typeIs_str s z t, fun _ e => nomatch e⟩
  | int i =>
    obtain ⟨t, rfl⟩ := r
    cases (show T = "int" from ty)
    exact ⟨typeIs_int s i t, fun _ e => nomatch e⟩
  | ref p =>
    cases r
    rcases ty with ⟨rfl, xs, hq⟩ | ⟨rfl, o, hk, hc, hd⟩ | ⟨rfl, hk⟩ | ⟨rfl, S, n, hk⟩
    · obtain ⟨its, _, pl, _⟩ := I.list hq
      refine ⟨pl.isList.typeIs, fun a e => ?_⟩
      cases e
      obtain ⟨o, n, e, c, hd, _⟩ := pl
      exact ⟨o, e, hd⟩
    · refine ⟨⟨o, I.kIn p o hk, hc⟩, fun a e => ?_⟩
      cases e
      exact ⟨o, I.kIn _ o hk, hd⟩
    · have z : ∃ o, s.heap.get? p = some o ∧ o.ExactDict := by
        rcases hk with ⟨kvs, hk⟩ | ⟨kvs, hk⟩
        · obtain ⟨_, _, _, _, o, _, _, e, ex, _⟩ := I.hok p _ hk
          exact ⟨o, e, ex⟩
        · obtain ⟨_, _, _, _, o, _, _, e, ex, _⟩ := I.hok p _ hk
          exact ⟨o, e, ex⟩
      obtain ⟨o, e, ex⟩ := z
      refine ⟨⟨o, e, ex.1⟩, fun a e2 => ?_⟩
      cases e2
      exact ⟨o, e, ex.2.1⟩
    · obtain ⟨o, _, _, _, e, ex, _⟩ := I.hok p _ hk
      refine ⟨⟨o, e, ex.1⟩, fun a e2 => ?_⟩
      cases e2
      exact ⟨o, e, ex.2.1⟩
  | _ => exact False.elim ty
def tBM0 (K : PySem.W.Frag) (T : String) (r : V → List V → Hp → VK → Prop) (to : TE) : TE := fun σ H Q => to σ H fun x H1 => tyV K T x H1 ∧ r x [] H1 Q
def tBM (K : PySem.W.Frag) (T : String) (r : V → List V → Hp → VK → Prop) (to : TE) (t : TA) : TE := fun σ H Q => to σ H fun x H1 => tyV K T x H1 ∧ t σ H1 fun xs H2 => r x xs H2 Q
variable {o e : Expr} {es : List Expr} {to : TE} {t : TA} {name : Str} {apos cpos : Pos} {T id : String} {r : V → List V → Hp → VK → Prop}
theorem pe_bm (pa : PlainAttrs T) (slot : Slot T name id) (hty : typeOf (.builtin id) = pure (.type "method_descriptor")) (hm : MtR X id r) (ho : PE X o to) (ha : PA X (e :: es) t)
    (hbase : attributeBase o name X.env (eval o X.env) = eval o X.env := by rfl)
    (hfew : ((backTo cpos (starEach (e :: es) X.env)).all (fun x => !x.1) && (backToKw cpos (keywordEach [] X.env)).all (fun x => x.1.isSome)
      && decide ((e :: es).length + ([] : List Keyword).length + (if ([] : List Keyword).isEmpty then 0 else 1) < 30)) = true := by rfl)
    (hline : (apos.endLine == cpos.line) = true := by rfl) (hs : starEach (e :: es) X.env = (false, eval e X.env) :: starEach es X.env := by rfl) (hplain : (backTo cpos (starEach es X.env)).any (·.1) = false := by rfl) :
    PE X (.Call (.Attribute o name apos) (e :: es) [] cpos) (tBM X.K T r to t) := by
  intro pins s σ H Q I h
  refine wpAny_Call_method_late hbase hfew hline rfl (thn (ho pins s σ H _ I h) fun v s1 ⟨x, H1, I1, r1, ty, q1⟩ => ?_)
  obtain ⟨h1, h2⟩ := tyV_is I1 r1 ty
  refine ⟨T, id, pa, slot, hty, h1, h2, ?_⟩
  have hA := ha cpos pins s1 σ H1 _ I1 q1
  rw [hs] at hA ⊢
  refine Calls.callWith_builtin (by show (false || (backTo cpos (starEach es X.env)).any (·.1)) = false; rw [hplain] <;> rfl) (Calls.evalArgs_plain ?_)
  exact thn hA fun us s2 ⟨vs, H2, I2, r2, q2⟩ => hm pins s2 σ H2 x vs v us Q I2 r1 r2 q2
end
end L2
namespace L2
open PySem PySem.Spec PyProof.Rows
def MtM (X : Cx) (id : String) (r : V → List V → Hp → VK → Prop) : Prop :=
  ∀ (pins : List (Addr × Obj)) (s : Shared) (σ : St) (H : Hp) (x : V) (xs : List V) (v : Value) (us : List Value) (Q : VK), Inv X pins σ H s → RelV x v → Vals xs us → r x xs H Q →
    wpAny (model X.prog X.w) X.A (call (.builtin id) (v :: us)) (EP X pins σ Q) X.xe s
theorem Vals.one : ∀ {x : V} {us : List Value}, Vals [x] us → ∃ u, us = [u] ∧ RelV x u
  | _, _, .cons r .nil => ⟨_, rfl, r⟩
theorem Vals.two : ∀ {x y : V} {us : List Value}, Vals [x, y] us → ∃ u v, us = [u, v] ∧ RelV x u ∧ RelV y v
  | _, _, _, .cons r (.cons q .nil) => ⟨_, _, rfl, r, q⟩
theorem Vals.zero : ∀ {us : List Value}, Vals [] us → us = []
  | _, .nil => rfl
theorem Vals.dropLast {xs : List V} {us : List Value} (h : Vals xs us) : Vals xs.dropLast us.dropLast := by
  induction h with
  | nil => exact .nil
  | cons r t ih =>
    cases t with
    | nil => exact .nil
    | cons q t' => exact .cons r ih
theorem Vals.eraseIdx : ∀ {xs : List V} {us : List Value} (i : Nat), Vals xs us → Vals (xs.eraseIdx i) (us.eraseIdx i)
  | _, _, _, .nil => .nil
  | _, _, 0, .cons _ t => t
  | _, _, i + 1, .cons r t => .cons r (Vals.eraseIdx i t)
theorem Vals.reverse {xs : List V} {us : List Value} (h : Vals xs us) : Vals xs.reverse us.reverse := by
  induction h with
  | nil => exact .nil
  | cons r t ih => rw [List.reverse_cons, List.reverse_cons]; exact Vals.append ih (.cons r .nil)
section
variable {X : Cx} {pins : List (Addr × Obj)} {σ : St} {H : Hp} {s : Shared} {l b : Addr} {xs ys zs : List V}
theorem Inv.lset {its its' : List Value} {n : Nat} {f : Array Value → Array Value} {t' : Nat} (I : Inv X pins σ H s) (hH : H l = some (.lst xs))
    (e : s.heap.get? l = some { cls := .type "list", data := .seq its.toArray n }) (hf : f its.toArray = its'.toArray) (hv : Vals ys its') (hz : ys.length ≤ sizeLine) :
    Inv X pins σ (upd H l (.lst ys)) { s with heap := s.heap.update l (Obj.mapSeq f), toks := t' } := by
  have q := PySem.IsL.update e f
  rw [hf] at q
  refine I.write (x := l) (e := l) (by rw [hH]; exact trivial) (.inl rfl) (fun b' u hb hu => (Heap.get?_update_other s.heap (Obj.mapSeq f) (Ne.symm hb)).trans hu) ⟨_, q⟩ ?_
  exact ⟨hz, its', _, hv, q⟩
theorem Inv.lnew {its : List Value} {t' : Nat} (I : Inv X pins σ H s) (hv : Vals ys its) (hz : ys.length ≤ sizeLine) :
    Inv X pins σ (upd H s.heap.objs.size (.lst ys)) { s with heap := s.heap.push { cls := .type "list", data := .seq its.toArray }, toks := t' } :=
  I.laid (fun _ _ q => Heap.get?_push_of_some _ q) (Nat.le_refl _) ⟨hz, its, 0, hv, Heap.get?_push_size _ rfl⟩
theorem Inv.fresh (I : Inv X pins σ H s) : H s.heap.objs.size = none := I.hok.fresh (Nat.le_refl _)
theorem Inv.lstM (I : Inv X pins σ H s) (hH : H l = some (.lst xs)) : xs.length ≤ sizeLine ∧ ∃ (its : List Value) (n : Nat), Vals xs its ∧ xs.length = its.length ∧ s.heap.get? l = some { cls := .type "list", data := .seq its.toArray n } := by
  obtain ⟨z, its, n, r, e⟩ := I.hok l _ hH
  exact ⟨z, its, n, r, r.length, e⟩
end
section
variable {X : Cx}
def rAppend : V → List V → Hp → VK → Prop := fun x vs H Q => ∃ l xs y, x = .ref l ∧ vs = [y] ∧ H l = some (.lst xs) ∧ xs.length < sizeLine ∧ Q .non (upd H l (.lst (xs ++ [y])))
theorem mt_append : MtM X "list.append" rAppend := by
  intro pins s σ H x vs v us Q I rx rv h
  obtain ⟨l, xs, y, rfl, rfl, hH, hz, q⟩ := h
  cases rx
  obtain ⟨u, rfl, ru⟩ := rv.one
  obtain ⟨z, its, n, r, hl, e⟩ := I.lstM hH
  refine call_meets F.slot_list_append ⟨_, e, rfl⟩ F.entry_list_append (F.args_list_append_2 _ _) (PySem.list_append l its.toArray n u (by rw [List.size_toArray]; omega)) ⟨e, ?_⟩
  refine ⟨.non, _, I.lset (its' := its ++ [u]) hH e (by simp) (r.append (.cons ru .nil)) ?_, rfl, q⟩
  rw [List.length_append, List.length_singleton]
  omega
def rExtend : V → List V → Hp → VK → Prop := fun x vs H Q => ∃ l b xs zs, x = .ref l ∧ vs = [.ref b] ∧ H l = some (.lst xs) ∧ H b = some (.lst zs) ∧ xs.length + zs.length ≤ sizeLine ∧ Q .non (upd H l (.lst (xs ++ zs)))
def rPop : V → List V → Hp → VK → Prop := fun x vs H Q => ∃ l xs y, x = .ref l ∧ vs = [] ∧ H l = some (.lst xs) ∧ xs[xs.length - 1]? = some y ∧ Q y (upd H l (.lst xs.dropLast))
def rPopAt : V → List V → Hp → VK → Prop := fun x vs H Q => ∃ l xs i k y, x = .ref l ∧ vs = [.int i] ∧ H l = some (.lst xs) ∧ -(2 ^ 63) ≤ i ∧ i < 2 ^ 63 ∧ seqIndex? i xs.length = some k ∧ xs[k]? = some y ∧ Q y (upd H l (.lst (xs.eraseIdx k)))
def rReverse : V → List V → Hp → VK → Prop := fun x vs H Q => ∃ l xs, x = .ref l ∧ vs = [] ∧ H l = some (.lst xs) ∧ Q .non (upd H l (.lst xs.reverse))
def rClear : V → List V → Hp → VK → Prop := fun x vs H Q => ∃ l xs, x = .ref l ∧ vs = [] ∧ H l = some (.lst xs) ∧ Q .non (upd H l (.lst []))
def rCat : R2 := fun x y H Q => ∃ l b xs zs, x = .ref l ∧ y = .ref b ∧ H l = some (.lst xs) ∧ H b = some (.lst zs) ∧ xs.length + zs.length ≤ sizeLine ∧ ∀ p, H p = none → Q (.ref p) (upd H p (.lst (xs ++ zs)))
theorem op_cat : OpR X (binaryOp .Add) rCat := by
  intro pins s σ H x y v u Q I rx ry h
  obtain ⟨l, b, xs, zs, rfl, rfl, hH, hB, hz, q⟩ := h
  cases rx
  cases ry
  obtain ⟨z, its, n, r, hl, e⟩ := I.lstM hH
  obtain ⟨z2, its2, n2, r2, hl2, e2⟩ := I.lstM hB
  refine PySem.P.add_list e e2 ?_ (by rw [List.size_toArray, List.size_toArray]; omega)
  have ea : its.toArray ++ its2.toArray = (its ++ its2).toArray := by simp
  rw [ea]
  exact ⟨.ref _, _, I.lnew (t' := s.toks) (r.append r2) (by rw [List.length_append]; omega), rfl, q _ I.fresh⟩
def rRep : R2 := fun x y H Q => ∃ l k xs, x = .ref l ∧ y = .int k ∧ H l = some (.lst xs) ∧ -(2 ^ 63) ≤ k ∧ k < 2 ^ 63 ∧ xs.length * k.toNat ≤ sizeLine ∧
  ∀ p, H p = none → Q (.ref p) (upd H p (.lst (List.replicate k.toNat xs).flatten))
end
section
variable {prog : Program} {w : World} {A : Around} {E : Value → Shared → Prop} {s : Shared}
end
section
variable {X : Cx}
end
end L2
namespace Att
open PySem PySem.W PySem.Calls PyProof.Rows
theorem ints_of_wellAll {P : Params} {h : Heap} : ∀ (ns : List Int) (vs : List Value), WellAll P h vs (ns.map WData.int) → IntsAre vs ns := by
  intro ns
  induction ns with
  | nil =>
    intro vs w
    rw [List.map_nil] at w
    cases w
    exact .nil
  | cons n ns ih =>
    intro vs w
    rw [List.map_cons] at w
    cases w with
    | cons a b =>
      cases a
      exact .cons _ _ (ih _ b)
theorem script_of {l : OpenLaw} {n : Nat} (hn : l.most = some n) {P : Params} {h : Heap} {args : List WData} {vals : List Value}
    (hpre : l.row.toRowW.claim.pre args = true) (hwl : WellAll P h vals args) :
    ∃ a vs ns, vals = [Value.ref a] ∧ args = [WData.list (ns.map WData.int)] ∧ h.get? a = some { cls := .type "list", data := .seq vs.toArray } ∧ IntsAre vs ns ∧ ns.length ≤ n := by
  have hsh : WShape.hasAll [] args [.list .int] = true := (pre_splitW hpre).1
  have hc : l.pre.holds [] { args := args } = true := (pre_splitW hpre).2
  obtain ⟨d, r, rfl, h1, h2⟩ := hasAllW_cons hsh
  obtain rfl := hasAllW_nil h2
  obtain ⟨xs, rfl, h3⟩ := hasW_list h1
  obtain ⟨ns, rfl⟩ := items_int h3
  have hlen : ns.length ≤ n := by
    unfold OpenLaw.pre at hc
    have h4 : (WTm.not (.lt (.lit (.int (n : Int))) (.len (.arg 0)))).holds [] { args := [.list (ns.map .int)] } = true := by
      have h4 := (holds_andW hc).1
      rw [hn] at h4
      exact h4
    have h5 := condW_of h4 (w_not (w_lt w_lit (w_len_list (w_arg rfl))))
    rw [List.length_map] at h5
    refine Nat.le_of_not_lt fun q => ?_
    have q' : (n : Int) < ((ns.length : Nat) : Int) := by omega
    first
      | (rw [decide_eq_true q'] at h5; exact absurd h5 (by decide))
      | (simp at h5; omega)
  cases hwl with
  | cons w1 w2 =>
    cases w2
    cases w1 with
    | list ho hall => exact ⟨_, _, ns, rfl, rfl, ho, ints_of_wellAll ns _ hall, hlen⟩
theorem post_true (l : OpenLaw) (args : List WData) : l.row.toRowW.claim.post args (.bool true) args = true :=
  postW_of (r := l.row.toRowW) (X := (true == true))
    (show WShape.has [] (.bool true) .bool = true by first | rfl | decide | simp [WShape.has, WShape.arms, WShape.armsAll])
    (show (WTm.eq .res (.lit (.bool true))).value [] { args := args, res := some (.bool true), after := args } = some (.bool (true == true)) from w_eq_bool (w_res rfl) w_lit) rfl
theorem attach_call {l : OpenLaw} {n : Nat} {q : Program} {loose : List Str} {XP : (Str → Option Value) → Heap → Prop} {YP : World → Heap → Prop} {d : DefRec}
    (hn : l.most = some n) (hdf : d.params.defaults = [])
    (call : ∀ (w : World) (s₀ s₁ : Shared) (mg mb : Str → Option Value) (fa : Addr) (o : Obj) (pm cd doc : Value) (a : Addr) (vs : List Value) (ns : List Int),
      Ground q loose [] XP w s₀ mg mb s₁.heap → YP w s₁.heap →
      s₁.heap.get? fa = some o → o.data = .func (docDef d.name d.params d.body d.scope pm cd doc) → s₁.heap.CodeRec cd d.name → mg d.name = some (.ref fa) →
      s₁.heap.get? a = some { cls := .type "list", data := .seq vs.toArray } → IntsAre vs ns → ns.length ≤ n → s₁.gens = #[] →
      codeAny (model l.prog w) callerA (.call (.ref fa) ⟨[.ref a], []⟩) (fun r s' => r = .ok (.ret (.bool true)) ∧ OldK s₁.heap s'.heap ∧ s'.os = s₁.os ∧ AllBare s'.gens) s₁) :
    WalkO q loose XP YP l.row.toRowW d [] (fun f vs => PySem.call f vs) := by
  intro w s₀ s₁ mg mb G Y fa o pm cd doc dV kV ho hd hcd hD hmg hg args vals as hpre hlay hrd hwl hlo
  obtain rfl : dV = .none := Dflts.none hD hdf
  obtain rfl : kV = .none := Dflts.noKw hD
  obtain ⟨a, vs, ns, rfl, rfl, hobj, hints, hlen⟩ := script_of hn hpre hwl
  refine enter_call (codeAny_mono (call w s₀ s₁ mg mb fa o pm cd doc a vs ns G Y ho (fd_plain hd) hcd hmg hobj hints hlen hg) fun r s' hq => ?_)
  obtain ⟨rfl, h2, h3, h4⟩ := hq
  exact ⟨.inl ⟨.bool true, .bool true, [], rfl, fun _ => rfl, .bool true, post_true l _, fun _ => ⟨List.Pairwise.nil, fun _ hm => (nomatch hm)⟩⟩, h2, h3, h4⟩
section
variable {prog : Program} {w : World} {A : Around} {E : Value → Shared → Prop} {s : Shared} {K : Frag}
def noObjs (h : Heap) : Heap := { h with objs := #[] }
def ledger (h : Heap) (L d : Addr) : List (Addr × Obj) := (List.range h.objs.size).filterMap fun a => if a = L ∨ a = d then none else (h.get? a).map fun o => (a, o)
end
end Att
namespace L2
open PySem PySem.Spec PyProof.Rows
theorem vals_ints : ∀ {vs : List Value} {ns : List Int}, IntsAre vs ns → Vals (ns.map V.int) vs
  | _, _, .nil => .nil
  | _, _, .cons n t h => .cons ⟨t, rfl⟩ (vals_ints h)
def Only (H : Hp) : Prop := ∀ b, H b = none ∨ ∃ o xs, H b = some (.frz o (.lst xs))
theorem law_call {P : Program} {w : World} {K : PySem.W.Frag} {mg mb : Str → Option Value} {CX : CXT} {k : Nat} {fa a : Addr} {fd : FuncData} {x : Str} {sp : Sp} {s₁ : Shared} {vs : List Value} {ns : List Int}
    (KX : K.In s₁.heap) (hns : s₁.heap.Ns mainGlobals mg) (hb : s₁.heap.Ns builtinsNs mb) (hbb : ∀ x : Str, x ≠ "__name__" → mb x = bootBuiltins x) (hlim : s₁.heap.NoLimit) (hg : s₁.gens = #[])
    (ha : s₁.heap.get? a = some { cls := .type "list", data := .seq vs.toArray }) (hi : IntsAre vs ns) (hl : ns.length ≤ sizeLine) (hr : Room k callerA)
    (F : ∀ base : Heap, K.In base → base.Ns mainGlobals mg → FnOk P w K mg base CX k fa fd [x] sp) (hbind : ∀ (s : Shared) (u : Value), BindsTo s fd ⟨[u], []⟩ [(x, u)])
    (hsp : ∀ H : Hp, Only H → SqL K H a (ns.map V.int) → sp [.ref a] H (fun v _ => v = .bl true) fun _ _ _ => False)
    (hCX : ∀ H e s', CX [] H s₁ (fun _ _ _ => False) e s' → False) :
    codeAny (model P w) callerA (.call (.ref fa) ⟨[.ref a], []⟩) (fun r s' => r = .ok (.ret (.bool true)) ∧ OldK s₁.heap s'.heap ∧ s'.os = s₁.os ∧ AllBare s'.gens) s₁ := by
  have rv := vals_ints hi
  have lenV := hi.length
  -- from an abstract heap in which nothing but the script may be tracked
  have core : ∀ H : Hp, Only H → SqL K H a (ns.map V.int) → HOk P w H s₁.heap → (∀ b, H b ≠ none → b = a) → (H a ≠ none → K.lookup a = none) →
      codeAny (model P w) callerA (.call (.ref fa) ⟨[.ref a], []⟩) (fun r s' => r = .ok (.ret (.bool true)) ∧ OldK s₁.heap s'.heap ∧ s'.os = s₁.os ∧ AllBare s'.gens) s₁ := by
    intro H hO hS hok hA hK
    have base_of : ∀ {b : Addr} {o : Obj}, s₁.heap.get? b = some o → H b = none → (hidT s₁.heap H).get? b = some o := fun e n => hidT_get e n
    have noA : ∀ {b : Addr} {o : Obj} {es : Array DictEntry} {ep : Nat}, s₁.heap.get? b = some o → o.data = .dict es ep → H b = none := fun {b o es ep} e d => by
      cases q : H b with
      | none => rfl
      | some u =>
        have e' : b = a := hA b (by rw [q]; simp)
        subst e'
        rw [ha] at e; cases e
        have d' : Data.seq vs.toArray _ = Data.dict es ep := d
        cases d'
    have nsK : ∀ {b : Addr} {m : Str → Option Value}, s₁.heap.Ns b m → (hidT s₁.heap H).Ns b m := fun {b m} ⟨o, es, ep, e, d, r⟩ => ⟨o, es, ep, base_of e (noA e d), d, r⟩
    have hKb : K.In (hidT s₁.heap H) := fun b o e => base_of (KX b o e) (by
      cases q : H b with
      | none => rfl
      | some u =>
        have e' : b = a := hA b (by rw [q]; simp)
        subst e'
        rw [hK (by rw [q]; simp)] at e; cases e)
    have hM : Mod K mg (hidT s₁.heap H) := ⟨hKb, nsK hns, ⟨mb, nsK hb, hbb⟩, let ⟨mc, h1, h2⟩ := hlim; ⟨mc, nsK h1, h2⟩⟩
    have e0 : Env0 P w K mg (hidT s₁.heap H) callerA [] s₁ H := ⟨rfl, hM, fun b o e => of_hidT e, Nat.le_of_eq (hidT_size _ _), trivial, fun b hb => absurd (show b ∈ ([] : List Addr) from hb) (by simp), hok, .of_eq hg⟩
    refine codeAny_mono ((F _ hKb (nsK hns)).run callerA [] s₁ H ⟨[.ref a], []⟩ [.ref a] [.ref a] _ _ hr e0 (hbind s₁ (.ref a)) (.cons rfl .nil) (hsp H hO hS)) fun r s' h => ?_
    cases r with
    | error e => exact (hCX H e s' h).elim
    | ok fl =>
      cases fl with
      | next => exact False.elim h
      | brk => exact False.elim h
      | cont => exact False.elim h
      | ret u =>
        obtain ⟨v, H', os, bare, un, hok', r', q⟩ := h
        have q' : v = .bl true := q
        subst q'
        obtain rfl : u = Value.bool true := r'
        refine ⟨rfl, OldK.of_keep fun b o e => ?_, os, bare⟩
        cases q : H b with
        | none => exact un.keep b o e q (by intro z; exact absurd (show b ∈ ([] : List Addr) from z) (by simp)) (by simp)
        | some u =>
          rcases hO b with z | ⟨ob, xs, z⟩
          · rw [q] at z; cases z
          · have z2 := un.frzs b ob _ z
            obtain ⟨e1, _⟩ := hok b _ z
            obtain ⟨e2, _⟩ := hok' b _ z2
            rw [e] at e1; cases e1
            exact e2
  cases hk : K.lookup a with
  | some o =>
    -- the script is one of the module's own objects
    have e := KX a o hk
    rw [ha] at e
    cases e
    refine core (fun _ => none) (fun _ => .inl rfl) (.inr ⟨_, vs.toArray, _, hk, rfl, rfl, rfl, by rw [List.size_toArray, lenV]; exact hl, by simpa using rv⟩) (fun b u z => by have z' : (none : Option HO) = some u := z; cases z') (fun b z => absurd rfl z) fun z => absurd rfl z
  | none =>
    refine core (fun b => if b = a then some (.frz { cls := .type "list", data := .seq vs.toArray } (.lst (ns.map V.int))) else none) (fun b => ?_) (.inl (.inr ⟨{ cls := .type "list", data := .seq vs.toArray }, if_pos rfl⟩)) (fun b u z => ?_) (fun b z => ?_) fun _ => hk
    · by_cases hb : b = a
      · exact .inr ⟨_, _, if_pos hb⟩
      · exact .inl (if_neg hb)
    · by_cases hb : b = a
      · have z' := (if_pos hb).symm.trans z
        cases z'
        subst hb
        exact ⟨ha, by rw [List.length_map]; exact hl, vs, _, rv, ha⟩
      · have z' := (if_neg hb).symm.trans z
        cases z'
    · by_cases hb : b = a
      · exact hb
      · exact absurd (if_neg hb) z
end L2
namespace L2
open PySem PySem.Spec PyProof.Rows
abbrev KOf {K : PySem.W.Frag} {h : Heap} (_ : K.In h) : PySem.W.Frag := K
theorem walk_of {l : PySem.W.OpenLaw} {n k : Nat} {q : Program} {loose : List Str} {XP : (Str → Option Value) → Heap → Prop} {YP : World → Heap → Prop} {d : DefRec} {K : Params → PySem.W.Frag} {CX : World → CXT} {sp : World → Sp} {x : Str}
    (hn : l.most = some n) (hn2 : n ≤ sizeLine) (hdf : d.params.defaults = []) (hr : Room k callerA)
    (hY : ∀ (w : World) (h : Heap), YP w h → (K w.params).In h)
    (F : ∀ (w : World) (mg : Str → Option Value) (fa : Addr) (h : Heap), (K w.params).In h → h.Ns mainGlobals mg → mg d.name = some (.ref fa) →
      ∃ fd : FuncData, (∀ (s : Shared) (u : Value), BindsTo s fd ⟨[u], []⟩ [(x, u)]) ∧
        ∀ base : Heap, (K w.params).In base → base.Ns mainGlobals mg → FnOk l.prog w (K w.params) mg base (CX w) k fa fd [x] (sp w))
    (hsp : ∀ (w : World) (H : Hp) (a : Addr) (ns : List Int), ns.length ≤ n → Only H → SqL (K w.params) H a (ns.map V.int) → sp w [.ref a] H (fun v _ => v = .bl true) fun _ _ _ => False)
    (hCX : ∀ (w : World) (H : Hp) (s : Shared) (e : Value) (s' : Shared), CX w [] H s (fun _ _ _ => False) e s' → False) :
    PySem.W.WalkO q loose XP YP l.row.toRowW d [] (fun f vs => PySem.call f vs) := by
  refine Att.attach_call hn hdf fun w s₀ s₁ mg mb fa o pm cd doc a vs ns G Y ho hd hcd hmg hobj hints hlen hg => ?_
  have KX := hY w _ Y
  obtain ⟨fd, hb, hF⟩ := F w mg fa _ KX G.T.g hmg
  exact law_call KX G.T.g G.T.b G.T.builtins G.T.nolimit hg hobj hints (Nat.le_trans hlen hn2) hr hF hb (fun H hO hS => hsp w H a ns hlen hO hS) fun H e s' => hCX w H s₁ e s'
end L2
namespace L2
open PySem PySem.Spec PyProof.Rows
def inClass (s : Stmt) (j : Nat) : Stmt := match s with
  | .ClassDef _ _ _ body _ _ _ _ _ _ _ => body.getD j (.Pass ⟨0, 0, 0, 0⟩)
  | _ => .Pass ⟨0, 0, 0, 0⟩
def defArgs (s : Stmt) : Arguments := match s with
  | .FunctionDef _ a _ _ _ _ _ _ _ _ => a
  | _ => { posonlyargs := [], args := [], vararg := none, kwonlyargs := [], kw_defaults := [], kwarg := none, defaults := [] }
def defBody (s : Stmt) : List Stmt := match s with
  | .FunctionDef _ _ b _ _ _ _ _ _ _ => b
  | _ => []
def defScope (s : Stmt) : Scope := match s with
  | .FunctionDef _ _ _ _ _ _ sc _ _ _ => sc
  | _ => { kind := .function, names := [], isGenerator := false, isCoroutine := false }
abbrev CX0 : CXT := fun _ _ _ _ _ _ => False
abbrev E0 : XK := fun _ _ _ => False
theorem pass0 {X : Cx} : Passes CX0 X E0 := fun _ _ _ _ _ _ _ h => h.elim
structure Fun (K : PySem.W.Frag) (x qual : Str) (st : Stmt) (f : Addr) (fd : FuncData) : Prop where
  ex : ∃ (oc : Value) (od : Option Addr) (kV doc pm : Value) (an : Option Addr) (cdv ct : Value) (osl : Array (Option Value)),
    fd = PySem.W.fnOf x qual (defArgs st) (defBody st) (defScope st) .none kV doc pm an cdv ct ∧ K.lookup f = some ⟨oc, od, .func fd, osl⟩ ∧ PySem.W.codeIn K cdv qual = true
  kp : PySem.W.keepIn K (.ref f) = true
section
variable {P : Program} {w : World} {K : PySem.W.Frag} {mg : Str → Option Value} {base : Heap}
theorem Fun.ok {x qual : Str} {st : Stmt} {f : Addr} {fd : FuncData} {N ps : List Str} {k : Nat} {sp : Sp} (F : Fun K x qual st f fd) (S : FnScope N ps (defScope st)) (len : ∀ vs H Q E, sp vs H Q E → vs.length = ps.length)
    (hbody : ∀ (cdv : Value) (A : Around) (outer : List Env) (s : Shared) (H : Hp) (vs : List V) (Q : VK) (E : XK), Room k (A.deeper (envOfC qual (defScope st) s.heap.objs.size f cdv)) → sp vs H Q E →
      ∃ t, PSs (cxOf CX0 P w K mg base N qual (defScope st) f cdv A outer s H E).nox (defBody st) t ∧ t { nx := fun _ H' => Q .non H', rt := Q } (start N vs) H) : FnOk P w K mg base CX0 (k + 1) f fd ps sp := by
  obtain ⟨oc, od, kV, doc, pm, an, cdv, ct, osl, rfl, lk, hcd⟩ := F.ex
  refine fn_of lk hcd S len fun A outer s H vs Q E hr hsp => ?_
  obtain ⟨t, h, q⟩ := hbody cdv A outer s H vs Q E hr hsp
  exact ⟨t, h.nox, q⟩
theorem Fun.binds {x qual : Str} {st : Stmt} {f : Addr} {fd : FuncData} {ps : List Str} (F : Fun K x qual st f fd)
    (h : ∀ (kV doc pm : Value) (an : Option Addr) (cdv ct : Value) (us : List Value), us.length = ps.length → bindArgs (PySem.W.fnOf x qual (defArgs st) (defBody st) (defScope st) .none kV doc pm an cdv ct) ⟨us, []⟩ = pure (ps.zip us)) : Binds K fd ps [] := by
  obtain ⟨oc, od, kV, doc, pm, an, cdv, ct, osl, rfl, lk, hcd⟩ := F.ex
  exact .all (h kV doc pm an cdv ct)
theorem fun_mk {x qual : Str} {st : Stmt} {f : Addr} {oc : Value} {od an : Option Addr} {osl : Array (Option Value)} {kV doc pm cdv ct : Value} (l : K.lookup f = some ⟨oc, od, .func (PySem.W.fnOf x qual (defArgs st) (defBody st) (defScope st) .none kV doc pm an cdv ct), osl⟩)
    (c : PySem.W.codeIn K cdv qual = true) (k : PySem.W.keepIn K (.ref f) = true) : Fun K x qual st f (PySem.W.fnOf x qual (defArgs st) (defBody st) (defScope st) .none kV doc pm an cdv ct) := ⟨⟨oc, od, kV, doc, pm, an, cdv, ct, osl, rfl, l, c⟩, k⟩
end
section
variable {X : Cx}
theorem pv (i : Nat) {x : Str} {pos : Pos} (hN : X.N[i]? = some x := by rfl) (hv : Vis X.env.scope x := by first | exact Or.inl rfl | exact Or.inr (Or.inl rfl) | exact Or.inr (Or.inr rfl)) (hd : (x == ("__debug__" : Str)) = false := by decide)
    (hcd : (x == ("__classdict__" : Str)) = false := by decide) : PE X (.Name x pos) (tVar i) := pe_var hN hv hd hcd
end
def Same (H H' : Hp) : Prop := ∀ b o, H b = some o → H' b = some o
theorem Same.refl (H : Hp) : Same H H := fun _ _ h => h
theorem Same.trans {H H1 H2 : Hp} (a : Same H H1) (b : Same H1 H2) : Same H H2 := fun c o h => b c o (a c o h)
theorem Same.free {H H' : Hp} (e : Same H H') {l : Addr} (h : H' l = Option.none) : H l = Option.none := by
  cases q : H l with
  | none => rfl
  | some o =>
    rw [e l o q] at h
    cases h
theorem Same.seq {K : PySem.W.Frag} {H H' : Hp} {a : Addr} {xs : List V} (e : Same H H') (h : SqL K H a xs) : SqL K H' a xs := by
  rcases h with (h | ⟨o, h⟩) | h
  · exact .inl (.inl (e _ _ h))
  · exact .inl (.inr ⟨o, e _ _ h⟩)
  · exact .inr h
end L2
namespace L2
open PySem PySem.Spec PyProof.Rows
section
variable {κ : Type} [DecidableEq κ]
def valV (kvs : List (κ × V)) (k : κ) : Option V := (kvs.find? fun kv => decide (kv.1 = k)).map (·.2)
def putK (kvs : List (κ × V)) (k : κ) (v : V) : List (κ × V) :=
  if (kvs.any fun kv => decide (kv.1 = k)) = true then kvs.map (fun kv => if kv.1 = k then (kv.1, v) else kv) else kvs ++ [(k, v)]
def dropK (kvs : List (κ × V)) (k : κ) : List (κ × V) := kvs.filter fun kv => decide (kv.1 ≠ k)
theorem valV_pos {p : κ × V} {r : List (κ × V)} {k : κ} (e : p.1 = k) : valV (p :: r) k = some p.2 := by simp [valV, List.find?_cons, e]
theorem valV_neg {p : κ × V} {r : List (κ × V)} {k : κ} (e : ¬ p.1 = k) : valV (p :: r) k = valV r k := by simp [valV, List.find?_cons, e]
theorem valV_any (k : κ) : ∀ kvs : List (κ × V), (kvs.any fun kv => decide (kv.1 = k)) = (valV kvs k).isSome
  | [] => rfl
  | p :: r => by
    rw [List.any_cons]
    by_cases e : p.1 = k
    · simp only [valV_pos e, decide_eq_true e, Bool.true_or, Option.isSome_some]
    · rw [valV_neg e, decide_eq_false e, Bool.false_or]; exact valV_any k r
theorem length_putK (kvs : List (κ × V)) (k : κ) (v : V) : (putK kvs k v).length ≤ kvs.length + 1 := by
  unfold putK
  split
  · rw [List.length_map]; omega
  · rw [List.length_append, List.length_cons, List.length_nil]; omega
theorem RelO.isSome_eq {o : Option V} {u : Option Value} (r : RelO o u) : o.isSome = u.isSome := by
  cases o with
  | none => cases u with
    | none => rfl
    | some _ => exact (show False from r).elim
  | some _ => cases u with
    | none => exact (show False from r).elim
    | some _ => rfl
theorem RelO.getD {o : Option V} {u : Option Value} {d : V} {d' : Value} (r : RelO o u) (rd : RelV d d') : RelV (o.getD d) (u.getD d') := by
  cases o with
  | none => cases u with
    | none => exact rd
    | some _ => exact (show False from r).elim
  | some _ => cases u with
    | none => exact (show False from r).elim
    | some _ => exact r
theorem KV.val {kvs : List (κ × V)} {vs : List (κ × Value)} (r : KV kvs vs) (k : κ) : RelO (valV kvs k) (valueAt vs k) := by
  unfold KV at r
  induction r with
  | nil => exact True.intro
  | @cons p q ps qs h t ih =>
    obtain ⟨h1, h2⟩ := h
    by_cases e : p.1 = k
    · have e' : q.1 = k := h1.symm.trans e
      have b : valueAt (q :: qs) k = some q.2 := by simp [valueAt, List.find?_cons, e']
      rw [valV_pos e, b]; exact h2
    · have e' : ¬ q.1 = k := fun z => e (h1.trans z)
      have b : valueAt (q :: qs) k = valueAt qs k := by simp [valueAt, List.find?_cons, e']
      rw [valV_neg e, b]; exact ih
theorem KV.any {kvs : List (κ × V)} {vs : List (κ × Value)} (r : KV kvs vs) (k : κ) : (kvs.any fun kv => decide (kv.1 = k)) = vs.any fun kv => decide (kv.1 = k) := by
  unfold KV at r
  induction r with
  | nil => rfl
  | cons h t ih => rw [List.any_cons, List.any_cons, ih, h.1]
theorem KV.repl {kvs : List (κ × V)} {vs : List (κ × Value)} (r : KV kvs vs) (k : κ) {y : V} {u : Value} (ry : RelV y u) :
    KV (kvs.map fun kv => if kv.1 = k then (kv.1, y) else kv) (vs.map fun kv => if kv.1 = k then (kv.1, u) else kv) := by
  unfold KV at r ⊢
  induction r with
  | nil => exact .nil
  | @cons p q ps qs h t ih =>
    rw [List.map_cons, List.map_cons]
    refine .cons ?_ ih
    obtain ⟨h1, h2⟩ := h
    by_cases e : p.1 = k
    · rw [if_pos e, if_pos (h1.symm.trans e)]; exact ⟨h1, ry⟩
    · rw [if_neg e, if_neg (fun z => e (h1.trans z))]; exact ⟨h1, h2⟩
theorem KV.put {kvs : List (κ × V)} {vs : List (κ × Value)} (r : KV kvs vs) (k : κ) {y : V} {u : Value} (ry : RelV y u) : KV (putK kvs k y) (stored vs k u) := by
  unfold putK stored
  rw [r.any k]
  by_cases e : (vs.any fun kv => decide (kv.1 = k)) = true
  · rw [if_pos e, if_pos e]; exact r.repl k ry
  · rw [if_neg e, if_neg e]; exact Paired.snoc r ⟨rfl, ry⟩
theorem KV.drop {kvs : List (κ × V)} {vs : List (κ × Value)} (r : KV kvs vs) (k : κ) : KV (dropK kvs k) (without vs k) := by
  unfold KV at r ⊢
  unfold dropK without
  induction r with
  | nil => exact .nil
  | @cons p q ps qs h t ih =>
    obtain ⟨h1, h2⟩ := h
    rw [List.filter_cons, List.filter_cons]
    by_cases e : p.1 = k
    · have a : ¬ decide (p.1 ≠ k) = true := by simp [e]
      have b : ¬ decide (q.1 ≠ k) = true := by simp [h1.symm.trans e]
      rw [if_neg a, if_neg b]; exact ih
    · have e' : ¬ q.1 = k := fun z => e (h1.trans z)
      have a : decide (p.1 ≠ k) = true := by simp [e]
      have b : decide (q.1 ≠ k) = true := by simp [e']
      rw [if_pos a, if_pos b]; exact .cons ⟨h1, h2⟩ ih
theorem KV.keys {kvs : List (κ × V)} {vs : List (κ × Value)} (r : KV kvs vs) : kvs.map (·.1) = vs.map (·.1) := by
  unfold KV at r
  induction r with
  | nil => rfl
  | cons h t ih => rw [List.map_cons, List.map_cons, ih, h.1]
theorem KV.length {kvs : List (κ × V)} {vs : List (κ × Value)} (r : KV kvs vs) : kvs.length = vs.length := Paired.length r
end
theorem kV_is {P : Program} {w : World} {k : Key} {u : Value} (r : RelV (kV k) u) : (mixKind P w).is k u = true := by
  cases k with
  | inl i => obtain ⟨t, e⟩ := (show ∃ t, u = Value.int i t from r); subst e; exact mixKind_int P w i t
  | inr x => obtain ⟨t, e⟩ := (show ∃ t, u = Value.str x t from r); subst e; exact mixKind_str P w x t
theorem items_are {P : Program} {w : World} : ∀ {ks : List Key} {us : List Value}, Vals (ks.map kV) us → ItemsAre (mixKind P w) ks us
  | [], _, r => by rw [List.map_nil] at r; cases r; exact .nil
  | k :: ks, _, r => by
    rw [List.map_cons] at r
    cases r with
    | cons h t => exact .cons (kV_is h) (items_are t)
abbrev KT (H : Hp) : List (List Key × V) → List (List Key × Addr × Value) → Prop := Paired fun p q => p.1 = q.1 ∧ H q.2.1 = some (.tup (p.1.map kV)) ∧ RelV p.2 q.2.2
theorem KT.val {H : Hp} {kvs : List (List Key × V)} {xs : List (List Key × Addr × Value)} (r : KT H kvs xs) (k : List Key) : RelO (valV kvs k) ((atKey xs k).map (·.2)) := by
  induction r with
  | nil => exact True.intro
  | @cons p q ps qs h t ih =>
    obtain ⟨h1, _, h2⟩ := h
    by_cases e : p.1 = k
    · have e' : q.1 = k := h1.symm.trans e
      have b : atKey (q :: qs) k = some q.2 := by simp [atKey, List.find?_cons, e']
      rw [valV_pos e, b]; exact h2
    · have e' : ¬ q.1 = k := fun z => e (h1.trans z)
      have b : atKey (q :: qs) k = atKey qs k := by simp [atKey, List.find?_cons, e']
      rw [valV_neg e, b]; exact ih
theorem KT.repl {H : Hp} {kvs : List (List Key × V)} {xs : List (List Key × Addr × Value)} (r : KT H kvs xs) (k : List Key) {y : V} {u : Value} (ry : RelV y u) :
    KT H (kvs.map fun kv => if kv.1 = k then (kv.1, y) else kv) (xs.map (putAt k u)) := by
  induction r with
  | nil => exact .nil
  | @cons p q ps qs h t ih =>
    rw [List.map_cons, List.map_cons]
    refine .cons ?_ ih
    obtain ⟨h1, h2, h3⟩ := h
    unfold putAt
    by_cases e : p.1 = k
    · rw [if_pos e, if_pos (h1.symm.trans e)]; exact ⟨h1, h2, ry⟩
    · rw [if_neg e, if_neg (fun z => e (h1.trans z))]; exact ⟨h1, h2, h3⟩
theorem KT.put {H : Hp} {kvs : List (List Key × V)} {xs : List (List Key × Addr × Value)} (r : KT H kvs xs) (k : List Key) {b : Addr} {y : V} {u : Value} (hb : H b = some (.tup (k.map kV))) (ry : RelV y u) :
    KT H (putK kvs k y) (storedH xs k b u) := by
  have e : (kvs.any fun kv => decide (kv.1 = k)) = (atKey xs k).isSome := by
    rw [valV_any, (r.val k).isSome_eq, Option.isSome_map]
  unfold putK storedH
  rw [e]
  by_cases q : (atKey xs k).isSome = true
  · rw [if_pos q, if_pos q]; exact r.repl k ry
  · rw [if_neg q, if_neg q]; exact Paired.snoc r ⟨rfl, hb, ry⟩
theorem KT.keeps {H H' : Hp} {kvs : List (List Key × V)} {xs : List (List Key × Addr × Value)} (r : KT H kvs xs) (ht : ∀ b ys, H b = some (.tup ys) → H' b = some (.tup ys)) : KT H' kvs xs :=
  Paired.mapP r fun _ _ z => ⟨z.1, ht _ _ z.2.1, z.2.2⟩
section
variable {P : Program} {w : World} {H : Hp} {h : Heap} {a : Addr}
theorem rd_of {u : HO} (ok : HOk P w H h) (e : Rd H a u) : ObjOk P w H h a u := e.ok ok
theorem dk_rd {kvs : List (Key × V)} (ok : HOk P w H h) (e : Rd H a (.dK kvs)) : kvs.length ≤ sizeLine ∧ (a == sysModules) = false ∧ ∃ vs, KV kvs vs ∧ h.DictOf (mixKind P w) a vs :=
  show ObjOk P w H h a (.dK kvs) from rd_of ok e
theorem dk_of {kvs : List (Key × V)} (ok : HOk P w H h) (e : H a = some (.dK kvs)) : kvs.length ≤ sizeLine ∧ (a == sysModules) = false ∧ ∃ vs, KV kvs vs ∧ h.DictOf (mixKind P w) a vs := dk_rd ok (.inl e)
theorem key_of {ks : List Key} (ok : HOk P w H h) (e : H a = some (.tup (ks.map kV))) : (tupleKind (mixKind P w)).is h ks a := by
  obtain ⟨_, its, r, o, h1, h2, n, h3⟩ := (show ObjOk P w H h a (.tup (ks.map kV)) from ok a _ e)
  exact ⟨o, its.toArray, n, h1, h2, h3, by simpa using items_are r⟩
theorem dt_rd {kvs : List (List Key × V)} (ok : HOk P w H h) (e : Rd H a (.dT kvs)) : kvs.length ≤ sizeLine ∧ (a == sysModules) = false ∧
    ∃ xs, KT H kvs xs ∧ h.DictOfH (tupleKind (mixKind P w)) a xs := by
  obtain ⟨z, y, xs, r, o, es, ep, h1, h2, h3, h4, h5⟩ := (show ObjOk P w H h a (.dT kvs) from rd_of ok e)
  refine ⟨z, y, xs, r, o, es, ep, h1, h2, h3, h4, fun x hx => ?_, h5⟩
  have all : ∀ {l : List (List Key × V)} {m : List (List Key × Addr × Value)}, KT H l m → ∀ x ∈ m, (tupleKind (mixKind P w)).is h x.1 x.2.1 := by
    intro l m q
    induction q with
    | nil => intro x hx; exact nomatch hx
    | @cons p q ps qs hq t ih =>
      intro x hx
      rcases List.mem_cons.mp hx with e | hx
      · subst e
        exact key_of ok (by rw [← hq.1]; exact hq.2.1)
      · exact ih x hx
  exact all r x hx
theorem dt_of {kvs : List (List Key × V)} (ok : HOk P w H h) (e : H a = some (.dT kvs)) : kvs.length ≤ sizeLine ∧ (a == sysModules) = false ∧
    ∃ xs, KT H kvs xs ∧ h.DictOfH (tupleKind (mixKind P w)) a xs := dt_rd ok (.inl e)
end
def DGet (H : Hp) (a : Addr) (y : V) (r : Option V) : Prop :=
  (∃ kvs k, Rd H a (.dK kvs) ∧ y = kV k ∧ r = valV kvs k) ∨ ∃ kvs k b, Rd H a (.dT kvs) ∧ y = .ref b ∧ H b = some (.tup (k.map kV)) ∧ r = valV kvs k
def DPut (H : Hp) (a : Addr) (y v : V) (H' : Hp) : Prop :=
  (∃ kvs k, H a = some (.dK kvs) ∧ y = kV k ∧ kvs.length < sizeLine ∧ H' = upd H a (.dK (putK kvs k v))) ∨
  ∃ kvs k b, H a = some (.dT kvs) ∧ y = .ref b ∧ H b = some (.tup (k.map kV)) ∧ kvs.length < sizeLine ∧ H' = upd H a (.dT (putK kvs k v))
theorem DGet.k {H : Hp} {a : Addr} {kvs : List (Key × V)} {k : Key} (e : H a = some (.dK kvs)) : DGet H a (kV k) (valV kvs k) := .inl ⟨kvs, k, .inl e, rfl, rfl⟩
theorem DGet.t {H : Hp} {a b : Addr} {kvs : List (List Key × V)} {k : List Key} (e : H a = some (.dT kvs)) (eb : H b = some (.tup (k.map kV))) : DGet H a (.ref b) (valV kvs k) := .inr ⟨kvs, k, b, .inl e, rfl, eb, rfl⟩
theorem DPut.k {H : Hp} {a : Addr} {kvs : List (Key × V)} {k : Key} {v : V} (e : H a = some (.dK kvs)) (hl : kvs.length < sizeLine) : DPut H a (kV k) v (upd H a (.dK (putK kvs k v))) := .inl ⟨kvs, k, e, rfl, hl, rfl⟩
theorem DPut.t {H : Hp} {a b : Addr} {kvs : List (List Key × V)} {k : List Key} {v : V} (e : H a = some (.dT kvs)) (eb : H b = some (.tup (k.map kV))) (hl : kvs.length < sizeLine) :
    DPut H a (.ref b) v (upd H a (.dT (putK kvs k v))) := .inr ⟨kvs, k, b, e, rfl, eb, hl, rfl⟩
section
variable {X : Cx} {pins : List (Addr × Obj)} {σ : St} {H : Hp} {s : Shared} {a : Addr} {y v : V} {u r : Value} {o : Option V} {A : Around} {E : Value → Shared → Prop}
theorem Inv.big (I : Inv X pins σ H s) : sysModules < s.heap.objs.size := by
  have h : mainGlobals < s.heap.objs.size := (I.mod.glob.keeps I.bk).lt
  exact Nat.lt_trans (by decide) h
theorem d_getItem {Q : Value → Shared → Prop} (hu : A.units + 1 < cLine) (I : Inv X pins σ H s) (g : DGet H a y (some v)) (ry : RelV y u) (h : ∀ w' s', Inv X pins σ H s' → RelV v w' → Q w' s') :
    wpAny (model X.prog X.w) A (getItem (.ref a) u) Q E s := by
  rcases g with ⟨kvs, k, e, ey, l⟩ | ⟨kvs, k, b, e, ey, eb, l⟩
  · subst ey
    obtain ⟨z, hd, vs, rel, dd⟩ := dk_rd I.hok e
    obtain ⟨w', hw, rw'⟩ := RelO.some_of (v := v) (o := valueAt vs k) (by rw [l]; exact rel.val k)
    exact wpAny_getItem_of (kV_is ry) dd.mapOf hw (h w' _ (I.tok _) rw')
  · subst ey
    cases (show u = Value.ref b from ry)
    obtain ⟨z, hd, xs, rel, dd⟩ := dt_rd I.hok e
    obtain ⟨w', hw, rw'⟩ := RelO.some_of (v := v) (o := (atKey xs k).map (·.2)) (by rw [l]; exact rel.val k)
    obtain ⟨p, hp, hp2⟩ := Option.map_eq_some_iff.mp hw
    refine wpAny_getItem_heap (tupleKind_room_in1 hu) (key_of I.hok eb) dd hp ?_
    rw [hp2]
    exact h w' _ (I.tok _) rw'
theorem d_write {h' : Heap} {t' : Nat} {ob : HO} (I : Inv X pins σ H s) (mu : Mut (H a)) (hs : Heap.SameBut a s.heap h') (he : ∃ q, h'.get? a = some q) (new : ObjOk X.prog X.w (upd H a ob) h' a ob) :
    Inv X pins σ (upd H a ob) { s with heap := h', toks := t' } :=
  I.write (x := a) (e := a) mu (.inl rfl) (fun b q hb z => (hs.2 b hb).trans z) he new
theorem dk_new {P : Program} {w : World} {H' : Hp} {h' : Heap} {kvs : List (Key × V)} {vs : List (Key × Value)} (z : kvs.length ≤ sizeLine) (hd : (a == sysModules) = false) (rel : KV kvs vs) (dd : h'.DictOf (mixKind P w) a vs) :
    ObjOk P w H' h' a (.dK kvs) := ⟨z, hd, vs, rel, dd⟩
theorem d_setItem {H' : Hp} {Q : Unit → Shared → Prop} (hu : A.units + 1 < cLine) (I : Inv X pins σ H s) (g : DPut H a y v H') (ry : RelV y u) (rv : RelV v r) (h : ∀ s', Inv X pins σ H' s' → Q () s') :
    wpAny (model X.prog X.w) A (setItem (.ref a) u r) Q E s := by
  rcases g with ⟨kvs, k, e, ey, l, eH⟩ | ⟨kvs, k, b, e, ey, eb, l, eH⟩
  · subst ey eH
    obtain ⟨z, hd, vs, rel, dd⟩ := dk_of I.hok e
    have hz : vs.length ≤ sizeLine := by rw [← rel.length]; exact z
    have hl : (putK kvs k v).length ≤ sizeLine := by have := length_putK kvs k v; omega
    refine wpAny_setItem_pairs (hsz := hz) (kV_is ry) dd fun h' dd' hs => h _ ?_
    have he : ∃ q, h'.get? a = some q := let ⟨q, _, _, hq, _⟩ := dd'; ⟨q, hq⟩
    exact d_write I (by rw [e]; exact True.intro) hs he (dk_new hl hd (rel.put k rv) dd')
  · subst ey eH
    cases (show u = Value.ref b from ry)
    obtain ⟨z, hd, xs, rel, dd⟩ := dt_of I.hok e
    have hz : xs.length ≤ sizeLine := by rw [← Paired.length rel]; exact z
    have hl : (putK kvs k v).length ≤ sizeLine := by have := length_putK kvs k v; omega
    refine wpAny_setItem_heap (hsz := hz) (tupleKind_room_in1 hu) (key_of I.hok eb) dd fun h' dd' hs => h _ ?_
    obtain ⟨q, es, ep, hq, h2, h3, h4, _, h5⟩ := dd'
    refine d_write I (by rw [e]; exact True.intro) hs ⟨q, hq⟩ ⟨hl, hd, _, (rel.put k eb rv).keeps fun c ys ec => ?_, q, es, ep, hq, h2, h3, h4, h5⟩
    rw [upd_ne (ne_of ec e (fun z => nomatch z))]
    exact ec
end
section
variable {X : Cx} {pins : List (Addr × Obj)} {σ : St} {H : Hp} {s : Shared} {a : Addr} {kvs : List (Key × V)} {k : Key} {u : Value} {A : Around} {E : Value → Shared → Prop}
end
def NoSl (i : Expr) : Prop := ∀ ov iv, subscripted i false ov iv = operate [ov, iv] (getItem ov iv)
theorem subD_of {prog : Program} {w : World} {A : Around} {E : Value → Shared → Prop} {s : Shared} {env : Env} {value slice : Expr} {pos : Pos} {T id : String} {Q : Value → Shared → Prop}
    (hl : typeLookup (.type T) "__getitem__" = pure (some (.builtin id))) (hs : NoSl slice)
    (h : wpAny (model prog w) A (eval value env) (fun o s₁ => wpAny (model prog w) A (eval slice env) (fun i s₂ => s₂.TypeIs o T ∧ wpAny (model prog w) A (getItem o i) Q E s₂) E s₁) E s) :
    wpAny (model prog w) A (eval (.Subscript value slice pos) env) Q E s := by
  refine Subscript_ (wpAny_mono h (fun o s₁ h₁ => wpAny_mono h₁ (fun i s₂ h₂ => ?_) fun _ _ x => x) fun _ _ x => x)
  obtain ⟨hT, h₂⟩ := h₂
  unfold subscriptTail
  refine wpAny_bind ?_
  rw [getitemInPython_of_ne hT.not_modules]
  refine wpAny_bind (wpAny_specialOf hT hl ?_)
  have fin : wpAny (model prog w) A (subscripted slice false o i) (fun r s₃ => wpAny (model prog w) A (letTemporaryGo value o r >>= fun _ => pure r) Q E s₃) E s₂ := by
    rw [hs o i]
    exact wpAny_operating (wpAny_mono h₂ (fun r s₃ h₃ => wpAny_bind (wpAny_letTemporaryGo (wpAny_pure h₃))) fun _ _ x => x)
  first
    | exact wpAny_pure (wpAny_bind fin)
    | exact wpAny_bind (wpAny_pure (wpAny_bind fin))
    | exact wpAny_bind fin
theorem dict_typeIs {X : Cx} {pins : List (Addr × Obj)} {σ : St} {H : Hp} {s : Shared} {a : Addr} {y : V} {o : Option V} (I : Inv X pins σ H s) (g : DGet H a y o) : s.TypeIs (.ref a) "dict" := by
  rcases g with ⟨kvs, k, e, _, _⟩ | ⟨kvs, k, b, e, _, _, _⟩
  · obtain ⟨_, _, vs, _, dd⟩ := dk_rd I.hok e
    exact dd.typeIs
  · obtain ⟨_, _, xs, _, dd⟩ := dt_rd I.hok e
    exact dd.typeIs
def tDGet (td ty : TE) : TE := fun σ H Q => td σ H fun x H1 => ty σ H1 fun y H2 => ∃ a v, x = .ref a ∧ DGet H2 a y (some v) ∧ Q v H2
def tDIn (ty td : TE) : TE := fun σ H Q => ty σ H fun y H1 => td σ H1 fun x H2 => ∃ a o, x = .ref a ∧ DGet H2 a y o ∧ Q (.bl o.isSome) H2
def tDNotIn (ty td : TE) : TE := fun σ H Q => ty σ H fun y H1 => td σ H1 fun x H2 => ∃ a o, x = .ref a ∧ DGet H2 a y o ∧ Q (.bl (!o.isSome)) H2
def sDPut (td ty tv : TE) : TS := fun D σ H => tv σ H fun v H1 => td σ H1 fun x H2 => ty σ H2 fun y H3 => ∃ a H4, x = .ref a ∧ DPut H3 a y v H4 ∧ D.nx σ H4
def sDAug (td ty tv : TE) (rd : V → V → Hp → VK → Prop) : TS := fun D σ H => td σ H fun x H1 => ty σ H1 fun y H2 => ∃ a v, x = .ref a ∧ DGet H2 a y (some v) ∧
  tv σ H2 fun y2 H3 => rd v y2 H3 fun z H4 => ∃ H5, DPut H4 a y z H5 ∧ D.nx σ H5
def sDDel (td ty : TE) : TS := fun D σ H => td σ H fun x H1 => ty σ H1 fun y H2 => ∃ a kvs k, x = .ref a ∧ H2 a = some (.dK kvs) ∧ y = kV k ∧ (valV kvs k).isSome = true ∧ D.nx σ (upd H2 a (.dK (dropK kvs k)))
section
variable {X : Cx} {o i e value : Expr} {pos pos' tpos : Pos} {td ty tv : TE}
theorem pe_dget (hu : X.A.units + 1 < cLine) (ho : PE X o td) (hi : PE X i ty) (hs : NoSl i) : PE X (.Subscript o i pos) (tDGet td ty) := by
  intro pins s σ H Q I h
  refine subD_of PySem.F.slot_dict_getitem.lookup hs (thn (ho pins s σ H _ I h) fun u s1 ⟨x, H1, I1, rx, q1⟩ => thn (hi pins s1 σ H1 _ I1 q1) fun iv s2 ⟨y, H2, I2, ry, a, v, ex, g, q2⟩ => ?_)
  subst ex
  obtain rfl : u = Value.ref a := rx
  exact ⟨dict_typeIs I2 g, d_getItem hu I2 g ry fun w' s3 I3 rw' => ⟨v, H2, I3, rw', q2⟩⟩
theorem ps_dput (hu : X.A.units + 1 < cLine) (ho : PE X o td) (hi : PE X i ty) (hv : PE X value tv) (hs : swapsWith value (some (.Subscript o i pos')) pos.line X.env = pure false) :
    PS X (.Assign [.Subscript o i pos'] value pos) (sDPut td ty tv) := by
  intro pins s σ H D I h
  refine wpAny_Assign_Subscript (thn (hv pins s σ H _ I h) fun r s1 ⟨v, H1, I1, rv, q1⟩ => thn (ho pins s1 σ H1 _ I1 q1) fun u s2 ⟨x, H2, I2, rx, q2⟩ => thn (hi pins s2 σ H2 _ I2 q2) fun iv s3 ⟨y, H3, I3, ry, a, H4, ex, g, q3⟩ => ?_) hs
  subst ex
  obtain rfl : u = Value.ref a := rx
  exact d_setItem hu I3 g ry rv fun s4 I4 => ⟨σ, H4, I4, q3⟩
end
theorem dk_empty {P : Program} {w : World} {H : Hp} (h : Heap) (hb : sysModules < h.objs.size) : ObjOk P w H (h.push { cls := .type "dict", data := .dict #[] }) h.objs.size (.dK []) :=
  ⟨Nat.zero_le _, beq_eq_false_iff_ne.mpr (Ne.symm (Nat.ne_of_lt hb)), [], .nil, Heap.DictOf.new h⟩
def tDNewK : TE := fun _ H Q => ∀ p, H p = none → Q (.ref p) (upd H p (.dK []))
def tDNewT : TE := fun _ H Q => ∀ p, H p = none → Q (.ref p) (upd H p (.dT []))
section
variable {X : Cx} {pos : Pos}
theorem pe_dnewK : PE X (.Dict [] [] pos) tDNewK := fun pins s σ H Q I h =>
  wpAny_Dict_empty ⟨.ref s.heap.objs.size, _, I.laid (a := s.heap.objs.size) (o := .dK []) (t' := s.toks) (fun _ _ q => Heap.get?_push_of_some _ q) (Nat.le_refl _) (dk_empty s.heap I.big), rfl, h _ (I.hok.fresh (Nat.le_refl _))⟩
end
def tPairs : List (TE × TE) → St → Hp → (List (V × V) → Hp → Prop) → Prop
  | [], _, H, Q => Q [] H
  | (tk, tv) :: r, σ, H, Q => tk σ H fun x H1 => tv σ H1 fun y H2 => tPairs r σ H2 fun ps H3 => Q ((x, y) :: ps) H3
abbrev VV : List (V × V) → List (Value × Value) → Prop := Paired fun p q => RelV p.1 q.1 ∧ RelV p.2 q.2
def PPs (X : Cx) (pos : Pos) (keys : List (Option Expr)) (values : List Expr) (trs : List (TE × TE)) : Prop :=
  ∀ (pins : List (Addr × Obj)) (s : Shared) (σ : St) (H : Hp) (Q : List (V × V) → Hp → Prop), Inv X pins σ H s → tPairs trs σ H Q →
    wpAny (model X.prog X.w) X.A (evalPairs (pairTrees keys values X.env pos)) (fun vs s' => ∃ ps H', Inv X pins σ H' s' ∧ VV ps vs ∧ Q ps H') X.xe s
theorem pps_nil {X : Cx} {pos : Pos} : PPs X pos [] [] [] := fun pins s σ H Q I h => pairTrees_nil_walk ⟨[], H, I, .nil, h⟩
theorem pps_cons {X : Cx} {pos : Pos} {k v : Expr} {ks : List (Option Expr)} {vs : List Expr} {tk tv : TE} {trs : List (TE × TE)} (hk : PE X k tk) (hv : PE X v tv) (hr : PPs X pos ks vs trs) :
    PPs X pos (some k :: ks) (v :: vs) ((tk, tv) :: trs) := fun pins s σ H Q I h =>
  pairTrees_cons_walk (thn (hk pins s σ H _ I h) fun u s1 ⟨x, H1, I1, rx, q1⟩ => thn (hv pins s1 σ H1 _ I1 q1) fun w2 s2 ⟨y, H2, I2, ry, q2⟩ =>
    thn (hr pins s2 σ H2 _ I2 q2) fun ws s3 ⟨ps, H3, I3, rel, q3⟩ => ⟨(x, y) :: ps, H3, I3, .cons ⟨rx, ry⟩ rel, q3⟩)
def mergeK (kvs more : List (Key × V)) : List (Key × V) := more.foldl (fun acc kv => putK acc kv.1 kv.2) kvs
theorem KV.merge : ∀ {more : List (Key × V)} {rs : List (Key × Value)} {kvs : List (Key × V)} {vs : List (Key × Value)}, KV more rs → KV kvs vs → KV (mergeK kvs more) (merged vs rs) := by
  intro more rs kvs vs r
  unfold KV at r
  induction r generalizing kvs vs with
  | nil => intro q; exact q
  | @cons p q ps qs h t ih =>
    intro r0
    have e : KV (putK kvs p.1 p.2) (stored vs q.1 q.2) := by
      have := r0.put p.1 h.2
      rw [← h.1]; exact this
    exact ih e
theorem length_mergeK : ∀ (more kvs : List (Key × V)), (mergeK kvs more).length ≤ kvs.length + more.length
  | [], kvs => by show kvs.length ≤ kvs.length + 0; omega
  | p :: r, kvs => by
    have h1 := length_mergeK r (putK kvs p.1 p.2)
    have h2 := length_putK kvs p.1 p.2
    show (mergeK (putK kvs p.1 p.2) r).length ≤ _
    rw [List.length_cons]; omega
theorem carries_of {P : Program} {w : World} : ∀ {kvs : List (Key × V)} {ws : List (Value × Value)}, VV (kvs.map fun kv => (kV kv.1, kv.2)) ws → ∃ rs, Carries (mixKind P w) ws rs ∧ KV kvs rs
  | [], _, r => by rw [List.map_nil] at r; cases r; exact ⟨[], True.intro, .nil⟩
  | p :: kvs, _, r => by
    rw [List.map_cons] at r
    cases r with
    | @cons a b as bs h t =>
      obtain ⟨rs, c, q⟩ := carries_of (P := P) (w := w) t
      obtain ⟨b1, b2⟩ := b
      exact ⟨(p.1, b2) :: rs, ⟨kV_is h.1, rfl, c⟩, .cons ⟨rfl, h.2⟩ q⟩
def tDisp (trs : List (TE × TE)) : TE := fun σ H Q => ∀ p, H p = none → tPairs trs σ (upd H p (.dK [])) fun ps H2 => H2 p = some (.dK []) ∧ ∃ kvs : List (Key × V), ps = kvs.map (fun kv => (kV kv.1, kv.2)) ∧ kvs.length ≤ 15 ∧ Q (.ref p) (upd H2 p (.dK (mergeK [] kvs)))
theorem pe_disp {X : Cx} {pos : Pos} {keys : List (Option Expr)} {values : List Expr} {trs : List (TE × TE)} (h : PPs X pos keys values trs) (hall : keys.all (·.isSome) = true) (hl : keys.length = values.length) (h0 : keys ≠ [])
    (h15 : keys.length ≤ 15) : PE X (.Dict keys values pos) (tDisp trs) := by
  intro pins s σ H Q I q
  have hn := I.hok.fresh (Nat.le_refl s.heap.objs.size)
  have I1 := I.laid (a := s.heap.objs.size) (o := .dK []) (h' := s.heap.push { cls := .type "dict", data := .dict #[] }) (t' := s.toks) (fun _ _ q => Heap.get?_push_of_some _ q) (Nat.le_refl _) (dk_empty s.heap I.big)
  refine wpAny_Dict_walk (knd := mixKind X.prog X.w) hall hl h0 h15 (thn (h pins _ σ _ _ I1 (q _ hn)) fun ws s2 ⟨ps, H2, I2, rel, e, kvs, ep, lk, q2⟩ => ?_)
  subst ep
  obtain ⟨rs, c, rk⟩ := carries_of (P := X.prog) (w := X.w) rel
  obtain ⟨z, hd, vs0, r0, dd⟩ := dk_of I2.hok e
  cases r0
  refine ⟨rs, c, dd, fun h' dd' hs => ⟨.ref s.heap.objs.size, _, ?_, rfl, q2⟩⟩
  have hz : (mergeK [] kvs).length ≤ sizeLine := by
    have h1 := length_mergeK kvs []
    rw [List.length_nil] at h1
    rw [sizeLine_eq]; omega
  have he : ∃ q, h'.get? s.heap.objs.size = some q := let ⟨q, _, _, hq, _⟩ := dd'; ⟨q, hq⟩
  exact d_write I2 (by rw [e]; exact True.intro) hs he (dk_new hz hd (rk.merge .nil) dd')
structure M1 (X : Cx) (o : Expr) (m : Str) (apos : Pos) (e : Expr) (cpos : Pos) : Prop where
  base : attributeBase o m X.env (eval o X.env) = eval o X.env
  few : ((backTo cpos (starEach [e] X.env)).all (fun x => !x.1) && (backToKw cpos (keywordEach [] X.env)).all (fun x => x.1.isSome)
    && decide (([e] : List Expr).length + ([] : List Keyword).length + (if ([] : List Keyword).isEmpty then 0 else 1) < 30)) = true
  line : (apos.endLine == cpos.line) = true
  trees : backTo cpos (starEach [e] X.env) = [(false, eval e X.env)]
structure M2 (X : Cx) (o : Expr) (m : Str) (apos : Pos) (e f : Expr) (cpos : Pos) : Prop where
  base : attributeBase o m X.env (eval o X.env) = eval o X.env
  few : ((backTo cpos (starEach [e, f] X.env)).all (fun x => !x.1) && (backToKw cpos (keywordEach [] X.env)).all (fun x => x.1.isSome)
    && decide (([e, f] : List Expr).length + ([] : List Keyword).length + (if ([] : List Keyword).isEmpty then 0 else 1) < 30)) = true
  line : (apos.endLine == cpos.line) = true
  trees : backTo cpos (starEach [e, f] X.env) = [(false, eval e X.env), (false, eval f X.env)]
def IsD (H : Hp) (a : Addr) : Prop := (∃ kvs, Rd H a (.dK kvs)) ∨ ∃ kvs, Rd H a (.dT kvs)
theorem isD_at {X : Cx} {pins : List (Addr × Obj)} {σ : St} {H : Hp} {s : Shared} {a : Addr} (I : Inv X pins σ H s) (d : IsD H a) :
    s.TypeIs (.ref a) "dict" ∧ (∀ b, Value.ref a = .ref b → ∃ ob, s.heap.get? b = some ob ∧ ob.dict = none) ∧ (a == sysModules) = false := by
  rcases d with ⟨kvs, e⟩ | ⟨kvs, e⟩
  · obtain ⟨_, hd, vs, _, dd⟩ := dk_rd I.hok e
    refine ⟨dd.typeIs, fun b q => ?_, hd⟩
    cases q
    obtain ⟨ob, _, _, h1, h2, _⟩ := dd
    exact ⟨ob, h1, h2.2.1⟩
  · obtain ⟨_, hd, xs, _, dd⟩ := dt_rd I.hok e
    refine ⟨dd.typeIs, fun b q => ?_, hd⟩
    cases q
    obtain ⟨ob, _, _, h1, h2, _⟩ := dd
    exact ⟨ob, h1, h2.2.1⟩
section
variable {X : Cx} {pins : List (Addr × Obj)} {σ : St} {H : Hp} {s : Shared} {a : Addr} {y d : V} {u r : Value} {o : Option V} {A : Around} {E : Value → Shared → Prop}
theorem d_get1 {Q : Value → Shared → Prop} (hu : A.units + 1 < cLine) (I : Inv X pins σ H s) (g : DGet H a y o) (ry : RelV y u) (h : ∀ w' s', Inv X pins σ H s' → RelV (o.getD .non) w' → Q w' s') :
    wpAny (model X.prog X.w) A (call (.builtin "dict.get") [.ref a, u]) Q E s := by
  rcases g with ⟨kvs, k, e, ey, l⟩ | ⟨kvs, k, b, e, ey, eb, l⟩
  · subst ey
    obtain ⟨z, hd, vs, rel, dd⟩ := dk_rd I.hok e
    refine call_meetsIn PySem.F.slot_dict_get dd.typeIs PySem.F.entry_dict_get (PySem.F.args_dict_get_2 _ _) (meets_dict_get (mixKind X.prog X.w) a (kV_is ry) hd) ⟨_, dd.mapOf, h _ _ (I.tok _) ?_⟩
    rw [l]
    exact (rel.val k).getD rfl
  · subst ey
    cases (show u = Value.ref b from ry)
    obtain ⟨z, hd, xs, rel, dd⟩ := dt_rd I.hok e
    refine call_meetsIn PySem.F.slot_dict_get dd.typeIs PySem.F.entry_dict_get (PySem.F.args_dict_get_2 _ _) (meetsH_dict_get (tupleKind (mixKind X.prog X.w)) a b hd) ⟨tupleKind_room_in1 hu, k, xs, key_of I.hok eb, dd, h _ _ (I.tok _) ?_⟩
    rw [l]
    exact (rel.val k).getD rfl
theorem d_get2 {Q : Value → Shared → Prop} (hu : A.units + 1 < cLine) (I : Inv X pins σ H s) (g : DGet H a y o) (ry : RelV y u) (rd : RelV d r) (h : ∀ w' s', Inv X pins σ H s' → RelV (o.getD d) w' → Q w' s') :
    wpAny (model X.prog X.w) A (call (.builtin "dict.get") [.ref a, u, r]) Q E s := by
  rcases g with ⟨kvs, k, e, ey, l⟩ | ⟨kvs, k, b, e, ey, eb, l⟩
  · subst ey
    obtain ⟨z, hd, vs, rel, dd⟩ := dk_rd I.hok e
    refine call_meetsIn PySem.F.slot_dict_get dd.typeIs PySem.F.entry_dict_get (PySem.F.args_dict_get_3 _ _ _) (meets_dict_get_default (mixKind X.prog X.w) a (kV_is ry) hd r) ⟨_, dd.mapOf, h _ _ (I.tok _) ?_⟩
    rw [l]
    exact (rel.val k).getD rd
  · subst ey
    cases (show u = Value.ref b from ry)
    obtain ⟨z, hd, xs, rel, dd⟩ := dt_rd I.hok e
    refine call_meetsIn PySem.F.slot_dict_get dd.typeIs PySem.F.entry_dict_get (PySem.F.args_dict_get_3 _ _ _) (meetsH_dict_get_default (tupleKind (mixKind X.prog X.w)) a b hd r) ⟨tupleKind_room_in1 hu, k, xs, key_of I.hok eb, dd, h _ _ (I.tok _) ?_⟩
    rw [l]
    exact (rel.val k).getD rd
end
def tDGet1 (td ty : TE) : TE := fun σ H Q => td σ H fun x H1 => ∃ a, x = .ref a ∧ IsD H1 a ∧ ty σ H1 fun y H2 => ∃ o, DGet H2 a y o ∧ Q (o.getD .non) H2
def tDGet2 (td ty tx : TE) : TE := fun σ H Q => td σ H fun x H1 => ∃ a, x = .ref a ∧ IsD H1 a ∧ ty σ H1 fun y H2 => tx σ H2 fun z H3 => ∃ o, DGet H3 a y o ∧ Q (o.getD z) H3
def tDPop1 (td ty : TE) : TE := fun σ H Q => td σ H fun x H1 => ∃ a, x = .ref a ∧ IsD H1 a ∧ ty σ H1 fun y H2 => ∃ kvs k v, H2 a = some (.dK kvs) ∧ y = kV k ∧ valV kvs k = some v ∧ Q v (upd H2 a (.dK (dropK kvs k)))
def tDPop2 (td ty tx : TE) : TE := fun σ H Q => td σ H fun x H1 => ∃ a, x = .ref a ∧ IsD H1 a ∧ ty σ H1 fun y H2 => tx σ H2 fun z H3 => ∃ kvs k, H3 a = some (.dK kvs) ∧ y = kV k ∧
  (∀ v, valV kvs k = some v → Q v (upd H3 a (.dK (dropK kvs k)))) ∧ (valV kvs k = none → Q z H3)
section
variable {X : Cx} {o e f : Expr} {apos cpos : Pos} {td ty tx : TE}
theorem pe_dget1 (hu : X.A.units + 1 < cLine) (ho : PE X o td) (he : PE X e ty) (m : M1 X o "get" apos e cpos) : PE X (.Call (.Attribute o "get" apos) [e] [] cpos) (tDGet1 td ty) := by
  intro pins s σ H Q I h
  refine wpAny_Call_method m.base m.few m.line PySem.F.plainAttrs_dict PySem.F.slot_dict_get PySem.F.type_dict_get (thn (ho pins s σ H _ I h) fun u s1 ⟨x, H1, I1, rx, a, ex, d, q1⟩ => ?_)
  subst ex
  obtain rfl : u = Value.ref a := rx
  obtain ⟨t1, t2, _⟩ := isD_at I1 d
  refine ⟨t1, t2, ?_⟩
  rw [m.trees]
  refine Calls.callWith_builtin rfl (Calls.evalArgs_plain (Calls.spliced_cons (thn (he pins s1 σ H1 _ I1 q1) fun iv s2 ⟨y, H2, I2, ry, ov, g, q2⟩ => Calls.spliced_nil ?_)))
  exact d_get1 hu I2 g ry fun w' s3 I3 rw' => ⟨_, H2, I3, rw', q2⟩
theorem pe_dget2 (hu : X.A.units + 1 < cLine) (ho : PE X o td) (he : PE X e ty) (hf : PE X f tx) (m : M2 X o "get" apos e f cpos) : PE X (.Call (.Attribute o "get" apos) [e, f] [] cpos) (tDGet2 td ty tx) := by
  intro pins s σ H Q I h
  refine wpAny_Call_method m.base m.few m.line PySem.F.plainAttrs_dict PySem.F.slot_dict_get PySem.F.type_dict_get (thn (ho pins s σ H _ I h) fun u s1 ⟨x, H1, I1, rx, a, ex, d, q1⟩ => ?_)
  subst ex
  obtain rfl : u = Value.ref a := rx
  obtain ⟨t1, t2, _⟩ := isD_at I1 d
  refine ⟨t1, t2, ?_⟩
  rw [m.trees]
  refine Calls.callWith_builtin rfl (Calls.evalArgs_plain (Calls.spliced_cons (thn (he pins s1 σ H1 _ I1 q1) fun iv s2 ⟨y, H2, I2, ry, q2⟩ =>
    Calls.spliced_cons (thn (hf pins s2 σ H2 _ I2 q2) fun fv s3 ⟨z, H3, I3, rz, ov, g, q3⟩ => Calls.spliced_nil ?_))))
  exact d_get2 hu I3 g ry rz fun w' s4 I4 rw' => ⟨_, H3, I4, rw', q3⟩
end
section
variable {X : Cx} {pins : List (Addr × Obj)} {σ : St} {H : Hp} {s : Shared} {a : Addr} {kvs : List (Key × V)} {A : Around} {E : Value → Shared → Prop}
theorem d_copyOf {Q : Value → Shared → Prop} (I : Inv X pins σ H s) (e : Rd H a (.dK kvs)) (h : ∀ p s', H p = none → Inv X pins σ (upd H p (.dK kvs)) s' → Q (.ref p) s') : wpAny (model X.prog X.w) A (call (.type "dict") [.ref a]) Q E s := by
  obtain ⟨z, hd, vs, rel, dd⟩ := dk_rd I.hok e
  refine kt_call_dict hd dd (by rw [← rel.length]; exact z) fun h' dd' hs => ?_
  refine h _ _ (I.hok.fresh (Nat.le_refl _)) (I.laid (a := s.heap.objs.size) (o := .dK kvs) (t' := s.toks) (fun b q hq => ?_) (Nat.le_refl _) (dk_new z (beq_eq_false_iff_ne.mpr (Ne.symm (Nat.ne_of_lt I.big))) rel dd'))
  exact (hs.2 b (Nat.ne_of_lt (Heap.lt_size hq))).trans (Heap.get?_push_of_some _ hq)
end
section
variable {X : Cx} {pins : List (Addr × Obj)} {σ : St} {H : Hp} {s : Shared} {a : Addr} {y : V} {u : Value} {A : Around} {E : Value → Shared → Prop}
end
end L2
namespace My
structure Bd (k : Nat) (x : Int) : Prop where
  lt : x.natAbs < 2 ^ k
theorem Bd.mono {j k : Nat} {x : Int} (h : Bd j x) (e : j ≤ k) : Bd k x := ⟨Nat.lt_of_lt_of_le h.lt (Nat.pow_le_pow_right (by decide) e)⟩
theorem Bd.mul {j k : Nat} {x y : Int} (h : Bd j x) (g : Bd k y) : Bd (j + k) (x * y) := by
  refine ⟨?_⟩
  rw [Int.natAbs_mul, Nat.pow_add]
  exact Nat.mul_lt_mul_of_lt_of_lt h.lt g.lt
theorem Bd.add {j k : Nat} {x y : Int} (h : Bd j x) (g : Bd k y) : Bd (max j k + 1) (x + y) := by
  have h' := (h.mono (Nat.le_max_left j k)).lt
  have g' := (g.mono (Nat.le_max_right j k)).lt
  refine ⟨?_⟩
  rw [Nat.pow_succ]
  omega
theorem Bd.neg {k : Nat} {x : Int} (h : Bd k x) : Bd k (-x) := ⟨by have := h.lt; omega⟩
theorem Bd.sub {j k : Nat} {x y : Int} (h : Bd j x) (g : Bd k y) : Bd (max j k + 1) (x - y) := by
  rw [Int.sub_eq_add_neg]; exact h.add g.neg
theorem Bd.log2 {k : Nat} {x : Int} (h : Bd k x) (hk : 0 < k) : x.natAbs.log2 < k := by
  have h := h.lt
  by_cases z : x.natAbs = 0
  · rw [z]; simpa using hk
  · exact (Nat.log2_lt z).mpr h
theorem Bd.small {k : Nat} {x : Int} (h : x.natAbs < 16) (hk : 4 ≤ k) : Bd k x := Bd.mono (j := 4) ⟨h⟩ hk
def sg (n d : Int) : Int := if d < 0 then -(Int.gcd n d : Int) else (Int.gcd n d : Int)
def nm (n d : Int) : Int := n.fdiv (sg n d)
def dn (n d : Int) : Int := d.fdiv (sg n d)
structure IsNum (a b n d : Int) : Prop where
  pos : 0 < b
  low : Int.gcd a b = 1
  eq : a * d = n * b
theorem mul_ne {a b : Int} (ha : a ≠ 0) (hb : b ≠ 0) : a * b ≠ 0 := Int.mul_ne_zero ha hb
theorem IsNum.less {a b n d c e' m e : Int} (x : IsNum a b n d) (y : IsNum c e' m e) (hd : d ≠ 0) (he0 : e ≠ 0) :
    (a * e' < c * b) ↔ (n * e * d * e < m * d * d * e) := by
  have hb := x.pos; have he := y.pos; have e1 := x.eq; have e2 := y.eq
  have hp : 0 < b * e' := Int.mul_pos hb he
  have hq : 0 < (d * e) * (d * e) := by
    have : d * e ≠ 0 := mul_ne hd he0
    rcases Int.lt_or_gt_of_ne this with h | h
    · exact Int.mul_pos_of_neg_of_neg h h
    · exact Int.mul_pos h h
  have l1 : (a * e' < c * b) ↔ (a * e') * ((d * e) * (d * e)) < (c * b) * ((d * e) * (d * e)) :=
    ⟨fun h => Int.mul_lt_mul_of_pos_right h hq, fun h => Int.lt_of_mul_lt_mul_right h (Int.le_of_lt hq)⟩
  have l2 : (n * e * d * e < m * d * d * e) ↔ (b * e') * (n * e * d * e) < (b * e') * (m * d * d * e) :=
    ⟨fun h => Int.mul_lt_mul_of_pos_left h hp, fun h => Int.lt_of_mul_lt_mul_left h (Int.le_of_lt hp)⟩
  have q1 : (a * e') * ((d * e) * (d * e)) = (b * e') * (n * e * d * e) := by grind
  have q2 : (c * b) * ((d * e) * (d * e)) = (b * e') * (m * d * d * e) := by grind
  rw [l1, l2, q1, q2]
end My
namespace My
def det (a0 a1 a2 b0 b1 b2 c0 c1 c2 : Int) : Int := (a1 * b2 - a2 * b1) * c0 + (a2 * b0 - a0 * b2) * c1 + (a0 * b1 - a1 * b0) * c2
def sgn (n : Int) : Int := if 0 < n then 1 else if n < 0 then -1 else 0
structure Alike (x y w x' y' w' : Int) : Prop where
  pos : 0 < w
  pos' : 0 < w'
  ex : x' * w = x * w'
  ey : y' * w = y * w'
def sg3 (x y w : Int) : Int := if w < 0 then -(Int.gcd (Int.gcd x w : Int) y : Int) else (Int.gcd (Int.gcd x w : Int) y : Int)
def sx (x y w : Int) : Int := x.fdiv (sg3 x y w)
def sy (x y w : Int) : Int := y.fdiv (sg3 x y w)
def sw (x y w : Int) : Int := w.fdiv (sg3 x y w)
end My
namespace My
structure Low (x y w : Int) : Prop where
  pos : 0 < w
  low : Int.gcd (Int.gcd x w : Int) y = 1
end My
namespace My
def ahd (p0 p1 p2 q0 q1 q2 : Int) : Bool := if p0 * q2 = q0 * p2 then decide (p1 * q2 < q1 * p2) else decide (p0 * q2 < q0 * p2)
def onS (c0 c1 c2 a0 a1 a2 b0 b1 b2 : Int) : Bool := if det a0 a1 a2 b0 b1 b2 c0 c1 c2 = 0 then (if ahd a0 a1 a2 b0 b1 b2 = true then !ahd c0 c1 c2 a0 a1 a2 && !ahd b0 b1 b2 c0 c1 c2 else !ahd c0 c1 c2 b0 b1 b2 && !ahd a0 a1 a2 c0 c1 c2) else false
def m0 (a0 a1 a2 b0 b1 b2 c0 c1 c2 d0 d1 d2 : Int) : Int := (a2 * b0 - a0 * b2) * (c0 * d1 - c1 * d0) - (a0 * b1 - a1 * b0) * (c2 * d0 - c0 * d2)
def m1 (a0 a1 a2 b0 b1 b2 c0 c1 c2 d0 d1 d2 : Int) : Int := (a0 * b1 - a1 * b0) * (c1 * d2 - c2 * d1) - (a1 * b2 - a2 * b1) * (c0 * d1 - c1 * d0)
def m2 (a0 a1 a2 b0 b1 b2 c0 c1 c2 d0 d1 d2 : Int) : Int := (a1 * b2 - a2 * b1) * (c2 * d0 - c0 * d2) - (a2 * b0 - a0 * b2) * (c1 * d2 - c2 * d1)
section
variable (a0 a1 a2 b0 b1 b2 c0 c1 c2 d0 d1 d2 : Int)
def u0 : Int := b0 * (a2 * c2 * d2) - a0 * (b2 * c2 * d2)
def u1 : Int := b1 * (a2 * c2 * d2) - a1 * (b2 * c2 * d2)
def v0 : Int := d0 * (a2 * b2 * c2) - c0 * (a2 * b2 * d2)
def v1 : Int := d1 * (a2 * b2 * c2) - c1 * (a2 * b2 * d2)
def z0 : Int := c0 * (a2 * b2 * d2) - a0 * (b2 * c2 * d2)
def z1 : Int := c1 * (a2 * b2 * d2) - a1 * (b2 * c2 * d2)
end
section
variable {a0 a1 a2 b0 b1 b2 c0 c1 c2 d0 d1 d2 : Int}
end
end My
namespace L2
open PySem PySem.Spec PyProof.Rows
section
variable {X : Cx} {a b : Expr} {ta tb : TE} {pos : Pos}
theorem op_mulB : OpR X (binaryOp .Mult) (rI IntMulOk fun i j => .int (i * j)) := opI fun _ _ _ _ _ _ _ hc q => mul_int q hc
def CDivB (_i j : Int) : Prop := j ≠ 0 ∧ j.natAbs.log2 < 9000
def CDivP (_i j : Int) : Prop := 0 < j ∧ j.natAbs.log2 < 9000
theorem op_fdivB : OpR X (binaryOp .FloorDiv) (rI CDivB fun i j => .int (i.fdiv j)) := opI fun _ _ _ _ _ _ _ hc q => floordiv_int hc.1 q (.inl (PyProof.noPylong_of_log2 hc.2))
def eAt (xs ys : List V) (j : Nat) : Bool := match xs[j]?, ys[j]? with
  | some x, some y => eqV x y
  | _, _ => false
def eqT (xs ys : List V) : Bool := (List.range (min xs.length ys.length)).all (eAt xs ys) && xs.length == ys.length
def rEqT (K : PySem.W.Frag) : R2 := fun x y H Q => ∃ a b xs ys, x = .ref a ∧ y = .ref b ∧ SqT K H a xs ∧ SqT K H b ys ∧ xs.all flatV = true ∧ ys.all flatV = true ∧ Q (.bl (eqT xs ys)) H
end
section
variable {X : Cx} {K : PySem.W.Frag}
end
theorem get_new {H : Hp} {p q : Addr} {x z : HO} (h : H p = some x) (hq : H q = none) : upd H q z p = some x := by
  rw [upd_ne (ne_of_none h hq)]; exact h
theorem same_new {H : Hp} {q : Addr} {z : HO} (hq : H q = none) : Same H (upd H q z) := fun _ _ h => get_new h hq
theorem Same.seqT {K : PySem.W.Frag} {H H' : Hp} {a : Addr} {xs : List V} (e : Same H H') (h : SqT K H a xs) : SqT K H' a xs := by
  rcases h with (h | ⟨o, h⟩) | h
  · exact .inl (.inl (e _ _ h))
  · exact .inl (.inr ⟨o, e _ _ h⟩)
  · exact .inr h
structure FunD (K : PySem.W.Frag) (x qual : Str) (st : Stmt) (f : Addr) (fd : FuncData) : Prop where
  ex : ∃ (oc : Value) (od : Option Addr) (dV kV doc pm : Value) (an : Option Addr) (cdv ct : Value) (osl : Array (Option Value)),
    fd = PySem.W.fnOf x qual (defArgs st) (defBody st) (defScope st) dV kV doc pm an cdv ct ∧ K.lookup f = some ⟨oc, od, .func fd, osl⟩ ∧ PySem.W.codeIn K cdv qual = true
  kp : PySem.W.keepIn K (.ref f) = true
section
variable {P : Program} {w : World} {K : PySem.W.Frag} {mg : Str → Option Value} {base : Heap}
theorem FunD.ok {x qual : Str} {st : Stmt} {f : Addr} {fd : FuncData} {N ps : List Str} {k : Nat} {sp : Sp} (F : FunD K x qual st f fd) (S : FnScope N ps (defScope st)) (len : ∀ vs H Q E, sp vs H Q E → vs.length = ps.length)
    (hbody : ∀ (cdv : Value) (A : Around) (outer : List Env) (s : Shared) (H : Hp) (vs : List V) (Q : VK) (E : XK), Room k (A.deeper (envOfC qual (defScope st) s.heap.objs.size f cdv)) → sp vs H Q E →
      ∃ t, PSs (cxOf CX0 P w K mg base N qual (defScope st) f cdv A outer s H E).nox (defBody st) t ∧ t { nx := fun _ H' => Q .non H', rt := Q } (start N vs) H) : FnOk P w K mg base CX0 (k + 1) f fd ps sp := by
  obtain ⟨oc, od, dV, kV, doc, pm, an, cdv, ct, osl, rfl, lk, hcd⟩ := F.ex
  refine fn_of lk hcd S len fun A outer s H vs Q E hr hsp => ?_
  obtain ⟨t, h, q⟩ := hbody cdv A outer s H vs Q E hr hsp
  exact ⟨t, h.nox, q⟩
end
end L2
namespace My
open PySem PyProof.Rows
theorem bits_le {k : Nat} {x : Int} (h : Bd k x) : PySem.Builtin.Int.intBits x ≤ k := by
  unfold PySem.Builtin.Int.intBits
  split
  · exact Nat.zero_le _
  · rename_i z
    have z' : x.natAbs ≠ 0 := by
      intro e
      apply z
      have : x = 0 := by omega
      rw [this]; rfl
    have := (Nat.log2_lt z').mpr h.lt
    omega
theorem mulOk {x y : Int} {j k : Nat} (hx : Bd j x) (hy : Bd k y) (h : (decide (j ≤ 100000) && decide (k ≤ 100000)) = true) : PySem.IntMulOk x y := by
  rw [Bool.and_eq_true, decide_eq_true_eq, decide_eq_true_eq] at h
  have e : (2 : Nat) ^ 20 = 1048576 := by decide
  exact PySem.IntMulOk.of_bits (by have := bits_le hx; omega) (by have := bits_le hy; omega)
theorem mulOkL {x y : Int} (h1 : -(2 ^ 64) < x) (h2 : x < 2 ^ 64) : PySem.IntMulOk x y := PySem.IntMulOk.of_left (PySem.intBits_le_64 h1 h2)
theorem mulOkR {x y : Int} (h1 : -(2 ^ 64) < y) (h2 : y < 2 ^ 64) : PySem.IntMulOk x y := PySem.IntMulOk.of_right (PySem.intBits_le_64 h1 h2)
end My
namespace L2
open PySem PySem.Spec PyProof.Rows
theorem bt_abs : bootBuiltins "abs" = some (.builtin "abs") := by decide +kernel
theorem bt_len : bootBuiltins "len" = some (.builtin "len") := by decide +kernel
theorem bt_max : bootBuiltins "max" = some (.builtin "max") := by decide +kernel
theorem bt_min : bootBuiltins "min" = some (.builtin "min") := by decide +kernel
theorem bt_int : bootBuiltins "int" = some (.type "int") := by decide +kernel
theorem bt_list : bootBuiltins "list" = some (.type "list") := by decide +kernel
def SB (p : Addr) (H H' : Hp) : Prop := ∀ b o, b ≠ p → H b = some o → H' b = some o
theorem SB.refl (p : Addr) (H : Hp) : SB p H H := fun _ _ _ h => h
theorem SB.trans {p : Addr} {H H1 H2 : Hp} (a : SB p H H1) (b : SB p H1 H2) : SB p H H2 := fun c o n h => b c o n (a c o n h)
theorem SB.put {p : Addr} {H : Hp} {o : HO} : SB p H (upd H p o) := fun _ _ n h => by rw [upd_ne n]; exact h
theorem SB.same {p : Addr} {H H' : Hp} (e : Same H H') : SB p H H' := fun b o _ h => e b o h
def Pl (H : Hp) (p : Addr) : Prop := ∃ a b : Int, H p = some (.lst [.int a, .int b]) ∧ 0 ≤ a ∧ 0 ≤ b
theorem Pl.same {H H' : Hp} {p : Addr} (h : Pl H p) (e : Same H H') : Pl H' p := by
  obtain ⟨a, b, q, r⟩ := h
  exact ⟨a, b, e _ _ q, r⟩
theorem Pl.new {H : Hp} {p : Addr} {a b : Int} (h1 : 0 ≤ a) (h2 : 0 ≤ b) : Pl (upd H p (.lst [.int a, .int b])) p := ⟨a, b, upd_same, h1, h2⟩
theorem divB {i j : Int} {k : Nat} (h0 : j ≠ 0) (h : My.Bd k j) (hk : (decide (0 < k) && decide (k ≤ 9000)) = true) : CDivB i j := by
  rw [Bool.and_eq_true, decide_eq_true_eq, decide_eq_true_eq] at hk
  exact ⟨h0, Nat.lt_of_lt_of_le (My.Bd.log2 h hk.1) hk.2⟩
end L2
namespace L2
open PySem PySem.Spec PyProof.Rows
def closOf (cells : List (Str × Addr)) : List (Str × NameKind) → List (Str × Addr) → List (Str × Addr)
  | [], cs => cs
  | (n, k) :: r, cs => closOf cells r (if k == .free then (match cells.lookup n with | some a => (n, a) :: cs | none => cs) else cs)
theorem clos_forIn {env : Env} : ∀ (names : List (Str × NameKind)) (cs : List (Str × Addr)), (∀ y ∈ names, y.2 = .free → ∃ c, env.cells.lookup y.1 = some c) →
    (forIn names cs (fun (x : Str × NameKind) (r : List (Str × Addr)) => (do
      if x.2 == .free then
        let a ← cellOf env x.1
        pure (ForInStep.yield ((x.1, a) :: r))
      else pure (ForInStep.yield r) : Sem (ForInStep (List (Str × Addr)))))) = (pure (closOf env.cells names cs) : Sem _)
  | [], cs, _ => rfl
  | (n, k) :: r, cs, h => by
    rw [List.forIn_cons]
    have hr : ∀ y ∈ r, y.2 = .free → ∃ c, env.cells.lookup y.1 = some c := fun y hy => h y (List.mem_cons_of_mem _ hy)
    by_cases hk : k = .free
    · subst hk
      obtain ⟨c, hc⟩ := h (n, .free) List.mem_cons_self rfl
      have hc' : env.cells.lookup n = some c := hc
      simp only [beq_self_eq_true, if_true, cellOf, hc', pure_bind, closOf]
      exact clos_forIn r _ hr
    · have hb : (k == NameKind.free) = false := by simpa using hk
      simp only [hb, Bool.false_eq_true, if_false, pure_bind, closOf]
      exact clos_forIn r _ hr
theorem closureFor_of {scope : Scope} {env : Env} (h : ∀ y ∈ scope.names, y.2 = .free → ∃ c, env.cells.lookup y.1 = some c) : closureFor scope env = pure (closOf env.cells scope.names []) := by
  have e := clos_forIn (env := env) scope.names [] h
  unfold closureFor
  simp only [bind_pure_comp] at e ⊢
  first
    | (simpa using e)
    | (rw [← e]; rfl)
theorem closOf_sub {cells : List (Str × Addr)} {x : Str} {c : Addr} : ∀ {names : List (Str × NameKind)} {cs : List (Str × Addr)}, (closOf cells names cs).lookup x = some c → (∀ c', cs.lookup x = some c' → cells.lookup x = some c') → cells.lookup x = some c
  | [], cs, h, hc => hc c h
  | (n, k) :: r, cs, h, hc => by
    refine closOf_sub (names := r) h fun c' hc' => ?_
    by_cases hk : (k == NameKind.free) = true
    · rw [if_pos hk] at hc'
      cases e : cells.lookup n with
      | none => rw [e] at hc'; exact hc c' hc'
      | some a =>
        rw [e] at hc'
        by_cases hx : x = n
        · subst hx
          simp only [List.lookup_cons, beq_self_eq_true] at hc'
          rw [e]; exact hc'
        · have hb : (x == n) = false := beq_eq_false_iff_ne.mpr hx
          simp only [List.lookup_cons, hb] at hc'
          exact hc c' hc'
    · rw [if_neg hk] at hc'
      exact hc c' hc'
theorem closOf_mono {cells : List (Str × Addr)} {x : Str} : ∀ {names : List (Str × NameKind)} {cs : List (Str × Addr)}, (∃ c, cs.lookup x = some c) → ∃ c, (closOf cells names cs).lookup x = some c
  | [], _, h => h
  | (n, k) :: r, cs, h => by
    refine closOf_mono (names := r) ?_
    split
    · split
      · rename_i a _
        by_cases hx : x = n
        · subst hx; exact ⟨a, by simp⟩
        · have hb : (x == n) = false := beq_eq_false_iff_ne.mpr hx
          simpa [List.lookup_cons, hb] using h
      · exact h
    · exact h
theorem closOf_has {cells : List (Str × Addr)} {x : Str} : ∀ {names : List (Str × NameKind)} {cs : List (Str × Addr)}, (x, NameKind.free) ∈ names → (∃ c, cells.lookup x = some c) → ∃ c, (closOf cells names cs).lookup x = some c
  | [], _, h, _ => nomatch h
  | (n, k) :: r, cs, h, hc => by
    rcases List.mem_cons.mp h with e | h
    · cases e
      refine closOf_mono (names := r) ?_
      obtain ⟨c, hc⟩ := hc
      rw [if_pos (by rfl), hc]
      exact ⟨c, by simp⟩
    · exact closOf_has (names := r) h hc
theorem compLoop_own {prog : Program} {w : World} {A : Around} {R : Result → Shared → Prop} {s : Shared} {elt target iter : Expr} {ifs : List Expr} {scope : Scope} {pos : Pos} {it acc : Value} {env : Env} (I : Nat → Shared → Prop)
    (turn : ∀ n s, I n s → wpAny (model prog w) A (pyNext it) (fun r s₁ => match r with
      | none => R (.ok .next) s₁
      | some v => wpAny (model prog w) A (letOwnedTupleGo target it v) (fun _ s₀ => wpAny (model prog w) A (assign target env v) (fun _ s₂ =>
          wpAny (model prog w) A (forIn ifs true fun c r => if r = true then do let ok ← isTrue c env (eval c env); pure (ForInStep.yield ok) else pure (ForInStep.yield r)) (fun ok s₃ =>
            if ok = true then wpAny (model prog w) A (eval elt env) (fun x s₄ =>
              wpAny (model prog w) A (call (.builtin "list.append") [acc, x]) (fun _ s₅ => ∃ m, m < n ∧ I m s₅) (fun _ _ => False) s₄) (fun _ _ => False) s₃
            else ∃ m, m < n ∧ I m s₃) (fun _ _ => False) s₂) (fun _ _ => False) s₀) (fun _ _ => False) s₁) (fun _ _ => False) s)
    (n : Nat) (h : I n s) :
    codeAny (model prog w) A (.compLoop (.ListComp elt [⟨target, iter, ifs, 0⟩] scope pos) 0 it acc env) R s := by
  refine codeAny_loop rfl I (fun n s hI => ?_) n h
  show wpAny _ A ((compTurn (.ListComp elt [⟨target, iter, ifs, 0⟩] scope pos) 0 it acc env).onRaise (fun x => do noteFrame x env; theTreesLotGoes x)) _ _ s
  refine wpAny_noted ?_
  rw [compTurn_list]
  refine wpAny_bind (wpAny_standAt (wpAny_bind (wpAny_mono (turn n s hI) (fun r s₁ h₁ => ?_) fun _ _ h' => h'.elim)))
  cases r with
  | none => exact wpAny_pure h₁
  | some v =>
    refine wpAny_bind (wpAny_mono h₁ (fun _ s₀ h₀ => ?_) fun _ _ h' => h'.elim)
    refine wpAny_bind (wpAny_mono h₀ (fun _ s₂ h₂ => wpAny_bind (wpAny_mono h₂ (fun ok s₃ h₃ => ?_) fun _ _ h' => h'.elim)) fun _ _ h' => h'.elim)
    cases ok with
    | false => exact wpAny_pure ⟨rfl, h₃⟩
    | true =>
      exact wpAny_bind (wpAny_bind (wpAny_mono h₃ (fun x s₄ h₄ => wpAny_bind (wpAny_mono h₄ (fun _ s₅ h₅ => wpAny_pure (wpAny_pure ⟨rfl, h₅⟩)) fun _ _ h' => h'.elim)) fun _ _ h' => h'.elim))
abbrev Cx.blk (X : Cx) (scope : Scope) (C : Addr) (N' : List Str) (s₀ : Shared) (H₀ : Hp) (fp : List Addr) : Cx :=
  { X with N := N', s₀ := s₀, H₀ := H₀, env := compEnvC scope (closOf X.env.cells scope.names []) C X.env, outer := X.stack, ex := fp, fn := fun _ => false, pn := [], xe := fun _ _ => False }
def tau (σ : St) (cap : List (Option Nat)) : St := cap.map fun o => match o with
  | some i => (match σ[i]? with | some v => v | none => none)
  | none => none
structure BlkOk (X : Cx) (scope : Scope) (N' : List Str) (cap : List (Option Nat)) : Prop where
  kind : scope.kind = .function
  ncell : ∀ y ∈ scope.names, y.2 ≠ .cell
  names : ∀ y ∈ scope.names, y.2 = .local → scope.names.lookup y.1 = some .local
  frees : ∀ y ∈ scope.names, y.2 = .free → X.env.kindOf y.1 = some .cell ∨ X.env.kindOf y.1 = some .free
  len : cap.length = N'.length
  caps : ∀ (j i : Nat) (x : Str), cap[j]? = some (some i) → N'[j]? = some x → X.N[i]? = some x ∧ (x, NameKind.free) ∈ scope.names
  vis : ∀ (j i : Nat) (x : Str), cap[j]? = some (some i) → N'[j]? = some x → Vis X.env.scope x
  un : ∀ (j i : Nat) (x : Str), cap[j]? = some (some i) → N'[j]? = some x → ∀ z ∈ scope.names, z.1 = x → z.2 = .free
def capOk (sc scope : Scope) (NN : List Str) : List Str → List (Option Nat) → Bool
  | [], [] => true
  | _ :: N, none :: c => capOk sc scope NN N c
  | x :: N, some i :: c => decide (NN[i]? = some x) && decide ((x, NameKind.free) ∈ scope.names) && (decide (sc.names.lookup x = some .local) || decide (sc.names.lookup x = some .cell) || decide (sc.names.lookup x = some .free)) && decide (∀ z ∈ scope.names, z.1 = x → z.2 = .free) && capOk sc scope NN N c
  | _, _ => false
theorem capOk_len {sc scope : Scope} {NN : List Str} : ∀ {N' : List Str} {cap : List (Option Nat)}, capOk sc scope NN N' cap = true → cap.length = N'.length
  | [], [], _ => rfl
  | _ :: _, none :: _, h => congrArg (· + 1) (capOk_len (by simpa only [capOk] using h))
  | _ :: _, some _ :: _, h => congrArg (· + 1) (capOk_len (by simp only [capOk, Bool.and_eq_true] at h; exact h.2))
  | [], _ :: _, h => by simp [capOk] at h
  | _ :: _, [], h => by simp [capOk] at h
theorem capOk_at {sc scope : Scope} {NN : List Str} : ∀ {N' : List Str} {cap : List (Option Nat)}, capOk sc scope NN N' cap = true → ∀ (j i : Nat) (x : Str), cap[j]? = some (some i) → N'[j]? = some x →
    NN[i]? = some x ∧ (x, NameKind.free) ∈ scope.names ∧ Vis sc x ∧ ∀ z ∈ scope.names, z.1 = x → z.2 = .free
  | [], [], _, j, i, x, e, _ => by simp at e
  | _ :: _, none :: _, h, 0, i, x, e, _ => by simp at e
  | _ :: _, none :: _, h, j + 1, i, x, e, e' => capOk_at (by simpa only [capOk] using h) j i x (by simpa using e) (by simpa using e')
  | y :: _, some k :: _, h, 0, i, x, e, e' => by
    simp only [List.getElem?_cons_zero, Option.some.injEq] at e e'
    subst e e'
    simp only [capOk, Bool.and_eq_true, Bool.or_eq_true, decide_eq_true_eq] at h
    obtain ⟨⟨⟨⟨h1, h2⟩, h3⟩, h4⟩, _⟩ := h
    refine ⟨h1, h2, ?_, h4⟩
    rcases h3 with (h3 | h3) | h3
    · exact .inl h3
    · exact .inr (.inl h3)
    · exact .inr (.inr h3)
  | _ :: _, some _ :: _, h, j + 1, i, x, e, e' => capOk_at (by simp only [capOk, Bool.and_eq_true] at h; exact h.2) j i x (by simpa using e) (by simpa using e')
  | [], _ :: _, h, _, _, _, _, _ => by simp [capOk] at h
  | _ :: _, [], h, _, _, _, _, _ => by simp [capOk] at h
theorem blk_mk {X : Cx} {sc scope : Scope} {NN N' : List Str} {cap : List (Option Nat)} (e : X.env.scope = sc) (eN : X.N = NN) (h1 : scope.kind = .function) (h2 : ∀ y ∈ scope.names, y.2 ≠ .cell) (h3 : ∀ y ∈ scope.names, y.2 = .local → scope.names.lookup y.1 = some .local)
    (h4 : ∀ y ∈ scope.names, y.2 = .free → sc.names.lookup y.1 = some .cell ∨ sc.names.lookup y.1 = some .free) (h5 : capOk sc scope NN N' cap = true) : BlkOk X scope N' cap := by
  subst e eN
  exact ⟨h1, h2, h3, h4, capOk_len h5, fun j i x a b => ⟨(capOk_at h5 j i x a b).1, (capOk_at h5 j i x a b).2.1⟩, fun j i x a b => (capOk_at h5 j i x a b).2.2.1, fun j i x a b => (capOk_at h5 j i x a b).2.2.2⟩
def tComp (wi : TI) (cap : List (Option Nat)) (g : TG) (tt : TT) (te : TE) : TE := fun σ H Q => wi σ H fun J H1 => ∀ l, H1 l = none →
  ∃ W : Nat → Nat → St → Hp → Prop, (∃ m, W 0 m (tau σ cap) (upd H1 l (.lst []))) ∧ ∀ i m τ H2, W i m τ H2 →
    (J.stop i H2 ∧ Q (.ref l) H2) ∨ (J.go i H2 ∧ ∃ N : St → Hp → Prop, (∀ τ' H', N τ' H' → ∃ m', m' < m ∧ W (i + 1) m' τ' H') ∧
      ∀ x H', J.yld i H2 x H' → g x τ H' fun τ2 H3 => tt τ2 H3 fun b H4 => if b = true then te τ2 H4 fun y H5 => ∃ ys, H5 l = some (.lst ys) ∧ ys.length < sizeLine ∧ N τ2 (upd H5 l (.lst (ys ++ [y]))) else N τ2 H4)
def tYes : TT := fun _ H Q => Q true H
namespace Zu
set_option allowUnsafeReducibility true in
@[scoped irreducible] def _root_.L2.PIfs (X : Cx) (ifs : List Expr) (t : TT) : Prop :=
  ∀ (pins : List (Addr × Obj)) (s : Shared) (σ : St) (H : Hp) (Q : Bool → Hp → Prop), Inv X pins σ H s → t σ H Q →
    wpAny (model X.prog X.w) X.A (forIn ifs true fun c r => if r = true then do let ok ← isTrue c X.env (eval c X.env); pure (ForInStep.yield ok) else pure (ForInStep.yield r)) (TP X pins σ Q) X.xe s
end Zu
theorem ifs_none {X : Cx} : PIfs X [] tYes := fun _ _ _ H _ I h => wpAny_tests_nil ⟨H, I, h⟩
theorem ifs_one {X : Cx} {c : Expr} {t : TT} (h : PT X c t) : PIfs X [c] t := fun pins s σ H Q I q => wpAny_tests_one (h pins s σ H Q I q)
section
variable {X : Cx} {pos : Pos} {elt iter tg : Expr} {ifs : List Expr} {scope : Scope} {N' : List Str} {cap : List (Option Nat)} {wi : TI} {g : TG} {tt : TT} {te : TE}
theorem relabel_free {X : Cx} : ∀ {names : List (Str × NameKind)} {y : Str} {k : NameKind}, (names.map fun (n, k) => if (k == NameKind.free && X.env.scope.kind == .function && X.env.kindOf n == some .cell) then (n, NameKind.cell) else (n, k)).lookup y = some k →
    (k = .cell ∨ k = .free) → (∀ z ∈ names, z.2 ≠ .cell) → (y, NameKind.free) ∈ names
  | [], _, _, h, _, _ => by simp at h
  | (n, k0) :: r, y, k, h, hk, hc => by
    have hcr : ∀ z ∈ r, z.2 ≠ .cell := fun z hz => hc z (List.mem_cons_of_mem _ hz)
    have h0 : k0 ≠ .cell := hc (n, k0) List.mem_cons_self
    rw [List.map_cons] at h
    dsimp only at h
    by_cases hy : y = n
    · subst hy
      have : k0 = .free := by
        by_cases hf : k0 = .free
        · exact hf
        · exfalso
          have hb : (k0 == NameKind.free) = false := by simpa using hf
          simp only [hb, Bool.false_and, Bool.false_eq_true, if_false, List.lookup_cons, beq_self_eq_true] at h
          cases h
          rcases hk with e | e
          · exact h0 e
          · exact hf e
      subst this
      exact List.mem_cons_self
    · have hb : (y == n) = false := beq_eq_false_iff_ne.mpr hy
      have h' : (r.map fun (n, k) => if (k == NameKind.free && X.env.scope.kind == .function && X.env.kindOf n == some .cell) then (n, NameKind.cell) else (n, k)).lookup y = some k := by
        split at h <;> simpa only [List.lookup_cons, hb] using h
      exact List.mem_cons_of_mem _ (relabel_free (X := X) h' hk hcr)
theorem relabel_kind {X : Cx} : ∀ {names : List (Str × NameKind)} {y : Str}, (y, NameKind.free) ∈ names → (∀ z ∈ names, z.1 = y → z.2 = .free) → ∃ k, (k = NameKind.cell ∨ k = .free) ∧
    (names.map fun (n, k) => if (k == NameKind.free && X.env.scope.kind == .function && X.env.kindOf n == some .cell) then (n, NameKind.cell) else (n, k)).lookup y = some k
  | [], _, h, _ => nomatch h
  | (n, k0) :: r, y, h, hu => by
    rw [List.map_cons]
    dsimp only
    by_cases hy : y = n
    · subst hy
      have : k0 = .free := hu (y, k0) List.mem_cons_self rfl
      subst this
      split
      · exact ⟨.cell, .inl rfl, by simp⟩
      · exact ⟨.free, .inr rfl, by simp⟩
    · have hb : (y == n) = false := beq_eq_false_iff_ne.mpr hy
      have hm : (y, NameKind.free) ∈ r := by
        rcases List.mem_cons.mp h with e | h
        · cases e; exact absurd rfl hy
        · exact h
      obtain ⟨k, hk, e⟩ := relabel_kind (X := X) hm fun z hz => hu z (List.mem_cons_of_mem _ hz)
      refine ⟨k, hk, ?_⟩
      split <;> simpa only [List.lookup_cons, hb] using e
theorem inv_blk {pins : List (Addr × Obj)} {σ : St} {H : Hp} {s : Shared} {fp : List Addr} {h1 : Heap} {m : Str → Option Value} {t' : Nat} (B : BlkOk X scope N' cap)
    (I : Inv X pins σ H s) (hf : ∀ b ∈ fp, FpOk X pins H b) (ho : ∀ b ∈ fp, ∃ o, s.heap.get? b = some o) (keep : ∀ b o, s.heap.get? b = some o → h1.get? b = some o) (hns : h1.Ns s.heap.objs.size m) :
    Inv (X.blk scope s.heap.objs.size N' s H fp) [] (tau σ cap) H { s with heap := h1, toks := t' } := by
  have I1 : Inv X pins σ H { s with heap := h1, toks := t' } := I.kept keep
  have csub : ∀ y c, (closOf X.env.cells scope.names []).lookup y = some c → X.env.cells.lookup y = some c := fun y c h => closOf_sub h fun c' hc' => by simp at hc'
  refine ⟨⟨I.ok.mod, B.kind, I.ok.glob, I.ok.blt, Nat.le_refl _, fun y z c e1 e2 => I.ok.inj y z c (csub y c e1) (csub z c e2), fun y hy => ?_, fun y c e _ => absurd e (by simp), I.ok.hd, I.ok.frames, .inl rfl, fun b hb => ⟨?_, fun y c e => (hf b hb).2.2.2.2.1 y c (csub y c e)⟩, fun b o e => I.bs b o e, Nat.le_trans I.ok.bsz I.sz, fun b o e hb => ?_, fun b hb hs => ?_, I.stack, I.stkFree⟩,
    rfl, I.bare, Un.kept keep, ⟨m, hns, fun j y v e1 e2 e3 => ?_⟩, fun y c e => I1.cell y c (csub y c e), I.hok.fresh (Nat.le_refl _), fun y c e => I.freeC y c (csub y c e), fun p hp => absurd hp (by simp), I1.hok, ?_⟩
  · -- has
    have hy' : (y, NameKind.free) ∈ scope.names := by
      rcases hy with hy | hy
      · exact relabel_free (X := X) (k := .cell) hy (.inl rfl) B.ncell
      · exact relabel_free (X := X) (k := .free) hy (.inr rfl) B.ncell
    exact closOf_has hy' (I.ok.has y (B.frees (y, .free) hy' rfl))
  · -- fp below the block's frame
    obtain ⟨o, e⟩ := ho b hb
    exact Nat.ne_of_lt (Heap.lt_size e)
  · -- base
    rcases (hf b hb).2.2.2.1 with z | z
    · exact I.ok.noex b o e z
    · exact absurd (Nat.lt_of_lt_of_le (Heap.lt_size e) (Nat.le_trans I.ok.bsz z)) (Nat.lt_irrefl _)
  · -- frames
    rcases List.mem_cons.mp (I.stkSub b hs) with z | z
    · exact (hf b hb).2.1 z
    · exact (hf b hb).2.2.1 z
  · -- captured values
    have hc : ∃ i, cap[j]? = some (some i) ∧ σ[i]? = some (some v) := by
      unfold tau at e2
      rw [List.getElem?_map] at e2
      cases e : cap[j]? with
      | none => rw [e] at e2; cases e2
      | some o =>
        rw [e] at e2
        cases o with
        | none => simp at e2
        | some i =>
          refine ⟨i, rfl, ?_⟩
          simp only [Option.map_some, Option.some.injEq] at e2
          cases q : σ[i]? with
          | none => rw [q] at e2; cases e2
          | some w =>
            rw [q] at e2
            have e2' : w = some v := e2
            rw [e2']
    obtain ⟨i, hi, hv⟩ := hc
    obtain ⟨hN, hfree⟩ := B.caps j i y hi e1
    obtain ⟨m1, _, hl⟩ := I1.loc
    obtain ⟨u, r, l⟩ := hl i y v hN hv (B.vis j i y hi e1)
    refine ⟨u, r, .inr ?_⟩
    obtain ⟨k, hk, ek⟩ := relabel_kind (X := X) hfree (B.un j i y hi e1)
    have hcell : ∃ c, X.env.cells.lookup y = some c ∧ h1.IsCell c (some u) := by
      rcases l with ⟨k1, _⟩ | ⟨_, c, e, z⟩
      · rcases B.frees (y, .free) hfree rfl with q | q
        · rw [show X.env.kindOf y = some NameKind.local from k1] at q; cases q
        · rw [show X.env.kindOf y = some NameKind.local from k1] at q; cases q
      · exact ⟨c, e, z⟩
    obtain ⟨c, ec, zc⟩ := hcell
    obtain ⟨c', ec'⟩ := closOf_has (cs := []) hfree ⟨c, ec⟩
    have : c' = c := by have := csub y c' ec'; rw [ec] at this; cases this; rfl
    subst this
    refine ⟨?_, c', ec', zc⟩
    rcases hk with rfl | rfl
    · exact .inl ek
    · exact .inr ek
  · show (tau σ cap).length = N'.length
    unfold tau
    rw [List.length_map]; exact B.len
theorem comp_core {RR : Value → Addr → Result → Shared → Prop} {pins : List (Addr × Obj)} {σ : St} {H2 : Hp} {s2 : Shared} {it : Addr} {fp : List Addr} {tn : Nat → Heap → Prop} {J : It} {Q : VK} (B : BlkOk X scope N' cap) (hc : X.calm = true)
    (hg : ∀ C s₀ H₀ fp, PG (X.blk scope C N' s₀ H₀ fp) tg g) (ht : ∀ C s₀ H₀ fp, PIfs (X.blk scope C N' s₀ H₀ fp) ifs tt) (he : ∀ C s₀ H₀ fp, PE (X.blk scope C N' s₀ H₀ fp) elt te)
    (I2 : Inv X pins σ H2 s2) (T : Turn X.prog X.w X.K tg J fp it tn) (st2 : tn 0 s2.heap) (f2 : ∀ b ∈ fp, FpOk X pins H2 b)
    (hcont : ∀ l, H2 l = none → ∃ W : Nat → Nat → St → Hp → Prop, (∃ m, W 0 m (tau σ cap) (upd H2 l (.lst []))) ∧ ∀ i m τ H2, W i m τ H2 →
      (J.stop i H2 ∧ Q (.ref l) H2) ∨ (J.go i H2 ∧ ∃ N : St → Hp → Prop, (∀ τ' H', N τ' H' → ∃ m', m' < m ∧ W (i + 1) m' τ' H') ∧
        ∀ x H', J.yld i H2 x H' → g x τ H' fun τ2 H3 => tt τ2 H3 fun b H4 => if b = true then te τ2 H4 fun y H5 => ∃ ys, H5 l = some (.lst ys) ∧ ys.length < sizeLine ∧ N τ2 (upd H5 l (.lst (ys ++ [y]))) else N τ2 H4))
    (fin : ∀ (D C : Addr) (o : Obj) (m : Str → Option Value) (H5 : Hp) (s5 : Shared), Inv X pins σ H5 s5 → FpOk X pins H5 C → s5.heap.get? C = some o → (∀ v, o.data ≠ .cell v) → s5.heap.Ns C m → Q (.ref D) H5 → RR (.ref D) C (.ok .next) s5) :
    wpAny (model X.prog X.w) X.A (newList []) (fun acc s₃ => wpAny (model X.prog X.w) X.A (newFunctionEnv scope X.env.globals (closOf X.env.cells scope.names []) [] X.env.qual none .none (some X.env)) (fun cenv s₄ =>
      codeAny (model X.prog X.w) X.A (.compStart (.ListComp elt [⟨tg, iter, ifs, 0⟩] scope pos) 0 (.ref it) acc { cenv with scope := relabel scope X.env }) (RR acc cenv.locals) s₄) X.xe s₃) X.xe s2 := by
  refine wpAny_newObj_type (wpAny_newFunctionEnv B.ncell (by intro y hy; simp at hy) (fun h₁ hns₁ hsb₁ => ?_) B.kind)
  dsimp only at hns₁ hsb₁ ⊢
  have I3 : Inv X pins σ (upd H2 s2.heap.objs.size (.lst [])) { s2 with heap := s2.heap.push { cls := .type "list", dict := none, data := .seq ([] : List Value).toArray } } := I2.lnew (t' := s2.toks) (its := []) (ys := []) .nil (Nat.zero_le _)
  have hD : H2 s2.heap.objs.size = none := I2.fresh
  have hfpD : ∀ b ∈ fp, b ≠ s2.heap.objs.size := fun b hb => by
    obtain ⟨o, e, _⟩ := T.obj 0 _ st2 b hb
    exact Nat.ne_of_lt (Heap.lt_size e)
  have f3 : ∀ b ∈ fp, FpOk X pins (upd H2 s2.heap.objs.size (.lst [])) b := fun b hb => ⟨by rw [upd_ne (hfpD b hb)]; exact (f2 b hb).1, (f2 b hb).2⟩
  obtain ⟨W, ⟨m0, w0⟩, turn⟩ := hcont s2.heap.objs.size hD
  generalize hs3 : ({ s2 with heap := s2.heap.push { cls := .type "list", dict := none, data := .seq ([] : List Value).toArray } } : Shared) = s3 at I3
  have hh3 : s3.heap = s2.heap.push { cls := .type "list", dict := none, data := .seq ([] : List Value).toArray } := by rw [← hs3]
  have keep : ∀ b o, s3.heap.get? b = some o → h₁.get? b = some o := fun b o e => by
    have hlt := Heap.lt_size e
    rw [hh3] at e hlt
    exact hsb₁.extBut b o (Nat.ne_of_lt hlt) (Heap.get?_push_of_some _ e)
  have ho3 : ∀ b ∈ fp, ∃ o, s3.heap.get? b = some o := fun b hb => by
    obtain ⟨o, e, _⟩ := T.obj 0 _ st2 b hb
    exact ⟨o, by rw [hh3]; exact Heap.get?_push_of_some _ e⟩
  have hsz3 : s3.heap.objs.size = (s2.heap.push { cls := .type "list", dict := none, data := .seq ([] : List Value).toArray }).objs.size := by rw [hh3]
  rw [← hsz3] at hns₁ ⊢
  have J0 : Inv (X.blk scope s3.heap.objs.size N' s3 (upd H2 s2.heap.objs.size (.lst [])) fp) [] (tau σ cap) (upd H2 s2.heap.objs.size (.lst [])) { s3 with heap := h₁, toks := s3.toks } := inv_blk (t' := s3.toks) B I3 f3 ho3 keep hns₁
  have tn0 : tn 0 h₁ := T.keep 0 s2.heap h₁ st2 fun b hb o e => keep b o (by rw [hh3]; exact Heap.get?_push_of_some _ e)
  have es : ({ s2 with heap := h₁, toks := s2.toks + ([] : List (Str × Value)).length } : Shared) = { s3 with heap := h₁, toks := s3.toks } := by
    rw [← hs3]; rfl
  have keep5 : ∀ {s5 : Shared} {H5 : Hp} {τ5 : St}, Inv (X.blk scope s3.heap.objs.size N' s3 (upd H2 s2.heap.objs.size (.lst [])) fp) [] τ5 H5 s5 → Inv X pins σ H5 s5 := fun {s5 H5 τ5} J5 =>
    I3.call' (ch := fp) J5.os J5.base J5.hok J5.bare fun b hb => ⟨(f3 b hb).2.2.2.1, (f3 b hb).2.1, (f3 b hb).2.2.2.2.1, (f3 b hb).2.2.2.2.2⟩
  have fok : ∀ {H' : Hp}, (∀ b ∈ fp, H' b = none) → ∀ b ∈ fp, FpOk (X.blk scope s3.heap.objs.size N' s3 (upd H2 s2.heap.objs.size (.lst [])) fp) [] H' b := fun {H'} hn b hb =>
    ⟨hn b hb, (J0.ok.exf b hb).1, J0.ok.exfs b hb, .inl hb, (J0.ok.exf b hb).2, fun p hp => absurd hp (by simp)⟩
  have loop : codeAny (model X.prog X.w) X.A (.compLoop (.ListComp elt [⟨tg, iter, ifs, 0⟩] scope pos) 0 (.ref it) (.ref s2.heap.objs.size) (compEnvC scope (closOf X.env.cells scope.names []) s3.heap.objs.size X.env))
      (RR (.ref s2.heap.objs.size) s3.heap.objs.size) { s3 with heap := h₁, toks := s3.toks } := by
    refine compLoop_own (fun n s' => ∃ i τ H', Inv (X.blk scope s3.heap.objs.size N' s3 (upd H2 s2.heap.objs.size (.lst [])) fp) [] τ H' s' ∧ tn i s'.heap ∧ (∀ b ∈ fp, H' b = none) ∧ W i n τ H') ?_ m0 ⟨0, _, _, J0, tn0, fun b hb => (f3 b hb).1, w0⟩
    rintro n s4 ⟨i, τ, H4, J4, st4, fr4, w4⟩
    rcases turn i n τ H4 w4 with ⟨stop, q⟩ | ⟨go, N, hN, step⟩
    · refine wpAny_mono (T.done (X.blk scope s3.heap.objs.size N' s3 (upd H2 s2.heap.objs.size (.lst [])) fp) rfl rfl rfl hc i [] s4 τ H4 (fun _ _ => False) J4 (fok fr4) st4 stop) (fun r s5 ⟨hr, J5⟩ => ?_) (fun _ _ f => f)
      subst hr
      obtain ⟨m5, hn5, _⟩ := J5.loc
      have I5 : Inv X pins σ H4 s5 := keep5 J5
      obtain ⟨o5, es5, ep5, ho5, hd5, _⟩ := id hn5
      refine fin _ _ o5 m5 H4 s5 I5 ⟨J5.free, fun e => ?_, I3.nofs (Nat.le_refl _), .inr I3.sz, fun y c e z => ?_, fun p hp z => ?_⟩ ho5 (fun v e => ?_) hn5 q
      · have := I3.lt
        rw [← e] at this
        exact Nat.lt_irrefl _ this
      · obtain ⟨v, o, hoc, _⟩ := I3.cell y c e
        have := Heap.lt_size hoc
        rw [z] at this
        exact Nat.lt_irrefl _ this
      · have := Heap.lt_size (I3.pin p hp).1
        rw [z] at this
        exact Nat.lt_irrefl _ this
      · rw [hd5] at e; cases e
    · refine wpAny_mono (T.item (X.blk scope s3.heap.objs.size N' s3 (upd H2 s2.heap.objs.size (.lst [])) fp) rfl rfl rfl hc i [] s4 τ H4 (fun _ _ => False) J4 (fok fr4) st4 go) (fun r s5 ⟨u, hr, h5⟩ => ?_) (fun _ _ f => f)
      subst hr
      refine wpAny_mono h5 (fun _ s6 ⟨xv, H6, J6, r6, y6, st6, fr6⟩ => ?_) (fun _ _ f => f)
      have J6' := J6.pinned (fok fr6) (T.obj _ _ st6)
      have again : ∀ {s7 : Shared} {τ7 : St} {H7 : Hp}, Inv (X.blk scope s3.heap.objs.size N' s3 (upd H2 s2.heap.objs.size (.lst [])) fp) ([] ++ pinsAt fp s6.heap) τ7 H7 s7 → N τ7 H7 → ∃ m, m < n ∧ ∃ i τ H', Inv (X.blk scope s3.heap.objs.size N' s3 (upd H2 s2.heap.objs.size (.lst [])) fp) [] τ H' s7 ∧ tn i s7.heap ∧ (∀ b ∈ fp, H' b = none) ∧ W i m τ H' := fun {s7 τ7 H7} J7 n7 => by
        obtain ⟨m', hm, w7⟩ := hN τ7 H7 n7
        refine ⟨m', hm, i + 1, τ7, H7, J7.unpinned, T.keep _ _ _ st6 fun b hb o e => (J7.pin (b, o) (List.mem_append_right _ (List.mem_append_right _ (mem_pinsAt hb e)))).1, fun b hb => ?_, w7⟩
        obtain ⟨o, e, d⟩ := T.obj _ _ st6 b hb
        exact (J7.pin (b, o) (List.mem_append_right _ (List.mem_append_right _ (mem_pinsAt hb e)))).2.1
      refine wpAny_mono (hg s3.heap.objs.size s3 (upd H2 s2.heap.objs.size (.lst [])) fp _ s6 τ H6 xv u _ J6' r6 (step xv H6 y6)) (fun _ s7 ⟨τ7, H7, J7, q7⟩ => ?_) (fun _ _ f => f)
      refine wpAny_mono (ht s3.heap.objs.size s3 (upd H2 s2.heap.objs.size (.lst [])) fp _ s7 τ7 H7 _ J7 q7) (fun ok s8 ⟨H8, J8, q8⟩ => ?_) (fun _ _ f => f)
      cases ok with
      | false =>
        rw [if_neg (by decide)] at q8 ⊢
        exact again J8 q8
      | true =>
        rw [if_pos rfl] at q8 ⊢
        refine wpAny_mono (he s3.heap.objs.size s3 (upd H2 s2.heap.objs.size (.lst [])) fp _ s8 τ7 H8 _ J8 q8) (fun yv s9 ⟨y, H9, J9, r9, q9⟩ => ?_) (fun _ _ f => f)
        obtain ⟨ys, hl, hz, n9⟩ := q9
        exact wpAny_mono (mt_append (X := X.blk scope s3.heap.objs.size N' s3 (upd H2 s2.heap.objs.size (.lst [])) fp) _ s9 τ7 H9 (.ref s2.heap.objs.size) [y] (.ref s2.heap.objs.size) [yv] (fun _ H' => N τ7 H') J9 rfl (.cons r9 .nil) ⟨_, ys, y, rfl, rfl, hl, hz, n9⟩) (fun _ s10 ⟨_, H10, J10, _, n10⟩ => again J10 n10) (fun _ _ f => f)
  rw [es]
  exact codeAny_compStart_list loop (T.self _ 0 _ _ _ tn0 loop)
theorem pe_comp (B : BlkOk X scope N' cap) (hc : X.calm = true)
    (hi : PI X tg iter wi) (hg : ∀ C s₀ H₀ fp, PG (X.blk scope C N' s₀ H₀ fp) tg g) (ht : ∀ C s₀ H₀ fp, PIfs (X.blk scope C N' s₀ H₀ fp) ifs tt) (he : ∀ C s₀ H₀ fp, PE (X.blk scope C N' s₀ H₀ fp) elt te)
    (hs : ∀ x, foldedSetIterable iter X.env x = pure x := by intro _; rfl) :
    PE X (.ListComp elt [⟨tg, iter, ifs, 0⟩] scope pos) (tComp wi cap g tt te) := by
  intro pins s σ H Q I h
  rw [eval_ListComp]
  refine wpAny_comprehension_free (use := none) rfl hs (closureFor_of fun y hy hf => I.ok.has y.1 (B.frees y hy hf)) B.kind B.names ?_
  refine thn (hi pins s σ H _ I h) fun v s1 h1 => thn h1 fun itv s2 h2 => ?_
  obtain ⟨it, fp, tn, J, H2, e, I2, T, st2, f2, hcont⟩ := h2
  subst e
  refine comp_core (RR := fun acc C => compPost (model X.prog X.w) X.A X.xe none (EP X pins σ Q) acc C) B hc hg ht he I2 T st2 f2 hcont fun D C o m H5 s5 I5 f5 ho hd hn q => ?_
  refine ⟨m, hn, fun h' hs' => ?_⟩
  exact ⟨.ref D, H5, I5.turned (t' := s5.toks) (it := C) (fun b o hb e => hs'.extBut b o hb e) f5.1 (fun e => f5.2.1 e) f5.2.2.2.1 f5.2.2.2.2.1 f5.2.2.2.2.2, rfl, q⟩
theorem ps_comp {i : Nat} {y : Str} {py spos : Pos} (B : BlkOk X scope N' cap) (hc : X.calm = true)
    (hi : PI X tg iter wi) (hg : ∀ C s₀ H₀ fp, PG (X.blk scope C N' s₀ H₀ fp) tg g) (ht : ∀ C s₀ H₀ fp, PIfs (X.blk scope C N' s₀ H₀ fp) ifs tt) (he : ∀ C s₀ H₀ fp, PE (X.blk scope C N' s₀ H₀ fp) elt te)
    (hN : X.N.Nodup) (hiy : X.N[i]? = some y) (hy : Loc X.env.scope y) (hsw : swapsWith (.ListComp elt [⟨tg, iter, ifs, 0⟩] scope pos) (some (.Name y py)) spos.line X.env = pure true)
    (hf : X.fn y = true ∨ X.env.scope.names.lookup y = some .local := by first | exact .inl rfl | exact .inr rfl | assumption)
    (hs : ∀ x, foldedSetIterable iter X.env x = pure x := by intro _; rfl) :
    PS X (.Assign [.Name y py] (.ListComp elt [⟨tg, iter, ifs, 0⟩] scope pos) spos) (tAsg (tComp wi cap g tt te) (gName i)) := by
  intro pins s σ H D I h
  rw [exec_Assign_Name_used _ _ _ _ hsw]
  refine wpAny_bind (wpAny_standAt (wpAny_bind ?_))
  show wpAny _ X.A (do let _ ← comprehension (.ListComp elt [⟨tg, iter, ifs, 0⟩] scope pos) scope X.env _ (newList []) false (eval iter X.env) (some (assign (.Name y py) X.env))) _ _ s
  refine wpAny_bind (wpAny_mono (wpAny_comprehension_free (use := some (assign (.Name y py) X.env)) (Q := fun _ s' => SP X pins D .next s') rfl hs (closureFor_of fun y hy hf => I.ok.has y.1 (B.frees y hy hf)) B.kind B.names
    (thn (hi pins s σ H _ I h) fun v s1 h1 => thn h1 fun itv s2 h2 => ?_)) (fun _ s' hq => wpAny_pure (wpAny_pure hq)) fun _ _ e => e)
  obtain ⟨it, fp, tn, J, H2, e, I2, T, st2, f2, hcont⟩ := h2
  subst e
  refine comp_core (Q := fun v H' => gName i v σ H' D.nx) (RR := fun acc C => compPost (model X.prog X.w) X.A X.xe (some (assign (.Name y py) X.env)) (fun _ s' => SP X pins D .next s') acc C) B hc hg ht he I2 T st2 f2 hcont fun D' C o m H5 s5 I5 f5 ho hd hn q => ?_
  show wpAny _ X.A (assign (.Name y py) X.env (.ref D')) _ _ _
  have I5' : Inv X (pins ++ [(C, o)]) σ H5 s5 := I5.pins_of fun p hp => by
    rcases List.mem_append.mp hp with z | z
    · exact I5.pin p (List.mem_append_right _ z)
    · have : p = (C, o) := by simpa using z
      subst this
      exact ⟨ho, f5.1, f5.2.1, f5.2.2.1, hd⟩
  refine thn (pg_name (pos := py) hN hiy hy hf (pins ++ [(C, o)]) s5 σ H5 (.ref D') (.ref D') _ I5' rfl q) fun _ s6 ⟨σ6, H6, I6, q6⟩ => ?_
  obtain ⟨e6, n6, _⟩ := I6.pin (C, o) (List.mem_append_right _ (List.mem_append_right _ List.mem_cons_self))
  have hn6 : s6.heap.Ns C m := by
    obtain ⟨o', es, ep, q1, r⟩ := hn
    rw [ho] at q1; cases q1
    exact ⟨o, es, ep, e6, r⟩
  refine ⟨m, hn6, fun h' hs' => ⟨σ6, H6, I6.unpinned.turned (t' := s6.toks) (it := C) (fun b o hb e => hs'.extBut b o hb e) n6 f5.2.1 f5.2.2.2.1 f5.2.2.2.2.1 f5.2.2.2.2.2, q6⟩⟩
end
end L2
namespace L2
open PySem PySem.Spec PyProof.Rows
abbrev CompW (J : It) (g : TG) (tt : TT) (te : TE) (Q : VK) (l : Addr) (τ0 : St) (H0 : Hp) : Prop :=
  ∃ W : Nat → Nat → St → Hp → Prop, (∃ m, W 0 m τ0 H0) ∧ ∀ i m τ H2, W i m τ H2 →
    (J.stop i H2 ∧ Q (.ref l) H2) ∨ (J.go i H2 ∧ ∃ N : St → Hp → Prop, (∀ τ' H', N τ' H' → ∃ m', m' < m ∧ W (i + 1) m' τ' H') ∧
      ∀ x H', J.yld i H2 x H' → g x τ H' fun τ2 H3 => tt τ2 H3 fun b H4 => if b = true then te τ2 H4 fun y H5 => ∃ ys, H5 l = some (.lst ys) ∧ ys.length < sizeLine ∧ N τ2 (upd H5 l (.lst (ys ++ [y]))) else N τ2 H4)
end L2
namespace L2
open PySem PySem.Spec PyProof.Rows
end L2
namespace L2
open PySem PySem.Spec PyProof.Rows
mutual
inductive RdV (K : PySem.W.Frag) (H : Hp) : V → PyData → Prop
  | non : RdV K H .non .none
  | bl (b : Bool) : RdV K H (.bl b) (.bool b)
  | int (i : Int) : RdV K H (.int i) (.int i)
  | str (x : Str) : RdV K H (.str x) (.str x)
  | tup {p : Addr} {xs : List V} {ds : List PyData} : SqT K H p xs → RdA K H xs ds → RdV K H (.ref p) (.tuple ds)
  | lst {p : Addr} {xs : List V} {ds : List PyData} : SqL K H p xs → RdA K H xs ds → RdV K H (.ref p) (.list ds)
inductive RdA (K : PySem.W.Frag) (H : Hp) : List V → List PyData → Prop
  | nil : RdA K H [] []
  | cons {x : V} {xs : List V} {d : PyData} {ds : List PyData} : RdV K H x d → RdA K H xs ds → RdA K H (x :: xs) (d :: ds)
end
mutual
theorem RdV.same {K : PySem.W.Frag} {H H' : Hp} (e : Same H H') : ∀ {x : V} {d : PyData}, RdV K H x d → RdV K H' x d
  | _, _, .non => .non
  | _, _, .bl b => .bl b
  | _, _, .int i => .int i
  | _, _, .str x => .str x
  | _, _, .tup h a => .tup (e.seqT h) (RdA.same e a)
  | _, _, .lst h a => .lst (e.seq h) (RdA.same e a)
theorem RdA.same {K : PySem.W.Frag} {H H' : Hp} (e : Same H H') : ∀ {xs : List V} {ds : List PyData}, RdA K H xs ds → RdA K H' xs ds
  | _, _, .nil => .nil
  | _, _, .cons h a => .cons (RdV.same e h) (RdA.same e a)
end
section
variable {X : Cx} {pins : List (Addr × Obj)} {σ : St} {H : Hp} {s : Shared}
mutual
theorem RdV.reads (I : Inv X pins σ H s) : ∀ {x : V} {d : PyData}, RdV X.K H x d → ∀ {v : Value}, RelV x v → ∃ as, Reads s.heap v d as
  | _, _, .non, v, r => by cases (show v = Value.none from r); exact ⟨_, .none⟩
  | _, _, .bl b, v, r => by cases (show v = Value.bool b from r); exact ⟨_, .bool b⟩
  | _, _, .int i, v, r => by
    obtain ⟨t, e⟩ := (show ∃ t, v = Value.int i t from r)
    cases e
    exact ⟨_, .int i t⟩
  | _, _, .str x, v, r => by
    obtain ⟨t, e⟩ := (show ∃ t, v = Value.str x t from r)
    cases e
    exact ⟨_, .str x t⟩
  | _, _, .tup (p := p) h a, v, r => by
    cases (show v = Value.ref p from r)
    obtain ⟨its, hv, ⟨o, ho, hc, n, hd⟩, _⟩ := I.tuple h
    obtain ⟨as, ra⟩ := RdA.reads I a hv
    exact ⟨as, .tuple ho hc hd (by simpa using ra)⟩
  | _, _, .lst (p := p) h a, v, r => by
    cases (show v = Value.ref p from r)
    obtain ⟨its, hv, pl, _⟩ := I.list h
    obtain ⟨o, ho, hc, n, hd⟩ := pl.isList
    obtain ⟨as, ra⟩ := RdA.reads I a hv
    exact ⟨_, .list ho hc hd (by simpa using ra)⟩
theorem RdA.reads (I : Inv X pins σ H s) : ∀ {xs : List V} {ds : List PyData}, RdA X.K H xs ds → ∀ {us : List Value}, Vals xs us → ∃ as, ReadsAll s.heap us ds as
  | _, _, .nil, _, .nil => ⟨_, .nil⟩
  | _, _, .cons h a, _, .cons r t => by
    obtain ⟨as, ra⟩ := RdV.reads I h r
    obtain ⟨bs, rb⟩ := RdA.reads I a t
    exact ⟨_, .cons ra rb⟩
end
end
def rEqD (K : PySem.W.Frag) (neg : Bool) : R2 := fun x y H Q => ∃ d e, RdV K H x d ∧ RdV K H y e ∧ SeqAt.shaped d = true ∧ SeqAt.shaped e = true ∧ Q (.bl (if neg then !PyData.eqv d e else PyData.eqv d e)) H
section
variable {X : Cx}
theorem op_eqD (hu : X.A.units + 64 < cLine) : OpR X (compareOp .Eq) (rEqD X.K false) := by
  intro pins s σ H x y v u Q I rx ry h
  obtain ⟨d, e, h1, h2, s1, s2, q⟩ := h
  obtain ⟨as, ra⟩ := h1.reads I rx
  obtain ⟨bs, rb⟩ := h2.reads I ry
  exact eq_dataH ra rb s1 s2 hu ⟨.bl (PyData.eqv d e), H, I, rfl, q⟩
theorem op_neD (hu : X.A.units + 64 < cLine) : OpR X (compareOp .NotEq) (rEqD X.K true) := by
  intro pins s σ H x y v u Q I rx ry h
  obtain ⟨d, e, h1, h2, s1, s2, q⟩ := h
  obtain ⟨as, ra⟩ := h1.reads I rx
  obtain ⟨bs, rb⟩ := h2.reads I ry
  exact ne_dataH ra rb s1 s2 hu ⟨.bl (!PyData.eqv d e), H, I, rfl, q⟩
def tPar3 (i j k : Nat) (ta : TA) : TS := fun D σ H => ta σ H fun vs H1 => ∃ u v w, vs = [u, v, w] ∧ D.nx (((σ.set i (some u)).set j (some v)).set k (some w)) H1
end
mutual
def plainD : PyData → Bool
  | .none => true
  | .bool _ => true
  | .int _ => true
  | .str _ => true
  | .tuple ds => plainA ds
  | .list ds => plainA ds
  | _ => false
def plainA : List PyData → Bool
  | [] => true
  | d :: ds => plainD d && plainA ds
end
mutual
theorem eqv_self : ∀ d : PyData, plainD d = true → PyData.eqv d d = true
  | .none, _ => rfl
  | .bool b, _ => by simp [PyData.eqv]
  | .int i, _ => by simp [PyData.eqv]
  | .str x, _ => by simp [PyData.eqv]
  | .tuple ds, h => by simp only [plainD] at h; simp only [PyData.eqv]; exact eqvAll_self ds h
  | .list ds, h => by simp only [plainD] at h; simp only [PyData.eqv]; exact eqvAll_self ds h
  | .dict _, h => by simp [plainD] at h
theorem eqvAll_self : ∀ ds : List PyData, plainA ds = true → PyData.eqvAll ds ds = true
  | [], _ => by simp [PyData.eqvAll]
  | d :: ds, h => by
    simp only [plainA, Bool.and_eq_true] at h
    simp only [PyData.eqvAll, Bool.and_eq_true]
    exact ⟨eqv_self d h.1, eqvAll_self ds h.2⟩
end
section
variable {X : Cx}
theorem readsAll_any {h : Heap} {d : PyData} {e : Value → Bool} : ∀ {us : List Value} {ds : List PyData} {as : List Addr}, ReadsAll h us ds as → (∀ u d' as', u ∈ us → d' ∈ ds → Reads h u d' as' → e u = PyData.eqv d' d) → us.any e = ds.any fun d' => PyData.eqv d' d
  | _, _, _, .nil, _ => rfl
  | _, _, _, .cons r t, h => by
    rw [List.any_cons, List.any_cons, h _ _ _ List.mem_cons_self List.mem_cons_self r, readsAll_any t fun u d' as' hu hd r' => h u d' as' (List.mem_cons_of_mem _ hu) (List.mem_cons_of_mem _ hd) r']
theorem readsAll_mem {h : Heap} : ∀ {us : List Value} {ds : List PyData} {as : List Addr}, ReadsAll h us ds as → ∀ u ∈ us, ∃ d' ∈ ds, ∃ as', Reads h u d' as'
  | _, _, _, .nil, _, hu => nomatch hu
  | _, _, _, .cons r t, u, hu => by
    rcases List.mem_cons.mp hu with rfl | hu
    · exact ⟨_, List.mem_cons_self, _, r⟩
    · obtain ⟨d', hd, as', r'⟩ := readsAll_mem t u hu
      exact ⟨d', List.mem_cons_of_mem _ hd, as', r'⟩
open Classical in
noncomputable def eqTo (h : Heap) (d : PyData) (u : Value) : Bool := if e : ∃ d', PyData.canLay0 d' = true ∧ ∃ as, Reads h u d' as then PyData.eqv (Classical.choose e) d else false
theorem eqTo_of {h : Heap} {d d' : PyData} {u : Value} {as : List Addr} (c : PyData.canLay0 d' = true) (r : Reads h u d' as) : eqTo h d u = PyData.eqv d' d := by
  have e : ∃ d', PyData.canLay0 d' = true ∧ ∃ as, Reads h u d' as := ⟨d', c, as, r⟩
  unfold eqTo
  rw [dif_pos e]
  obtain ⟨c1, as1, r1⟩ := Classical.choose_spec e
  rw [SeqAt.Reads.unique _ _ _ _ _ c1 r1 r]
end
end L2
namespace Qm
open PySem
noncomputable section
inductive D where
  | non | bl (b : Bool) | int (i : Int) | str (x : Str) | tup (xs : List D) | ref (n : Nat) | ty (n : String)
inductive Cell where
  | lst (xs : List D)
  | ro (xs : List D)
  | dct (ps : List (Str × D))
  | dro (ps : List (Str × D))
def Cell.mt : Cell → Bool
  | .ro _ => false
  | .dro _ => false
  | _ => true
abbrev Cells := List Cell
abbrev Env := List (Option D)
abbrev XE := Env → Cells → Option (D × Cells)
abbrev XA := Env → Cells → Option (List D × Cells)
abbrev XT := Env → Cells → Option (Bool × Cells)
abbrev XO := Env → Cells → Option (Option Int × Cells)
inductive Fl where
  | nx | rt (d : D) | bk | ct
abbrev XS := Env → Cells → Option (Fl × Env × Cells)
abbrev XG := D → Env → Cells → Option (Env × Cells)
abbrev XGs := List D → Env → Cells → Option (Env × Cells)
abbrev FN := List D → Cells → Option (D × Cells)
structure Itm where
  ds : List D
  ks : List (Nat × Cell)
abbrev XI := Env → Cells → Option (Itm × Cells)
abbrev G1 := D → Cells → Option (D × Cells)
abbrev G2 := D → D → Cells → Option (D × Cells)
def LINE : Nat := Classical.choose (⟨10000000, rfl⟩ : ∃ n : Nat, n = 10000000)
theorem LINE_eq : LINE = 10000000 := Classical.choose_spec (⟨10000000, rfl⟩ : ∃ n : Nat, n = 10000000)
def eC (d : D) : XE := fun _ c => some (d, c)
def eV (i : Nat) : XE := fun σ c => (σ[i]?.join).bind fun d => some (d, c)
def e1 (g : G1) (a : XE) : XE := fun σ c => (a σ c).bind fun p => g p.1 p.2
def e2 (g : G2) (a b : XE) : XE := fun σ c => (a σ c).bind fun p => (b σ p.2).bind fun q => g p.1 q.1 q.2
def asB (d : D) : Option Bool := match d with
  | .bl b => some b
  | _ => none
def eAnd (a b : XE) : XE := fun σ c => (a σ c).bind fun p => (asB p.1).bind fun k => if k = true then b σ p.2 else some (.bl false, p.2)
def eOr (a b : XE) : XE := fun σ c => (a σ c).bind fun p => (asB p.1).bind fun k => if k = true then some (.bl true, p.2) else b σ p.2
def eNot (a : XE) : XE := fun σ c => (a σ c).bind fun p => (asB p.1).bind fun k => some (.bl (!k), p.2)
def eIf (t : XT) (a b : XE) : XE := fun σ c => (t σ c).bind fun p => if p.1 = true then a σ p.2 else b σ p.2
def aNil : XA := fun _ c => some ([], c)
def aCons (a : XE) (r : XA) : XA := fun σ c => (a σ c).bind fun p => (r σ p.2).bind fun q => some (p.1 :: q.1, q.2)
def eTup (a : XA) : XE := fun σ c => (a σ c).bind fun p => if p.1.length ≤ LINE then some (.tup p.1, p.2) else none
def eLst (a : XA) : XE := fun σ c => (a σ c).bind fun p => if p.1.length ≤ LINE then some (.ref p.2.length, p.2 ++ [.lst p.1]) else none
def eCall (F : FN) (ds : List D) (a : XA) : XE := fun σ c => (a σ c).bind fun p => F (p.1 ++ ds) p.2
def eB (F : FN) (a : XA) : XE := fun σ c => (a σ c).bind fun p => F p.1 p.2
def oNone : XO := fun _ c => some (none, c)
def oSome (a : XE) : XO := fun σ c => (a σ c).bind fun p => match p.1 with
  | .int i => some (some i, p.2)
  | _ => none
def eSl (g : D → Option Int → Option Int → Cells → Option (D × Cells)) (a : XE) (lo hi : XO) : XE := fun σ c => (a σ c).bind fun p => (lo σ p.2).bind fun l => (hi σ l.2).bind fun h => g p.1 l.1 h.1 h.2
def eChain (g h : G2) (a b d : XE) : XE := fun σ c => (a σ c).bind fun p => (b σ p.2).bind fun q => (g p.1 q.1 q.2).bind fun z => (asB z.1).bind fun k =>
  if k = true then (d σ z.2).bind fun u => h q.1 u.1 u.2 else some (.bl false, z.2)
def tV (a : XE) : XT := fun σ c => (a σ c).bind fun p => (asB p.1).bind fun k => some (k, p.2)
def tAnd (a b : XT) : XT := fun σ c => (a σ c).bind fun p => if p.1 = true then b σ p.2 else some (false, p.2)
def tOr (a b : XT) : XT := fun σ c => (a σ c).bind fun p => if p.1 = true then some (true, p.2) else b σ p.2
def tNot (a : XT) : XT := fun σ c => (a σ c).bind fun p => some (!p.1, p.2)
def sNil : XS := fun σ c => some (.nx, σ, c)
def sSeq (a b : XS) : XS := fun σ c => (a σ c).bind fun p => match p.1 with
  | .nx => b p.2.1 p.2.2
  | _ => some p
def sSet (i : Nat) (e : XE) : XS := fun σ c => (e σ c).bind fun p => some (.nx, σ.set i (some p.1), p.2)
def sAsg (e : XE) (g : XG) : XS := fun σ c => (e σ c).bind fun p => (g p.1 σ p.2).bind fun q => some (.nx, q.1, q.2)
def sPar (is : List Nat) (a : XA) : XS := fun σ c => (a σ c).bind fun p => if p.1.length = is.length then some (.nx, (is.zip p.1).foldl (fun σ q => σ.set q.1 (some q.2)) σ, p.2) else none
def sIf (t : XT) (a b : XS) : XS := fun σ c => (t σ c).bind fun p => if p.1 = true then a σ p.2 else b σ p.2
def sRet (e : XE) : XS := fun σ c => (e σ c).bind fun p => some (.rt p.1, σ, p.2)
def sExpr (e : XE) : XS := fun σ c => (e σ c).bind fun p => some (.nx, σ, p.2)
def sBreak : XS := fun σ c => some (.bk, σ, c)
def sCont : XS := fun σ c => some (.ct, σ, c)
def gName (i : Nat) : XG := fun d σ c => some (σ.set i (some d), c)
def gNil : XGs := fun ds σ c => match ds with
  | [] => some (σ, c)
  | _ => none
def gCons (g : XG) (r : XGs) : XGs := fun ds σ c => match ds with
  | d :: t => (g d σ c).bind fun p => r t p.1 p.2
  | [] => none
def gTup (n : Nat) (g : XGs) : XG := fun d σ c => match d with
  | .tup xs => if xs.length = n then g xs σ c else none
  | _ => none
def stays (ks : List (Nat × Cell)) (c : Cells) : Prop := ∀ p ∈ ks, c[p.1]? = some p.2
open Classical in
def forGo (ks : List (Nat × Cell)) (g : XG) (body : XS) : List D → XS
  | [], σ, c => if stays ks c then some (.nx, σ, c) else none
  | d :: r, σ, c => if stays ks c then (g d σ c).bind fun p => (body p.1 p.2).bind fun q => (match q.1 with
      | .nx => forGo ks g body r q.2.1 q.2.2
      | .ct => forGo ks g body r q.2.1 q.2.2
      | .bk => some (.nx, q.2.1, q.2.2)
      | .rt d => some (.rt d, q.2.1, q.2.2)) else none
def sFor (it : XI) (g : XG) (body : XS) : XS := fun σ c => (it σ c).bind fun p => forGo p.1.ks g body p.1.ds σ p.2
def whGo (t : XT) (b : XS) : Nat → XS
  | 0, _, _ => none
  | n + 1, σ, c => (t σ c).bind fun p => if p.1 = true then (b σ p.2).bind fun q => (match q.1 with
      | .nx => whGo t b n q.2.1 q.2.2
      | .ct => whGo t b n q.2.1 q.2.2
      | .bk => some (.nx, q.2.1, q.2.2)
      | .rt d => some (.rt d, q.2.1, q.2.2)) else some (.nx, σ, p.2)
open Classical in
def sWhile (t : XT) (b : XS) : XS := fun σ c => if h : ∃ n r, whGo t b n σ c = some r then whGo t b (Classical.choose h) σ c else none
def capt (σ : Env) (cap : List (Option Nat)) : Env := cap.map fun o => match o with
  | some i => (match σ[i]? with | some v => v | none => none)
  | none => none
open Classical in
def compGo (L : Nat) (ks : List (Nat × Cell)) (g : XG) (tt : XT) (te : XE) : List D → Env → Cells → Option Cells
  | [], _, c => if stays ks c then some c else none
  | d :: r, τ, c => if stays ks c then (g d τ c).bind fun p => (tt p.1 p.2).bind fun b => if b.1 = true then (te p.1 b.2).bind fun y =>
      (match y.2[L]? with
        | some (.lst ys) => if ys.length < LINE then compGo L ks g tt te r p.1 (y.2.set L (.lst (ys ++ [y.1]))) else none
        | _ => none) else compGo L ks g tt te r p.1 b.2 else none
def eComp (it : XI) (cap : List (Option Nat)) (g : XG) (tt : XT) (te : XE) : XE := fun σ c => (it σ c).bind fun p =>
  (compGo p.2.length p.1.ks g tt te p.1.ds (capt σ cap) (p.2 ++ [.lst []])).bind fun c' => some (.ref p.2.length, c')
def tYes : XT := fun _ c => some (true, c)
def mkF (n N : Nat) (b : XS) : FN := fun ds c => if ds.length = n then (b (ds.map some ++ List.replicate (N - n) none) c).bind fun p => (match p.1 with
  | .rt d => some (d, p.2.2)
  | .nx => some (.non, p.2.2)
  | _ => none) else none
def seqOf (d : D) (c : Cells) : Option (List D) := match d with
  | .tup xs => some xs
  | .ref n => (match c[n]? with
    | some (.lst xs) => some xs
    | some (.ro xs) => some xs
    | _ => none)
  | _ => none
def lstOf (d : D) (c : Cells) : Option (Nat × List D) := match d with
  | .ref n => (match c[n]? with
    | some (.lst xs) => some (n, xs)
    | _ => none)
  | _ => none
def asI (d : D) : Option Int := match d with
  | .int i => some i
  | _ => none
def ii (f : Int → Int → Option D) : G2 := fun x y c => (asI x).bind fun i => (asI y).bind fun j => (f i j).bind fun d => some (d, c)
def MulOk (i j : Int) : Prop := (My.Bd 90000 i ∧ My.Bd 90000 j) ∨ (My.Bd 64 i ∨ My.Bd 64 j)
open Classical in
def gMul : G2 := ii fun i j => if MulOk i j then some (.int (i * j)) else none
def gSub : G2 := ii fun i j => some (.int (i - j))
open Classical in
def gFdiv : G2 := ii fun i j => if j ≠ 0 ∧ My.Bd 8900 j then some (.int (i.fdiv j)) else none
def gMod : G2 := ii fun i j => if j ≠ 0 then some (.int (i.fmod j)) else none
def gPow : G2 := ii fun i j => if 0 ≤ j ∧ j ≤ 100 ∧ i.natAbs < 1000 then some (.int (i ^ j.toNat)) else none
def gLt : G2 := ii fun i j => some (.bl (decide (i < j)))
def gLe : G2 := ii fun i j => some (.bl (decide (i ≤ j)))
def gGt : G2 := ii fun i j => some (.bl (decide (j < i)))
def gGe : G2 := ii fun i j => some (.bl (decide (j ≤ i)))
def gAdd : G2 := fun x y c => match x, y with
  | .int i, .int j => some (.int (i + j), c)
  | .tup xs, .tup ys => if xs ≠ [] ∧ xs.length + ys.length ≤ LINE then some (.tup (xs ++ ys), c) else none
  | x, y => (lstOf x c).bind fun p => (lstOf y c).bind fun q => if p.2.length + q.2.length ≤ LINE then some (.ref c.length, c ++ [.lst (p.2 ++ q.2)]) else none
def gNeg : G1 := fun x c => (asI x).bind fun i => some (.int (-i), c)
def omap {α β : Type} (f : α → Option β) : List α → Option (List β)
  | [] => some []
  | x :: xs => (f x).bind fun d => (omap f xs).bind fun ds => some (d :: ds)
def data (c : Cells) : Nat → D → Option PyData
  | 0, _ => none
  | k + 1, d => match d with
    | .non => some .none
    | .int i => some (.int i)
    | .str x => if x.cps.all (· < 1114112) = true then some (.str x) else none
    | .tup xs => (omap (data c k) xs).bind fun ds => some (.tuple ds)
    | .ref n => (match c[n]? with
      | some (.lst xs) => (omap (data c k) xs).bind fun ds => some (.list ds)
      | some (.ro xs) => (omap (data c k) xs).bind fun ds => some (.list ds)
      | _ => none)
    | _ => none
open Classical in
def eqM (x y : D) (c : Cells) : Option Bool := match x, y with
  | .bl a, .bl b => some (a == b)
  | x, y => (data c 6 x).bind fun d => (data c 6 y).bind fun e => some (decide (d = e))
def gEq : G2 := fun x y c => (eqM x y c).bind fun b => some (.bl b, c)
def gNe : G2 := fun x y c => (eqM x y c).bind fun b => some (.bl (!b), c)
def gIsN : G2 := fun x y c => match y with
  | .non => some (.bl (match x with | .non => true | _ => false), c)
  | _ => none
def gNotN : G2 := fun x y c => match y with
  | .non => some (.bl (match x with | .non => false | _ => true), c)
  | _ => none
open Classical in
def inM (x y : D) (c : Cells) : Option Bool := (seqOf y c).bind fun xs => (data c 5 x).bind fun d => (omap (data c 5) xs).bind fun ds => some (decide (d ∈ ds))
def gIn : G2 := fun x y c => (inM x y c).bind fun b => some (.bl b, c)
def gNotIn : G2 := fun x y c => (inM x y c).bind fun b => some (.bl (!b), c)
def ixD (n : Nat) (i : Int) : Option Nat := if 0 ≤ i then (if i < n then some i.toNat else none) else if -(n : Int) ≤ i then some (i + n).toNat else none
def atD {α : Type} (xs : List α) (i : Int) : Option α := (ixD xs.length i).bind fun j => xs[j]?
def gIx : G2 := fun x y c => (seqOf x c).bind fun xs => (asI y).bind fun i => (atD xs i).bind fun d => some (d, c)
def sxD (n d : Nat) : Option Int → Nat
  | none => d
  | some v => if v < 0 then (v + n).toNat else min v.toNat n
def cutD {α : Type} (xs : List α) (lo hi : Option Int) : List α := (xs.drop (sxD xs.length 0 lo)).take (sxD xs.length xs.length hi - sxD xs.length 0 lo)
def gCut (x : D) (lo hi : Option Int) (c : Cells) : Option (D × Cells) := match x with
  | .tup xs => some (.tup (cutD xs lo hi), c)
  | x => (seqOf x c).bind fun xs => some (.ref c.length, c ++ [.lst (cutD xs lo hi)])
def gPut (o i : XE) : XG := fun d σ c => (o σ c).bind fun p => (i σ p.2).bind fun q => (lstOf p.1 q.2).bind fun l => (asI q.1).bind fun k => (ixD l.2.length k).bind fun j => some (σ, q.2.set l.1 (.lst (l.2.set j d)))
def one (g : G1) : FN := fun ds c => match ds with
  | [x] => g x c
  | _ => none
def two (g : G2) : FN := fun ds c => match ds with
  | [x, y] => g x y c
  | _ => none
def bAbs : FN := one fun x c => (asI x).bind fun i => some (.int (if i < 0 then -i else i), c)
def bLen : FN := one fun x c => (seqOf x c).bind fun xs => some (.int xs.length, c)
def bInt : FN := one fun x c => match x with
  | .int i => some (.int i, c)
  | .bl k => some (.int (if k then 1 else 0), c)
  | _ => none
def bMax2 : FN := two (ii fun i j => some (.int (if j > i then j else i)))
def bMin2 : FN := two (ii fun i j => some (.int (if j < i then j else i)))
def bMax3 : FN := fun ds c => match ds with
  | [.int i, .int j, .int k] => some (.int (if j > i then (if k > j then k else j) else (if k > i then k else i)), c)
  | _ => none
def bList : FN := one fun x c => (seqOf x c).bind fun xs => some (.ref c.length, c ++ [.lst xs])
def bTuple : FN := one fun x c => (seqOf x c).bind fun xs => some (.tup xs, c)
def isKind (n : String) (d : D) (c : Cells) : Option Bool := match d with
  | .int _ => if n = "int" then some true else if n = "bool" then some false else none
  | .bl _ => if n = "bool" then some true else none
  | .tup _ => if n = "tuple" then some true else none
  | .ref m => (match c[m]? with
    | some (.lst _) => if n = "list" then some true else none
    | _ => none)
  | _ => none
def bIsinst : FN := two fun x y c => match y with
  | .ty n => (isKind n x c).bind fun k => some (.bl k, c)
  | _ => none
def bools (ds : List D) : Option (List Bool) := omap asB ds
def bAll : FN := one fun x c => (lstOf x c).bind fun l => (omap asB l.2).bind fun bs => some (.bl (bs.all id), c)
def bAny : FN := one fun x c => (lstOf x c).bind fun l => (omap asB l.2).bind fun bs => some (.bl (bs.any id), c)
def zipD (xs ys : List D) : List D := (xs.zip ys).map fun p => .tup [p.1, p.2]
def bListZip : FN := fun ds c => match ds with
  | [.tup xs, .tup ys] => some (.ref c.length, c ++ [.lst (zipD xs ys)])
  | _ => none
def eM (g : D → FN) (o : XE) (a : XA) : XE := fun σ c => (o σ c).bind fun p => (lstOf p.1 p.2).bind fun _ => (a σ p.2).bind fun q => g p.1 q.1 q.2
def mAppend (o : D) : FN := one fun y c => (lstOf o c).bind fun l => if l.2.length < LINE then some (.non, c.set l.1 (.lst (l.2 ++ [y]))) else none
def mExtend (o : D) : FN := one fun y c => (lstOf o c).bind fun l => (lstOf y c).bind fun z => if l.2.length + z.2.length ≤ LINE then some (.non, c.set l.1 (.lst (l.2 ++ z.2))) else none
def mClear (o : D) : FN := fun ds c => match ds with
  | [] => (lstOf o c).bind fun l => some (.non, c.set l.1 (.lst []))
  | _ => none
def iTup (a : XE) : XI := fun σ c => (a σ c).bind fun p => match p.1 with
  | .tup xs => some (⟨xs, []⟩, p.2)
  | _ => none
def iLst (a : XE) : XI := fun σ c => (a σ c).bind fun p => match p.1 with
  | .ref n => (p.2[n]?).bind fun z => (seqOf (.ref n) p.2).bind fun xs => some (⟨xs, [(n, z)]⟩, p.2)
  | _ => none
def iZip (a : XA) : XI := fun σ c => (a σ c).bind fun p => match p.1 with
  | [.tup xs, .tup ys] => some (⟨zipD xs ys, []⟩, p.2)
  | _ => none
def rng (lo : Int) (n : Nat) : List D := (List.range n).map fun (i : Nat) => .int (lo + i)
structure Rin (j : Int) : Prop where
  lo : -(2 ^ 62) ≤ j
  hi : j < 2 ^ 62
open Classical in
def iRng1 (a : XA) : XI := fun σ c => (a σ c).bind fun p => match p.1 with
  | [.int j] => if Rin j then some (⟨rng 0 j.toNat, []⟩, p.2) else none
  | _ => none
open Classical in
def iRng2 (a : XA) : XI := fun σ c => (a σ c).bind fun p => match p.1 with
  | [.int i, .int j] => if Rin i ∧ Rin j then some (⟨rng i (j - i).toNat, []⟩, p.2) else none
  | _ => none
theorem whGo_more {t : XT} {b : XS} : ∀ {n k : Nat} {σ : Env} {c : Cells} {r}, whGo t b n σ c = some r → whGo t b (n + k) σ c = some r
  | 0, _, _, _, _, h => by simp [whGo] at h
  | n + 1, k, σ, c, r, h => by
    rw [show n + 1 + k = (n + k) + 1 by omega]
    simp only [whGo] at h ⊢
    cases ht : t σ c with
    | none => rw [ht] at h; simp at h
    | some p =>
      rw [ht] at h
      simp only [Option.bind_some] at h ⊢
      split
      · rename_i hp
        rw [if_pos hp] at h
        cases hb : b σ p.2 with
        | none => rw [hb] at h; simp at h
        | some q =>
          rw [hb] at h
          simp only [Option.bind_some] at h ⊢
          obtain ⟨f, σ', c'⟩ := q
          cases f with
          | nx => exact whGo_more h
          | ct => exact whGo_more h
          | bk => exact h
          | rt d => exact h
      · rename_i hp
        rw [if_neg hp] at h
        exact h
theorem sWhile_of {t : XT} {b : XS} {n : Nat} {σ : Env} {c : Cells} {r} (h : whGo t b n σ c = some r) : sWhile t b σ c = some r := by
  have hx : ∃ n r, whGo t b n σ c = some r := ⟨n, r, h⟩
  unfold sWhile
  rw [dif_pos hx]
  obtain ⟨r', h'⟩ := Classical.choose_spec hx
  have h1 := whGo_more (k := n) h'
  have h2 := whGo_more (k := Classical.choose hx) h
  rw [Nat.add_comm] at h2
  rw [h']
  exact h1.symm.trans h2
theorem of_sWhile {t : XT} {b : XS} {σ : Env} {c : Cells} {r} (h : sWhile t b σ c = some r) : ∃ n, whGo t b n σ c = some r := by
  unfold sWhile at h
  split at h
  · exact ⟨_, h⟩
  · cases h
theorem sWhile_stop {t : XT} {b : XS} {σ : Env} {c c' : Cells} (h : t σ c = some (false, c')) : sWhile t b σ c = some (.nx, σ, c') :=
  sWhile_of (n := 1) (by simp [whGo, h])
theorem sWhile_go {t : XT} {b : XS} {σ σ' : Env} {c c' c2 : Cells} {r} (h : t σ c = some (true, c')) (hb : b σ c' = some (.nx, σ', c2)) (hr : sWhile t b σ' c2 = some r) : sWhile t b σ c = some r := by
  obtain ⟨n, hn⟩ := of_sWhile hr
  exact sWhile_of (n := n + 1) (by simp [whGo, h, hb, hn])
end
end Qm
namespace L2
open PySem PySem.Spec PyProof.Rows
theorem bnd {α β : Type} {x : Option α} {f : α → Option β} {z : β} (h : x.bind f = some z) : ∃ a, x = some a ∧ f a = some z := by
  cases x with
  | none => cases h
  | some a => exact ⟨a, rfl, h⟩
theorem line_le {n : Nat} (h : n ≤ Qm.LINE) : n ≤ sizeLine := Nat.le_trans h (by rw [Qm.LINE_eq, sizeLine_eq]; decide)
theorem line_lt {n : Nat} (h : n < Qm.LINE) : n < sizeLine := Nat.lt_of_lt_of_le h (by rw [Qm.LINE_eq, sizeLine_eq]; decide)
mutual
inductive RD (K : PySem.W.Frag) (ρ : Nat → Addr) (N : Nat) (H : Hp) : Qm.D → V → Prop
  | non : RD K ρ N H .non .non
  | bl (b : Bool) : RD K ρ N H (.bl b) (.bl b)
  | int (i : Int) : RD K ρ N H (.int i) (.int i)
  | str (x : Str) : RD K ρ N H (.str x) (.str x)
  | ty (n : String) : RD K ρ N H (.ty n) (.ty n)
  | tup {p : Addr} {xs : List V} {ds : List Qm.D} : H p = some (.tup xs) → RA K ρ N H ds xs → RD K ρ N H (.tup ds) (.ref p)
  | ref {n : Nat} : n < N → RD K ρ N H (.ref n) (.ref (ρ n))
inductive RA (K : PySem.W.Frag) (ρ : Nat → Addr) (N : Nat) (H : Hp) : List Qm.D → List V → Prop
  | nil : RA K ρ N H [] []
  | cons {d : Qm.D} {ds : List Qm.D} {x : V} {xs : List V} : RD K ρ N H d x → RA K ρ N H ds xs → RA K ρ N H (d :: ds) (x :: xs)
end
structure Up (K : PySem.W.Frag) (ρ : Nat → Addr) (N : Nat) (H : Hp) (ρ' : Nat → Addr) (N' : Nat) (H' : Hp) : Prop where
  agree : ∀ n, n < N → ρ' n = ρ n
  len : N ≤ N'
  ts : ∀ p xs, H p = some (.tup xs) → H' p = some (.tup xs)
  fz : ∀ p o x, H p = some (.frz o x) → H' p = some (.frz o x)
section
variable {K : PySem.W.Frag} {ρ ρ' ρ'' : Nat → Addr} {N N' N'' : Nat} {H H' H'' : Hp}
theorem Up.refl : Up K ρ N H ρ N H := ⟨fun _ _ => rfl, Nat.le_refl _, fun _ _ h => h, fun _ _ _ h => h⟩
theorem Up.trans (a : Up K ρ N H ρ' N' H') (b : Up K ρ' N' H' ρ'' N'' H'') : Up K ρ N H ρ'' N'' H'' :=
  ⟨fun n h => (b.agree n (Nat.lt_of_lt_of_le h a.len)).trans (a.agree n h), Nat.le_trans a.len b.len, fun p xs h => b.ts p xs (a.ts p xs h), fun p o x h => b.fz p o x (a.fz p o x h)⟩
mutual
theorem RD.up (u : Up K ρ N H ρ' N' H') : ∀ {d : Qm.D} {v : V}, RD K ρ N H d v → RD K ρ' N' H' d v
  | _, _, .non => .non
  | _, _, .bl b => .bl b
  | _, _, .int i => .int i
  | _, _, .str x => .str x
  | _, _, .ty n => .ty n
  | _, _, .tup h a => .tup (u.ts _ _ h) (RA.up u a)
  | _, _, .ref (n := n) h => by rw [← u.agree n h]; exact .ref (Nat.lt_of_lt_of_le h u.len)
theorem RA.up (u : Up K ρ N H ρ' N' H') : ∀ {ds : List Qm.D} {vs : List V}, RA K ρ N H ds vs → RA K ρ' N' H' ds vs
  | _, _, .nil => .nil
  | _, _, .cons h a => .cons (RD.up u h) (RA.up u a)
end
theorem RA.length : ∀ {ds : List Qm.D} {vs : List V}, RA K ρ N H ds vs → ds.length = vs.length
  | _, _, .nil => rfl
  | _, _, .cons _ a => congrArg (· + 1) (RA.length a)
theorem RA.append : ∀ {ds es : List Qm.D} {vs us : List V}, RA K ρ N H ds vs → RA K ρ N H es us → RA K ρ N H (ds ++ es) (vs ++ us)
  | _, _, _, _, .nil, b => b
  | _, _, _, _, .cons h a, b => .cons h (RA.append a b)
theorem RA.get : ∀ {ds : List Qm.D} {vs : List V} {i : Nat} {d : Qm.D}, RA K ρ N H ds vs → ds[i]? = some d → ∃ v, vs[i]? = some v ∧ RD K ρ N H d v
  | _, _, _, _, .nil, e => by simp at e
  | _, _, 0, _, .cons h _, e => by simp at e; subst e; exact ⟨_, rfl, h⟩
  | _, _, i + 1, d, .cons _ a, e => by
    obtain ⟨v, h1, h2⟩ := RA.get (i := i) (d := d) a (by simpa using e)
    exact ⟨v, by simpa using h1, h2⟩
theorem RA.getV : ∀ {ds : List Qm.D} {vs : List V} {i : Nat} {v : V}, RA K ρ N H ds vs → vs[i]? = some v → ∃ d, ds[i]? = some d ∧ RD K ρ N H d v
  | _, _, _, _, .nil, e => by simp at e
  | _, _, 0, _, .cons h _, e => by simp at e; subst e; exact ⟨_, rfl, h⟩
  | _, _, i + 1, v, .cons _ a, e => by
    obtain ⟨d, h1, h2⟩ := RA.getV (i := i) (v := v) a (by simpa using e)
    exact ⟨d, by simpa using h1, h2⟩
theorem RA.take : ∀ {ds : List Qm.D} {vs : List V} (n : Nat), RA K ρ N H ds vs → RA K ρ N H (ds.take n) (vs.take n)
  | _, _, 0, _ => .nil
  | _, _, _ + 1, .nil => .nil
  | _, _, n + 1, .cons h a => .cons h (RA.take n a)
theorem RA.drop : ∀ {ds : List Qm.D} {vs : List V} (n : Nat), RA K ρ N H ds vs → RA K ρ N H (ds.drop n) (vs.drop n)
  | _, _, 0, a => a
  | _, _, _ + 1, .nil => .nil
  | _, _, n + 1, .cons _ a => RA.drop n a
theorem RA.set {d : Qm.D} {v : V} (r : RD K ρ N H d v) : ∀ {ds : List Qm.D} {vs : List V} (n : Nat), RA K ρ N H ds vs → RA K ρ N H (ds.set n d) (vs.set n v)
  | _, _, _, .nil => .nil
  | _, _, 0, .cons _ a => .cons r a
  | _, _, n + 1, .cons h a => .cons h (RA.set r n a)
theorem RA.one {d : Qm.D} {v : V} (h : RD K ρ N H d v) : RA K ρ N H [d] [v] := .cons h .nil
theorem RA.one' {d : Qm.D} {vs : List V} (h : RA K ρ N H [d] vs) : ∃ v, vs = [v] ∧ RD K ρ N H d v := by
  cases h with
  | cons r t => cases t; exact ⟨_, rfl, r⟩
theorem RA.two' {d e : Qm.D} {vs : List V} (h : RA K ρ N H [d, e] vs) : ∃ v u, vs = [v, u] ∧ RD K ρ N H d v ∧ RD K ρ N H e u := by
  cases h with
  | cons r t => obtain ⟨u, rfl, q⟩ := RA.one' t; exact ⟨_, _, rfl, r, q⟩
theorem RA.nil' {vs : List V} (h : RA K ρ N H [] vs) : vs = [] := by cases h; rfl
theorem RD.int' {i : Int} {v : V} (h : RD K ρ N H (.int i) v) : v = .int i := by cases h; rfl
theorem RD.bl' {b : Bool} {v : V} (h : RD K ρ N H (.bl b) v) : v = .bl b := by cases h; rfl
theorem RD.non' {v : V} (h : RD K ρ N H .non v) : v = .non := by cases h; rfl
theorem RD.tup' {ds : List Qm.D} {v : V} (h : RD K ρ N H (.tup ds) v) : ∃ p xs, v = .ref p ∧ H p = some (.tup xs) ∧ RA K ρ N H ds xs := by cases h with | tup a b => exact ⟨_, _, rfl, a, b⟩
theorem RD.ref' {n : Nat} {v : V} (h : RD K ρ N H (.ref n) v) : v = .ref (ρ n) ∧ n < N := by cases h with | ref h => exact ⟨rfl, h⟩
end
def RoOk (K : PySem.W.Frag) (H : Hp) (a : Addr) (xs : List V) : Prop := (∃ o, H a = some (.frz o (.lst xs))) ∨ SqL K (fun _ => none) a xs
theorem RoOk.seq {K : PySem.W.Frag} {H : Hp} {a : Addr} {xs : List V} (h : RoOk K H a xs) : SqL K H a xs := by
  rcases h with ⟨o, h⟩ | h
  · exact .inl (.inr ⟨o, h⟩)
  · rcases h with (h | ⟨o, h⟩) | h
    · cases h
    · cases h
    · exact .inr h
theorem RoOk.of {K : PySem.W.Frag} {H : Hp} {a : Addr} {xs : List V} (hO : Only H) (h : SqL K H a xs) : RoOk K H a xs := by
  rcases h with (h | ⟨o, h⟩) | h
  · rcases hO a with z | ⟨o, ys, z⟩
    · rw [z] at h; cases h
    · rw [z] at h; cases h
  · exact .inl ⟨o, h⟩
  · exact .inr (.inr h)
inductive RK (K : PySem.W.Frag) (ρ : Nat → Addr) (N : Nat) (H : Hp) : List (Str × Qm.D) → List (Key × V) → Prop
  | nil : RK K ρ N H [] []
  | cons {k : Str} {d : Qm.D} {ds : List (Str × Qm.D)} {x : V} {xs : List (Key × V)} : RD K ρ N H d x → RK K ρ N H ds xs → RK K ρ N H ((k, d) :: ds) ((.inr k, x) :: xs)
theorem RK.up {K : PySem.W.Frag} {ρ ρ' : Nat → Addr} {N N' : Nat} {H H' : Hp} (u : Up K ρ N H ρ' N' H') : ∀ {ds : List (Str × Qm.D)} {vs : List (Key × V)}, RK K ρ N H ds vs → RK K ρ' N' H' ds vs
  | _, _, .nil => .nil
  | _, _, .cons h a => .cons (h.up u) (RK.up u a)
def CO (K : PySem.W.Frag) (ρ : Nat → Addr) (N : Nat) (H : Hp) (a : Addr) : Qm.Cell → Prop
  | .lst ds => ∃ vs, H a = some (.lst vs) ∧ RA K ρ N H ds vs
  | .ro ds => ∃ vs, RoOk K H a vs ∧ RA K ρ N H ds vs
  | .dct ds => ∃ vs, H a = some (.dK vs) ∧ RK K ρ N H ds vs
  | .dro ds => ∃ o vs, H a = some (.frz o (.dK vs)) ∧ RK K ρ N H ds vs
structure RS (K : PySem.W.Frag) (ρ : Nat → Addr) (c : Qm.Cells) (H : Hp) : Prop where
  inj : ∀ (i j : Nat) (z y : Qm.Cell), c[i]? = some z → c[j]? = some y → z.mt = true → y.mt = true → ρ i = ρ j → i = j
  ok : ∀ (n : Nat) (z : Qm.Cell), c[n]? = some z → CO K ρ c.length H (ρ n) z
structure RE (K : PySem.W.Frag) (ρ : Nat → Addr) (N : Nat) (H : Hp) (env : Qm.Env) (σ : St) : Prop where
  len : env.length = σ.length
  at_ : ∀ (i : Nat) (d : Qm.D), env[i]? = some (some d) → ∃ v : V, σ[i]? = some (some v) ∧ RD K ρ N H d v
structure Nx (K : PySem.W.Frag) (ρ : Nat → Addr) (c : Qm.Cells) (H : Hp) (ρ' : Nat → Addr) (c' : Qm.Cells) (H' : Hp) : Prop where
  up : Up K ρ c.length H ρ' c'.length H'
  rs : RS K ρ' c' H'
section
variable {K : PySem.W.Frag} {ρ ρ' ρ'' : Nat → Addr} {N N' : Nat} {c c' c'' : Qm.Cells} {H H' H'' : Hp} {env : Qm.Env} {σ : St}
theorem RE.up (h : RE K ρ N H env σ) (u : Up K ρ N H ρ' N' H') : RE K ρ' N' H' env σ := ⟨h.len, fun i d e => let ⟨v, h1, h2⟩ := h.at_ i d e; ⟨v, h1, h2.up u⟩⟩
theorem Nx.refl (r : RS K ρ c H) : Nx K ρ c H ρ c H := ⟨Up.refl, r⟩
theorem Nx.trans (a : Nx K ρ c H ρ' c' H') (b : Nx K ρ' c' H' ρ'' c'' H'') : Nx K ρ c H ρ'' c'' H'' := ⟨a.up.trans b.up, b.rs⟩
theorem CO.up {a : Addr} {z : Qm.Cell} (h : CO K ρ N H a z) (u : Up K ρ N H ρ' N' H') (hs : ∀ o, H a = some o → H' a = some o) : CO K ρ' N' H' a z := by
  cases z with
  | lst ds => obtain ⟨vs, h1, h2⟩ := h; exact ⟨vs, hs _ h1, h2.up u⟩
  | ro ds =>
    obtain ⟨vs, h1, h2⟩ := h
    refine ⟨vs, ?_, h2.up u⟩
    rcases h1 with ⟨o, h1⟩ | h1
    · exact .inl ⟨o, hs _ h1⟩
    · exact .inr h1
  | dct ds => obtain ⟨vs, h1, h2⟩ := h; exact ⟨vs, hs _ h1, h2.up u⟩
  | dro ds => obtain ⟨o, vs, h1, h2⟩ := h; exact ⟨o, vs, hs _ h1, h2.up u⟩
theorem CO.obj {a : Addr} {z : Qm.Cell} (h : CO K ρ N H a z) (m : z.mt = true) : ∃ o, H a = some o ∧ ((∃ xs, o = .lst xs) ∨ ∃ xs, o = .dK xs) := by
  cases z with
  | lst ds => obtain ⟨vs, h1, _⟩ := h; exact ⟨_, h1, .inl ⟨_, rfl⟩⟩
  | ro ds => cases m
  | dro ds => cases m
  | dct ds => obtain ⟨vs, h1, _⟩ := h; exact ⟨_, h1, .inr ⟨_, rfl⟩⟩
theorem RE.set {d : Qm.D} {v : V} {i : Nat} (h : RE K ρ N H env σ) (r : RD K ρ N H d v) : RE K ρ N H (env.set i (some d)) (σ.set i (some v)) := by
  refine ⟨by rw [List.length_set, List.length_set]; exact h.len, fun j e he => ?_⟩
  rw [List.getElem?_set] at he ⊢
  have hl := h.len
  by_cases hij : i = j
  · rw [if_pos hij] at he ⊢
    subst hij
    split at he
    · rename_i hlt
      rw [if_pos (by omega)]
      cases he
      exact ⟨v, rfl, r⟩
    · cases he
  · rw [if_neg hij] at he ⊢
    exact h.at_ j e he
theorem Nx.same (r : RS K ρ c H) (e : Same H H') : Nx K ρ c H ρ c H' := by
  have u : Up K ρ c.length H ρ c.length H' := ⟨fun _ _ => rfl, Nat.le_refl _, fun p xs h => e _ _ h, fun p o x h => e _ _ h⟩
  exact ⟨u, r.inj, fun n z hz => (r.ok n z hz).up u (fun o h => e _ _ h)⟩
theorem Nx.allocG (r : RS K ρ c H) {l : Addr} (hl : H l = none) {z : Qm.Cell} {o : HO} (hz : ∀ ρ' N' H', Up K ρ c.length H ρ' N' H' → H' l = some o → CO K ρ' N' H' l z) : Nx K ρ c H (fun n => if n = c.length then l else ρ n) (c ++ [z]) (upd H l o) ∧ RD K (fun n => if n = c.length then l else ρ n) (c ++ [z]).length (upd H l o) (.ref c.length) (.ref l) := by
  have hlen : (c ++ [z]).length = c.length + 1 := by simp
  have u : Up K ρ c.length H (fun n => if n = c.length then l else ρ n) (c ++ [z]).length (upd H l o) := by
    refine ⟨fun n h => if_neg (by omega), by omega, fun p xs h => get_new h hl, fun p o x h => get_new h hl⟩
  refine ⟨⟨u, fun i j x y h1 h2 m1 m2 e => ?_, fun n z' hz' => ?_⟩, ?_⟩
  · have lt1 : i < c.length + 1 := by rw [← hlen]; exact (List.getElem?_eq_some_iff.mp h1).1
    have lt2 : j < c.length + 1 := by rw [← hlen]; exact (List.getElem?_eq_some_iff.mp h2).1
    have fresh : ∀ k y, k < c.length → (c ++ [z])[k]? = some y → y.mt = true → ρ k ≠ l := fun k y hk hz m e' => by
      rw [List.getElem?_append_left hk] at hz
      obtain ⟨o', h', _⟩ := (r.ok k _ hz).obj m
      rw [e', hl] at h'; cases h'
    by_cases hi : i = c.length <;> by_cases hj : j = c.length
    · omega
    · exfalso
      simp only [hi, if_true, if_neg hj] at e
      exact fresh j y (by omega) h2 m2 e.symm
    · exfalso
      simp only [hj, if_true, if_neg hi] at e
      exact fresh i x (by omega) h1 m1 e
    · simp only [if_neg hi, if_neg hj] at e
      rw [List.getElem?_append_left (by omega)] at h1 h2
      exact r.inj i j x y h1 h2 m1 m2 e
  · have lt : n < c.length + 1 := by rw [← hlen]; exact (List.getElem?_eq_some_iff.mp hz').1
    by_cases hn : n = c.length
    · subst hn
      have : z' = z := by simpa using hz'.symm
      subst this
      simp only [if_true]
      exact hz _ _ _ u upd_same
    · simp only [if_neg hn]
      rw [List.getElem?_append_left (by omega)] at hz'
      exact (r.ok n z' hz').up u (fun o h => get_new h hl)
  · have := RD.ref (K := K) (ρ := fun n => if n = c.length then l else ρ n) (N := (c ++ [z]).length) (H := upd H l o) (n := c.length) (by omega)
    simpa using this
theorem Nx.alloc (r : RS K ρ c H) {l : Addr} (hl : H l = none) {ds : List Qm.D} {vs : List V} (a : RA K ρ c.length H ds vs) : Nx K ρ c H (fun n => if n = c.length then l else ρ n) (c ++ [.lst ds]) (upd H l (.lst vs)) ∧ RD K (fun n => if n = c.length then l else ρ n) (c ++ [Qm.Cell.lst ds]).length (upd H l (.lst vs)) (.ref c.length) (.ref l) :=
  Nx.allocG r hl fun _ _ _ u h => ⟨vs, h, a.up u⟩
theorem Nx.dalloc (r : RS K ρ c H) {l : Addr} (hl : H l = none) {ds : List (Str × Qm.D)} {vs : List (Key × V)} (a : RK K ρ c.length H ds vs) : Nx K ρ c H (fun n => if n = c.length then l else ρ n) (c ++ [.dct ds]) (upd H l (.dK vs)) ∧ RD K (fun n => if n = c.length then l else ρ n) (c ++ [Qm.Cell.dct ds]).length (upd H l (.dK vs)) (.ref c.length) (.ref l) :=
  Nx.allocG r hl fun _ _ _ u h => ⟨vs, h, a.up u⟩
theorem Nx.putG (r : RS K ρ c H) {n : Nat} {y z : Qm.Cell} (hn : c[n]? = some y) (my : y.mt = true) {o : HO} (hz : ∀ N' H', Up K ρ c.length H ρ N' H' → H' (ρ n) = some o → CO K ρ N' H' (ρ n) z) : Nx K ρ c H ρ (c.set n z) (upd H (ρ n) o) := by
  obtain ⟨w, hw, hk⟩ := (r.ok n _ hn).obj my
  have hlt : n < c.length := (List.getElem?_eq_some_iff.mp hn).1
  have tne : ∀ {p : Addr} {q : HO}, H p = some q → (∀ ys, q ≠ .lst ys) → (∀ ys, q ≠ .dK ys) → p ≠ ρ n := fun {p q} h h1 h2 e => by
    rw [e, hw] at h; cases h
    rcases hk with ⟨_, hk⟩ | ⟨_, hk⟩
    · exact h1 _ hk
    · exact h2 _ hk
  have u : Up K ρ c.length H ρ (c.set n z).length (upd H (ρ n) o) := by
    refine ⟨fun _ _ => rfl, by rw [List.length_set]; exact Nat.le_refl _, fun p ys h => ?_, fun p q x h => ?_⟩
    · rw [upd_ne (tne h (by intro _ z; cases z) (by intro _ z; cases z))]; exact h
    · rw [upd_ne (tne h (by intro _ z; cases z) (by intro _ z; cases z))]; exact h
  have look : ∀ {j : Nat} {x : Qm.Cell}, j ≠ n → (c.set n z)[j]? = some x → c[j]? = some x := fun {j x} hj hx => by
    rw [List.getElem?_set, if_neg (fun e => hj e.symm)] at hx; exact hx
  have back : ∀ {j : Nat} {x : Qm.Cell}, (c.set n z)[j]? = some x → x.mt = true → ∃ x', c[j]? = some x' ∧ x'.mt = true := fun {j x} hx m => by
    by_cases hj : j = n
    · subst hj; exact ⟨y, hn, my⟩
    · exact ⟨x, look hj hx, m⟩
  refine ⟨u, fun i j p q h1 h2 m1 m2 e => ?_, fun j x hx => ?_⟩
  · obtain ⟨_, g1, w1⟩ := back h1 m1
    obtain ⟨_, g2, w2⟩ := back h2 m2
    exact r.inj i j _ _ g1 g2 w1 w2 e
  · by_cases hj : j = n
    · subst hj
      have : x = z := by
        rw [List.getElem?_set, if_pos rfl, if_pos hlt] at hx; cases hx; rfl
      subst this
      exact hz _ _ u upd_same
    · have hx' := look hj hx
      by_cases hm : x.mt = true
      · have hp : ρ j ≠ ρ n := fun e => hj (r.inj j n _ _ hx' hn hm my e)
        exact (r.ok j _ hx').up u (fun ys h => by rw [upd_ne hp]; exact h)
      · cases x with
        | lst zs => exact absurd rfl hm
        | dct zs => exact absurd rfl hm
        | dro zs =>
          obtain ⟨o', ws', h1, h2⟩ := r.ok j _ hx'
          exact ⟨o', ws', by rw [upd_ne (tne h1 (by intro _ z; cases z) (by intro _ z; cases z))]; exact h1, h2.up u⟩
        | ro zs =>
          obtain ⟨ws', h1, h2⟩ := r.ok j _ hx'
          refine ⟨ws', ?_, h2.up u⟩
          rcases h1 with ⟨o, h1⟩ | h1
          · exact .inl ⟨o, by rw [upd_ne (tne h1 (by intro _ z; cases z) (by intro _ z; cases z))]; exact h1⟩
          · exact .inr h1
theorem Nx.put (r : RS K ρ c H) {n : Nat} {xs : List Qm.D} (hn : c[n]? = some (.lst xs)) {ds : List Qm.D} {vs : List V} (a : RA K ρ c.length H ds vs) : Nx K ρ c H ρ (c.set n (.lst ds)) (upd H (ρ n) (.lst vs)) :=
  Nx.putG r hn rfl fun _ _ u h => ⟨vs, h, a.up u⟩
theorem Nx.dput (r : RS K ρ c H) {n : Nat} {xs : List (Str × Qm.D)} (hn : c[n]? = some (.dct xs)) {ds : List (Str × Qm.D)} {vs : List (Key × V)} (a : RK K ρ c.length H ds vs) : Nx K ρ c H ρ (c.set n (.dct ds)) (upd H (ρ n) (.dK vs)) :=
  Nx.putG r hn rfl fun _ _ u h => ⟨vs, h, a.up u⟩
theorem Nx.dfrz (r : RS K ρ c H) {n : Nat} {ds : List (Str × Qm.D)} {vs : List (Key × V)} {o : Obj} (hn : c[n]? = some (.dct ds)) (a : RK K ρ c.length H ds vs) : Nx K ρ c H ρ (c.set n (.dro ds)) (upd H (ρ n) (.frz o (.dK vs))) :=
  Nx.putG r hn rfl fun _ _ u h => ⟨o, vs, h, a.up u⟩
theorem RS.lst (r : RS K ρ c H) {n : Nat} {ds : List Qm.D} (h : c[n]? = some (.lst ds)) : ∃ vs, H (ρ n) = some (.lst vs) ∧ RA K ρ c.length H ds vs := r.ok n _ h
theorem RS.seq (r : RS K ρ c H) {d : Qm.D} {ds : List Qm.D} {v : V} (h : RD K ρ c.length H d v) (e : Qm.seqOf d c = some ds) : ∃ p vs, v = .ref p ∧ (SqL K H p vs ∨ H p = some (.tup vs)) ∧ RA K ρ c.length H ds vs := by
  unfold Qm.seqOf at e
  split at e
  · cases e
    obtain ⟨p, xs, rfl, h1, h2⟩ := h.tup'
    exact ⟨p, xs, rfl, .inr h1, h2⟩
  · rename_i n
    obtain ⟨rfl, hn⟩ := h.ref'
    split at e
    · rename_i xs hx
      cases e
      obtain ⟨vs, h1, h2⟩ := r.lst hx
      exact ⟨_, vs, rfl, .inl (SqL.of h1), h2⟩
    · rename_i xs hx
      cases e
      obtain ⟨vs, h1, h2⟩ := r.ok n _ hx
      exact ⟨_, vs, rfl, .inl h1.seq, h2⟩
    · cases e
  · cases e
theorem seqOf_cases {d : Qm.D} {c : Qm.Cells} {ds : List Qm.D} (e : Qm.seqOf d c = some ds) : d = .tup ds ∨ ∃ n, d = .ref n := by
  unfold Qm.seqOf at e
  split at e
  · cases e; exact .inl rfl
  · exact .inr ⟨_, rfl⟩
  · cases e
theorem RS.seqR (r : RS K ρ c H) {n : Nat} {ds : List Qm.D} {v : V} (h : RD K ρ c.length H (.ref n) v) (e : Qm.seqOf (.ref n) c = some ds) : ∃ vs, v = .ref (ρ n) ∧ SqL K H (ρ n) vs ∧ RA K ρ c.length H ds vs := by
  obtain ⟨rfl, hn⟩ := h.ref'
  unfold Qm.seqOf at e
  dsimp only at e
  split at e
  · rename_i xs hx
    cases e
    obtain ⟨vs, h1, h2⟩ := r.lst hx
    exact ⟨vs, rfl, SqL.of h1, h2⟩
  · rename_i xs hx
    cases e
    obtain ⟨vs, h1, h2⟩ := r.ok n _ hx
    exact ⟨vs, rfl, h1.seq, h2⟩
  · cases e
theorem RS.lstOf (r : RS K ρ c H) {d : Qm.D} {n : Nat} {ds : List Qm.D} {v : V} (h : RD K ρ c.length H d v) (e : Qm.lstOf d c = some (n, ds)) : d = .ref n ∧ c[n]? = some (.lst ds) ∧ ∃ vs, v = .ref (ρ n) ∧ H (ρ n) = some (.lst vs) ∧ RA K ρ c.length H ds vs := by
  unfold Qm.lstOf at e
  split at e
  · obtain ⟨rfl, hn⟩ := h.ref'
    split at e
    · rename_i xs hx
      cases e
      obtain ⟨vs, h1, h2⟩ := r.lst hx
      exact ⟨rfl, hx, vs, rfl, h1, h2⟩
    · cases e
  · cases e
end
def TQ (K : PySem.W.Frag) (f : Qm.XE) : TE := fun σ H Q => ∃ ρ env c d c', RS K ρ c H ∧ RE K ρ c.length H env σ ∧ f env c = some (d, c') ∧ ∀ ρ' v H', Nx K ρ c H ρ' c' H' → RD K ρ' c'.length H' d v → Q v H'
def AQ (K : PySem.W.Frag) (f : Qm.XA) : TA := fun σ H Q => ∃ ρ env c ds c', RS K ρ c H ∧ RE K ρ c.length H env σ ∧ f env c = some (ds, c') ∧ ∀ ρ' vs H', Nx K ρ c H ρ' c' H' → RA K ρ' c'.length H' ds vs → Q vs H'
def BQ (K : PySem.W.Frag) (f : Qm.XT) : TT := fun σ H Q => ∃ ρ env c b c', RS K ρ c H ∧ RE K ρ c.length H env σ ∧ f env c = some (b, c') ∧ ∀ ρ' H', Nx K ρ c H ρ' c' H' → Q b H'
def OQ (K : PySem.W.Frag) (f : Qm.XO) : TO := fun σ H Q => ∃ ρ env c o c', RS K ρ c H ∧ RE K ρ c.length H env σ ∧ f env c = some (o, c') ∧ ∀ ρ' H', Nx K ρ c H ρ' c' H' → Q o H'
def EndQ (K : PySem.W.Frag) (ρ : Nat → Addr) (c : Qm.Cells) (H : Hp) (env : Qm.Env) (D : Ends) : Qm.Fl → Prop
  | .nx => ∀ σ, RE K ρ c.length H env σ → D.nx σ H
  | .bk => ∀ σ, RE K ρ c.length H env σ → D.bk σ H
  | .ct => ∀ σ, RE K ρ c.length H env σ → D.ct σ H
  | .rt d => ∀ v, RD K ρ c.length H d v → D.rt v H
def SQ (K : PySem.W.Frag) (f : Qm.XS) : TS := fun D σ H => ∃ ρ env c fl env' c', RS K ρ c H ∧ RE K ρ c.length H env σ ∧ f env c = some (fl, env', c') ∧ ∀ ρ' H', Nx K ρ c H ρ' c' H' → EndQ K ρ' c' H' env' D fl
def GQ (K : PySem.W.Frag) (g : Qm.XG) : TG := fun v σ H Q => ∃ ρ env c d env' c', RS K ρ c H ∧ RE K ρ c.length H env σ ∧ RD K ρ c.length H d v ∧ g d env c = some (env', c') ∧ ∀ ρ' H' σ', Nx K ρ c H ρ' c' H' → RE K ρ' c'.length H' env' σ' → Q σ' H'
def GsQ (K : PySem.W.Frag) (g : Qm.XGs) : TGs := fun vs σ H Q => ∃ ρ env c ds env' c', RS K ρ c H ∧ RE K ρ c.length H env σ ∧ RA K ρ c.length H ds vs ∧ g ds env c = some (env', c') ∧ ∀ ρ' H' σ', Nx K ρ c H ρ' c' H' → RE K ρ' c'.length H' env' σ' → Q σ' H'
def ItOk (K : PySem.W.Frag) (ρ0 : Nat → Addr) (N0 : Nat) (H0 : Hp) (m : Qm.Itm) (J : It) : Prop := ∀ ρ c H, Up K ρ0 N0 H0 ρ c.length H → RS K ρ c H → Qm.stays m.ks c →
  (∀ i, i < m.ds.length → J.go i H) ∧ J.stop m.ds.length H ∧ ∀ i d x H', m.ds[i]? = some d → J.yld i H x H' → Nx K ρ c H ρ c H' ∧ RD K ρ c.length H' d x
def IQ (K : PySem.W.Frag) (f : Qm.XI) : TI := fun σ H R => ∃ ρ env c m c', RS K ρ c H ∧ RE K ρ c.length H env σ ∧ f env c = some (m, c') ∧ ∀ ρ' J H', Nx K ρ c H ρ' c' H' → ItOk K ρ' c'.length H' m J → R J H'
abbrev QE (X : Cx) (e : Expr) (f : Qm.XE) : Prop := PE X e (TQ X.K f)
abbrev QA (X : Cx) (es : List Expr) (f : Qm.XA) : Prop := PA X es (AQ X.K f)
abbrev QT (X : Cx) (e : Expr) (f : Qm.XT) : Prop := PT X e (BQ X.K f)
abbrev QW (X : Cx) (e : Expr) (f : Qm.XT) : Prop := PW X e (BQ X.K f)
abbrev QO (X : Cx) (e : Option Expr) (f : Qm.XO) : Prop := PO X e (OQ X.K f)
abbrev QS (X : Cx) (e : Stmt) (f : Qm.XS) : Prop := PS X e (SQ X.K f)
abbrev QSs (X : Cx) (e : List Stmt) (f : Qm.XS) : Prop := PSs X e (SQ X.K f)
abbrev QG (X : Cx) (e : Expr) (f : Qm.XG) : Prop := PG X e (GQ X.K f)
abbrev QGs (X : Cx) (e : List Expr) (f : Qm.XGs) : Prop := PGs X e (GsQ X.K f)
abbrev QI (X : Cx) (tg e : Expr) (f : Qm.XI) : Prop := PI X tg e (IQ X.K f)
abbrev QIfs (X : Cx) (e : List Expr) (f : Qm.XT) : Prop := PIfs X e (BQ X.K f)
section
variable {X : Cx}
theorem PE.imp {e : Expr} {t t' : TE} (h : PE X e t) (k : ∀ σ H Q, t' σ H Q → t σ H Q) : PE X e t' := fun pins s σ H Q I q => h pins s σ H Q I (k σ H Q q)
theorem PT.imp {e : Expr} {t t' : TT} (h : PT X e t) (k : ∀ σ H Q, t' σ H Q → t σ H Q) : PT X e t' := fun pins s σ H Q I q => h pins s σ H Q I (k σ H Q q)
theorem PW.imp {e : Expr} {t t' : TT} (h : PW X e t) (k : ∀ σ H Q, t' σ H Q → t σ H Q) : PW X e t' := fun wh pins s σ H Q I q => h wh pins s σ H Q I (k σ H Q q)
theorem PA.imp {e : List Expr} {t t' : TA} (h : PA X e t) (k : ∀ σ H Q, t' σ H Q → t σ H Q) : PA X e t' := fun pos pins s σ H Q I q => h pos pins s σ H Q I (k σ H Q q)
theorem PS.imp {e : Stmt} {t t' : TS} (h : PS X e t) (k : ∀ D σ H, t' D σ H → t D σ H) : PS X e t' := fun pins s σ H D I q => h pins s σ H D I (k D σ H q)
theorem PSs.imp {e : List Stmt} {t t' : TS} (h : PSs X e t) (k : ∀ D σ H, t' D σ H → t D σ H) : PSs X e t' := fun pins s σ H D I q => h pins s σ H D I (k D σ H q)
theorem PO.imp {e : Option Expr} {t t' : TO} (h : PO X e t) (k : ∀ σ H Q, t' σ H Q → t σ H Q) : PO X e t' := fun pins s σ H Q I q => h pins s σ H Q I (k σ H Q q)
theorem PG.imp {e : Expr} {t t' : TG} (h : PG X e t) (k : ∀ v σ H Q, t' v σ H Q → t v σ H Q) : PG X e t' := fun pins s σ H x v Q I r q => h pins s σ H x v Q I r (k x σ H Q q)
theorem PGs.imp {e : List Expr} {t t' : TGs} (h : PGs X e t) (k : ∀ v σ H Q, t' v σ H Q → t v σ H Q) : PGs X e t' := fun pins s σ H x v Q I r q => h pins s σ H x v Q I r (k x σ H Q q)
theorem PI.imp {tg e : Expr} {t t' : TI} (h : PI X tg e t) (k : ∀ σ H Q, t' σ H Q → t σ H Q) : PI X tg e t' := fun pins s σ H R I q => h pins s σ H R I (k σ H R q)
theorem PIfs.imp {e : List Expr} {t t' : TT} (h : PIfs X e t) (k : ∀ σ H Q, t' σ H Q → t σ H Q) : PIfs X e t' := fun pins s σ H Q I q => h pins s σ H Q I (k σ H Q q)
end
end L2
namespace L2
open PySem PySem.Spec PyProof.Rows
section
variable {X : Cx} {a b e : Expr} {es : List Expr} {fa fb fc fe : Qm.XE} {ft fu : Qm.XT} {pos : Pos}
theorem qe_var (i : Nat) (h : PE X e (tVar i)) : QE X e (Qm.eV i) := h.imp fun σ H Q ⟨ρ, env, c, d, c', rs, re, e, k⟩ => by
  unfold Qm.eV at e
  obtain ⟨d', e1, e2⟩ := bnd e
  cases e2
  have e3 : env[i]? = some (some d) := by
    cases h : env[i]? with
    | none => rw [h] at e1; cases e1
    | some o => rw [h] at e1; rw [show o = some d from e1]
  obtain ⟨v, h1, h2⟩ := re.at_ i d e3
  exact ⟨v, h1, k ρ v H (Nx.refl rs) h2⟩
theorem qe_c {v : V} (d : Qm.D) (h : PE X e (tC v)) (r : ∀ ρ N H, RD X.K ρ N H d v) : QE X e (Qm.eC d) := h.imp fun σ H Q ⟨ρ, env, c, d', c', rs, re, e, k⟩ => by
  unfold Qm.eC at e
  cases e
  exact k ρ v H (Nx.refl rs) (r _ _ _)
theorem qe_int {i : Int} {j pos} : QE X (.Constant (.int i) j pos) (Qm.eC (.int i)) := qe_c _ pe_int fun _ _ _ => .int i
theorem qe_bl {i : Bool} {j pos} : QE X (.Constant (.bool i) j pos) (Qm.eC (.bl i)) := qe_c _ pe_bl fun _ _ _ => .bl i
theorem qe_non {j pos} : QE X (.Constant .none j pos) (Qm.eC .non) := qe_c _ pe_non fun _ _ _ => .non
theorem qe_str {x : Str} {j pos} : QE X (.Constant (.str x) j pos) (Qm.eC (.str x)) := qe_c _ pe_str fun _ _ _ => .str x
def Lk2 (K : PySem.W.Frag) (r : R2) (g : Qm.G2) : Prop := ∀ ρ c H x y d c' v u Q, RS K ρ c H → RD K ρ c.length H x v → RD K ρ c.length H y u → g x y c = some (d, c') → (∀ ρ' w H', Nx K ρ c H ρ' c' H' → RD K ρ' c'.length H' d w → Q w H') → r v u H Q
theorem tOp_q {K : PySem.W.Frag} {r : R2} {g : Qm.G2} (hl : Lk2 K r g) {σ : St} {H : Hp} {Q : VK} (h : TQ K (Qm.e2 g fa fb) σ H Q) : tOp r (TQ K fa) (TQ K fb) σ H Q := by
  obtain ⟨ρ, env, c, d, c', rs, re, e, k⟩ := h
  obtain ⟨p, e1, e⟩ := bnd e
  obtain ⟨q, e2, e3⟩ := bnd e
  exact ⟨ρ, env, c, p.1, p.2, rs, re, e1, fun ρ1 v H1 n1 r1 => ⟨ρ1, env, p.2, q.1, q.2, n1.rs, re.up n1.up, e2, fun ρ2 u H2 n2 r2 =>
    hl ρ2 q.2 H2 p.1 q.1 d c' v u Q n2.rs (r1.up n2.up) r2 e3 fun ρ' w H' n3 r3 => k ρ' w H' (n1.trans (n2.trans n3)) r3⟩⟩
theorem qe_op {op : Operator} {r : R2} {g : Qm.G2} (ho : OpR X (binaryOp op) r) (hl : Lk2 X.K r g) (ha : QE X a fa) (hb : QE X b fb) : QE X (.BinOp a op b pos) (Qm.e2 g fa fb) := (pe_op ho ha hb).imp fun _ _ _ h => tOp_q hl h
theorem qe_cmp {op : CmpOp} {r : R2} {g : Qm.G2} (ho : OpR X (compareOp op) r) (hl : Lk2 X.K r g) (ha : QE X a fa) (hb : QE X b fb) (hm : behindInMarks op b = false) : QE X (.Compare a [op] [b] pos) (Qm.e2 g fa fb) := (pe_cmpR ho ha hb hm).imp fun _ _ _ h => tOp_q hl h
theorem qe_ix {r : R2} {g : Qm.G2} (hr : IxR X r) (hl : Lk2 X.K r g) (ha : QE X a fa) (hb : QE X b fb) (hs : PlainIx b) : QE X (.Subscript a b pos) (Qm.e2 g fa fb) := (pe_ix hr ha hb hs).imp fun _ _ _ h => tOp_q hl h
theorem asI_of {d : Qm.D} {i : Int} (h : Qm.asI d = some i) : d = .int i := by
  unfold Qm.asI at h
  split at h
  · cases h; rfl
  · cases h
theorem asB_of {d : Qm.D} {i : Bool} (h : Qm.asB d = some i) : d = .bl i := by
  unfold Qm.asB at h
  split at h
  · cases h; rfl
  · cases h
theorem lk_int {K : PySem.W.Frag} {C : Int → Int → Prop} {g : Int → Int → V} {f : Int → Int → Option Qm.D} (h : ∀ i j d, f i j = some d → C i j ∧ ∀ ρ N H, RD K ρ N H d (g i j)) : Lk2 K (rI C g) (Qm.ii f) := by
  intro ρ c H x y d c' v u Q rs rx ry e k
  obtain ⟨i, e1, e⟩ := bnd e
  obtain ⟨j, e2, e⟩ := bnd e
  obtain ⟨d', e3, e⟩ := bnd e
  cases e
  cases asI_of e1; cases asI_of e2
  cases rx.int'; cases ry.int'
  obtain ⟨hc, hr⟩ := h i j d e3
  exact ⟨i, j, rfl, rfl, hc, k ρ _ H (Nx.refl rs) (hr _ _ _)⟩
theorem lk_int0 {K : PySem.W.Frag} {g : Int → Int → V} {f : Int → Int → Option Qm.D} (h : ∀ i j d, f i j = some d → ∀ ρ N H, RD K ρ N H d (g i j)) : Lk2 K (rI0 g) (Qm.ii f) := by
  intro ρ c H x y d c' v u Q rs rx ry e k
  obtain ⟨i, e1, e⟩ := bnd e
  obtain ⟨j, e2, e⟩ := bnd e
  obtain ⟨d', e3, e⟩ := bnd e
  cases e
  cases asI_of e1; cases asI_of e2
  cases rx.int'; cases ry.int'
  exact ⟨i, j, rfl, rfl, k ρ _ H (Nx.refl rs) (h i j d e3 _ _ _)⟩
theorem lk_sub {K : PySem.W.Frag} : Lk2 K (rI0 fun i j => .int (i - j)) Qm.gSub := lk_int0 fun i j d e ρ N H => by cases e; exact .int _
theorem lk_mul {K : PySem.W.Frag} : Lk2 K (rI IntMulOk fun i j => .int (i * j)) Qm.gMul := lk_int fun i j d e => by
  split at e
  · rename_i h
    cases e
    refine ⟨?_, fun _ _ _ => .int _⟩
    have e64 : (2 : Nat) ^ 64 = 18446744073709551616 := by decide
    rcases h with h | h | h
    · exact My.mulOk h.1 h.2 rfl
    · have := h.lt
      exact My.mulOkL (by omega) (by omega)
    · have := h.lt
      exact My.mulOkR (by omega) (by omega)
  · cases e
theorem lk_fdiv {K : PySem.W.Frag} : Lk2 K (rI CDivB fun i j => .int (i.fdiv j)) Qm.gFdiv := lk_int fun i j d e => by
  split at e
  · rename_i h
    cases e
    exact ⟨divB h.1 h.2 rfl, fun _ _ _ => .int _⟩
  · cases e
theorem lk_mod {K : PySem.W.Frag} : Lk2 K (rI (fun _ j => j ≠ 0) fun i j => .int (i.fmod j)) Qm.gMod := lk_int fun i j d e => by
  split at e
  · rename_i h
    cases e
    exact ⟨h, fun _ _ _ => .int _⟩
  · cases e
theorem lk_pow {K : PySem.W.Frag} : Lk2 K (rI CPow fun i j => .int (i ^ j.toNat)) Qm.gPow := lk_int fun i j d e => by
  split at e
  · rename_i h
    cases e
    exact ⟨⟨h.1, by omega, by have := h.2.2; have : (2 : Nat) ^ 64 = 18446744073709551616 := by decide
                              omega⟩, fun _ _ _ => .int _⟩
  · cases e
theorem lk_lt {K : PySem.W.Frag} : Lk2 K (rI0 fun i j => .bl (decide (i < j))) Qm.gLt := lk_int0 fun i j d e ρ N H => by cases e; exact .bl _
theorem lk_gt {K : PySem.W.Frag} : Lk2 K (rI0 fun i j => .bl (decide (j < i))) Qm.gGt := lk_int0 fun i j d e ρ N H => by cases e; exact .bl _
theorem lk_add {K : PySem.W.Frag} : Lk2 K (fun x y H Q => (rI0 fun i j => .int (i + j)) x y H Q ∨ (rCatT K x y H Q ∨ rCat x y H Q)) Qm.gAdd := by
  intro ρ c H x y d c' v u Q rs rx ry e k
  unfold Qm.gAdd at e
  split at e
  · cases e
    cases rx.int'; cases ry.int'
    exact .inl ⟨_, _, rfl, rfl, k ρ _ H (Nx.refl rs) (.int _)⟩
  · rename_i xs ys
    split at e
    · rename_i h
      cases e
      obtain ⟨p, vs, rfl, h1, a1⟩ := rx.tup'
      obtain ⟨q, us, rfl, h2, a2⟩ := ry.tup'
      have l1 := a1.length
      have l2 := a2.length
      refine .inr (.inl ⟨p, q, vs, us, rfl, rfl, SqT.of h1, SqT.of h2, ?_, line_le (by omega), fun z => ?_, fun _ l hl => ?_⟩)
      · intro z; subst z
        have : xs = [] := List.length_eq_zero_iff.mp (by simpa using l1)
        exact h.1 this
      · subst z
        have : ys = [] := List.length_eq_zero_iff.mp (by simpa using l2)
        subst this
        rw [List.append_nil] at k
        exact k ρ _ H (Nx.refl rs) (.tup h1 a1)
      · have n := Nx.same rs (same_new (z := .tup (vs ++ us)) hl)
        exact k ρ _ _ n (.tup upd_same ((a1.append a2).up n.up))
    · cases e
  · obtain ⟨p, e1, e⟩ := bnd e
    obtain ⟨q, e2, e⟩ := bnd e
    split at e
    · rename_i h
      cases e
      obtain ⟨_, hp, vs, rfl, h1, a1⟩ := rs.lstOf rx e1
      obtain ⟨_, hq, us, rfl, h2, a2⟩ := rs.lstOf ry e2
      have l1 := a1.length
      have l2 := a2.length
      refine .inr (.inr ⟨_, _, vs, us, rfl, rfl, h1, h2, line_le (by omega), fun l hl => ?_⟩)
      obtain ⟨n, r⟩ := Nx.alloc rs hl (a1.append a2)
      exact k _ _ _ n r
    · cases e
theorem op_addQ : OpR X (binaryOp .Add) (fun x y H Q => (rI0 fun i j => .int (i + j)) x y H Q ∨ (rCatT X.K x y H Q ∨ rCat x y H Q)) := op_add.or (op_catT.or op_cat)
theorem atD_of {α : Type} {xs : List α} {i : Int} : Qm.atD xs i = atI xs i := rfl
theorem lk_ix {K : PySem.W.Frag} : Lk2 K (rIx K) Qm.gIx := by
  intro ρ c H x y d c' v u Q rs rx ry e k
  obtain ⟨xs, e1, e⟩ := bnd e
  obtain ⟨i, e2, e⟩ := bnd e
  obtain ⟨d', e3, e⟩ := bnd e
  cases e
  cases asI_of e2
  cases ry.int'
  obtain ⟨p, vs, rfl, h, a⟩ := rs.seq rx e1
  obtain ⟨j, hj, hx⟩ := bnd (show (Qm.ixD xs.length i).bind (fun j => xs[j]?) = some d from e3)
  obtain ⟨w, hw, rw'⟩ := a.get hx
  have hat : atI vs i = some w := by
    show (ixN vs.length i).bind (fun j => vs[j]?) = some w
    rw [← a.length, show ixN xs.length i = some j from hj]
    exact hw
  rcases h with h | h
  · exact .inl ⟨p, vs, i, w, rfl, rfl, h, hat, k ρ _ H (Nx.refl rs) rw'⟩
  · exact .inr (.inl ⟨p, vs, i, w, rfl, rfl, SqT.of h, hat, k ρ _ H (Nx.refl rs) rw'⟩)
theorem qe_item (ha : QE X a fa) (hb : QE X b fb) (hs : PlainIx b) : QE X (.Subscript a b pos) (Qm.e2 Qm.gIx fa fb) := qe_ix ix_seq lk_ix ha hb hs
theorem qe_neg (ha : QE X a fa) : QE X (.UnaryOp .USub a pos) (Qm.e1 Qm.gNeg fa) := (pe_un un_neg ha).imp fun σ H Q ⟨ρ, env, c, d, c', rs, re, e, k⟩ => by
  obtain ⟨p, e1, e⟩ := bnd e
  obtain ⟨i, e2, e⟩ := bnd e
  cases e
  refine ⟨ρ, env, c, p.1, p.2, rs, re, e1, fun ρ1 v H1 n1 r1 => ?_⟩
  rw [asI_of e2] at r1
  cases r1.int'
  exact ⟨i, rfl, k ρ1 _ H1 n1 (.int _)⟩
theorem qe_one {op} (h : QE X a fa) : QE X (.BoolOp op [a] pos) fa := pe_one h
theorem qe_and {rest : List Expr} (ha : QE X a fa) (hb : QE X (.BoolOp .And (b :: rest) pos) fb) : QE X (.BoolOp .And (a :: b :: rest) pos) (Qm.eAnd fa fb) := (pe_and ha hb).imp fun σ H Q ⟨ρ, env, c, d, c', rs, re, e, k⟩ => by
  obtain ⟨p, e1, e⟩ := bnd e
  obtain ⟨i, e2, e⟩ := bnd e
  refine ⟨ρ, env, c, p.1, p.2, rs, re, e1, fun ρ1 v H1 n1 r1 => ?_⟩
  rw [asB_of e2] at r1
  cases r1.bl'
  refine ⟨i, rfl, ?_⟩
  split at e
  · rename_i hi
    rw [if_pos hi]
    exact ⟨ρ1, env, p.2, d, c', n1.rs, re.up n1.up, e, fun ρ' w H' n r => k ρ' w H' (n1.trans n) r⟩
  · rename_i hi
    rw [if_neg hi]
    cases e
    exact k ρ1 _ H1 n1 (.bl _)
theorem qe_or {rest : List Expr} (ha : QE X a fa) (hb : QE X (.BoolOp .Or (b :: rest) pos) fb) : QE X (.BoolOp .Or (a :: b :: rest) pos) (Qm.eOr fa fb) := (pe_or ha hb).imp fun σ H Q ⟨ρ, env, c, d, c', rs, re, e, k⟩ => by
  obtain ⟨p, e1, e⟩ := bnd e
  obtain ⟨i, e2, e⟩ := bnd e
  refine ⟨ρ, env, c, p.1, p.2, rs, re, e1, fun ρ1 v H1 n1 r1 => ?_⟩
  rw [asB_of e2] at r1
  cases r1.bl'
  refine ⟨i, rfl, ?_⟩
  split at e
  · rename_i hi
    rw [if_pos hi]
    cases e
    exact k ρ1 _ H1 n1 (.bl _)
  · rename_i hi
    rw [if_neg hi]
    exact ⟨ρ1, env, p.2, d, c', n1.rs, re.up n1.up, e, fun ρ' w H' n r => k ρ' w H' (n1.trans n) r⟩
theorem qe_not (ha : QE X a fa) : QE X (.UnaryOp .Not a pos) (Qm.eNot fa) := (pe_not ha).imp fun σ H Q ⟨ρ, env, c, d, c', rs, re, e, k⟩ => by
  obtain ⟨p, e1, e⟩ := bnd e
  obtain ⟨i, e2, e⟩ := bnd e
  cases e
  refine ⟨ρ, env, c, p.1, p.2, rs, re, e1, fun ρ1 v H1 n1 r1 => ?_⟩
  rw [asB_of e2] at r1
  cases r1.bl'
  exact ⟨i, rfl, k ρ1 _ H1 n1 (.bl _)⟩
theorem qe_ifExp {c0 : Expr} (hc : QT X c0 ft) (ha : QE X a fa) (hb : QE X b fb) : QE X (.IfExp c0 a b pos) (Qm.eIf ft fa fb) := (pe_ifExp hc ha hb).imp fun σ H Q ⟨ρ, env, c, d, c', rs, re, e, k⟩ => by
  obtain ⟨p, e1, e⟩ := bnd e
  refine ⟨ρ, env, c, p.1, p.2, rs, re, e1, fun ρ1 H1 n1 => ?_⟩
  split at e
  · rename_i hi
    rw [if_pos hi]
    exact ⟨ρ1, env, p.2, d, c', n1.rs, re.up n1.up, e, fun ρ' w H' n r => k ρ' w H' (n1.trans n) r⟩
  · rename_i hi
    rw [if_neg hi]
    exact ⟨ρ1, env, p.2, d, c', n1.rs, re.up n1.up, e, fun ρ' w H' n r => k ρ' w H' (n1.trans n) r⟩
theorem qa_nil : QA X [] Qm.aNil := pa_nil.imp fun σ H Q ⟨ρ, env, c, ds, c', rs, re, e, k⟩ => by
  cases e
  exact k ρ [] H (Nx.refl rs) .nil
theorem qa_cons {fr : Qm.XA} (ha : QE X e fa) (hr : QA X es fr) (hs : starEach (e :: es) X.env = (false, eval e X.env) :: starEach es X.env := by rfl) : QA X (e :: es) (Qm.aCons fa fr) := (pa_cons ha hr hs).imp fun σ H Q ⟨ρ, env, c, ds, c', rs, re, e, k⟩ => by
  obtain ⟨p, e1, e⟩ := bnd e
  obtain ⟨q, e2, e⟩ := bnd e
  cases e
  exact ⟨ρ, env, c, p.1, p.2, rs, re, e1, fun ρ1 v H1 n1 r1 => ⟨ρ1, env, p.2, q.1, q.2, n1.rs, re.up n1.up, e2, fun ρ2 vs H2 n2 r2 => k ρ2 (v :: vs) H2 (n1.trans n2) (.cons (r1.up n2.up) r2)⟩⟩
theorem qe_tup {x1} {f : Qm.XA} (h : QA X es f) : QE X (.Tuple es x1 pos) (Qm.eTup f) := (pe_tup h).imp fun σ H Q ⟨ρ, env, c, d, c', rs, re, e, k⟩ => by
  obtain ⟨p, e1, e⟩ := bnd e
  split at e
  · rename_i hz
    cases e
    refine ⟨ρ, env, c, p.1, p.2, rs, re, e1, fun ρ1 vs H1 n1 r1 => ⟨line_le (by rw [← r1.length]; exact hz), fun l hl => ?_⟩⟩
    have n := Nx.same n1.rs (same_new (z := .tup vs) hl)
    exact k ρ1 _ _ (n1.trans n) (.tup upd_same (r1.up n.up))
  · cases e
theorem qe_lst {f : Qm.XA} (h : QA X es f) : QE X (.List es pos) (Qm.eLst f) := (pe_lst h).imp fun σ H Q ⟨ρ, env, c, d, c', rs, re, e, k⟩ => by
  obtain ⟨p, e1, e⟩ := bnd e
  split at e
  · rename_i hz
    cases e
    refine ⟨ρ, env, c, p.1, p.2, rs, re, e1, fun ρ1 vs H1 n1 r1 => ⟨line_le (by rw [← r1.length]; exact hz), fun l hl => ?_⟩⟩
    obtain ⟨n, r⟩ := Nx.alloc n1.rs hl r1
    exact k _ _ _ (n1.trans n) r
  · cases e
def spD (K : PySem.W.Frag) (F : Qm.FN) : Sp := fun vs H Q _ => ∃ ρ c ds d c', RS K ρ c H ∧ RA K ρ c.length H ds vs ∧ F ds c = some (d, c') ∧ ∀ ρ' v H', Nx K ρ c H ρ' c' H' → RD K ρ' c'.length H' d v → Q v H'
theorem tCall_q {K : PySem.W.Frag} {F : Qm.FN} {f : Qm.XA} {ds : List Qm.D} {dvs : List V} {E : XK} (hd : ∀ ρ N H, RA K ρ N H ds dvs) {σ : St} {H : Hp} {Q : VK} (h : TQ K (Qm.eCall F ds f) σ H Q) : tCall (spD K F) dvs E (AQ K f) σ H Q := by
  obtain ⟨ρ, env, c, d, c', rs, re, e, k⟩ := h
  obtain ⟨p, e1, e⟩ := bnd e
  exact ⟨ρ, env, c, p.1, p.2, rs, re, e1, fun ρ1 vs H1 n1 r1 => ⟨ρ1, p.2, p.1 ++ ds, d, c', n1.rs, r1.append (hd _ _ _), e, fun ρ' v H' n r => k ρ' v H' (n1.trans n) r⟩⟩
theorem qe_call {k : Nat} {f : Addr} {fd : FuncData} {ps : List Str} {F : Qm.FN} {dvs : List V} {ds : List Value} {x : Str} {p : Pos} {fx : Qm.XA} (qs : List Qm.D) (G : FnOk X.prog X.w X.K X.mg X.base CX0 k f fd ps (spD X.K F)) (hr : Room k X.A) (hg : Gl X x) (hm : X.mg x = some (.ref f)) (hk : PySem.W.keepIn X.K (.ref f) = true) (hb : Binds X.K fd ps ds) (hd : Vals dvs ds) (hq : ∀ ρ N H, RA X.K ρ N H qs dvs)
    (ha : QA X (e :: es) fx) (hdb : (x == ("__debug__" : Str)) = false := by decide) (he : starEach (e :: es) X.env = (false, eval e X.env) :: starEach es X.env := by rfl) (hpl : (backTo pos (starEach es X.env)).any (·.1) = false := by rfl) :
    QE X (.Call (.Name x p) (e :: es) [] pos) (Qm.eCall F qs fx) := (pe_call (E := E0) G hr hg hm hk hb hd pass0 ha hdb he hpl).imp fun _ _ _ h => tCall_q hq h
def LkF (K : PySem.W.Frag) (r : List V → Hp → VK → Prop) (F : Qm.FN) : Prop := ∀ ρ c H ds d c' vs Q, RS K ρ c H → RA K ρ c.length H ds vs → F ds c = some (d, c') → (∀ ρ' w H', Nx K ρ c H ρ' c' H' → RD K ρ' c'.length H' d w → Q w H') → r vs H Q
theorem tCB_q {K : PySem.W.Frag} {r : List V → Hp → VK → Prop} {F : Qm.FN} (hl : LkF K r F) {f : Qm.XA} {σ : St} {H : Hp} {Q : VK} (h : TQ K (Qm.eB F f) σ H Q) : tCB r (AQ K f) σ H Q := by
  obtain ⟨ρ, env, c, d, c', rs, re, e, k⟩ := h
  obtain ⟨p, e1, e⟩ := bnd e
  exact ⟨ρ, env, c, p.1, p.2, rs, re, e1, fun ρ1 vs H1 n1 r1 => hl ρ1 p.2 H1 p.1 d c' vs Q n1.rs r1 e fun ρ' v H' n r => k ρ' v H' (n1.trans n) r⟩
theorem qe_callB {id : String} {r : List V → Hp → VK → Prop} {F : Qm.FN} {x : Str} {p : Pos} {f : Qm.XA} (hc : CallR X (.builtin id) r) (hl : LkF X.K r F) (hg : Gl X x) (hm : X.mg x = none) (hv : bootBuiltins x = some (.builtin id)) (ha : QA X (e :: es) f) (hn : x ≠ "__name__" := by decide) (hdb : (x == ("__debug__" : Str)) = false := by decide)
    (he : starEach (e :: es) X.env = (false, eval e X.env) :: starEach es X.env := by rfl) (hpl : (backTo pos (starEach es X.env)).any (·.1) = false := by rfl) : QE X (.Call (.Name x p) (e :: es) [] pos) (Qm.eB F f) := (pe_callB hc hg hm hv ha hn hdb he hpl).imp fun _ _ _ h => tCB_q hl h
theorem qe_callTy {id : String} {r : List V → Hp → VK → Prop} {F : Qm.FN} {x : Str} {p : Pos} {f : Qm.XA} (hc : CallR X (.type id) r) (hl : LkF X.K r F) (hg : Gl X x) (hm : X.mg x = none) (hv : bootBuiltins x = some (.type id)) (ha : QA X (e :: es) f) (hn : x ≠ "__name__" := by decide) (hdb : (x == ("__debug__" : Str)) = false := by decide)
    (he : starEach (e :: es) X.env = (false, eval e X.env) :: starEach es X.env := by rfl) (hpl : (backTo pos (starEach es X.env)).any (·.1) = false := by rfl) : QE X (.Call (.Name x p) (e :: es) [] pos) (Qm.eB F f) := (pe_callTy hc hg hm hv ha hn hdb he hpl).imp fun _ _ _ h => tCB_q hl h
end
end L2
namespace L2
open PySem PySem.Spec PyProof.Rows
section
variable {X : Cx} {a b e : Expr} {es : List Expr} {fa fb fc fe : Qm.XE} {ft fu : Qm.XT} {pos : Pos}
theorem tB_q {K : PySem.W.Frag} {t : TE} {f : Qm.XE} (ht : ∀ σ H Q, TQ K f σ H Q → t σ H Q) {σ : St} {H : Hp} {Q : Bool → Hp → Prop} (h : BQ K (Qm.tV f) σ H Q) : t σ H fun x H1 => ∃ k, x = .bl k ∧ Q k H1 := by
  obtain ⟨ρ, env, c, d, c', rs, re, e, k⟩ := h
  obtain ⟨p, e1, e⟩ := bnd e
  obtain ⟨i, e2, e⟩ := bnd e
  cases e
  refine ht σ H _ ⟨ρ, env, c, p.1, p.2, rs, re, e1, fun ρ1 v H1 n1 r1 => ?_⟩
  rw [asB_of e2] at r1
  cases r1.bl'
  exact ⟨_, rfl, k ρ1 H1 n1⟩
theorem qt_val (h : QE X e fe) (he : ∀ whole, isTrue e X.env whole = (do let v ← whole; standAt e.pos; holding [v] (truthy v)) := by intro _; rfl) : QT X e (Qm.tV fe) := (pt_val h he).imp fun _ _ _ q => tB_q (fun _ _ _ z => z) q
theorem qt_cmp {op : CmpOp} {r : R2} {g : Qm.G2} (ho : OpR X (compareOp op) r) (hl : Lk2 X.K r g) (ha : QE X a fa) (hb : QE X b fb) (hm : behindInMarks op b = false) : QT X (.Compare a [op] [b] pos) (Qm.tV (Qm.e2 g fa fb)) := (pt_cmpR ho ha hb hm).imp fun _ _ _ q => tB_q (fun _ _ _ z => tOp_q hl z) q
theorem qw_and1 (ha : QT X a ft) : QW X (.BoolOp .And [a] pos) ft := pw_and1 ha
theorem qw_or1 (ha : QT X a ft) : QW X (.BoolOp .Or [a] pos) ft := pw_or1 ha
theorem qw_and {rest : List Expr} (ha : QT X a ft) (hb : QW X (.BoolOp .And (b :: rest) pos) fu) : QW X (.BoolOp .And (a :: b :: rest) pos) (Qm.tAnd ft fu) := (pw_and ha hb).imp fun σ H Q ⟨ρ, env, c, d, c', rs, re, e, k⟩ => by
  obtain ⟨p, e1, e⟩ := bnd e
  refine ⟨ρ, env, c, p.1, p.2, rs, re, e1, fun ρ1 H1 n1 => ?_⟩
  split at e
  · rename_i hi
    rw [if_pos hi]
    exact ⟨ρ1, env, p.2, d, c', n1.rs, re.up n1.up, e, fun ρ' H' n => k ρ' H' (n1.trans n)⟩
  · rename_i hi
    rw [if_neg hi]
    cases e
    exact k ρ1 H1 n1
theorem qw_or {rest : List Expr} (ha : QT X a ft) (hb : QW X (.BoolOp .Or (b :: rest) pos) fu) : QW X (.BoolOp .Or (a :: b :: rest) pos) (Qm.tOr ft fu) := (pw_or ha hb).imp fun σ H Q ⟨ρ, env, c, d, c', rs, re, e, k⟩ => by
  obtain ⟨p, e1, e⟩ := bnd e
  refine ⟨ρ, env, c, p.1, p.2, rs, re, e1, fun ρ1 H1 n1 => ?_⟩
  split at e
  · rename_i hi
    rw [if_pos hi]
    cases e
    exact k ρ1 H1 n1
  · rename_i hi
    rw [if_neg hi]
    exact ⟨ρ1, env, p.2, d, c', n1.rs, re.up n1.up, e, fun ρ' H' n => k ρ' H' (n1.trans n)⟩
theorem qo_none : QO X none Qm.oNone := po_none.imp fun σ H Q ⟨ρ, env, c, d, c', rs, re, e, k⟩ => by
  cases e
  exact k ρ H (Nx.refl rs)
theorem qo_some (h : QE X e fe) : QO X (some e) (Qm.oSome fe) := (po_some h).imp fun σ H Q ⟨ρ, env, c, d, c', rs, re, e, k⟩ => by
  obtain ⟨p, e1, e⟩ := bnd e
  refine ⟨ρ, env, c, p.1, p.2, rs, re, e1, fun ρ1 v H1 n1 r1 => ?_⟩
  split at e
  · rename_i i hi
    cases e
    rw [hi] at r1
    cases r1.int'
    exact ⟨_, rfl, k ρ1 H1 n1⟩
  · cases e
theorem cut_link {K : PySem.W.Frag} {ρ : Nat → Addr} {N : Nat} {H : Hp} {ds : List Qm.D} {vs : List V} (a : RA K ρ N H ds vs) (lo hi : Option Int) : RA K ρ N H (Qm.cutD ds lo hi) (cutV vs lo hi) := by
  have e : ∀ n d o, Qm.sxD n d o = HT.sIx n d o := fun n d o => by cases o <;> rfl
  unfold Qm.cutD cutV
  rw [e, e, a.length]
  exact (a.drop _).take _
end
section
variable {prog : Program} {w : World} {A : Around} {E : Value → Shared → Prop} {s : Shared}
theorem getItem_tuple_whole {t sl : Addr} {items : Array Value} {vl vu : Value} {lo hi : Option Int} {Q : Value → Shared → Prop} (ht : IsTup s.heap t items) (hs : s.heap.IsSliceOf sl vl vu .none) (pl : IsPart vl lo) (pu : IsPart vu hi)
    (hw : HT.sIx items.size 0 lo = 0 ∧ HT.sIx items.size items.size hi = items.size) (h : Q (.ref t) s) : wpAny (model prog w) A (getItem (.ref t) (.ref sl)) Q E s := by
  obtain ⟨os, hos, hcs, hds⟩ := id hs
  have hTs : s.TypeIs (.ref sl) "slice" := ⟨os, hos, hcs⟩
  unfold getItem
  try with_reducible refine wpAny_holding ?_
  first | refine wpAny_bind (wpAny_pure ?_) | skip
  refine wpAny_bind (wpAny_sequenceKey ht.typeIs (by decide) ?_)
  refine wpAny_bind (wpAny_callSpecial?_slot (name := Str.ofString "__getitem__") ht.typeIs PyProof.Rows.slot_tuple_getitem
    (wpAny_call_entry PyProof.Rows.slot_tuple_getitem ht.typeIs entry_tuple_getitem ?_ (args_tuple_getitem _ _)))
  show wpAny _ _ (Builtin.Tuple.tupleItemsOf (.ref t) >>= _) _ _ s
  refine wpAny_bind (tupleItemsOf_ ht ?_)
  refine wpAny_bind (wpAny_typeOf hTs ?_)
  rw [if_pos (by decide)]
  refine wpAny_bind (HT.sliceApplied_gen hs pl pu ?_)
  have hyes : (((HT.sIx items.size 0 lo : Nat) : Int) == 0 && (1 : Int) == 1 && (HT.sIx items.size items.size hi - HT.sIx items.size 0 lo) == items.size) = true := by
    rw [hw.1, hw.2]; simp
  show wpAny _ _ (if (((HT.sIx items.size 0 lo : Nat) : Int) == 0 && (1 : Int) == 1 && (HT.sIx items.size items.size hi - HT.sIx items.size 0 lo) == items.size) = true then _ else _) _ _ s
  rw [if_pos hyes]
  unfold Builtin.Tuple.tupleIsExact
  refine wpAny_bind (wpAny_bind (wpAny_typeOf ht.typeIs (wpAny_pure ?_)))
  rw [if_pos (by decide)]
  refine wpAny_bind (wpAny_rule ?_)
  exact wpAny_pure ⟨_, rfl, wpAny_pure h⟩
end
section
variable {X : Cx} {a b e : Expr} {es : List Expr} {fa fb fc fe : Qm.XE} {ft fu : Qm.XT} {pos p2 : Pos} {lo hi : Option Expr} {fl fh : Qm.XO}
def rSlTW (K : PySem.W.Frag) : V → Option Int → Option Int → Hp → VK → Prop := fun x lo hi H Q => ∃ a xs, x = .ref a ∧ SqT K H a xs ∧ (HT.sIx xs.length 0 lo = 0 ∧ HT.sIx xs.length xs.length hi = xs.length) ∧ Q (.ref a) H
theorem sl_tupW : SlR X (rSlTW X.K) := by
  intro pins s σ H x v vl vu lo hi sl Q I rx hs pl pu h
  obtain ⟨a, xs, rfl, hx, hw, q⟩ := h
  cases rx
  obtain ⟨its, r, ht, hz⟩ := I.tuple hx
  have hlen : its.toArray.size = xs.length := by rw [List.size_toArray]; exact r.length.symm
  refine ⟨"tuple", _, PyProof.Rows.slot_tuple_getitem.lookup, ht.typeIs, ?_⟩
  exact getItem_tuple_whole ht hs pl pu (by rw [hlen]; exact hw) ⟨.ref a, H, I, rfl, q⟩
def rCut (K : PySem.W.Frag) : V → Option Int → Option Int → Hp → VK → Prop := fun x lo hi H Q => rSlT K x lo hi H Q ∨ (rSlTW K x lo hi H Q ∨ rSlL K x lo hi H Q)
theorem sl_cut : SlR X (rCut X.K) := sl_tup.or (sl_tupW.or sl_list)
theorem lk_cut {K : PySem.W.Frag} {ρ : Nat → Addr} {c c' : Qm.Cells} {H : Hp} {x d : Qm.D} {v : V} {lo hi : Option Int} {Q : VK} (rs : RS K ρ c H) (rx : RD K ρ c.length H x v) (e : Qm.gCut x lo hi c = some (d, c')) (k : ∀ ρ' w H', Nx K ρ c H ρ' c' H' → RD K ρ' c'.length H' d w → Q w H') : rCut K v lo hi H Q := by
  unfold Qm.gCut at e
  split at e
  · rename_i xs
    cases e
    obtain ⟨p, vs, rfl, h1, a1⟩ := rx.tup'
    by_cases hw : HT.sIx vs.length 0 lo = 0 ∧ HT.sIx vs.length vs.length hi = vs.length
    · refine .inr (.inl ⟨p, vs, rfl, SqT.of h1, hw, ?_⟩)
      have : cutV vs lo hi = vs := by
        unfold cutV
        rw [hw.1, hw.2]; simp
      have a2 := cut_link a1 lo hi
      rw [this] at a2
      exact k ρ _ H (Nx.refl rs) (.tup h1 a2)
    · refine .inl ⟨p, vs, rfl, SqT.of h1, hw, fun l hl => ?_⟩
      have n := Nx.same rs (same_new (z := .tup (cutV vs lo hi)) hl)
      exact k ρ _ _ n (.tup upd_same ((cut_link a1 lo hi).up n.up))
  · rename_i x' hne
    obtain ⟨xs, e1, e⟩ := bnd e
    cases e
    rcases seqOf_cases e1 with z | ⟨n, z⟩
    · exact absurd z (hne xs)
    · subst z
      obtain ⟨vs, rfl, h, a⟩ := rs.seqR rx e1
      refine .inr (.inr ⟨_, vs, rfl, h, fun l hl => ?_⟩)
      obtain ⟨n, r⟩ := Nx.alloc rs hl (cut_link a lo hi)
      exact k _ _ _ n r
theorem qe_slice (he : QE X e fe) (hl : QO X lo fl) (hu : QO X hi fh) : QE X (.Subscript e (.Slice lo hi none p2) pos) (Qm.eSl Qm.gCut fe fl fh) := (pe_slice sl_cut he hl hu).imp fun σ H Q ⟨ρ, env, c, d, c', rs, re, e, k⟩ => by
  obtain ⟨p, e1, e⟩ := bnd e
  obtain ⟨l, e2, e⟩ := bnd e
  obtain ⟨h, e3, e⟩ := bnd e
  exact ⟨ρ, env, c, p.1, p.2, rs, re, e1, fun ρ1 v H1 n1 r1 => ⟨ρ1, env, p.2, l.1, l.2, n1.rs, re.up n1.up, e2, fun ρ2 H2 n2 => ⟨ρ2, env, l.2, h.1, h.2, n2.rs, re.up (n1.trans n2).up, e3, fun ρ3 H3 n3 =>
    lk_cut n3.rs ((r1.up n2.up).up n3.up) e fun ρ' w H' n r => k ρ' w H' (n1.trans (n2.trans (n3.trans n))) r⟩⟩⟩
def LkM (K : PySem.W.Frag) (r : V → List V → Hp → VK → Prop) (g : Qm.D → Qm.FN) : Prop := ∀ ρ c H x ds d c' v vs Q, RS K ρ c H → RD K ρ c.length H x v → RA K ρ c.length H ds vs → g x ds c = some (d, c') → (∀ ρ' w H', Nx K ρ c H ρ' c' H' → RD K ρ' c'.length H' d w → Q w H') → r v vs H Q
theorem tyL {K : PySem.W.Frag} {ρ : Nat → Addr} {c : Qm.Cells} {H : Hp} {x : Qm.D} {v : V} {z : Nat × List Qm.D} (rs : RS K ρ c H) (rx : RD K ρ c.length H x v) (e : Qm.lstOf x c = some z) : tyV K "list" v H := by
  obtain ⟨_, _, vs, rfl, h, _⟩ := rs.lstOf rx e
  exact .inl ⟨rfl, _, SqL.of h⟩
theorem qe_m {name : Str} {id : String} {r : V → List V → Hp → VK → Prop} {g : Qm.D → Qm.FN} {o : Expr} {fo : Qm.XE} {f : Qm.XA} {apos cpos : Pos} (slot : Slot "list" name id) (hty : typeOf (.builtin id) = pure (.type "method_descriptor")) (hm : MtM X id r) (hl : LkM X.K r g) (ho : QE X o fo) (ha : QA X (e :: es) f)
    (hbase : attributeBase o name X.env (eval o X.env) = eval o X.env := by rfl)
    (hfew : ((backTo cpos (starEach (e :: es) X.env)).all (fun x => !x.1) && (backToKw cpos (keywordEach [] X.env)).all (fun x => x.1.isSome)
      && decide ((e :: es).length + ([] : List Keyword).length + (if ([] : List Keyword).isEmpty then 0 else 1) < 30)) = true := by rfl)
    (hline : (apos.endLine == cpos.line) = true := by rfl) (hs : starEach (e :: es) X.env = (false, eval e X.env) :: starEach es X.env := by rfl) (hplain : (backTo cpos (starEach es X.env)).any (·.1) = false := by rfl) :
    QE X (.Call (.Attribute o name apos) (e :: es) [] cpos) (Qm.eM g fo f) := (pe_bm PySem.F.plainAttrs_list slot hty hm ho ha hbase hfew hline hs hplain).imp fun σ H Q ⟨ρ, env, c, d, c', rs, re, e, k⟩ => by
  obtain ⟨p, e1, e⟩ := bnd e
  obtain ⟨z, e2, e⟩ := bnd e
  obtain ⟨q, e3, e⟩ := bnd e
  exact ⟨ρ, env, c, p.1, p.2, rs, re, e1, fun ρ1 v H1 n1 r1 => ⟨tyL n1.rs r1 e2, ρ1, env, p.2, q.1, q.2, n1.rs, re.up n1.up, e3, fun ρ2 vs H2 n2 r2 =>
    hl ρ2 q.2 H2 p.1 q.1 d c' v vs Q n2.rs (r1.up n2.up) r2 e fun ρ' w H' n r => k ρ' w H' (n1.trans (n2.trans n)) r⟩⟩
theorem lk_append {K : PySem.W.Frag} : LkM K rAppend Qm.mAppend := by
  intro ρ c H x ds d c' v vs Q rs rx ra e k
  unfold Qm.mAppend Qm.one at e
  split at e
  · rename_i y
    obtain ⟨l, e1, e⟩ := bnd e
    obtain ⟨u, rfl, ry⟩ := ra.one'
    split at e
    · rename_i hz
      cases e
      obtain ⟨_, hn, ws, rfl, h, a⟩ := rs.lstOf rx e1
      have n := Nx.put rs hn (a.append (RA.one ry))
      exact ⟨_, ws, u, rfl, rfl, h, line_lt (by rw [← a.length]; exact hz), k ρ _ _ n .non⟩
    · cases e
  · cases e
theorem one_of {g : Qm.G1} {ds : List Qm.D} {c : Qm.Cells} {z} (h : Qm.one g ds c = some z) : ∃ x, ds = [x] ∧ g x c = some z := by
  unfold Qm.one at h
  split at h
  · exact ⟨_, rfl, h⟩
  · cases h
theorem two_of {g : Qm.G2} {ds : List Qm.D} {c : Qm.Cells} {z} (h : Qm.two g ds c = some z) : ∃ x y, ds = [x, y] ∧ g x y c = some z := by
  unfold Qm.two at h
  split at h
  · exact ⟨_, _, rfl, h⟩
  · cases h
theorem lk_abs {K : PySem.W.Frag} : LkF K (fun xs H Q => ∃ i, xs = [.int i] ∧ Q (.int (if i < 0 then -i else i)) H) Qm.bAbs := by
  intro ρ c H ds d c' vs Q rs ra e k
  obtain ⟨x, rfl, e⟩ := one_of e
  obtain ⟨v, rfl, rx⟩ := ra.one'
  obtain ⟨i, e1, e⟩ := bnd e
  cases e
  cases asI_of e1
  cases rx.int'
  exact ⟨i, rfl, k ρ _ H (Nx.refl rs) (.int _)⟩
theorem lk_len {K : PySem.W.Frag} : LkF K (fun xs H Q => ∃ p ys, xs = [.ref p] ∧ (SqL K H p ys ∨ SqT K H p ys) ∧ Q (.int ys.length) H) Qm.bLen := by
  intro ρ c H ds d c' vs Q rs ra e k
  obtain ⟨x, rfl, e⟩ := one_of e
  obtain ⟨v, rfl, rx⟩ := ra.one'
  obtain ⟨xs, e1, e⟩ := bnd e
  cases e
  obtain ⟨p, ws, rfl, h, a⟩ := rs.seq rx e1
  exact ⟨p, ws, rfl, h.imp id SqT.of, k ρ _ H (Nx.refl rs) (by rw [a.length]; exact .int _)⟩
theorem lk_intB {K : PySem.W.Frag} : LkF K (fun xs H Q => (∃ i, xs = [.int i] ∧ Q (.int i) H) ∨ ∃ k, xs = [.bl k] ∧ Q (.int (if k then 1 else 0)) H) Qm.bInt := by
  intro ρ c H ds d c' vs Q rs ra e k
  obtain ⟨x, rfl, e'⟩ := one_of e
  obtain ⟨v, rfl, rx⟩ := ra.one'
  split at e'
  · cases e'
    cases rx.int'
    exact .inl ⟨_, rfl, k ρ _ H (Nx.refl rs) (.int _)⟩
  · cases e'
    cases rx.bl'
    exact .inr ⟨_, rfl, k ρ _ H (Nx.refl rs) (.int _)⟩
  · cases e'
theorem ii_of {f : Int → Int → Option Qm.D} {x y d : Qm.D} {c c' : Qm.Cells} (h : Qm.ii f x y c = some (d, c')) : ∃ i j, x = .int i ∧ y = .int j ∧ f i j = some d ∧ c' = c := by
  obtain ⟨i, e1, e⟩ := bnd h
  obtain ⟨j, e2, e⟩ := bnd e
  obtain ⟨z, e3, e⟩ := bnd e
  cases e
  exact ⟨i, j, asI_of e1, asI_of e2, e3, rfl⟩
theorem lk_max2 {K : PySem.W.Frag} : LkF K (fun xs H Q => ∃ i j, xs = [.int i, .int j] ∧ Q (.int (if j > i then j else i)) H) Qm.bMax2 := by
  intro ρ c H ds d c' vs Q rs ra e k
  obtain ⟨x, y, rfl, e⟩ := two_of e
  obtain ⟨v, u, rfl, rx, ry⟩ := ra.two'
  obtain ⟨i, j, rfl, rfl, e, rfl⟩ := ii_of e
  cases e
  cases rx.int'; cases ry.int'
  exact ⟨i, j, rfl, k ρ _ H (Nx.refl rs) (.int _)⟩
theorem lk_min2 {K : PySem.W.Frag} : LkF K (fun xs H Q => ∃ i j, xs = [.int i, .int j] ∧ Q (.int (if j < i then j else i)) H) Qm.bMin2 := by
  intro ρ c H ds d c' vs Q rs ra e k
  obtain ⟨x, y, rfl, e⟩ := two_of e
  obtain ⟨v, u, rfl, rx, ry⟩ := ra.two'
  obtain ⟨i, j, rfl, rfl, e, rfl⟩ := ii_of e
  cases e
  cases rx.int'; cases ry.int'
  exact ⟨i, j, rfl, k ρ _ H (Nx.refl rs) (.int _)⟩
theorem lk_list {K : PySem.W.Frag} : LkF K (fun xs H Q => ∃ p ys, xs = [.ref p] ∧ (SqL K H p ys ∨ SqT K H p ys) ∧ ∀ l, H l = none → Q (.ref l) (upd H l (.lst ys))) Qm.bList := by
  intro ρ c H ds d c' vs Q rs ra e k
  obtain ⟨x, rfl, e⟩ := one_of e
  obtain ⟨v, rfl, rx⟩ := ra.one'
  obtain ⟨xs, e1, e⟩ := bnd e
  cases e
  obtain ⟨p, ws, rfl, h, a⟩ := rs.seq rx e1
  refine ⟨p, ws, rfl, h.imp id SqT.of, fun l hl => ?_⟩
  obtain ⟨n, r⟩ := Nx.alloc rs hl a
  exact k _ _ _ n r
end
end L2
namespace L2
open PySem PySem.Spec PyProof.Rows
section
variable {X : Cx} {a b e tg : Expr} {es : List Expr} {fa fb fc fe : Qm.XE} {ft fu : Qm.XT} {pos : Pos} {st : Stmt} {rest : List Stmt} {fs fr : Qm.XS} {fg : Qm.XG}
theorem qss_nil : QSs X [] Qm.sNil := pss_nil.imp fun D σ H ⟨ρ, env, c, fl, env', c', rs, re, e, k⟩ => by
  cases e
  exact k ρ H (Nx.refl rs) σ re
theorem qss_cons (h1 : QS X st fs) (h2 : QSs X rest fr) : QSs X (st :: rest) (Qm.sSeq fs fr) := (pss_cons h1 h2).imp fun D σ H ⟨ρ, env, c, fl, env', c', rs, re, e, k⟩ => by
  obtain ⟨p, e1, e⟩ := bnd e
  obtain ⟨f, e2, c2⟩ := p
  cases f with
  | nx => exact ⟨ρ, env, c, .nx, e2, c2, rs, re, e1, fun ρ1 H1 n1 σ1 re1 => ⟨ρ1, e2, c2, fl, env', c', n1.rs, re1, e, fun ρ' H' n => k ρ' H' (n1.trans n)⟩⟩
  | rt d => cases e; exact ⟨ρ, env, c, .rt d, env', c', rs, re, e1, fun ρ1 H1 n1 => k ρ1 H1 n1⟩
  | bk => cases e; exact ⟨ρ, env, c, .bk, env', c', rs, re, e1, fun ρ1 H1 n1 => k ρ1 H1 n1⟩
  | ct => cases e; exact ⟨ρ, env, c, .ct, env', c', rs, re, e1, fun ρ1 H1 n1 => k ρ1 H1 n1⟩
theorem qss_one (h1 : QS X st fs) : QSs X [st] fs := pss_one h1
theorem qs_expr (he : QE X e fe) (hs : swapsWith e none pos.line X.env = pure false := by rfl) : QS X (.Expr e pos) (Qm.sExpr fe) := (ps_expr he hs).imp fun D σ H ⟨ρ, env, c, fl, env', c', rs, re, e, k⟩ => by
  obtain ⟨p, e1, e⟩ := bnd e
  cases e
  exact ⟨ρ, env, c, p.1, p.2, rs, re, e1, fun ρ1 v H1 n1 _ => k ρ1 H1 n1 σ (re.up n1.up)⟩
theorem qs_ret (he : QE X e fe) : QS X (.Return (some e) pos) (Qm.sRet fe) := (ps_ret he).imp fun D σ H ⟨ρ, env, c, fl, env', c', rs, re, e, k⟩ => by
  obtain ⟨p, e1, e⟩ := bnd e
  cases e
  exact ⟨ρ, env, c, p.1, p.2, rs, re, e1, fun ρ1 v H1 n1 r1 => k ρ1 H1 n1 v r1⟩
theorem qs_if {c0 : Expr} {x y : List Stmt} (hc : QT X c0 ft) (ha : QSs X x fs) (hb : QSs X y fr) : QS X (.If c0 x y pos) (Qm.sIf ft fs fr) := (ps_if hc ha hb).imp fun D σ H ⟨ρ, env, c, fl, env', c', rs, re, e, k⟩ => by
  obtain ⟨p, e1, e⟩ := bnd e
  refine ⟨ρ, env, c, p.1, p.2, rs, re, e1, fun ρ1 H1 n1 => ?_⟩
  split at e
  · rename_i hi
    rw [if_pos hi]
    exact ⟨ρ1, env, p.2, fl, env', c', n1.rs, re.up n1.up, e, fun ρ' H' n => k ρ' H' (n1.trans n)⟩
  · rename_i hi
    rw [if_neg hi]
    exact ⟨ρ1, env, p.2, fl, env', c', n1.rs, re.up n1.up, e, fun ρ' H' n => k ρ' H' (n1.trans n)⟩
theorem qs_set {i : Nat} {x : Str} {pos' : Pos} (hN : X.N.Nodup) (hi : X.N[i]? = some x) (hx : Loc X.env.scope x) (he : QE X e fe) (hs : swapsWith e (some (.Name x pos')) pos.line X.env = pure false := by rfl) (hf : X.fn x = true ∨ X.env.scope.names.lookup x = some .local := by first | exact .inl rfl | exact .inr rfl | assumption) :
    QS X (.Assign [.Name x pos'] e pos) (Qm.sSet i fe) := (ps_set hN hi hx he hs hf).imp fun D σ H ⟨ρ, env, c, fl, env', c', rs, re, e, k⟩ => by
  obtain ⟨p, e1, e⟩ := bnd e
  cases e
  exact ⟨ρ, env, c, p.1, p.2, rs, re, e1, fun ρ1 v H1 n1 r1 => k ρ1 H1 n1 _ ((re.up n1.up).set r1)⟩
theorem qs_asg (he : QE X e fe) (hg : QG X tg fg) (hs : swapsWithSole [tg] e pos.line X.env = pure false := by rfl) (hw : swappedStores [tg] e X.env = pure none := by rfl)
    (h1 : (assignEach [tg] X.env).map (·.2) = [assign tg X.env] := by rfl) : QS X (.Assign [tg] e pos) (Qm.sAsg fe fg) := (ps_asg he hg hs hw h1).imp fun D σ H ⟨ρ, env, c, fl, env', c', rs, re, e, k⟩ => by
  obtain ⟨p, e1, e⟩ := bnd e
  obtain ⟨q, e2, e⟩ := bnd e
  cases e
  exact ⟨ρ, env, c, p.1, p.2, rs, re, e1, fun ρ1 v H1 n1 r1 => ⟨ρ1, env, p.2, p.1, q.1, q.2, n1.rs, re.up n1.up, r1, e2, fun ρ' H' σ' n re' => k ρ' H' (n1.trans n) σ' re'⟩⟩
theorem qs_par2 {i j : Nat} {x y : Str} {f : Qm.XA} {px py pt : Pos} {kt k2 pt2} (hc : X.calm = true) (hN : X.N.Nodup) (hi : X.N[i]? = some x) (hj : X.N[j]? = some y) (hij : i ≠ j)
    (hx : X.env.scope.names.lookup x = some .local) (hy : X.env.scope.names.lookup y = some .local) (ha : QA X [a, b] f)
    (hw : swappedStores [.Tuple [.Name x px, .Name y py] kt pt] (.Tuple [a, b] k2 pt2) X.env = pure (some [x, y]))
    (hs : swapsWithSole [.Tuple [.Name x px, .Name y py] kt pt] (.Tuple [a, b] k2 pt2) pos.line X.env = pure false := by rfl) :
    QS X (.Assign [.Tuple [.Name x px, .Name y py] kt pt] (.Tuple [a, b] k2 pt2) pos) (Qm.sPar [i, j] f) := (ps_par hc hN hi hj hij hx hy ha hw hs).imp fun D σ H ⟨ρ, env, c, fl, env', c', rs, re, e, k⟩ => by
  obtain ⟨p, e1, e⟩ := bnd e
  split at e
  · rename_i hl
    cases e
    refine ⟨ρ, env, c, p.1, p.2, rs, re, e1, fun ρ1 vs H1 n1 r1 => ?_⟩
    obtain ⟨ds, c2⟩ := p
    match ds, hl, r1 with
    | [d1, d2], _, r1 =>
      obtain ⟨v, u, rfl, ra, rb⟩ := r1.two'
      exact ⟨v, u, rfl, k ρ1 H1 n1 _ (((re.up n1.up).set ra).set rb)⟩
  · cases e
theorem qg_name {i : Nat} {x : Str} (hN : X.N.Nodup) (hi : X.N[i]? = some x) (hx : Loc X.env.scope x) (hf : X.fn x = true ∨ X.env.scope.names.lookup x = some .local := by first | exact .inl rfl | exact .inr rfl | assumption) : QG X (.Name x pos) (Qm.gName i) := (pg_name hN hi hx hf).imp fun v σ H Q ⟨ρ, env, c, d, env', c', rs, re, rd, e, k⟩ => by
  cases e
  exact k ρ H _ (Nx.refl rs) (re.set rd)
theorem qgs_nil : QGs X [] Qm.gNil := pgs_nil.imp fun vs σ H Q ⟨ρ, env, c, ds, env', c', rs, re, ra, e, k⟩ => by
  unfold Qm.gNil at e
  split at e
  · cases e
    exact ⟨ra.nil', k ρ H σ (Nx.refl rs) re⟩
  · cases e
theorem qgs_cons {fgs : Qm.XGs} (h1 : QG X e fg) (h2 : QGs X es fgs) (hs : (assignEach (e :: es) X.env).map (·.2) = assign e X.env :: (assignEach es X.env).map (·.2) := by rfl) : QGs X (e :: es) (Qm.gCons fg fgs) := (pgs_cons h1 h2 hs).imp fun vs σ H Q ⟨ρ, env, c, ds, env', c', rs, re, ra, e, k⟩ => by
  unfold Qm.gCons at e
  split at e
  · rename_i d t
    obtain ⟨p, e1, e⟩ := bnd e
    cases ra with
    | cons r1 r2 =>
      exact ⟨_, _, rfl, ρ, env, c, d, p.1, p.2, rs, re, r1, e1, fun ρ1 H1 σ1 n1 re1 => ⟨ρ1, p.1, p.2, t, env', c', n1.rs, re1, r2.up n1.up, e, fun ρ' H' σ' n re' => k ρ' H' σ' (n1.trans n) re'⟩⟩
  · cases e
theorem qg_tup {k0 : Nat} {fgs : Qm.XGs} {n : Nat} (hc : X.calm = true) (h : QGs X es fgs) (hn : (assignEach es X.env).length = n := by rfl) (hst : (assignEach es X.env).findIdx? (·.1) = none := by rfl) : QG X (.Tuple es k0 pos) (Qm.gTup n fgs) := (pg_tup hc h hn hst).imp fun v σ H Q ⟨ρ, env, c, d, env', c', rs, re, rd, e, k⟩ => by
  unfold Qm.gTup at e
  split at e
  · rename_i xs
    split at e
    · rename_i hl
      obtain ⟨p, vs, rfl, h1, a1⟩ := rd.tup'
      exact ⟨p, vs, rfl, SqT.of h1, by rw [← a1.length]; exact hl, ρ, env, c, xs, env', c', rs, re, a1, e, k⟩
    · cases e
  · cases e
theorem qg_put {o i : Expr} {fo fi : Qm.XE} (ho : QE X o fo) (hi : QE X i fi)
    (ha : ∀ v, assign (.Subscript o i pos) X.env v = (do
      let ov ← holding [v] (eval o X.env)
      let iv ← holding [v, ov] (eval i X.env)
      standAt pos
      holding [v, ov, iv] (setItem ov iv v)
      release [v, ov, iv] []) := by intro _; rfl) : QG X (.Subscript o i pos) (Qm.gPut fo fi) := (pg_sub ho hi set_list ha).imp fun v σ H Q ⟨ρ, env, c, d, env', c', rs, re, rd, e, k⟩ => by
  obtain ⟨p, e1, e⟩ := bnd e
  obtain ⟨q, e2, e⟩ := bnd e
  obtain ⟨l, e3, e⟩ := bnd e
  obtain ⟨m, e4, e⟩ := bnd e
  obtain ⟨j, e5, e⟩ := bnd e
  cases e
  refine ⟨ρ, env, c, p.1, p.2, rs, re, e1, fun ρ1 v1 H1 n1 r1 => ⟨ρ1, env, p.2, q.1, q.2, n1.rs, re.up n1.up, e2, fun ρ2 v2 H2 n2 r2 => ?_⟩⟩
  rw [asI_of e4] at r2
  cases r2.int'
  obtain ⟨_, hn, ws, rfl, h, a⟩ := n2.rs.lstOf (r1.up n2.up) e3
  have n := Nx.put n2.rs hn (RA.set (rd.up (n1.trans n2).up) j a)
  refine ⟨_, ws, m, j, rfl, rfl, h, by rw [← a.length]; exact e5, ?_⟩
  exact k ρ2 _ σ (n1.trans (n2.trans n)) (re.up (n1.trans (n2.trans n)).up)
theorem qi_tup (h : QE X e fe) : QI X tg e (Qm.iTup fe) := (pi_tup h).imp fun σ H R ⟨ρ, env, c, m, c', rs, re, e, k⟩ => by
  obtain ⟨p, e1, e⟩ := bnd e
  refine ⟨ρ, env, c, p.1, p.2, rs, re, e1, fun ρ1 v H1 n1 r1 => ?_⟩
  split at e
  · rename_i xs hx
    cases e
    rw [hx] at r1
    obtain ⟨q, vs, rfl, h1, a1⟩ := r1.tup'
    refine ⟨q, rfl, ⟨vs, SqT.of h1⟩, k ρ1 _ H1 n1 fun ρ2 c2 H2 u2 rs2 _ => ?_⟩
    have h2 := u2.ts _ _ h1
    have a2 := a1.up u2
    refine ⟨fun i hi => ⟨vs, vs[i]'(by rw [← a1.length]; exact hi), SqT.of h2, List.getElem?_eq_getElem _⟩, ⟨vs, SqT.of h2, by rw [a1.length]; exact Nat.le_refl _⟩, fun i d x H' hd hy => ?_⟩
    obtain ⟨rfl, hy⟩ := hy
    obtain ⟨v, hv, rv⟩ := a2.get hd
    have := hy vs (SqT.of h2)
    rw [hv] at this; cases this
    exact ⟨Nx.refl rs2, rv⟩
  · cases e
theorem seqL_of_stay {K : PySem.W.Frag} {ρ : Nat → Addr} {c : Qm.Cells} {H : Hp} (rs : RS K ρ c H) {n : Nat} {z : Qm.Cell} {c0 : Qm.Cells} {xs : List Qm.D} (h0 : c0[n]? = some z) (h1 : Qm.seqOf (.ref n) c0 = some xs) (h : c[n]? = some z) : ∃ vs, SqL K H (ρ n) vs ∧ RA K ρ c.length H xs vs := by
  have hn : n < c.length := (List.getElem?_eq_some_iff.mp h).1
  have e : Qm.seqOf (.ref n) c = some xs := by
    unfold Qm.seqOf at h1 ⊢
    dsimp only at h1 ⊢
    rw [h0] at h1; rw [h]; exact h1
  obtain ⟨vs, _, h2, h3⟩ := rs.seqR (.ref hn) e
  exact ⟨vs, h2, h3⟩
theorem qi_list (h : QE X e fe) : QI X tg e (Qm.iLst fe) := (pi_list h).imp fun σ H R ⟨ρ, env, c, m, c', rs, re, e, k⟩ => by
  obtain ⟨p, e1, e⟩ := bnd e
  refine ⟨ρ, env, c, p.1, p.2, rs, re, e1, fun ρ1 v H1 n1 r1 => ?_⟩
  split at e
  · rename_i n hx
    obtain ⟨z, e2, e⟩ := bnd e
    obtain ⟨xs, e3, e⟩ := bnd e
    cases e
    rw [hx] at r1
    obtain ⟨hv, hn⟩ := r1.ref'
    subst hv
    obtain ⟨vs, h1, a1⟩ := seqL_of_stay n1.rs e2 e3 e2
    refine ⟨_, rfl, ⟨vs, h1⟩, k ρ1 _ H1 n1 fun ρ2 c2 H2 u2 rs2 st2 => ?_⟩
    obtain ⟨ws, h2, a2⟩ := seqL_of_stay rs2 e2 e3 (st2 (n, z) (by simp))
    rw [u2.agree n hn] at h2
    refine ⟨fun i hi => ⟨ws, ws[i]'(by rw [← a2.length]; exact hi), h2, List.getElem?_eq_getElem _⟩, ⟨ws, h2, by rw [a2.length]; exact Nat.le_refl _⟩, fun i d x H' hd hy => ?_⟩
    obtain ⟨rfl, hy⟩ := hy
    obtain ⟨v, hv, rv⟩ := a2.get hd
    have := hy ws h2
    rw [hv] at this; cases this
    exact ⟨Nx.refl rs2, rv⟩
  · cases e
theorem rng_get {lo : Int} {n i : Nat} {d : Qm.D} (h : (Qm.rng lo n)[i]? = some d) : i < n ∧ d = .int (lo + i) := by
  unfold Qm.rng at h
  rw [List.getElem?_map] at h
  by_cases hi : i < n
  · rw [List.getElem?_range hi] at h
    cases h
    exact ⟨hi, rfl⟩
  · rw [List.getElem?_eq_none_iff.mpr (by simpa using Nat.le_of_not_lt hi)] at h
    cases h
theorem it_rng {K : PySem.W.Frag} {ρ : Nat → Addr} {N : Nat} {H : Hp} {lo : Int} {n : Nat} : ItOk K ρ N H ⟨Qm.rng lo n, []⟩ (Itr lo n) := fun ρ c H u rs _ => by
  have hl : (Qm.rng lo n).length = n := by simp [Qm.rng]
  refine ⟨fun i hi => by show i < n; rw [← hl]; exact hi, by show n ≤ (Qm.rng lo n).length; omega, fun i d x H' hd hy => ?_⟩
  obtain ⟨rfl, rfl⟩ := hy
  obtain ⟨_, rfl⟩ := rng_get hd
  exact ⟨Nx.refl rs, .int _⟩
theorem qi_range1 {f : Qm.XA} {p : Pos} (hg : Gl X "range") (hm : X.mg "range" = none) (ha : QA X [a] f) (hs : starEach [a] X.env = [(false, eval a X.env)] := by rfl) : QI X tg (.Call (.Name "range" p) [a] [] pos) (Qm.iRng1 f) := (pi_range1 hg hm ha hs).imp fun σ H R ⟨ρ, env, c, m, c', rs, re, e, k⟩ => by
  obtain ⟨p, e1, e⟩ := bnd e
  refine ⟨ρ, env, c, p.1, p.2, rs, re, e1, fun ρ1 vs H1 n1 r1 => ?_⟩
  split at e
  · rename_i j hj
    split at e
    · rename_i hb
      cases e
      rw [hj] at r1
      obtain ⟨v, rfl, rv⟩ := r1.one'
      cases rv.int'
      exact ⟨j, rfl, hb.1, hb.2, k ρ1 _ H1 n1 it_rng⟩
    · cases e
  · cases e
theorem qi_range2 {f : Qm.XA} {p : Pos} (hg : Gl X "range") (hm : X.mg "range" = none) (ha : QA X [a, b] f) (hs : starEach [a, b] X.env = [(false, eval a X.env), (false, eval b X.env)] := by rfl) (hs2 : starEach [b] X.env = [(false, eval b X.env)] := by rfl) : QI X tg (.Call (.Name "range" p) [a, b] [] pos) (Qm.iRng2 f) := (pi_range2 hg hm ha hs hs2).imp fun σ H R ⟨ρ, env, c, m, c', rs, re, e, k⟩ => by
  obtain ⟨p, e1, e⟩ := bnd e
  refine ⟨ρ, env, c, p.1, p.2, rs, re, e1, fun ρ1 vs H1 n1 r1 => ?_⟩
  split at e
  · rename_i i j hj
    split at e
    · rename_i hb
      cases e
      rw [hj] at r1
      obtain ⟨v, u, rfl, rv, ru⟩ := r1.two'
      cases rv.int'; cases ru.int'
      exact ⟨i, j, rfl, ⟨hb.1.1, hb.1.2, hb.2.1, hb.2.2⟩, k ρ1 _ H1 n1 it_rng⟩
    · cases e
  · cases e
theorem qs_for {body : List Stmt} {fi : Qm.XI} (hp : PassesOwn (model X.prog X.w) X.A X.env X.xe) (hc : X.calm = true) (hi : QI X tg e fi) (hg : QG X tg fg) (hb : QSs X body fs)
    (hs : ∀ x, foldedSetIterable e X.env x = pure x := by intro _; rfl) : QS X (.For tg e body [] pos) (Qm.sFor fi fg fs) := (ps_for hp hc hi hg hb hs).imp fun D σ H ⟨ρ, env, c, fl, env', c', rs, re, e, k⟩ => by
  obtain ⟨m, e1, e⟩ := bnd e
  refine ⟨ρ, env, c, m.1, m.2, rs, re, e1, fun ρ0 J H0 n0 it => ?_⟩
  refine ⟨fun i q σ' H' => q = m.1.ds.length - i ∧ i ≤ m.1.ds.length ∧ ∃ ρ1 env1 c1, Nx X.K ρ0 m.2 H0 ρ1 c1 H' ∧ RE X.K ρ1 c1.length H' env1 σ' ∧ Qm.forGo m.1.ks fg fs (m.1.ds.drop i) env1 c1 = some (fl, env', c'), ⟨_, rfl, Nat.zero_le _, ρ0, env, m.2, Nx.refl n0.rs, re.up n0.up, e⟩, ?_⟩
  rintro i q σ1 H1 ⟨rfl, hi, ρ1, env1, c1, n1, re1, e1⟩
  by_cases hlt : i < m.1.ds.length
  · rw [List.drop_eq_getElem_cons hlt] at e1
    unfold Qm.forGo at e1
    split at e1
    · rename_i hst
      obtain ⟨go, _, yl⟩ := it ρ1 c1 H1 n1.up n1.rs hst
      obtain ⟨p, e2, e1⟩ := bnd e1
      obtain ⟨q, e3, e1⟩ := bnd e1
      refine .inr ⟨go i hlt, fun σ' H' => i + 1 ≤ m.1.ds.length ∧ ∃ ρ1 env1 c1, Nx X.K ρ0 m.2 H0 ρ1 c1 H' ∧ RE X.K ρ1 c1.length H' env1 σ' ∧ Qm.forGo m.1.ks fg fs (m.1.ds.drop (i + 1)) env1 c1 = some (fl, env', c'), fun σ' H' h => ⟨m.1.ds.length - (i + 1), by omega, rfl, h⟩, fun x H2 hy => ?_⟩
      obtain ⟨n2, r2⟩ := yl i _ x H2 (List.getElem?_eq_getElem hlt) hy
      refine ⟨ρ1, env1, c1, _, p.1, p.2, n2.rs, re1.up n2.up, r2, e2, fun ρ3 H3 σ3 n3 re3 => ?_⟩
      obtain ⟨f, env4, c4⟩ := q
      refine ⟨ρ3, p.1, p.2, f, env4, c4, n3.rs, re3, e3, fun ρ4 H4 n4 => ?_⟩
      have nn := n1.trans (n2.trans (n3.trans n4))
      cases f with
      | nx => exact fun σ4 re4 => ⟨hlt, ρ4, env4, c4, nn, re4, e1⟩
      | ct => exact fun σ4 re4 => ⟨hlt, ρ4, env4, c4, nn, re4, e1⟩
      | bk => cases e1; exact fun σ4 re4 => k ρ4 H4 (n0.trans nn) σ4 re4
      | rt d => cases e1; exact fun v rv => k ρ4 H4 (n0.trans nn) v rv
    · cases e1
  · have hi' : i = m.1.ds.length := by omega
    subst hi'
    rw [List.drop_length] at e1
    unfold Qm.forGo at e1
    split at e1
    · rename_i hst
      obtain ⟨_, stop, _⟩ := it ρ1 c1 H1 n1.up n1.rs hst
      cases e1
      exact .inl ⟨stop, k ρ1 H1 (n0.trans n1) σ1 re1⟩
    · cases e1
theorem qs_while {c0 : Expr} {body : List Stmt} (hp : PassesOwn (model X.prog X.w) X.A X.env X.xe) (hc : QT X c0 ft) (hb : QSs X body fs) : QS X (.While c0 body [] pos) (Qm.sWhile ft fs) := (ps_while hp hc hb).imp fun D σ H ⟨ρ, env, c, fl, env', c', rs, re, e, k⟩ => by
  obtain ⟨n, e⟩ := Qm.of_sWhile e
  refine ⟨fun q σ' H' => ∃ ρ1 env1 c1, Nx X.K ρ c H ρ1 c1 H' ∧ RE X.K ρ1 c1.length H' env1 σ' ∧ Qm.whGo ft fs q env1 c1 = some (fl, env', c'), ⟨n, ρ, env, c, Nx.refl rs, re, e⟩, ?_⟩
  rintro q σ1 H1 ⟨ρ1, env1, c1, n1, re1, e1⟩
  cases q with
  | zero => simp [Qm.whGo] at e1
  | succ q =>
    simp only [Qm.whGo] at e1
    obtain ⟨p, e2, e1⟩ := bnd e1
    refine ⟨ρ1, env1, c1, p.1, p.2, n1.rs, re1, e2, fun ρ2 H2 n2 => ?_⟩
    split at e1
    · rename_i hi
      rw [if_pos hi]
      obtain ⟨r, e3, e1⟩ := bnd e1
      refine ⟨fun σ' H' => ∃ ρ1 env1 c1, Nx X.K ρ c H ρ1 c1 H' ∧ RE X.K ρ1 c1.length H' env1 σ' ∧ Qm.whGo ft fs q env1 c1 = some (fl, env', c'), fun σ' H' h => ⟨q, Nat.lt_succ_self _, h⟩, ?_⟩
      obtain ⟨f, env4, c4⟩ := r
      refine ⟨ρ2, env1, p.2, f, env4, c4, n2.rs, re1.up n2.up, e3, fun ρ4 H4 n4 => ?_⟩
      have nn := n1.trans (n2.trans n4)
      cases f with
      | nx => exact fun σ4 re4 => ⟨ρ4, env4, c4, nn, re4, e1⟩
      | ct => exact fun σ4 re4 => ⟨ρ4, env4, c4, nn, re4, e1⟩
      | bk => cases e1; exact fun σ4 re4 => k ρ4 H4 nn σ4 re4
      | rt d => cases e1; exact fun v rv => k ρ4 H4 nn v rv
    · rename_i hi
      rw [if_neg hi]
      cases e1
      exact k ρ2 H2 (n1.trans n2) σ1 (re1.up n2.up)
theorem qifs_none : QIfs X [] Qm.tYes := ifs_none.imp fun σ H Q ⟨ρ, env, c, b, c', rs, re, e, k⟩ => by
  cases e
  exact k ρ H (Nx.refl rs)
theorem qifs_one {c0 : Expr} (h : QT X c0 ft) : QIfs X [c0] ft := ifs_one h
theorem RE.tau {K : PySem.W.Frag} {ρ : Nat → Addr} {N : Nat} {H : Hp} {env : Qm.Env} {σ : St} (re : RE K ρ N H env σ) (cap : List (Option Nat)) : RE K ρ N H (Qm.capt env cap) (tau σ cap) := by
  refine ⟨by simp [Qm.capt, L2.tau], fun j d h => ?_⟩
  unfold Qm.capt at h
  unfold L2.tau
  rw [List.getElem?_map] at h ⊢
  cases e : cap[j]? with
  | none => rw [e] at h; cases h
  | some o =>
    rw [e] at h
    cases o with
    | none => simp at h
    | some i =>
      simp only [Option.map_some, Option.some.injEq] at h
      cases e2 : env[i]? with
      | none => rw [e2] at h; cases h
      | some w =>
        rw [e2] at h
        have h' : w = some d := h
        subst h'
        obtain ⟨v, h1, h2⟩ := re.at_ i d e2
        refine ⟨v, ?_, h2⟩
        simp [h1]
theorem tComp_q {K : PySem.W.Frag} {fi : Qm.XI} {cap : List (Option Nat)} {σ : St} {H : Hp} {Q : VK} (h : TQ K (Qm.eComp fi cap fg ft fe) σ H Q) : tComp (IQ K fi) cap (GQ K fg) (BQ K ft) (TQ K fe) σ H Q := by
  obtain ⟨ρ, env, c, d, c', rs, re, e, k⟩ := h
  obtain ⟨m, e1, e⟩ := bnd e
  obtain ⟨cz, e2, e⟩ := bnd e
  cases e
  refine ⟨ρ, env, c, m.1, m.2, rs, re, e1, fun ρ0 J H0 n0 it l hl => ?_⟩
  obtain ⟨na, ra⟩ := Nx.alloc n0.rs hl (ds := []) (vs := []) .nil
  generalize hρ : (fun n => if n = m.2.length then l else ρ0 n) = ρa at na ra
  have hL : ρa m.2.length = l := by rw [← hρ]; simp
  have hlen : (m.2 ++ [Qm.Cell.lst []]).length = m.2.length + 1 := by simp
  have fin : ∀ {ρ1 : Nat → Addr} {c1 : Qm.Cells} {H1 : Hp}, Nx K ρa (m.2 ++ [.lst []]) (upd H0 l (.lst [])) ρ1 c1 H1 → ρ1 m.2.length = l := fun n => by rw [n.up.agree _ (by rw [hlen]; omega), hL]
  refine ⟨fun i q τ H' => q = m.1.ds.length - i ∧ i ≤ m.1.ds.length ∧ ∃ ρ1 env1 c1, Nx K ρa (m.2 ++ [.lst []]) (upd H0 l (.lst [])) ρ1 c1 H' ∧ RE K ρ1 c1.length H' env1 τ ∧ Qm.compGo m.2.length m.1.ks fg ft fe (m.1.ds.drop i) env1 c1 = some c',
    ⟨_, rfl, Nat.zero_le _, ρa, _, _, Nx.refl na.rs, ((re.up n0.up).up na.up).tau cap, e2⟩, ?_⟩
  rintro i q τ H1 ⟨rfl, hi, ρ1, env1, c1, n1, re1, e1⟩
  have it1 := it ρ1 c1 H1 (na.up.trans n1.up) n1.rs
  by_cases hlt : i < m.1.ds.length
  · rw [List.drop_eq_getElem_cons hlt] at e1
    unfold Qm.compGo at e1
    split at e1
    · rename_i hst
      obtain ⟨go, _, yl⟩ := it1 hst
      obtain ⟨p, e2, e1⟩ := bnd e1
      obtain ⟨b, e3, e1⟩ := bnd e1
      refine .inr ⟨go i hlt, fun τ H' => i + 1 ≤ m.1.ds.length ∧ ∃ ρ1 env1 c1, Nx K ρa (m.2 ++ [.lst []]) (upd H0 l (.lst [])) ρ1 c1 H' ∧ RE K ρ1 c1.length H' env1 τ ∧ Qm.compGo m.2.length m.1.ks fg ft fe (m.1.ds.drop (i + 1)) env1 c1 = some c', fun σ' H' h => ⟨m.1.ds.length - (i + 1), by omega, rfl, h⟩, fun x H2 hy => ?_⟩
      obtain ⟨n2, r2⟩ := yl i _ x H2 (List.getElem?_eq_getElem hlt) hy
      refine ⟨ρ1, env1, c1, _, p.1, p.2, n2.rs, re1.up n2.up, r2, e2, fun ρ3 H3 σ3 n3 re3 => ?_⟩
      refine ⟨ρ3, p.1, p.2, b.1, b.2, n3.rs, re3, e3, fun ρ4 H4 n4 => ?_⟩
      have nn := n1.trans (n2.trans (n3.trans n4))
      split at e1
      · rename_i hb
        dsimp only
        rw [if_pos hb]
        obtain ⟨y, e4, e1⟩ := bnd e1
        refine ⟨ρ4, p.1, b.2, y.1, y.2, n4.rs, re3.up n4.up, e4, fun ρ5 yv H5 n5 r5 => ?_⟩
        have n15 := nn.trans n5
        split at e1
        · rename_i ys hys
          split at e1
          · rename_i hz
            obtain ⟨vs, h5, a5⟩ := n15.rs.lst hys
            rw [fin n15] at h5
            have n6 := Nx.put n15.rs hys (a5.append (RA.one r5))
            rw [fin n15] at n6
            refine ⟨vs, h5, line_lt (by rw [← a5.length]; exact hz), hlt, ρ5, p.1, _, n15.trans n6, (re3.up (n4.trans (n5.trans n6)).up), e1⟩
          · cases e1
        · cases e1
      · rename_i hb
        dsimp only
        rw [if_neg hb]
        exact ⟨hlt, ρ4, p.1, b.2, nn, re3.up n4.up, e1⟩
    · cases e1
  · have hi' : i = m.1.ds.length := by omega
    subst hi'
    rw [List.drop_length] at e1
    unfold Qm.compGo at e1
    split at e1
    · rename_i hst
      obtain ⟨_, stop, _⟩ := it1 hst
      cases e1
      refine .inl ⟨stop, k ρ1 _ H1 (n0.trans (na.trans n1)) ?_⟩
      rw [← fin n1]
      exact .ref (Nat.lt_of_lt_of_le (by rw [hlen]; omega) n1.up.len)
    · cases e1
theorem qe_comp {tg : Expr} {scope : Scope} {N' : List Str} {cap : List (Option Nat)} {ifs : List Expr} {fi : Qm.XI} (B : BlkOk X scope N' cap) (hc : X.calm = true)
    (hi : QI X tg b fi) (hg : ∀ C s₀ H₀ fp, QG (X.blk scope C N' s₀ H₀ fp) tg fg) (ht : ∀ C s₀ H₀ fp, QIfs (X.blk scope C N' s₀ H₀ fp) ifs ft) (he : ∀ C s₀ H₀ fp, QE (X.blk scope C N' s₀ H₀ fp) e fe)
    (hs : ∀ x, foldedSetIterable b X.env x = pure x := by intro _; rfl) :
    QE X (.ListComp e [⟨tg, b, ifs, 0⟩] scope pos) (Qm.eComp fi cap fg ft fe) := (pe_comp B hc hi hg ht he hs).imp fun _ _ _ h => tComp_q h
theorem qs_comp {i : Nat} {tg : Expr} {y : Str} {py spos : Pos} {scope : Scope} {N' : List Str} {cap : List (Option Nat)} {ifs : List Expr} {fi : Qm.XI} (B : BlkOk X scope N' cap) (hc : X.calm = true)
    (hi : QI X tg b fi) (hg : ∀ C s₀ H₀ fp, QG (X.blk scope C N' s₀ H₀ fp) tg fg) (ht : ∀ C s₀ H₀ fp, QIfs (X.blk scope C N' s₀ H₀ fp) ifs ft) (he : ∀ C s₀ H₀ fp, QE (X.blk scope C N' s₀ H₀ fp) e fe)
    (hN : X.N.Nodup) (hiy : X.N[i]? = some y) (hy : Loc X.env.scope y) (hsw : swapsWith (.ListComp e [⟨tg, b, ifs, 0⟩] scope pos) (some (.Name y py)) spos.line X.env = pure true)
    (hf : X.fn y = true ∨ X.env.scope.names.lookup y = some .local := by first | exact .inl rfl | exact .inr rfl | assumption)
    (hs : ∀ x, foldedSetIterable b X.env x = pure x := by intro _; rfl) :
    QS X (.Assign [.Name y py] (.ListComp e [⟨tg, b, ifs, 0⟩] scope pos) spos) (Qm.sSet i (Qm.eComp fi cap fg ft fe)) := (ps_comp B hc hi hg ht he hN hiy hy hsw hf hs).imp fun D σ H ⟨ρ, env, c, fl, env', c', rs, re, e, k⟩ => by
  obtain ⟨p, e1, e⟩ := bnd e
  cases e
  exact tComp_q ⟨ρ, env, c, p.1, p.2, rs, re, e1, fun ρ1 v H1 n1 r1 => k ρ1 H1 n1 _ ((re.up n1.up).set r1)⟩
theorem fnq_body {K : PySem.W.Frag} {n : Nat} {N : List Str} {B : Qm.XS} {vs : List V} {H : Hp} {Q : VK} {E : XK} (hn : n ≤ N.length) (h : spD K (Qm.mkF n N.length B) vs H Q E) : vs.length = n ∧ SQ K B { nx := fun _ H' => Q .non H', rt := Q } (start N vs) H := by
  obtain ⟨ρ, c, ds, d, c', rs, ra, e, k⟩ := h
  unfold Qm.mkF at e
  split at e
  · rename_i hl
    obtain ⟨p, e1, e⟩ := bnd e
    obtain ⟨f, env', c2⟩ := p
    have hv : vs.length = n := by rw [← ra.length]; exact hl
    refine ⟨hv, ρ, _, c, f, env', c2, rs, ⟨?_, fun i d hd => ?_⟩, e1, fun ρ' H' nx => ?_⟩
    · simp [start, hl, hv]
    · have hi : i < ds.length := by
        by_cases hi : i < ds.length
        · exact hi
        · exfalso
          rw [List.getElem?_append_right (by simp; omega)] at hd
          have := List.mem_of_getElem? hd
          have := List.eq_of_mem_replicate this
          cases this
      rw [List.getElem?_append_left (by simpa using hi), List.getElem?_map] at hd
      cases e : ds[i]? with
      | none => rw [e] at hd; cases hd
      | some d' =>
        rw [e] at hd
        cases hd
        obtain ⟨v, h1, h2⟩ := ra.get e
        refine ⟨v, ?_, h2⟩
        unfold start
        rw [List.getElem?_append_left (by have := ra.length; simp; omega), List.getElem?_map, h1]
        rfl
    · cases f with
      | nx => cases e; exact fun σ' _ => k ρ' .non H' nx .non
      | rt d => cases e; exact fun v rv => k ρ' v H' nx rv
      | bk => cases e
      | ct => cases e
  · cases e
end
section
variable {P : Program} {w : World} {K : PySem.W.Frag} {mg : Str → Option Value} {base : Heap}
theorem Fun.okQ {x qual : Str} {st : Stmt} {f : Addr} {fd : FuncData} {N ps : List Str} {k n m : Nat} {B : Qm.XS} {FF : Qm.FN} (F : Fun K x qual st f fd) (S : FnScope N ps (defScope st)) (hn : ps.length = n) (hm : N.length = m) (hN : n ≤ m) (hF : FF = Qm.mkF n m B)
    (hbody : ∀ (cdv : Value) (A : Around) (outer : List Env) (s : Shared) (H : Hp) (E : XK), Room k (A.deeper (envOfC qual (defScope st) s.heap.objs.size f cdv)) →
      QSs (cxOf CX0 P w K mg base N qual (defScope st) f cdv A outer s H E).nox (defBody st) B) : FnOk P w K mg base CX0 (k + 1) f fd ps (spD K FF) := by
  subst hm hF
  exact F.ok S (fun vs H Q E h => by rw [(fnq_body hN h).1, hn]) fun cdv A outer s H vs Q E hr h => ⟨_, hbody cdv A outer s H E hr, (fnq_body hN h).2⟩
theorem FunD.okQ {x qual : Str} {st : Stmt} {f : Addr} {fd : FuncData} {N ps : List Str} {k n m : Nat} {B : Qm.XS} {FF : Qm.FN} (F : FunD K x qual st f fd) (S : FnScope N ps (defScope st)) (hn : ps.length = n) (hm : N.length = m) (hN : n ≤ m) (hF : FF = Qm.mkF n m B)
    (hbody : ∀ (cdv : Value) (A : Around) (outer : List Env) (s : Shared) (H : Hp) (E : XK), Room k (A.deeper (envOfC qual (defScope st) s.heap.objs.size f cdv)) →
      QSs (cxOf CX0 P w K mg base N qual (defScope st) f cdv A outer s H E).nox (defBody st) B) : FnOk P w K mg base CX0 (k + 1) f fd ps (spD K FF) := by
  subst hm hF
  exact F.ok S (fun vs H Q E h => by rw [(fnq_body hN h).1, hn]) fun cdv A outer s H vs Q E hr h => ⟨_, hbody cdv A outer s H E hr, (fnq_body hN h).2⟩
theorem law_sp {F : Qm.FN} {H : Hp} {a : Addr} {ns : List Int} (hO : Only H) (hS : SqL K H a (ns.map V.int)) {c' : Qm.Cells} (h : F [.ref 0] [.ro (ns.map Qm.D.int)] = some (.bl true, c')) : spD K F [.ref a] H (fun v _ => v = .bl true) fun _ _ _ => False := by
  have zs : ∀ ms : List Int, RA K (fun _ => a) 1 H (ms.map Qm.D.int) (ms.map V.int) := fun ms => by
    induction ms with
    | nil => exact .nil
    | cons m ms ih => exact .cons (.int m) ih
  refine ⟨fun _ => a, [.ro (ns.map Qm.D.int)], [.ref 0], .bl true, c', ⟨fun i j z y h1 h2 m1 m2 _ => ?_, fun n z hz => ?_⟩, .cons (.ref (by simp)) .nil, h, fun ρ' v H' n r => r.bl'⟩
  · match i, h1 with
    | 0, h1 =>
      have : z = .ro (ns.map Qm.D.int) := by simpa using h1.symm
      subst this
      cases m1
    | i + 1, h1 => simp at h1
  · match n, hz with
    | 0, hz =>
      have : z = .ro (ns.map Qm.D.int) := by simpa using hz.symm
      subst this
      exact ⟨ns.map V.int, RoOk.of hO hS, zs ns⟩
    | n + 1, hz => simp at hz
end
end L2
namespace L2
open PySem PySem.Spec PyProof.Rows
section
variable {prog : Program} {w : World} {A : Around} {E : Value → Shared → Prop} {s : Shared}
theorem nextT_item {it t : Addr} {i : Nat} {vs : Array Value} {x : Value} {Q : Value → Shared → Prop} (a : s.heap.IsTupleIter it t i) (b : s.heap.IsTuple t vs) (g : vs[i]? = some x)
    (k : ∀ h', h'.IsTupleIter it t (i + 1) → Heap.SameBut it s.heap h' → Q x { s with heap := h' }) : wpAny (model prog w) A (Builtin.SmallTypes.nextOf (.ref it)) Q E s := by
  obtain ⟨o1, q1, q2, q3⟩ := id a
  obtain ⟨o2, p1, _, m, p3⟩ := b
  unfold Builtin.SmallTypes.nextOf
  refine wpAny_bind (wpAny_callSpecial?_slot (name := Str.ofString "__next__") a.typeIs F.slot_tuple_iterator_next
    (wpAny_call_entry F.slot_tuple_iterator_next a.typeIs F.entry_tuple_iterator_next ?_ (F.args_tuple_iterator_next_1 _)))
  show wpAny _ _ (field (Value.ref it) 0 >>= _) _ _ _
  refine wpAny_bind (wpAny_field q1 q3 (x := .ref t) rfl ?_)
  show wpAny _ _ (ite ((Value.ref t == Value.none) = true) _ _) _ _ _
  rw [if_neg (by exact Bool.false_ne_true)]
  show wpAny _ _ (field (Value.ref it) 1 >>= _) _ _ _
  refine wpAny_bind (wpAny_field q1 q3 (x := .int i 0) rfl ?_)
  show wpAny _ _ (seqItems? (Value.ref t) >>= _) _ _ _
  refine wpAny_bind (wpAny_seqItems p1 p3 ?_)
  simp only [Int.toNat_natCast, g]
  refine wpAny_bind (wpAny_setField q1 q3 (by simp) (wpAny_pure ⟨x, rfl, wpAny_pure (k _ ⟨_, Heap.get?_update_self _ q1 (Obj.isFreed_of_fields (Obj.data_mapFields q3 _)), (Obj.cls_mapFields ..).trans q2, ?_⟩ (Heap.SameBut.update ..))⟩))
  rw [Obj.data_mapFields q3]; simp [rawInt]
theorem nextT_end {it t : Addr} {i : Nat} {vs : Array Value} {Q : Value → Shared → Prop} (hh : A.handled = none) (a : s.heap.IsTupleIter it t i) (b : s.heap.IsTuple t vs) (g : vs[i]? = none)
    (k : ∀ h' e, Heap.ExtBut it s.heap h' → (∃ o, h'.get? e = some o ∧ o.cls = .type "StopIteration") → E (.ref e) { s with heap := h' }) : wpAny (model prog w) A (Builtin.SmallTypes.nextOf (.ref it)) Q E s := by
  obtain ⟨o1, q1, q2, q3⟩ := id a
  obtain ⟨o2, p1, _, m, p3⟩ := b
  unfold Builtin.SmallTypes.nextOf
  refine wpAny_bind (wpAny_callSpecial?_slot (name := Str.ofString "__next__") a.typeIs F.slot_tuple_iterator_next
    (wpAny_call_entry F.slot_tuple_iterator_next a.typeIs F.entry_tuple_iterator_next ?_ (F.args_tuple_iterator_next_1 _)))
  show wpAny _ _ (field (Value.ref it) 0 >>= _) _ _ _
  refine wpAny_bind (wpAny_field q1 q3 (x := .ref t) rfl ?_)
  show wpAny _ _ (ite ((Value.ref t == Value.none) = true) _ _) _ _ _
  rw [if_neg (by exact Bool.false_ne_true)]
  show wpAny _ _ (field (Value.ref it) 1 >>= _) _ _ _
  refine wpAny_bind (wpAny_field q1 q3 (x := .int i 0) rfl ?_)
  show wpAny _ _ (seqItems? (Value.ref t) >>= _) _ _ _
  refine wpAny_bind (wpAny_seqItems p1 p3 ?_)
  simp only [Int.toNat_natCast, g]
  refine wpAny_bind (wpAny_rule (wpAny_bind (wpAny_setField q1 q3 (by simp) (wpAny_bind (m := newExc (.type "StopIteration") []) ?_))))
  simp only [newExc, newTuple]
  refine wpAny_bind (wpAny_newObj_type ?_ (by size_fits))
  refine wpAny_bind (m := firstArgMember _ _) (wpAny_of_eq (a := .none) (by first | rfl | (simp only [firstArgMember]; rfl)) (wpAny_newObj_type ?_ (by size_fits)))
  simp only [raiseNew]
  refine wpAny_bind (wpAny_handled ?_)
  first | rw [show A.in1.handled = none from hh] | rw [hh]
  exact wpAny_bind (wpAny_pure (wpAny_throw (k _ _ (((Heap.SameBut.update ..).extBut.push _).push _) ⟨_, Heap.get?_push_size _ rfl, rfl⟩)))
def ZRec (h : Heap) (z TI TO : Addr) (f0 f1 : Value) : Prop := h.get? z = some { cls := .type "zip", dict := none, data := .fields #[f0, f1, .bool false, .ref TI, .ref TO], slots := #[] }
def PairAt (h : Heap) (T : Addr) (a b : Value) : Prop := h.get? T = some { cls := .type "tuple", data := .seq #[a, b] }
structure ZApart (z TI TO i1 i2 t1 t2 : Addr) : Prop where
  nd : [z, TI, TO, i1, i2].Nodup
  n1 : t1 ∉ [z, TI, TO, i1, i2]
  n2 : t2 ∉ [z, TI, TO, i1, i2]
def ZFree (h : Heap) (f0 : Value) : Prop := f0 = .none ∨ ∃ T o, f0 = rawInt (T : Addr) ∧ h.get? T = some o
theorem ZApart.ne {z TI TO i1 i2 t1 t2 : Addr} (D : ZApart z TI TO i1 i2 t1 t2) : TI ≠ z ∧ TO ≠ z ∧ i1 ≠ z ∧ i2 ≠ z ∧ TI ≠ TO ∧ TI ≠ i1 ∧ TI ≠ i2 ∧ TO ≠ i1 ∧ TO ≠ i2 ∧ i1 ≠ i2 := by
  have h := D.nd
  simp only [List.nodup_cons, List.mem_cons, List.not_mem_nil, or_false, not_or] at h
  obtain ⟨⟨a1, a2, a3, a4⟩, ⟨b1, b2, b3⟩, ⟨c1, c2⟩, d1, _⟩ := h
  exact ⟨fun e => a1 e.symm, fun e => a2 e.symm, fun e => a3 e.symm, fun e => a4 e.symm, b1, b2, b3, c1, c2, d1⟩
theorem ZApart.far {z TI TO i1 i2 t1 t2 : Addr} (D : ZApart z TI TO i1 i2 t1 t2) : (t1 ≠ z ∧ t1 ≠ TO ∧ t1 ≠ i1 ∧ t1 ≠ i2) ∧ (t2 ≠ z ∧ t2 ≠ TO ∧ t2 ≠ i1 ∧ t2 ≠ i2) := by
  have h1 := D.n1
  have h2 := D.n2
  simp only [List.mem_cons, List.not_mem_nil, or_false, not_or] at h1 h2
  exact ⟨⟨h1.1, h1.2.2.1, h1.2.2.2.1, h1.2.2.2.2⟩, h2.1, h2.2.2.1, h2.2.2.2.1, h2.2.2.2.2⟩
theorem pair_put {T : Addr} {a b x : Value} {k : Nat} {Q : Unit → Shared → Prop} (g : PairAt s.heap T a b)
    (q : ∀ h', h'.get? T = some { cls := .type "tuple", data := .seq ((#[a, b] : Array Value).setIfInBounds k x) } → Heap.SameBut T s.heap h' → Q () { s with heap := h' }) :
    wpAny (model prog w) A (updateSeq T (·.setIfInBounds k x)) Q E s := by
  refine wpAny_updateSeq g rfl (q _ ?_ (Heap.SameBut.update ..))
  rw [Heap.get?_update_self _ g rfl]
  simp [Obj.mapSeq]
structure ZBehind (h h' : Heap) (z TI TO i1 i2 t1 t2 : Addr) (k : Nat) (T : Addr) (x y : Value) : Prop where
  rc : ∃ f0 b1, ZRec h' z TI TO f0 (.bool b1) ∧ ZFree h' f0
  to : ∃ a b, PairAt h' TO a b
  j1 : h'.IsTupleIter i1 t1 (k + 1)
  j2 : h'.IsTupleIter i2 t2 (k + 1)
  new : h.objs.size ≤ T
  at_ : PairAt h' T x y
  keep : ∀ c o, c ≠ z → c ≠ TO → c ≠ i1 → c ≠ i2 → h.get? c = some o → h'.get? c = some o
theorem zip1_item {z TI TO i1 i2 t1 t2 : Addr} {k : Nat} {xs ys : Array Value} {x y a b f1 : Value} {Q : Value → Shared → Prop} (D : ZApart z TI TO i1 i2 t1 t2)
    (hz : ZRec s.heap z TI TO .none f1) (gI : PairAt s.heap TI (.ref i1) (.ref i2)) (gO : PairAt s.heap TO a b) (h1 : s.heap.IsTupleIter i1 t1 k) (h2 : s.heap.IsTupleIter i2 t2 k) (l1 : s.heap.IsTuple t1 xs) (l2 : s.heap.IsTuple t2 ys) (hx : xs[k]? = some x) (hy : ys[k]? = some y)
    (q : ∀ h' T, ZBehind s.heap h' z TI TO i1 i2 t1 t2 k T x y → ZRec h' z TI TO (rawInt T) (.bool false) → Q (.ref T) { s with heap := h' }) :
    wpAny (model prog w) A (Builtin.«zip.__next__» ⟨[.ref z], []⟩) (fun fin s' => ∃ v, fin = .done (.ret v) ∧ Q v s') E s := by
  obtain ⟨d1, d2, d3, d4, d5, d6, d7, d8, d9, d10⟩ := D.ne
  obtain ⟨⟨m1, m2, m3, m4⟩, n1, n2, n3, n4⟩ := D.far
  show wpAny _ _ (field (Value.ref z) 2 >>= _) _ _ _
  refine wpAny_bind (wpAny_field hz rfl (x := Value.bool false) rfl ?_)
  show wpAny _ _ (field (Value.ref z) 3 >>= _) _ _ _
  refine wpAny_bind (wpAny_field hz rfl (x := Value.ref TI) rfl (wpAny_bind (wpAny_seqItems gI rfl ?_)))
  refine wpAny_bind (m := Builtin.SmallTypes.ownedTupleIsFree (.ref z)) ?_
  unfold Builtin.SmallTypes.ownedTupleIsFree
  refine wpAny_bind (wpAny_field hz rfl (x := Value.none) rfl (wpAny_pure ?_))
  simp only [if_true]
  refine wpAny_bind (wpAny_rule (wpAny_bind (wpAny_field hz rfl (x := Value.ref TO) rfl (wpAny_bind (wpAny_setField_rec hz (by simp) fun e1 z1 s1 => ?_)))))
  have z1' : ZRec e1 z TI TO .ellipsis f1 := z1
  refine wpAny_bind ?_
  simp only [List.forIn_cons, List.forIn_nil, List.zipIdx_cons, List.zipIdx_nil]
  refine wpAny_bind (wpAny_bind (wpAny_onRaise (show wpAny _ _ (Builtin.SmallTypes.nextOf (Value.ref i1) >>= _) _ _ _ from ?_)))
  refine wpAny_bind (nextT_item (h1.extBut s1.extBut d3) (l1.extBut s1.extBut m1) hx fun e2 j1 s2 => wpAny_pure ?_)
  have gO2 : PairAt e2 TO a b := s2.extBut _ _ d8 (s1.extBut _ _ d2 gO)
  refine wpAny_bind (wpAny_seqItems gO2 rfl (wpAny_bind (pair_put gO2 fun e3 w3 s3 => wpAny_bind (wpAny_letGo (wpAny_pure ?_)))))
  have gO3 : PairAt e3 TO x b := w3
  refine wpAny_bind (wpAny_bind (wpAny_onRaise (show wpAny _ _ (Builtin.SmallTypes.nextOf (Value.ref i2) >>= _) _ _ _ from ?_)))
  refine wpAny_bind (nextT_item (((h2.extBut s1.extBut d4).extBut s2.extBut d10.symm).extBut s3.extBut d9.symm) (((l2.extBut s1.extBut n1).extBut s2.extBut n3).extBut s3.extBut n2) hy fun e4 j2 s4 => wpAny_pure ?_)
  have gO4 : PairAt e4 TO x b := s4.extBut _ _ d9 gO3
  refine wpAny_bind (wpAny_seqItems gO4 rfl (wpAny_bind (pair_put gO4 fun e5 w5 s5 => wpAny_bind (wpAny_letGo (wpAny_pure (wpAny_pure ?_))))))
  have gO5 : PairAt e5 TO x y := w5
  refine wpAny_bind (wpAny_seqItems gO5 rfl (wpAny_bind (wpAny_newTuple ?_)))
  have sz : e5.objs.size = s.heap.objs.size := by rw [s5.1, s4.1, s3.1, s2.1, s1.1]
  have z5 : ZRec e5 z TI TO .ellipsis f1 := s5.extBut _ _ d2.symm (s4.extBut _ _ d4.symm (s3.extBut _ _ d2.symm (s2.extBut _ _ d3.symm z1')))
  have k5 : ∀ c o, c ≠ z → c ≠ TO → c ≠ i1 → c ≠ i2 → s.heap.get? c = some o → e5.get? c = some o := fun c o c1 c2 c3 c4 e =>
    s5.extBut _ _ c2 (s4.extBut _ _ c4 (s3.extBut _ _ c2 (s2.extBut _ _ c3 (s1.extBut _ _ c1 e))))
  have J1 : e5.IsTupleIter i1 t1 (k + 1) := ((j1.extBut s3.extBut d8.symm).extBut s4.extBut d10).extBut s5.extBut d8.symm
  have J2 : e5.IsTupleIter i2 t2 (k + 1) := j2.extBut s5.extBut d9.symm
  have zl : z < e5.objs.size := Heap.lt_size z5
  refine wpAny_bind (m := Builtin.SmallTypes.ownedTupleHandOut (.ref z) (.ref e5.objs.size)) ?_
  unfold Builtin.SmallTypes.ownedTupleHandOut
  have z6 : ZRec (e5.push { cls := .type "tuple", data := .seq #[x, y] }) z TI TO .ellipsis f1 := Heap.get?_push_of_some _ z5
  refine wpAny_bind (wpAny_setField_rec z6 (by simp) fun e7 w7 s7 => ?_)
  have z7 : ZRec e7 z TI TO (rawInt e5.objs.size) f1 := w7
  refine wpAny_setField_rec z7 (by simp) fun e8 w8 s8 => ?_
  have z8 : ZRec e8 z TI TO (rawInt e5.objs.size) (.bool false) := w8
  have up : ∀ c o, c ≠ z → e5.get? c = some o → e8.get? c = some o := fun c o c1 e => s8.extBut _ _ c1 (s7.extBut _ _ c1 (Heap.get?_push_of_some _ e))
  have new8 : PairAt e8 e5.objs.size x y := s8.extBut _ _ (Nat.ne_of_gt zl) (s7.extBut _ _ (Nat.ne_of_gt zl) (Heap.get?_push_size _ rfl))
  refine wpAny_pure ⟨_, rfl, q e8 e5.objs.size ⟨⟨_, _, z8, .inr ⟨_, _, rfl, new8⟩⟩, ⟨x, y, up _ _ d2 gO5⟩, J1.at fun o e => up _ o d3 e, J2.at fun o e => up _ o d4 e, by rw [sz]; exact Nat.le_refl _, new8, fun c o c1 c2 c3 c4 e => up c o c1 (k5 c o c1 c2 c3 c4 e)⟩ z8⟩
theorem zip2_item {z TI TO i1 i2 t1 t2 T0 : Addr} {ob : Obj} {k : Nat} {xs ys : Array Value} {x y a b : Value} {b1 : Bool} {Q : Value → Shared → Prop} (D : ZApart z TI TO i1 i2 t1 t2) (hl : s.heap.get? T0 = some ob)
    (hz : ZRec s.heap z TI TO (rawInt T0) (.bool b1)) (gI : PairAt s.heap TI (.ref i1) (.ref i2)) (gO : PairAt s.heap TO a b) (h1 : s.heap.IsTupleIter i1 t1 k) (h2 : s.heap.IsTupleIter i2 t2 k) (l1 : s.heap.IsTuple t1 xs) (l2 : s.heap.IsTuple t2 ys) (hx : xs[k]? = some x) (hy : ys[k]? = some y)
    (q : ∀ h' T, ZBehind s.heap h' z TI TO i1 i2 t1 t2 k T x y → Q (.ref T) { s with heap := h' }) :
    wpAny (model prog w) A (Builtin.«zip.__next__» ⟨[.ref z], []⟩) (fun fin s' => ∃ v, fin = .done (.ret v) ∧ Q v s') E s := by
  obtain ⟨d1, d2, d3, d4, d5, d6, d7, d8, d9, d10⟩ := D.ne
  obtain ⟨⟨m1, m2, m3, m4⟩, n1, n2, n3, n4⟩ := D.far
  show wpAny _ _ (field (Value.ref z) 2 >>= _) _ _ _
  refine wpAny_bind (wpAny_field hz rfl (x := Value.bool false) rfl ?_)
  show wpAny _ _ (field (Value.ref z) 3 >>= _) _ _ _
  refine wpAny_bind (wpAny_field hz rfl (x := Value.ref TI) rfl (wpAny_bind (wpAny_seqItems gI rfl ?_)))
  refine wpAny_bind (m := Builtin.SmallTypes.ownedTupleIsFree (.ref z)) ?_
  unfold Builtin.SmallTypes.ownedTupleIsFree
  refine wpAny_bind (wpAny_field hz rfl (x := rawInt T0) rfl ?_)
  show wpAny _ _ (loadIfAlive ((T0 : Int).toNat) >>= _) _ _ _
  rw [show ((T0 : Int).toNat) = T0 from Int.toNat_natCast _]
  refine wpAny_bind (PySem.W.kdx_alive hl ?_)
  show wpAny _ _ (field (Value.ref z) 1 >>= _) _ _ _
  refine wpAny_bind (wpAny_field hz rfl (x := Value.bool b1) rfl ?_)
  have last : ∀ e0 e1 e2 : Heap, ZRec e0 z TI TO (rawInt T0) (.bool true) → Heap.SameBut z s.heap e0 → Heap.SameBut i1 e0 e1 → Heap.SameBut i2 e1 e2 → e1.IsTupleIter i1 t1 (k + 1) → e2.IsTupleIter i2 t2 (k + 1) →
      ZBehind s.heap (e2.push { cls := .type "tuple", data := .seq #[x, y] }) z TI TO i1 i2 t1 t2 k e2.objs.size x y := by
    intro e0 e1 e2 z0 s0 s1 s2 j1 j2
    have sz : e2.objs.size = s.heap.objs.size := by rw [s2.1, s1.1, s0.1]
    have kk : ∀ c o, c ≠ z → c ≠ i1 → c ≠ i2 → s.heap.get? c = some o → e2.get? c = some o := fun c o c1 c2 c3 e => s2.extBut _ _ c3 (s1.extBut _ _ c2 (s0.extBut _ _ c1 e))
    have z2 : ZRec e2 z TI TO (rawInt T0) (.bool true) := s2.extBut _ _ d4.symm (s1.extBut _ _ d3.symm z0)
    have up : ∀ c o, e2.get? c = some o → (e2.push { cls := .type "tuple", data := .seq #[x, y] }).get? c = some o := fun c o e => Heap.get?_push_of_some _ e
    have th : ∃ o, e2.get? T0 = some o := by
      have any : ∀ {h h' : Heap} {b : Addr}, Heap.SameBut b h h' → (∃ o, h.get? b = some o → ∃ o', h'.get? b = some o') → True := fun _ _ => trivial
      by_cases c1 : T0 = z
      · exact ⟨_, by rw [c1]; exact z2⟩
      · by_cases c2 : T0 = i1
        · obtain ⟨o, e, _⟩ := j1.extBut s2.extBut d10
          exact ⟨o, by rw [c2]; exact e⟩
        · by_cases c3 : T0 = i2
          · obtain ⟨o, e, _⟩ := j2
            exact ⟨o, by rw [c3]; exact e⟩
          · exact ⟨ob, kk _ _ c1 c2 c3 hl⟩
    obtain ⟨o', ho'⟩ := th
    exact ⟨⟨_, _, up _ _ z2, .inr ⟨T0, o', rfl, up _ _ ho'⟩⟩, ⟨a, b, up _ _ (kk _ _ d2 d8 d9 gO)⟩, (j1.extBut s2.extBut d10).at fun o e => up _ o e, j2.at fun o e => up _ o e, by rw [sz]; exact Nat.le_refl _, Heap.get?_push_size _ rfl, fun c o c1 c2 c3 c4 e => up c o (kk c o c1 c3 c4 e)⟩
  cases b1 with
  | true =>
    rw [if_neg (by decide)]
    refine wpAny_pure ?_
    have s0 : Heap.SameBut z s.heap s.heap := Heap.SameBut.refl ..
    simp only [Bool.false_eq_true, if_false]
    refine wpAny_bind ?_
    rw [show (#[Value.ref i1, Value.ref i2] : Array Value) = [Value.ref i1, Value.ref i2].toArray from rfl]
    simp only [List.forIn_toArray, List.forIn_cons, List.forIn_nil]
    refine wpAny_bind (wpAny_bind (wpAny_holding ?_))
    show wpAny _ _ (Builtin.SmallTypes.nextOf (Value.ref i1) >>= _) _ _ _
    refine wpAny_bind (nextT_item (h1.extBut s0.extBut d3) (l1.extBut s0.extBut m1) hx fun e1 j1 s1 => wpAny_pure (wpAny_pure ?_))
    refine wpAny_bind (wpAny_bind (wpAny_holding ?_))
    show wpAny _ _ (Builtin.SmallTypes.nextOf (Value.ref i2) >>= _) _ _ _
    refine wpAny_bind (nextT_item ((h2.extBut s0.extBut d4).extBut s1.extBut d10.symm) ((l2.extBut s0.extBut n1).extBut s1.extBut n3) hy fun e2 j2 s2 => wpAny_pure (wpAny_pure (wpAny_pure ?_)))
    refine wpAny_bind (wpAny_newTuple ?_ (by show 2 ≤ sizeLine; decide))
    exact wpAny_pure ⟨_, rfl, q _ e2.objs.size (last s.heap e1 e2 hz s0 s1 s2 j1 j2)⟩
  | false =>
    rw [if_pos (by decide)]
    refine wpAny_bind (wpAny_setField_rec hz (by simp) fun e0 z0 s0 => wpAny_pure ?_)
    simp only [Bool.false_eq_true, if_false]
    refine wpAny_bind ?_
    rw [show (#[Value.ref i1, Value.ref i2] : Array Value) = [Value.ref i1, Value.ref i2].toArray from rfl]
    simp only [List.forIn_toArray, List.forIn_cons, List.forIn_nil]
    refine wpAny_bind (wpAny_bind (wpAny_holding ?_))
    show wpAny _ _ (Builtin.SmallTypes.nextOf (Value.ref i1) >>= _) _ _ _
    refine wpAny_bind (nextT_item (h1.extBut s0.extBut d3) (l1.extBut s0.extBut m1) hx fun e1 j1 s1 => wpAny_pure (wpAny_pure ?_))
    refine wpAny_bind (wpAny_bind (wpAny_holding ?_))
    show wpAny _ _ (Builtin.SmallTypes.nextOf (Value.ref i2) >>= _) _ _ _
    refine wpAny_bind (nextT_item ((h2.extBut s0.extBut d4).extBut s1.extBut d10.symm) ((l2.extBut s0.extBut n1).extBut s1.extBut n3) hy fun e2 j2 s2 => wpAny_pure (wpAny_pure (wpAny_pure ?_)))
    refine wpAny_bind (wpAny_newTuple ?_ (by show 2 ≤ sizeLine; decide))
    exact wpAny_pure ⟨_, rfl, q _ e2.objs.size (last e0 e1 e2 z0 s0 s1 s2 j1 j2)⟩
theorem zip1_end {z TI TO i1 i2 t1 t2 : Addr} {k : Nat} {xs ys : Array Value} {a b f1 : Value} {Q : PySem.Fin → Shared → Prop} (hh : A.handled = none) (D : ZApart z TI TO i1 i2 t1 t2)
    (hz : ZRec s.heap z TI TO .none f1) (gI : PairAt s.heap TI (.ref i1) (.ref i2)) (gO : PairAt s.heap TO a b) (h1 : s.heap.IsTupleIter i1 t1 k) (h2 : s.heap.IsTupleIter i2 t2 k) (l1 : s.heap.IsTuple t1 xs) (l2 : s.heap.IsTuple t2 ys) (hend : xs[k]? = none ∨ ys[k]? = none)
    (q : ∀ h' e, (∀ c o, c ≠ z → c ≠ TO → c ≠ i1 → c ≠ i2 → s.heap.get? c = some o → h'.get? c = some o) → (∃ o, h'.get? e = some o ∧ o.cls = .type "StopIteration") → E (.ref e) { s with heap := h' }) :
    wpAny (model prog w) A (Builtin.«zip.__next__» ⟨[.ref z], []⟩) Q E s := by
  obtain ⟨d1, d2, d3, d4, d5, d6, d7, d8, d9, d10⟩ := D.ne
  obtain ⟨⟨m1, m2, m3, m4⟩, n1, n2, n3, n4⟩ := D.far
  show wpAny _ _ (field (Value.ref z) 2 >>= _) _ _ _
  refine wpAny_bind (wpAny_field hz rfl (x := Value.bool false) rfl ?_)
  show wpAny _ _ (field (Value.ref z) 3 >>= _) _ _ _
  refine wpAny_bind (wpAny_field hz rfl (x := Value.ref TI) rfl (wpAny_bind (wpAny_seqItems gI rfl ?_)))
  refine wpAny_bind (m := Builtin.SmallTypes.ownedTupleIsFree (.ref z)) ?_
  unfold Builtin.SmallTypes.ownedTupleIsFree
  refine wpAny_bind (wpAny_field hz rfl (x := Value.none) rfl (wpAny_pure ?_))
  simp only [if_true]
  refine wpAny_bind (wpAny_rule (wpAny_bind (wpAny_field hz rfl (x := Value.ref TO) rfl (wpAny_bind (wpAny_setField_rec hz (by simp) fun e1 z1 s1 => ?_)))))
  have z1' : ZRec e1 z TI TO .ellipsis f1 := z1
  refine wpAny_bind ?_
  simp only [List.forIn_cons, List.forIn_nil, List.zipIdx_cons, List.zipIdx_nil]
  refine wpAny_bind (wpAny_bind (wpAny_onRaise (show wpAny _ _ (Builtin.SmallTypes.nextOf (Value.ref i1) >>= _) _ _ _ from ?_)))
  have off : ∀ {h h3 : Heap} {e : Addr}, ZRec h z TI TO .ellipsis f1 → (∃ o, h.get? e = some o ∧ o.cls = .type "StopIteration") → Heap.SameBut z h h3 → ∃ o, h3.get? e = some o ∧ o.cls = .type "StopIteration" := fun {h h3 e} zz he ss => by
    obtain ⟨o, e1, c⟩ := he
    refine ⟨o, ss.extBut _ _ (fun q => ?_) e1, c⟩
    subst q
    rw [show h.get? e = _ from zz] at e1
    cases e1
    simp at c
  cases hx : xs[k]? with
  | none =>
    refine wpAny_bind (nextT_end hh (h1.extBut s1.extBut d3) (l1.extBut s1.extBut m1) hx fun e2 e s2 he => ?_)
    have z2 : ZRec e2 z TI TO .ellipsis f1 := s2 _ _ d3.symm z1'
    exact wpAny_setField_rec z2 (by simp) fun e3 _ s3 => q e3 e (fun c o c1 _ c3 _ x => s3.extBut _ _ c1 (s2 _ _ c3 (s1.extBut _ _ c1 x))) (off z2 he s3)
  | some x =>
    have hy : ys[k]? = none := hend.resolve_left (by rw [hx]; simp)
    refine wpAny_bind (nextT_item (h1.extBut s1.extBut d3) (l1.extBut s1.extBut m1) hx fun e2 j1 s2 => wpAny_pure ?_)
    have gO2 : PairAt e2 TO a b := s2.extBut _ _ d8 (s1.extBut _ _ d2 gO)
    refine wpAny_bind (wpAny_seqItems gO2 rfl (wpAny_bind (pair_put gO2 fun e3 w3 s3 => wpAny_bind (wpAny_letGo (wpAny_pure ?_)))))
    refine wpAny_bind (wpAny_bind (wpAny_onRaise (show wpAny _ _ (Builtin.SmallTypes.nextOf (Value.ref i2) >>= _) _ _ _ from ?_)))
    refine wpAny_bind (nextT_end hh (((h2.extBut s1.extBut d4).extBut s2.extBut d10.symm).extBut s3.extBut d9.symm) (((l2.extBut s1.extBut n1).extBut s2.extBut n3).extBut s3.extBut n2) hy fun e4 e s4 he => ?_)
    have z4 : ZRec e4 z TI TO .ellipsis f1 := s4 _ _ d4.symm (s3.extBut _ _ d2.symm (s2.extBut _ _ d3.symm z1'))
    exact wpAny_setField_rec z4 (by simp) fun e5 _ s5 => q e5 e (fun c o c1 c2 c3 c4 x => s5.extBut _ _ c1 (s4 _ _ c4 (s3.extBut _ _ c2 (s2.extBut _ _ c3 (s1.extBut _ _ c1 x))))) (off z4 he s5)
theorem zip2_end {z TI TO i1 i2 t1 t2 T0 : Addr} {ob : Obj} {k : Nat} {xs ys : Array Value} {b1 : Bool} {Q : PySem.Fin → Shared → Prop} (hh : A.handled = none) (D : ZApart z TI TO i1 i2 t1 t2) (hl : s.heap.get? T0 = some ob)
    (hz : ZRec s.heap z TI TO (rawInt T0) (.bool b1)) (gI : PairAt s.heap TI (.ref i1) (.ref i2)) (h1 : s.heap.IsTupleIter i1 t1 k) (h2 : s.heap.IsTupleIter i2 t2 k) (l1 : s.heap.IsTuple t1 xs) (l2 : s.heap.IsTuple t2 ys) (hend : xs[k]? = none ∨ ys[k]? = none)
    (q : ∀ h' e, (∀ c o, c ≠ z → c ≠ TO → c ≠ i1 → c ≠ i2 → s.heap.get? c = some o → h'.get? c = some o) → (∃ o, h'.get? e = some o ∧ o.cls = .type "StopIteration") → E (.ref e) { s with heap := h' }) :
    wpAny (model prog w) A (Builtin.«zip.__next__» ⟨[.ref z], []⟩) Q E s := by
  obtain ⟨d1, d2, d3, d4, d5, d6, d7, d8, d9, d10⟩ := D.ne
  obtain ⟨⟨m1, m2, m3, m4⟩, n1, n2, n3, n4⟩ := D.far
  show wpAny _ _ (field (Value.ref z) 2 >>= _) _ _ _
  refine wpAny_bind (wpAny_field hz rfl (x := Value.bool false) rfl ?_)
  show wpAny _ _ (field (Value.ref z) 3 >>= _) _ _ _
  refine wpAny_bind (wpAny_field hz rfl (x := Value.ref TI) rfl (wpAny_bind (wpAny_seqItems gI rfl ?_)))
  refine wpAny_bind (m := Builtin.SmallTypes.ownedTupleIsFree (.ref z)) ?_
  unfold Builtin.SmallTypes.ownedTupleIsFree
  refine wpAny_bind (wpAny_field hz rfl (x := rawInt T0) rfl ?_)
  show wpAny _ _ (loadIfAlive ((T0 : Int).toNat) >>= _) _ _ _
  rw [show ((T0 : Int).toNat) = T0 from Int.toNat_natCast _]
  refine wpAny_bind (PySem.W.kdx_alive hl ?_)
  show wpAny _ _ (field (Value.ref z) 1 >>= _) _ _ _
  refine wpAny_bind (wpAny_field hz rfl (x := Value.bool b1) rfl ?_)
  cases b1 with
  | true =>
    rw [if_neg (by decide)]
    refine wpAny_pure ?_
    have s0 : Heap.SameBut z s.heap s.heap := Heap.SameBut.refl ..
    simp only [Bool.false_eq_true, if_false]
    refine wpAny_bind ?_
    rw [show (#[Value.ref i1, Value.ref i2] : Array Value) = [Value.ref i1, Value.ref i2].toArray from rfl]
    simp only [List.forIn_toArray, List.forIn_cons, List.forIn_nil]
    refine wpAny_bind (wpAny_bind (wpAny_holding ?_))
    show wpAny _ _ (Builtin.SmallTypes.nextOf (Value.ref i1) >>= _) _ _ _
    cases hx : xs[k]? with
    | none => exact wpAny_bind (nextT_end hh (h1.extBut s0.extBut d3) (l1.extBut s0.extBut m1) hx fun e1 e s1 he => q e1 e (fun c o c1 c2 c3 c4 z => s1 _ _ c3 (s0.extBut _ _ c1 z)) he)
    | some x =>
      have hy : ys[k]? = none := hend.resolve_left (by rw [hx]; simp)
      refine wpAny_bind (nextT_item (h1.extBut s0.extBut d3) (l1.extBut s0.extBut m1) hx fun e1 j1 s1 => wpAny_pure (wpAny_pure ?_))
      refine wpAny_bind (wpAny_bind (wpAny_holding ?_))
      show wpAny _ _ (Builtin.SmallTypes.nextOf (Value.ref i2) >>= _) _ _ _
      exact wpAny_bind (nextT_end hh ((h2.extBut s0.extBut d4).extBut s1.extBut d10.symm) ((l2.extBut s0.extBut n1).extBut s1.extBut n3) hy fun e2 e s2 he => q e2 e (fun c o c1 c2 c3 c4 z => s2 _ _ c4 (s1.extBut _ _ c3 (s0.extBut _ _ c1 z))) he)
  | false =>
    rw [if_pos (by decide)]
    refine wpAny_bind (wpAny_setField_rec hz (by simp) fun e0 z0 s0 => wpAny_pure ?_)
    simp only [Bool.false_eq_true, if_false]
    refine wpAny_bind ?_
    rw [show (#[Value.ref i1, Value.ref i2] : Array Value) = [Value.ref i1, Value.ref i2].toArray from rfl]
    simp only [List.forIn_toArray, List.forIn_cons, List.forIn_nil]
    refine wpAny_bind (wpAny_bind (wpAny_holding ?_))
    show wpAny _ _ (Builtin.SmallTypes.nextOf (Value.ref i1) >>= _) _ _ _
    cases hx : xs[k]? with
    | none => exact wpAny_bind (nextT_end hh (h1.extBut s0.extBut d3) (l1.extBut s0.extBut m1) hx fun e1 e s1 he => q e1 e (fun c o c1 c2 c3 c4 z => s1 _ _ c3 (s0.extBut _ _ c1 z)) he)
    | some x =>
      have hy : ys[k]? = none := hend.resolve_left (by rw [hx]; simp)
      refine wpAny_bind (nextT_item (h1.extBut s0.extBut d3) (l1.extBut s0.extBut m1) hx fun e1 j1 s1 => wpAny_pure (wpAny_pure ?_))
      refine wpAny_bind (wpAny_bind (wpAny_holding ?_))
      show wpAny _ _ (Builtin.SmallTypes.nextOf (Value.ref i2) >>= _) _ _ _
      exact wpAny_bind (nextT_end hh ((h2.extBut s0.extBut d4).extBut s1.extBut d10.symm) ((l2.extBut s0.extBut n1).extBut s1.extBut n3) hy fun e2 e s2 he => q e2 e (fun c o c1 c2 c3 c4 z => s2 _ _ c4 (s1.extBut _ _ c3 (s0.extBut _ _ c1 z))) he)
structure ZSt (h : Heap) (z TI TO i1 i2 t1 t2 : Addr) (xs ys : Array Value) (k : Nat) : Prop where
  ap : ZApart z TI TO i1 i2 t1 t2
  rc : ∃ f0 b1, ZRec h z TI TO f0 (.bool b1) ∧ ZFree h f0
  ti : PairAt h TI (.ref i1) (.ref i2)
  to : ∃ a b, PairAt h TO a b
  j1 : h.IsTupleIter i1 t1 k
  j2 : h.IsTupleIter i2 t2 k
  l1 : h.IsTuple t1 xs
  l2 : h.IsTuple t2 ys
theorem ZSt.type {z TI TO i1 i2 t1 t2 : Addr} {xs ys : Array Value} {k : Nat} (Z : ZSt s.heap z TI TO i1 i2 t1 t2 xs ys k) : s.TypeIs (.ref z) "zip" := by
  obtain ⟨f0, b1, h, _⟩ := Z.rc
  exact ⟨_, h, rfl⟩
theorem ZSt.next {z TI TO i1 i2 t1 t2 : Addr} {xs ys : Array Value} {k : Nat} {x y : Value} {Q : Option Value → Shared → Prop} (Z : ZSt s.heap z TI TO i1 i2 t1 t2 xs ys k) (hx : xs[k]? = some x) (hy : ys[k]? = some y)
    (q : ∀ h' T, ZSt h' z TI TO i1 i2 t1 t2 xs ys (k + 1) → s.heap.objs.size ≤ T → PairAt h' T x y → (∀ c o, c ≠ z → c ≠ TO → c ≠ i1 → c ≠ i2 → s.heap.get? c = some o → h'.get? c = some o) → Q (some (.ref T)) { s with heap := h' }) :
    wpAny (model prog w) A (pyNext (.ref z)) Q E s := by
  have hT := Z.type
  obtain ⟨D, ⟨f0, b1, hz, hf⟩, gI, ⟨a, b, gO⟩, j1, j2, l1, l2⟩ := Z
  obtain ⟨d1, d2, d3, d4, d5, d6, d7, d8, d9, d10⟩ := D.ne
  obtain ⟨⟨m1, m2, m3, m4⟩, n1, n2, n3, n4⟩ := D.far
  have go : ∀ h' T, ZBehind s.heap h' z TI TO i1 i2 t1 t2 k T x y → Q (some (.ref T)) { s with heap := h' } := fun h' T B =>
    q h' T ⟨D, B.rc, B.keep _ _ d1 d5 d6 d7 gI, B.to, B.j1, B.j2, l1.at fun o e => B.keep _ o m1 m2 m3 m4 e, l2.at fun o e => B.keep _ o n1 n2 n3 n4 e⟩ B.new B.at_ B.keep
  unfold pyNext
  refine wpAny_bind (wpAny_attempt (wpAny_callSpecial?_slot (name := Str.ofString "__next__") hT F.slot_zip_next (wpAny_call_entry F.slot_zip_next hT F.entry_zip_next ?_ (F.args_zip_next_1 _))))
  rcases hf with rfl | ⟨T0, o, rfl, ho⟩
  · exact zip1_item D hz gI gO j1 j2 l1 l2 hx hy fun h' T B _ => wpAny_pure (go h' T B)
  · exact zip2_item D ho hz gI gO j1 j2 l1 l2 hx hy fun h' T B => wpAny_pure (go h' T B)
theorem ZSt.stop {z TI TO i1 i2 t1 t2 : Addr} {xs ys : Array Value} {k : Nat} {Q : Option Value → Shared → Prop} (hh : A.handled = none) (Z : ZSt s.heap z TI TO i1 i2 t1 t2 xs ys k) (hend : xs[k]? = none ∨ ys[k]? = none)
    (q : ∀ h', (∀ c o, c ≠ z → c ≠ TO → c ≠ i1 → c ≠ i2 → s.heap.get? c = some o → h'.get? c = some o) → Q none { s with heap := h' }) : wpAny (model prog w) A (pyNext (.ref z)) Q E s := by
  have hT := Z.type
  obtain ⟨D, ⟨f0, b1, hz, hf⟩, gI, ⟨a, b, gO⟩, j1, j2, l1, l2⟩ := Z
  have go : ∀ h' e, (∀ c o, c ≠ z → c ≠ TO → c ≠ i1 → c ≠ i2 → s.heap.get? c = some o → h'.get? c = some o) → (∃ o, h'.get? e = some o ∧ o.cls = .type "StopIteration") →
      wpAny (model prog w) A (do if ← isInstance (.ref e) (.type "StopIteration") then pure none else throw (.ref e)) Q E { s with heap := h' } := fun h' e kk ⟨o, ho, hc⟩ => by
    refine wpAny_bind (wpAny_isInstance (T := "StopIteration") (b := true) ⟨o, ho, hc⟩ isSubtype_stop ?_)
    exact wpAny_pure (q h' kk)
  unfold pyNext
  refine wpAny_bind (wpAny_attempt (wpAny_callSpecial?_slot (name := Str.ofString "__next__") hT F.slot_zip_next (wpAny_call_entry F.slot_zip_next hT F.entry_zip_next ?_ (F.args_zip_next_1 _))))
  rcases hf with rfl | ⟨T0, o, rfl, ho⟩
  · exact zip1_end hh D hz gI gO j1 j2 l1 l2 hend fun h' e kk he => go h' e kk he
  · exact zip2_end hh D ho hz gI j1 j2 l1 l2 hend fun h' e kk he => go h' e kk he
end
end L2
namespace L2
open PySem PySem.Spec PyProof.Rows
abbrev tIt (t : Addr) : Obj := { cls := .type "tuple_iterator", data := .fields #[.ref t, .int 0 0] }
abbrev zA (h : Heap) (t : Addr) : Heap := h.push (tIt t)
abbrev zB (h : Heap) (t u : Addr) : Heap := (zA h t).push (tIt u)
abbrev zC (h : Heap) (t u : Addr) : Heap := (zB h t u).push { cls := .type "tuple", data := .seq #[.ref h.objs.size, .ref (zA h t).objs.size] }
abbrev zD (h : Heap) (t u : Addr) : Heap := (zC h t u).push { cls := .type "tuple", data := .seq #[.none, .none] }
abbrev zE (h : Heap) (t u : Addr) : Heap := (zD h t u).push { cls := .type "zip", data := .fields #[.none, .bool false, .bool false, .ref (zB h t u).objs.size, .ref (zC h t u).objs.size] }
section
variable {prog : Program} {w : World} {A : Around} {E : Value → Shared → Prop} {s : Shared}
theorem ZSt.at {h h' : Heap} {z TI TO i1 i2 t1 t2 : Addr} {xs ys : Array Value} {k : Nat} (Z : ZSt h z TI TO i1 i2 t1 t2 xs ys k) (up : ∀ c, c ∈ [z, TI, TO, i1, i2, t1, t2] → ∀ o, h.get? c = some o → h'.get? c = some o) (al : ∀ c o, h.get? c = some o → ∃ o', h'.get? c = some o') : ZSt h' z TI TO i1 i2 t1 t2 xs ys k := by
  obtain ⟨D, ⟨f0, b1, hz, hf⟩, gI, ⟨a, b, gO⟩, j1, j2, l1, l2⟩ := Z
  refine ⟨D, ⟨f0, b1, up _ (by simp) _ hz, ?_⟩, up _ (by simp) _ gI, ⟨a, b, up _ (by simp) _ gO⟩, j1.at fun o e => up _ (by simp) o e, j2.at fun o e => up _ (by simp) o e, l1.at fun o e => up _ (by simp) o e, l2.at fun o e => up _ (by simp) o e⟩
  rcases hf with e | ⟨T, o, e, g⟩
  · exact .inl e
  · obtain ⟨o', g'⟩ := al _ _ g
    exact .inr ⟨T, o', e, g'⟩
theorem ZSt.self {z TI TO i1 i2 t1 t2 : Addr} {xs ys : Array Value} {k : Nat} {Q : Value → Shared → Prop} (Z : ZSt s.heap z TI TO i1 i2 t1 t2 xs ys k) (q : Q (.ref z) s) : wpAny (model prog w) A (pyIter (.ref z)) Q E s := by
  have hT := Z.type
  refine wpAny_pyIter_slot hT F.slot_zip_iter (wpAny_call_entry F.slot_zip_iter hT F.entry_zip_iter ?_ (F.args_zip_iter_1 _))
  exact wpAny_pure ⟨_, rfl, "zip", _, hT, F.slot_zip_next.lookup, q⟩
theorem ZSt.go {tg : Expr} {z TI TO i1 i2 t1 t2 T : Addr} {xs ys : Array Value} {k : Nat} {Q : Unit → Shared → Prop} (Z : ZSt s.heap z TI TO i1 i2 t1 t2 xs ys k)
    (q : ∀ h', ZSt h' z TI TO i1 i2 t1 t2 xs ys k → (∀ c o, c ≠ z → s.heap.get? c = some o → h'.get? c = some o) → Q () { s with heap := h' }) : wpAny (model prog w) A (letOwnedTupleGo tg (.ref z) (.ref T)) Q E s := by
  obtain ⟨D, ⟨f0, b1, hz, hf⟩, gI, ⟨a, b, gO⟩, j1, j2, l1, l2⟩ := id Z
  obtain ⟨d1, d2, d3, d4, d5, d6, d7, d8, d9, d10⟩ := D.ne
  obtain ⟨⟨m1, m2, m3, m4⟩, n1, n2, n3, n4⟩ := D.far
  have same : Q () s := by
    have := q s.heap Z fun c o _ e => e
    exact this
  have body : wpAny (model prog w) A (do
      let o ← load z
      match o.cls, o.data with
      | .type n, .fields vs =>
        if ["enumerate", "zip", "dict_itemiterator", "dict_reverseitemiterator", "odict_iterator", "itertools.zip_longest", "itertools.pairwise"].contains n && vs[0]? == some (rawInt T) then
          (do rule "for.unpacks-the-owned-tuple"; updateField z 0 .none)
      | _, _ => pure ()) Q E s := by
    refine wpAny_bind (wpAny_load hz ?_)
    dsimp only
    split
    · refine wpAny_bind (wpAny_rule ?_)
      show wpAny _ _ (setField (.ref z) 0 .none) Q E s
      refine wpAny_setField_rec hz (by simp) fun h' w' s' => ?_
      have z' : ZRec h' z TI TO .none (.bool b1) := w'
      exact q h' ⟨D, ⟨.none, b1, z', .inl rfl⟩, s'.extBut _ _ d1 gI, ⟨a, b, s'.extBut _ _ d2 gO⟩, j1.extBut s'.extBut d3, j2.extBut s'.extBut d4, l1.extBut s'.extBut m1, l2.extBut s'.extBut n1⟩ fun c o hc e => s'.extBut _ _ hc e
    · exact wpAny_pure same
  unfold letOwnedTupleGo
  split
  · exact body
  · exact body
  · exact wpAny_pure same
end
end L2
namespace L2
open PySem PySem.Spec PyProof.Rows
structure Came (h : Heap) (b0 : Nat) (xs ys : Array Value) (Ts : List Addr) (k : Nat) : Prop where
  len : Ts.length = k
  nd : Ts.Nodup
  new : ∀ T ∈ Ts, b0 ≤ T ∧ T < h.objs.size
  at_ : ∀ (i : Nat) (T : Addr), Ts[i]? = some T → ∃ x y, xs[i]? = some x ∧ ys[i]? = some y ∧ PairAt h T x y
theorem Came.nil {h : Heap} {b0 : Nat} {xs ys : Array Value} : Came h b0 xs ys [] 0 := ⟨rfl, List.nodup_nil, fun _ h => (nomatch h), fun i T h => by simp at h⟩
theorem Came.more {h h' : Heap} {b0 : Nat} {xs ys : Array Value} {Ts : List Addr} {k : Nat} {T : Addr} {x y : Value} (C : Came h b0 xs ys Ts k) (hb : b0 ≤ h.objs.size) (sz : h.objs.size ≤ T) (lt : T < h'.objs.size) (hx : xs[k]? = some x) (hy : ys[k]? = some y) (g : PairAt h' T x y) (up : ∀ c o, b0 ≤ c → h.get? c = some o → h'.get? c = some o) : Came h' b0 xs ys (Ts ++ [T]) (k + 1) := by
  refine ⟨by simp [C.len], ?_, fun U hU => ?_, fun i U hU => ?_⟩
  · rw [List.nodup_append]
    refine ⟨C.nd, by simp, fun U hU V hV e => ?_⟩
    have : V = T := by simpa using hV
    subst this
    subst e
    exact absurd (C.new _ hU).2 (Nat.not_lt.mpr sz)
  · rcases List.mem_append.mp hU with z | z
    · exact ⟨(C.new U z).1, Nat.lt_of_lt_of_le (C.new U z).2 (Nat.le_of_lt (Nat.lt_of_le_of_lt sz lt))⟩
    · have : U = T := by simpa using z
      subst this
      exact ⟨Nat.le_trans hb sz, lt⟩
  · by_cases hi : i < Ts.length
    · rw [List.getElem?_append_left hi] at hU
      obtain ⟨x', y', a, b, c⟩ := C.at_ i U hU
      exact ⟨x', y', a, b, up _ _ (C.new U (List.mem_of_getElem? hU)).1 c⟩
    · have hl := C.len
      have hii : i = Ts.length := by
        have := (List.getElem?_eq_some_iff.mp hU).1
        rw [List.length_append] at this
        simp at this
        omega
      subst hii
      have : U = T := by simpa using hU.symm
      subst this
      rw [hl]
      exact ⟨x, y, hx, hy, g⟩
section
variable {prog : Program} {w : World} {A : Around} {s : Shared} {R : Result → Shared → Prop}
end
section
variable {prog : Program} {w : World} {A : Around} {E : Value → Shared → Prop} {s : Shared}
end
end L2
namespace L2
open PySem PySem.Spec PyProof.Rows
section
variable {X : Cx} {pins : List (Addr × Obj)} {σ : St} {H H' : Hp} {s : Shared} {h' : Heap}
theorem Inv.grow {t' : Nat} (I : Inv X pins σ H s) (k : ∀ b u, s.heap.get? b = some u → h'.get? b = some u) (e : ∀ b, b < s.heap.objs.size → H' b = H b) (n : ∀ b o, s.heap.objs.size ≤ b → H' b = some o → ObjOk X.prog X.w H' h' b o) : Inv X pins σ H' { s with heap := h', toks := t' } := by
  have low : ∀ b o, H b = some o → b < s.heap.objs.size := fun b o q => (I.hok b o q).lt
  refine I.un ⟨fun b o q _ _ _ => k b o q, fun b o q _ _ _ => ⟨o.slots, k b o q⟩, fun b o q z _ => by rw [e b (Heap.lt_size q)]; exact z, fun b o q _ => ⟨o, k b o q⟩, fun b xs q => by rw [e b (low b _ q)]; exact q, fun b o u q => by rw [e b (low b _ q)]; exact q, fun b ps q => ⟨#[], by rw [e b (low b _ q), q]; simp⟩⟩ fun b o q => ?_
  by_cases hb : b < s.heap.objs.size
  · rw [e b hb] at q
    exact (I.hok b o q).stay (fun c u _ z => k c u z) (fun c z => by rw [e c (low c _ z)]; exact z) fun c xs z => by rw [e c (low c _ z)]; exact z
  · exact n b o (Nat.le_of_not_lt hb) q
end
def tListZip (K : PySem.W.Frag) (t : TA) : TE := fun σ H Q => t σ H fun vs H1 => ∃ a b xs ys, vs = [.ref a, .ref b] ∧ SqT K H1 a xs ∧ SqT K H1 b ys ∧
  ∀ (Hm : Hp) (l : Addr) (Ts : List Addr), Same H1 Hm → Hm l = none → Ts.length = min xs.length ys.length → (∀ (i : Nat) (T : Addr) (x y : V), Ts[i]? = some T → xs[i]? = some x → ys[i]? = some y → Hm T = some (.tup [x, y])) → Q (.ref l) (upd Hm l (.lst (Ts.map V.ref)))
section
variable {X : Cx}
end
end L2
namespace L2
open PySem PySem.Spec PyProof.Rows
section
variable {X : Cx} {e1 e2 : Expr} {p0 p1 p2 pos : Pos} {f : Qm.XA}
theorem RA.zip {K : PySem.W.Frag} {ρ : Nat → Addr} {N : Nat} {H : Hp} : ∀ {xs ys : List Qm.D} {vs us : List V} {Ts : List Addr}, RA K ρ N H xs vs → RA K ρ N H ys us → Ts.length = min vs.length us.length → (∀ (i : Nat) (T : Addr) (x y : V), Ts[i]? = some T → vs[i]? = some x → us[i]? = some y → H T = some (.tup [x, y])) → RA K ρ N H (Qm.zipD xs ys) (Ts.map V.ref)
  | [], _, _, _, Ts, .nil, _, hl, _ => by
    have : Ts = [] := List.length_eq_zero_iff.mp (by simpa using hl)
    subst this
    exact .nil
  | _ :: _, [], _, _, Ts, .cons _ _, .nil, hl, _ => by
    have : Ts = [] := List.length_eq_zero_iff.mp (by simpa using hl)
    subst this
    exact .nil
  | x :: xs, y :: ys, v :: vs, u :: us, Ts, .cons r1 a1, .cons r2 a2, hl, h => by
    cases Ts with
    | nil => simp at hl
    | cons T Ts =>
      refine .cons (.tup (h 0 T v u rfl rfl rfl) (.cons r1 (.cons r2 .nil))) (RA.zip a1 a2 (by simp at hl ⊢; omega) fun i T' x y h1 h2 h3 => h (i + 1) T' x y (by simpa using h1) (by simpa using h2) (by simpa using h3))
end
end L2
namespace L2
open PySem PySem.Spec PyProof.Rows
def rvObj (t : Addr) (i : Int) : Obj := { cls := .type "reversed", data := .fields #[.ref t, rawInt i] }
end L2
namespace L2
open PySem PySem.Spec PyProof.Rows
section
variable {prog : Program} {w : World} {A : Around} {E : Value → Shared → Prop} {s : Shared}
def IsRv (h : Heap) (a t : Addr) (i : Int) : Prop := ∃ o, h.get? a = some o ∧ o.cls = .type "reversed" ∧ o.data = .fields #[.ref t, rawInt i]
theorem IsRv.typeIs {a t : Addr} {i : Int} (x : IsRv s.heap a t i) : s.TypeIs (.ref a) "reversed" := let ⟨o, ho, hc, _⟩ := x; ⟨o, ho, hc⟩
theorem IsRv.at {h h' : Heap} {a t : Addr} {i : Int} (x : IsRv h a t i) (e : ∀ o, h.get? a = some o → h'.get? a = some o) : IsRv h' a t i := let ⟨o, ho, r⟩ := x; ⟨o, e _ ho, r⟩
end
end L2
namespace L2
open PySem PySem.Spec PyProof.Rows
section
variable {prog : Program} {w : World} {A : Around} {E : Value → Shared → Prop} {s : Shared} {I : Addr} {fp wr : List Addr} {G : Array GenState → Array GenState → Prop} {n : Nat} {P : Nat → Value → Prop} {St : Nat → Shared → Prop}
end
end L2
namespace L2
open PySem PySem.Spec PyProof.Rows
section
variable {prog : Program} {w : World} {A : Around} {E : Value → Shared → Prop} {s : Shared} {I : Addr} {fp wr : List Addr} {G : Array GenState → Array GenState → Prop} {P : Nat → Value → Prop} {St : Nat → Shared → Prop}
end
def tTupRev (K : PySem.W.Frag) (t : TA) : TE := fun σ H Q => t σ H fun vs H1 => ∃ a xs, vs = [.ref a] ∧ SqT K H1 a xs ∧ xs ≠ [] ∧ ∀ l, H1 l = none → Q (.ref l) (upd H1 l (.tup xs.reverse))
section
variable {X : Cx}
end
end L2
namespace Qm
open PySem
def bTupleRev : FN := fun ds c => match ds with
  | [.tup xs] => if xs.isEmpty = true then none else some (.tup xs.reverse, c)
  | _ => none
def iSeq (a : XE) : XI := fun σ c => match a σ c with
  | some (.tup _, _) => iTup a σ c
  | _ => iLst a σ c
end Qm
namespace L2
open PySem PySem.Spec PyProof.Rows
section
variable {X : Cx} {e1 : Expr} {p0 p1 p2 pos : Pos} {f : Qm.XA}
theorem RA.snoc {K : PySem.W.Frag} {ρ : Nat → Addr} {N : Nat} {H : Hp} : ∀ {xs ys : List Qm.D} {vs us : List V}, RA K ρ N H xs vs → RA K ρ N H ys us → RA K ρ N H (xs ++ ys) (vs ++ us)
  | [], _, _, _, .nil, h => h
  | _ :: _, _, _, _, .cons r t, h => .cons r (RA.snoc t h)
theorem RA.back {K : PySem.W.Frag} {ρ : Nat → Addr} {N : Nat} {H : Hp} : ∀ {xs : List Qm.D} {vs : List V}, RA K ρ N H xs vs → RA K ρ N H xs.reverse vs.reverse
  | [], _, .nil => .nil
  | _ :: _, _, .cons r t => by
    rw [List.reverse_cons, List.reverse_cons]
    exact RA.snoc (RA.back t) (.cons r .nil)
end
end L2
namespace L2
open PySem PySem.Spec PyProof.Rows
theorem omap_at {α β : Type} {f : α → Option β} : ∀ {xs : List α} {ys : List β}, Qm.omap f xs = some ys → xs.length = ys.length ∧ ∀ (i : Nat) (x : α) (y : β), xs[i]? = some x → ys[i]? = some y → f x = some y
  | [], ys, h => by
    cases h
    exact ⟨rfl, fun i x y h => by simp at h⟩
  | x :: xs, ys, h => by
    obtain ⟨d, h1, h⟩ := bnd h
    obtain ⟨ds, h2, h⟩ := bnd h
    cases h
    obtain ⟨l, r⟩ := omap_at h2
    refine ⟨by simp [l], fun i a b ha hb => ?_⟩
    cases i with
    | zero => simp at ha hb; subst ha hb; exact h1
    | succ i => exact r i a b (by simpa using ha) (by simpa using hb)
mutual
def nb : PyData → Bool
  | .none => true
  | .int _ => true
  | .str _ => true
  | .tuple ds => nbA ds
  | .list ds => nbA ds
  | _ => false
def nbA : List PyData → Bool
  | [] => true
  | d :: ds => nb d && nbA ds
end
section
variable {K : PySem.W.Frag} {ρ : Nat → Addr} {c : Qm.Cells} {H : Hp}
theorem rdA_of {k : Nat} (rs : RS K ρ c H) (ih : ∀ {x : Qm.D} {v : V} {d : PyData}, RD K ρ c.length H x v → Qm.data c k x = some d → RdV K H v d ∧ PyData.canLay0 d = true ∧ d.depth ≤ k ∧ nb d = true) :
    ∀ {xs : List Qm.D} {vs : List V} {ds : List PyData}, RA K ρ c.length H xs vs → Qm.omap (Qm.data c k) xs = some ds → RdA K H vs ds ∧ PyData.canLayAll0 ds = true ∧ PyData.depthAll ds ≤ k ∧ nbA ds = true
  | [], _, ds, a, h => by
    cases a
    cases h
    exact ⟨.nil, rfl, Nat.zero_le _, rfl⟩
  | x :: xs, _, ds, a, h => by
    cases a with
    | cons r a =>
      obtain ⟨d, h1, h⟩ := bnd h
      obtain ⟨es, h2, h⟩ := bnd h
      cases h
      obtain ⟨a1, a2, a3, a4⟩ := ih r h1
      obtain ⟨b1, b2, b3, b4⟩ := rdA_of rs ih a h2
      exact ⟨.cons a1 b1, by simp [PyData.canLayAll0, a2, b2], by simp only [PyData.depthAll]; omega, by simp [nbA, a4, b4]⟩
theorem rdV_of (rs : RS K ρ c H) : ∀ (k : Nat) {x : Qm.D} {v : V} {d : PyData}, RD K ρ c.length H x v → Qm.data c k x = some d → RdV K H v d ∧ PyData.canLay0 d = true ∧ d.depth ≤ k ∧ nb d = true
  | 0, _, _, _, _, h => by simp [Qm.data] at h
  | k + 1, x, v, d, r, h => by
    have A : ∀ {xs : List Qm.D} {vs : List V} {ds : List PyData}, RA K ρ c.length H xs vs → Qm.omap (Qm.data c k) xs = some ds → RdA K H vs ds ∧ PyData.canLayAll0 ds = true ∧ PyData.depthAll ds ≤ k ∧ nbA ds = true := fun {xs vs ds} => rdA_of (k := k) rs (fun r h => rdV_of rs k r h)
    cases x with
    | non => simp [Qm.data] at h; subst h; cases r.non'; exact ⟨.non, rfl, Nat.zero_le _, rfl⟩
    | int i => simp [Qm.data] at h; subst h; cases r.int'; exact ⟨.int i, rfl, Nat.zero_le _, rfl⟩
    | bl b => simp [Qm.data] at h
    | str b =>
      simp only [Qm.data] at h
      split at h
      · rename_i hb
        cases h
        cases r
        exact ⟨.str b, hb, Nat.zero_le _, rfl⟩
      · cases h
    | ty b => simp [Qm.data] at h
    | tup xs =>
      simp only [Qm.data] at h
      obtain ⟨ds, h1, h⟩ := bnd h
      cases h
      obtain ⟨p, vs, rfl, g, a⟩ := r.tup'
      obtain ⟨a1, a2, a3, a4⟩ := A a h1
      exact ⟨.tup (SqT.of g) a1, by simpa [PyData.canLay0] using a2, by simp only [PyData.depth]; omega, by simpa [nb] using a4⟩
    | ref n =>
      simp only [Qm.data] at h
      have hs : ∀ {xs : List Qm.D}, Qm.seqOf (.ref n) c = some xs → (Qm.omap (Qm.data c k) xs).bind (fun ds => some (PyData.list ds)) = some d → RdV K H v d ∧ PyData.canLay0 d = true ∧ d.depth ≤ k + 1 ∧ nb d = true := fun {xs} e h => by
        obtain ⟨ds, h1, h⟩ := bnd h
        cases h
        obtain ⟨vs, rfl, g, a⟩ := rs.seqR r e
        obtain ⟨a1, a2, a3, a4⟩ := A a h1
        exact ⟨.lst g a1, by simpa [PyData.canLay0] using a2, by simp only [PyData.depth]; omega, by simpa [nb] using a4⟩
      cases e : c[n]? with
      | none => rw [e] at h; cases h
      | some z =>
        rw [e] at h
        cases z with
        | lst xs => exact hs (by simp [Qm.seqOf, e]) h
        | ro xs => exact hs (by simp [Qm.seqOf, e]) h
        | dct xs => cases h
        | dro xs => cases h
end
mutual
theorem eqv_iff : ∀ (d e : PyData), nb d = true → nb e = true → (PyData.eqv d e = true ↔ d = e)
  | .none, e, _, he => by cases e <;> simp_all [PyData.eqv, nb]
  | .int i, e, _, he => by cases e <;> simp_all [PyData.eqv, nb]
  | .tuple ds, e, hd, he => by
    cases e <;> simp_all [PyData.eqv, nb]
    exact eqvA_iff _ _ hd he
  | .list ds, e, hd, he => by
    cases e <;> simp_all [PyData.eqv, nb]
    exact eqvA_iff _ _ hd he
  | .bool _, _, h, _ => by simp [nb] at h
  | .str a, e, _, he => by cases e <;> simp_all [PyData.eqv, nb]
  | .dict _, _, h, _ => by simp [nb] at h
theorem eqvA_iff : ∀ (ds es : List PyData), nbA ds = true → nbA es = true → (PyData.eqvAll ds es = true ↔ ds = es)
  | [], [], _, _ => by simp [PyData.eqvAll]
  | [], _ :: _, _, _ => by simp [PyData.eqvAll]
  | _ :: _, [], _, _ => by simp [PyData.eqvAll]
  | d :: ds, e :: es, hd, he => by
    simp only [nbA, Bool.and_eq_true] at hd he
    simp only [PyData.eqvAll, Bool.and_eq_true, List.cons.injEq]
    rw [eqv_iff d e hd.1 he.1, eqvA_iff ds es hd.2 he.2]
end
section
variable {X : Cx}
theorem eqM_of {x y : Qm.D} {c : Qm.Cells} {b : Bool} (h : Qm.eqM x y c = some b) : (∃ p q, x = .bl p ∧ y = .bl q ∧ b = (p == q)) ∨ ∃ d e, Qm.data c 6 x = some d ∧ Qm.data c 6 y = some e ∧ (b = true ↔ d = e) := by
  unfold Qm.eqM at h
  split at h
  · cases h; exact .inl ⟨_, _, rfl, rfl, rfl⟩
  · obtain ⟨d, h1, h⟩ := bnd h
    obtain ⟨e, h2, h⟩ := bnd h
    cases h
    exact .inr ⟨d, e, h1, h2, by simp⟩
theorem eqM_eqv {K : PySem.W.Frag} {ρ : Nat → Addr} {c : Qm.Cells} {H : Hp} {x y : Qm.D} {v u : V} {d e : PyData} {b : Bool} (rs : RS K ρ c H) (rx : RD K ρ c.length H x v) (ry : RD K ρ c.length H y u) (h1 : Qm.data c 6 x = some d) (h2 : Qm.data c 6 y = some e) (hb : b = true ↔ d = e) :
    RdV K H v d ∧ RdV K H u e ∧ SeqAt.shaped d = true ∧ SeqAt.shaped e = true ∧ PyData.eqv d e = b := by
  obtain ⟨a1, a2, a3, a4⟩ := rdV_of rs 6 rx h1
  obtain ⟨b1, b2, b3, b4⟩ := rdV_of rs 6 ry h2
  refine ⟨a1, b1, by simp [SeqAt.shaped, a2]; omega, by simp [SeqAt.shaped, b2]; omega, ?_⟩
  have := eqv_iff d e a4 b4
  cases b with
  | true => exact this.mpr (hb.mp rfl)
  | false =>
    cases q : PyData.eqv d e with
    | false => rfl
    | true => exact absurd (hb.mpr (this.mp q)) (by decide)
theorem op_eqQ (hu : X.A.units + 64 < cLine) : OpR X (compareOp .Eq) (fun x y H Q => rEq x y H Q ∨ rEqD X.K false x y H Q) := op_eq.or (op_eqD hu)
theorem op_neQ (hu : X.A.units + 64 < cLine) : OpR X (compareOp .NotEq) (fun x y H Q => rNe x y H Q ∨ rEqD X.K true x y H Q) := op_ne.or (op_neD hu)
theorem lk_eq {K : PySem.W.Frag} : Lk2 K (fun x y H Q => rEq x y H Q ∨ rEqD K false x y H Q) Qm.gEq := by
  intro ρ c H x y d c' v u Q rs rx ry e k
  obtain ⟨b, e1, e⟩ := bnd e
  cases e
  rcases eqM_of e1 with ⟨p, q, rfl, rfl, rfl⟩ | ⟨dd, ee, h1, h2, hb⟩
  · cases rx.bl'; cases ry.bl'
    exact .inl ⟨rfl, by rw [dec_bl]; exact k ρ _ H (Nx.refl rs) (.bl _)⟩
  · obtain ⟨a1, a2, a3, a4, a5⟩ := eqM_eqv rs rx ry h1 h2 hb
    refine .inr ⟨dd, ee, a1, a2, a3, a4, ?_⟩
    rw [if_neg (by decide), a5]
    exact k ρ _ H (Nx.refl rs) (.bl _)
theorem lk_ne {K : PySem.W.Frag} : Lk2 K (fun x y H Q => rNe x y H Q ∨ rEqD K true x y H Q) Qm.gNe := by
  intro ρ c H x y d c' v u Q rs rx ry e k
  obtain ⟨b, e1, e⟩ := bnd e
  cases e
  rcases eqM_of e1 with ⟨p, q, rfl, rfl, rfl⟩ | ⟨dd, ee, h1, h2, hb⟩
  · cases rx.bl'; cases ry.bl'
    exact .inl ⟨rfl, by rw [dec_bl]; exact k ρ _ H (Nx.refl rs) (.bl _)⟩
  · obtain ⟨a1, a2, a3, a4, a5⟩ := eqM_eqv rs rx ry h1 h2 hb
    refine .inr ⟨dd, ee, a1, a2, a3, a4, ?_⟩
    rw [if_pos rfl, a5]
    exact k ρ _ H (Nx.refl rs) (.bl _)
def isNon (x : Qm.D) : Bool := match x with | .non => true | _ => false
theorem RD.non_iff {K : PySem.W.Frag} {ρ : Nat → Addr} {N : Nat} {H : Hp} {x : Qm.D} {v : V} (r : RD K ρ N H x v) : decide (v = .non) = isNon x := by
  cases r <;> simp [isNon]
theorem lk_isN {K : PySem.W.Frag} : Lk2 K (fun x y H Q => y = .non ∧ Q (.bl (decide (x = .non))) H) Qm.gIsN := by
  intro ρ c H x y d c' v u Q rs rx ry e k
  unfold Qm.gIsN at e
  split at e
  · cases e
    cases ry.non'
    refine ⟨rfl, ?_⟩
    rw [rx.non_iff]
    exact k ρ _ H (Nx.refl rs) (.bl (isNon x))
  · cases e
theorem lk_notN {K : PySem.W.Frag} : Lk2 K (fun x y H Q => y = .non ∧ Q (.bl (!decide (x = .non))) H) Qm.gNotN := by
  intro ρ c H x y d c' v u Q rs rx ry e k
  unfold Qm.gNotN at e
  split at e
  · cases e
    cases ry.non'
    refine ⟨rfl, ?_⟩
    rw [rx.non_iff]
    refine k ρ _ H (Nx.refl rs) ?_
    cases x <;> exact .bl _
  · cases e
end
end L2
namespace L2
open PySem PySem.Spec PyProof.Rows
section
variable {X : Cx}
def rInQ (K : PySem.W.Frag) (neg : Bool) : R2 := fun x y H Q => ∃ (p : Addr) (xs : List V) (d : PyData) (ds : List PyData), y = .ref p ∧ (SqL K H p xs ∨ SqT K H p xs) ∧ RdV K H x d ∧ RdA K H xs ds ∧ SeqAt.shaped d = true ∧ d.depth ≤ 8 ∧ (∀ e ∈ ds, PyData.canLay0 e = true) ∧ Q (.bl (if neg then !(ds.any fun e => PyData.eqv e d) else ds.any fun e => PyData.eqv e d)) H
theorem in_any {pins : List (Addr × Obj)} {σ : St} {H : Hp} {s : Shared} {x : V} {xs : List V} {v : Value} {its : List Value} {d : PyData} {ds : List PyData} (hu : X.A.units + 64 < cLine) (I : Inv X pins σ H s) (rx : RelV x v) (hv : Vals xs its) (hx : RdV X.K H x d) (hxs : RdA X.K H xs ds) (sd : SeqAt.shaped d = true) (dd : d.depth ≤ 8) (sds : ∀ e ∈ ds, PyData.canLay0 e = true) :
    (∀ y ∈ its.toArray, SeqAt.EqAt X.A.in1 s y v (eqTo s.heap d y)) ∧ its.toArray.any (eqTo s.heap d) = ds.any fun e => PyData.eqv e d := by
  obtain ⟨as, ra⟩ := hx.reads I rx
  obtain ⟨bs, rb⟩ := hxs.reads I hv
  have ea : its.any (eqTo s.heap d) = ds.any fun e => PyData.eqv e d := readsAll_any rb fun u' d' as' _ hd r' => eqTo_of (sds d' hd) r'
  refine ⟨fun y' hy' => ?_, by simpa using ea⟩
  have hm : y' ∈ its := by simpa using hy'
  obtain ⟨d', hd, as', r'⟩ := readsAll_mem rb y' hm
  rw [eqTo_of (sds d' hd) r']
  refine SeqAt.eqAt_reads d' d _ _ _ _ _ _ r' ra (sds d' hd) (SeqAt.canLay_of_shaped sd) ?_
  have h1 : min d'.depth d.depth ≤ d.depth := Nat.min_le_right _ _
  have h2 : X.A.in1.units ≤ X.A.units + 1 := by simp [Around.in1, Around.units]
  show X.A.in1.units + _ < cLine
  omega
theorem op_inQ (hu : X.A.units + 64 < cLine) : OpR X (compareOp .In) (rInQ X.K false) := by
  intro pins s σ H x y v u Q I rx ry h
  obtain ⟨p, xs, d, ds, rfl, hp, hx, hxs, sd, dd, sds, q⟩ := h
  cases (show u = Value.ref p from ry)
  rcases hp with hp | hp
  · obtain ⟨its, hv, pl, _⟩ := I.list hp
    obtain ⟨h1, h2⟩ := in_any hu I rx hv hx hxs sd dd sds
    refine SeqAt.in_listAt (eqTo s.heap d) pl.isList h1 ⟨.bl _, H, I, rfl, ?_⟩
    rw [h2]; exact q
  · obtain ⟨its, hv, pl, _⟩ := I.tuple hp
    obtain ⟨h1, h2⟩ := in_any hu I rx hv hx hxs sd dd sds
    refine SeqAt.in_tupleAt (eqTo s.heap d) pl h1 ⟨.bl _, H, I, rfl, ?_⟩
    rw [h2]; exact q
theorem op_notInQ (hu : X.A.units + 64 < cLine) : OpR X (compareOp .NotIn) (rInQ X.K true) := by
  intro pins s σ H x y v u Q I rx ry h
  obtain ⟨p, xs, d, ds, rfl, hp, hx, hxs, sd, dd, sds, q⟩ := h
  cases (show u = Value.ref p from ry)
  rcases hp with hp | hp
  · obtain ⟨its, hv, pl, _⟩ := I.list hp
    obtain ⟨h1, h2⟩ := in_any hu I rx hv hx hxs sd dd sds
    refine SeqAt.notIn_listAt (eqTo s.heap d) pl.isList h1 ⟨.bl _, H, I, rfl, ?_⟩
    rw [h2]; exact q
  · obtain ⟨its, hv, pl, _⟩ := I.tuple hp
    obtain ⟨h1, h2⟩ := in_any hu I rx hv hx hxs sd dd sds
    refine SeqAt.notIn_tupleAt (eqTo s.heap d) pl h1 ⟨.bl _, H, I, rfl, ?_⟩
    rw [h2]; exact q
theorem canLay_mem : ∀ {ds : List PyData}, PyData.canLayAll0 ds = true → ∀ e ∈ ds, PyData.canLay0 e = true
  | [], _, e, he => nomatch he
  | d :: ds, h, e, he => by
    simp only [PyData.canLayAll0, Bool.and_eq_true] at h
    rcases List.mem_cons.mp he with rfl | he
    · exact h.1
    · exact canLay_mem h.2 e he
theorem nbA_mem : ∀ {ds : List PyData}, nbA ds = true → ∀ e ∈ ds, nb e = true
  | [], _, e, he => nomatch he
  | d :: ds, h, e, he => by
    simp only [nbA, Bool.and_eq_true] at h
    rcases List.mem_cons.mp he with rfl | he
    · exact h.1
    · exact nbA_mem h.2 e he
theorem inM_of {K : PySem.W.Frag} {ρ : Nat → Addr} {c : Qm.Cells} {H : Hp} {x y : Qm.D} {v u : V} {b : Bool} (rs : RS K ρ c H) (rx : RD K ρ c.length H x v) (ry : RD K ρ c.length H y u) (h : Qm.inM x y c = some b) :
    ∃ (p : Addr) (xs : List V) (d : PyData) (ds : List PyData), u = .ref p ∧ (SqL K H p xs ∨ SqT K H p xs) ∧ RdV K H v d ∧ RdA K H xs ds ∧ SeqAt.shaped d = true ∧ d.depth ≤ 8 ∧ (∀ e ∈ ds, PyData.canLay0 e = true) ∧ (ds.any fun e => PyData.eqv e d) = b := by
  obtain ⟨xs, h1, h⟩ := bnd h
  obtain ⟨d, h2, h⟩ := bnd h
  obtain ⟨ds, h3, h⟩ := bnd h
  cases h
  obtain ⟨p, vs, rfl, hp, a⟩ := rs.seq ry h1
  obtain ⟨a1, a2, a3, a4⟩ := rdV_of rs 5 rx h2
  obtain ⟨b1, b2, b3, b4⟩ := rdA_of (k := 5) rs (fun r h => rdV_of rs 5 r h) a h3
  refine ⟨p, vs, d, ds, rfl, hp.imp id SqT.of, a1, b1, by simp [SeqAt.shaped, a2]; omega, by omega, canLay_mem b2, ?_⟩
  rw [Bool.eq_iff_iff]
  simp only [List.any_eq_true, decide_eq_true_eq]
  constructor
  · rintro ⟨e, he, q⟩
    rw [eqv_iff e d (nbA_mem b4 e he) a4] at q
    exact q ▸ he
  · intro hd
    exact ⟨d, hd, (eqv_iff d d a4 a4).mpr rfl⟩
theorem lk_in {K : PySem.W.Frag} : Lk2 K (rInQ K false) Qm.gIn := by
  intro ρ c H x y d c' v u Q rs rx ry e k
  obtain ⟨b, e1, e⟩ := bnd e
  cases e
  obtain ⟨p, xs, dd, ds, rfl, a1, a2, a3, a4, a5, a6, a7⟩ := inM_of rs rx ry e1
  refine ⟨p, xs, dd, ds, rfl, a1, a2, a3, a4, a5, a6, ?_⟩
  rw [if_neg (by decide), a7]
  exact k ρ _ H (Nx.refl rs) (.bl _)
theorem lk_notIn {K : PySem.W.Frag} : Lk2 K (rInQ K true) Qm.gNotIn := by
  intro ρ c H x y d c' v u Q rs rx ry e k
  obtain ⟨b, e1, e⟩ := bnd e
  cases e
  obtain ⟨p, xs, dd, ds, rfl, a1, a2, a3, a4, a5, a6, a7⟩ := inM_of rs rx ry e1
  refine ⟨p, xs, dd, ds, rfl, a1, a2, a3, a4, a5, a6, ?_⟩
  rw [if_pos rfl, a7]
  exact k ρ _ H (Nx.refl rs) (.bl _)
theorem bls_get : ∀ {bs : List Bool} {us : List Value}, Vals (bs.map V.bl) us → ∀ (i : Nat) (v : Value), us[i]? = some v → v = .bool (bs.getD i false)
  | [], _, .nil, i, v, h => by simp at h
  | b :: bs, _, .cons r t, 0, v, h => by
    simp at h
    subst h
    simpa using (show _ = Value.bool b from r)
  | b :: bs, _, .cons r t, i + 1, v, h => by
    have := bls_get t i v (by simpa using h)
    simpa using this
theorem truth_bls {prog : Program} {w : World} {A : Around} {bs : List Bool} {us : List Value} (hv : Vals (bs.map V.bl) us) : TruthOf prog w A (fun i v => us.toArray[i]? = some v) fun i => bs.getD i false := fun i v s Q E h q => by
  rw [bls_get hv i v (by simpa using h)]
  exact wpAny_truthy_bool q
theorem range_all (bs : List Bool) : (List.range bs.length).all (fun i => bs.getD i false) = bs.all id := by
  rw [Bool.eq_iff_iff]
  simp only [List.all_eq_true, List.mem_range]
  constructor
  · intro h b hb
    obtain ⟨i, hi⟩ := List.getElem?_of_mem hb
    have hl := (List.getElem?_eq_some_iff.mp hi).1
    have := h i hl
    simpa [List.getD, hi] using this
  · intro h i hi
    have : bs[i]? = some bs[i] := List.getElem?_eq_getElem hi
    simp only [List.getD, this, Option.getD_some]
    exact h _ (List.getElem_mem hi)
theorem range_any (bs : List Bool) : (List.range bs.length).any (fun i => bs.getD i false) = bs.any id := by
  rw [Bool.eq_iff_iff]
  simp only [List.any_eq_true, List.mem_range]
  constructor
  · rintro ⟨i, hi, h⟩
    have : bs[i]? = some bs[i] := List.getElem?_eq_getElem hi
    simp only [List.getD, this, Option.getD_some] at h
    exact ⟨_, List.getElem_mem hi, h⟩
  · rintro ⟨b, hb, h⟩
    obtain ⟨i, hi⟩ := List.getElem?_of_mem hb
    exact ⟨i, (List.getElem?_eq_some_iff.mp hi).1, by simpa [List.getD, hi] using h⟩
theorem call_allQ (hc : X.calm = true) : CallR X (.builtin "all") (fun xs H Q => ∃ (p : Addr) (bs : List Bool), xs = [.ref p] ∧ SqL X.K H p (bs.map V.bl) ∧ Q (.bl (bs.all id)) H) := by
  intro pins s σ H xs us Q I r h
  obtain ⟨p, bs, rfl, hp, q⟩ := h
  obtain ⟨u, rfl, ru⟩ := vals1 r
  cases (show u = Value.ref p from ru)
  obtain ⟨its, hv, pl, _⟩ := I.list hp
  have hl := pl.isList
  have hlt : p < s.heap.objs.size := by obtain ⟨o, e, _⟩ := hl; exact Heap.lt_size e
  refine call_all_walk (wpAny_pyIter_list hl ?_)
  refine ⟨s.heap.objs.size, _, _, _, _, _, _, rfl, Walks.list (A := X.A.in1) (I.ok.hd hc) s.heap.objs.size p (Nat.ne_of_lt hlt) its.toArray, ⟨⟨_, Heap.get?_push_size _ rfl, rfl, rfl⟩, hl.at fun o e => Heap.get?_push_of_some _ e⟩, truth_bls hv, fun h' tk kk => ?_⟩
  have e : its.toArray.size = bs.length := by rw [List.size_toArray, ← hv.length, List.length_map]
  rw [e, range_all]
  exact ⟨.bl _, H, I.kept (t' := tk) fun b o g => kk b o (by simpa using Nat.ne_of_lt (Heap.lt_size g)) (Heap.get?_push_of_some _ g), rfl, q⟩
theorem call_anyQ (hc : X.calm = true) : CallR X (.builtin "any") (fun xs H Q => ∃ (p : Addr) (bs : List Bool), xs = [.ref p] ∧ SqL X.K H p (bs.map V.bl) ∧ Q (.bl (bs.any id)) H) := by
  intro pins s σ H xs us Q I r h
  obtain ⟨p, bs, rfl, hp, q⟩ := h
  obtain ⟨u, rfl, ru⟩ := vals1 r
  cases (show u = Value.ref p from ru)
  obtain ⟨its, hv, pl, _⟩ := I.list hp
  have hl := pl.isList
  have hlt : p < s.heap.objs.size := by obtain ⟨o, e, _⟩ := hl; exact Heap.lt_size e
  refine call_any_walk (wpAny_pyIter_list hl ?_)
  refine ⟨s.heap.objs.size, _, _, _, _, _, _, rfl, Walks.list (A := X.A.in1) (I.ok.hd hc) s.heap.objs.size p (Nat.ne_of_lt hlt) its.toArray, ⟨⟨_, Heap.get?_push_size _ rfl, rfl, rfl⟩, hl.at fun o e => Heap.get?_push_of_some _ e⟩, truth_bls hv, fun h' tk kk => ?_⟩
  have e : its.toArray.size = bs.length := by rw [List.size_toArray, ← hv.length, List.length_map]
  rw [e, range_any]
  exact ⟨.bl _, H, I.kept (t' := tk) fun b o g => kk b o (by simpa using Nat.ne_of_lt (Heap.lt_size g)) (Heap.get?_push_of_some _ g), rfl, q⟩
theorem bools_of {K : PySem.W.Frag} {ρ : Nat → Addr} {N : Nat} {H : Hp} : ∀ {ds : List Qm.D} {vs : List V} {bs : List Bool}, RA K ρ N H ds vs → Qm.omap Qm.asB ds = some bs → vs = bs.map V.bl
  | [], _, bs, a, h => by cases a; cases h; rfl
  | d :: ds, _, bs, a, h => by
    cases a with
    | cons r a =>
      obtain ⟨b, h1, h⟩ := bnd h
      obtain ⟨cs, h2, h⟩ := bnd h
      cases h
      rw [asB_of h1] at r
      cases r.bl'
      rw [bools_of a h2]; rfl
theorem lk_all {K : PySem.W.Frag} : LkF K (fun xs H Q => ∃ (p : Addr) (bs : List Bool), xs = [.ref p] ∧ SqL K H p (bs.map V.bl) ∧ Q (.bl (bs.all id)) H) Qm.bAll := by
  intro ρ c H ds d c' vs Q rs ra e k
  obtain ⟨x, rfl, e'⟩ := one_of e
  obtain ⟨v, rfl, rx⟩ := ra.one'
  obtain ⟨n, e0, e'⟩ := bnd e'
  obtain ⟨bs, e2, e'⟩ := bnd e'
  cases e'
  obtain ⟨rfl, hn, ws, rfl, g, a⟩ := rs.lstOf rx e0
  exact ⟨_, bs, rfl, bools_of a e2 ▸ SqL.of g, k ρ _ H (Nx.refl rs) (.bl _)⟩
theorem lk_any {K : PySem.W.Frag} : LkF K (fun xs H Q => ∃ (p : Addr) (bs : List Bool), xs = [.ref p] ∧ SqL K H p (bs.map V.bl) ∧ Q (.bl (bs.any id)) H) Qm.bAny := by
  intro ρ c H ds d c' vs Q rs ra e k
  obtain ⟨x, rfl, e'⟩ := one_of e
  obtain ⟨v, rfl, rx⟩ := ra.one'
  obtain ⟨n, e0, e'⟩ := bnd e'
  obtain ⟨bs, e2, e'⟩ := bnd e'
  cases e'
  obtain ⟨rfl, hn, ws, rfl, g, a⟩ := rs.lstOf rx e0
  exact ⟨_, bs, rfl, bools_of a e2 ▸ SqL.of g, k ρ _ H (Nx.refl rs) (.bl _)⟩
theorem bt_all : bootBuiltins "all" = some (.builtin "all") := by decide +kernel
theorem bt_any : bootBuiltins "any" = some (.builtin "any") := by decide +kernel
end
end L2
namespace Qm
open PySem
noncomputable section
def gAddK : G2 := fun x y c => match x with
  | .ref n => (match c[n]? with
    | some (.ro xs) => (lstOf y c).bind fun q => if xs.length + q.2.length ≤ LINE then some (.ref c.length, c ++ [.lst (xs ++ q.2)]) else none
    | _ => none)
  | _ => none
open Classical in
def gPowB : G2 := ii fun i j => if 0 ≤ j ∧ j ≤ 100 ∧ My.Bd 8900 i then some (.int (i ^ j.toNat)) else none
end
end Qm
namespace L2
open PySem PySem.Spec PyProof.Rows
section
variable {X : Cx}
def CPowB (i j : Int) : Prop := 0 ≤ j ∧ (Builtin.Int.intBits i : Int) * j ≤ 2 ^ 27
theorem op_powB : OpR X (binaryOp .Pow) (rI CPowB fun i j => .int (i ^ j.toNat)) := opI fun _ _ _ _ _ _ _ hc q => pow_int hc.1 hc.2 q
theorem lk_powB {K : PySem.W.Frag} : Lk2 K (rI CPowB fun i j => .int (i ^ j.toNat)) Qm.gPowB := lk_int fun i j d e => by
  split at e
  · rename_i h
    cases e
    refine ⟨⟨h.1, ?_⟩, fun _ _ _ => .int _⟩
    have b := My.bits_le h.2.2
    have e27 : (2 : Int) ^ 27 = 134217728 := by decide
    have : (Builtin.Int.intBits i : Int) * j ≤ 9000 * 100 := Int.mul_le_mul (by omega) h.2.1 h.1 (by decide)
    omega
  · cases e
def rCatK (K : PySem.W.Frag) : R2 := fun x y H Q => ∃ l b xs zs, x = .ref l ∧ y = .ref b ∧ SqL K H l xs ∧ H b = some (.lst zs) ∧ xs.length + zs.length ≤ sizeLine ∧ ∀ p, H p = none → Q (.ref p) (upd H p (.lst (xs ++ zs)))
end
end L2
namespace L2
open PySem PySem.Spec PyProof.Rows
def gtL : List Int → List Int → Bool
  | [], _ => false
  | _ :: _, [] => true
  | a :: r, b :: t => if a = b then gtL r t else decide (a > b)
section
variable {prog : Program} {w : World} {A : Around} {E : Value → Shared → Prop} {s : Shared}
end
section
variable {X : Cx}
def rGtT (K : PySem.W.Frag) : R2 := fun x y H Q => ∃ p q ns ms, x = .ref p ∧ y = .ref q ∧ SqT K H p (ns.map V.int) ∧ SqT K H q (ms.map V.int) ∧ Q (.bl (gtL ns ms)) H
end
end L2
namespace L2
open PySem PySem.Spec PyProof.Rows
section
variable {prog : Program} {w : World} {A : Around}
end
section
variable {X : Cx}
end
end L2
namespace L2
open PySem PySem.Spec PyProof.Rows PySem.W
section
variable {X : Cx} {pins : List (Addr × Obj)} {σ : St} {H : Hp} {s : Shared}
end
section
variable {prog : Program} {w : World} {A : Around} {s : Shared} {Q : Bool → Shared → Prop}
end
section
variable {X : Cx}
end
end L2
namespace L2
open PySem PySem.Spec PyProof.Rows
section
variable {prog : Program} {w : World} {A : Around} {E : Value → Shared → Prop}
end
section
variable {X : Cx} {pos : Pos}
def gLst (K : PySem.W.Frag) (n : Nat) (t : TGs) : TG := fun v σ H Q => ∃ a xs, v = .ref a ∧ SqL K H a xs ∧ xs.length = n ∧ t xs σ H Q
end
end L2
namespace Qm
open PySem
noncomputable section
def gtL : List Int → List Int → Bool
  | [], _ => false
  | _ :: _, [] => true
  | a :: r, b :: t => if a = b then gtL r t else decide (a > b)
def nums (xs : List D) : Option (List Int) := omap asI xs
def gGtT : G2 := fun x y c => match x, y with
  | .tup xs, .tup ys => (nums xs).bind fun ns => (nums ys).bind fun ms => some (.bl (gtL ns ms), c)
  | _, _ => none
def bMax2T : FN := fun ds c => match ds with
  | [.tup xs, .tup ys] => (nums xs).bind fun ns => (nums ys).bind fun ms => some (if gtL ms ns = true then .tup ys else .tup xs, c)
  | _ => none
def bMin2T : FN := fun ds c => match ds with
  | [.tup xs, .tup ys] => (nums xs).bind fun ns => (nums ys).bind fun ms => some (if gtL ns ms = true then .tup ys else .tup xs, c)
  | _ => none
def two2T (xs : List D) : Option (List D × List D × List Int × List Int) := match xs with
  | [.tup xs, .tup ys] => (nums xs).bind fun ns => (nums ys).bind fun ms => if ns ≠ [] ∧ ms ≠ [] then some (xs, ys, ns, ms) else none
  | _ => none
def bSorted2 : FN := fun ds c => match ds with
  | [.ref l] => (seqOf (.ref l) c).bind fun zs => (two2T zs).bind fun q => some (.ref c.length, c ++ [.lst (if gtL q.2.2.1 q.2.2.2 = true then [.tup q.2.1, .tup q.1] else [.tup q.1, .tup q.2.1])])
  | _ => none
def gIsT : G2 := fun x y c => match x, y with
  | .bl b, .bl true => some (.bl b, c)
  | _, _ => none
def gUnL (n : Nat) (gs : XGs) : XG := fun d σ c => (lstOf d c).bind fun l => if l.2.length = n then gs l.2 σ c else none
end
end Qm
namespace L2
open PySem PySem.Spec PyProof.Rows
section
variable {K : PySem.W.Frag}
end
section
variable {X : Cx} {pos : Pos} {es : List Expr}
end
end L2
namespace Qm
open PySem
noncomputable section
def asS (d : D) : Option Str := match d with
  | .str x => some x
  | _ => none
def gAddS : G2 := fun x y c => (asS x).bind fun a => (asS y).bind fun b => if a.length + b.length ≤ LINE then some (.str (a ++ b), c) else none
def gIxS : G2 := fun x y c => (asS x).bind fun a => (asI y).bind fun i => if a.length ≤ LINE then (atD a.cps.toList i).bind fun k => some (.str ⟨#[k]⟩, c) else none
def dcOf (d : D) (c : Cells) : Option (Nat × List (Str × D)) := match d with
  | .ref n => (match c[n]? with
    | some (.dct ps) => some (n, ps)
    | _ => none)
  | _ => none
def dAt {α : Type} (ps : List (Str × α)) (k : Str) : Option α := (ps.find? fun p => decide (p.1 = k)).map (·.2)
def dPut {α : Type} (ps : List (Str × α)) (k : Str) (d : α) : List (Str × α) :=
  if (ps.any fun p => decide (p.1 = k)) = true then ps.map (fun p => if p.1 = k then (p.1, d) else p) else ps ++ [(k, d)]
def eDNew : XE := fun _ c => some (.ref c.length, c ++ [.dct []])
def eDisp2 (k v l u : Str) : XE := fun _ c => some (.ref c.length, c ++ [.dct [(k, .str v), (l, .str u)]])
def eDIx (o k : XE) : XE := fun σ c => (o σ c).bind fun p => (k σ p.2).bind fun q => (dcOf p.1 q.2).bind fun l => (asS q.1).bind fun x => (dAt l.2 x).bind fun d => some (d, q.2)
def eDGet1 (o k : XE) : XE := fun σ c => (o σ c).bind fun p => (dcOf p.1 p.2).bind fun _ => (k σ p.2).bind fun q => (dcOf p.1 q.2).bind fun l => (asS q.1).bind fun x => some ((dAt l.2 x).getD .non, q.2)
def eDGet2 (o k z : XE) : XE := fun σ c => (o σ c).bind fun p => (dcOf p.1 p.2).bind fun _ => (k σ p.2).bind fun q => (z σ q.2).bind fun r => (dcOf p.1 r.2).bind fun l => (asS q.1).bind fun x => some ((dAt l.2 x).getD r.1, r.2)
def sDPut (o k v : XE) : XS := fun σ c => (v σ c).bind fun w => (o σ w.2).bind fun p => (k σ p.2).bind fun q => (dcOf p.1 q.2).bind fun l => (asS q.1).bind fun x => if l.2.length < LINE then some (.nx, σ, q.2.set l.1 (.dct (dPut l.2 x w.1))) else none
def bDict : FN := one fun x c => (dcOf x c).bind fun l => some (.ref c.length, c ++ [.dct l.2])
def pdata (c : Cells) (ps : List (Str × D)) : Option (List (Str × PyData)) := omap (fun p => (data c 5 p.2).bind fun d => some (p.1, d)) ps
open Classical in
def eqPs (xs ys : List (Str × PyData)) : Bool := xs.length == ys.length && xs.all fun p => match dAt ys p.1 with
  | some e => decide (p.2 = e)
  | none => false
def eqDM (x y : D) (c : Cells) : Option Bool := (dcOf x c).bind fun l => (dcOf y c).bind fun m => (pdata c l.2).bind fun a => (pdata c m.2).bind fun b => some (eqPs a b)
def gEqDc : G2 := fun x y c => (eqDM x y c).bind fun b => some (.bl b, c)
def gNeDc : G2 := fun x y c => (eqDM x y c).bind fun b => some (.bl (!b), c)
def gIsF : G2 := fun x y c => match x, y with
  | .bl b, .bl false => some (.bl (!b), c)
  | _, _ => none
end
end Qm
namespace PySem
open Sem (wp)
section
variable {prog : Program} {w : World} {K : Type} [DecidableEq K] {knd : KeyKind prog w K} {A : Around} {E : Value → Shared → Prop} {s : Shared}
theorem findIdx_toList {α : Type} (es : Array α) (p : α → Bool) : es.toList.findIdx? p = es.findIdx? p := by obtain ⟨l⟩ := es; simp
theorem Pairs.entry {es : List DictEntry} {kvs : List (K × Value)} (h : Pairs knd es kvs) : ∀ {i : Nat} {e : DictEntry}, es[i]? = some e → ∃ kv, kvs[i]? = some kv ∧ knd.is kv.1 e.key = true ∧ e.val = kv.2 := by
  induction h with
  | nil => intro i e h; simp at h
  | @cons e0 kv es kvs h1 h2 _ ih =>
    intro i e h
    cases i with
    | zero => simp at h; subst h; exact ⟨kv, rfl, h1, h2⟩
    | succ i => exact ih (by simpa using h)
theorem samePairs_wp {nm : String} {a b : Addr} {xs ys : List (K × Value)} (e : Nat → Bool) {Q : Bool → Shared → Prop}
    (ha : s.heap.DictOf knd a xs) (hb : s.heap.DictOf knd b ys) (sa : (a == sysModules) = false) (sb : (b == sysModules) = false)
    (he : ∀ i kv, xs[i]? = some kv → (valueAt ys kv.1 = none ∧ e i = false) ∨ ∃ v, valueAt ys kv.1 = some v ∧ SeqAt.EqAt A s kv.2 v (e i))
    (h : Q (xs.length == ys.length && (List.range xs.length).all e) s) : wpAny (model prog w) A (Builtin.Dict.samePairs nm a b) Q E s := by
  obtain ⟨oa, ea, pa, hoa, xa, hda, hka, hpa, hna⟩ := ha
  obtain ⟨ob, eb, pb, hob, xb, hdb, hkb, hpb, hnb⟩ := hb
  have la : ea.size = xs.length := by rw [← hpa.length]; simp
  have lb : eb.size = ys.length := by rw [← hpb.length]; simp
  unfold Builtin.Dict.samePairs Builtin.Dict.showsAll
  rw [if_neg (by rw [sa]; exact Bool.false_ne_true)]
  refine wpAny_bind (wpAny_pure ?_)
  rw [if_neg (by rw [sb]; exact Bool.false_ne_true)]
  refine wpAny_bind (wpAny_pure ?_)
  refine wpAny_bind (wpAny_dictEntries hoa hda ?_)
  refine wpAny_bind (wpAny_dictEntries hob hdb ?_)
  by_cases hl : xs.length = ys.length
  · rw [if_neg (by rw [la, lb, hl]; simp)]
    refine wpAny_bind (wpAny_dictEpoch hoa hda ?_)
    refine wpAny_bind ?_
    rw [Std.Legacy.Range.forIn_eq_forIn_range']
    simp only [Std.Legacy.Range.size, Nat.sub_zero, Nat.add_sub_cancel, Nat.div_one]
    rw [hl, BEq.rfl, Bool.true_and] at h
    refine wpAny_forIn_list _ (fun rest r s' => s' = s ∧ r = (none, ()) ∧ ∃ i, rest = List.range' i (ea.size - i) ∧ i ≤ ea.size ∧ ∀ j, j < i → e j = true) _ ?_ ?_ _ _ ⟨rfl, rfl, 0, by simp, Nat.zero_le _, fun _ h => absurd h (Nat.not_lt_zero _)⟩
    · rintro x rest' r s' ⟨rfl, rfl, i, hr, hi, hno⟩
      have hlt : i < ea.size := by
        rcases Nat.lt_or_ge i ea.size with h | h
        · exact h
        · rw [Nat.sub_eq_zero_of_le h] at hr; simp at hr
      obtain ⟨rfl, hrest⟩ : x = i ∧ rest' = List.range' (i + 1) (ea.size - (i + 1)) := by
        have e : ea.size - i = (ea.size - (i + 1)) + 1 := by omega
        rw [e, List.range'_succ] at hr
        injection hr with h1 h2
        exact ⟨h1, h2⟩
      refine wpAny_bind (wpAny_dictEntries hoa hda ?_)
      rw [Array.getElem?_eq_getElem hlt]
      obtain ⟨kv, hkv, hkey, hval⟩ := hpa.entry (i := x) (e := ea[x]) (by rw [List.getElem?_eq_getElem (by simpa using hlt)]; simp)
      obtain ⟨k', hkey', hhash⟩ := hka ea[x] (Array.getElem_mem hlt)
      have ek : k' = kv.1 := knd.inj _ _ _ hkey' hkey
      subst ek
      have out : ∀ (c : Bool) (P : ForInStep (Option Bool × Unit) → Shared → Prop), (c = true → P (.yield (none, ())) s') → (c = false → P (.done (some false, ())) s') → wpAny (model prog w) A (if (!c) = true then pure (ForInStep.done (some false, ())) else do
              let __do_lift ← dictEpoch a
              if (__do_lift != pa) = true then do
                  unsupported (toString nm ++ toString ":changed-during-callback")
                  pure (ForInStep.yield (none, ()))
                else pure (ForInStep.yield (none, ()))) P E s' := by
        intro c P h1 h2
        cases c with
        | false =>
          rw [if_pos (by rfl)]
          exact wpAny_pure (h2 rfl)
        | true =>
          rw [if_neg (by decide)]
          refine wpAny_bind (wpAny_dictEpoch hoa hda ?_)
          rw [if_neg (by simp)]
          exact wpAny_pure (h1 rfl)
      have yes : e x = true → ∀ j, j < x + 1 → e j = true := fun hc j hj => by
        rcases Nat.lt_or_ge j x with h1 | h1
        · exact hno j h1
        · rw [show j = x by omega]; exact hc
      have no : e x = false → Q false s' := fun hc => by
        have : (List.range ys.length).all e = false := by
          rw [List.all_eq_false]
          exact ⟨x, by rw [List.mem_range]; omega, by rw [hc]; exact Bool.false_ne_true⟩
        rw [this] at h
        exact h
      refine wpAny_bind (wpAny_holding ?_)
      rw [hhash]
      refine wpAny_bind (wpAny_dictFind_of hkey' hob hdb hkb ?_)
      rcases he x kv hkv with ⟨h1, h2⟩ | ⟨v, h1, h2⟩
      · have hf : (eb.findIdx? fun e => knd.is kv.1 e.key) = none := by
          have := hpb.find kv.1
          rw [h1] at this
          rw [← findIdx_toList]
          rw [List.findIdx?_eq_none_iff]
          rw [Option.map_eq_none_iff, List.find?_eq_none] at this
          intro y hy
          have := this y hy
          simpa using this
        rw [hf]
        exact wpAny_pure (out false _ (fun z => nomatch z) (fun _ => wpAny_pure (no h2)))
      · cases hf : (eb.findIdx? fun e => knd.is kv.1 e.key) with
        | none =>
          exfalso
          rw [← findIdx_toList, List.findIdx?_eq_none_iff] at hf
          have := hpb.find kv.1
          rw [h1] at this
          obtain ⟨y, hy, _⟩ := Option.map_eq_some_iff.mp this
          have h3 := hf y (List.mem_of_find?_eq_some hy)
          have h4 := List.find?_some hy
          rw [h3] at h4; exact Bool.false_ne_true h4
        | some j =>
          rw [← findIdx_toList] at hf
          obtain ⟨f, hf1, hf2, hf3⟩ := hpb.at hf
          rw [h1] at hf3
          refine wpAny_bind (wpAny_dictEntries hob hdb ?_)
          rw [show eb[j]? = some f by rw [← Array.getElem?_toList]; exact hf1]
          refine wpAny_holding ?_
          rw [hval]
          cases hf3
          exact h2 prog w E _ (out (e x) _ (fun z => ⟨rfl, rfl, x + 1, hrest, hlt, yes z⟩) (fun z => wpAny_pure (no z)))
    · rintro r s' ⟨rfl, rfl, i, hr, hi, hno⟩
      have hin : i = ea.size := by
        rcases Nat.lt_or_ge i ea.size with h | h
        · have e : ea.size - i = (ea.size - (i + 1)) + 1 := by omega
          rw [e, List.range'_succ] at hr; exact nomatch hr
        · exact Nat.le_antisymm hi h
      refine wpAny_pure ?_
      have : (List.range ys.length).all e = true := by
        rw [List.all_eq_true]
        intro j hj
        rw [List.mem_range] at hj
        exact hno j (by omega)
      rw [this] at h
      exact h
  · rw [if_pos (by rw [la, lb]; simpa using hl)]
    refine wpAny_bind (wpAny_rule (wpAny_pure ?_))
    have : (xs.length == ys.length) = false := by simpa using hl
    rw [this, Bool.false_and] at h
    exact h
theorem sub_dict_dict : isSubtype (.type "dict") (.type "dict") = pure true := by rw [isSubtype_type]; kernel_rfl
theorem meets_dict_eq {a b : Addr} (e : Nat → Bool) (sa : (a == sysModules) = false) (sb : (b == sysModules) = false) :
    MeetsIn prog w (Builtin.«dict.__eq__» ⟨[.ref a, .ref b], []⟩) (fun A R s => ∃ xs ys, s.heap.DictOf knd a xs ∧ s.heap.DictOf knd b ys ∧
      (∀ i kv, xs[i]? = some kv → (valueAt ys kv.1 = none ∧ e i = false) ∨ ∃ v, valueAt ys kv.1 = some v ∧ SeqAt.EqAt A.in1 s kv.2 v (e i)) ∧ R (.ok (.ret (.bool (xs.length == ys.length && (List.range xs.length).all e)))) s) :=
  .of_wp fun A R s ⟨xs, ys, ha, hb, he, h⟩ => by
    show wpAny _ _ (Builtin.Dict.dictSlotArgs "__eq__" ⟨[.ref a, .ref b], []⟩ >>= _) _ _ s
    refine wpAny_bind ?_
    unfold Builtin.Dict.dictSlotArgs
    refine wpAny_bind (wpAny_notOrdered_dict ha.typeIs ?_)
    show wpAny _ _ (pure (Value.ref a, Value.ref b)) _ _ s
    refine wpAny_pure ?_
    refine wpAny_bind (wpAny_isInstance (b := true) hb.typeIs sub_dict_dict ?_)
    rw [if_neg (by decide)]
    refine wpAny_bind (wpAny_pure ?_)
    refine wpAny_bind (wpAny_pure ?_)
    refine wpAny_bind (samePairs_wp e ha hb sa sb he ?_)
    refine wpAny_pure ⟨_, rfl, ?_⟩
    rw [beq_true]
    exact h
theorem dict_eqW {a b : Addr} {xs ys : List (K × Value)} (e : Nat → Bool) {Q : Value → Shared → Prop} (ha : s.heap.DictOf knd a xs) (hb : s.heap.DictOf knd b ys) (sa : (a == sysModules) = false) (sb : (b == sysModules) = false) (hu : A.units < cLine)
    (he : ∀ i kv, xs[i]? = some kv → (valueAt ys kv.1 = none ∧ e i = false) ∨ ∃ v, valueAt ys kv.1 = some v ∧ SeqAt.EqAt A.in1 s kv.2 v (e i))
    (h : Q (.bool (xs.length == ys.length && (List.range xs.length).all e)) s) : wpAny (model prog w) A (richCompare .Eq (.ref a) (.ref b)) Q E s :=
  wpAny_richCompare_same_room (op := .Eq) ha.typeIs hb.typeIs F.slot_dict_eq (call_meetsIn F.slot_dict_eq ha.typeIs F.entry_dict_eq (F.args_dict_eq_2 _ _) (meets_dict_eq (knd := knd) e sa sb) ⟨xs, ys, ha, hb, he, (fun x => nomatch x), h⟩) hu
end
end PySem
namespace L2
open PySem PySem.Spec PyProof.Rows
section
variable {K : PySem.W.Frag} {ρ ρ' : Nat → Addr} {N : Nat} {c c' : Qm.Cells} {H H' : Hp}
theorem asS_of {d : Qm.D} {i : Str} (h : Qm.asS d = some i) : d = .str i := by
  unfold Qm.asS at h
  split at h
  · cases h; rfl
  · cases h
theorem RD.str' {i : Str} {v : V} (h : RD K ρ N H (.str i) v) : v = .str i := by cases h; rfl
theorem RK.length : ∀ {ps : List (Str × Qm.D)} {us : List (Key × V)}, RK K ρ N H ps us → ps.length = us.length
  | _, _, .nil => rfl
  | _, _, .cons _ a => congrArg (· + 1) (RK.length a)
theorem RK.val : ∀ {ps : List (Str × Qm.D)} {us : List (Key × V)}, RK K ρ N H ps us → ∀ k, (Qm.dAt ps k = none ∧ valV us (.inr k) = none) ∨ ∃ d v, Qm.dAt ps k = some d ∧ valV us (.inr k) = some v ∧ RD K ρ N H d v
  | _, _, .nil, k => .inl ⟨rfl, rfl⟩
  | _, _, .cons (k := k') (d := d) (x := x) h a, k => by
    by_cases e : k' = k
    · subst e
      exact .inr ⟨d, x, by simp [Qm.dAt], by rw [valV_pos rfl], h⟩
    · have e' : ¬ (Sum.inr k' : Key) = .inr k := fun z => e (Sum.inr.inj z)
      rcases RK.val a k with ⟨h1, h2⟩ | ⟨d', v', h1, h2, h3⟩
      · exact .inl ⟨by simpa [Qm.dAt, List.find?_cons, e] using h1, by rw [valV_neg e']; exact h2⟩
      · exact .inr ⟨d', v', by simpa [Qm.dAt, List.find?_cons, e] using h1, by rw [valV_neg e']; exact h2, h3⟩
theorem RK.any : ∀ {ps : List (Str × Qm.D)} {us : List (Key × V)}, RK K ρ N H ps us → ∀ k, (ps.any fun p => decide (p.1 = k)) = us.any fun kv => decide (kv.1 = .inr k)
  | _, _, .nil, _ => rfl
  | _, _, .cons (k := k') h a, k => by
    rw [List.any_cons, List.any_cons, RK.any a k]
    congr 1
    by_cases e : k' = k
    · subst e; simp
    · have e' : ¬ (Sum.inr k' : Key) = .inr k := fun z => e (Sum.inr.inj z)
      simp [e]
theorem RK.repl {d : Qm.D} {v : V} (r : RD K ρ N H d v) : ∀ {ps : List (Str × Qm.D)} {us : List (Key × V)}, RK K ρ N H ps us → ∀ k, RK K ρ N H (ps.map fun p => if p.1 = k then (p.1, d) else p) (us.map fun kv => if kv.1 = .inr k then (kv.1, v) else kv)
  | _, _, .nil, _ => .nil
  | _, _, .cons (k := k') h a, k => by
    rw [List.map_cons, List.map_cons]
    by_cases e : k' = k
    · subst e
      rw [if_pos rfl, if_pos rfl]
      exact .cons r (RK.repl r a _)
    · have e' : ¬ (Sum.inr k' : Key) = .inr k := fun z => e (Sum.inr.inj z)
      rw [if_neg e, if_neg e']
      exact .cons h (RK.repl r a _)
theorem RK.append : ∀ {ps qs : List (Str × Qm.D)} {us vs : List (Key × V)}, RK K ρ N H ps us → RK K ρ N H qs vs → RK K ρ N H (ps ++ qs) (us ++ vs)
  | _, _, _, _, .nil, b => b
  | _, _, _, _, .cons h a, b => .cons h (RK.append a b)
theorem RK.put {d : Qm.D} {v : V} (r : RD K ρ N H d v) {ps : List (Str × Qm.D)} {us : List (Key × V)} (a : RK K ρ N H ps us) (k : Str) : RK K ρ N H (Qm.dPut ps k d) (putK us (.inr k) v) := by
  unfold Qm.dPut putK
  rw [RK.any a k]
  split
  · exact RK.repl r a k
  · exact a.append (.cons r .nil)
theorem RS.dct (r : RS K ρ c H) {n : Nat} {ps : List (Str × Qm.D)} (h : c[n]? = some (.dct ps)) : ∃ us, H (ρ n) = some (.dK us) ∧ RK K ρ c.length H ps us := r.ok n _ h
theorem RS.dcOf (r : RS K ρ c H) {d : Qm.D} {n : Nat} {ps : List (Str × Qm.D)} {v : V} (h : RD K ρ c.length H d v) (e : Qm.dcOf d c = some (n, ps)) : d = .ref n ∧ c[n]? = some (.dct ps) ∧ ∃ us, v = .ref (ρ n) ∧ H (ρ n) = some (.dK us) ∧ RK K ρ c.length H ps us := by
  unfold Qm.dcOf at e
  split at e
  · obtain ⟨rfl, hn⟩ := h.ref'
    split at e
    · rename_i xs hx
      cases e
      obtain ⟨vs, h1, h2⟩ := r.dct hx
      exact ⟨rfl, hx, vs, rfl, h1, h2⟩
    · cases e
  · cases e
end
section
variable {X : Cx} {a b e : Expr} {es : List Expr} {fa fb fc fe : Qm.XE} {pos apos cpos : Pos}
theorem lk_addS {K : PySem.W.Frag} : Lk2 K (fun x y H Q => ∃ i j, x = .str i ∧ y = .str j ∧ i.length + j.length ≤ sizeLine ∧ Q (.str (i ++ j)) H) Qm.gAddS := by
  intro ρ c H x y d c' v u Q rs rx ry e k
  obtain ⟨i, e1, e⟩ := bnd e
  obtain ⟨j, e2, e⟩ := bnd e
  split at e
  · rename_i h
    cases e
    cases asS_of e1; cases asS_of e2
    cases rx.str'; cases ry.str'
    exact ⟨i, j, rfl, rfl, line_le h, k ρ _ H (Nx.refl rs) (.str _)⟩
  · cases e
theorem lk_ixS {K : PySem.W.Frag} : Lk2 K rIxS Qm.gIxS := by
  intro ρ c H x y d c' v u Q rs rx ry e k
  obtain ⟨i, e1, e⟩ := bnd e
  obtain ⟨j, e2, e⟩ := bnd e
  split at e
  · rename_i h
    obtain ⟨z, e3, e⟩ := bnd e
    cases e
    cases asS_of e1; cases asI_of e2
    cases rx.str'; cases ry.int'
    exact ⟨i, j, z, rfl, rfl, line_le h, e3, k ρ _ H (Nx.refl rs) (.str _)⟩
  · cases e
theorem qe_itemS (ha : QE X a fa) (hb : QE X b fb) (hs : PlainIx b) : QE X (.Subscript a b pos) (Qm.e2 Qm.gIxS fa fb) := qe_ix ix_str lk_ixS ha hb hs
theorem qe_dnew : QE X (.Dict [] [] pos) Qm.eDNew := pe_dnewK.imp fun σ H Q ⟨ρ, env, c, d, c', rs, re, e, k⟩ => by
  cases e
  intro p hp
  obtain ⟨n, r⟩ := Nx.dalloc rs hp .nil
  exact k _ _ _ n r
theorem qe_disp2 {k v l u : Str} {j1 j2 j3 j4} {p1 p2 p3 p4 : Pos} (hkl : k ≠ l) : QE X (.Dict [some (.Constant (.str k) j1 p1), some (.Constant (.str l) j3 p3)] [.Constant (.str v) j2 p2, .Constant (.str u) j4 p4] pos) (Qm.eDisp2 k v l u) := by
  have P1 : PPs X pos [some (.Constant (.str k) j1 p1), some (.Constant (.str l) j3 p3)] [.Constant (.str v) j2 p2, .Constant (.str u) j4 p4] [(tC (.str k), tC (.str v)), (tC (.str l), tC (.str u))] := pps_cons pe_str pe_str (pps_cons pe_str pe_str pps_nil)
  have P2 := pe_disp P1 rfl rfl (List.cons_ne_nil _ _) (show 2 ≤ 15 by decide)
  refine P2.imp fun σ H Q hQ => ?_
  obtain ⟨ρ, env, c, d, c', rs, re, e, hk⟩ := hQ
  unfold Qm.eDisp2 at e
  cases e
  intro p hp
  show upd H p (.dK []) p = some (.dK []) ∧ ∃ kvs : List (Key × V), [(V.str k, V.str v), (V.str l, V.str u)] = kvs.map (fun kv => (kV kv.1, kv.2)) ∧ kvs.length ≤ 15 ∧ Q (.ref p) (upd (upd H p (.dK [])) p (.dK (mergeK [] kvs)))
  refine ⟨upd_same, [(.inr k, .str v), (.inr l, .str u)], rfl, (by decide : 2 ≤ 15), ?_⟩
  have hm : mergeK [] [((.inr k : Key), V.str v), (.inr l, .str u)] = [(.inr k, .str v), (.inr l, .str u)] := by
    have : ¬ (Sum.inr k : Key) = .inr l := fun z => hkl (Sum.inr.inj z)
    simp [mergeK, putK, this, hkl]
  have hup : upd (upd H p (.dK [])) p (.dK (mergeK [] [(.inr k, V.str v), (.inr l, .str u)])) = upd H p (.dK [(.inr k, .str v), (.inr l, .str u)]) := by
    rw [hm]
    funext q
    by_cases hq : q = p
    · subst hq; rw [upd_same, upd_same]
    · rw [upd_ne hq, upd_ne hq, upd_ne hq]
  rw [hup]
  obtain ⟨n, r⟩ := Nx.dalloc rs hp (.cons (k := k) (.str v) (.cons (k := l) (.str u) .nil))
  exact hk _ _ _ n r
theorem qe_dix (hu : X.A.units + 64 < cLine) (ha : QE X a fa) (hb : QE X b fb) (hs : NoSl b) : QE X (.Subscript a b pos) (Qm.eDIx fa fb) := (pe_dget (by omega) ha hb hs).imp fun σ H Q ⟨ρ, env, c, d, c', rs, re, e, k⟩ => by
  obtain ⟨p, e1, e⟩ := bnd e
  obtain ⟨q, e2, e⟩ := bnd e
  obtain ⟨l, e3, e⟩ := bnd e
  obtain ⟨x, e4, e⟩ := bnd e
  obtain ⟨z, e5, e⟩ := bnd e
  cases e
  refine ⟨ρ, env, c, p.1, p.2, rs, re, e1, fun ρ1 v H1 n1 r1 => ⟨ρ1, env, p.2, q.1, q.2, n1.rs, re.up n1.up, e2, fun ρ2 u H2 n2 r2 => ?_⟩⟩
  rw [asS_of e4] at r2
  cases r2.str'
  obtain ⟨_, hc, us, rfl, h1, a1⟩ := n2.rs.dcOf (r1.up n2.up) e3
  rcases a1.val x with ⟨h2, _⟩ | ⟨d', v', h2, h3, h4⟩
  · rw [h2] at e5; cases e5
  · rw [h2] at e5; cases e5
    exact ⟨_, v', rfl, by have := DGet.k (k := .inr x) h1; rw [h3] at this; exact this, k ρ2 _ H2 (n1.trans n2) h4⟩
theorem qe_dget1 (hu : X.A.units + 64 < cLine) (ha : QE X a fa) (hb : QE X b fb) (hbase : attributeBase a "get" X.env (eval a X.env) = eval a X.env := by rfl) (hfew : ((backTo cpos (starEach [b] X.env)).all (fun x => !x.1) && (backToKw cpos (keywordEach [] X.env)).all (fun x => x.1.isSome)
    && decide (([b] : List Expr).length + ([] : List Keyword).length + (if ([] : List Keyword).isEmpty then 0 else 1) < 30)) = true := by rfl) (hline : (apos.endLine == cpos.line) = true := by rfl) (ht : backTo cpos (starEach [b] X.env) = [(false, eval b X.env)] := by rfl) :
    QE X (.Call (.Attribute a "get" apos) [b] [] cpos) (Qm.eDGet1 fa fb) := (pe_dget1 (by omega) ha hb ⟨hbase, hfew, hline, ht⟩).imp fun σ H Q ⟨ρ, env, c, d, c', rs, re, e, k⟩ => by
  obtain ⟨p, e1, e⟩ := bnd e
  obtain ⟨l0, e0, e⟩ := bnd e
  obtain ⟨q, e2, e⟩ := bnd e
  obtain ⟨l, e3, e⟩ := bnd e
  obtain ⟨x, e4, e⟩ := bnd e
  cases e
  refine ⟨ρ, env, c, p.1, p.2, rs, re, e1, fun ρ1 v H1 n1 r1 => ?_⟩
  obtain ⟨_, _, us0, rfl, g1, _⟩ := n1.rs.dcOf r1 e0
  refine ⟨_, rfl, .inl ⟨us0, .inl g1⟩, ρ1, env, p.2, q.1, q.2, n1.rs, re.up n1.up, e2, fun ρ2 u H2 n2 r2 => ?_⟩
  rw [asS_of e4] at r2
  cases r2.str'
  obtain ⟨_, hc, us, hv, h1, a1⟩ := n2.rs.dcOf (r1.up n2.up) e3
  rw [← V.ref.inj hv] at h1
  refine ⟨_, DGet.k h1 (k := .inr x), k ρ2 _ H2 (n1.trans n2) ?_⟩
  rcases a1.val x with ⟨h2, h3⟩ | ⟨d', v', h2, h3, h4⟩
  · rw [h2, h3]; exact .non
  · rw [h2, h3]; exact h4
theorem qe_dget2 (hu : X.A.units + 64 < cLine) (ha : QE X a fa) (hb : QE X b fb) (he : QE X e fe) (hbase : attributeBase a "get" X.env (eval a X.env) = eval a X.env := by rfl) (hfew : ((backTo cpos (starEach [b, e] X.env)).all (fun x => !x.1) && (backToKw cpos (keywordEach [] X.env)).all (fun x => x.1.isSome)
    && decide (([b, e] : List Expr).length + ([] : List Keyword).length + (if ([] : List Keyword).isEmpty then 0 else 1) < 30)) = true := by rfl) (hline : (apos.endLine == cpos.line) = true := by rfl) (ht : backTo cpos (starEach [b, e] X.env) = [(false, eval b X.env), (false, eval e X.env)] := by rfl) :
    QE X (.Call (.Attribute a "get" apos) [b, e] [] cpos) (Qm.eDGet2 fa fb fe) := (pe_dget2 (by omega) ha hb he ⟨hbase, hfew, hline, ht⟩).imp fun σ H Q ⟨ρ, env, c, d, c', rs, re, e, k⟩ => by
  obtain ⟨p, e1, e⟩ := bnd e
  obtain ⟨l0, e0, e⟩ := bnd e
  obtain ⟨q, e2, e⟩ := bnd e
  obtain ⟨r, e5, e⟩ := bnd e
  obtain ⟨l, e3, e⟩ := bnd e
  obtain ⟨x, e4, e⟩ := bnd e
  cases e
  refine ⟨ρ, env, c, p.1, p.2, rs, re, e1, fun ρ1 v H1 n1 r1 => ?_⟩
  obtain ⟨_, _, us0, rfl, g1, _⟩ := n1.rs.dcOf r1 e0
  refine ⟨_, rfl, .inl ⟨us0, .inl g1⟩, ρ1, env, p.2, q.1, q.2, n1.rs, re.up n1.up, e2, fun ρ2 u H2 n2 r2 => ?_⟩
  rw [asS_of e4] at r2
  cases r2.str'
  refine ⟨ρ2, env, q.2, r.1, r.2, n2.rs, re.up (n1.trans n2).up, e5, fun ρ3 z H3 n3 r3 => ?_⟩
  obtain ⟨_, hc, us, hv, h1, a1⟩ := n3.rs.dcOf ((r1.up n2.up).up n3.up) e3
  rw [← V.ref.inj hv] at h1
  refine ⟨_, DGet.k h1 (k := .inr x), k ρ3 _ H3 (n1.trans (n2.trans n3)) ?_⟩
  rcases a1.val x with ⟨h2, h3⟩ | ⟨d', v', h2, h3, h4⟩
  · rw [h2, h3]; exact r3
  · rw [h2, h3]; exact h4
theorem qs_dput {o i value : Expr} {fo fi fv : Qm.XE} {pos' : Pos} (hu : X.A.units + 64 < cLine) (ho : QE X o fo) (hi : QE X i fi) (hv : QE X value fv) (hs : swapsWith value (some (.Subscript o i pos')) pos.line X.env = pure false := by rfl) :
    QS X (.Assign [.Subscript o i pos'] value pos) (Qm.sDPut fo fi fv) := (ps_dput (by omega) ho hi hv hs).imp fun D σ H ⟨ρ, env, c, fl, env', c', rs, re, e, k⟩ => by
  obtain ⟨w, e1, e⟩ := bnd e
  obtain ⟨p, e2, e⟩ := bnd e
  obtain ⟨q, e3, e⟩ := bnd e
  obtain ⟨l, e4, e⟩ := bnd e
  obtain ⟨x, e5, e⟩ := bnd e
  split at e
  · rename_i hz
    cases e
    refine ⟨ρ, env, c, w.1, w.2, rs, re, e1, fun ρ1 v H1 n1 r1 => ⟨ρ1, env, w.2, p.1, p.2, n1.rs, re.up n1.up, e2, fun ρ2 u H2 n2 r2 => ⟨ρ2, env, p.2, q.1, q.2, n2.rs, re.up (n1.trans n2).up, e3, fun ρ3 y H3 n3 r3 => ?_⟩⟩⟩
    rw [asS_of e5] at r3
    cases r3.str'
    obtain ⟨_, hc, us, hv, h1, a1⟩ := n3.rs.dcOf (r2.up n3.up) e4
    cases hv
    have n4 := Nx.dput n3.rs hc (RK.put ((r1.up n2.up).up n3.up) a1 x)
    have nn := n1.trans (n2.trans (n3.trans n4))
    exact ⟨_, _, rfl, DPut.k (k := .inr x) h1 (line_lt (by rw [← a1.length]; exact hz)), k ρ3 _ nn σ (re.up nn.up)⟩
  · cases e
theorem call_dictC : CallR X (.type "dict") (fun xs H Q => ∃ p us, xs = [.ref p] ∧ H p = some (.dK us) ∧ ∀ l, H l = none → Q (.ref l) (upd H l (.dK us))) := by
  intro pins s σ H xs us Q I r h
  obtain ⟨p, kvs, rfl, hp, q⟩ := h
  cases r with
  | cons r1 r2 =>
    cases r2
    cases (show _ = Value.ref p from r1)
    exact d_copyOf I (.inl hp) fun l s' hl I' => ⟨.ref l, _, I', rfl, q l hl⟩
theorem lk_dictC {K : PySem.W.Frag} : LkF K (fun xs H Q => ∃ p us, xs = [.ref p] ∧ H p = some (.dK us) ∧ ∀ l, H l = none → Q (.ref l) (upd H l (.dK us))) Qm.bDict := by
  intro ρ c H ds d c' vs Q rs ra e k
  obtain ⟨x, rfl, e⟩ := one_of e
  obtain ⟨v, rfl, rx⟩ := ra.one'
  obtain ⟨l, e1, e⟩ := bnd e
  cases e
  obtain ⟨_, hc, us, rfl, h1, a1⟩ := rs.dcOf rx e1
  refine ⟨_, us, rfl, h1, fun q hq => ?_⟩
  obtain ⟨n, r⟩ := Nx.dalloc rs hq a1
  exact k _ _ _ n r
theorem bt_dict : bootBuiltins "dict" = some (.type "dict") := by decide +kernel
end
end L2
namespace L2
open PySem PySem.Spec PyProof.Rows
theorem KV.get {kvs : List (Key × V)} {vs : List (Key × Value)} (r : KV kvs vs) : ∀ {i : Nat} {q : Key × Value}, vs[i]? = some q → ∃ p, kvs[i]? = some p ∧ p.1 = q.1 ∧ RelV p.2 q.2 := by
  unfold KV at r
  induction r with
  | nil => intro i q h; simp at h
  | @cons p q ps qs h t ih =>
    intro i q' h'
    cases i with
    | zero => simp at h'; subst h'; exact ⟨p, rfl, h⟩
    | succ i => exact ih (by simpa using h')
def DEq (K : PySem.W.Frag) (H : Hp) (xs ys : List (Key × V)) (e : Nat → Bool) : Prop := ∀ i kv, xs[i]? = some kv → (valV ys kv.1 = none ∧ e i = false) ∨ ∃ v d1 d2, valV ys kv.1 = some v ∧ RdV K H kv.2 d1 ∧ RdV K H v d2 ∧ SeqAt.shaped d1 = true ∧ SeqAt.shaped d2 = true ∧ PyData.eqv d1 d2 = e i
def rEqDc (K : PySem.W.Frag) (neg : Bool) : R2 := fun x y H Q => ∃ a b xs ys e, x = .ref a ∧ y = .ref b ∧ H a = some (.dK xs) ∧ H b = some (.dK ys) ∧ DEq K H xs ys e ∧ Q (.bl (if neg then !(xs.length == ys.length && (List.range xs.length).all e) else (xs.length == ys.length && (List.range xs.length).all e))) H
section
variable {X : Cx}
theorem dEq_at {pins : List (Addr × Obj)} {σ : St} {H : Hp} {s : Shared} {xs ys : List (Key × V)} {us vs : List (Key × Value)} {e : Nat → Bool} {A : Around} (hu : A.units + 64 < cLine) (I : Inv X pins σ H s) (h : DEq X.K H xs ys e) (r1 : KV xs us) (r2 : KV ys vs) :
    ∀ i kv, us[i]? = some kv → (valueAt vs kv.1 = none ∧ e i = false) ∨ ∃ v, valueAt vs kv.1 = some v ∧ SeqAt.EqAt A s kv.2 v (e i) := by
  intro i kv hi
  obtain ⟨p, hp, e1, rp⟩ := r1.get hi
  rcases h i p hp with ⟨h1, h2⟩ | ⟨v, d1, d2, h1, h2, h3, h4, h5, h6⟩
  · refine .inl ⟨?_, h2⟩
    have := r2.val p.1
    rw [h1, e1] at this
    exact RelO.none_of this
  · have := r2.val p.1
    rw [h1, e1] at this
    obtain ⟨w, hw, rw'⟩ := RelO.some_of this
    refine .inr ⟨w, hw, ?_⟩
    obtain ⟨as, ra⟩ := h2.reads I rp
    obtain ⟨bs, rb⟩ := h3.reads I rw'
    rw [← h6]
    refine SeqAt.eqAt_reads _ _ _ _ _ _ _ _ ra rb (SeqAt.canLay_of_shaped h4) (SeqAt.canLay_of_shaped h5) (SeqAt.room_of_shaped h4 hu)
end
theorem Room.units1 {k : Nat} {A : Around} (r : Room k A) : A.units + 65 < cLine := by have := r.un; omega
section
variable {K : PySem.W.Frag} {ρ : Nat → Addr} {c : Qm.Cells} {H : Hp}
inductive PD (K : PySem.W.Frag) (H : Hp) : List (Str × PyData) → List (Key × V) → Prop
  | nil : PD K H [] []
  | cons {k : Str} {d : PyData} {r : List (Str × PyData)} {v : V} {t : List (Key × V)} : RdV K H v d → SeqAt.shaped d = true → nb d = true → PD K H r t → PD K H ((k, d) :: r) ((.inr k, v) :: t)
theorem pd_of (rs : RS K ρ c H) : ∀ {ps : List (Str × Qm.D)} {us : List (Key × V)} {ds : List (Str × PyData)}, RK K ρ c.length H ps us → Qm.pdata c ps = some ds → PD K H ds us
  | _, _, _, .nil, h => by cases h; exact .nil
  | _, _, _, .cons (k := k) r a, h => by
    obtain ⟨x, h1, h⟩ := bnd h
    obtain ⟨d, h2, h1⟩ := bnd h1
    cases h1
    obtain ⟨ds, h3, h⟩ := bnd h
    cases h
    obtain ⟨a1, a2, a3, a4⟩ := rdV_of rs 5 r h2
    exact .cons a1 (by simp [SeqAt.shaped, a2]; omega) a4 (pd_of rs a h3)
theorem PD.length : ∀ {ds : List (Str × PyData)} {us : List (Key × V)}, PD K H ds us → ds.length = us.length
  | _, _, .nil => rfl
  | _, _, .cons _ _ _ a => congrArg (· + 1) (PD.length a)
theorem PD.val : ∀ {ds : List (Str × PyData)} {us : List (Key × V)}, PD K H ds us → ∀ k, (Qm.dAt ds k = none ∧ valV us (.inr k) = none) ∨ ∃ d v, Qm.dAt ds k = some d ∧ valV us (.inr k) = some v ∧ RdV K H v d ∧ SeqAt.shaped d = true ∧ nb d = true
  | _, _, .nil, k => .inl ⟨rfl, rfl⟩
  | _, _, .cons (k := k') (d := d) (v := x) h1 h2 h3 a, k => by
    by_cases e : k' = k
    · subst e
      exact .inr ⟨d, x, by simp [Qm.dAt], by rw [valV_pos rfl], h1, h2, h3⟩
    · have e' : ¬ (Sum.inr k' : Key) = .inr k := fun z => e (Sum.inr.inj z)
      rcases PD.val a k with ⟨g1, g2⟩ | ⟨d', v', g1, g2, g3⟩
      · exact .inl ⟨by simpa [Qm.dAt, List.find?_cons, e] using g1, by rw [valV_neg e']; exact g2⟩
      · exact .inr ⟨d', v', by simpa [Qm.dAt, List.find?_cons, e] using g1, by rw [valV_neg e']; exact g2, g3⟩
theorem PD.get : ∀ {ds : List (Str × PyData)} {us : List (Key × V)} {i : Nat} {kv : Key × V}, PD K H ds us → us[i]? = some kv → ∃ k d, ds[i]? = some (k, d) ∧ kv.1 = .inr k ∧ RdV K H kv.2 d ∧ SeqAt.shaped d = true ∧ nb d = true
  | _, _, _, _, .nil, e => by simp at e
  | _, _, 0, _, .cons h1 h2 h3 _, e => by simp at e; subst e; exact ⟨_, _, rfl, rfl, h1, h2, h3⟩
  | _, _, i + 1, kv, .cons _ _ _ a, e => by
    obtain ⟨k, d, h1, h2⟩ := PD.get (i := i) (kv := kv) a (by simpa using e)
    exact ⟨k, d, by simpa using h1, h2⟩
open Classical in
noncomputable def sayPs (xs ys : List (Str × PyData)) (i : Nat) : Bool := match xs[i]? with
  | some p => (match Qm.dAt ys p.1 with
    | some e => decide (p.2 = e)
    | none => false)
  | none => false
theorem pd_eq {xs ys : List (Str × PyData)} {us vs : List (Key × V)} (a : PD K H xs us) (b : PD K H ys vs) : DEq K H us vs (sayPs xs ys) := by
  intro i kv hi
  obtain ⟨k, d, h1, h2, h3, h4, h5⟩ := a.get hi
  rcases b.val k with ⟨g1, g2⟩ | ⟨d', v', g1, g2, g3, g4, g5⟩
  · exact .inl ⟨by rw [h2]; exact g2, by simp [sayPs, h1, g1]⟩
  · refine .inr ⟨v', d, d', by rw [h2]; exact g2, h3, g3, h4, g4, ?_⟩
    have := eqv_iff d d' h5 g5
    by_cases z : d = d'
    · rw [this.mpr z]; simp [sayPs, h1, g1, z]
    · have : PyData.eqv d d' = false := by
        cases q : PyData.eqv d d' with
        | false => rfl
        | true => exact absurd (this.mp q) z
      rw [this]; simp [sayPs, h1, g1, z]
theorem rangeD_all {α : Type} (f : α → Bool) : ∀ (xs : List α) (g : Nat → Bool), (∀ i x, xs[i]? = some x → g i = f x) → (List.range xs.length).all g = xs.all f := fun xs g h => by
  have e : ∀ (ys : List α), (∀ i x, ys[i]? = some x → g i = f x) → ((List.range ys.length).all g = true ↔ ys.all f = true) := fun ys h => by
    rw [List.all_eq_true, List.all_eq_true]
    constructor
    · intro z x hx
      obtain ⟨i, hi⟩ := List.mem_iff_getElem?.mp hx
      rw [← h i x hi]
      exact z i (List.mem_range.mpr (List.getElem?_eq_some_iff.mp hi).1)
    · intro z i hi
      rw [List.mem_range] at hi
      rw [h i _ (List.getElem?_eq_getElem hi)]
      exact z _ (List.getElem_mem hi)
  have := e xs h
  cases p : (List.range xs.length).all g with
  | true => exact (this.mp p).symm
  | false =>
    cases q : xs.all f with
    | false => rfl
    | true => rw [this.mpr q] at p; cases p
theorem eqPs_of {xs ys : List (Str × PyData)} {us vs : List (Key × V)} (a : PD K H xs us) (b : PD K H ys vs) : (us.length == vs.length && (List.range us.length).all (sayPs xs ys)) = Qm.eqPs xs ys := by
  unfold Qm.eqPs
  rw [← a.length, ← b.length]
  congr 1
  refine rangeD_all _ xs _ fun i p hi => ?_
  simp only [sayPs, hi]
  all_goals (cases Qm.dAt ys p.1 <;> rfl)
end
end L2
namespace L2
open PySem PySem.Spec PyProof.Rows
theorem FnOk.none {P : Program} {w : World} {K : PySem.W.Frag} {mg : Str → Option Value} {base : Heap} {k : Nat} {f : Addr} {fd : FuncData} {ps : List Str} {F : Qm.FN} (h : ∀ ds c, F ds c = Option.none) : FnOk P w K mg base CX0 k f fd ps (spD K F) :=
  ⟨fun vs H Q E ⟨_, _, _, _, _, _, _, e, _⟩ => (by rw [h] at e; cases e), fun A outer s H args us vs Q E _ _ _ _ ⟨_, _, _, _, _, _, _, e, _⟩ => (by rw [h] at e; cases e)⟩
end L2
namespace L2
open PySem PySem.Spec PyProof.Rows
theorem star_c {k : Const} {j} {p : Pos} {es : List Expr} {env : PySem.Env} : starEach (.Constant k j p :: es) env = (false, eval (.Constant k j p) env) :: starEach es env := rfl
end L2
namespace L2
open PySem PySem.Spec PyProof.Rows
section
variable {X : Cx} {es : List Expr} {fr : Qm.XA} {p : Pos}
theorem qa_str {x : Str} {j} (h : QA X es fr) : QA X (.Constant (.str x) j p :: es) (Qm.aCons (Qm.eC (.str x)) fr) := qa_cons qe_str h star_c
theorem qa_int {x : Int} {j} (h : QA X es fr) : QA X (.Constant (.int x) j p :: es) (Qm.aCons (Qm.eC (.int x)) fr) := qa_cons qe_int h star_c
end
end L2
namespace L2
open PySem PySem.Spec PyProof.Rows
section
variable {X : Cx} {pins : List (Addr × Obj)} {σ : St} {H : Hp} {s : Shared} {h' : Heap}
theorem Inv.turnN {ch : List Addr} {T : Addr} {o : HO} {t' : Nat} (I : Inv X pins σ H s) (hch : ∀ b ∈ ch, FpOk X pins H b) (k : ∀ b u, b ∉ ch → s.heap.get? b = some u → h'.get? b = some u) (hT : s.heap.objs.size ≤ T) (new : ObjOk X.prog X.w (upd H T o) h' T o) :
    Inv X pins σ (upd H T o) { s with heap := h', toks := t' } := by
  have hn : H T = none := I.hok.fresh hT
  have ne : ∀ b u, s.heap.get? b = some u → b ≠ T := fun b u e => Nat.ne_of_lt (Nat.lt_of_lt_of_le (Heap.lt_size e) hT)
  have nc : ∀ b u, H b = some u → b ∉ ch := fun b u e hb => by rw [(hch b hb).1] at e; cases e
  refine I.step (g' := s.gens) (d' := s.drawn) (ch := ch) (fun b hb => ⟨(hch b hb).2.2.2.1, (hch b hb).2.1, (hch b hb).2.2.2.2.1, (hch b hb).2.2.2.2.2⟩) (fun b u _ _ hc e _ => k b u hc e) (fun b u _ _ hc e _ => ⟨u.slots, k b u hc e⟩) (fun b u _ e z => by rw [upd_ne (ne b u e)]; exact z)
    (fun b u hc e => ⟨u, k b u hc e⟩) (fun b xs e => by rw [upd_ne (ne_of_none e hn)]; exact e) (fun b u v e => by rw [upd_ne (ne_of_none e hn)]; exact e) (fun b ps e => ⟨#[], by rw [upd_ne (ne_of_none e hn), e]; simp⟩) (fun m hm => ?_) (fun b u e => ?_) I.bare
  · obtain ⟨ob, es, ep, ho, r⟩ := hm
    exact ⟨ob, es, ep, k _ ob (fun z => (hch _ z).2.1 rfl) ho, r⟩
  · by_cases hb : b = T
    · subst hb
      rw [upd_same] at e
      cases e
      exact new
    · rw [upd_ne hb] at e
      refine (I.hok b u e).stay (fun c v hc q => k c v ?_ q) (fun c q => by rw [upd_ne (ne_of_none q hn)]; exact q) fun c xs q => by rw [upd_ne (ne_of_none q hn)]; exact q
      rcases hc with z | z
      · rw [z]; exact nc b u e
      · exact nc c _ z
theorem Inv.turnL {ch : List Addr} {t' : Nat} (I : Inv X pins σ H s) (hch : ∀ b ∈ ch, FpOk X pins H b) (k : ∀ b u, b ∉ ch → s.heap.get? b = some u → h'.get? b = some u) : Inv X pins σ H { s with heap := h', toks := t' } := by
  have nc : ∀ b u, H b = some u → b ∉ ch := fun b u e hb => by rw [(hch b hb).1] at e; cases e
  refine I.step (g' := s.gens) (d' := s.drawn) (ch := ch) (fun b hb => ⟨(hch b hb).2.2.2.1, (hch b hb).2.1, (hch b hb).2.2.2.2.1, (hch b hb).2.2.2.2.2⟩) (fun b u _ _ hc e _ => k b u hc e) (fun b u _ _ hc e _ => ⟨u.slots, k b u hc e⟩) (fun b u _ e z => z)
    (fun b u hc e => ⟨u, k b u hc e⟩) (fun b xs e => e) (fun b u v e => e) (fun b ps e => ⟨#[], by rw [e]; simp⟩) (fun m hm => ?_) (fun b u e => ?_) I.bare
  · obtain ⟨ob, es, ep, ho, r⟩ := hm
    exact ⟨ob, es, ep, k _ ob (fun z => (hch _ z).2.1 rfl) ho, r⟩
  · refine (I.hok b u e).stay (fun c v hc q => k c v ?_ q) (fun c q => q) fun c xs q => q
    rcases hc with z | z
    · rw [z]; exact nc b u e
    · exact nc c _ z
end
structure ZL (h : Heap) (z TI TO i1 i2 a b : Addr) (k : Nat) : Prop where
  ap : ZApart z TI TO i1 i2 a b
  rc : ∃ b1, ZRec h z TI TO .none (.bool b1)
  ti : PairAt h TI (.ref i1) (.ref i2)
  to : ∃ x y, PairAt h TO x y
  j1 : h.IsTupleIter i1 a k
  j2 : h.IsTupleIter i2 b k
def Itz (K : PySem.W.Frag) (a b : Addr) : It :=
  ⟨fun i H => ∃ xs ys x y, SqT K H a xs ∧ SqT K H b ys ∧ xs[i]? = some x ∧ ys[i]? = some y,
   fun i H v H' => ∃ T, v = .ref T ∧ H T = none ∧ ∀ xs ys, SqT K H a xs → SqT K H b ys → ∃ x y, xs[i]? = some x ∧ ys[i]? = some y ∧ H' = upd H T (.tup [x, y]),
   fun i H => ∃ xs ys, SqT K H a xs ∧ SqT K H b ys ∧ (xs.length ≤ i ∨ ys.length ≤ i)⟩
def iZipT (K : PySem.W.Frag) (t : TA) : TI := fun σ H R => t σ H fun vs H1 => ∃ a b xs ys, vs = [.ref a, .ref b] ∧ SqT K H1 a xs ∧ SqT K H1 b ys ∧ R (Itz K a b) H1
section
variable {X : Cx} {e1 e2 : Expr} {p0 p1 p2 pos : Pos} {f : Qm.XA} {es : List Expr} {k0 : Nat}
theorem zipD_get {xs ys : List Qm.D} {i : Nat} {d : Qm.D} (h : (Qm.zipD xs ys)[i]? = some d) : ∃ x y, xs[i]? = some x ∧ ys[i]? = some y ∧ d = .tup [x, y] := by
  unfold Qm.zipD at h
  rw [List.getElem?_map] at h
  cases e : (xs.zip ys)[i]? with
  | none => rw [e] at h; cases h
  | some p =>
    rw [e] at h
    cases h
    obtain ⟨h1, h2⟩ := List.getElem?_zip_eq_some.mp e
    exact ⟨p.1, p.2, h1, h2, rfl⟩
end
end L2
namespace Qm
open PySem
noncomputable section
def enumD (xs : List D) : List D := xs.zipIdx.map fun p => .tup [.int p.2, p.1]
def iEnum (a : XA) : XI := fun σ c => (a σ c).bind fun p => match p.1 with
  | [.ref n] => (p.2[n]?).bind fun z => (lstOf (.ref n) p.2).bind fun l => some (⟨enumD l.2, [(n, z)]⟩, p.2)
  | _ => none
def iKeys (a : XE) : XI := fun σ c => (a σ c).bind fun p => match p.1 with
  | .ref n => (match p.2[n]? with
    | some (.dct ps) => some (⟨ps.map fun q => .str q.1, [(n, .dro ps)]⟩, p.2.set n (.dro ps))
    | some (.dro ps) => some (⟨ps.map fun q => .str q.1, [(n, .dro ps)]⟩, p.2)
    | _ => none)
  | _ => none
def drOf (d : D) (c : Cells) : Option (List (Str × D)) := match d with
  | .ref n => (match c[n]? with
    | some (.dro ps) => some ps
    | _ => none)
  | _ => none
def eRIx (o k : XE) : XE := fun σ c => (o σ c).bind fun p => (k σ p.2).bind fun q => (drOf p.1 q.2).bind fun l => (asS q.1).bind fun x => (dAt l x).bind fun d => some (d, q.2)
def kindD (d : D) (c : Cells) : Option String := match d with
  | .int _ => some "int"
  | .bl _ => some "bool"
  | .tup _ => some "tuple"
  | .str _ => some "str"
  | .ref m => (match c[m]? with
    | some (.lst _) => some "list"
    | _ => none)
  | _ => none
def isSub (t n : String) : Option Bool := if n ∈ ["int", "bool", "tuple", "list", "str"] then some (t == n || (t == "bool" && n == "int")) else none
def bIsX : FN := two fun x y c => match y with
  | .ty n => (kindD x c).bind fun t => (isSub t n).bind fun k => some (.bl k, c)
  | .tup [.ty a, .ty b] => (kindD x c).bind fun t => (isSub t a).bind fun k => (isSub t b).bind fun l => some (.bl (k || l), c)
  | _ => none
open Classical in
def eqMW (x y : D) (c : Cells) : Option Bool := (data c 60 x).bind fun d => (data c 60 y).bind fun e => some (decide (d = e))
def gEqW : G2 := fun x y c => (eqMW x y c).bind fun b => some (.bl b, c)
def gNeW : G2 := fun x y c => (eqMW x y c).bind fun b => some (.bl (!b), c)
end
end Qm
namespace L2
open PySem PySem.Spec PyProof.Rows
section
variable {K : PySem.W.Frag}
theorem eqMW_eqv {ρ : Nat → Addr} {c : Qm.Cells} {H : Hp} {x y : Qm.D} {v u : V} {b : Bool} (rs : RS K ρ c H) (rx : RD K ρ c.length H x v) (ry : RD K ρ c.length H y u) (h : Qm.eqMW x y c = some b) :
    ∃ d e, RdV K H v d ∧ RdV K H u e ∧ SeqAt.shaped d = true ∧ SeqAt.shaped e = true ∧ PyData.eqv d e = b := by
  unfold Qm.eqMW at h
  obtain ⟨d, h1, h⟩ := bnd h
  obtain ⟨e, h2, h⟩ := bnd h
  cases h
  obtain ⟨a1, a2, a3, a4⟩ := rdV_of rs 60 rx h1
  obtain ⟨b1, b2, b3, b4⟩ := rdV_of rs 60 ry h2
  refine ⟨d, e, a1, b1, by simp [SeqAt.shaped, a2]; omega, by simp [SeqAt.shaped, b2]; omega, ?_⟩
  have := eqv_iff d e a4 b4
  by_cases q : d = e
  · rw [this.mpr q]; simp [q]
  · cases z : PyData.eqv d e with
    | false => simp [q]
    | true => exact absurd (this.mp z) q
theorem lk_eqW : Lk2 K (fun x y H Q => rEq x y H Q ∨ rEqD K false x y H Q) Qm.gEqW := by
  intro ρ c H x y d c' v u Q rs rx ry e k
  obtain ⟨b, e1, e⟩ := bnd e
  cases e
  obtain ⟨dd, ee, a1, a2, a3, a4, a5⟩ := eqMW_eqv rs rx ry e1
  refine .inr ⟨dd, ee, a1, a2, a3, a4, ?_⟩
  rw [if_neg (by decide), a5]
  exact k ρ _ H (Nx.refl rs) (.bl _)
theorem lk_neW : Lk2 K (fun x y H Q => rNe x y H Q ∨ rEqD K true x y H Q) Qm.gNeW := by
  intro ρ c H x y d c' v u Q rs rx ry e k
  obtain ⟨b, e1, e⟩ := bnd e
  cases e
  obtain ⟨dd, ee, a1, a2, a3, a4, a5⟩ := eqMW_eqv rs rx ry e1
  refine .inr ⟨dd, ee, a1, a2, a3, a4, ?_⟩
  rw [if_pos rfl, a5]
  exact k ρ _ H (Nx.refl rs) (.bl _)
end
def Ite (K : PySem.W.Frag) (a : Addr) : It :=
  ⟨fun i H => ∃ xs x, SqL K H a xs ∧ xs[i]? = some x,
   fun i H v H' => ∃ T, v = .ref T ∧ H T = none ∧ ∀ xs, SqL K H a xs → ∃ x, xs[i]? = some x ∧ H' = upd H T (.tup [.int i, x]),
   fun i H => ∃ xs, SqL K H a xs ∧ xs.length ≤ i⟩
theorem turn_enum {P : Program} {w : World} {K : PySem.W.Frag} {es : List Expr} {k0 : Nat} {p0 : Pos} (e it a : Addr) (hei : e ≠ it) :
    Turn P w K (.Tuple es k0 p0) (Ite K a) [e, it] e (fun i h => (∃ old, IsEnum h e it i old) ∧ h.IsListIter it a i) where
  mem := by simp
  obj := fun i h Z c hc => by
    obtain ⟨⟨old, he⟩, hit⟩ := Z
    rcases List.mem_cons.mp hc with rfl | hc
    · exact ⟨_, he, by simp⟩
    · have : c = it := by simpa using hc
      subst this
      obtain ⟨o, e, _, d⟩ := hit
      exact ⟨o, e, by rw [d]; simp⟩
  keep := fun i h h' Z kk => by
    obtain ⟨⟨old, he⟩, hit⟩ := Z
    exact ⟨⟨old, kk _ (by simp) _ he⟩, hit.at fun o e => kk _ (by simp) o e⟩
  item := fun X hP hw hK hc i pins s σ H E I hf Z go => by
    subst hP hw hK
    obtain ⟨xs, x, hxs, hx⟩ := go
    obtain ⟨ia, va, p, _⟩ := I.list hxs
    obtain ⟨ux, hux, rx⟩ := va.get hx
    obtain ⟨⟨old, he⟩, hit⟩ := Z
    refine wpAny_pyNext_enum_item he hit p.isList (x := ux) (by simpa using hux) hei fun h' ho hit' hT hsz hk => ?_
    refine ⟨_, rfl, ?_⟩
    refine wpAny_letOwnedTupleGo_enum ho fun h2 he2 hs2 => ?_
    have hT2 : s.heap.objs.size ≠ e := Nat.ne_of_gt (Heap.lt_size he)
    have hTi : s.heap.objs.size ≠ it := by
      obtain ⟨o, q, _⟩ := hit
      exact Nat.ne_of_gt (Heap.lt_size q)
    have gT := hs2.extBut _ _ hT2 hT
    have hall : ∀ c u, c ∉ [e, it] → s.heap.get? c = some u → h2.get? c = some u := fun c u hc' q => by
      simp only [List.mem_cons, List.not_mem_nil, or_false, not_or] at hc'
      exact hs2.extBut c u hc'.1 (hk c u hc'.1 hc'.2 q)
    have hTn : H s.heap.objs.size = none := I.hok.fresh (Nat.le_refl _)
    refine ⟨.ref s.heap.objs.size, upd H s.heap.objs.size (.tup [.int i, x]), I.turnN (t' := s.toks + 1) hf hall (Nat.le_refl _) ⟨by show 2 ≤ sizeLine; decide, [.int i s.toks, ux], .cons ⟨_, rfl⟩ (.cons rx .nil), ⟨_, gT, rfl, _, rfl⟩⟩, rfl, ⟨_, rfl, hTn, fun xs' h1 => ?_⟩, ⟨⟨_, by simpa using he2⟩, hit'.extBut hs2.extBut hei.symm⟩, fun c hc' => ?_⟩
    · rw [← I.list_inj hxs h1]
      exact ⟨x, hx, rfl⟩
    · have hne : c ≠ s.heap.objs.size := by
        rcases List.mem_cons.mp hc' with rfl | hc'
        · exact hT2.symm
        · have : c = it := by simpa using hc'
          subst this
          exact hTi.symm
      rw [upd_ne hne]
      exact (hf c hc').1
  done := fun X hP hw hK hc i pins s σ H E I hf Z st => by
    subst hP hw hK
    obtain ⟨xs, hxs, hend⟩ := st
    obtain ⟨ia, va, p, _⟩ := I.list hxs
    obtain ⟨⟨old, he⟩, hit⟩ := Z
    have la := va.length
    refine wpAny_pyNext_enum_end (I.ok.hd hc) he hit p.isList (Array.getElem?_eq_none (by simp; omega)) fun h' eb => ⟨rfl, I.turnL (t' := s.toks) hf fun c u hc' q => ?_⟩
    simp only [List.mem_cons, List.not_mem_nil, or_false, not_or] at hc'
    exact eb c u hc'.2 q
  self := fun A i s Q E Z q => by
    obtain ⟨⟨old, he⟩, _⟩ := Z
    exact wpAny_pyIter_enum he q
def iEnumT (K : PySem.W.Frag) (t : TA) : TI := fun σ H R => t σ H fun vs H1 => ∃ a xs, vs = [.ref a] ∧ SqL K H1 a xs ∧ R (Ite K a) H1
section
variable {X : Cx} {e1 : Expr} {p0 p1 p2 pos : Pos} {f : Qm.XA} {es : List Expr} {k0 : Nat}
theorem pi_enum {t : TA} (hg : Gl X "enumerate") (hm : X.mg "enumerate" = none) (ha : PA X [e1] t) (hs2 : starEach [e1] X.env = (false, eval e1 X.env) :: starEach [] X.env := by rfl) (hpl : (backTo p2 (starEach [] X.env)).any (·.1) = false := by rfl) :
    PI X (.Tuple es k0 p0) (.Call (.Name "enumerate" p1) [e1] [] p2) (iEnumT X.K t) := by
  intro pins s σ H R I h
  refine wpAny_Call_Name_kw (ld_blt I hg hm (u := .type "enumerate") (by decide +kernel) ?_)
  refine PyProof.Rows.callWith_type1 (thn (ha p2 pins s σ H _ I h) fun us s1 ⟨vs, H1, I1, r1, q1⟩ => ?_) hs2 hpl
  obtain ⟨a, xs, rfl, ha1, q⟩ := q1
  obtain ⟨u1, rfl, ra⟩ := vals1 r1
  cases (show u1 = Value.ref a from ra)
  obtain ⟨ia, va, p, za⟩ := I1.list ha1
  refine call_enumerate_list p.isList fun h2 he hit sz up => ?_
  refine wpAny_pyIter_enum he ?_
  have I2 : Inv X pins σ H1 { s1 with heap := h2 } := I1.kept (t' := s1.toks) up
  have fr : ∀ c, s1.heap.objs.size ≤ c → FpOk X pins H1 c := fun c hc => I1.fpOk hc (I1.hok.fresh hc)
  refine ⟨_, _, _, Ite X.K a, H1, rfl, I2, turn_enum _ _ a (show s1.heap.objs.size + 1 ≠ s1.heap.objs.size by omega), ⟨⟨_, he⟩, hit⟩, fun c hc => ?_, q⟩
  rcases List.mem_cons.mp hc with rfl | hc
  · exact fr _ (Nat.le_add_right _ _)
  · have : c = s1.heap.objs.size := by simpa using hc
    subst this
    exact fr _ (Nat.le_refl _)
theorem enumD_get {xs : List Qm.D} {i : Nat} {d : Qm.D} (h : (Qm.enumD xs)[i]? = some d) : ∃ x, xs[i]? = some x ∧ d = .tup [.int i, x] := by
  unfold Qm.enumD at h
  rw [List.getElem?_map, List.getElem?_zipIdx] at h
  cases q : xs[i]? with
  | none => rw [q] at h; cases h
  | some x => rw [q] at h; simp at h; exact ⟨x, rfl, h.symm⟩
theorem qi_enum (hg : Gl X "enumerate") (hm : X.mg "enumerate" = none) (ha : QA X [e1] f) (hs2 : starEach [e1] X.env = (false, eval e1 X.env) :: starEach [] X.env := by rfl) (hpl : (backTo p2 (starEach [] X.env)).any (·.1) = false := by rfl) :
    QI X (.Tuple es k0 p0) (.Call (.Name "enumerate" p1) [e1] [] p2) (Qm.iEnum f) := (pi_enum hg hm ha hs2 hpl).imp fun σ H R ⟨ρ, env, c, m, c', rs, re, e, k⟩ => by
  obtain ⟨p, ea, e⟩ := bnd e
  refine ⟨ρ, env, c, p.1, p.2, rs, re, ea, fun ρ1 vs H1 n1 r1 => ?_⟩
  split at e
  · rename_i n hp
    obtain ⟨z, e2, e⟩ := bnd e
    obtain ⟨l, e3, e⟩ := bnd e
    cases e
    rw [hp] at r1
    obtain ⟨v, rfl, rx⟩ := r1.one'
    obtain ⟨hv, hn⟩ := rx.ref'
    subst hv
    obtain ⟨dn, hc1, ws, _, h1, a1⟩ := n1.rs.lstOf (d := .ref n) (.ref hn) (show Qm.lstOf (.ref n) p.2 = some (l.1, l.2) from e3)
    have hln : l.1 = n := by cases dn; rfl
    rw [hln] at hc1 h1
    refine ⟨_, ws, rfl, SqL.of h1, k ρ1 _ H1 n1 fun ρ2 c2 H2 u2 rs2 st2 => ?_⟩
    have hz : z = .lst l.2 := by rw [e2] at hc1; exact Option.some.inj hc1
    obtain ⟨us, h2, a2⟩ := rs2.lst (by rw [← hz]; exact st2 (n, z) (by simp))
    rw [u2.agree n hn] at h2
    have hl : (Qm.enumD l.2).length = us.length := by rw [← a2.length]; simp [Qm.enumD]
    refine ⟨fun i hi => ?_, ⟨us, SqL.of h2, by show us.length ≤ (Qm.enumD l.2).length; omega⟩, fun i d x H' hd hy => ?_⟩
    · dsimp only at hi
      have h3 : i < us.length := by omega
      exact ⟨us, us[i], SqL.of h2, List.getElem?_eq_getElem h3⟩
    · obtain ⟨T, rfl, hT, hy⟩ := hy
      obtain ⟨x', h3, rfl⟩ := hy us (SqL.of h2)
      obtain ⟨dx, g1, rfl⟩ := enumD_get hd
      obtain ⟨v1, q1, r1⟩ := a2.get g1
      rw [h3] at q1; cases q1
      have n := Nx.same rs2 (same_new (z := .tup [.int i, x']) hT)
      exact ⟨n, .tup upd_same (.cons (.int _) (.cons (r1.up n.up) .nil))⟩
  · cases e
end
end L2
namespace L2
open PySem PySem.Spec PyProof.Rows
def Itk (d : Addr) (ob : Obj) (us : List (Key × V)) : It :=
  ⟨fun i H => H d = some (.frz ob (.dK us)) ∧ i < us.length, fun i H v H' => H' = H ∧ ∃ kv, us[i]? = some kv ∧ v = kV kv.1, fun i H => H d = some (.frz ob (.dK us)) ∧ us.length ≤ i⟩
section
variable {X : Cx} {pins : List (Addr × Obj)} {σ : St} {H : Hp} {s : Shared} {h' : Heap}
theorem frz_dict {d : Addr} {ob : Obj} {us : List (Key × V)} {es0 : Array DictEntry} {ep : Nat} (I : Inv X pins σ H s) (e : H d = some (.frz ob (.dK us))) (hep : ob.data = .dict es0 ep) :
    ∃ vs, KV us vs ∧ s.heap.DictAt (mixKind X.prog X.w) d vs ep := by
  obtain ⟨h1, _, _, vs, r, o, es, ep', h2, h3, h4, h5⟩ := (show ObjOk X.prog X.w H s.heap d (.frz ob (.dK us)) from I.hok d _ e)
  rw [h1] at h2
  cases h2
  rw [hep] at h4
  cases h4
  exact ⟨vs, r, ob, es0, h1, h3, hep, h5⟩
theorem key_rel {P : Program} {w : World} {k : Key} {u : Value} (h : (mixKind P w).is k u = true) : RelV (kV k) u := by
  rw [mixKind_is] at h
  rcases keyIs_shape h with ⟨i, t, rfl, rfl⟩ | ⟨x, t, rfl, rfl⟩
  · exact ⟨t, rfl⟩
  · exact ⟨t, rfl⟩
theorem keys_at {us : List (Key × V)} {vs : List (Key × Value)} (r : KV us vs) {i : Nat} {kv : Key × V} (h : us[i]? = some kv) : ∃ v, vs[i]? = some (kv.1, v) := by
  have hk := r.keys
  have h1 : (us.map (·.1))[i]? = some kv.1 := by rw [List.getElem?_map, h]; rfl
  rw [hk, List.getElem?_map] at h1
  cases q : vs[i]? with
  | none => rw [q] at h1; cases h1
  | some p =>
    rw [q] at h1
    have : p.1 = kv.1 := by simpa using h1
    exact ⟨p.2, by rw [← this]⟩
end
theorem turn_keys {P : Program} {w : World} {K : PySem.W.Frag} {tg : Expr} (d it : Addr) {ob : Obj} (us : List (Key × V)) {es0 : Array DictEntry} {ep : Nat} (hep : ob.data = .dict es0 ep) :
    Turn P w K tg (Itk d ob us) [it] it (fun i h => h.IsKeyIter it d i us.length ep) where
  mem := by simp
  obj := fun i h st b hb => by
    have e : b = it := by simpa using hb
    subst e
    obtain ⟨o, e, c, d⟩ := st
    exact ⟨o, e, fun v z => by rw [d] at z; cases z⟩
  keep := fun i h h' st k => st.at fun o e => k it (by simp) o e
  item := by
    intro X hP hw hK hc i pins s σ H E I hf st hg
    subst hP hw hK
    obtain ⟨hd, hi⟩ := hg
    obtain ⟨vs, r, da⟩ := frz_dict I hd hep
    have hl := r.length
    obtain ⟨u, hu⟩ := keys_at r (List.getElem?_eq_getElem hi)
    obtain ⟨f0, f1, f2, f3, f4, f5⟩ := hf it (by simp)
    rw [hl] at st
    refine wpAny_pyNext_dict_item st da hu fun key h' hkey st' sb => ?_
    have I1 : Inv X pins σ H { s with heap := h' } := I.turned (t' := s.toks) (fun b o hb e => (sb.2 b hb).trans e) f0 f1 f3 f4 f5
    obtain ⟨o, e, c, dd⟩ := id st'
    refine ⟨key, rfl, go_of (s := { s with heap := h' }) e c dd (by decide) ⟨kV us[i].1, H, I1, key_rel hkey, ⟨rfl, us[i], List.getElem?_eq_getElem hi, rfl⟩, ?_, fun b hb => (hf b hb).1⟩⟩
    rw [hl]; exact st'
  done := by
    intro X hP hw hK hc i pins s σ H E I hf st hg
    subst hP hw hK
    obtain ⟨hd, hi⟩ := hg
    obtain ⟨vs, r, da⟩ := frz_dict I hd hep
    have hl := r.length
    obtain ⟨f0, f1, f2, f3, f4, f5⟩ := hf it (by simp)
    rw [hl] at st
    exact wpAny_pyNext_dict_end (I.ok.hd hc) st da (List.getElem?_eq_none (by omega)) fun h' eb => ⟨rfl, I.turned (t' := s.toks) (fun b o hb e => eb b o hb e) f0 f1 f3 f4 f5⟩
  self := fun _ _ _ _ _ st h => wpAny_pyIter_keyiter st h
def iKeysT (tl : TE) : TI := fun σ H R => tl σ H fun x H1 => ∃ a us, x = .ref a ∧ ((H1 a = some (.dK us) ∧ ∀ ob, R (Itk a ob us) (upd H1 a (.frz ob (.dK us)))) ∨ ∃ ob, H1 a = some (.frz ob (.dK us)) ∧ R (Itk a ob us) H1)
section
variable {X : Cx} {tg l : Expr} {tl : TE}
theorem pi_keys (hl : PE X l tl) : PI X tg l (iKeysT tl) := by
  intro pins s σ H R I h
  refine thn (hl pins s σ H _ I h) fun v s1 ⟨x, H1, I1, r1, q1⟩ => ?_
  obtain ⟨a, us, e, q⟩ := q1
  subst e
  cases r1
  have core : ∀ (ob : Obj) (H2 : Hp), Inv X pins σ H2 s1 → H2 a = some (.frz ob (.dK us)) → R (Itk a ob us) H2 → wpAny (model X.prog X.w) X.A (pyIter (.ref a)) (PIE X pins σ tg R) X.xe s1 := by
    intro ob H2 I2 h2 q2
    obtain ⟨h1, _, hsm, vs, r, o, es, ep, g2, g3, g4, g5⟩ := (show ObjOk X.prog X.w H2 s1.heap a (.frz ob (.dK us)) from I2.hok a _ h2)
    rw [h1] at g2
    cases g2
    have da : s1.heap.DictAt (mixKind X.prog X.w) a vs ep := ⟨ob, es, h1, g3, g4, g5⟩
    refine wpAny_pyIter_dict hsm da ?_
    refine ⟨s1.heap.objs.size, [s1.heap.objs.size], _, _, H2, rfl, I2.kept (t' := s1.toks) fun b o e => Heap.get?_push_of_some _ e, turn_keys a _ us g4, ⟨_, Heap.get?_push_size _ rfl, rfl, by rw [r.length]; rfl⟩, fun b hb => ?_, q2⟩
    have e : b = s1.heap.objs.size := by simpa using hb
    subst e
    exact I2.fpOk (Nat.le_refl _) (I2.hok.fresh (Nat.le_refl _))
  rcases q with ⟨h1, q⟩ | ⟨ob, h1, q⟩
  · obtain ⟨z, hsm, vs, r, o, es, ep, g2, g3⟩ := (show ObjOk X.prog X.w H1 s1.heap a (.dK us) from I1.hok a _ h1)
    refine core o _ (d_write (ob := .frz o (.dK us)) (t' := s1.toks) (h' := s1.heap) I1 (by rw [h1]; exact True.intro) ⟨rfl, fun _ _ => rfl⟩ ⟨o, g2⟩ ⟨g2, z, hsm, vs, r, o, es, ep, g2, g3⟩) upd_same (q o)
  · exact core ob H1 I1 h1 q
end
section
variable {K : PySem.W.Frag} {ρ ρ' : Nat → Addr} {N : Nat} {c c' : Qm.Cells} {H H' : Hp}
theorem RK.at_ : ∀ {ps : List (Str × Qm.D)} {us : List (Key × V)}, RK K ρ N H ps us → ∀ {i : Nat} {p : Str × Qm.D}, ps[i]? = some p → ∃ kv, us[i]? = some kv ∧ kv.1 = .inr p.1
  | _, _, .nil, i, p, h => by simp at h
  | _, _, .cons (k := k') _ a, 0, p, h => by simp at h; subst h; exact ⟨_, rfl, rfl⟩
  | _, _, .cons _ a, i + 1, p, h => by
    obtain ⟨kv, h1, h2⟩ := RK.at_ a (i := i) (p := p) (by simpa using h)
    exact ⟨kv, by simpa using h1, h2⟩
end
section
variable {X : Cx} {e a b tg : Expr} {fe fa fb : Qm.XE} {pos : Pos}
theorem qi_keys (h : QE X e fe) : QI X tg e (Qm.iKeys fe) := (pi_keys h).imp fun σ H R ⟨ρ, env, c, m, c', rs, re, e, k⟩ => by
  obtain ⟨p, e1, e⟩ := bnd e
  refine ⟨ρ, env, c, p.1, p.2, rs, re, e1, fun ρ1 v H1 n1 r1 => ?_⟩
  have walk : ∀ {n : Nat} {ps : List (Str × Qm.D)} {us : List (Key × V)} {ob : Obj} {ρ2 : Nat → Addr} {N2 : Nat} {H2 : Hp}, n < N2 → H2 (ρ2 n) = some (.frz ob (.dK us)) → RK X.K ρ2 N2 H2 ps us → ItOk X.K ρ2 N2 H2 ⟨ps.map fun q => .str q.1, [(n, .dro ps)]⟩ (Itk (ρ2 n) ob us) := by
    intro n ps us ob ρ2 N2 H2 hn h2 a2 ρ3 c3 H3 u3 rs3 st3
    have h3 := u3.fz _ _ _ h2
    have hl : (ps.map fun q => Qm.D.str q.1).length = us.length := by rw [List.length_map]; exact a2.length
    refine ⟨fun i hi => ⟨h3, by dsimp only at hi; omega⟩, ⟨h3, by show us.length ≤ (ps.map fun q => Qm.D.str q.1).length; omega⟩, fun i d x H' hd hy => ?_⟩
    obtain ⟨rfl, kv, h4, rfl⟩ := hy
    dsimp only at hd
    rw [List.getElem?_map] at hd
    cases q : ps[i]? with
    | none => rw [q] at hd; cases hd
    | some p =>
      rw [q] at hd
      cases hd
      obtain ⟨kv', h5, h6⟩ := a2.at_ q
      rw [h4] at h5
      cases h5
      refine ⟨Nx.refl rs3, ?_⟩
      rw [h6]
      exact .str _
  split at e
  · rename_i n hx
    rw [hx] at r1
    obtain ⟨hv, hn⟩ := r1.ref'
    subst hv
    split at e
    · rename_i ps hz
      cases e
      obtain ⟨us, h1, a1⟩ := n1.rs.dct hz
      refine ⟨_, us, rfl, .inl ⟨h1, fun ob => ?_⟩⟩
      have n2 := Nx.dfrz (o := ob) n1.rs hz a1
      refine k ρ1 _ _ (n1.trans n2) (walk (by rw [List.length_set]; exact hn) upd_same ?_)
      exact a1.up n2.up
    · rename_i ps hz
      cases e
      obtain ⟨ob, us, h1, a1⟩ := n1.rs.ok n _ hz
      exact ⟨_, us, rfl, .inr ⟨ob, h1, k ρ1 _ _ n1 (walk hn h1 a1)⟩⟩
    · cases e
  · cases e
theorem qe_rix (hu : X.A.units + 64 < cLine) (ha : QE X a fa) (hb : QE X b fb) (hs : NoSl b) : QE X (.Subscript a b pos) (Qm.eRIx fa fb) := (pe_dget (by omega) ha hb hs).imp fun σ H Q ⟨ρ, env, c, d, c', rs, re, e, k⟩ => by
  obtain ⟨p, e1, e⟩ := bnd e
  obtain ⟨q, e2, e⟩ := bnd e
  obtain ⟨l, e3, e⟩ := bnd e
  obtain ⟨x, e4, e⟩ := bnd e
  obtain ⟨z, e5, e⟩ := bnd e
  cases e
  refine ⟨ρ, env, c, p.1, p.2, rs, re, e1, fun ρ1 v H1 n1 r1 => ⟨ρ1, env, p.2, q.1, q.2, n1.rs, re.up n1.up, e2, fun ρ2 u H2 n2 r2 => ?_⟩⟩
  rw [asS_of e4] at r2
  cases r2.str'
  unfold Qm.drOf at e3
  split at e3
  · rename_i n hp
    rw [hp] at r1
    obtain ⟨rfl, hn⟩ := (r1.up n2.up).ref'
    split at e3
    · rename_i ps hz
      cases e3
      obtain ⟨ob, us, h1, a1⟩ := n2.rs.ok n _ hz
      rcases a1.val x with ⟨h2, _⟩ | ⟨d', v', h2, h3, h4⟩
      · rw [h2] at e5; cases e5
      · rw [h2] at e5; cases e5
        exact ⟨_, v', rfl, .inl ⟨us, .inr x, .inr ⟨ob, h1⟩, rfl, h3.symm⟩, k ρ2 _ H2 (n1.trans n2) h4⟩
    · cases e3
  · cases e3
end
end L2
namespace L2
open PySem PySem.Spec PyProof.Rows
inductive TyB (H : Hp) : V → String → Prop where
  | bl (x : Bool) : TyB H (.bl x) "bool"
  | int (i : Int) : TyB H (.int i) "int"
  | str (x : Str) : TyB H (.str x) "str"
  | lst {a : Addr} {xs : List V} (e : H a = some (.lst xs)) : TyB H (.ref a) "list"
  | tup {a : Addr} {xs : List V} (e : H a = some (.tup xs)) : TyB H (.ref a) "tuple"
section
variable {X : Cx} {pins : List (Addr × Obj)} {σ : St} {H : Hp} {s : Shared}
def rIsX (K : PySem.W.Frag) : List V → Hp → VK → Prop := fun xs H Q => ∃ x T, TyB H x T ∧ ((∃ n k, xs = [x, .ty n] ∧ PySem.W.kitOne K (.type T) (.type n) = some k ∧ Q (.bl k) H) ∨
  ∃ p a b k l, xs = [x, .ref p] ∧ H p = some (.tup [.ty a, .ty b]) ∧ PySem.W.kitOne K (.type T) (.type a) = some k ∧ PySem.W.kitOne K (.type T) (.type b) = some l ∧ Q (.bl (k || l)) H)
end
end L2
namespace Qm
open PySem
noncomputable section
def dcA (d : D) (c : Cells) : Option (List (Str × D)) := match d with
  | .ref n => (match c[n]? with
    | some (.dct ps) => some ps
    | some (.dro ps) => some ps
    | _ => none)
  | _ => none
def eqDA (x y : D) (c : Cells) : Option Bool := (dcA x c).bind fun l => (dcA y c).bind fun m => (pdata c l).bind fun a => (pdata c m).bind fun b => some (eqPs a b)
def gNeDA : G2 := fun x y c => (eqDA x y c).bind fun b => some (.bl (!b), c)
end
end Qm
namespace Qm
open PySem
noncomputable section
def inDs (x y : D) (c : Cells) : Option Bool := (lstOf y c).bind fun l => (dcOf x c).bind fun p => (pdata c p.2).bind fun a => (omap (fun d => (dcOf d c).bind fun q => (pdata c q.2).bind fun b => some (q.1 == p.1 || eqPs b a)) l.2).bind fun bs => some (bs.any id)
def gInDs : G2 := fun x y c => (inDs x y c).bind fun b => some (.bl b, c)
def gNotInDs : G2 := fun x y c => (inDs x y c).bind fun b => some (.bl (!b), c)
end
end Qm
namespace L2
open PySem PySem.Spec PyProof.Rows
def rNeDA (K : PySem.W.Frag) : R2 := fun x y H Q => ∃ a b xs ys e, x = .ref a ∧ y = .ref b ∧ Rd H a (.dK xs) ∧ Rd H b (.dK ys) ∧ DEq K H xs ys e ∧ Q (.bl (!(xs.length == ys.length && (List.range xs.length).all e))) H
section
variable {X : Cx}
end
section
variable {K : PySem.W.Frag} {ρ : Nat → Addr} {c : Qm.Cells} {H : Hp}
theorem RS.dcA (r : RS K ρ c H) {d : Qm.D} {ps : List (Str × Qm.D)} {v : V} (h : RD K ρ c.length H d v) (e : Qm.dcA d c = some ps) : ∃ a us, v = .ref a ∧ Rd H a (.dK us) ∧ RK K ρ c.length H ps us := by
  unfold Qm.dcA at e
  split at e
  · rename_i n
    obtain ⟨rfl, hn⟩ := h.ref'
    split at e
    · rename_i qs hz
      cases e
      obtain ⟨us, h1, a1⟩ := r.dct hz
      exact ⟨_, us, rfl, .inl h1, a1⟩
    · rename_i qs hz
      cases e
      obtain ⟨ob, us, h1, a1⟩ := r.ok n _ hz
      exact ⟨_, us, rfl, .inr ⟨ob, h1⟩, a1⟩
    · cases e
  · cases e
end
end L2
namespace PySem
open Sem (wp)
open AutoSeq1 (wpAny_loadPart')
open MeetsSeq MeetsSeq2 MeetsSeq3 SeqRoads2
def EqIn (P : Program) (W : World) (A : Around) (s : Shared) (y v : Value) (b : Bool) : Prop := ∀ (E : Value → Shared → Prop) (Q : Bool → Shared → Prop), Q b s → wpAny (model P W) A (eqBool y v) Q E s
section
variable {P : Program} {W : World}
theorem has_loop (la : Addr) (its : Array Value) (nn : Nat) (da : Option Addr) (ss : Array (Option Value)) (v : Value) (t : Value → Bool) (k : Nat) :
    ∀ j : Nat, its.size - j = k → MeetsIn P W (Builtin.«list.__contains__.loop» ⟨[.ref la, v, rawInt j], []⟩)
      (fun A R s => s.heap.get? la = some { cls := .type "list", dict := da, data := .seq its nn, slots := ss } ∧ (∀ y, y ∈ its → EqIn P W A.in1 s y v (t y)) ∧ R (.ok (.ret (.bool ((its.toList.drop j).any t)))) s) := by
  induction k with
  | zero =>
    intro j hj A R s hyp
    obtain ⟨hp, gg, dd, tk, os⟩ := s
    obtain ⟨hla, hev, hyp⟩ := hyp
    wp_walk using wpAny_loadPart' hla
    have n1 : its[((j : Nat) : Int).toNat]? = none := by simp; omega
    have n2 : its.toList.drop j = [] := by simp; omega
    rw [n2] at hyp
    rw [n1]
    wp_walk
    exact hyp
  | succ k ih =>
    intro j hj A R s hyp
    obtain ⟨hp, gg, dd, tk, os⟩ := s
    obtain ⟨hla, hev, hyp⟩ := hyp
    wp_walk using wpAny_loadPart' hla
    have jlt : j < its.size := by omega
    have n1 : its[((j : Nat) : Int).toNat]? = some its[j] := by simp [jlt]
    have n2 : its.toList.drop j = its[j] :: its.toList.drop (j + 1) := by simp [List.drop_eq_getElem_cons, jlt]
    rw [n2, List.any_cons] at hyp
    rw [n1]
    refine wpAny_bind (hev _ (Array.getElem_mem jlt) _ _ ?_)
    cases hb : t its[j] with
    | true =>
      rw [hb] at hyp
      wp_walk
      exact hyp
    | false =>
      rw [hb] at hyp
      have hc : ((j : Int) + 1) = ((j + 1 : Nat) : Int) := by omega
      wp_walk
      rw [hc]
      refine ⟨plainId_quiet plain_contains_loop _, codeAny_builtin entry_contains_loop ?_⟩
      rw [Around.under_plainId plain_contains_loop _]
      exact ih (j + 1) (by omega) A R _ ⟨hla, hev, by simpa using hyp⟩
theorem has_list (la : Addr) (its : Array Value) (nn : Nat) (da : Option Addr) (ss : Array (Option Value)) (v : Value) (t : Value → Bool) :
    MeetsIn P W (Builtin.«list.__contains__» ⟨[.ref la, v], []⟩)
      (fun A R s => s.heap.get? la = some { cls := .type "list", dict := da, data := .seq its nn, slots := ss } ∧ (∀ y, y ∈ its → EqIn P W A.in1 s y v (t y)) ∧ R (.ok (.ret (.bool (its.any t)))) s) := by
  intro A R s hyp
  obtain ⟨hp, gg, dd, tk, os⟩ := s
  obtain ⟨hla, hev, hyp⟩ := hyp
  wp_walk using wpAny_loadPart' hla
  refine ⟨plainId_quiet plain_contains_loop _, codeAny_builtin entry_contains_loop ?_⟩
  rw [Around.under_plainId plain_contains_loop _]
  exact has_loop la its nn da ss v t _ 0 rfl A R _ ⟨hla, hev, by simpa using hyp⟩
variable {A : Around} {E : Value → Shared → Prop} {s : Shared}
theorem has_any {la : Addr} {its : Array Value} {v : Value} {Q : Value → Shared → Prop} (t : Value → Bool) (hl : s.heap.IsList la its) (he : ∀ y, y ∈ its → EqIn P W A.in1 s y v (t y)) (h : Q (.bool (its.any t)) s) : wpAny (model P W) A (contains (.ref la) v) (fun b s' => Q (.bool b) s') E s := by
  obtain ⟨⟨cc, da, dt, ss⟩, ho, hc, nn, hd⟩ := id hl
  simp only at hc hd
  subst hc hd
  refine wpAny_contains_slot ⟨_, ho, rfl⟩ F.slot_list_contains (call_meetsIn F.slot_list_contains ⟨_, ho, rfl⟩ F.entry_list_contains (F.args_list_contains_2 _ _) (has_list la its nn da ss v t) ⟨ho, he, ?_⟩)
  exact wpAny_truthy_bool h
theorem in_has {la : Addr} {its : Array Value} {v : Value} {Q : Value → Shared → Prop} (t : Value → Bool) (hl : s.heap.IsList la its) (he : ∀ y, y ∈ its → EqIn P W A.in1 s y v (t y)) (h : Q (.bool (its.any t)) s) : wpAny (model P W) A (compareOp .In v (.ref la)) Q E s := by
  show wpAny _ A (contains (.ref la) v >>= fun b => pure (.bool b)) Q E s
  exact wpAny_bind (has_any (Q := fun b s' => wpAny _ A (pure b) Q E s') t hl he (wpAny_pure h))
theorem notIn_has {la : Addr} {its : Array Value} {v : Value} {Q : Value → Shared → Prop} (t : Value → Bool) (hl : s.heap.IsList la its) (he : ∀ y, y ∈ its → EqIn P W A.in1 s y v (t y)) (h : Q (.bool (!its.any t)) s) : wpAny (model P W) A (compareOp .NotIn v (.ref la)) Q E s := by
  show wpAny _ A (contains (.ref la) v >>= fun b => pure (.bool (!b))) Q E s
  refine wpAny_bind (wpAny_mono (has_any (Q := fun b s' => b = .bool (its.any t) ∧ s' = s) t hl he ⟨rfl, rfl⟩) (fun b s' hb => ?_) fun _ _ e => e)
  obtain ⟨h1, rfl⟩ := hb
  injection h1 with h1
  subst h1
  exact wpAny_pure h
theorem eqIn_refs {a b : Addr} {k : Bool} (h1 : a = b → k = true) (h2 : a ≠ b → ∀ (E : Value → Shared → Prop) (Q : Value → Shared → Prop), Q (.bool k) s → wpAny (model P W) A (richCompare .Eq (.ref a) (.ref b)) Q E s) : EqIn P W A s (.ref a) (.ref b) k := by
  intro E Q hq
  by_cases e : a = b
  · subst e
    rw [h1 rfl] at hq
    exact SeqAt.EqAt.same _ P W E Q hq
  · unfold eqBool
    refine wpAny_holding ?_
    refine wpAny_ite_split (fun hab => absurd (by have := eq_of_beq hab; injection this) e) (fun _ => ?_)
    exact wpAny_bind (h2 e E _ (wpAny_truthy_bool hq))
end
end PySem
namespace L2
open PySem PySem.Spec PyProof.Rows
structure DIn (K : PySem.W.Frag) (H : Hp) (us : List (Key × V)) (a : Addr) (x : V) (b : Bool) : Prop where
  is : ∃ q, x = .ref q ∧ (q = a → b = true) ∧ (q ≠ a → ∃ vs e, Rd H q (.dK vs) ∧ DEq K H vs us e ∧ b = (vs.length == us.length && (List.range vs.length).all e))
def rInDs (K : PySem.W.Frag) (neg : Bool) : R2 := fun x y H Q => ∃ (p a : Addr) (xs : List V) (us : List (Key × V)) (bs : List Bool), x = .ref a ∧ y = .ref p ∧ SqL K H p xs ∧ Rd H a (.dK us) ∧ xs.length = bs.length ∧
  (∀ (i : Nat) v b, xs[i]? = some v → bs[i]? = some b → DIn K H us a v b) ∧ (∀ (i j : Nat) v b b', xs[i]? = some v → xs[j]? = some v → bs[i]? = some b → bs[j]? = some b' → b = b') ∧ Q (.bl (if neg then !bs.any id else bs.any id)) H
section
variable {X : Cx}
open Classical in
noncomputable def toldOf (its : List Value) (bs : List Bool) (u : Value) : Bool := if h : ∃ b : Bool, ∃ i : Nat, its[i]? = some u ∧ bs[i]? = some b then Classical.choose h else false
theorem ds_core {pins : List (Addr × Obj)} {σ : St} {H : Hp} {s : Shared} {p a : Addr} {xs : List V} {us : List (Key × V)} {bs : List Bool} (hu : X.A.units + 70 < cLine) (I : Inv X pins σ H s) (hp : SqL X.K H p xs) (ha : Rd H a (.dK us)) (hl : xs.length = bs.length)
    (hD : ∀ (i : Nat) v b, xs[i]? = some v → bs[i]? = some b → DIn X.K H us a v b) (hf : ∀ (i j : Nat) v b b', xs[i]? = some v → xs[j]? = some v → bs[i]? = some b → bs[j]? = some b' → b = b') :
    ∃ (its : Array Value) (t : Value → Bool), s.heap.IsList p its ∧ (∀ y, y ∈ its → EqIn X.prog X.w X.A.in1 s y (.ref a) (t y)) ∧ its.any t = bs.any id := by
  obtain ⟨its, hv, pl, _⟩ := I.list hp
  have hvl := hv.length
  have look : ∀ (i : Nat) (u : Value), its[i]? = some u → ∃ v b, xs[i]? = some v ∧ bs[i]? = some b ∧ RelV v u := fun i u hi => by
    have h1 : i < its.length := (List.getElem?_eq_some_iff.mp hi).1
    have h2 : i < xs.length := by omega
    have h3 : i < bs.length := by omega
    obtain ⟨u', hu', ru⟩ := hv.get (List.getElem?_eq_getElem h2)
    rw [hi] at hu'
    cases hu'
    exact ⟨xs[i], bs[i], List.getElem?_eq_getElem h2, List.getElem?_eq_getElem h3, ru⟩
  have told : ∀ (i : Nat) (u : Value) (b : Bool), its[i]? = some u → bs[i]? = some b → toldOf its bs u = b := fun i u b hi hb => by
    have hx : ∃ b : Bool, ∃ i : Nat, its[i]? = some u ∧ bs[i]? = some b := ⟨b, i, hi, hb⟩
    unfold toldOf
    rw [dif_pos hx]
    obtain ⟨j, hj, hbj⟩ := Classical.choose_spec hx
    obtain ⟨v1, b1, x1, y1, r1⟩ := look i u hi
    obtain ⟨v2, b2, x2, y2, r2⟩ := look j u hj
    obtain ⟨q1, rfl, _⟩ := (hD i v1 b1 x1 y1).is
    obtain ⟨q2, rfl, _⟩ := (hD j v2 b2 x2 y2).is
    cases (show u = Value.ref q1 from r1)
    cases (show Value.ref q1 = Value.ref q2 from r2)
    exact hf j i _ _ _ x2 x1 hbj hb
  obtain ⟨z2, hd2, vs2, r2, dd2⟩ := dk_rd I.hok ha
  refine ⟨its.toArray, toldOf its bs, pl.isList, fun y hy => ?_, ?_⟩
  · obtain ⟨i, hi⟩ := List.mem_iff_getElem?.mp (show y ∈ its by simpa using hy)
    obtain ⟨v, b, h1, h2, ru⟩ := look i y hi
    rw [told i y b hi h2]
    obtain ⟨q, rfl, hqa, hqn⟩ := (hD i v b h1 h2).is
    cases (show y = Value.ref q from ru)
    refine eqIn_refs hqa fun hne E Q hQ => ?_
    obtain ⟨vs, e, hq, hE, hb⟩ := hqn hne
    obtain ⟨z1, hd1, us1, r1, dd1⟩ := dk_rd I.hok hq
    have u1 : X.A.in1.units ≤ X.A.units + 1 := by simp [Around.in1, Around.units]
    have u2 : X.A.in1.in1.units ≤ X.A.units + 2 := by simp [Around.in1, Around.units]
    refine dict_eqW e dd1 dd2 hd1 hd2 (by omega) (dEq_at (A := X.A.in1.in1) (by omega) I hE r1 r2) ?_
    rw [← r1.length, ← r2.length, ← hb]
    exact hQ
  · have e1 : its.toArray.any (toldOf its bs) = its.any (toldOf its bs) := by simp
    rw [e1]
    have e2 : its.any (toldOf its bs) = true ↔ bs.any id = true := by
      rw [List.any_eq_true, List.any_eq_true]
      constructor
      · rintro ⟨u, hm, ht⟩
        obtain ⟨i, hi⟩ := List.mem_iff_getElem?.mp hm
        obtain ⟨v, b, h1, h2, _⟩ := look i u hi
        rw [told i u b hi h2] at ht
        exact ⟨b, List.mem_of_getElem? h2, ht⟩
      · rintro ⟨b, hm, ht⟩
        obtain ⟨i, hi⟩ := List.mem_iff_getElem?.mp hm
        have h1 : i < bs.length := (List.getElem?_eq_some_iff.mp hi).1
        have h2 : i < its.length := by omega
        exact ⟨its[i], List.getElem_mem h2, by rw [told i _ b (List.getElem?_eq_getElem h2) hi]; exact ht⟩
    cases h1 : its.any (toldOf its bs) with
    | true => exact (e2.mp h1).symm
    | false =>
      cases h2 : bs.any id with
      | false => rfl
      | true => rw [e2.mpr h2] at h1; cases h1
theorem op_inDs (hu : X.A.units + 70 < cLine) : OpR X (compareOp .In) (rInDs X.K false) := by
  intro pins s σ H x y v u Q I rx ry h
  obtain ⟨p, a, xs, us, bs, rfl, rfl, hp, ha, hl, hD, hf, q⟩ := h
  cases rx
  cases ry
  obtain ⟨its, t, h1, h2, h3⟩ := ds_core hu I hp ha hl hD hf
  refine in_has t h1 h2 ?_
  rw [h3]
  exact ⟨.bl _, H, I, rfl, q⟩
theorem op_notInDs (hu : X.A.units + 70 < cLine) : OpR X (compareOp .NotIn) (rInDs X.K true) := by
  intro pins s σ H x y v u Q I rx ry h
  obtain ⟨p, a, xs, us, bs, rfl, rfl, hp, ha, hl, hD, hf, q⟩ := h
  cases rx
  cases ry
  obtain ⟨its, t, h1, h2, h3⟩ := ds_core hu I hp ha hl hD hf
  refine notIn_has t h1 h2 ?_
  rw [h3]
  exact ⟨.bl _, H, I, rfl, q⟩
end
section
variable {K : PySem.W.Frag} {ρ : Nat → Addr} {c : Qm.Cells} {H : Hp}
theorem ds_lk {x y : Qm.D} {v u : V} {b : Bool} (rs : RS K ρ c H) (rx : RD K ρ c.length H x v) (ry : RD K ρ c.length H y u) (e : Qm.inDs x y c = some b) :
    ∃ (p a : Addr) (xs : List V) (us : List (Key × V)) (bs : List Bool), v = .ref a ∧ u = .ref p ∧ SqL K H p xs ∧ Rd H a (.dK us) ∧ xs.length = bs.length ∧
      (∀ (i : Nat) v b, xs[i]? = some v → bs[i]? = some b → DIn K H us a v b) ∧ (∀ (i j : Nat) v b b', xs[i]? = some v → xs[j]? = some v → bs[i]? = some b → bs[j]? = some b' → b = b') ∧ bs.any id = b := by
  obtain ⟨l, f1, e⟩ := bnd e
  obtain ⟨p, f2, e⟩ := bnd e
  obtain ⟨a, f3, e⟩ := bnd e
  obtain ⟨bs, f4, e⟩ := bnd e
  cases e
  obtain ⟨_, hcl, ws, rfl, h1, a1⟩ := rs.lstOf ry (show Qm.lstOf y c = some (l.1, l.2) from f1)
  obtain ⟨_, hcp, us, rfl, h2, a2⟩ := rs.dcOf rx (show Qm.dcOf x c = some (p.1, p.2) from f2)
  obtain ⟨ol, oat⟩ := omap_at f4
  have p2 := pd_of rs a2 f3
  have hl := a1.length
  have each : ∀ (i : Nat) (w : V) (b : Bool), ws[i]? = some w → bs[i]? = some b → ∃ n qs ds, w = .ref (ρ n) ∧ c[n]? = some (.dct qs) ∧ Qm.pdata c qs = some ds ∧ b = (n == p.1 || Qm.eqPs ds a) := fun i w b hw hb => by
    obtain ⟨d, hd, rd⟩ := a1.getV hw
    have := oat i d b hd hb
    obtain ⟨q, g1, this⟩ := bnd this
    obtain ⟨ds, g2, this⟩ := bnd this
    cases this
    obtain ⟨rfl, g3, _, rfl, _⟩ := rs.dcOf rd (show Qm.dcOf d c = some (q.1, q.2) from g1)
    exact ⟨q.1, q.2, ds, rfl, g3, g2, rfl⟩
  refine ⟨_, _, ws, us, bs, rfl, rfl, SqL.of h1, .inl h2, by omega, fun i w b hw hb => ⟨?_⟩, fun i j w b b' hi hj hb hb' => ?_, rfl⟩
  · obtain ⟨n, qs, ds, rfl, hn, hds, rfl⟩ := each i w b hw hb
    refine ⟨_, rfl, fun hq => ?_, fun hq => ?_⟩
    · have : n = p.1 := rs.inj n p.1 _ _ hn hcp rfl rfl hq
      simp [this]
    · have hnp : n ≠ p.1 := fun z => hq (by rw [z])
      obtain ⟨vs, h3, a3⟩ := rs.dct hn
      have p3 := pd_of rs a3 hds
      refine ⟨vs, sayPs ds a, .inl h3, pd_eq p3 p2, ?_⟩
      rw [eqPs_of p3 p2]
      simp [hnp]
  · obtain ⟨n, qs, ds, hw1, hn, hds, rfl⟩ := each i w b hi hb
    obtain ⟨m, qs', ds', hw2, hm, hds', rfl⟩ := each j w b' hj hb'
    rw [hw1] at hw2
    have hnm : n = m := rs.inj n m _ _ hn hm rfl rfl (V.ref.inj hw2)
    subst hnm
    rw [hn] at hm
    cases hm
    rw [hds] at hds'
    cases hds'
    rfl
theorem lk_inDs : Lk2 K (rInDs K false) Qm.gInDs := by
  intro ρ c H x y d c' v u Q rs rx ry e k
  obtain ⟨b, e1, e⟩ := bnd e
  cases e
  obtain ⟨p, a, xs, us, bs, h1, h2, h3, h4, h5, h6, h7, h8⟩ := ds_lk rs rx ry e1
  refine ⟨p, a, xs, us, bs, h1, h2, h3, h4, h5, h6, h7, ?_⟩
  rw [if_neg (by decide), h8]
  exact k ρ _ H (Nx.refl rs) (.bl _)
theorem lk_notInDs : Lk2 K (rInDs K true) Qm.gNotInDs := by
  intro ρ c H x y d c' v u Q rs rx ry e k
  obtain ⟨b, e1, e⟩ := bnd e
  cases e
  obtain ⟨p, a, xs, us, bs, h1, h2, h3, h4, h5, h6, h7, h8⟩ := ds_lk rs rx ry e1
  refine ⟨p, a, xs, us, bs, h1, h2, h3, h4, h5, h6, h7, ?_⟩
  rw [if_pos rfl, h8]
  exact k ρ _ H (Nx.refl rs) (.bl _)
end
theorem Room.units2 {k : Nat} {A : Around} (r : Room k A) : A.units + 70 < cLine := by have := r.un; omega
end L2
namespace Qm
open PySem
noncomputable section
def iZipL (a : XA) : XI := fun σ c => (a σ c).bind fun p => match p.1 with
  | [.ref n, .ref m] => (p.2[n]?).bind fun z => (p.2[m]?).bind fun y => (lstOf (.ref n) p.2).bind fun l => (lstOf (.ref m) p.2).bind fun k => some (⟨zipD l.2 k.2, [(n, z), (m, y)]⟩, p.2)
  | _ => none
def bListRev : FN := fun ds c => match ds with
  | [.ref n] => (lstOf (.ref n) c).bind fun l => if l.2.length ≤ LINE then some (.ref c.length, c ++ [.lst l.2.reverse]) else none
  | _ => none
def gEqNil : G2 := fun x y c => (lstOf x c).bind fun l => (lstOf y c).bind fun k => if k.2.isEmpty = true then some (.bl l.2.isEmpty, c) else none
end
end Qm
namespace PySem
open Sem (wp)
theorem nolen_lr : typeLookup (.type "list_reverseiterator") "__len__" = pure none := by rw [typeLookup_type, builtinLookup_eq_fast]; kernel_rfl
theorem hint_lr : typeLookup (.type "list_reverseiterator") "__length_hint__" = pure (some (.builtin "list_reverseiterator.__length_hint__")) := by rw [typeLookup_type, builtinLookup_eq_fast]; kernel_rfl
section
variable {prog : Program} {w : World} {A : Around} {E : Value → Shared → Prop} {s : Shared} {I : Addr} {fp wr : List Addr} {G : Array GenState → Array GenState → Prop} {n : Nat} {P : Nat → Value → Prop} {St : Nat → Shared → Prop}
theorem ext_lri {R : Result → Shared → Prop} (W : WalksS prog w A.in1 I fp wr G n P St) (hT : ∀ i s, St i s → s.TypeIs (.ref I) "list_reverseiterator") (S : Addr) (res : Value) (hst : St 0 s) (hSf : S ∉ fp) (hI : I ∈ fp)
    {nn : Nat} (hS : s.heap.get? S = some { cls := .type "list", data := .seq #[] nn })
    (hR : ∀ s' acc' c', Moved (S :: wr) G s s' → s'.heap.get? S = some { cls := .type "list", dict := none, data := .seq acc' c', slots := #[] } → ItemsOf P acc' n → R (.ok (.ret res)) s') (hn : n ≤ sizeLine) :
    wpAny (model prog w) A.in1 (Builtin.List.listExtendWith (.ref S) (.ref I) res)
      (fun fin s' => match fin with | .done f => R (.ok f) s' | .again c' => c'.quiet = true ∧ codeAny (model prog w) A c' R s') (fun e s' => R (.error e) s') s := by
  have ty := hT 0 _ hst
  have two : Builtin.List.listSameRef (.ref S) (.ref I) = false := by
    have : S ≠ I := by rintro rfl; exact hSf hI
    simp [Builtin.List.listSameRef, this]
  refine wpAny_bind (wpAny_typeOf ty ?_)
  rw [if_neg (by rw [two]; decide)]
  refine wpAny_bind (W.self 0 _ _ _ hst (wpAny_bind (wpAny_holding (wpAny_bind (wpAny_specialOf ty nolen_lr (show wpAny _ _ (specialOf _ (Str.ofString "__length_hint__") >>= _) _ _ _ from wpAny_bind (wpAny_specialOf ty hint_lr ?_)))))))
  generalize said : ("list_reverseiterator.__length_hint__" : String) = nm
  have cut : splitId nm = some ("list_reverseiterator", "__length_hint__") := by rw [← said]; decide +kernel
  wp_delta
  rw [cut, ← said]
  refine wpAny_bind (wpAny_isInstance (b := true) ty (by rw [isSubtype_type]; kernel_rfl) (wpAny_pure ?_))
  rw [if_neg (by decide)]
  exact wpAny_pure ⟨plainId_quiet F.plain_extend_loop _, codeAny_extend_loopS W hn _ hSf _ n 0 _ _ _ rfl (Nat.zero_le _) hst hS (ItemsOf.nil P) hR⟩
theorem init_lri {R : Result → Shared → Prop} (W : WalksS prog w A.in1 I fp wr G n P St) (hT : ∀ i s, St i s → s.TypeIs (.ref I) "list_reverseiterator") (S : Addr) (hst : St 0 s) (hSf : S ∉ fp) (hI : I ∈ fp)
    (hS : s.heap.get? S = some { cls := .type "list", data := .seq #[] })
    (hR : ∀ s' acc' c', Moved (S :: wr) G s s' → s'.heap.get? S = some { cls := .type "list", dict := none, data := .seq acc' c', slots := #[] } → ItemsOf P acc' n → R (.ok (.ret .none)) s') (hn : n ≤ sizeLine) :
    wpAny (model prog w) A.in1 (Builtin.«list.__init__» ⟨[.ref S, .ref I], []⟩)
      (fun fin s' => match fin with | .done f => R (.ok f) s' | .again c' => c'.quiet = true ∧ codeAny (model prog w) A c' R s') (fun e s' => R (.error e) s') s := by
  show wpAny _ A.in1 (Builtin.List.listItems (.ref S) >>= fun old => Builtin.List.listUpdate (.ref S) (fun _ => #[]) >>= fun _ => letGo old.toList.reverse >>= fun _ => Builtin.List.listExtendWith (.ref S) (.ref I) .none) _ _ s
  refine wpAny_bind (m := Builtin.List.listItems (.ref S)) ?_
  unfold Builtin.List.listItems
  refine wpAny_bind (wpAny_seqItems hS rfl (wpAny_pure ?_))
  show wpAny _ A.in1 (updateSeq S (fun _ => #[]) >>= fun _ => letGo ([] : List Value).reverse >>= fun _ => Builtin.List.listExtendWith (.ref S) (.ref I) .none) _ _ s
  refine wpAny_bind (wpAny_updateSeq hS rfl ?_)
  have hS2 := Heap.get?_update_self (Obj.mapSeq (fun _ => (#[] : Array Value))) hS rfl
  have oth : ∀ b o, b ≠ S → s.heap.get? b = some o → (s.heap.update S (Obj.mapSeq (fun _ => (#[] : Array Value)))).get? b = some o := fun b o hb e => (Heap.get?_update_other _ _ (Ne.symm hb)).trans e
  refine wpAny_bind (wpAny_letGo (ext_lri (hn := hn) W hT S .none (W.frame 0 s _ s.toks hst (Nat.le_refl _) fun b hb o e => oth b o (fun h => hSf (h ▸ hb)) e) hSf hI hS2 fun s' acc' c' hm hS' hacc => ?_))
  exact hR s' acc' c' (Moved.trans W.gtrans ((Moved.refl W.grefl).then_heap (Nat.le_refl _) (fun b o hb e => oth b o (fun h => hb (h ▸ List.mem_cons_self)) e)) hm) hS' hacc
theorem call_list_lri {Q : Value → Shared → Prop} (W : WalksS prog w A.in1.in1 I fp wr G n P St) (hT : ∀ i s, St i s → s.TypeIs (.ref I) "list_reverseiterator") (hst : St 0 s) (hfp : ∀ b ∈ fp, b < s.heap.objs.size) (hI : I ∈ fp)
    (hQ : ∀ s' acc' c', Moved (s.heap.objs.size :: wr) G { s with heap := s.heap.push { cls := .type "list", data := .seq #[] } } s' → s'.heap.get? s.heap.objs.size = some { cls := .type "list", dict := none, data := .seq acc' c', slots := #[] } → ItemsOf P acc' n → Q (.ref s.heap.objs.size) s') (hn : n ≤ sizeLine) :
    wpAny (model prog w) A (call (.type "list") [.ref I]) Q E s := by
  have hSf : s.heap.objs.size ∉ fp := fun hm => Nat.lt_irrefl _ (hfp _ hm)
  refine callType_codes (Q₁ := fun obj s₁ => obj = .ref s.heap.objs.size ∧ s₁ = { s with heap := s.heap.push { cls := .type "list", data := .seq #[] } }) F.called_list (F.typeCall_list_1 _) F.entry_list_init (code_list_new _ ⟨rfl, rfl⟩) fun obj s₁ h₁ => ?_
  obtain ⟨rfl, rfl⟩ := h₁
  have hS : (s.heap.push { cls := .type "list", data := .seq #[] }).get? s.heap.objs.size = some { cls := .type "list", data := .seq #[] } := Heap.get?_push_size _ rfl
  exact ⟨⟨_, hS, rfl⟩, F.args_list_init_2 _ _, init_lri (hn := hn) W hT _ (W.frame 0 s _ s.toks hst (Nat.le_refl _) fun b _ o e => Heap.get?_push_of_some _ e) hSf hI hS fun s' acc' c' hm hS' hacc => ⟨rfl, hQ s' acc' c' hm hS' hacc⟩⟩
end
end PySem
namespace L2
open PySem PySem.Spec PyProof.Rows
theorem lri_items {its : List Value} {acc : Array Value} (h : ItemsOf (fun i v => its.toArray[its.toArray.size - 1 - i]? = some v) acc its.toArray.size) : acc.toList = its.reverse := by
  obtain ⟨h1, h2⟩ := h
  apply List.ext_getElem?
  intro j
  have el : acc.toList.length = its.length := by simpa using h1
  by_cases hj : j < its.length
  · have e1 : acc[j]? = some (acc[j]'(by rw [h1]; simpa using hj)) := Array.getElem?_eq_getElem _
    have e2 := h2 j _ e1
    rw [List.getElem?_reverse hj, show acc.toList[j]? = acc[j]? by simp, e1, ← e2]
    simp
  · rw [List.getElem?_eq_none (by omega), List.getElem?_eq_none (by rw [List.length_reverse]; omega)]
def tListRev (K : PySem.W.Frag) (t : TA) : TE := fun σ H Q => t σ H fun vs H1 => ∃ a xs, vs = [.ref a] ∧ SqL K H1 a xs ∧ ∀ l, H1 l = none → Q (.ref l) (upd H1 l (.lst xs.reverse))
section
variable {X : Cx}
theorem pe_listrev {p0 p1 p2 pos : Pos} {e : Expr} {f : TA} (hc : X.calm = true) (hg : Gl X "list") (hm : X.mg "list" = none) (hg2 : Gl X "reversed") (hm2 : X.mg "reversed" = none) (ha : PA X [e] f)
    (hs : starEach [.Call (.Name "reversed" p1) [e] [] p2] X.env = [(false, eval (.Call (.Name "reversed" p1) [e] [] p2) X.env)] := by rfl)
    (hs2 : starEach [e] X.env = (false, eval e X.env) :: starEach [] X.env := by rfl) (hpl : (backTo p2 (starEach [] X.env)).any (·.1) = false := by rfl) :
    PE X (.Call (.Name "list" p0) [.Call (.Name "reversed" p1) [e] [] p2] [] pos) (tListRev X.K f) := by
  intro pins s σ H Q I h
  refine wpAny_Call_Name_kw (ld_blt I hg hm (u := .type "list") (by decide +kernel) ?_)
  refine PyProof.Rows.callWith_type1 ?_ hs rfl
  rw [hs]
  show wpAny _ _ (spliced [(false, eval (.Call (.Name "reversed" p1) [e] [] p2) X.env)]) _ _ _
  refine Calls.spliced_cons ?_
  refine wpAny_Call_Name_kw (ld_blt I hg2 hm2 (u := .type "reversed") (by decide +kernel) ?_)
  refine PyProof.Rows.callWith_type1 (thn (ha p2 pins s σ H _ I h) fun us s1 ⟨vs, H1, I1, r1, q1⟩ => ?_) hs2 hpl
  obtain ⟨t, xs, rfl, ht, q⟩ := q1
  obtain ⟨u1, rfl, ra⟩ := vals1 r1
  cases (show u1 = Value.ref t from ra)
  obtain ⟨its, hv, tt, hz⟩ := I1.list ht
  have hlen := hv.length
  have hsz : its.toArray.size ≤ sizeLine := by simp only [List.size_toArray]; omega
  refine call_reversed_list (l := t) (items := its.toArray) tt.isList (Calls.spliced_nil ?_)
  have I2 : Inv X pins σ H1 { s1 with heap := s1.heap.push (revObj t ((its.toArray.size : Int) - 1)) } := I1.kept (t' := s1.toks) fun b o e => Heap.get?_push_of_some _ e
  have hit : (s1.heap.push (revObj t ((its.toArray.size : Int) - 1))).IsRevIter s1.heap.objs.size t ((its.toArray.size : Int) - 1) := ⟨_, Heap.get?_push_size _ rfl, rfl, rfl⟩
  have tt2 : (s1.heap.push (revObj t ((its.toArray.size : Int) - 1))).IsList t its.toArray := Heap.IsList.push tt.isList _
  have htl : t < s1.heap.objs.size := by obtain ⟨o, ho, _⟩ := tt.isList; exact Heap.lt_size ho
  have hnt : t ≠ s1.heap.objs.size := Nat.ne_of_lt htl
  have hnew : H1 s1.heap.objs.size = none := I1.fresh
  have fpk : FpOk X pins H1 s1.heap.objs.size := I1.fpOk (Nat.le_refl _) hnew
  have es : s1.heap.objs.size < (s1.heap.push (revObj t ((its.toArray.size : Int) - 1))).objs.size := by rw [Heap.size_push]; exact Nat.lt_succ_self _
  generalize s1.heap.objs.size = p at *
  generalize hs3 : ({ s1 with heap := s1.heap.push (revObj t ((its.toArray.size : Int) - 1)) } : Shared) = s3 at *
  have hh : s3.heap = s1.heap.push (revObj t ((its.toArray.size : Int) - 1)) := by rw [← hs3]
  rw [← hh] at hit tt2 es
  have W := (Walks.listRev (prog := X.prog) (w := X.w) (A := X.A.in1.in1) (I.ok.hd hc) p t hnt its.toArray).toS
  refine call_list_lri W (fun i s' st => Heap.IsRevIter.typeIs st.2.1) ⟨Nat.zero_le _, by simpa using hit, tt2⟩ (fun b hb => ?_) (by simp) (fun s' acc cc hm hS hacc => ?_) hsz
  · have : b = p ∨ b = t := by simpa using hb
    rcases this with rfl | rfl
    · exact es
    · exact Nat.lt_trans htl es
  · have ea := lri_items hacc
    have hs' : s' = { s3 with heap := s'.heap, toks := s'.toks } := by
      obtain ⟨c1, c2, c3, c4, c5⟩ := s'
      obtain ⟨d1, d2, d3, d4, d5⟩ := s3
      have q1 := hm.gens; have q2 := hm.drawn; have q3 := hm.os
      simp only at q1 q2 q3
      subst q1 q2 q3
      rfl
    have hL : H1 s3.heap.objs.size = none := I2.fresh
    have hpL : p ≠ s3.heap.objs.size := Nat.ne_of_lt es
    have k3 : ∀ b o, b ≠ p → b ≠ s3.heap.objs.size → s3.heap.get? b = some o → s'.heap.get? b = some o := fun b o h1 h2 e => hm.heap b o (by simp [h1, h2]) (Heap.get?_push_of_some _ e)
    have hv2 : Vals xs.reverse its.reverse := hv.reverse
    have hz2 : xs.reverse.length ≤ sizeLine := by rw [List.length_reverse]; exact hz
    have ea2 : acc = its.reverse.toArray := by rw [← ea]
    have hS' : s'.heap.get? s3.heap.objs.size = some { cls := .type "list", dict := none, data := .seq its.reverse.toArray cc, slots := #[] } := by rw [← ea2]; exact hS
    have I4 : Inv X pins σ (upd H1 s3.heap.objs.size (.lst xs.reverse)) { s3 with heap := s'.heap, toks := s'.toks } := I2.turnN (ch := [p]) (t' := s'.toks) (fun b hb => by rw [List.mem_singleton.mp hb]; exact fpk) (fun b u hb e => k3 b u (by simpa using hb) (Nat.ne_of_lt (Heap.lt_size e)) e) (Nat.le_refl _) ⟨hz2, its.reverse, cc, hv2, hS'⟩
    rw [hs']
    exact ⟨.ref s3.heap.objs.size, _, I4, rfl, q _ hL⟩
theorem qe_ListRev {e1 : Expr} {p0 p1 p2 pos : Pos} {f : Qm.XA} (hg : Gl X "list") (hm : X.mg "list" = none) (hg2 : Gl X "reversed") (hm2 : X.mg "reversed" = none) (ha : QA X [e1] f) (hc : X.calm = true := by rfl)
    (hs : starEach [.Call (.Name "reversed" p1) [e1] [] p2] X.env = [(false, eval (.Call (.Name "reversed" p1) [e1] [] p2) X.env)] := by rfl)
    (hs2 : starEach [e1] X.env = (false, eval e1 X.env) :: starEach [] X.env := by rfl) (hpl : (backTo p2 (starEach [] X.env)).any (·.1) = false := by rfl) :
    QE X (.Call (.Name "list" p0) [.Call (.Name "reversed" p1) [e1] [] p2] [] pos) (Qm.eB Qm.bListRev f) := (pe_listrev hc hg hm hg2 hm2 ha hs hs2 hpl).imp fun σ H Q ⟨ρ, env, c, d, c', rs, re, e, k⟩ => by
  obtain ⟨p, ea, e⟩ := bnd e
  refine ⟨ρ, env, c, p.1, p.2, rs, re, ea, fun ρ1 vs H1 n1 r1 => ?_⟩
  unfold Qm.bListRev at e
  split at e
  · rename_i n hp
    obtain ⟨l, e3, e⟩ := bnd e
    split at e
    · cases e
      rw [hp] at r1
      obtain ⟨v, rfl, rx⟩ := r1.one'
      obtain ⟨hv, hn⟩ := rx.ref'
      subst hv
      obtain ⟨dn, hc1, ws, _, h1, a1⟩ := n1.rs.lstOf (d := .ref n) (.ref hn) (show Qm.lstOf (.ref n) p.2 = some (l.1, l.2) from e3)
      have hln : l.1 = n := by cases dn; rfl
      rw [hln] at h1
      refine ⟨_, ws, rfl, SqL.of h1, fun a ha1 => ?_⟩
      obtain ⟨n2, r2⟩ := Nx.alloc n1.rs ha1 (RA.back a1)
      exact k _ _ _ (n1.trans n2) r2
    · cases e
  · cases e
end
end L2
namespace L2
open PySem PySem.Spec PyProof.Rows
theorem zl_apart {m a b : Nat} (ha : a < m) (hb : b < m) : ZipApart (m + 4) (m + 2) (m + 3) m (m + 1) a b := by
  constructor <;> first | exact Nat.ne_of_lt (by omega) | exact Nat.ne_of_gt (by omega)
def Itzl (K : PySem.W.Frag) (a b : Addr) : It :=
  ⟨fun i H => ∃ xs ys x y, SqL K H a xs ∧ SqL K H b ys ∧ xs[i]? = some x ∧ ys[i]? = some y,
   fun i H v H' => ∃ T, v = .ref T ∧ H T = none ∧ ∀ xs ys, SqL K H a xs → SqL K H b ys → ∃ x y, xs[i]? = some x ∧ ys[i]? = some y ∧ H' = upd H T (.tup [x, y]),
   fun i H => ∃ xs ys, SqL K H a xs ∧ SqL K H b ys ∧ (xs.length ≤ i ∨ ys.length ≤ i)⟩
theorem turn_zipL {P : Program} {w : World} {K : PySem.W.Frag} {es : List Expr} {k0 : Nat} {p0 : Pos} (z TI TO i1 i2 a b : Addr) (D : ZipApart z TI TO i1 i2 a b) :
    Turn P w K (.Tuple es k0 p0) (Itzl K a b) [z, TI, TO, i1, i2] z (fun i h => IsZip h z TI TO .none ∧ IsPair h TI (.ref i1) (.ref i2) ∧ (∃ x y, IsPair h TO x y) ∧ h.IsListIter i1 a i ∧ h.IsListIter i2 b i) where
  mem := by simp
  obj := fun i h Z c hc => by
    obtain ⟨hz, gI, ⟨x, y, gO⟩, j1, j2⟩ := Z
    rcases List.mem_cons.mp hc with rfl | hc
    · exact ⟨_, hz, by simp⟩
    rcases List.mem_cons.mp hc with rfl | hc
    · exact ⟨_, gI, by simp⟩
    rcases List.mem_cons.mp hc with rfl | hc
    · exact ⟨_, gO, by simp⟩
    rcases List.mem_cons.mp hc with rfl | hc
    · obtain ⟨o, e, _, d⟩ := j1
      exact ⟨o, e, by rw [d]; simp⟩
    · have : c = i2 := by simpa using hc
      subst this
      obtain ⟨o, e, _, d⟩ := j2
      exact ⟨o, e, by rw [d]; simp⟩
  keep := fun i h h' Z kk => by
    obtain ⟨hz, gI, ⟨x, y, gO⟩, j1, j2⟩ := Z
    exact ⟨kk _ (by simp) _ hz, kk _ (by simp) _ gI, ⟨x, y, kk _ (by simp) _ gO⟩, j1.at fun o e => kk _ (by simp) o e, j2.at fun o e => kk _ (by simp) o e⟩
  item := fun X hP hw hK hc i pins s σ H E I hf Z go => by
    subst hP hw hK
    obtain ⟨xs, ys, x, y, hxs, hys, hx, hy⟩ := go
    obtain ⟨ia, va, ta, _⟩ := I.list hxs
    obtain ⟨ib, vb, tb, _⟩ := I.list hys
    obtain ⟨ux, hux, rx⟩ := va.get hx
    obtain ⟨uy, huy, ry⟩ := vb.get hy
    obtain ⟨hz, gI, ⟨x0, y0, gO⟩, j1, j2⟩ := Z
    refine wpAny_pyNext_zip_item D hz gI gO j1 j2 ta.isList tb.isList (x := ux) (y := uy) (by simpa using hux) (by simpa using huy) fun h' zr gO' j1' j2' gT sz keep => ⟨_, rfl, ?_⟩
    refine wpAny_letOwnedTupleGo_zip zr fun h2 z2 s2 => ?_
    have up : ∀ c o, c ≠ z → h'.get? c = some o → h2.get? c = some o := fun c o hc' e => s2.extBut _ _ hc' e
    have zl : z < s.heap.objs.size := Heap.lt_size hz
    have Tz : s.heap.objs.size ≠ z := Nat.ne_of_gt zl
    have gT2 := up _ _ Tz gT
    have tI := keep _ _ D.TIz D.TITO D.TIi1 D.TIi2 gI
    have hall : ∀ c u, c ∉ [z, TI, TO, i1, i2] → s.heap.get? c = some u → h2.get? c = some u := fun c u hc' e => by
      simp only [List.mem_cons, List.not_mem_nil, or_false, not_or] at hc'
      exact up c u hc'.1 (keep c u hc'.1 hc'.2.2.1 hc'.2.2.2.1 hc'.2.2.2.2 e)
    have hTn : H s.heap.objs.size = none := I.hok.fresh (Nat.le_refl _)
    have hfT : ∀ c ∈ [z, TI, TO, i1, i2], c ≠ s.heap.objs.size := fun c hc' => by
      have : c < s.heap.objs.size := by
        rcases List.mem_cons.mp hc' with rfl | hc'
        · exact zl
        rcases List.mem_cons.mp hc' with rfl | hc'
        · exact Heap.lt_size gI
        rcases List.mem_cons.mp hc' with rfl | hc'
        · exact Heap.lt_size gO
        rcases List.mem_cons.mp hc' with rfl | hc'
        · obtain ⟨o, e, _⟩ := j1; exact Heap.lt_size e
        · have : c = i2 := by simpa using hc'
          subst this
          obtain ⟨o, e, _⟩ := j2; exact Heap.lt_size e
      exact Nat.ne_of_lt this
    refine ⟨.ref s.heap.objs.size, upd H s.heap.objs.size (.tup [x, y]), I.turnN (t' := s.toks) hf hall (Nat.le_refl _) ⟨by show 2 ≤ sizeLine; decide, [ux, uy], .cons rx (.cons ry .nil), ⟨_, gT2, rfl, _, rfl⟩⟩, rfl, ⟨_, rfl, hTn, fun xs' ys' h1 h2 => ?_⟩, ⟨z2, up _ _ D.TIz tI, ⟨_, _, up _ _ D.TOz gO'⟩, j1'.extBut s2.extBut D.i1z, j2'.extBut s2.extBut D.i2z⟩, fun c hc' => ?_⟩
    · rw [← I.list_inj hxs h1, ← I.list_inj hys h2]
      exact ⟨x, y, hx, hy, rfl⟩
    · rw [upd_ne (hfT c hc')]
      exact (hf c hc').1
  done := fun X hP hw hK hc i pins s σ H E I hf Z st => by
    subst hP hw hK
    obtain ⟨xs, ys, hxs, hys, hend⟩ := st
    obtain ⟨ia, va, ta, _⟩ := I.list hxs
    obtain ⟨ib, vb, tb, _⟩ := I.list hys
    obtain ⟨hz, gI, ⟨x0, y0, gO⟩, j1, j2⟩ := Z
    have la := va.length
    have lb := vb.length
    refine wpAny_pyNext_zip_end (I.ok.hd hc) D hz gI gO j1 j2 ta.isList tb.isList ?_ fun h' kk => ⟨rfl, I.turnL (t' := s.toks) hf fun c u hc' e => ?_⟩
    · rcases hend with h | h
      · exact .inl (Array.getElem?_eq_none (by simp; omega))
      · exact .inr (Array.getElem?_eq_none (by simp; omega))
    · simp only [List.mem_cons, List.not_mem_nil, or_false, not_or] at hc'
      exact kk c u hc'.1 hc'.2.2.1 hc'.2.2.2.1 hc'.2.2.2.2 e
  self := fun A i s Q E Z q => wpAny_pyIter_zip Z.1 q
def iZipLT (K : PySem.W.Frag) (t : TA) : TI := fun σ H R => t σ H fun vs H1 => ∃ a b xs ys, vs = [.ref a, .ref b] ∧ SqL K H1 a xs ∧ SqL K H1 b ys ∧ R (Itzl K a b) H1
section
variable {X : Cx} {e1 e2 : Expr} {p0 p1 p2 pos : Pos} {f : Qm.XA} {es : List Expr} {k0 : Nat}
theorem pi_zipL {t : TA} (hg : Gl X "zip") (hm : X.mg "zip" = none) (ha : PA X [e1, e2] t) (hs2 : starEach [e1, e2] X.env = (false, eval e1 X.env) :: starEach [e2] X.env := by rfl) (hpl : (backTo p2 (starEach [e2] X.env)).any (·.1) = false := by rfl) :
    PI X (.Tuple es k0 p0) (.Call (.Name "zip" p1) [e1, e2] [] p2) (iZipLT X.K t) := by
  intro pins s σ H R I h
  refine wpAny_Call_Name_kw (ld_blt I hg hm (u := .type "zip") (by decide +kernel) ?_)
  refine PyProof.Rows.callWith_type1 (thn (ha p2 pins s σ H _ I h) fun us s1 ⟨vs, H1, I1, r1, q1⟩ => ?_) hs2 hpl
  obtain ⟨a, b, xs, ys, rfl, ha1, hb1, q⟩ := q1
  obtain ⟨u1, u2, rfl, ra, rb⟩ := vals2 r1
  cases (show u1 = Value.ref a from ra)
  cases (show u2 = Value.ref b from rb)
  obtain ⟨ia, va, ta, za⟩ := I1.list ha1
  obtain ⟨ib, vb, tb, zb⟩ := I1.list hb1
  have la : a < s1.heap.objs.size := by obtain ⟨o, ho, _⟩ := ta.isList; exact Heap.lt_size ho
  have lb : b < s1.heap.objs.size := by obtain ⟨o, ho, _⟩ := tb.isList; exact Heap.lt_size ho
  refine call_zip_2 ta.isList tb.isList fun h2 hz gI gO j1 j2 sz up => ?_
  refine wpAny_pyIter_zip hz ?_
  have I2 : Inv X pins σ H1 { s1 with heap := h2 } := I1.kept (t' := s1.toks) up
  have fr : ∀ c, s1.heap.objs.size ≤ c → FpOk X pins H1 c := fun c hc => I1.fpOk hc (I1.hok.fresh hc)
  have D := zl_apart la lb
  refine ⟨_, _, _, Itzl X.K a b, H1, rfl, I2, turn_zipL _ _ _ _ _ a b D, ⟨hz, gI, ⟨_, _, gO⟩, j1, j2⟩, fun c hc => ?_, q⟩
  · rcases List.mem_cons.mp hc with rfl | hc
    · exact fr _ (Nat.le_add_right _ _)
    rcases List.mem_cons.mp hc with rfl | hc
    · exact fr _ (Nat.le_add_right _ _)
    rcases List.mem_cons.mp hc with rfl | hc
    · exact fr _ (Nat.le_add_right _ _)
    rcases List.mem_cons.mp hc with rfl | hc
    · exact fr _ (Nat.le_refl _)
    · have : c = s1.heap.objs.size + 1 := by simpa using hc
      subst this
      exact fr _ (Nat.le_add_right _ _)
theorem qi_zipL (hg : Gl X "zip") (hm : X.mg "zip" = none) (ha : QA X [e1, e2] f) (hs2 : starEach [e1, e2] X.env = (false, eval e1 X.env) :: starEach [e2] X.env := by rfl) (hpl : (backTo p2 (starEach [e2] X.env)).any (·.1) = false := by rfl) :
    QI X (.Tuple es k0 p0) (.Call (.Name "zip" p1) [e1, e2] [] p2) (Qm.iZipL f) := (pi_zipL hg hm ha hs2 hpl).imp fun σ H R ⟨ρ, env, c, m, c', rs, re, e, k⟩ => by
  obtain ⟨p, ea, e⟩ := bnd e
  refine ⟨ρ, env, c, p.1, p.2, rs, re, ea, fun ρ1 vs H1 n1 r1 => ?_⟩
  split at e
  · rename_i n m' hp
    obtain ⟨z, e2, e⟩ := bnd e
    obtain ⟨y, e3, e⟩ := bnd e
    obtain ⟨l, e4, e⟩ := bnd e
    obtain ⟨l2, e5, e⟩ := bnd e
    cases e
    rw [hp] at r1
    obtain ⟨v, u, rfl, rx, ry⟩ := r1.two'
    obtain ⟨hv, hn⟩ := rx.ref'
    obtain ⟨hu, hm'⟩ := ry.ref'
    subst hv hu
    obtain ⟨dn, hc1, ws, _, h1, a1⟩ := n1.rs.lstOf (d := .ref n) (.ref hn) (show Qm.lstOf (.ref n) p.2 = some (l.1, l.2) from e4)
    obtain ⟨dn', hc1', ws', _, h1', a1'⟩ := n1.rs.lstOf (d := .ref m') (.ref hm') (show Qm.lstOf (.ref m') p.2 = some (l2.1, l2.2) from e5)
    have hln : l.1 = n := by cases dn; rfl
    have hln' : l2.1 = m' := by cases dn'; rfl
    rw [hln] at hc1 h1
    rw [hln'] at hc1' h1'
    refine ⟨_, _, ws, ws', rfl, SqL.of h1, SqL.of h1', k ρ1 _ H1 n1 fun ρ2 c2 H2 u2 rs2 st2 => ?_⟩
    have hz : z = .lst l.2 := by rw [e2] at hc1; exact Option.some.inj hc1
    have hy : y = .lst l2.2 := by rw [e3] at hc1'; exact Option.some.inj hc1'
    obtain ⟨us, h2, a2⟩ := rs2.lst (by rw [← hz]; exact st2 (n, z) (by simp))
    obtain ⟨us', h2', a2'⟩ := rs2.lst (by rw [← hy]; exact st2 (m', y) (by simp))
    rw [u2.agree n hn] at h2
    rw [u2.agree m' hm'] at h2'
    have l1 := a2.length
    have l2' := a2'.length
    have hl : (Qm.zipD l.2 l2.2).length = min l.2.length l2.2.length := by simp [Qm.zipD]
    refine ⟨fun i hi => ?_, ⟨us, us', SqL.of h2, SqL.of h2', ?_⟩, fun i d x H' hd hy => ?_⟩
    · dsimp only at hi
      have g1 : i < us.length := by omega
      have g2 : i < us'.length := by omega
      exact ⟨us, us', us[i], us'[i], SqL.of h2, SqL.of h2', List.getElem?_eq_getElem g1, List.getElem?_eq_getElem g2⟩
    · show us.length ≤ (Qm.zipD l.2 l2.2).length ∨ us'.length ≤ (Qm.zipD l.2 l2.2).length
      omega
    · obtain ⟨T, rfl, hT, hy⟩ := hy
      obtain ⟨x', y', g1, g2, rfl⟩ := hy us us' (SqL.of h2) (SqL.of h2')
      obtain ⟨dx, dy, f1, f2, rfl⟩ := zipD_get hd
      obtain ⟨v1, q1, r1⟩ := a2.get f1
      obtain ⟨v2, q2, r2⟩ := a2'.get f2
      rw [g1] at q1; cases q1
      rw [g2] at q2; cases q2
      have n := Nx.same rs2 (same_new (z := .tup [x', y']) hT)
      exact ⟨n, .tup upd_same (.cons (r1.up n.up) (.cons (r2.up n.up) .nil))⟩
  · cases e
end
end L2
namespace PySem
open Sem (wp)
open AutoSeq1 (wpAny_loadPart')
open MeetsSeq MeetsSeq2 MeetsSeq3 SeqRoads2
section
variable {P : Program} {W : World}
theorem nil_loop (la lb : Addr) (n1 n2 : Nat) (d1 d2 : Option Addr) (s1 s2 : Array (Option Value)) : MeetsIn P W (Builtin.«list.__eq__.loop» ⟨[.ref la, .ref lb, rawInt (0 : Nat), rawInt 2], []⟩)
    (fun A R s => s.heap.get? la = some { cls := .type "list", dict := d1, data := .seq #[] n1, slots := s1 } ∧ s.heap.get? lb = some { cls := .type "list", dict := d2, data := .seq #[] n2, slots := s2 } ∧ R (.ok (.ret (.bool true))) s) := by
  intro A R s hyp
  obtain ⟨hp, gg, dd, tk, os⟩ := s
  obtain ⟨hl, hb, hyp⟩ := hyp
  wp_walk using wpAny_loadPart' hl, wpAny_loadPart' hb
  try (have i1 : (#[] : Array Value)[((0 : Nat) : Int).toNat]? = none := by simp
       rw [i1])
  wp_walk using wpAny_loadPart' hl, wpAny_loadPart' hb
  exact hyp
theorem nil_eq (la lb : Addr) (its : Array Value) (n1 n2 : Nat) (d1 d2 : Option Addr) (s1 s2 : Array (Option Value)) : MeetsIn P W (Builtin.«list.__eq__» ⟨[.ref la, .ref lb], []⟩)
    (fun A R s => s.heap.get? la = some { cls := .type "list", dict := d1, data := .seq its n1, slots := s1 } ∧ s.heap.get? lb = some { cls := .type "list", dict := d2, data := .seq #[] n2, slots := s2 } ∧ R (.ok (.ret (.bool its.isEmpty))) s) := by
  intro A R s hyp
  obtain ⟨hp, gg, dd, tk, os⟩ := s
  obtain ⟨hl, hb, hyp⟩ := hyp
  have f3 := AutoSeq1.sub_list_list
  by_cases h0 : its = #[]
  · subst h0
    have hne : ¬ ((#[] : Array Value).size != (#[] : Array Value).size) = true := by simp
    wp_walk using wpAny_loadPart' hl, wpAny_loadPart' hb
    refine ⟨plainId_quiet plain_eq_loop _, codeAny_builtin entry_eq_loop ?_⟩
    rw [Around.under_plainId plain_eq_loop _]
    exact nil_loop la lb n1 n2 d1 d2 s1 s2 A R _ ⟨hl, hb, hyp⟩
  · have hc0 : (its.size != (#[] : Array Value).size) = true := by
      have : its.size ≠ 0 := fun e => h0 (Array.eq_empty_of_size_eq_zero e)
      simpa using this
    have he : its.isEmpty = false := by simpa [Array.isEmpty_iff] using h0
    rw [he] at hyp
    wp_walk using wpAny_loadPart' hl, wpAny_loadPart' hb
    exact hyp
end
end PySem
namespace L2
open PySem PySem.Spec PyProof.Rows
def rEqNil (K : PySem.W.Frag) : R2 := fun x y H Q => ∃ a b xs, x = .ref a ∧ y = .ref b ∧ SqL K H a xs ∧ SqL K H b [] ∧ Q (.bl xs.isEmpty) H
section
variable {X : Cx}
theorem op_eqNil (hu : X.A.units + 65 < cLine) : OpR X (compareOp .Eq) (rEqNil X.K) := by
  intro pins s σ H x y v u Q I rx ry h
  obtain ⟨a, b, xs, rfl, rfl, h1, h2, q⟩ := h
  cases rx
  cases ry
  obtain ⟨ia, va, ta, _⟩ := I.list h1
  obtain ⟨ib, vb, tb, _⟩ := I.list h2
  have hb : ib = [] := by cases vb; rfl
  subst hb
  obtain ⟨⟨cc, da, dt, ss⟩, ho, hc, n1, hd⟩ := ta.isList
  obtain ⟨⟨cc', da', dt', ss'⟩, ho', hc', n2, hd'⟩ := tb.isList
  simp only at hc hd hc' hd'
  subst hc hd hc' hd'
  have e : ia.toArray.isEmpty = xs.isEmpty := by
    have la := va.length
    cases ia <;> cases xs <;> simp_all
  refine wpAny_richCompare_same_room (op := .Eq) (T := "list") ⟨_, ho, rfl⟩ ⟨_, ho', rfl⟩ F.slot_list_eq (call_meetsIn F.slot_list_eq ⟨_, ho, rfl⟩ F.entry_list_eq (F.args_list_eq_2 _ _) (nil_eq a b ia.toArray n1 n2 da da' ss ss') ⟨ho, ho', (fun x => nomatch x), ?_⟩) (by omega)
  rw [e]
  exact ⟨.bl _, H, I, rfl, q⟩
end
theorem lk_eqNil {K : PySem.W.Frag} : Lk2 K (rEqNil K) Qm.gEqNil := by
  intro ρ c H x y d c' v u Q rs rx ry e k
  obtain ⟨l, f1, e⟩ := bnd e
  obtain ⟨m, f2, e⟩ := bnd e
  split at e
  · rename_i hm
    cases e
    obtain ⟨_, _, ws, rfl, h1, a1⟩ := rs.lstOf rx f1
    obtain ⟨_, _, vs, rfl, h2, a2⟩ := rs.lstOf ry f2
    have hm2 : m.2 = [] := by simpa using hm
    rw [hm2] at a2
    have hv : vs = [] := by cases a2; rfl
    subst hv
    have he : ws.isEmpty = l.2.isEmpty := by
      have la := a1.length
      cases ws <;> cases h : l.2 <;> simp_all
    refine ⟨_, _, ws, rfl, rfl, SqL.of h1, SqL.of h2, ?_⟩
    rw [he]
    exact k ρ _ H (Nx.refl rs) (.bl _)
  · cases e
end L2
namespace My
abbrev T3 := Int × Int × Int
def LowT (p : T3) : Prop := Low p.1 p.2.1 p.2.2
def ahT (p q : T3) : Bool := ahd p.1 p.2.1 p.2.2 q.1 q.2.1 q.2.2
def lhT : List T3 → List T3 → Bool
  | p :: l, q :: m => if p = q then lhT l m else ahT p q
  | _, _ => false
def mn : List T3 → List (List T3) → List T3
  | b, [] => b
  | b, r :: rs => mn (if lhT r b = true then r else b) rs
def rot (l : List T3) (k : Nat) : List T3 := l.drop k ++ l.take k
def rots (l : List T3) : List (List T3) := (List.range l.length).map (rot l)
def trn (l : List T3) : List T3 := mn l ((List.range (l.length - 1)).map fun i => rot l (1 + i))
end My
namespace Qm
open PySem
section
variable {σ : Env} {c c' : Cells} {d : D} {i j : Int} {b : Bool} {xs ys : List D}
@[simp] theorem eC_ : eC d σ c = some (d, c) := rfl
@[simp] theorem eV_ {k : Nat} : eV k σ c = (σ[k]?.join).bind fun d => some (d, c) := rfl
@[simp] theorem e1_ {g : G1} {a : XE} : e1 g a σ c = (a σ c).bind fun p => g p.1 p.2 := rfl
@[simp] theorem e2_ {g : G2} {a b : XE} : e2 g a b σ c = (a σ c).bind fun p => (b σ p.2).bind fun q => g p.1 q.1 q.2 := rfl
@[simp] theorem asB_ : asB (.bl b) = some b := rfl
@[simp] theorem asI_ : asI (.int i) = some i := rfl
@[simp] theorem eAnd_ {a b : XE} : eAnd a b σ c = (a σ c).bind fun p => (asB p.1).bind fun k => if k = true then b σ p.2 else some (.bl false, p.2) := rfl
@[simp] theorem eOr_ {a b : XE} : eOr a b σ c = (a σ c).bind fun p => (asB p.1).bind fun k => if k = true then some (.bl true, p.2) else b σ p.2 := rfl
@[simp] theorem eNot_ {a : XE} : eNot a σ c = (a σ c).bind fun p => (asB p.1).bind fun k => some (.bl (!k), p.2) := rfl
@[simp] theorem eIf_ {t : XT} {a b : XE} : eIf t a b σ c = (t σ c).bind fun p => if p.1 = true then a σ p.2 else b σ p.2 := rfl
@[simp] theorem aNil_ : aNil σ c = some ([], c) := rfl
@[simp] theorem aCons_ {a : XE} {r : XA} : aCons a r σ c = (a σ c).bind fun p => (r σ p.2).bind fun q => some (p.1 :: q.1, q.2) := rfl
@[simp] theorem eTup_ {a : XA} : eTup a σ c = (a σ c).bind fun p => if p.1.length ≤ LINE then some (.tup p.1, p.2) else none := rfl
@[simp] theorem eLst_ {a : XA} : eLst a σ c = (a σ c).bind fun p => if p.1.length ≤ LINE then some (.ref p.2.length, p.2 ++ [.lst p.1]) else none := rfl
@[simp] theorem eCall_ {F : FN} {ds : List D} {a : XA} : eCall F ds a σ c = (a σ c).bind fun p => F (p.1 ++ ds) p.2 := rfl
@[simp] theorem eB_ {F : FN} {a : XA} : eB F a σ c = (a σ c).bind fun p => F p.1 p.2 := rfl
@[simp] theorem eM_ {g : D → FN} {o : XE} {a : XA} : eM g o a σ c = (o σ c).bind fun p => (lstOf p.1 p.2).bind fun _ => (a σ p.2).bind fun q => g p.1 q.1 q.2 := rfl
@[simp] theorem oNone_ : oNone σ c = some (none, c) := rfl
@[simp] theorem eSl_ {g} {a : XE} {lo hi : XO} : eSl g a lo hi σ c = (a σ c).bind fun p => (lo σ p.2).bind fun l => (hi σ l.2).bind fun h => g p.1 l.1 h.1 h.2 := rfl
@[simp] theorem tV_ {a : XE} : tV a σ c = (a σ c).bind fun p => (asB p.1).bind fun k => some (k, p.2) := rfl
@[simp] theorem tAnd_ {a b : XT} : tAnd a b σ c = (a σ c).bind fun p => if p.1 = true then b σ p.2 else some (false, p.2) := rfl
@[simp] theorem tOr_ {a b : XT} : tOr a b σ c = (a σ c).bind fun p => if p.1 = true then some (true, p.2) else b σ p.2 := rfl
@[simp] theorem tNot_ {a : XT} : tNot a σ c = (a σ c).bind fun p => some (!p.1, p.2) := rfl
@[simp] theorem tYes_ : tYes σ c = some (true, c) := rfl
@[simp] theorem eChain_ {g h : G2} {a b e : XE} : eChain g h a b e σ c = (a σ c).bind fun p => (b σ p.2).bind fun q => (g p.1 q.1 q.2).bind fun z => (asB z.1).bind fun k => if k = true then (e σ z.2).bind fun u => h q.1 u.1 u.2 else some (.bl false, z.2) := rfl
@[simp] theorem sNil_ : sNil σ c = some (.nx, σ, c) := rfl
@[simp] theorem sSet_ {k : Nat} {e : XE} : sSet k e σ c = (e σ c).bind fun p => some (.nx, σ.set k (some p.1), p.2) := rfl
@[simp] theorem sAsg_ {e : XE} {g : XG} : sAsg e g σ c = (e σ c).bind fun p => (g p.1 σ p.2).bind fun q => some (.nx, q.1, q.2) := rfl
@[simp] theorem sPar_ {is : List Nat} {a : XA} : sPar is a σ c = (a σ c).bind fun p => if p.1.length = is.length then some (.nx, (is.zip p.1).foldl (fun σ q => σ.set q.1 (some q.2)) σ, p.2) else none := rfl
@[simp] theorem sIf_ {t : XT} {a b : XS} : sIf t a b σ c = (t σ c).bind fun p => if p.1 = true then a σ p.2 else b σ p.2 := rfl
@[simp] theorem sRet_ {e : XE} : sRet e σ c = (e σ c).bind fun p => some (.rt p.1, σ, p.2) := rfl
@[simp] theorem sExpr_ {e : XE} : sExpr e σ c = (e σ c).bind fun p => some (.nx, σ, p.2) := rfl
@[simp] theorem gName_ {k : Nat} : gName k d σ c = some (σ.set k (some d), c) := rfl
@[simp] theorem gNil_ : gNil [] σ c = some (σ, c) := rfl
@[simp] theorem gCons_ {g : XG} {r : XGs} : gCons g r (d :: xs) σ c = (g d σ c).bind fun p => r xs p.1 p.2 := rfl
@[simp] theorem gTup_ {n : Nat} {g : XGs} : gTup n g (.tup xs) σ c = if xs.length = n then g xs σ c else none := rfl
def sq (b : XS) (p : Fl × Env × Cells) : Option (Fl × Env × Cells) := match p.1 with
  | .nx => b p.2.1 p.2.2
  | _ => some p
@[simp] theorem sSeq_ {a b : XS} : sSeq a b σ c = (a σ c).bind (sq b) := rfl
@[simp] theorem sq_nx {b : XS} : sq b (.nx, σ, c) = b σ c := rfl
@[simp] theorem sq_rt {b : XS} : sq b (.rt d, σ, c) = some (.rt d, σ, c) := rfl
def fin (p : Fl × Env × Cells) : Option (D × Cells) := match p.1 with
  | .rt d => some (d, p.2.2)
  | .nx => some (.non, p.2.2)
  | _ => none
theorem mkF_ {n N : Nat} {b : XS} {ds : List D} : mkF n N b ds c = if ds.length = n then (b (ds.map some ++ List.replicate (N - n) none) c).bind fin else none := rfl
@[simp] theorem fin_rt : fin (.rt d, σ, c) = some (d, c) := rfl
@[simp] theorem fin_nx : fin (.nx, σ, c) = some (.non, c) := rfl
theorem ii_ {f : Int → Int → Option D} : ii f (.int i) (.int j) c = (f i j).bind fun d => some (d, c) := rfl
@[simp] theorem gSub_ : gSub (.int i) (.int j) c = some (.int (i - j), c) := rfl
@[simp] theorem gAdd_ : gAdd (.int i) (.int j) c = some (.int (i + j), c) := rfl
@[simp] theorem gLt_ : gLt (.int i) (.int j) c = some (.bl (decide (i < j)), c) := rfl
@[simp] theorem gLe_ : gLe (.int i) (.int j) c = some (.bl (decide (i ≤ j)), c) := rfl
@[simp] theorem gGt_ : gGt (.int i) (.int j) c = some (.bl (decide (j < i)), c) := rfl
@[simp] theorem gGe_ : gGe (.int i) (.int j) c = some (.bl (decide (j ≤ i)), c) := rfl
@[simp] theorem gNeg_ : gNeg (.int i) c = some (.int (-i), c) := rfl
theorem mulL (h : i.natAbs < 2 ^ 64) : MulOk i j := Or.inr (Or.inl ⟨h⟩)
theorem mulR (h : j.natAbs < 2 ^ 64) : MulOk i j := Or.inr (Or.inr ⟨h⟩)
theorem mulB (h : My.Bd 90000 i) (g : My.Bd 90000 j) : MulOk i j := Or.inl ⟨h, g⟩
theorem bd64 (h : i.natAbs < 2 ^ 64) : My.Bd 64 i := ⟨h⟩
theorem gMul_ (h : MulOk i j) : gMul (.int i) (.int j) c = some (.int (i * j), c) := by unfold gMul; rw [ii_, if_pos h]; rfl
theorem gFdiv_ (h : 0 < j) (hb : My.Bd 8900 j) : gFdiv (.int i) (.int j) c = some (.int (i / j), c) := by
  unfold gFdiv; rw [ii_, if_pos ⟨by omega, hb⟩, Int.fdiv_eq_ediv_of_nonneg i (Int.le_of_lt h)]; rfl
theorem gMod_ (h : 0 < j) : gMod (.int i) (.int j) c = some (.int (i % j), c) := by
  unfold gMod; rw [ii_, if_pos (by omega), Int.fmod_eq_emod_of_nonneg i (Int.le_of_lt h)]; rfl
@[simp] theorem data_int {k : Nat} : data c (k + 1) (.int i) = some (.int i) := by simp [data]
theorem eqM_int : eqM (.int i) (.int j) c = some (decide (i = j)) := by
  have : eqM (.int i) (.int j) c = (data c 6 (.int i)).bind fun d => (data c 6 (.int j)).bind fun e => some (@decide (d = e) (Classical.propDecidable _)) := rfl
  rw [this, data_int, data_int]
  simp
@[simp] theorem gEq_int : gEq (.int i) (.int j) c = some (.bl (decide (i = j)), c) := by unfold gEq; rw [eqM_int]; rfl
@[simp] theorem gNe_int : gNe (.int i) (.int j) c = some (.bl (!decide (i = j)), c) := by unfold gNe; rw [eqM_int]; rfl
@[simp] theorem gEq_bl {k : Bool} : gEq (.bl b) (.bl k) c = some (.bl (b == k), c) := rfl
@[simp] theorem gNe_bl {k : Bool} : gNe (.bl b) (.bl k) c = some (.bl (!(b == k)), c) := rfl
@[simp] theorem seqOf_tup : seqOf (.tup xs) c = some xs := rfl
theorem seqOf_lst {n : Nat} (h : c[n]? = some (.lst xs)) : seqOf (.ref n) c = some xs := by simp [seqOf, h]
theorem seqOf_ro {n : Nat} (h : c[n]? = some (.ro xs)) : seqOf (.ref n) c = some xs := by simp [seqOf, h]
theorem lstOf_lst {n : Nat} (h : c[n]? = some (.lst xs)) : lstOf (.ref n) c = some (n, xs) := by simp [lstOf, h]
theorem gIx_ {x : D} : gIx x (.int i) c = (seqOf x c).bind fun xs => (atD xs i).bind fun d => some (d, c) := rfl
@[simp] theorem gIx_tup : gIx (.tup xs) (.int i) c = (atD xs i).bind fun d => some (d, c) := rfl
@[simp] theorem atD_0 {α : Type} {x : α} {xs : List α} : atD (x :: xs) 0 = some x := by simp [atD, ixD]
@[simp] theorem atD_1 {α : Type} {x y : α} {xs : List α} : atD (x :: y :: xs) 1 = some y := by
  have h : (1 : Int) < ((x :: y :: xs).length : Int) := by simp only [List.length_cons]; omega
  unfold atD ixD
  rw [if_pos (by decide), if_pos h]; rfl
@[simp] theorem atD_2 {α : Type} {x y z : α} {xs : List α} : atD (x :: y :: z :: xs) 2 = some z := by
  have h : (2 : Int) < ((x :: y :: z :: xs).length : Int) := by simp only [List.length_cons]; omega
  unfold atD ixD
  rw [if_pos (by decide), if_pos h]; rfl
theorem atD_nat {α : Type} {xs : List α} {n : Nat} {x : α} (h : xs[n]? = some x) : atD xs (n : Int) = some x := by
  have hl : n < xs.length := (List.getElem?_eq_some_iff.mp h).1
  unfold atD ixD
  rw [if_pos (by omega), if_pos (by omega)]
  simpa using h
theorem atD_last {α : Type} {xs : List α} {x : α} : atD (xs ++ [x]) (-1) = some x := by
  unfold atD ixD
  rw [if_neg (by decide), if_pos (by simp only [List.length_append, List.length_cons, List.length_nil]; omega)]
  have : ((-1 : Int) + ((xs ++ [x]).length : Int)).toNat = xs.length := by simp only [List.length_append, List.length_cons, List.length_nil]; omega
  rw [this]
  simp
@[simp] theorem bAbs_ : bAbs [.int i] c = some (.int (if i < 0 then -i else i), c) := rfl
@[simp] theorem bInt_bl : bInt [.bl b] c = some (.int (if b then 1 else 0), c) := rfl
theorem bLen_ {x : D} : bLen [x] c = (seqOf x c).bind fun xs => some (.int xs.length, c) := rfl
@[simp] theorem bMax2_ : bMax2 [.int i, .int j] c = some (.int (if j > i then j else i), c) := rfl
@[simp] theorem bMin2_ : bMin2 [.int i, .int j] c = some (.int (if j < i then j else i), c) := rfl
theorem line_ok {n : Nat} (h : n ≤ 10000) : n ≤ LINE := Nat.le_trans h (by rw [LINE_eq]; decide)
@[simp] theorem line1 : 1 ≤ LINE := line_ok (by decide)
@[simp] theorem line2 : 2 ≤ LINE := line_ok (by decide)
@[simp] theorem line3 : 3 ≤ LINE := line_ok (by decide)
@[simp] theorem line4 : 4 ≤ LINE := line_ok (by decide)
@[simp] theorem line5 : 5 ≤ LINE := line_ok (by decide)
@[simp] theorem line6 : 6 ≤ LINE := line_ok (by decide)
@[simp] theorem line7 : 7 ≤ LINE := line_ok (by decide)
@[simp] theorem line8 : 8 ≤ LINE := line_ok (by decide)
theorem iRng2_ {a : XA} (h : a σ c = some ([.int i, .int j], c')) (h1 : i.natAbs < 2 ^ 61) (h2 : j.natAbs < 2 ^ 61) : iRng2 a σ c = some (⟨rng i (j - i).toNat, []⟩, c') := by
  unfold iRng2
  rw [h, Option.bind_some]
  dsimp only
  rw [if_pos ⟨⟨by omega, by omega⟩, by omega, by omega⟩]
theorem iRng1' {a : XA} (h : a σ c = some ([.int j], c')) (h2 : j.natAbs < 2 ^ 61) : iRng1 a σ c = some (⟨rng 0 j.toNat, []⟩, c') := by
  unfold iRng1
  rw [h, Option.bind_some]
  dsimp only
  rw [if_pos ⟨by omega, by omega⟩]
theorem stays_nil : stays [] c := fun _ h => nomatch h
end
theorem forGo_inv {ks : List (Nat × Cell)} {g : XG} {body : XS} (P : Nat → Env → Cells → Prop) :
    ∀ (ds : List D) (k : Nat) (σ : Env) (c : Cells), (∀ i σ c, P i σ c → stays ks c) → (∀ i d σ c, ds[i]? = some d → P (k + i) σ c → ∃ σ1 c1 σ2 c2, g d σ c = some (σ1, c1) ∧ body σ1 c1 = some (.nx, σ2, c2) ∧ P (k + i + 1) σ2 c2) →
      P k σ c → ∃ σ' c', forGo ks g body ds σ c = some (.nx, σ', c') ∧ P (k + ds.length) σ' c'
  | [], k, σ, c, hs, _, h => ⟨σ, c, by unfold forGo; rw [if_pos (hs k σ c h)], h⟩
  | d :: ds, k, σ, c, hs, ht, h => by
    obtain ⟨σ1, c1, σ2, c2, h1, h2, h3⟩ := ht 0 d σ c rfl h
    obtain ⟨σ', c', h4, h5⟩ := forGo_inv P ds (k + 1) σ2 c2 hs (fun i d' σ c hd hp => by
      have := ht (i + 1) d' σ c (by simpa using hd) (by rw [show k + (i + 1) = k + 1 + i by omega]; exact hp)
      rwa [show k + (i + 1) + 1 = k + 1 + i + 1 by omega] at this) h3
    refine ⟨σ', c', ?_, by rw [show k + (d :: ds).length = k + 1 + ds.length by simp only [List.length_cons]; omega]; exact h5⟩
    unfold forGo
    rw [if_pos (hs k σ c h), h1]
    simp only [Option.bind_some, h2, h4]
end Qm
namespace Law
open PySem
noncomputable def B_holds (R_holds : Qm.FN) : Qm.XS := (Qm.sSeq (Qm.sSet 2 (Qm.e2 Qm.gIx (Qm.eV 0) (Qm.eC (.int 0))))
      (Qm.sSeq (Qm.sIf (Qm.tV (Qm.e2 Qm.gEq (Qm.eV 2) (Qm.eC (.str "is"))))
      (Qm.sRet (Qm.e2 Qm.gEq (Qm.eDGet1 (Qm.eV 1) (Qm.e2 Qm.gIx (Qm.eV 0) (Qm.eC (.int 1)))) (Qm.e2 Qm.gIx (Qm.eV 0) (Qm.eC (.int 2)))))
      Qm.sNil)
      (Qm.sSeq (Qm.sIf (Qm.tV (Qm.e2 Qm.gEq (Qm.eV 2) (Qm.eC (.str "not"))))
      (Qm.sRet (Qm.eNot (Qm.eCall R_holds [] (Qm.aCons (Qm.e2 Qm.gIx (Qm.eV 0) (Qm.eC (.int 1))) (Qm.aCons (Qm.eV 1) Qm.aNil)))))
      Qm.sNil)
      (Qm.sSeq (Qm.sIf (Qm.tV (Qm.e2 Qm.gEq (Qm.eV 2) (Qm.eC (.str "and"))))
      (Qm.sRet (Qm.eAnd (Qm.eCall R_holds [] (Qm.aCons (Qm.e2 Qm.gIx (Qm.eV 0) (Qm.eC (.int 1))) (Qm.aCons (Qm.eV 1) Qm.aNil))) (Qm.eCall R_holds [] (Qm.aCons (Qm.e2 Qm.gIx (Qm.eV 0) (Qm.eC (.int 2))) (Qm.aCons (Qm.eV 1) Qm.aNil)))))
      Qm.sNil)
      (Qm.sSeq (Qm.sIf (Qm.tV (Qm.e2 Qm.gEq (Qm.eV 2) (Qm.eC (.str "or"))))
      (Qm.sRet (Qm.eOr (Qm.eCall R_holds [] (Qm.aCons (Qm.e2 Qm.gIx (Qm.eV 0) (Qm.eC (.int 1))) (Qm.aCons (Qm.eV 1) Qm.aNil))) (Qm.eCall R_holds [] (Qm.aCons (Qm.e2 Qm.gIx (Qm.eV 0) (Qm.eC (.int 2))) (Qm.aCons (Qm.eV 1) Qm.aNil)))))
      Qm.sNil)
      (Qm.sRet (Qm.eC (.bl true))))))))
noncomputable def R_holds : Nat → Qm.FN
  | 0 => fun _ _ => none
  | n + 1 => Qm.mkF 2 3 (B_holds (R_holds n))
noncomputable def F_holds : Qm.FN := (R_holds 60)
noncomputable def B_first_holding : Qm.XS := (Qm.sSeq (Qm.sFor (Qm.iRng1 (Qm.aCons (Qm.eB Qm.bLen (Qm.aCons (Qm.eV 0) Qm.aNil)) Qm.aNil)) (Qm.gName 2)
      (Qm.sIf (Qm.tV (Qm.eCall F_holds [] (Qm.aCons (Qm.e2 Qm.gIx (Qm.e2 Qm.gIx (Qm.eV 0) (Qm.eV 2)) (Qm.eC (.int 0))) (Qm.aCons (Qm.eV 1) Qm.aNil))))
      (Qm.sRet (Qm.eV 2))
      Qm.sNil))
      (Qm.sRet (Qm.eC .non)))
noncomputable def F_first_holding : Qm.FN := Qm.mkF 2 3 B_first_holding
noncomputable def B_worth : Qm.XS := (Qm.sSeq (Qm.sSet 2 (Qm.eCall F_first_holding [] (Qm.aCons (Qm.eV 0) (Qm.aCons (Qm.eV 1) Qm.aNil))))
      (Qm.sRet (Qm.eIf (Qm.tV (Qm.e2 Qm.gIsN (Qm.eV 2) (Qm.eC .non))) (Qm.eTup (Qm.aCons (Qm.eC (.int 0)) (Qm.aCons (Qm.eC (.int 1)) Qm.aNil))) (Qm.e2 Qm.gIx (Qm.e2 Qm.gIx (Qm.eV 0) (Qm.eV 2)) (Qm.eC (.int 1))))))
noncomputable def F_worth : Qm.FN := Qm.mkF 2 3 B_worth
noncomputable def B_with_name : Qm.XS := (Qm.sSeq (Qm.sSet 3 (Qm.eLst Qm.aNil))
      (Qm.sSeq (Qm.sFor (Qm.iLst (Qm.eV 0)) (Qm.gName 4)
      (Qm.sFor (Qm.iLst (Qm.eV 2)) (Qm.gName 5)
      (Qm.sSeq (Qm.sSet 6 (Qm.eB Qm.bDict (Qm.aCons (Qm.eV 4) Qm.aNil)))
      (Qm.sSeq (Qm.sDPut (Qm.eV 6) (Qm.eV 1) (Qm.eV 5))
      (Qm.sExpr (Qm.eM Qm.mAppend (Qm.eV 3) (Qm.aCons (Qm.eV 6) Qm.aNil)))))))
      (Qm.sRet (Qm.eV 3))))
noncomputable def F_with_name : Qm.FN := Qm.mkF 3 7 B_with_name
noncomputable def B_choices_of : Qm.XS := (Qm.sSeq (Qm.sSet 1 (Qm.eLst (Qm.aCons Qm.eDNew Qm.aNil)))
      (Qm.sSeq (Qm.sFor (Qm.iKeys (Qm.eV 0)) (Qm.gName 2)
      (Qm.sSet 1 (Qm.eCall F_with_name [] (Qm.aCons (Qm.eV 1) (Qm.aCons (Qm.eV 2) (Qm.aCons (Qm.eRIx (Qm.eV 0) (Qm.eV 2)) Qm.aNil))))))
      (Qm.sRet (Qm.eV 1))))
noncomputable def F_choices_of : Qm.FN := Qm.mkF 1 3 B_choices_of
noncomputable def B_counting : Qm.XS := (Qm.sSeq (Qm.sSet 2 (Qm.eComp (Qm.iLst (Qm.eV 0)) [none] (Qm.gName 0) Qm.tYes (Qm.eC .non)))
      (Qm.sSeq (Qm.sFor (Qm.iLst (Qm.eCall F_choices_of [] (Qm.aCons (Qm.eV 1) Qm.aNil))) (Qm.gName 3)
      (Qm.sSeq (Qm.sSet 4 (Qm.eCall F_first_holding [] (Qm.aCons (Qm.eV 0) (Qm.aCons (Qm.eV 3) Qm.aNil))))
      (Qm.sIf (Qm.tV (Qm.e2 Qm.gNotN (Qm.eV 4) (Qm.eC .non)))
      (Qm.sAsg (Qm.eV 3) (Qm.gPut (Qm.eV 2) (Qm.eV 4)))
      Qm.sNil)))
      (Qm.sRet (Qm.eV 2))))
noncomputable def F_counting : Qm.FN := Qm.mkF 2 5 B_counting
noncomputable def B_leaner : Qm.XS := (Qm.sRet (Qm.eComp (Qm.iZipL (Qm.aCons (Qm.eV 0) (Qm.aCons (Qm.eCall F_counting [] (Qm.aCons (Qm.eV 0) (Qm.aCons (Qm.eV 1) Qm.aNil))) Qm.aNil))) [none, none] (Qm.gTup 2 (Qm.gCons (Qm.gName 0) (Qm.gCons (Qm.gName 1) Qm.gNil))) (Qm.tV (Qm.e2 Qm.gNotN (Qm.eV 1) (Qm.eC .non))) (Qm.eV 0)))
noncomputable def F_leaner : Qm.FN := Qm.mkF 2 2 B_leaner
noncomputable def B_parted : Qm.XS := (Qm.sSeq (Qm.sFor (Qm.iLst (Qm.eCall F_choices_of [] (Qm.aCons (Qm.eV 2) Qm.aNil))) (Qm.gName 3)
      (Qm.sIf (Qm.tV (Qm.e2 Qm.gNe (Qm.eCall F_worth [] (Qm.aCons (Qm.eV 0) (Qm.aCons (Qm.eV 3) Qm.aNil))) (Qm.eCall F_worth [] (Qm.aCons (Qm.eV 1) (Qm.aCons (Qm.eV 3) Qm.aNil)))))
      (Qm.sRet (Qm.eV 3))
      Qm.sNil))
      (Qm.sRet (Qm.eC .non)))
noncomputable def F_parted : Qm.FN := Qm.mkF 3 4 B_parted
noncomputable def B_law_cell_at : Qm.XS := (Qm.sSeq (Qm.sIf (Qm.tV (Qm.e2 Qm.gLt (Qm.eV 1) (Qm.eB Qm.bLen (Qm.aCons (Qm.eV 0) Qm.aNil))))
      (Qm.sRet (Qm.e2 Qm.gIx (Qm.eV 0) (Qm.eV 1)))
      Qm.sNil)
      (Qm.sRet (Qm.eC (.int 0))))
noncomputable def F_law_cell_at : Qm.FN := Qm.mkF 2 2 B_law_cell_at
noncomputable def B_law_take : Qm.XS := (Qm.sSeq (Qm.sSet 2 (Qm.eB Qm.bInt (Qm.aCons (Qm.e2 Qm.gEq (Qm.e2 Qm.gIx (Qm.eV 0) (Qm.eC (.int 0))) (Qm.eC (.int 0))) Qm.aNil)))
      (Qm.sSeq (Qm.sSet 3 (Qm.e2 Qm.gMod (Qm.e2 Qm.gIx (Qm.eV 0) (Qm.eV 2)) (Qm.eV 1)))
      (Qm.sSeq (Qm.sAsg (Qm.e2 Qm.gFdiv (Qm.e2 Qm.gIx (Qm.eV 0) (Qm.eV 2)) (Qm.eV 1)) (Qm.gPut (Qm.eV 0) (Qm.eV 2)))
      (Qm.sRet (Qm.eV 3)))))
noncomputable def F_law_take : Qm.FN := Qm.mkF 2 4 B_law_take
noncomputable def B_law_left : Qm.XS := (Qm.sSeq (Qm.sSet 2 (Qm.eB Qm.bAbs (Qm.aCons (Qm.eCall F_law_cell_at [] (Qm.aCons (Qm.eV 0) (Qm.aCons (Qm.eV 1) Qm.aNil))) Qm.aNil)))
      (Qm.sSeq (Qm.sSet 3 (Qm.e2 Qm.gFdiv (Qm.e2 Qm.gPowB (Qm.e2 Qm.gAdd (Qm.eC (.int 2147483647)) (Qm.e2 Qm.gMod (Qm.e2 Qm.gAdd (Qm.e2 Qm.gAdd (Qm.e2 Qm.gMul (Qm.e2 Qm.gMod (Qm.eV 2) (Qm.eC (.int 2147483647))) (Qm.eC (.int 48271))) (Qm.e2 Qm.gMul (Qm.eC (.int 7919)) (Qm.eV 1))) (Qm.eC (.int 11))) (Qm.eC (.int 2147483647)))) (Qm.eC (.int 18))) (Qm.e2 Qm.gPow (Qm.eC (.int 10)) (Qm.eC (.int 20)))))
      (Qm.sRet (Qm.eLst (Qm.aCons (Qm.e2 Qm.gMul (Qm.eV 2) (Qm.eB Qm.bInt (Qm.aCons (Qm.e2 Qm.gEq (Qm.e2 Qm.gMod (Qm.eCall F_law_cell_at [] (Qm.aCons (Qm.eV 0) (Qm.aCons (Qm.eC (.int 0)) Qm.aNil))) (Qm.eC (.int 2))) (Qm.eC (.int 0))) Qm.aNil))) (Qm.aCons (Qm.eV 3) (Qm.aCons (Qm.eC (.int 0)) Qm.aNil)))))))
noncomputable def F_law_left : Qm.FN := Qm.mkF 2 4 B_law_left
noncomputable def B_law_word : Qm.XS := (Qm.sSeq (Qm.sSet 1 (Qm.eC (.str "abcdefghijklmnopqrstuvwxyz")))
      (Qm.sSeq (Qm.sSet 2 (Qm.eC (.str "")))
      (Qm.sSeq (Qm.sFor (Qm.iRng1 (Qm.aCons (Qm.e2 Qm.gAdd (Qm.eC (.int 1)) (Qm.eCall F_law_take [] (Qm.aCons (Qm.eV 0) (Qm.aCons (Qm.eC (.int 8)) Qm.aNil)))) Qm.aNil)) (Qm.gName 3)
      (Qm.sSet 2 (Qm.e2 Qm.gAddS (Qm.eV 2) (Qm.e2 Qm.gIxS (Qm.eV 1) (Qm.eCall F_law_take [] (Qm.aCons (Qm.eV 0) (Qm.aCons (Qm.eC (.int 26)) Qm.aNil)))))))
      (Qm.sSeq (Qm.sIf (Qm.tV (Qm.e2 Qm.gEq (Qm.eCall F_law_take [] (Qm.aCons (Qm.eV 0) (Qm.aCons (Qm.eC (.int 12)) Qm.aNil))) (Qm.eC (.int 0))))
      (Qm.sSet 2 (Qm.e2 Qm.gIx (Qm.eLst (Qm.aCons (Qm.eC (.str "an")) (Qm.aCons (Qm.eC (.str "nd")) (Qm.aCons (Qm.eC (.str "o")) (Qm.aCons (Qm.eC (.str "r")) (Qm.aCons (Qm.eC (.str "no")) (Qm.aCons (Qm.eC (.str "ot")) (Qm.aCons (Qm.eC (.str "t")) (Qm.aCons (Qm.eC (.str "ny")) (Qm.aCons (Qm.eC (.str "y")) (Qm.aCons (Qm.eC (.str "andor")) (Qm.aCons (Qm.eC (.str "nota")) (Qm.aCons (Qm.eC (.str "anyone")) Qm.aNil))))))))))))) (Qm.eCall F_law_take [] (Qm.aCons (Qm.eV 0) (Qm.aCons (Qm.eC (.int 12)) Qm.aNil)))))
      Qm.sNil)
      (Qm.sSeq (Qm.sIf (Qm.tV (Qm.e2 Qm.gIn (Qm.eV 2) (Qm.eTup (Qm.aCons (Qm.eC (.str "and")) (Qm.aCons (Qm.eC (.str "or")) (Qm.aCons (Qm.eC (.str "not")) (Qm.aCons (Qm.eC (.str "any")) Qm.aNil)))))))
      (Qm.sSet 2 (Qm.e2 Qm.gAddS (Qm.eV 2) (Qm.eC (.str "x"))))
      Qm.sNil)
      (Qm.sRet (Qm.eV 2)))))))
noncomputable def F_law_word : Qm.FN := Qm.mkF 1 4 B_law_word
noncomputable def B_law_thing (R_law_thing : Qm.FN) (R_law_built : Qm.FN) : Qm.XS := (Qm.sSeq (Qm.sSet 3 (Qm.eCall F_law_take [] (Qm.aCons (Qm.eV 0) (Qm.aCons (Qm.eC (.int 8)) Qm.aNil))))
      (Qm.sSeq (Qm.sAsg (Qm.e2 Qm.gAdd (Qm.e2 Qm.gIx (Qm.eV 0) (Qm.eC (.int 2))) (Qm.eC (.int 2))) (Qm.gPut (Qm.eV 0) (Qm.eC (.int 2))))
      (Qm.sSeq (Qm.sIf (Qm.tOr (Qm.tV (Qm.e2 Qm.gLt (Qm.eV 3) (Qm.eC (.int 4)))) (Qm.tOr (Qm.tV (Qm.e2 Qm.gLt (Qm.eV 2) (Qm.eC (.int 1)))) (Qm.tV (Qm.e2 Qm.gGt (Qm.e2 Qm.gIx (Qm.eV 0) (Qm.eC (.int 2))) (Qm.eC (.int 24))))))
      (Qm.sSeq (Qm.sSet 4 (Qm.eLst (Qm.aCons (Qm.eCall F_law_word [] (Qm.aCons (Qm.eV 0) Qm.aNil)) (Qm.aCons (Qm.eCall F_law_word [] (Qm.aCons (Qm.eV 0) Qm.aNil)) Qm.aNil))))
      (Qm.sSeq (Qm.sIf (Qm.tAnd (Qm.tV (Qm.e2 Qm.gEq (Qm.e2 Qm.gMod (Qm.eV 3) (Qm.eC (.int 2))) (Qm.eC (.int 1)))) (Qm.tV (Qm.e2 Qm.gNe (Qm.eV 1) (Qm.eLst Qm.aNil))))
      (Qm.sSet 4 (Qm.eB Qm.bList (Qm.aCons (Qm.e2 Qm.gIx (Qm.eV 1) (Qm.eCall F_law_take [] (Qm.aCons (Qm.eV 0) (Qm.aCons (Qm.eB Qm.bLen (Qm.aCons (Qm.eV 1) Qm.aNil)) Qm.aNil)))) Qm.aNil)))
      Qm.sNil)
      (Qm.sSeq (Qm.sExpr (Qm.eM Qm.mAppend (Qm.eV 1) (Qm.aCons (Qm.eTup (Qm.aCons (Qm.e2 Qm.gIx (Qm.eV 4) (Qm.eC (.int 0))) (Qm.aCons (Qm.e2 Qm.gIx (Qm.eV 4) (Qm.eC (.int 1))) Qm.aNil))) Qm.aNil)))
      (Qm.sRet (Qm.eTup (Qm.aCons (Qm.eV 4) (Qm.aCons (Qm.eTup (Qm.aCons (Qm.eC (.str "is")) (Qm.aCons (Qm.e2 Qm.gIx (Qm.eV 4) (Qm.eC (.int 0))) (Qm.aCons (Qm.e2 Qm.gIx (Qm.eV 4) (Qm.eC (.int 1))) Qm.aNil)))) Qm.aNil)))))))
      Qm.sNil)
      (Qm.sSeq (Qm.sIf (Qm.tV (Qm.e2 Qm.gEq (Qm.eV 3) (Qm.eC (.int 4))))
      (Qm.sRet (Qm.eTup (Qm.aCons (Qm.eLst (Qm.aCons (Qm.eC (.str "any")) Qm.aNil)) (Qm.aCons (Qm.eTup (Qm.aCons (Qm.eC (.str "any")) Qm.aNil)) Qm.aNil))))
      Qm.sNil)
      (Qm.sSeq (Qm.sIf (Qm.tV (Qm.e2 Qm.gEq (Qm.eV 3) (Qm.eC (.int 5))))
      (Qm.sSeq (Qm.sAsg (Qm.eCall R_law_thing [] (Qm.aCons (Qm.eV 0) (Qm.aCons (Qm.eV 1) (Qm.aCons (Qm.e2 Qm.gSub (Qm.eV 2) (Qm.eC (.int 1))) Qm.aNil)))) (Qm.gTup 2 (Qm.gCons (Qm.gName 5) (Qm.gCons (Qm.gName 6) Qm.gNil))))
      (Qm.sRet (Qm.eTup (Qm.aCons (Qm.e2 Qm.gAdd (Qm.eLst (Qm.aCons (Qm.eC (.str "not")) Qm.aNil)) (Qm.eV 5)) (Qm.aCons (Qm.eTup (Qm.aCons (Qm.eC (.str "not")) (Qm.aCons (Qm.eV 6) Qm.aNil))) Qm.aNil)))))
      Qm.sNil)
      (Qm.sSeq (Qm.sAsg (Qm.eCall R_law_built [] (Qm.aCons (Qm.eV 0) (Qm.aCons (Qm.eV 1) (Qm.aCons (Qm.e2 Qm.gSub (Qm.eV 2) (Qm.eC (.int 1))) (Qm.aCons (Qm.eC (.str "or")) Qm.aNil))))) (Qm.gTup 2 (Qm.gCons (Qm.gName 5) (Qm.gCons (Qm.gName 6) Qm.gNil))))
      (Qm.sRet (Qm.eTup (Qm.aCons (Qm.e2 Qm.gAdd (Qm.e2 Qm.gAdd (Qm.eLst (Qm.aCons (Qm.eC (.str "(")) Qm.aNil)) (Qm.eV 5)) (Qm.eLst (Qm.aCons (Qm.eC (.str ")")) Qm.aNil))) (Qm.aCons (Qm.eV 6) Qm.aNil))))))))))
noncomputable def B_law_built (R_law_thing : Qm.FN) (R_law_built : Qm.FN) : Qm.XS := (Qm.sSeq (Qm.sIf (Qm.tV (Qm.e2 Qm.gEq (Qm.eV 3) (Qm.eC (.str ""))))
      (Qm.sRet (Qm.eCall R_law_thing [] (Qm.aCons (Qm.eV 0) (Qm.aCons (Qm.eV 1) (Qm.aCons (Qm.eV 2) Qm.aNil)))))
      Qm.sNil)
      (Qm.sSeq (Qm.sSet 4 (Qm.eDIx (Qm.eDisp2 "or" "and" "and" "") (Qm.eV 3)))
      (Qm.sSeq (Qm.sAsg (Qm.eCall R_law_built [] (Qm.aCons (Qm.eV 0) (Qm.aCons (Qm.eV 1) (Qm.aCons (Qm.eV 2) (Qm.aCons (Qm.eV 4) Qm.aNil))))) (Qm.gTup 2 (Qm.gCons (Qm.gName 5) (Qm.gCons (Qm.gName 6) Qm.gNil))))
      (Qm.sSeq (Qm.sFor (Qm.iRng1 (Qm.aCons (Qm.e2 Qm.gIx (Qm.eLst (Qm.aCons (Qm.eC (.int 0)) (Qm.aCons (Qm.eC (.int 0)) (Qm.aCons (Qm.eC (.int 0)) (Qm.aCons (Qm.eC (.int 1)) (Qm.aCons (Qm.eC (.int 1)) (Qm.aCons (Qm.eC (.int 2)) (Qm.aCons (Qm.eC (.int 0)) (Qm.aCons (Qm.eC (.int 5)) Qm.aNil))))))))) (Qm.eCall F_law_take [] (Qm.aCons (Qm.eV 0) (Qm.aCons (Qm.eC (.int 8)) Qm.aNil)))) Qm.aNil)) (Qm.gName 7)
      (Qm.sIf (Qm.tV (Qm.e2 Qm.gLt (Qm.e2 Qm.gIx (Qm.eV 0) (Qm.eC (.int 2))) (Qm.eC (.int 24))))
      (Qm.sSeq (Qm.sAsg (Qm.eCall R_law_built [] (Qm.aCons (Qm.eV 0) (Qm.aCons (Qm.eV 1) (Qm.aCons (Qm.eV 2) (Qm.aCons (Qm.eV 4) Qm.aNil))))) (Qm.gTup 2 (Qm.gCons (Qm.gName 8) (Qm.gCons (Qm.gName 9) Qm.gNil))))
      (Qm.sSeq (Qm.sSet 5 (Qm.e2 Qm.gAdd (Qm.e2 Qm.gAdd (Qm.eV 5) (Qm.eLst (Qm.aCons (Qm.eV 3) Qm.aNil))) (Qm.eV 8)))
      (Qm.sSet 6 (Qm.eTup (Qm.aCons (Qm.eV 3) (Qm.aCons (Qm.eV 6) (Qm.aCons (Qm.eV 9) Qm.aNil)))))))
      Qm.sNil))
      (Qm.sRet (Qm.eTup (Qm.aCons (Qm.eV 5) (Qm.aCons (Qm.eV 6) Qm.aNil))))))))
noncomputable def R_law_thing_law_built : Nat → Qm.FN × Qm.FN
  | 0 => (fun _ _ => none, fun _ _ => none)
  | n + 1 => (Qm.mkF 3 7 (B_law_thing (R_law_thing_law_built n).1 (R_law_thing_law_built n).2), Qm.mkF 4 10 (B_law_built (R_law_thing_law_built n).1 (R_law_thing_law_built n).2))
noncomputable def F_law_thing : Qm.FN := (R_law_thing_law_built 60).1
noncomputable def F_law_built : Qm.FN := (R_law_thing_law_built 60).2
noncomputable def B_law_lowest : Qm.XS := (Qm.sSeq (Qm.sSet 2 (Qm.eB Qm.bAbs (Qm.aCons (Qm.eV 0) Qm.aNil)))
      (Qm.sSeq (Qm.sSet 3 (Qm.eV 1))
      (Qm.sSeq (Qm.sWhile (Qm.tV (Qm.e2 Qm.gNe (Qm.eV 2) (Qm.eC (.int 0)))) (Qm.sPar [2, 3] (Qm.aCons (Qm.e2 Qm.gMod (Qm.eV 3) (Qm.eV 2)) (Qm.aCons (Qm.eV 2) Qm.aNil))))
      (Qm.sRet (Qm.eTup (Qm.aCons (Qm.e2 Qm.gFdiv (Qm.eV 0) (Qm.eV 3)) (Qm.aCons (Qm.e2 Qm.gFdiv (Qm.eV 1) (Qm.eV 3)) Qm.aNil)))))))
noncomputable def F_law_lowest : Qm.FN := Qm.mkF 2 4 B_law_lowest
noncomputable def B_law_worth : Qm.XS := (Qm.sSeq (Qm.sSet 1 (Qm.e2 Qm.gSub (Qm.eCall F_law_take [] (Qm.aCons (Qm.eV 0) (Qm.aCons (Qm.eC (.int 1999999)) Qm.aNil))) (Qm.eC (.int 999999))))
      (Qm.sSeq (Qm.sSet 2 (Qm.eC (.int 1)))
      (Qm.sSeq (Qm.sIf (Qm.tV (Qm.e2 Qm.gEq (Qm.eCall F_law_take [] (Qm.aCons (Qm.eV 0) (Qm.aCons (Qm.eC (.int 2)) Qm.aNil))) (Qm.eC (.int 1))))
      (Qm.sSet 2 (Qm.e2 Qm.gAdd (Qm.eC (.int 1)) (Qm.eCall F_law_take [] (Qm.aCons (Qm.eV 0) (Qm.aCons (Qm.eC (.int 999999)) Qm.aNil)))))
      Qm.sNil)
      (Qm.sSeq (Qm.sIf (Qm.tV (Qm.e2 Qm.gEq (Qm.eCall F_law_take [] (Qm.aCons (Qm.eV 0) (Qm.aCons (Qm.eC (.int 3)) Qm.aNil))) (Qm.eC (.int 0))))
      (Qm.sSeq (Qm.sSet 1 (Qm.e2 Qm.gSub (Qm.e2 Qm.gMod (Qm.eV 1) (Qm.eC (.int 9))) (Qm.eC (.int 4))))
      (Qm.sSet 2 (Qm.e2 Qm.gAdd (Qm.eC (.int 1)) (Qm.e2 Qm.gMod (Qm.eV 2) (Qm.eC (.int 4))))))
      Qm.sNil)
      (Qm.sRet (Qm.eCall F_law_lowest [] (Qm.aCons (Qm.eV 1) (Qm.aCons (Qm.eV 2) Qm.aNil))))))))
noncomputable def F_law_worth : Qm.FN := Qm.mkF 1 3 B_law_worth
noncomputable def B_law_true (R_law_true : Qm.FN) : Qm.XS := (Qm.sSeq (Qm.sIf (Qm.tV (Qm.e2 Qm.gEq (Qm.e2 Qm.gIx (Qm.eV 0) (Qm.eC (.int 0))) (Qm.eC (.str "is"))))
      (Qm.sRet (Qm.e2 Qm.gEq (Qm.eDGet2 (Qm.eV 1) (Qm.e2 Qm.gIx (Qm.eV 0) (Qm.eC (.int 1))) (Qm.eC (.str ""))) (Qm.e2 Qm.gIx (Qm.eV 0) (Qm.eC (.int 2)))))
      Qm.sNil)
      (Qm.sSeq (Qm.sIf (Qm.tV (Qm.e2 Qm.gEq (Qm.e2 Qm.gIx (Qm.eV 0) (Qm.eC (.int 0))) (Qm.eC (.str "not"))))
      (Qm.sRet (Qm.eNot (Qm.eCall R_law_true [] (Qm.aCons (Qm.e2 Qm.gIx (Qm.eV 0) (Qm.eC (.int 1))) (Qm.aCons (Qm.eV 1) Qm.aNil)))))
      Qm.sNil)
      (Qm.sSeq (Qm.sSet 2 (Qm.eComp (Qm.iTup (Qm.eSl Qm.gCut (Qm.eV 0) (Qm.oSome (Qm.eC (.int 1))) Qm.oNone)) [none, some 1] (Qm.gName 0) Qm.tYes (Qm.eCall R_law_true [] (Qm.aCons (Qm.eV 0) (Qm.aCons (Qm.eV 1) Qm.aNil)))))
      (Qm.sRet (Qm.e2 Qm.gIx (Qm.eLst (Qm.aCons (Qm.eB Qm.bAll (Qm.aCons (Qm.eV 2) Qm.aNil)) (Qm.aCons (Qm.eB Qm.bAny (Qm.aCons (Qm.eV 2) Qm.aNil)) Qm.aNil))) (Qm.eB Qm.bInt (Qm.aCons (Qm.e2 Qm.gEq (Qm.e2 Qm.gIx (Qm.eV 0) (Qm.eC (.int 0))) (Qm.eC (.str "or"))) Qm.aNil)))))))
noncomputable def R_law_true : Nat → Qm.FN
  | 0 => fun _ _ => none
  | n + 1 => Qm.mkF 2 3 (B_law_true (R_law_true n))
noncomputable def F_law_true : Qm.FN := (R_law_true 60)
noncomputable def B_law_first : Qm.XS := (Qm.sSeq (Qm.sFor (Qm.iEnum (Qm.aCons (Qm.eV 0) Qm.aNil)) (Qm.gTup 2 (Qm.gCons (Qm.gName 2) (Qm.gCons (Qm.gName 3) Qm.gNil)))
      (Qm.sIf (Qm.tV (Qm.eCall F_law_true [] (Qm.aCons (Qm.e2 Qm.gIx (Qm.eV 3) (Qm.eC (.int 0))) (Qm.aCons (Qm.eV 1) Qm.aNil))))
      (Qm.sRet (Qm.eV 2))
      Qm.sNil))
      (Qm.sRet (Qm.eC .non)))
noncomputable def F_law_first : Qm.FN := Qm.mkF 2 4 B_law_first
noncomputable def B_law_kinds : Qm.XS := (Qm.sSeq (Qm.sSet 1 Qm.eDNew)
      (Qm.sSeq (Qm.sSet 2 (Qm.e2 Qm.gIx (Qm.eLst (Qm.aCons (Qm.eC (.int 4)) (Qm.aCons (Qm.eC (.int 4)) (Qm.aCons (Qm.eC (.int 4)) (Qm.aCons (Qm.eC (.int 4)) (Qm.aCons (Qm.eC (.int 4)) (Qm.aCons (Qm.eC (.int 4)) (Qm.aCons (Qm.eC (.int 4)) (Qm.aCons (Qm.eC (.int 12)) Qm.aNil))))))))) (Qm.eCall F_law_take [] (Qm.aCons (Qm.eV 0) (Qm.aCons (Qm.eC (.int 8)) Qm.aNil)))))
      (Qm.sSeq (Qm.sSet 3 (Qm.e2 Qm.gIx (Qm.eLst (Qm.aCons (Qm.eC (.int 0)) (Qm.aCons (Qm.eC (.int 1)) (Qm.aCons (Qm.eC (.int 2)) (Qm.aCons (Qm.eC (.int 3)) (Qm.aCons (Qm.eC (.int 1)) (Qm.aCons (Qm.eC (.int 2)) (Qm.aCons (Qm.eC (.int 3)) (Qm.aCons (Qm.eC (.int 6)) Qm.aNil))))))))) (Qm.eCall F_law_take [] (Qm.aCons (Qm.eV 0) (Qm.aCons (Qm.eC (.int 8)) Qm.aNil)))))
      (Qm.sSeq (Qm.sIf (Qm.tV (Qm.e2 Qm.gEq (Qm.eV 3) (Qm.eC (.int 6))))
      (Qm.sSet 2 (Qm.eC (.int 2)))
      Qm.sNil)
      (Qm.sSeq (Qm.sIf (Qm.tV (Qm.e2 Qm.gEq (Qm.eV 2) (Qm.eC (.int 12))))
      (Qm.sSet 3 (Qm.eB Qm.bMin2 (Qm.aCons (Qm.eV 3) (Qm.aCons (Qm.eC (.int 1)) Qm.aNil))))
      Qm.sNil)
      (Qm.sSeq (Qm.sFor (Qm.iRng1 (Qm.aCons (Qm.eV 3) Qm.aNil)) (Qm.gName 4)
      (Qm.sSeq (Qm.sSet 5 (Qm.eCall F_law_word [] (Qm.aCons (Qm.eV 0) Qm.aNil)))
      (Qm.sSeq (Qm.sSet 6 (Qm.eLst Qm.aNil))
      (Qm.sSeq (Qm.sFor (Qm.iRng1 (Qm.aCons (Qm.e2 Qm.gAdd (Qm.eC (.int 1)) (Qm.eCall F_law_take [] (Qm.aCons (Qm.eV 0) (Qm.aCons (Qm.eV 2) Qm.aNil)))) Qm.aNil)) (Qm.gName 7)
      (Qm.sSeq (Qm.sSet 8 (Qm.eCall F_law_word [] (Qm.aCons (Qm.eV 0) Qm.aNil)))
      (Qm.sIf (Qm.tV (Qm.e2 Qm.gNotIn (Qm.eV 8) (Qm.eV 6)))
      (Qm.sExpr (Qm.eM Qm.mAppend (Qm.eV 6) (Qm.aCons (Qm.eV 8) Qm.aNil)))
      Qm.sNil)))
      (Qm.sSeq (Qm.sDPut (Qm.eV 1) (Qm.eV 5) (Qm.eV 6))
      (Qm.sSet 2 (Qm.eB Qm.bMin2 (Qm.aCons (Qm.eV 2) (Qm.aCons (Qm.eC (.int 4)) Qm.aNil)))))))))
      (Qm.sRet (Qm.eV 1))))))))
noncomputable def F_law_kinds : Qm.FN := Qm.mkF 1 9 B_law_kinds
noncomputable def B_law_book : Qm.XS := (Qm.sSeq (Qm.sSet 4 (Qm.eLst Qm.aNil))
      (Qm.sSeq (Qm.sFor (Qm.iRng2 (Qm.aCons (Qm.eV 1) (Qm.aCons (Qm.eB Qm.bMin2 (Qm.aCons (Qm.e2 Qm.gAdd (Qm.eV 1) (Qm.eV 3)) (Qm.aCons (Qm.eB Qm.bLen (Qm.aCons (Qm.eV 0) Qm.aNil)) Qm.aNil))) Qm.aNil))) (Qm.gName 5)
      (Qm.sSeq (Qm.sSet 6 (Qm.eCall F_law_left [] (Qm.aCons (Qm.eV 0) (Qm.aCons (Qm.eV 5) Qm.aNil))))
      (Qm.sSeq (Qm.sSet 7 (Qm.eCall F_law_worth [] (Qm.aCons (Qm.eV 6) Qm.aNil)))
      (Qm.sSeq (Qm.sAsg (Qm.eCall F_law_built [] (Qm.aCons (Qm.eV 6) (Qm.aCons (Qm.eV 2) (Qm.aCons (Qm.eC (.int 5)) (Qm.aCons (Qm.eC (.str "or")) Qm.aNil))))) (Qm.gTup 2 (Qm.gCons (Qm.gName 8) (Qm.gCons (Qm.gName 9) Qm.gNil))))
      (Qm.sExpr (Qm.eM Qm.mAppend (Qm.eV 4) (Qm.aCons (Qm.eTup (Qm.aCons (Qm.eV 9) (Qm.aCons (Qm.eV 7) Qm.aNil))) Qm.aNil)))))))
      (Qm.sRet (Qm.eV 4))))
noncomputable def F_law_book : Qm.FN := Qm.mkF 4 10 B_law_book
noncomputable def B_law_choices : Qm.XS := (Qm.sSeq (Qm.sSet 1 (Qm.eLst (Qm.aCons Qm.eDNew Qm.aNil)))
      (Qm.sSeq (Qm.sFor (Qm.iKeys (Qm.eV 0)) (Qm.gName 2)
      (Qm.sSeq (Qm.sSet 3 (Qm.eLst Qm.aNil))
      (Qm.sSeq (Qm.sFor (Qm.iLst (Qm.eV 1)) (Qm.gName 4)
      (Qm.sFor (Qm.iLst (Qm.eRIx (Qm.eV 0) (Qm.eV 2))) (Qm.gName 5)
      (Qm.sSeq (Qm.sExpr (Qm.eM Qm.mAppend (Qm.eV 3) (Qm.aCons (Qm.eB Qm.bDict (Qm.aCons (Qm.eV 4) Qm.aNil)) Qm.aNil)))
      (Qm.sDPut (Qm.e2 Qm.gIx (Qm.eV 3) (Qm.e1 Qm.gNeg (Qm.eC (.int 1)))) (Qm.eV 2) (Qm.eV 5)))))
      (Qm.sSet 1 (Qm.eV 3)))))
      (Qm.sRet (Qm.eV 1))))
noncomputable def F_law_choices : Qm.FN := Qm.mkF 1 6 B_law_choices
noncomputable def B_law_at : Qm.XS := (Qm.sSeq (Qm.sSet 2 (Qm.eCall F_law_first [] (Qm.aCons (Qm.eV 0) (Qm.aCons (Qm.eV 1) Qm.aNil))))
      (Qm.sSeq (Qm.sIf (Qm.tV (Qm.e2 Qm.gIsN (Qm.eV 2) (Qm.eC .non)))
      (Qm.sRet (Qm.eTup (Qm.aCons (Qm.eC (.int 0)) (Qm.aCons (Qm.eC (.int 1)) Qm.aNil))))
      Qm.sNil)
      (Qm.sRet (Qm.e2 Qm.gIx (Qm.e2 Qm.gIx (Qm.eV 0) (Qm.eV 2)) (Qm.eC (.int 1))))))
noncomputable def F_law_at : Qm.FN := Qm.mkF 2 3 B_law_at
noncomputable def B_law_other : Qm.XS := (Qm.sSeq (Qm.sSet 3 (Qm.eCall F_law_take [] (Qm.aCons (Qm.eV 0) (Qm.aCons (Qm.eC (.int 5)) Qm.aNil))))
      (Qm.sSeq (Qm.sSet 4 (Qm.eCall F_law_take [] (Qm.aCons (Qm.eV 0) (Qm.aCons (Qm.eB Qm.bMax2 (Qm.aCons (Qm.eC (.int 1)) (Qm.aCons (Qm.eB Qm.bLen (Qm.aCons (Qm.eV 1) Qm.aNil)) Qm.aNil))) Qm.aNil))))
      (Qm.sSeq (Qm.sIf (Qm.tOr (Qm.tV (Qm.e2 Qm.gEq (Qm.eV 3) (Qm.eC (.int 0)))) (Qm.tV (Qm.e2 Qm.gEqW (Qm.eV 1) (Qm.eLst Qm.aNil))))
      (Qm.sRet (Qm.eV 2))
      Qm.sNil)
      (Qm.sSeq (Qm.sIf (Qm.tV (Qm.e2 Qm.gEq (Qm.eV 3) (Qm.eC (.int 1))))
      (Qm.sRet (Qm.e2 Qm.gAdd (Qm.e2 Qm.gAdd (Qm.eSl Qm.gCut (Qm.eV 1) Qm.oNone (Qm.oSome (Qm.eV 4))) (Qm.eLst (Qm.aCons (Qm.eTup (Qm.aCons (Qm.e2 Qm.gIx (Qm.e2 Qm.gIx (Qm.eV 1) (Qm.eV 4)) (Qm.eC (.int 0))) (Qm.aCons (Qm.eCall F_law_worth [] (Qm.aCons (Qm.eV 0) Qm.aNil)) Qm.aNil))) Qm.aNil))) (Qm.eSl Qm.gCut (Qm.eV 1) (Qm.oSome (Qm.e2 Qm.gAdd (Qm.eV 4) (Qm.eC (.int 1)))) Qm.oNone)))
      Qm.sNil)
      (Qm.sSeq (Qm.sIf (Qm.tV (Qm.e2 Qm.gEq (Qm.eV 3) (Qm.eC (.int 2))))
      (Qm.sRet (Qm.e2 Qm.gAdd (Qm.eSl Qm.gCut (Qm.eV 1) Qm.oNone (Qm.oSome (Qm.eV 4))) (Qm.eSl Qm.gCut (Qm.eV 1) (Qm.oSome (Qm.e2 Qm.gAdd (Qm.eV 4) (Qm.eC (.int 1)))) Qm.oNone)))
      Qm.sNil)
      (Qm.sSeq (Qm.sIf (Qm.tV (Qm.e2 Qm.gEq (Qm.eV 3) (Qm.eC (.int 3))))
      (Qm.sRet (Qm.e2 Qm.gAdd (Qm.eSl Qm.gCut (Qm.eV 1) (Qm.oSome (Qm.eV 4)) Qm.oNone) (Qm.eSl Qm.gCut (Qm.eV 1) Qm.oNone (Qm.oSome (Qm.eV 4)))))
      Qm.sNil)
      (Qm.sRet (Qm.eB Qm.bListRev (Qm.aCons (Qm.eV 1) Qm.aNil)))))))))
noncomputable def F_law_other : Qm.FN := Qm.mkF 3 5 B_law_other
noncomputable def B_law : Qm.XS := (Qm.sSeq (Qm.sSet 1 (Qm.eCall F_law_kinds [] (Qm.aCons (Qm.eCall F_law_left [] (Qm.aCons (Qm.eV 0) (Qm.aCons (Qm.eC (.int 1)) Qm.aNil))) Qm.aNil)))
      (Qm.sSeq (Qm.sSet 2 (Qm.eLst Qm.aNil))
      (Qm.sSeq (Qm.sFor (Qm.iKeys (Qm.eV 1)) (Qm.gName 3)
      (Qm.sSet 2 (Qm.e2 Qm.gAdd (Qm.eV 2) (Qm.eComp (Qm.iLst (Qm.eRIx (Qm.eV 1) (Qm.eV 3))) [none, some 3] (Qm.gName 0) Qm.tYes (Qm.eTup (Qm.aCons (Qm.eV 1) (Qm.aCons (Qm.eV 0) Qm.aNil)))))))
      (Qm.sSeq (Qm.sSet 4 (Qm.eCall F_law_book [] (Qm.aCons (Qm.eV 0) (Qm.aCons (Qm.eC (.int 3)) (Qm.aCons (Qm.eB Qm.bList (Qm.aCons (Qm.eV 2) Qm.aNil)) (Qm.aCons (Qm.eC (.int 8)) Qm.aNil))))))
      (Qm.sSeq (Qm.sSet 5 (Qm.eCall F_law_choices [] (Qm.aCons (Qm.eV 1) Qm.aNil)))
      (Qm.sSeq (Qm.sSet 6 (Qm.eComp (Qm.iLst (Qm.eV 5)) [none, some 4] (Qm.gName 0) Qm.tYes (Qm.eCall F_law_first [] (Qm.aCons (Qm.eV 1) (Qm.aCons (Qm.eV 0) Qm.aNil)))))
      (Qm.sSeq (Qm.sSet 7 (Qm.eB Qm.bList (Qm.aCons (Qm.eV 4) Qm.aNil)))
      (Qm.sSeq (Qm.sSet 8 (Qm.eCall F_leaner [] (Qm.aCons (Qm.eV 7) (Qm.aCons (Qm.eV 1) Qm.aNil))))
      (Qm.sSeq (Qm.sIf (Qm.tOr (Qm.tV (Qm.e2 Qm.gNeW (Qm.eV 8) (Qm.eComp (Qm.iRng1 (Qm.aCons (Qm.eB Qm.bLen (Qm.aCons (Qm.eV 4) Qm.aNil)) Qm.aNil)) [none, some 4, some 6] (Qm.gName 0) (Qm.tV (Qm.e2 Qm.gIn (Qm.eV 0) (Qm.eV 2))) (Qm.e2 Qm.gIx (Qm.eV 1) (Qm.eV 0))))) (Qm.tV (Qm.e2 Qm.gNeW (Qm.eV 7) (Qm.eV 4))))
      (Qm.sRet (Qm.eC (.bl false)))
      Qm.sNil)
      (Qm.sSeq (Qm.sFor (Qm.iLst (Qm.eV 5)) (Qm.gName 9)
      (Qm.sIf (Qm.tV (Qm.e2 Qm.gNe (Qm.eCall F_worth [] (Qm.aCons (Qm.eV 8) (Qm.aCons (Qm.eV 9) Qm.aNil))) (Qm.eCall F_law_at [] (Qm.aCons (Qm.eV 4) (Qm.aCons (Qm.eV 9) Qm.aNil)))))
      (Qm.sRet (Qm.eC (.bl false)))
      Qm.sNil))
      (Qm.sSeq (Qm.sSet 10 (Qm.eCall F_law_other [] (Qm.aCons (Qm.eCall F_law_left [] (Qm.aCons (Qm.eV 0) (Qm.aCons (Qm.eC (.int 2)) Qm.aNil))) (Qm.aCons (Qm.eV 4) (Qm.aCons (Qm.eB Qm.bList (Qm.aCons (Qm.eV 8) Qm.aNil)) Qm.aNil)))))
      (Qm.sSeq (Qm.sSet 11 (Qm.eB Qm.bList (Qm.aCons (Qm.eV 8) Qm.aNil)))
      (Qm.sSeq (Qm.sExpr (Qm.eM Qm.mAppend (Qm.eV 8) (Qm.aCons (Qm.eTup (Qm.aCons (Qm.eTup (Qm.aCons (Qm.eC (.str "any")) Qm.aNil)) (Qm.aCons (Qm.eTup (Qm.aCons (Qm.eC (.int 1)) (Qm.aCons (Qm.eC (.int 1)) Qm.aNil))) Qm.aNil))) Qm.aNil)))
      (Qm.sSeq (Qm.sIf (Qm.tOr (Qm.tV (Qm.e2 Qm.gNeW (Qm.eCall F_leaner [] (Qm.aCons (Qm.eV 7) (Qm.aCons (Qm.eV 1) Qm.aNil))) (Qm.eV 11))) (Qm.tV (Qm.e2 Qm.gNotN (Qm.eCall F_parted [] (Qm.aCons (Qm.eV 4) (Qm.aCons (Qm.eV 11) (Qm.aCons (Qm.eV 1) Qm.aNil)))) (Qm.eC .non))))
      (Qm.sRet (Qm.eC (.bl false)))
      Qm.sNil)
      (Qm.sSeq (Qm.sSet 12 (Qm.eComp (Qm.iLst (Qm.eV 5)) [none, some 4, some 10] (Qm.gName 0) (Qm.tV (Qm.e2 Qm.gNe (Qm.eCall F_law_at [] (Qm.aCons (Qm.eV 1) (Qm.aCons (Qm.eV 0) Qm.aNil))) (Qm.eCall F_law_at [] (Qm.aCons (Qm.eV 2) (Qm.aCons (Qm.eV 0) Qm.aNil))))) (Qm.eV 0)))
      (Qm.sSeq (Qm.sSet 13 (Qm.eCall F_parted [] (Qm.aCons (Qm.eV 4) (Qm.aCons (Qm.eV 10) (Qm.aCons (Qm.eV 1) Qm.aNil)))))
      (Qm.sSeq (Qm.sIf (Qm.tV (Qm.e2 Qm.gEqNil (Qm.eV 12) (Qm.eLst Qm.aNil)))
      (Qm.sRet (Qm.e2 Qm.gIsN (Qm.eV 13) (Qm.eC .non)))
      Qm.sNil)
      (Qm.sSeq (Qm.sIf (Qm.tV (Qm.e2 Qm.gNotInDs (Qm.eV 13) (Qm.eV 12)))
      (Qm.sRet (Qm.eC (.bl false)))
      Qm.sNil)
      (Qm.sSeq (Qm.sDPut (Qm.eV 13) (Qm.eC (.str "zzz")) (Qm.eC (.str "z")))
      (Qm.sRet (Qm.eAnd (Qm.e2 Qm.gInDs (Qm.eCall F_parted [] (Qm.aCons (Qm.eV 4) (Qm.aCons (Qm.eV 10) (Qm.aCons (Qm.eV 1) Qm.aNil)))) (Qm.eV 12)) (Qm.e2 Qm.gInDs (Qm.eCall F_parted [] (Qm.aCons (Qm.eV 10) (Qm.aCons (Qm.eV 4) (Qm.aCons (Qm.eV 1) Qm.aNil)))) (Qm.eV 12)))))))))))))))))))))))
noncomputable def F_law : Qm.FN := Qm.mkF 1 14 B_law
end Law
namespace Law
open PySem Qm PyProof.Rows
local macro_rules | `(tactic| walk_at "bd") => `(tactic| first | assumption | ((with_reducible show My.Bd _ (_ * _)); refine' My.Bd.mul ?_ ?_ <;> walk_at "bd") | ((with_reducible show My.Bd _ (_ + _)); refine' My.Bd.add ?_ ?_ <;> walk_at "bd") | ((with_reducible show My.Bd _ (_ - _)); refine' My.Bd.sub ?_ ?_ <;> walk_at "bd") | ((with_reducible show My.Bd _ (- _)); refine' My.Bd.neg ?_ <;> walk_at "bd") | (refine' bd64 ?_; omega))
local macro_rules | `(tactic| walk_at "bdm") => `(tactic| first | assumption | (refine' My.Bd.mono ?b1 ?b2; (case b1 => walk_at "bd"); (case b2 => decide)))
local macro_rules | `(tactic| walk_at "mo") => `(tactic| first | (refine mulL ?_; omega) | (refine mulR ?_; omega) | (refine mulB ?_ ?_ <;> walk_at "bdm"))
local macro_rules | `(tactic| walk_at "dis") => `(tactic| first | assumption | omega | walk_at "mo" | walk_at "bdm")
local macro_rules | `(tactic| erw [$[$t:term],*]) => `(tactic| simp (disch := walk_at "dis") only [mkF_, sSeq_, sSet_, sAsg_, sPar_, sIf_, sRet_, sExpr_, sNil_, eC_, eV_, e1_, e2_, asB_, asI_, eAnd_, eOr_, eNot_, eIf_, aNil_, aCons_, eTup_, eLst_, eCall_, eB_, eM_, oNone_, eSl_, tV_, tAnd_, tOr_, tNot_, tYes_, eChain_, gName_, gNil_, gCons_, gTup_, sq_nx, sq_rt, fin_rt, fin_nx, gSub_, gAdd_, gLt_, gLe_, gGt_, gGe_, gNeg_, gMul_, gFdiv_, gMod_, gEq_int, gNe_int, gEq_bl, gNe_bl, seqOf_tup, gIx_tup, atD_0, atD_1, atD_2, bAbs_, bInt_bl, bMax2_, bMin2_, line1, line2, line3, line4, line5, line6, line7, line8, List.getElem?_cons_succ, List.getElem?_cons_zero, Option.join_some, Option.join_none, Option.bind_some, Option.bind_none, List.set_cons_succ, List.set_cons_zero, List.map_cons, List.map_nil, List.length_cons, List.length_nil, List.append_nil, List.nil_append, List.cons_append, List.replicate_succ, List.replicate_zero, Nat.reduceAdd, Nat.reduceSub, Nat.reduceEqDiff, if_true, if_false, Bool.false_eq_true, decide_true, decide_false, Bool.not_true, Bool.not_false, eq_self_iff_true, reduceIte, List.zip_cons_cons, List.zip_nil_right, List.zip_nil_left, List.foldl_cons, List.foldl_nil, Int.reduceLT, Int.reduceEq, Int.reduceLE, $[$t:term],*])
structure Kq (S : List Nat) (c c' : Cells) : Prop where
  len : c.length ≤ c'.length
  at_ : ∀ i, i < c.length → i ∉ S → c'[i]? = c[i]?
theorem Kq.refl (S : List Nat) (c : Cells) : Kq S c c := ⟨Nat.le_refl _, fun _ _ _ => rfl⟩
theorem Kq.less {S S' : List Nat} {c c1 c2 : Cells} (a : Kq S c c1) (b : Kq S' c1 c2) (h : ∀ x ∈ S', x ∈ S ∨ c.length ≤ x) : Kq S c c2 := ⟨Nat.le_trans a.len b.len, fun i hi hs => (b.at_ i (Nat.lt_of_lt_of_le hi a.len) (fun hx => (h i hx).elim hs (fun hh => by omega))).trans (a.at_ i hi hs)⟩
theorem Kq.trans {S : List Nat} {c c1 c2 : Cells} (a : Kq S c c1) (b : Kq S c1 c2) : Kq S c c2 := a.less b fun _ h => Or.inl h
theorem Kq.set {S : List Nat} {n : Nat} {c : Cells} {z : Cell} (h : n ∈ S) : Kq S c (c.set n z) := ⟨by rw [List.length_set]; exact Nat.le_refl _, fun i _ hi => by rw [List.getElem?_set, if_neg (fun (e : n = i) => hi (by rw [← e]; exact h))]⟩
theorem Kq.more {S : List Nat} {c : Cells} {zs : List Cell} : Kq S c (c ++ zs) := ⟨by rw [List.length_append]; omega, fun i h _ => List.getElem?_append_left h⟩
theorem get_lt {i : Nat} {c : Cells} {z : Cell} (h : c[i]? = some z) : i < c.length := (List.getElem?_eq_some_iff.mp h).1
theorem Kq.get {S : List Nat} {i : Nat} {c c' : Cells} {z : Cell} (k : Kq S c c') (h : c[i]? = some z) (hi : i ∉ S) : c'[i]? = some z := by
  rw [k.at_ i (get_lt h) hi]; exact h
theorem Kq.mono {S S' : List Nat} {c c' : Cells} (k : Kq S c c') (h : ∀ x ∈ S, x ∈ S') : Kq S' c c' := ⟨k.len, fun i hi hs => k.at_ i hi fun hx => hs (h i hx)⟩
theorem get_app {i : Nat} {c zs : Cells} {z : Cell} (h : c[i]? = some z) : (c ++ zs)[i]? = some z := by rw [List.getElem?_append_left (get_lt h)]; exact h
theorem ok_of {x : Str} (h : x.cps.toList.all (fun k => decide (k < 1114112)) = true) : x.cps.all (fun k => decide (k < 1114112)) = true := by rw [← Array.all_toList]; exact h
structure Wd (x : Str) : Prop where
  ok : x.cps.all (fun k => decide (k < 1114112)) = true
  pos : 0 < x.length
  le : x.length ≤ 1000
theorem data_str {k : Nat} {c : Cells} {x : Str} (h : x.cps.all (fun k => decide (k < 1114112)) = true) : data c (k + 1) (.str x) = some (.str x) := by
  have : data c (k + 1) (.str x) = if x.cps.all (fun k => decide (k < 1114112)) = true then some (.str x) else none := rfl
  rw [this, if_pos h]
theorem gEq_str {x y : Str} {c : Cells} (hx : x.cps.all (fun k => decide (k < 1114112)) = true) (hy : y.cps.all (fun k => decide (k < 1114112)) = true) : gEq (.str x) (.str y) c = some (.bl (decide (x = y)), c) := by
  have : eqM (.str x) (.str y) c = (data c 6 (.str x)).bind fun d => (data c 6 (.str y)).bind fun e => some (@decide (d = e) (Classical.propDecidable _)) := rfl
  unfold gEq
  rw [this, data_str hx, data_str hy]
  simp
theorem gEq_non {y : Str} {c : Cells} (hy : y.cps.all (fun k => decide (k < 1114112)) = true) : gEq .non (.str y) c = some (.bl false, c) := by
  have : eqM .non (.str y) c = (data c 6 .non).bind fun d => (data c 6 (.str y)).bind fun e => some (@decide (d = e) (Classical.propDecidable _)) := rfl
  have h0 : data c 6 .non = some .none := rfl
  unfold gEq
  rw [this, data_str hy, h0]
  simp
theorem omap_strs {c : Cells} {k : Nat} : ∀ (ws : List Str), (∀ w ∈ ws, w.cps.all (fun k => decide (k < 1114112)) = true) → omap (data c (k + 1)) (ws.map D.str) = some (ws.map PyData.str)
  | [], _ => rfl
  | w :: ws, h => by
    rw [List.map_cons, List.map_cons]
    unfold omap
    rw [data_str (h w (List.mem_cons_self ..)), Option.bind_some, omap_strs ws fun v hv => h v (List.mem_cons_of_mem _ hv)]
    rfl
theorem gIn_strs {x : Str} {ws : List Str} {c : Cells} (hx : x.cps.all (fun k => decide (k < 1114112)) = true) (h : ∀ w ∈ ws, w.cps.all (fun k => decide (k < 1114112)) = true) : ∃ b, gIn (.str x) (.tup (ws.map D.str)) c = some (.bl b, c) := by
  unfold gIn inM
  rw [seqOf_tup, Option.bind_some, data_str hx, Option.bind_some, omap_strs ws h]
  exact ⟨_, rfl⟩
theorem len_app {x y : Str} : (x ++ y).length = x.length + y.length := by
  show (x.cps ++ y.cps).size = _
  rw [Array.size_append]; rfl
theorem ok_app {x y : Str} (hx : x.cps.all (fun k => decide (k < 1114112)) = true) (hy : y.cps.all (fun k => decide (k < 1114112)) = true) : (x ++ y).cps.all (fun k => decide (k < 1114112)) = true := by
  show (x.cps ++ y.cps).all _ = true
  rw [Array.all_append, hx, hy]; rfl
theorem gAddS_ {x y : Str} {c : Cells} (h : x.length + y.length ≤ 10000) : gAddS (.str x) (.str y) c = some (.str (x ++ y), c) := by
  have : gAddS (.str x) (.str y) c = if x.length + y.length ≤ LINE then some (.str (x ++ y), c) else none := rfl
  rw [this, if_pos (line_ok h)]
theorem atD_of {α : Type} {xs : List α} {g : Int} (h0 : 0 ≤ g) (h1 : g < xs.length) : ∃ x, atD xs g = some x ∧ x ∈ xs := by
  have hg : g.toNat < xs.length := by omega
  refine ⟨xs[g.toNat], ?_, List.getElem_mem hg⟩
  have := atD_nat (xs := xs) (n := g.toNat) (x := xs[g.toNat]) (List.getElem?_eq_getElem hg)
  rwa [show ((g.toNat : Nat) : Int) = g by omega] at this
theorem letter_ {g : Int} {c : Cells} (h0 : 0 ≤ g) (h1 : g < 26) : ∃ k, gIxS (.str "abcdefghijklmnopqrstuvwxyz") (.int g) c = some (.str ⟨#[k]⟩, c) ∧ k < 1114112 := by
  have hl : ("abcdefghijklmnopqrstuvwxyz" : Str).cps.toList.length = 26 := by decide
  obtain ⟨k, e, hm⟩ := atD_of (xs := ("abcdefghijklmnopqrstuvwxyz" : Str).cps.toList) h0 (by rw [hl]; exact h1)
  have ha : ∀ k ∈ ("abcdefghijklmnopqrstuvwxyz" : Str).cps.toList, k < 1114112 := by decide
  refine ⟨k, ?_, ha k hm⟩
  have hl2 : ("abcdefghijklmnopqrstuvwxyz" : Str).length ≤ LINE := line_ok (by decide)
  have : gIxS (.str "abcdefghijklmnopqrstuvwxyz") (.int g) c = if ("abcdefghijklmnopqrstuvwxyz" : Str).length ≤ LINE then (atD ("abcdefghijklmnopqrstuvwxyz" : Str).cps.toList g).bind fun k => some (.str ⟨#[k]⟩, c) else none := rfl
  rw [this, if_pos hl2, e]
  rfl
def Lf (l : Nat) (m : Int) (c : Cells) : Prop := ∃ a b : Int, c[l]? = some (.lst [.int a, .int b, .int m])
theorem Lf.lt {l : Nat} {m : Int} {c : Cells} (h : Lf l m c) : l < c.length := by obtain ⟨a, b, h⟩ := h; exact get_lt h
theorem Lf.keep {l : Nat} {m : Int} {c c' : Cells} {S : List Nat} (h : Lf l m c) (k : Kq S c c') (hs : l ∉ S) : Lf l m c' := by obtain ⟨a, b, h⟩ := h; exact ⟨a, b, k.get h hs⟩
theorem Lf.more {l : Nat} {m : Int} {c zs : Cells} (h : Lf l m c) : Lf l m (c ++ zs) := by obtain ⟨a, b, h⟩ := h; exact ⟨a, b, get_app h⟩
theorem take_ {l : Nat} {m k : Int} {c : Cells} (h : Lf l m c) (h0 : 0 < k) (hk : k < 1000000000) : ∃ g c', F_law_take [.ref l, .int k] c = some (.int g, c') ∧ 0 ≤ g ∧ g < k ∧ Lf l m c' ∧ Kq [l] c c' := by
  have hlt := h.lt
  obtain ⟨a, b, hc⟩ := h
  have s1 := seqOf_lst hc
  have l1 := lstOf_lst hc
  have hm : My.Bd 8900 k := My.Bd.mono (bd64 (i := k) (by omega)) (by decide)
  by_cases ha : a = 0
  · refine ⟨b % k, c.set l (.lst [.int a, .int (b / k), .int m]), ?_, Int.emod_nonneg _ (by omega), Int.emod_lt_of_pos _ h0, ⟨a, b / k, ?_⟩, Kq.set (by simp)⟩
    · subst ha
      simp [F_law_take, mkF_, B_law_take, gIx_, s1, gMod_ h0, gFdiv_ h0 hm, gPut, l1, ixD]
    · simp [hlt]
  · refine ⟨a % k, c.set l (.lst [.int (a / k), .int b, .int m]), ?_, Int.emod_nonneg _ (by omega), Int.emod_lt_of_pos _ h0, ⟨a / k, b, ?_⟩, Kq.set (by simp)⟩
    · simp [F_law_take, mkF_, B_law_take, gIx_, s1, gMod_ h0, gFdiv_ h0 hm, gPut, l1, ixD, ha]
    · simp [hlt]
theorem rng_at {n i : Nat} {lo : Int} {d : D} (h : (rng lo n)[i]? = some d) : i < n ∧ d = .int (lo + (i : Int)) := by
  unfold rng at h
  rw [List.getElem?_map] at h
  by_cases hi : i < n
  · rw [List.getElem?_range hi] at h; cases h; exact ⟨hi, rfl⟩
  · rw [List.getElem?_eq_none_iff.mpr (by simpa using Nat.le_of_not_lt hi)] at h; cases h
theorem rng_len {n : Nat} {lo : Int} : (rng lo n).length = n := by simp [rng]
theorem sFor_ {it : XI} {g : XG} {b : XS} {σ : Qm.Env} {c c1 : Cells} {I : Itm} (h : it σ c = some (I, c1)) : sFor it g b σ c = forGo I.ks g b I.ds σ c1 := by
  unfold sFor
  rw [h, Option.bind_some]
theorem sSeq_of {a b : XS} {σ σ1 : Qm.Env} {c c1 : Cells} {r : Option (Fl × Qm.Env × Cells)} (h1 : a σ c = some (.nx, σ1, c1)) (h2 : b σ1 c1 = r) : sSeq a b σ c = r := by
  rw [sSeq_, h1, Option.bind_some]
  exact h2
theorem wd_list : ∀ x ∈ (["an", "nd", "o", "r", "no", "ot", "t", "ny", "y", "andor", "nota", "anyone"] : List Str), Wd x ∧ x.length ≤ 900 := by
  intro x hx
  have h : ∀ x ∈ (["an", "nd", "o", "r", "no", "ot", "t", "ny", "y", "andor", "nota", "anyone"] : List Str), (x.cps.toList.all (fun k => decide (k < 1114112)) = true ∧ 0 < x.length) ∧ x.length ≤ 900 := by decide
  exact ⟨⟨ok_of (h x hx).1.1, (h x hx).1.2, by have := (h x hx).2; omega⟩, (h x hx).2⟩
theorem ok_four : ∀ w ∈ (["and", "or", "not", "any"] : List Str), w.cps.all (fun k => decide (k < 1114112)) = true := by
  intro x hx
  have h : ∀ x ∈ (["and", "or", "not", "any"] : List Str), x.cps.toList.all (fun k => decide (k < 1114112)) = true := by decide
  exact ok_of (h x hx)
theorem line12 : 12 ≤ LINE := line_ok (by decide)
theorem word_ {l : Nat} {m : Int} {c : Cells} (h : Lf l m c) : ∃ x c', F_law_word [.ref l] c = some (.str x, c') ∧ Wd x ∧ Lf l m c' ∧ Kq [l] c c' := by
  obtain ⟨g, c1, e1, g0, g1, p1, k1⟩ := take_ h (k := 8) (by decide) (by decide)
  -- the letters
  have hr : iRng1 (aCons (e2 gAdd (eC (.int 1)) (eCall F_law_take [] (aCons (eV 0) (aCons (eC (.int 8)) aNil)))) aNil) [some (.ref l), some (.str "abcdefghijklmnopqrstuvwxyz"), some (.str ""), none] c = some (⟨rng 0 (1 + g).toNat, []⟩, c1) := iRng1' (j := 1 + g) (by erw [e1]) (by omega)
  have key := forGo_inv (ks := []) (g := gName 3) (body := (sSet 2 (e2 gAddS (eV 2) (e2 gIxS (eV 1) (eCall F_law_take [] (aCons (eV 0) (aCons (eC (.int 26)) aNil)))))))
    (fun i σ c' => ∃ x j, σ = [some (.ref l), some (.str "abcdefghijklmnopqrstuvwxyz"), some (.str x), j] ∧ x.length = i ∧ x.cps.all (fun k => decide (k < 1114112)) = true ∧ Lf l m c' ∧ Kq [l] c c') (rng 0 (1 + g).toNat) 0 [some (.ref l), some (.str "abcdefghijklmnopqrstuvwxyz"), some (.str ""), none] c1 (fun _ _ _ _ => stays_nil) (by
      rintro i d σ c' hd ⟨x, j, rfl, hx, ho, hp, hk⟩
      obtain ⟨hi, rfl⟩ := rng_at hd
      obtain ⟨g2, c2, ee2, g20, g21, p2, k2⟩ := take_ hp (k := 26) (by decide) (by decide)
      obtain ⟨k, e3, hk3⟩ := letter_ (c := c2) g20 g21
      refine ⟨_, c', [some (.ref l), some (.str "abcdefghijklmnopqrstuvwxyz"), some (.str (x ++ ⟨#[k]⟩)), some (.int (0 + (i : Int)))], c2, rfl, ?_, ⟨_, _, rfl, ?_, ok_app ho (ok_of (by simpa using hk3)), p2, hk.trans k2⟩⟩
      · have e4 := gAddS_ (x := x) (y := ⟨#[k]⟩) (c := c2) (by
          have : (⟨#[k]⟩ : Str).length = 1 := rfl
          omega)
        erw [ee2, e3, e4]
      · rw [len_app, hx]; rfl) ⟨"", none, rfl, rfl, ok_of (by decide), p1, k1⟩
  obtain ⟨σ', c2, ee2, x, j, rfl, hx, ho, p2, k2⟩ := key
  rw [rng_len] at hx
  have wx : Wd x := ⟨ho, by omega, by omega⟩
  have f1 : sFor (iRng1 (aCons (e2 gAdd (eC (.int 1)) (eCall F_law_take [] (aCons (eV 0) (aCons (eC (.int 8)) aNil)))) aNil)) (gName 3) (sSet 2 (e2 gAddS (eV 2) (e2 gIxS (eV 1) (eCall F_law_take [] (aCons (eV 0) (aCons (eC (.int 26)) aNil)))))) [some (.ref l), some (.str "abcdefghijklmnopqrstuvwxyz"), some (.str ""), none] c = some (.nx, [some (.ref l), some (.str "abcdefghijklmnopqrstuvwxyz"), some (.str x), j], c2) := by rw [sFor_ hr]; exact ee2
  obtain ⟨g3, c3, e3, g30, g31, p3, k3⟩ := take_ p2 (k := 12) (by decide) (by decide)
  -- a word of the list
  have step : ∃ y c4, sIf (tV (e2 gEq (eCall F_law_take [] (aCons (eV 0) (aCons (eC (.int 12)) aNil))) (eC (.int 0)))) (sSet 2 (e2 gIx (eLst (aCons (eC (.str "an")) (aCons (eC (.str "nd")) (aCons (eC (.str "o")) (aCons (eC (.str "r")) (aCons (eC (.str "no")) (aCons (eC (.str "ot")) (aCons (eC (.str "t")) (aCons (eC (.str "ny")) (aCons (eC (.str "y")) (aCons (eC (.str "andor")) (aCons (eC (.str "nota")) (aCons (eC (.str "anyone")) aNil))))))))))))) (eCall F_law_take [] (aCons (eV 0) (aCons (eC (.int 12)) aNil))))) sNil [some (.ref l), some (.str "abcdefghijklmnopqrstuvwxyz"), some (.str x), j] c2 = some (.nx, [some (.ref l), some (.str "abcdefghijklmnopqrstuvwxyz"), some (.str y), j], c4) ∧ (Wd y ∧ y.length ≤ 900) ∧ Lf l m c4 ∧ Kq [l] c2 c4 := by
    by_cases h3 : g3 = 0
    · obtain ⟨g4, c4, e4, g40, g41, p4, k4⟩ := take_ (p3.more (zs := [.lst ((["an", "nd", "o", "r", "no", "ot", "t", "ny", "y", "andor", "nota", "anyone"] : List Str).map D.str)])) (k := 12) (by decide) (by decide)
      obtain ⟨d, e5, hm⟩ := atD_of (xs := (["an", "nd", "o", "r", "no", "ot", "t", "ny", "y", "andor", "nota", "anyone"] : List Str).map D.str) g40 (by simpa using g41)
      obtain ⟨y, hy, rfl⟩ := List.mem_map.mp hm
      have ql : c4[c3.length]? = some (.lst ((["an", "nd", "o", "r", "no", "ot", "t", "ny", "y", "andor", "nota", "anyone"] : List Str).map D.str)) := k4.get (by simp) (by have := p3.lt; simp; omega)
      have s4 := seqOf_lst ql
      refine ⟨y, c4, ?_, wd_list y hy, p4, k3.trans (Kq.more.trans k4)⟩
      subst h3
      simp only [List.map_cons, List.map_nil] at e4 s4 e5
      erw [e3, line12, e4, gIx_, s4, e5]
    · exact ⟨x, c3, by erw [e3, h3], ⟨wx, by omega⟩, p3, k3⟩
  obtain ⟨y, c4, f2, ⟨wy, ly⟩, p4, k4⟩ := step
  obtain ⟨b, e6⟩ := gIn_strs (c := c4) wy.ok ok_four
  simp only [List.map_cons, List.map_nil] at e6
  have e7 := gAddS_ (x := y) (y := "x") (c := c4) (by
    have : ("x" : Str).length = 1 := by decide
    have := wy.le
    omega)
  have run : ∃ z, B_law_word [some (.ref l), none, none, none] c = some (.rt (.str z), [some (.ref l), some (.str "abcdefghijklmnopqrstuvwxyz"), some (.str z), j], c4) ∧ Wd z := by
    cases b with
    | false =>
      refine ⟨y, ?_, wy⟩
      unfold B_law_word
      refine sSeq_of (σ1 := [some (.ref l), some (.str "abcdefghijklmnopqrstuvwxyz"), none, none]) (c1 := c) rfl ?_
      refine sSeq_of (σ1 := [some (.ref l), some (.str "abcdefghijklmnopqrstuvwxyz"), some (.str ""), none]) (c1 := c) rfl ?_
      refine sSeq_of f1 ?_
      refine sSeq_of f2 ?_
      erw [e6]
    | true =>
      refine ⟨y ++ "x", ?_, ?_⟩
      · unfold B_law_word
        refine sSeq_of (σ1 := [some (.ref l), some (.str "abcdefghijklmnopqrstuvwxyz"), none, none]) (c1 := c) rfl ?_
        refine sSeq_of (σ1 := [some (.ref l), some (.str "abcdefghijklmnopqrstuvwxyz"), some (.str ""), none]) (c1 := c) rfl ?_
        refine sSeq_of f1 ?_
        refine sSeq_of f2 ?_
        erw [e6, e7]
      · have lx : ("x" : Str).length = 1 := by decide
        exact ⟨ok_app wy.ok (ok_of (by decide)), by rw [len_app]; omega, by rw [len_app]; omega⟩
  obtain ⟨z, e8, wz⟩ := run
  refine ⟨z, c4, ?_, wz, p4, k2.trans k4⟩
  erw [F_law_word, e8]
theorem gPow_ {c : Cells} : gPow (.int 10) (.int 20) c = some (.int 100000000000000000000, c) := by
  unfold gPow; rw [ii_, if_pos (by decide)]; rfl
theorem gPowB_ {i : Int} {c : Cells} (h : My.Bd 64 i) : gPowB (.int i) (.int 18) c = some (.int (i ^ 18), c) := by
  unfold gPowB; rw [ii_, if_pos ⟨by decide, by decide, h.mono (by decide)⟩]; rfl
theorem cell_ {s : Nat} {c : Cells} {ns : List Int} {k : Int} (hs : c[s]? = some (.ro (ns.map D.int))) (k0 : 0 ≤ k) : ∃ z, F_law_cell_at [.ref s, .int k] c = some (.int z, c) := by
  have s1 := seqOf_ro hs
  have hl : ((ns.map D.int).length : Int) = ns.length := by simp
  by_cases hk : k < ns.length
  · obtain ⟨d, hd, hm⟩ := atD_of (xs := ns.map D.int) k0 (by rw [hl]; exact hk)
    obtain ⟨z, _, rfl⟩ := List.mem_map.mp hm
    refine ⟨z, ?_⟩
    have hk' : decide (k < ((ns.map D.int).length : Int)) = true := by rw [hl]; exact decide_eq_true hk
    erw [F_law_cell_at, B_law_cell_at, bLen_, s1, gIx_, hk', hd]
  · refine ⟨0, ?_⟩
    have hk' : decide (k < ((ns.map D.int).length : Int)) = false := by rw [hl]; exact decide_eq_false (by omega)
    erw [F_law_cell_at, B_law_cell_at, bLen_, s1, gIx_, hk']
theorem left_ {s : Nat} {c : Cells} {ns : List Int} {k : Int} (hs : c[s]? = some (.ro (ns.map D.int))) (k0 : 0 ≤ k) (k1 : k < 1000) : ∃ a b, F_law_left [.ref s, .int k] c = some (.ref c.length, c ++ [.lst [.int a, .int b, .int 0]]) := by
  obtain ⟨z, e1⟩ := cell_ hs k0
  obtain ⟨z0, e2⟩ := cell_ hs (k := 0) (by decide)
  have a0 := Int.emod_nonneg (if z < 0 then -z else z) (show (2147483647 : Int) ≠ 0 by decide)
  have a1 := Int.emod_lt_of_pos (if z < 0 then -z else z) (show (0 : Int) < 2147483647 by decide)
  have b0 := Int.emod_nonneg ((if z < 0 then -z else z) % 2147483647 * 48271 + 7919 * k + 11) (show (2147483647 : Int) ≠ 0 by decide)
  have b1 := Int.emod_lt_of_pos ((if z < 0 then -z else z) % 2147483647 * 48271 + 7919 * k + 11) (show (0 : Int) < 2147483647 by decide)
  have hb : My.Bd 64 (2147483647 + ((if z < 0 then -z else z) % 2147483647 * 48271 + 7919 * k + 11) % 2147483647) := bd64 (by omega)
  have p1 := gPowB_ hb (c := c)
  have p2 := gPow_ (c := c)
  have hm : (if decide (z0 % 2 = 0) = true then (1 : Int) else 0).natAbs < 2 ^ 64 := by split <;> decide
  have hd : My.Bd 8900 (100000000000000000000 : Int) := My.Bd.mono (j := 70) ⟨by decide⟩ (by decide)
  have h9 : (0 : Int) < 100000000000000000000 := by decide
  refine ⟨(if z < 0 then -z else z) * (if decide (z0 % 2 = 0) = true then 1 else 0), (2147483647 + ((if z < 0 then -z else z) % 2147483647 * 48271 + 7919 * k + 11) % 2147483647) ^ 18 / 100000000000000000000, ?_⟩
  rw [F_law_left, mkF_, B_law_left]
  erw [e1, e2, p1, p2, gFdiv_ h9 hd, gMul_ (mulR hm)]
inductive Tr : Nat → D → Prop
  | is {n : Nat} {x y : Str} : Wd x → Wd y → Tr (n + 1) (.tup [.str "is", .str x, .str y])
  | any {n : Nat} : Tr (n + 1) (.tup [.str "any"])
  | not {n : Nat} {t : D} : Tr n t → Tr (n + 1) (.tup [.str "not", t])
  | and {n : Nat} {t u : D} : Tr n t → Tr n u → Tr (n + 1) (.tup [.str "and", t, u])
  | or {n : Nat} {t u : D} : Tr n t → Tr n u → Tr (n + 1) (.tup [.str "or", t, u])
theorem Tr.mono : ∀ {n m : Nat} {t : D}, Tr n t → n ≤ m → Tr m t
  | n + 1, m + 1, _, .is h1 h2, _ => .is h1 h2
  | n + 1, m + 1, _, .any, _ => .any
  | n + 1, m + 1, _, .not h, hl => .not (h.mono (by omega))
  | n + 1, m + 1, _, .and h g, hl => .and (h.mono (by omega)) (g.mono (by omega))
  | n + 1, m + 1, _, .or h g, hl => .or (h.mono (by omega)) (g.mono (by omega))
def pr (p : Str × Str) : D := .tup [.str p.1, .str p.2]
structure St (N : Int) (l w : Nat) (m : Int) (ws : List (Str × Str)) (c : Cells) : Prop where
  lf : Lf l m c
  at_ : c[w]? = some (.lst (ws.map pr))
  wd : ∀ p ∈ ws, Wd p.1 ∧ Wd p.2
  ne : l ≠ w
  len : (ws.length : Int) ≤ N + m
  big : N ≤ 9000
  m0 : 0 ≤ m
theorem St.keep {N : Int} {l w : Nat} {m : Int} {ws : List (Str × Str)} {c c' : Cells} (h : St N l w m ws c) (k : Kq [l] c c') (hl : Lf l m c') : St N l w m ws c' := ⟨hl, k.get h.at_ (by simpa using fun e => h.ne e.symm), h.wd, h.ne, h.len, h.big, h.m0⟩
theorem St.more {N : Int} {l w : Nat} {m : Int} {ws : List (Str × Str)} {c zs : Cells} (h : St N l w m ws c) : St N l w m ws (c ++ zs) := ⟨h.lf.more, get_app h.at_, h.wd, h.ne, h.len, h.big, h.m0⟩
theorem Kq.two {l w : Nat} {c c' : Cells} (k : Kq [l] c c') : Kq [l, w] c c' := k.mono fun x hx => by simp at hx ⊢; exact Or.inl hx
theorem data_pr {c : Cells} {k : Nat} {p : Str × Str} (h : Wd p.1 ∧ Wd p.2) : data c (k + 2) (pr p) = some (.tuple [.str p.1, .str p.2]) := by
  have : data c (k + 2) (pr p) = (omap (data c (k + 1)) [.str p.1, .str p.2]).bind fun ds => some (.tuple ds) := rfl
  rw [this]
  unfold omap omap omap
  rw [data_str h.1.ok, data_str h.2.ok]
  rfl
theorem omap_prs {c : Cells} {k : Nat} : ∀ (ws : List (Str × Str)), (∀ p ∈ ws, Wd p.1 ∧ Wd p.2) → omap (data c (k + 2)) (ws.map pr) = some (ws.map fun p => .tuple [.str p.1, .str p.2])
  | [], _ => rfl
  | w :: ws, h => by
    rw [List.map_cons, List.map_cons]
    unfold omap
    rw [data_pr (h w (List.mem_cons_self ..)), Option.bind_some, omap_prs ws fun v hv => h v (List.mem_cons_of_mem _ hv)]
    rfl
theorem data_lst {c : Cells} {k n : Nat} {xs : List D} {ds : List PyData} (h : c[n]? = some (.lst xs)) (e : omap (data c k) xs = some ds) : data c (k + 1) (.ref n) = some (.list ds) := by
  have : data c (k + 1) (.ref n) = (match c[n]? with
      | some (.lst xs) => (omap (data c k) xs).bind fun ds => some (.list ds)
      | some (.ro xs) => (omap (data c k) xs).bind fun ds => some (.list ds)
      | _ => none) := rfl
  rw [this, h]
  dsimp only
  rw [e]
  rfl
theorem gNe_nil {w n : Nat} {ws : List (Str × Str)} {c : Cells} (h : c[w]? = some (.lst (ws.map pr))) (hw : ∀ p ∈ ws, Wd p.1 ∧ Wd p.2) (hn : c[n]? = some (.lst [])) : gNe (.ref w) (.ref n) c = some (.bl (decide (ws ≠ [])), c) := by
  have : eqM (.ref w) (.ref n) c = (data c 6 (.ref w)).bind fun d => (data c 6 (.ref n)).bind fun e => some (@decide (d = e) (Classical.propDecidable _)) := rfl
  unfold gNe
  rw [this, data_lst h (omap_prs (k := 3) ws hw), data_lst hn (show omap (data c 5) [] = some [] from rfl)]
  simp
theorem gAdd_ref {a b : Nat} {xs ys : List D} {c : Cells} (h : c[a]? = some (.lst xs)) (g : c[b]? = some (.lst ys)) (hl : xs.length + ys.length ≤ 10000) : gAdd (.ref a) (.ref b) c = some (.ref c.length, c ++ [.lst (xs ++ ys)]) := by
  have : gAdd (.ref a) (.ref b) c = (lstOf (.ref a) c).bind fun p => (lstOf (.ref b) c).bind fun q => if p.2.length + q.2.length ≤ LINE then some (.ref c.length, c ++ [.lst (p.2 ++ q.2)]) else none := rfl
  rw [this, lstOf_lst h, lstOf_lst g]
  dsimp only [Option.bind_some]
  rw [if_pos (line_ok hl)]
theorem mAppend_ {a : Nat} {xs : List D} {y : D} {c : Cells} (h : c[a]? = some (.lst xs)) (hl : xs.length < 10000) : mAppend (.ref a) [y] c = some (.non, c.set a (.lst (xs ++ [y]))) := by
  have : mAppend (.ref a) [y] c = (lstOf (.ref a) c).bind fun l => if l.2.length < LINE then some (.non, c.set l.1 (.lst (l.2 ++ [y]))) else none := rfl
  rw [this, lstOf_lst h]
  dsimp only [Option.bind_some]
  rw [if_pos (Nat.lt_of_lt_of_le hl (line_ok (Nat.le_refl _)))]
theorem line0 : 0 ≤ LINE := Nat.zero_le _
theorem get_new {c : Cells} {z : Cell} : (c ++ [z])[c.length]? = some z := by simp
theorem Lf.store {l : Nat} {m : Int} {c : Cells} (h : Lf l m c) {σ : Qm.Env} (hσ : σ[0]? = some (some (.ref l))) : ∃ c', sAsg (e2 gAdd (e2 gIx (eV 0) (eC (.int 2))) (eC (.int 2))) (gPut (eV 0) (eC (.int 2))) σ c = some (.nx, σ, c') ∧ Lf l (m + 2) c' ∧ Kq [l] c c' := by
  have hlt := h.lt
  obtain ⟨a, b, hc⟩ := h
  have s1 := seqOf_lst hc
  have l1 := lstOf_lst hc
  refine ⟨c.set l (.lst [.int a, .int b, .int (m + 2)]), ?_, ⟨a, b, by simp [hlt]⟩, Kq.set (by simp)⟩
  simp [hσ, gIx_, s1, gPut, l1, ixD]
theorem Lf.ix {l : Nat} {m : Int} {c : Cells} (h : Lf l m c) : gIx (.ref l) (.int 2) c = some (.int m, c) := by
  obtain ⟨a, b, hc⟩ := h
  rw [gIx_, seqOf_lst hc]
  simp
def Out (N : Int) (l w : Nat) (m : Int) (c : Cells) (o : Option (D × Cells)) : Prop := ∃ s t m' ws' c' ss, o = some (.tup [.ref s, t], c') ∧ Tr (m' - m).toNat t ∧ m + 2 ≤ m' ∧ m' ≤ 26 ∧ St N l w m' ws' c' ∧ c'[s]? = some (.lst ss) ∧ c.length ≤ s ∧ (ss.length : Int) + 1 ≤ 4 * (m' - m) ∧ Kq [l, w] c c'
def ThOk (F : FN) (r : Nat) : Prop := ∀ N l w m ws c, St N l w m ws c → m ≤ 24 → Out N l w m c (F [.ref l, .ref w, .int r] c)
def BuOk (F : FN) (r : Nat) (x : Str) : Prop := ∀ N l w m ws c, St N l w m ws c → m ≤ 24 → Out N l w m c (F [.ref l, .ref w, .int r, .str x] c)
theorem St.wlt {N : Int} {l w : Nat} {m : Int} {ws : List (Str × Str)} {c : Cells} (h : St N l w m ws c) : w < c.length := get_lt h.at_
theorem leaf_ {N : Int} {l w : Nat} {m : Int} {ws : List (Str × Str)} {c : Cells} {r g : D} {gi : Int} (hg : g = .int gi) (h : St N l w m ws c) (hm : m ≤ 26) : ∃ P x y c',
    (sSeq (sSet 4 (eLst (aCons (eCall F_law_word [] (aCons (eV 0) aNil)) (aCons (eCall F_law_word [] (aCons (eV 0) aNil)) aNil))))
      (sSeq (sIf (tAnd (tV (e2 gEq (e2 gMod (eV 3) (eC (.int 2))) (eC (.int 1)))) (tV (e2 gNe (eV 1) (eLst aNil))))
      (sSet 4 (eB bList (aCons (e2 gIx (eV 1) (eCall F_law_take [] (aCons (eV 0) (aCons (eB bLen (aCons (eV 1) aNil)) aNil)))) aNil)))
      sNil)
      (sSeq (sExpr (eM mAppend (eV 1) (aCons (eTup (aCons (e2 gIx (eV 4) (eC (.int 0))) (aCons (e2 gIx (eV 4) (eC (.int 1))) aNil))) aNil)))
      (sRet (eTup (aCons (eV 4) (aCons (eTup (aCons (eC (.str "is")) (aCons (e2 gIx (eV 4) (eC (.int 0))) (aCons (e2 gIx (eV 4) (eC (.int 1))) aNil)))) aNil))))))) [some (.ref l), some (.ref w), some r, some g, none, none, none] c = some (.rt (.tup [.ref P, .tup [.str "is", .str x, .str y]]), [some (.ref l), some (.ref w), some r, some g, some (.ref P), none, none], c')
      ∧ Wd x ∧ Wd y ∧ Lf l m c' ∧ c'[w]? = some (.lst ((ws ++ [(x, y)]).map pr)) ∧ c'[P]? = some (.lst [.str x, .str y]) ∧ c.length ≤ P ∧ Kq [l, w] c c' := by
  subst hg
  obtain ⟨x1, c1, e1, w1, p1, k1⟩ := word_ h.lf
  obtain ⟨x2, c2, e2, w2, p2, k2⟩ := word_ p1
  have h2 : St N l w m ws c2 := h.keep (k1.trans k2) p2
  have hwl := h2.wlt
  have hll := h2.lf.lt
  have hc2 := (k1.trans k2).len
  have step : ∃ P x y c6, sIf (tAnd (tV (Qm.e2 gEq (Qm.e2 gMod (eV 3) (eC (.int 2))) (eC (.int 1)))) (tV (Qm.e2 gNe (eV 1) (eLst aNil))))
      (sSet 4 (eB bList (aCons (Qm.e2 gIx (eV 1) (eCall F_law_take [] (aCons (eV 0) (aCons (eB bLen (aCons (eV 1) aNil)) aNil)))) aNil)))
      sNil [some (.ref l), some (.ref w), some r, some (.int gi), some (.ref c2.length), none, none] (c2 ++ [.lst [.str x1, .str x2]]) = some (.nx, [some (.ref l), some (.ref w), some r, some (.int gi), some (.ref P), none, none], c6)
      ∧ c6[P]? = some (.lst [.str x, .str y]) ∧ Wd x ∧ Wd y ∧ St N l w m ws c6 ∧ c2.length ≤ P ∧ Kq [l] c2 c6 := by
    have h3 : St N l w m ws (c2 ++ [.lst [.str x1, .str x2]]) := h2.more
    by_cases g1 : gi % 2 = 1
    · have h4 : St N l w m ws (c2 ++ [.lst [.str x1, .str x2]] ++ [.lst []]) := h3.more
      have n1 := gNe_nil (n := (c2 ++ [Cell.lst [.str x1, .str x2]]).length) h4.at_ h4.wd get_new
      by_cases hw : ws = []
      · have hwd : decide (ws ≠ []) = false := decide_eq_false (fun e => e hw)
        rw [hwd] at n1
        refine ⟨c2.length, x1, x2, c2 ++ [.lst [.str x1, .str x2]] ++ [.lst []], ?_, get_app get_new, w1, w2, h4, Nat.le_refl _, Kq.more.trans Kq.more⟩
        erw [g1, line0, n1]
      · have hwd : decide (ws ≠ []) = true := decide_eq_true hw
        rw [hwd] at n1
        have hpos : 0 < ws.length := by cases ws with
          | nil => exact absurd rfl hw
          | cons a b => simp
        have hlen := h4.len
        have hbig := h4.big
        have hm0 := h4.m0
        obtain ⟨i, c5, e5, i0, i1, p5, k5⟩ := take_ h4.lf (k := (ws.length : Int)) (by omega) (by omega)
        have h5 := h4.keep k5 p5
        have s4 := seqOf_lst h4.at_
        have s5 := seqOf_lst h5.at_
        obtain ⟨d, ed, hd⟩ := atD_of (xs := ws.map pr) i0 (by simpa using i1)
        obtain ⟨p, hp, rfl⟩ := List.mem_map.mp hd
        have e5' : F_law_take [.ref l, .int ((ws.map pr).length : Int)] (c2 ++ [.lst [.str x1, .str x2]] ++ [.lst []]) = some (.int i, c5) := by rw [List.length_map]; exact e5
        have kk : Kq [l] c2 c5 := Kq.more.trans (Kq.more.trans k5)
        refine ⟨c5.length, p.1, p.2, c5 ++ [.lst [.str p.1, .str p.2]], ?_, get_new, (h5.wd p hp).1, (h5.wd p hp).2, h5.more, kk.len, kk.trans Kq.more⟩
        have bl : bList [pr p] c5 = some (.ref c5.length, c5 ++ [.lst [.str p.1, .str p.2]]) := rfl
        erw [g1, line0, n1, bLen_, s4, e5', gIx_, s5, ed, bl]
    · exact ⟨c2.length, x1, x2, c2 ++ [.lst [.str x1, .str x2]], by erw [g1], get_new, w1, w2, h3, Nat.le_refl _, Kq.more⟩
  obtain ⟨P, x, y, c6, f1, q1, wx, wy, h6, hP, k6⟩ := step
  have sP := seqOf_lst q1
  have hPw : P ≠ w := by omega
  have hPl : P ≠ l := by omega
  have hlen6 := h6.len
  have hbig6 := h6.big
  have ap := mAppend_ (y := .tup [.str x, .str y]) h6.at_ (by rw [List.length_map]; omega)
  have l6 := lstOf_lst h6.at_
  have hw6 := h6.wlt
  refine ⟨P, x, y, c6.set w (.lst (ws.map pr ++ [.tup [.str x, .str y]])), ?_, wx, wy, ?_, ?_, ?_, by omega, (((k1.trans k2).trans k6).two).trans (Kq.set (by simp))⟩
  · refine sSeq_of (σ1 := [some (.ref l), some (.ref w), some r, some (.int gi), some (.ref c2.length), none, none]) (c1 := c2 ++ [.lst [.str x1, .str x2]]) (by erw [e1, e2]) ?_
    refine sSeq_of f1 ?_
    have sP' : seqOf (.ref P) (c6.set w (.lst (ws.map pr ++ [.tup [.str x, .str y]]))) = some [.str x, .str y] := seqOf_lst (by rw [List.getElem?_set, if_neg (fun e => hPw e.symm)]; exact q1)
    refine sSeq_of (σ1 := [some (.ref l), some (.ref w), some r, some (.int gi), some (.ref P), none, none]) (c1 := c6.set w (.lst (ws.map pr ++ [.tup [.str x, .str y]]))) (by erw [gIx_, sP, l6, ap]) ?_
    erw [gIx_, sP']
  · exact h6.lf.keep (Kq.set (S := [w]) (by simp)) (by simpa using h6.ne)
  · rw [List.getElem?_set, if_pos rfl, if_pos hw6]
    simp [pr]
  · rw [List.getElem?_set, if_neg (fun e => hPw e.symm)]; exact q1
theorem thing_ {T B : FN} {r : Nat} (hT : ∀ q, r = q + 1 → ThOk T q) (hB : ∀ q, r = q + 1 → BuOk B q "or") : ThOk (mkF 3 7 (B_law_thing T B)) r := by
  intro N l w m ws c h hm
  obtain ⟨g, c1, e1, g0, g1, p1, k1⟩ := take_ h.lf (k := 8) (by decide) (by decide)
  obtain ⟨c2, e2, p2, k2⟩ := p1.store (σ := [some (.ref l), some (.ref w), some (.int r), some (.int g), none, none, none]) rfl
  have hlen := h.len
  have hbig := h.big
  have hm0 := h.m0
  have kk := k1.trans k2
  have h2 : St N l w (m + 2) ws c2 := ⟨p2, (kk.get h.at_ (by simpa using fun e => h.ne e.symm)), h.wd, h.ne, by omega, h.big, by have := h.m0; omega⟩
  have hl2 := h2.lf.lt
  have hw2 := h2.wlt
  have ht : tOr (tV (Qm.e2 gLt (eV 3) (eC (.int 4)))) (tOr (tV (Qm.e2 gLt (eV 2) (eC (.int 1)))) (tV (Qm.e2 gGt (Qm.e2 gIx (eV 0) (eC (.int 2))) (eC (.int 24))))) [some (.ref l), some (.ref w), some (.int r), some (.int g), none, none, none] c2 = some (decide (g < 4 ∨ (r : Int) < 1 ∨ 24 < m + 2), c2) := by
    have ix := p2.ix
    by_cases a1 : g < 4 <;> by_cases a2 : (r : Int) < 1 <;> by_cases a3 : 24 < m + 2 <;> erw [a1, a2, a3, ix, true_or, or_true, or_false, false_or]
  have start : ∀ {R : Option (Fl × Qm.Env × Cells)}, (sSeq (sIf (tOr (tV (Qm.e2 gLt (eV 3) (eC (.int 4)))) (tOr (tV (Qm.e2 gLt (eV 2) (eC (.int 1)))) (tV (Qm.e2 gGt (Qm.e2 gIx (eV 0) (eC (.int 2))) (eC (.int 24)))))) (sSeq (sSet 4 (eLst (aCons (eCall F_law_word [] (aCons (eV 0) aNil)) (aCons (eCall F_law_word [] (aCons (eV 0) aNil)) aNil))))
      (sSeq (sIf (tAnd (tV (Qm.e2 gEq (Qm.e2 gMod (eV 3) (eC (.int 2))) (eC (.int 1)))) (tV (Qm.e2 gNe (eV 1) (eLst aNil))))
      (sSet 4 (eB bList (aCons (Qm.e2 gIx (eV 1) (eCall F_law_take [] (aCons (eV 0) (aCons (eB bLen (aCons (eV 1) aNil)) aNil)))) aNil)))
      sNil)
      (sSeq (sExpr (eM mAppend (eV 1) (aCons (eTup (aCons (Qm.e2 gIx (eV 4) (eC (.int 0))) (aCons (Qm.e2 gIx (eV 4) (eC (.int 1))) aNil))) aNil)))
      (sRet (eTup (aCons (eV 4) (aCons (eTup (aCons (eC (.str "is")) (aCons (Qm.e2 gIx (eV 4) (eC (.int 0))) (aCons (Qm.e2 gIx (eV 4) (eC (.int 1))) aNil)))) aNil))))))) sNil)
      (sSeq (sIf (tV (Qm.e2 gEq (eV 3) (eC (.int 4))))
      (sRet (eTup (aCons (eLst (aCons (eC (.str "any")) aNil)) (aCons (eTup (aCons (eC (.str "any")) aNil)) aNil))))
      sNil)
      (sSeq (sIf (tV (Qm.e2 gEq (eV 3) (eC (.int 5))))
      (sSeq (sAsg (eCall T [] (aCons (eV 0) (aCons (eV 1) (aCons (Qm.e2 gSub (eV 2) (eC (.int 1))) aNil)))) (gTup 2 (gCons (gName 5) (gCons (gName 6) gNil))))
      (sRet (eTup (aCons (Qm.e2 gAdd (eLst (aCons (eC (.str "not")) aNil)) (eV 5)) (aCons (eTup (aCons (eC (.str "not")) (aCons (eV 6) aNil))) aNil)))))
      sNil)
      (sSeq (sAsg (eCall B [] (aCons (eV 0) (aCons (eV 1) (aCons (Qm.e2 gSub (eV 2) (eC (.int 1))) (aCons (eC (.str "or")) aNil))))) (gTup 2 (gCons (gName 5) (gCons (gName 6) gNil))))
      (sRet (eTup (aCons (Qm.e2 gAdd (Qm.e2 gAdd (eLst (aCons (eC (.str "(")) aNil)) (eV 5)) (eLst (aCons (eC (.str ")")) aNil))) (aCons (eV 6) aNil)))))))) [some (.ref l), some (.ref w), some (.int r), some (.int g), none, none, none] c2 = R → mkF 3 7 (B_law_thing T B) [.ref l, .ref w, .int r] c = R.bind fin := by
    intro R hR
    rw [mkF_, if_pos (show [D.ref l, D.ref w, D.int r].length = 3 from rfl)]
    congr 1
    unfold B_law_thing
    show sSeq _ _ [some (.ref l), some (.ref w), some (.int r), none, none, none, none] c = R
    refine sSeq_of (σ1 := [some (.ref l), some (.ref w), some (.int r), some (.int g), none, none, none]) (c1 := c1) (by erw [e1]) ?_
    refine sSeq_of e2 ?_
    exact hR
  by_cases lf : g < 4 ∨ (r : Int) < 1 ∨ 24 < m + 2
  · obtain ⟨P, x, y, c', f1, wx, wy, q1, q2, q3, q4, q5⟩ := leaf_ (r := .int r) (g := .int g) rfl h2 (by omega)
    rw [decide_eq_true lf] at ht
    have run := start (by
      refine Eq.trans (b := some (.rt (.tup [.ref P, .tup [.str "is", .str x, .str y]]), [some (.ref l), some (.ref w), some (.int r), some (.int g), some (.ref P), none, none], c')) ?_ rfl
      rw [sSeq_, sIf_, ht, Option.bind_some, if_pos rfl, f1]
      rfl)
    refine ⟨P, .tup [.str "is", .str x, .str y], m + 2, ws ++ [(x, y)], c', [.str x, .str y], run, ?_, by omega, by omega, ⟨q1, q2, ?_, h.ne, ?_, h.big, by have := h.m0; omega⟩, q3, by have := kk.len; omega, ?_, kk.two.trans q5⟩
    · rw [show (m + 2 - m).toNat = 1 + 1 by omega]; exact .is wx wy
    · intro p hp
      rcases List.mem_append.mp hp with hp | hp
      · exact h.wd p hp
      · rw [List.mem_singleton.mp hp]; exact ⟨wx, wy⟩
    · rw [List.length_append]; simp only [List.length_cons, List.length_nil]; omega
    · simp only [List.length_cons, List.length_nil]; omega
  · rw [decide_eq_false lf] at ht
    obtain ⟨q, rfl⟩ : ∃ q, r = q + 1 := ⟨r - 1, by omega⟩
    have er : ((q + 1 : Nat) : Int) - 1 = (q : Int) := by omega
    by_cases g4 : g = 4
    · subst g4
      have run := start (R := some (.rt (.tup [.ref c2.length, .tup [.str "any"]]), [some (.ref l), some (.ref w), some (.int (q + 1 : Nat)), some (.int 4), none, none, none], c2 ++ [.lst [.str "any"]])) (by
        rw [sSeq_, sIf_, ht, Option.bind_some, if_neg Bool.false_ne_true]
        erw [])
      refine ⟨c2.length, .tup [.str "any"], m + 2, ws, c2 ++ [Cell.lst [D.str "any"]], [D.str "any"], run, ?_, by omega, by omega, h2.more, get_new, kk.len, ?_, kk.two.trans Kq.more⟩
      · rw [show (m + 2 - m).toNat = 1 + 1 by omega]; exact .any
      · simp only [List.length_cons, List.length_nil]; omega
    by_cases g5 : g = 5
    · subst g5
      obtain ⟨s, t, m', ws', c', ss, f1, ft, fm, fm', fS, fs, fl, fn, fk⟩ := hT q rfl N l w (m + 2) ws c2 h2 (by omega)
      have ha := gAdd_ref (c := c' ++ [.lst [.str "not"]]) (a := c'.length) (b := s) (xs := [.str "not"]) (ys := ss) get_new (get_app fs) (by simp only [List.length_cons, List.length_nil]; omega)
      simp only [List.cons_append, List.nil_append] at ha
      have run := start (R := some (.rt (.tup [.ref (c' ++ [Cell.lst [.str "not"]]).length, .tup [.str "not", t]]), [some (.ref l), some (.ref w), some (.int (q + 1 : Nat)), some (.int 5), none, some (.ref s), some t], c' ++ [.lst [.str "not"]] ++ [.lst (.str "not" :: ss)])) (by
        rw [sSeq_, sIf_, ht, Option.bind_some, if_neg Bool.false_ne_true]
        erw [er, f1, ha])
      refine ⟨_, .tup [.str "not", t], m', ws', _, .str "not" :: ss, run, ?_, by omega, by omega, fS.more.more, get_new, ?_, ?_, (kk.two.trans fk).trans (Kq.more.trans Kq.more)⟩
      · rw [show (m' - m).toNat = ((m' - m).toNat - 1) + 1 by omega]; exact .not (ft.mono (by omega))
      · have := kk.len; have := fk.len; rw [List.length_append]; omega
      · simp only [List.length_cons, List.length_nil]; omega
    · obtain ⟨s, t, m', ws', c', ss, f1, ft, fm, fm', fS, fs, fl, fn, fk⟩ := hB q rfl N l w (m + 2) ws c2 h2 (by omega)
      have ha := gAdd_ref (c := c' ++ [.lst [.str "("]]) (a := c'.length) (b := s) (xs := [.str "("]) (ys := ss) get_new (get_app fs) (by simp only [List.length_cons, List.length_nil]; omega)
      have hb := gAdd_ref (c := c' ++ [.lst [.str "("]] ++ [.lst (.str "(" :: ss)] ++ [.lst [.str ")"]]) (a := (c' ++ [Cell.lst [.str "("]]).length) (b := (c' ++ [Cell.lst [.str "("]] ++ [Cell.lst (.str "(" :: ss)]).length) (xs := .str "(" :: ss) (ys := [.str ")"]) (get_app get_new) get_new (by simp only [List.length_cons, List.length_nil]; omega)
      simp only [List.cons_append, List.nil_append] at ha hb
      have run := start (R := some (.rt (.tup [.ref (c' ++ [Cell.lst [.str "("]] ++ [Cell.lst (.str "(" :: ss)] ++ [Cell.lst [.str ")"]]).length, t]), [some (.ref l), some (.ref w), some (.int (q + 1 : Nat)), some (.int g), none, some (.ref s), some t], c' ++ [.lst [.str "("]] ++ [.lst (.str "(" :: ss)] ++ [.lst [.str ")"]] ++ [.lst (.str "(" :: (ss ++ [.str ")"]))])) (by
        rw [sSeq_, sIf_, ht, Option.bind_some, if_neg Bool.false_ne_true]
        erw [er, f1, g4, g5, ha, hb])
      refine ⟨_, t, m', ws', _, .str "(" :: (ss ++ [.str ")"]), run, ft.mono (by omega), by omega, by omega, fS.more.more.more.more, get_new, ?_, ?_, (kk.two.trans fk).trans (Kq.more.trans (Kq.more.trans (Kq.more.trans Kq.more)))⟩
      · have := kk.len; have := fk.len; rw [List.length_append, List.length_append, List.length_append]; omega
      · simp only [List.length_append, List.length_cons, List.length_nil]; omega
theorem built0_ {T B : FN} {r : Nat} (hT : ThOk T r) : BuOk (mkF 4 10 (B_law_built T B)) r "" := by
  intro N l w m ws c h hm
  obtain ⟨s, t, m', ws', c', ss, f1, rest⟩ := hT N l w m ws c h hm
  refine ⟨s, t, m', ws', c', ss, ?_, rest⟩
  have e0 := gEq_str (x := "") (y := "") (c := c) (ok_of (by decide)) (ok_of (by decide))
  have e1 : decide (("" : Str) = "") = true := by decide
  rw [e1] at e0
  rw [mkF_, B_law_built]
  erw [e0, f1]
noncomputable def LoopB (x : Str) (B : FN) : XS := (sIf (tV (e2 gLt (e2 gIx (eV 0) (eC (.int 2))) (eC (.int 24))))
      (sSeq (sAsg (eCall B [] (aCons (eV 0) (aCons (eV 1) (aCons (eV 2) (aCons (eV 4) aNil))))) (gTup 2 (gCons (gName 8) (gCons (gName 9) gNil))))
      (sSeq (sSet 5 (e2 gAdd (e2 gAdd (eV 5) (eLst (aCons (eV 3) aNil))) (eV 8)))
      (sSet 6 (eTup (aCons (eV 3) (aCons (eV 6) (aCons (eV 9) aNil)))))))
      sNil)
theorem built_ {T B : FN} {r : Nat} {x y : Str} (hxe : decide (x = "") = false) (hok : x.cps.all (fun k => decide (k < 1114112)) = true)
    (hd : ∀ (σ : Qm.Env) (c : Cells), σ[3]? = some (some (.str x)) → eDIx (eDisp2 "or" "and" "and" "") (eV 3) σ c = some (.str y, c ++ [.dct [("or", .str "and"), ("and", .str "")]]))
    (hx : ∀ (n : Nat) (t u : D), Tr n t → Tr n u → Tr (n + 1) (.tup [.str x, t, u])) (hB : BuOk B r y) : BuOk (mkF 4 10 (B_law_built T B)) r x := by
  intro N l w m ws c h hm
  have h1 : St N l w m ws (c ++ [.dct [("or", .str "and"), ("and", .str "")]]) := h.more
  obtain ⟨s, t, m1, ws1, c2, ss, f1, ft, fm, fm', fS, fs, fl, fn, fk⟩ := hB N l w m ws _ h1 hm
  have k2 : Kq [l, w] c c2 := Kq.more.trans fk
  have fS3 : St N l w m1 ws1 (c2 ++ [.lst ([0, 0, 0, 1, 1, 2, 0, 5].map D.int)]) := fS.more
  obtain ⟨g, c4, e4, g0, g1, p4, k4⟩ := take_ fS3.lf (k := 8) (by decide) (by decide)
  have S4 := fS3.keep k4 p4
  have hl2 := fS.lf.lt
  have q4 : c4[c2.length]? = some (.lst ([0, 0, 0, 1, 1, 2, 0, 5].map D.int)) := k4.get get_new (by simp; omega)
  obtain ⟨d, ed, hdm⟩ := atD_of (xs := [0, 0, 0, 1, 1, 2, 0, 5].map D.int) g0 (by simpa using g1)
  obtain ⟨n, hn, rfl⟩ := List.mem_map.mp hdm
  have hn2 : ∀ n ∈ ([0, 0, 0, 1, 1, 2, 0, 5] : List Int), 0 ≤ n ∧ n ≤ 5 := by decide
  have hn3 := hn2 n hn
  have s4 := seqOf_lst q4
  have kk4 : Kq [l, w] c c4 := k2.trans (Kq.more.trans k4.two)
  have hll := h.lf.lt
  have hww := h.wlt
  have hlen := h.len
  have hm0 := h.m0
  have hcl : c.length ≤ s := by rw [List.length_append] at fl; omega
  have hs4 : c4[s]? = some (.lst ss) := k4.get (get_app fs) (by simp; omega)
  simp only [List.map_cons, List.map_nil] at e4 s4 ed
  have hr : iRng1 (aCons (e2 gIx (eLst (aCons (eC (.int 0)) (aCons (eC (.int 0)) (aCons (eC (.int 0)) (aCons (eC (.int 1)) (aCons (eC (.int 1)) (aCons (eC (.int 2)) (aCons (eC (.int 0)) (aCons (eC (.int 5)) aNil))))))))) (eCall F_law_take [] (aCons (eV 0) (aCons (eC (.int 8)) aNil)))) aNil) [some (.ref l), some (.ref w), some (.int r), some (.str x), some (.str y), some (.ref s), some t, none, none, none] c2 = some (⟨rng 0 n.toNat, []⟩, c4) := iRng1' (j := n) (by erw [e4, gIx_, s4, ed]) (by omega)
  have key := forGo_inv (ks := []) (g := gName 7) (body := LoopB x B)
    (fun _ σ c' => ∃ s t m' ws' ss k mo ot, σ = [some (.ref l), some (.ref w), some (.int r), some (.str x), some (.str y), some (.ref s), some t, k, mo, ot] ∧ Tr (m' - m).toNat t ∧ m + 2 ≤ m' ∧ m' ≤ 26 ∧ St N l w m' ws' c' ∧ c'[s]? = some (.lst ss) ∧ c.length ≤ s ∧ (ss.length : Int) + 1 ≤ 4 * (m' - m) ∧ Kq [l, w] c c') (rng 0 n.toNat) 0 [some (.ref l), some (.ref w), some (.int r), some (.str x), some (.str y), some (.ref s), some t, none, none, none] c4 (fun _ _ _ _ => stays_nil) (by
      rintro i d σ c' hd' ⟨s, t, m', ws', ss, k, mo, ot, rfl, gt, gm, gm', gS, gs, gl, gn, gk⟩
      obtain ⟨hi, rfl⟩ := rng_at hd'
      have ix := gS.lf.ix
      by_cases hb : m' < 24
      · obtain ⟨s2, t2, m2, ws2, c5, ss2, j1, jt, jm, jm', jS, js, jl, jn, jk⟩ := hB N l w m' ws' c' gS (by omega)
        have hs5 : c5[s]? = some (.lst ss) := jk.get gs (by simp; omega)
        have a1 := gAdd_ref (c := c5 ++ [.lst [.str x]]) (a := s) (b := c5.length) (xs := ss) (ys := [.str x]) (get_app hs5) get_new (by simp only [List.length_cons, List.length_nil]; omega)
        have a2 := gAdd_ref (c := c5 ++ [.lst [.str x]] ++ [.lst (ss ++ [.str x])]) (a := (c5 ++ [Cell.lst [.str x]]).length) (b := s2) (xs := ss ++ [.str x]) (ys := ss2) get_new (get_app (get_app js)) (by simp only [List.length_append, List.length_cons, List.length_nil]; omega)
        refine ⟨_, c', [some (.ref l), some (.ref w), some (.int r), some (.str x), some (.str y), some (.ref (c5 ++ [Cell.lst [.str x]] ++ [Cell.lst (ss ++ [.str x])]).length), some (.tup [.str x, t, t2]), some (.int (0 + (i : Int))), some (.ref s2), some t2], c5 ++ [.lst [.str x]] ++ [.lst (ss ++ [.str x])] ++ [.lst (ss ++ [.str x] ++ ss2)], rfl, ?_, ⟨_, _, m2, ws2, _, _, _, _, rfl, ?_, by omega, by omega, jS.more.more.more, get_new, ?_, ?_, (gk.trans jk).trans (Kq.more.trans (Kq.more.trans Kq.more))⟩⟩
        · unfold LoopB
          erw [ix, hb, j1, a1, a2]
        · rw [show (m2 - m).toNat = ((m2 - m).toNat - 1) + 1 by omega]
          exact hx _ _ _ (gt.mono (by omega)) (jt.mono (by omega))
        · have := (gk.trans jk).len
          simp only [List.length_append, List.length_cons, List.length_nil]; omega
        · simp only [List.length_append, List.length_cons, List.length_nil]; omega
      · refine ⟨_, c', [some (.ref l), some (.ref w), some (.int r), some (.str x), some (.str y), some (.ref s), some t, some (.int (0 + (i : Int))), mo, ot], c', rfl, ?_, ⟨s, t, m', ws', ss, _, _, _, rfl, gt, gm, gm', gS, gs, gl, gn, gk⟩⟩
        unfold LoopB
        erw [ix, hb]) ⟨s, t, m1, ws1, ss, none, none, none, rfl, ft, fm, fm', S4, hs4, hcl, fn, kk4⟩
  obtain ⟨σ', c', e', s', t', m', ws', ss', k, mo, ot, rfl, gt, gm, gm', gS, gs, gl, gn, gk⟩ := key
  refine ⟨s', t', m', ws', c', ss', ?_, gt, gm, gm', gS, gs, gl, gn, gk⟩
  have f2 : sFor (iRng1 (aCons (e2 gIx (eLst (aCons (eC (.int 0)) (aCons (eC (.int 0)) (aCons (eC (.int 0)) (aCons (eC (.int 1)) (aCons (eC (.int 1)) (aCons (eC (.int 2)) (aCons (eC (.int 0)) (aCons (eC (.int 5)) aNil))))))))) (eCall F_law_take [] (aCons (eV 0) (aCons (eC (.int 8)) aNil)))) aNil)) (gName 7) (LoopB x B) [some (.ref l), some (.ref w), some (.int r), some (.str x), some (.str y), some (.ref s), some t, none, none, none] c2 = some (.nx, [some (.ref l), some (.ref w), some (.int r), some (.str x), some (.str y), some (.ref s'), some t', k, mo, ot], c') := by rw [sFor_ hr]; exact e'
  have e0 := gEq_str (x := x) (y := "") (c := c) hok (ok_of (by decide))
  rw [hxe] at e0
  have run : B_law_built T B [some (.ref l), some (.ref w), some (.int r), some (.str x), none, none, none, none, none, none] c = some (.rt (.tup [.ref s', t']), [some (.ref l), some (.ref w), some (.int r), some (.str x), some (.str y), some (.ref s'), some t', k, mo, ot], c') := by
    unfold B_law_built
    refine sSeq_of (σ1 := [some (.ref l), some (.ref w), some (.int r), some (.str x), none, none, none, none, none, none]) (c1 := c) (by erw [e0]) ?_
    refine sSeq_of (σ1 := [some (.ref l), some (.ref w), some (.int r), some (.str x), some (.str y), none, none, none, none, none]) (c1 := c ++ [.dct [("or", .str "and"), ("and", .str "")]]) (by rw [sSet_, hd _ _ rfl]; rfl) ?_
    refine sSeq_of (σ1 := [some (.ref l), some (.ref w), some (.int r), some (.str x), some (.str y), some (.ref s), some t, none, none, none]) (c1 := c2) (by erw [f1]) ?_
    refine sSeq_of f2 ?_
    erw []
  erw [run]
theorem disp_or (σ : Qm.Env) (c : Cells) (h : σ[3]? = some (some (.str "or"))) : eDIx (eDisp2 "or" "and" "and" "") (eV 3) σ c = some (.str "and", c ++ [.dct [("or", .str "and"), ("and", .str "")]]) := by
  have h2 : dAt [(("or" : Str), D.str "and"), (("and" : Str), D.str "")] "or" = some (.str "and") := rfl
  simp [eDIx, eDisp2, h, dcOf, asS, h2]
theorem disp_and (σ : Qm.Env) (c : Cells) (h : σ[3]? = some (some (.str "and"))) : eDIx (eDisp2 "or" "and" "and" "") (eV 3) σ c = some (.str "", c ++ [.dct [("or", .str "and"), ("and", .str "")]]) := by
  have h2 : dAt [(("or" : Str), D.str "and"), (("and" : Str), D.str "")] "and" = some (.str "") := rfl
  simp [eDIx, eDisp2, h, dcOf, asS, h2]
theorem all_ : ∀ (r f : Nat), (4 * r + 1 ≤ f → ThOk (R_law_thing_law_built f).1 r) ∧ (4 * r + 2 ≤ f → BuOk (R_law_thing_law_built f).2 r "") ∧ (4 * r + 3 ≤ f → BuOk (R_law_thing_law_built f).2 r "and") ∧ (4 * r + 4 ≤ f → BuOk (R_law_thing_law_built f).2 r "or") := by
  intro r
  induction r with
  | zero =>
    have a1 : ∀ f, 1 ≤ f → ThOk (R_law_thing_law_built f).1 0 := fun f hf => by
      obtain ⟨g, rfl⟩ : ∃ g, f = g + 1 := ⟨f - 1, by omega⟩
      exact thing_ (fun q h => by omega) (fun q h => by omega)
    have a2 : ∀ f, 2 ≤ f → BuOk (R_law_thing_law_built f).2 0 "" := fun f hf => by
      obtain ⟨g, rfl⟩ : ∃ g, f = g + 1 := ⟨f - 1, by omega⟩
      exact built0_ (a1 g (by omega))
    have a3 : ∀ f, 3 ≤ f → BuOk (R_law_thing_law_built f).2 0 "and" := fun f hf => by
      obtain ⟨g, rfl⟩ : ∃ g, f = g + 1 := ⟨f - 1, by omega⟩
      exact built_ (by decide) (ok_of (by decide)) disp_and (fun _ _ _ => .and) (a2 g (by omega))
    have a4 : ∀ f, 4 ≤ f → BuOk (R_law_thing_law_built f).2 0 "or" := fun f hf => by
      obtain ⟨g, rfl⟩ : ∃ g, f = g + 1 := ⟨f - 1, by omega⟩
      exact built_ (by decide) (ok_of (by decide)) disp_or (fun _ _ _ => .or) (a3 g (by omega))
    exact fun f => ⟨a1 f, a2 f, a3 f, a4 f⟩
  | succ r ih =>
    have a1 : ∀ f, 4 * (r + 1) + 1 ≤ f → ThOk (R_law_thing_law_built f).1 (r + 1) := fun f hf => by
      obtain ⟨g, rfl⟩ : ∃ g, f = g + 1 := ⟨f - 1, by omega⟩
      exact thing_ (fun q h => by cases h; exact (ih g).1 (by omega)) (fun q h => by cases h; exact (ih g).2.2.2 (by omega))
    have a2 : ∀ f, 4 * (r + 1) + 2 ≤ f → BuOk (R_law_thing_law_built f).2 (r + 1) "" := fun f hf => by
      obtain ⟨g, rfl⟩ : ∃ g, f = g + 1 := ⟨f - 1, by omega⟩
      exact built0_ (a1 g (by omega))
    have a3 : ∀ f, 4 * (r + 1) + 3 ≤ f → BuOk (R_law_thing_law_built f).2 (r + 1) "and" := fun f hf => by
      obtain ⟨g, rfl⟩ : ∃ g, f = g + 1 := ⟨f - 1, by omega⟩
      exact built_ (by decide) (ok_of (by decide)) disp_and (fun _ _ _ => .and) (a2 g (by omega))
    have a4 : ∀ f, 4 * (r + 1) + 4 ≤ f → BuOk (R_law_thing_law_built f).2 (r + 1) "or" := fun f hf => by
      obtain ⟨g, rfl⟩ : ∃ g, f = g + 1 := ⟨f - 1, by omega⟩
      exact built_ (by decide) (ok_of (by decide)) disp_or (fun _ _ _ => .or) (a3 g (by omega))
    exact fun f => ⟨a1 f, a2 f, a3 f, a4 f⟩
theorem law_built_ : BuOk F_law_built 5 "or" := (all_ 5 60).2.2.2 (by decide)
theorem pre_get {c c' : Cells} {i : Nat} {z : Cell} (h : c <+: c') (hz : c[i]? = some z) : c'[i]? = some z := by
  obtain ⟨t, rfl⟩ := h
  exact get_app hz
theorem compL_go {ks : List (Nat × Cell)} {te : XE} {ρ : Qm.Env} {c : Cells} (hs : stays ks c) : ∀ (ds vs acc : List D) (zs : List Cell) (x : Option D), ds.length = vs.length → (∀ (i : Nat) d v, ds[i]? = some d → vs[i]? = some v → ∀ c', c <+: c' → ∃ ws, te (some d :: ρ) c' = some (v, c' ++ ws)) → acc.length + ds.length ≤ 1000 →
    ∃ zs', compGo c.length ks (gName 0) tYes te ds (x :: ρ) (c ++ .lst acc :: zs) = some (c ++ .lst (acc ++ vs) :: zs')
  | [], vs, acc, zs, x, hl, _, _ => by
    cases vs with
    | nil =>
      have st : stays ks (c ++ .lst acc :: zs) := fun p hp => pre_get ⟨_, rfl⟩ (hs p hp)
      refine ⟨zs, ?_⟩
      unfold compGo
      rw [if_pos st]
      simp
    | cons v vs => simp at hl
  | d :: ds, vs, acc, zs, x, hl, hv, hn => by
    cases vs with
    | nil => simp at hl
    | cons v vs =>
      have st : stays ks (c ++ .lst acc :: zs) := fun p hp => pre_get ⟨_, rfl⟩ (hs p hp)
      rw [List.length_cons] at hn
      obtain ⟨ws, f2⟩ := hv 0 d v rfl rfl (c ++ .lst acc :: zs) ⟨_, rfl⟩
      have f3 : (c ++ .lst acc :: zs ++ ws)[c.length]? = some (.lst acc) := by simp
      have f4 : (c ++ .lst acc :: zs ++ ws).set c.length (.lst (acc ++ [v])) = c ++ .lst (acc ++ [v]) :: (zs ++ ws) := by simp
      obtain ⟨zs', f5⟩ := compL_go hs ds vs (acc ++ [v]) (zs ++ ws) (some d) (by simpa using hl) (fun i d' v' h1 h2 => hv (i + 1) d' v' (by simpa using h1) (by simpa using h2)) (by simp only [List.length_append, List.length_cons, List.length_nil]; omega)
      refine ⟨zs', ?_⟩
      unfold compGo
      rw [if_pos st]
      have f1 : tYes (some d :: ρ) (c ++ .lst acc :: zs) = some (true, c ++ .lst acc :: zs) := rfl
      simp only [gName_, List.set_cons_zero, Option.bind_some, f1, if_true, f2, f3, f4]
      rw [if_pos (Nat.lt_of_lt_of_le (show acc.length < 10000 by omega) (line_ok (Nat.le_refl _))), f5]
      simp
theorem compL {it : XI} {cap : List (Option Nat)} {te : XE} {σ ρ : Qm.Env} {x : Option D} {c : Cells} {ds : List D} (vs : List D) (hi : it σ c = some (⟨ds, []⟩, c)) (hc : capt σ cap = x :: ρ) (hl : ds.length = vs.length) (hv : ∀ (i : Nat) d v, ds[i]? = some d → vs[i]? = some v → ∀ c', c <+: c' → ∃ ws, te (some d :: ρ) c' = some (v, c' ++ ws)) (hn : ds.length ≤ 1000) :
    ∃ c', eComp it cap (gName 0) tYes te σ c = some (.ref c.length, c') ∧ c <+: c' ∧ c'[c.length]? = some (.lst vs) := by
  obtain ⟨zs, e⟩ := compL_go (te := te) (ρ := ρ) (ks := []) (c := c) stays_nil ds vs [] [] x hl hv (by simp; omega)
  refine ⟨c ++ .lst vs :: zs, ?_, ⟨_, rfl⟩, by simp⟩
  unfold eComp
  rw [hi, Option.bind_some]
  dsimp only
  rw [hc, e]
  rfl
theorem kq_is_is {c : Cells} : gEq (.str "is") (.str "is") c = some (.bl true, c) := by
  rw [gEq_str (ok_of (by decide)) (ok_of (by decide))]; rfl
theorem kq_any_is {c : Cells} : gEq (.str "any") (.str "is") c = some (.bl false, c) := by
  rw [gEq_str (ok_of (by decide)) (ok_of (by decide))]; rfl
theorem kq_any_not {c : Cells} : gEq (.str "any") (.str "not") c = some (.bl false, c) := by
  rw [gEq_str (ok_of (by decide)) (ok_of (by decide))]; rfl
theorem kq_any_and {c : Cells} : gEq (.str "any") (.str "and") c = some (.bl false, c) := by
  rw [gEq_str (ok_of (by decide)) (ok_of (by decide))]; rfl
theorem kq_any_or {c : Cells} : gEq (.str "any") (.str "or") c = some (.bl false, c) := by
  rw [gEq_str (ok_of (by decide)) (ok_of (by decide))]; rfl
theorem kq_not_is {c : Cells} : gEq (.str "not") (.str "is") c = some (.bl false, c) := by
  rw [gEq_str (ok_of (by decide)) (ok_of (by decide))]; rfl
theorem kq_not_not {c : Cells} : gEq (.str "not") (.str "not") c = some (.bl true, c) := by
  rw [gEq_str (ok_of (by decide)) (ok_of (by decide))]; rfl
theorem kq_and_is {c : Cells} : gEq (.str "and") (.str "is") c = some (.bl false, c) := by
  rw [gEq_str (ok_of (by decide)) (ok_of (by decide))]; rfl
theorem kq_and_not {c : Cells} : gEq (.str "and") (.str "not") c = some (.bl false, c) := by
  rw [gEq_str (ok_of (by decide)) (ok_of (by decide))]; rfl
theorem kq_and_and {c : Cells} : gEq (.str "and") (.str "and") c = some (.bl true, c) := by
  rw [gEq_str (ok_of (by decide)) (ok_of (by decide))]; rfl
theorem kq_and_or {c : Cells} : gEq (.str "and") (.str "or") c = some (.bl false, c) := by
  rw [gEq_str (ok_of (by decide)) (ok_of (by decide))]; rfl
theorem kq_or_is {c : Cells} : gEq (.str "or") (.str "is") c = some (.bl false, c) := by
  rw [gEq_str (ok_of (by decide)) (ok_of (by decide))]; rfl
theorem kq_or_not {c : Cells} : gEq (.str "or") (.str "not") c = some (.bl false, c) := by
  rw [gEq_str (ok_of (by decide)) (ok_of (by decide))]; rfl
theorem kq_or_and {c : Cells} : gEq (.str "or") (.str "and") c = some (.bl false, c) := by
  rw [gEq_str (ok_of (by decide)) (ok_of (by decide))]; rfl
theorem kq_or_or {c : Cells} : gEq (.str "or") (.str "or") c = some (.bl true, c) := by
  rw [gEq_str (ok_of (by decide)) (ok_of (by decide))]; rfl
def Dv (ps : List (Str × D)) : Prop := ∀ p ∈ ps, ∃ y, p.2 = .str y ∧ y.cps.all (fun k => decide (k < 1114112)) = true
theorem dAt_mem {α : Type} {ps : List (Str × α)} {k : Str} {d : α} (h : dAt ps k = some d) : ∃ p ∈ ps, p.2 = d := by
  unfold dAt at h
  cases hf : ps.find? (fun p => decide (p.1 = k)) with
  | none => rw [hf] at h; cases h
  | some p => rw [hf] at h; cases h; exact ⟨p, List.mem_of_find?_eq_some hf, rfl⟩
theorem dcOf_ {n : Nat} {c : Cells} {ps : List (Str × D)} (h : c[n]? = some (.dct ps)) : dcOf (.ref n) c = some (n, ps) := by simp [dcOf, h]
theorem eDGet1_ {o k : XE} {σ : Qm.Env} {c : Cells} {n : Nat} {ps : List (Str × D)} {x : Str} (ho : o σ c = some (.ref n, c)) (hk : k σ c = some (.str x, c)) (h : c[n]? = some (.dct ps)) : eDGet1 o k σ c = some ((dAt ps x).getD .non, c) := by
  unfold eDGet1
  simp [ho, hk, dcOf_ h, asS]
theorem eDGet2_ {o k z : XE} {σ : Qm.Env} {c : Cells} {n : Nat} {ps : List (Str × D)} {x : Str} {d : D} (ho : o σ c = some (.ref n, c)) (hk : k σ c = some (.str x, c)) (hz : z σ c = some (d, c)) (h : c[n]? = some (.dct ps)) : eDGet2 o k z σ c = some ((dAt ps x).getD d, c) := by
  unfold eDGet2
  simp [ho, hk, hz, dcOf_ h, asS]
theorem bAll_ {n : Nat} {bs : List Bool} {c : Cells} (h : c[n]? = some (.lst (bs.map D.bl))) : bAll [.ref n] c = some (.bl (bs.all id), c) := by
  have : bAll [.ref n] c = (lstOf (.ref n) c).bind fun l => (omap asB l.2).bind fun bs => some (.bl (bs.all id), c) := rfl
  have ho : ∀ bs : List Bool, omap asB (bs.map D.bl) = some bs := fun bs => by
    induction bs with
    | nil => rfl
    | cons b bs ih => rw [List.map_cons]; unfold omap; rw [ih]; rfl
  rw [this, lstOf_lst h, Option.bind_some, ho]
  rfl
theorem bAny_ {n : Nat} {bs : List Bool} {c : Cells} (h : c[n]? = some (.lst (bs.map D.bl))) : bAny [.ref n] c = some (.bl (bs.any id), c) := by
  have : bAny [.ref n] c = (lstOf (.ref n) c).bind fun l => (omap asB l.2).bind fun bs => some (.bl (bs.any id), c) := rfl
  have ho : ∀ bs : List Bool, omap asB (bs.map D.bl) = some bs := fun bs => by
    induction bs with
    | nil => rfl
    | cons b bs ih => rw [List.map_cons]; unfold omap; rw [ih]; rfl
  rw [this, lstOf_lst h, Option.bind_some, ho]
  rfl
def HOk (ps : List (Str × D)) (n : Nat) (t : D) (b : Bool) : Prop := ∀ f c d, n ≤ f → c[d]? = some (.dct ps) → R_holds f [t, .ref d] c = some (.bl b, c)
def LOk (ps : List (Str × D)) (n : Nat) (t : D) (b : Bool) : Prop := ∀ f c d, n ≤ f → c[d]? = some (.dct ps) → ∃ zs, R_law_true f [t, .ref d] c = some (.bl b, c ++ zs)
theorem is_ {ps : List (Str × D)} (hv : Dv ps) {n : Nat} {x y : Str} (wy : Wd y) : ∃ b, HOk ps (n + 1) (.tup [.str "is", .str x, .str y]) b ∧ LOk ps (n + 1) (.tup [.str "is", .str x, .str y]) b := by
  have go : ∀ (v1 v2 : D) (b : Bool), (dAt ps x).getD .non = v1 → (dAt ps x).getD (.str "") = v2 → (∀ c, gEq v1 (.str y) c = some (.bl b, c)) → (∀ c, gEq v2 (.str y) c = some (.bl b, c)) → HOk ps (n + 1) (.tup [.str "is", .str x, .str y]) b ∧ LOk ps (n + 1) (.tup [.str "is", .str x, .str y]) b := by
    intro v1 v2 b h1 h2 h3 h4
    constructor
    · intro f c d hf hc
      obtain ⟨g, rfl⟩ : ∃ g, f = g + 1 := ⟨f - 1, by omega⟩
      have e1 : eDGet1 (eV 1) (e2 gIx (eV 0) (eC (.int 1))) [some (.tup [.str "is", .str x, .str y]), some (.ref d), some (.str "is")] c = some (v1, c) := by rw [← h1]; exact eDGet1_ rfl (by erw []) hc
      show mkF 2 3 (B_holds (R_holds g)) _ c = _
      unfold B_holds
      erw [kq_is_is, e1, h3]
    · intro f c d hf hc
      obtain ⟨g, rfl⟩ : ∃ g, f = g + 1 := ⟨f - 1, by omega⟩
      refine ⟨[], ?_⟩
      have e1 : eDGet2 (eV 1) (e2 gIx (eV 0) (eC (.int 1))) (eC (.str "")) [some (.tup [.str "is", .str x, .str y]), some (.ref d), none] c = some (v2, c) := by rw [← h2]; exact eDGet2_ rfl (by erw []) rfl hc
      show mkF 2 3 (B_law_true (R_law_true g)) _ c = _
      unfold B_law_true
      erw [kq_is_is, e1, h4]
  cases hd : dAt ps x with
  | none =>
    refine ⟨false, go .non (.str "") false (by rw [hd]; rfl) (by rw [hd]; rfl) (fun c => gEq_non wy.ok) (fun c => ?_)⟩
    rw [gEq_str (ok_of (by decide)) wy.ok]
    have : (("" : Str) = y) = False := by
      apply eq_false
      intro e
      have := wy.pos
      rw [← e] at this
      exact absurd this (by decide)
    simp [this]
  | some v =>
    obtain ⟨p, hp, rfl⟩ := dAt_mem hd
    obtain ⟨z, hz, oz⟩ := hv p hp
    rw [hz] at hd
    exact ⟨decide (z = y), go (.str z) (.str z) _ (by rw [hd]; rfl) (by rw [hd]; rfl) (fun c => gEq_str oz wy.ok) (fun c => gEq_str oz wy.ok)⟩
theorem any_ {ps : List (Str × D)} {n : Nat} : HOk ps (n + 1) (.tup [.str "any"]) true ∧ LOk ps (n + 1) (.tup [.str "any"]) true := by
  constructor
  · intro f c d hf hc
    obtain ⟨g, rfl⟩ : ∃ g, f = g + 1 := ⟨f - 1, by omega⟩
    show mkF 2 3 (B_holds (R_holds g)) _ c = _
    unfold B_holds
    erw [kq_any_is, kq_any_not, kq_any_and, kq_any_or]
  · intro f c d hf hc
    obtain ⟨g, rfl⟩ : ∃ g, f = g + 1 := ⟨f - 1, by omega⟩
    obtain ⟨c', e, ⟨zs, hp⟩, hq⟩ := compL (it := iTup (eSl gCut (eV 0) (oSome (eC (.int 1))) oNone)) (te := eCall (R_law_true g) [] (aCons (eV 0) (aCons (eV 1) aNil))) (cap := [none, some 1]) (σ := [some (.tup [.str "any"]), some (.ref d), none]) (c := c) (ds := []) [] rfl (show capt [some (.tup [.str "any"]), some (.ref d), none] [none, some 1] = none :: [some (.ref d)] from rfl) rfl (by
      intro i d v g1 _; cases g1) (by decide)
    have q1 := bAll_ (bs := []) hq
    have q2 := bAny_ (bs := []) hq
    refine ⟨zs ++ [.lst [.bl true, .bl false]], ?_⟩
    have s1 : seqOf (.ref c'.length) (c' ++ [.lst [.bl true, .bl false]]) = some [.bl true, .bl false] := seqOf_lst get_new
    show mkF 2 3 (B_law_true (R_law_true g)) _ c = _
    unfold B_law_true
    rw [← List.append_assoc, hp]
    simp only [List.all_nil, List.any_nil] at q1 q2
    erw [kq_any_is, kq_any_not, kq_any_or, e, q1, q2, gIx_, s1]
theorem not_ {ps : List (Str × D)} {n : Nat} {t : D} {b : Bool} (h : HOk ps n t b) (k : LOk ps n t b) : HOk ps (n + 1) (.tup [.str "not", t]) (!b) ∧ LOk ps (n + 1) (.tup [.str "not", t]) (!b) := by
  constructor
  · intro f c d hf hc
    obtain ⟨g, rfl⟩ : ∃ g, f = g + 1 := ⟨f - 1, by omega⟩
    have e := h g c d (by omega) hc
    show mkF 2 3 (B_holds (R_holds g)) _ c = _
    unfold B_holds
    erw [kq_not_is, kq_not_not, e]
  · intro f c d hf hc
    obtain ⟨g, rfl⟩ : ∃ g, f = g + 1 := ⟨f - 1, by omega⟩
    obtain ⟨zs, e⟩ := k g c d (by omega) hc
    refine ⟨zs, ?_⟩
    show mkF 2 3 (B_law_true (R_law_true g)) _ c = _
    unfold B_law_true
    erw [kq_not_is, kq_not_not, e]
theorem pairL {ps : List (Str × D)} {n g d : Nat} {x : Str} {t u : D} {b1 b2 : Bool} {c : Cells} (h1 : LOk ps n t b1) (h2 : LOk ps n u b2) (hg : n ≤ g) (hc : c[d]? = some (.dct ps)) : ∃ c', eComp (iTup (eSl gCut (eV 0) (oSome (eC (.int 1))) oNone)) [none, some 1] (gName 0) tYes (eCall (R_law_true g) [] (aCons (eV 0) (aCons (eV 1) aNil))) [some (.tup [.str x, t, u]), some (.ref d), none] c = some (.ref c.length, c') ∧ c <+: c' ∧ c'[c.length]? = some (.lst ([b1, b2].map D.bl)) :=
  compL (ds := [t, u]) [.bl b1, .bl b2] rfl (show capt [some (.tup [.str x, t, u]), some (.ref d), none] [none, some 1] = none :: [some (.ref d)] from rfl) rfl (by
    intro i a v g1 g2 c' hp
    have hc' := pre_get hp hc
    match i with
    | 0 =>
      cases g1; cases g2
      obtain ⟨zs, e⟩ := h1 g c' d hg hc'
      exact ⟨zs, by erw [e]⟩
    | 1 =>
      cases g1; cases g2
      obtain ⟨zs, e⟩ := h2 g c' d hg hc'
      exact ⟨zs, by erw [e]⟩
    | i + 2 => cases g1) (by simp)
theorem and_ {ps : List (Str × D)} {n : Nat} {t u : D} {b1 b2 : Bool} (h1 : HOk ps n t b1) (h2 : HOk ps n u b2) (k1 : LOk ps n t b1) (k2 : LOk ps n u b2) : HOk ps (n + 1) (.tup [.str "and", t, u]) (b1 && b2) ∧ LOk ps (n + 1) (.tup [.str "and", t, u]) (b1 && b2) := by
  constructor
  · intro f c d hf hc
    obtain ⟨g, rfl⟩ : ∃ g, f = g + 1 := ⟨f - 1, by omega⟩
    have e := h1 g c d (by omega) hc
    have e' := h2 g c d (by omega) hc
    show mkF 2 3 (B_holds (R_holds g)) _ c = _
    unfold B_holds
    cases b1 <;> erw [kq_and_is, kq_and_not, kq_and_and, e, e', Bool.true_and, Bool.false_and, Bool.true_or, Bool.false_or]
  · intro f c d hf hc
    obtain ⟨g, rfl⟩ : ∃ g, f = g + 1 := ⟨f - 1, by omega⟩
    obtain ⟨c', e, ⟨zs, hp⟩, hq⟩ := pairL (x := "and") k1 k2 (show n ≤ g by omega) hc
    have q1 := bAll_ (bs := [b1, b2]) hq
    have q2 := bAny_ (bs := [b1, b2]) hq
    refine ⟨zs ++ [.lst [.bl (b1 && b2), .bl (b1 || b2)]], ?_⟩
    have s1 : seqOf (.ref c'.length) (c' ++ [.lst [.bl (b1 && b2), .bl (b1 || b2)]]) = some [.bl (b1 && b2), .bl (b1 || b2)] := seqOf_lst get_new
    show mkF 2 3 (B_law_true (R_law_true g)) _ c = _
    unfold B_law_true
    rw [← List.append_assoc, hp]
    simp only [List.all_cons, List.any_cons, List.all_nil, List.any_nil, id, Bool.and_true, Bool.or_false] at q1 q2
    erw [kq_and_is, kq_and_not, kq_and_or, e, q1, q2, gIx_, s1]
theorem or_ {ps : List (Str × D)} {n : Nat} {t u : D} {b1 b2 : Bool} (h1 : HOk ps n t b1) (h2 : HOk ps n u b2) (k1 : LOk ps n t b1) (k2 : LOk ps n u b2) : HOk ps (n + 1) (.tup [.str "or", t, u]) (b1 || b2) ∧ LOk ps (n + 1) (.tup [.str "or", t, u]) (b1 || b2) := by
  constructor
  · intro f c d hf hc
    obtain ⟨g, rfl⟩ : ∃ g, f = g + 1 := ⟨f - 1, by omega⟩
    have e := h1 g c d (by omega) hc
    have e' := h2 g c d (by omega) hc
    show mkF 2 3 (B_holds (R_holds g)) _ c = _
    unfold B_holds
    cases b1 <;> erw [kq_or_is, kq_or_not, kq_or_and, kq_or_or, e, e', Bool.true_and, Bool.false_and, Bool.true_or, Bool.false_or]
  · intro f c d hf hc
    obtain ⟨g, rfl⟩ : ∃ g, f = g + 1 := ⟨f - 1, by omega⟩
    obtain ⟨c', e, ⟨zs, hp⟩, hq⟩ := pairL (x := "or") k1 k2 (show n ≤ g by omega) hc
    have q1 := bAll_ (bs := [b1, b2]) hq
    have q2 := bAny_ (bs := [b1, b2]) hq
    refine ⟨zs ++ [.lst [.bl (b1 && b2), .bl (b1 || b2)]], ?_⟩
    have s1 : seqOf (.ref c'.length) (c' ++ [.lst [.bl (b1 && b2), .bl (b1 || b2)]]) = some [.bl (b1 && b2), .bl (b1 || b2)] := seqOf_lst get_new
    show mkF 2 3 (B_law_true (R_law_true g)) _ c = _
    unfold B_law_true
    rw [← List.append_assoc, hp]
    simp only [List.all_cons, List.any_cons, List.all_nil, List.any_nil, id, Bool.and_true, Bool.or_false] at q1 q2
    erw [kq_or_is, kq_or_not, kq_or_or, e, q1, q2, gIx_, s1]
theorem ev_ {ps : List (Str × D)} (hv : Dv ps) : ∀ {n : Nat} {t : D}, Tr n t → ∃ b, HOk ps n t b ∧ LOk ps n t b := by
  intro n t h
  induction h with
  | is wx wy => exact is_ hv wy
  | any => exact ⟨true, any_⟩
  | not _ ih => obtain ⟨b, h, k⟩ := ih; exact ⟨_, not_ h k⟩
  | and _ _ ih1 ih2 => obtain ⟨b1, h1, k1⟩ := ih1; obtain ⟨b2, h2, k2⟩ := ih2; exact ⟨_, and_ h1 h2 k1 k2⟩
  | or _ _ ih1 ih2 => obtain ⟨b1, h1, k1⟩ := ih1; obtain ⟨b2, h2, k2⟩ := ih2; exact ⟨_, or_ h1 h2 k1 k2⟩
def dm (qs : List (Str × Str)) : List (Str × D) := qs.map fun q => (q.1, D.str q.2)
structure QOk (qs : List (Str × Str)) : Prop where
  nd : (qs.map Prod.fst).Nodup
  ok : ∀ q ∈ qs, q.2.cps.all (fun k => decide (k < 1114112)) = true
theorem QOk.dv {qs : List (Str × Str)} (h : QOk qs) : Dv (dm qs) := by
  intro p hp
  obtain ⟨q, hq, rfl⟩ := List.mem_map.mp hp
  exact ⟨q.2, rfl, h.ok q hq⟩
theorem dPut_map {qs : List (Str × Str)} {x y : Str} : dPut (dm qs) x (.str y) = dm (dPut qs x y) := by
  unfold dPut dm
  rw [List.any_map]
  have e : ((fun p : Str × D => decide (p.1 = x)) ∘ fun q : Str × Str => (q.1, D.str q.2)) = fun q => decide (q.1 = x) := rfl
  rw [e]
  split
  · rw [List.map_map, List.map_map]
    apply List.map_congr_left
    intro q _
    simp only [Function.comp]
    split <;> rfl
  · simp
theorem dPut_len {qs : List (Str × Str)} {x y : Str} : (dPut qs x y).length ≤ qs.length + 1 := by
  unfold dPut
  split
  · rw [List.length_map]; omega
  · simp
theorem dPut_ok {qs : List (Str × Str)} {x y : Str} (h : QOk qs) (hy : y.cps.all (fun k => decide (k < 1114112)) = true) : QOk (dPut qs x y) := by
  unfold dPut
  split
  · refine ⟨?_, ?_⟩
    · have e : (qs.map fun p => if p.1 = x then (p.1, y) else p).map Prod.fst = qs.map Prod.fst := by
        rw [List.map_map]
        apply List.map_congr_left
        intro q _
        simp only [Function.comp]
        split <;> rfl
      rw [e]
      exact h.nd
    · intro q hq
      obtain ⟨p, hp, rfl⟩ := List.mem_map.mp hq
      split
      · exact hy
      · exact h.ok p hp
  · rename_i ha
    refine ⟨?_, ?_⟩
    · rw [List.map_append, List.nodup_append]
      refine ⟨h.nd, by simp, ?_⟩
      intro a ha1 b hb e
      have hb' : b = x := by simpa using hb
      apply ha
      rw [List.any_eq_true]
      obtain ⟨p, hp, hp2⟩ := List.mem_map.mp ha1
      exact ⟨p, hp, decide_eq_true (by rw [hp2, e, hb'])⟩
    · intro q hq
      rcases List.mem_append.mp hq with hq | hq
      · exact h.ok q hq
      · rw [List.mem_singleton.mp hq]; exact hy
theorem dAt_self {α : Type} : ∀ {xs : List (Str × α)} {p : Str × α}, (xs.map Prod.fst).Nodup → p ∈ xs → dAt xs p.1 = some p.2
  | x :: xs, p, hn, hp => by
    unfold dAt
    rw [List.map_cons, List.nodup_cons] at hn
    rcases List.mem_cons.mp hp with rfl | hp
    · simp
    · have hne : x.1 ≠ p.1 := fun e => hn.1 (by rw [e]; exact List.mem_map.mpr ⟨p, hp, rfl⟩)
      rw [List.find?_cons, decide_eq_false hne]
      exact dAt_self hn.2 hp
theorem eqPs_self {xs : List (Str × PyData)} (h : (xs.map Prod.fst).Nodup) : eqPs xs xs = true := by
  unfold eqPs
  rw [Bool.and_eq_true]
  refine ⟨by simp, ?_⟩
  rw [List.all_eq_true]
  intro p hp
  rw [dAt_self h hp]
  simp
theorem pdata_ {c : Cells} : ∀ {qs : List (Str × Str)}, (∀ q ∈ qs, q.2.cps.all (fun k => decide (k < 1114112)) = true) → pdata c (dm qs) = some (qs.map fun q => (q.1, PyData.str q.2))
  | [], _ => rfl
  | q :: qs, h => by
    have ih := pdata_ (c := c) (qs := qs) fun p hp => h p (List.mem_cons_of_mem _ hp)
    unfold pdata dm at ih ⊢
    rw [List.map_cons]
    unfold omap
    rw [ih]
    dsimp only
    rw [data_str (h q (List.mem_cons_self ..))]
    rfl
theorem sDPut_ {o k v : XE} {σ : Qm.Env} {c c1 c2 : Cells} {n : Nat} {x y : Str} {qs : List (Str × Str)} (hv : v σ c = some (.str y, c1)) (ho : o σ c1 = some (.ref n, c1)) (hk : k σ c1 = some (.str x, c2)) (h : c2[n]? = some (.dct (dm qs))) (hl : qs.length < 10000) : sDPut o k v σ c = some (.nx, σ, c2.set n (.dct (dm (dPut qs x y)))) := by
  have hl2 : (dm qs).length < LINE := Nat.lt_of_lt_of_le (show (dm qs).length < 10000 by unfold dm; rw [List.length_map]; exact hl) (line_ok (Nat.le_refl _))
  unfold sDPut
  rw [hv, Option.bind_some, ho, Option.bind_some, hk, Option.bind_some, dcOf_ h, Option.bind_some]
  show (if (dm qs).length < LINE then some (Fl.nx, σ, c2.set n (.dct (dPut (dm qs) x (.str y)))) else none) = _
  rw [if_pos hl2, dPut_map]
theorem low_loop {A B : Int} {c : Cells} : ∀ (n : Nat) (x y : Int), x.toNat ≤ n → 0 ≤ x → x < 2 ^ 60 → 0 < y → y < 2 ^ 60 → ∃ x' y', 0 < y' ∧ y' < 2 ^ 60 ∧ sWhile (tV (e2 gNe (eV 2) (eC (.int 0)))) (sPar [2, 3] (aCons (e2 gMod (eV 3) (eV 2)) (aCons (eV 2) aNil))) [some (.int A), some (.int B), some (.int x), some (.int y)] c = some (.nx, [some (.int A), some (.int B), some (.int x'), some (.int y')], c) := by
  intro n
  induction n with
  | zero =>
    intro x y hn h0 h1 h2 h3
    have hx : x = 0 := by omega
    subst hx
    exact ⟨0, y, h2, h3, sWhile_stop (by erw [])⟩
  | succ n ih =>
    intro x y hn h0 h1 h2 h3
    by_cases hx : x = 0
    · subst hx
      exact ⟨0, y, h2, h3, sWhile_stop (by erw [])⟩
    · have m0 := Int.emod_nonneg y hx
      have m1 := Int.emod_lt_of_pos y (show 0 < x by omega)
      obtain ⟨x', y', g1, g2, e⟩ := ih (y % x) x (by omega) m0 (by omega) (by omega) h1
      have hd : decide (x = 0) = false := decide_eq_false hx
      have hp : 0 < x := by omega
      refine ⟨x', y', g1, g2, sWhile_go (c' := c) (σ' := [some (.int A), some (.int B), some (.int (y % x)), some (.int x)]) (c2 := c) (by erw [hd]) (by erw []) e⟩
theorem lowest_ {a b : Int} {c : Cells} (h1 : -(2 ^ 50) < a) (h2 : a < 2 ^ 50) (h3 : 0 < b) (h4 : b < 2 ^ 50) : ∃ x y, F_law_lowest [.int a, .int b] c = some (.tup [.int x, .int y], c) := by
  obtain ⟨x', y', g1, g2, e⟩ := low_loop (A := a) (B := b) (c := c) (if a < 0 then -a else a).toNat (if a < 0 then -a else a) b (Nat.le_refl _) (by split <;> omega) (by split <;> omega) h3 (by omega)
  have hb : My.Bd 8900 y' := My.Bd.mono (bd64 (i := y') (by omega)) (by decide)
  refine ⟨a / y', b / y', ?_⟩
  have run : B_law_lowest [some (.int a), some (.int b), none, none] c = some (.rt (.tup [.int (a / y'), .int (b / y')]), [some (.int a), some (.int b), some (.int x'), some (.int y')], c) := by
    unfold B_law_lowest
    refine sSeq_of (σ1 := [some (.int a), some (.int b), some (.int (if a < 0 then -a else a)), none]) (c1 := c) (by erw []) ?_
    refine sSeq_of (σ1 := [some (.int a), some (.int b), some (.int (if a < 0 then -a else a)), some (.int b)]) (c1 := c) (by erw []) ?_
    refine sSeq_of e ?_
    erw [gFdiv_ g1 hb]
  erw [F_law_lowest, run]
theorem worth_ {l : Nat} {m : Int} {c : Cells} (h : Lf l m c) : ∃ x y c', F_law_worth [.ref l] c = some (.tup [.int x, .int y], c') ∧ Lf l m c' ∧ Kq [l] c c' := by
  obtain ⟨g1, c1, e1, a1, b1, p1, k1⟩ := take_ h (k := 1999999) (by decide) (by decide)
  obtain ⟨g2, c2, e2, a2, b2, p2, k2⟩ := take_ p1 (k := 2) (by decide) (by decide)
  have s1 : ∃ be c3, sIf (tV (Qm.e2 gEq (eCall F_law_take [] (aCons (eV 0) (aCons (eC (.int 2)) aNil))) (eC (.int 1)))) (sSet 2 (Qm.e2 gAdd (eC (.int 1)) (eCall F_law_take [] (aCons (eV 0) (aCons (eC (.int 999999)) aNil))))) sNil [some (.ref l), some (.int (g1 - 999999)), some (.int 1)] c1 = some (.nx, [some (.ref l), some (.int (g1 - 999999)), some (.int be)], c3) ∧ 0 < be ∧ be < 1000001 ∧ Lf l m c3 ∧ Kq [l] c1 c3 := by
    by_cases h1 : g2 = 1
    · subst h1
      obtain ⟨g3, c3, e3, a3, b3, p3, k3⟩ := take_ p2 (k := 999999) (by decide) (by decide)
      exact ⟨1 + g3, c3, by erw [e2, e3], by omega, by omega, p3, k2.trans k3⟩
    · exact ⟨1, c2, by erw [e2, h1], by omega, by omega, p2, k2⟩
  obtain ⟨be, c3, f1, hb0, hb1, p3, k3⟩ := s1
  obtain ⟨g4, c4, e4, a4, b4, p4, k4⟩ := take_ p3 (k := 3) (by decide) (by decide)
  have s2 : ∃ ab be', sIf (tV (Qm.e2 gEq (eCall F_law_take [] (aCons (eV 0) (aCons (eC (.int 3)) aNil))) (eC (.int 0)))) (sSeq (sSet 1 (Qm.e2 gSub (Qm.e2 gMod (eV 1) (eC (.int 9))) (eC (.int 4)))) (sSet 2 (Qm.e2 gAdd (eC (.int 1)) (Qm.e2 gMod (eV 2) (eC (.int 4)))))) sNil [some (.ref l), some (.int (g1 - 999999)), some (.int be)] c3 = some (.nx, [some (.ref l), some (.int ab), some (.int be')], c4) ∧ 0 < be' ∧ be' < 1000001 ∧ -1000000 < ab ∧ ab < 1000001 := by
    by_cases h1 : g4 = 0
    · subst h1
      have m0 := Int.emod_nonneg (g1 - 999999) (show (9 : Int) ≠ 0 by decide)
      have m1 := Int.emod_lt_of_pos (g1 - 999999) (show (0 : Int) < 9 by decide)
      have n0 := Int.emod_nonneg be (show (4 : Int) ≠ 0 by decide)
      have n1 := Int.emod_lt_of_pos be (show (0 : Int) < 4 by decide)
      exact ⟨(g1 - 999999) % 9 - 4, 1 + be % 4, by erw [e4], by omega, by omega, by omega, by omega⟩
    · exact ⟨g1 - 999999, be, by erw [e4, h1], by omega, by omega, by omega, by omega⟩
  obtain ⟨ab, be', f2, q1, q2, q3, q4⟩ := s2
  obtain ⟨x, y, e5⟩ := lowest_ (a := ab) (b := be') (c := c4) (by omega) (by omega) q1 (by omega)
  refine ⟨x, y, c4, ?_, p4, k1.trans (k3.trans k4)⟩
  have run : B_law_worth [some (.ref l), none, none] c = some (.rt (.tup [.int x, .int y]), [some (.ref l), some (.int ab), some (.int be')], c4) := by
    unfold B_law_worth
    refine sSeq_of (σ1 := [some (.ref l), some (.int (g1 - 999999)), none]) (c1 := c1) (by erw [e1]) ?_
    refine sSeq_of (σ1 := [some (.ref l), some (.int (g1 - 999999)), some (.int 1)]) (c1 := c1) rfl ?_
    refine sSeq_of f1 ?_
    refine sSeq_of f2 ?_
    erw [e5]
  erw [F_law_worth, run]
def Kd (lo d : Nat) (c : Cells) (p : Str × D) : Prop := Wd p.1 ∧ ∃ n ws, p.2 = .ref n ∧ lo ≤ n ∧ n ≠ d ∧ c[n]? = some (.lst ((ws : List Str).map D.str)) ∧ ws ≠ [] ∧ ws.length ≤ 12 ∧ ∀ w ∈ ws, Wd w
theorem Kd.keep {lo d : Nat} {c c' : Cells} {p : Str × D} {S : List Nat} (h : Kd lo d c p) (k : Kq S c c') (hs : ∀ x ∈ S, x < lo ∨ x = d ∨ c.length ≤ x) : Kd lo d c' p := by
  obtain ⟨w, n, ws, h1, h2, h3, h4, h5⟩ := h
  refine ⟨w, n, ws, h1, h2, h3, k.get h4 (fun hn => ?_), h5⟩
  have := get_lt h4
  rcases hs n hn with z | z | z <;> omega
theorem dPutD_len {ps : List (Str × D)} {x : Str} {d : D} : (dPut ps x d).length ≤ ps.length + 1 := by
  unfold dPut
  split
  · rw [List.length_map]; omega
  · simp
theorem dPutD_nd {ps : List (Str × D)} {x : Str} {d : D} (h : (ps.map Prod.fst).Nodup) : ((dPut ps x d).map Prod.fst).Nodup := by
  unfold dPut
  split
  · have e : (ps.map fun p => if p.1 = x then (p.1, d) else p).map Prod.fst = ps.map Prod.fst := by
      rw [List.map_map]
      apply List.map_congr_left
      intro q _
      simp only [Function.comp]
      split <;> rfl
    rw [e]
    exact h
  · rename_i ha
    rw [List.map_append, List.nodup_append]
    refine ⟨h, by simp, ?_⟩
    intro a ha1 b hb e
    have hb' : b = x := by simpa using hb
    apply ha
    rw [List.any_eq_true]
    obtain ⟨p, hp, hp2⟩ := List.mem_map.mp ha1
    exact ⟨p, hp, decide_eq_true (by rw [hp2, e, hb'])⟩
theorem dPutD_mem {ps : List (Str × D)} {x : Str} {d : D} {q : Str × D} (h : q ∈ dPut ps x d) : (q.1 = x ∧ q.2 = d) ∨ q ∈ ps := by
  unfold dPut at h
  split at h
  · obtain ⟨p, hp, rfl⟩ := List.mem_map.mp h
    split
    · rename_i e; exact .inl ⟨e, rfl⟩
    · exact .inr hp
  · rcases List.mem_append.mp h with h | h
    · exact .inr h
    · rw [List.mem_singleton.mp h]; exact .inl ⟨rfl, rfl⟩
theorem gNotIn_strs {x : Str} {n : Nat} {ws : List Str} {c : Cells} (hx : x.cps.all (fun k => decide (k < 1114112)) = true) (hn : c[n]? = some (.lst (ws.map D.str))) (h : ∀ w ∈ ws, w.cps.all (fun k => decide (k < 1114112)) = true) : ∃ b, gNotIn (.str x) (.ref n) c = some (.bl b, c) ∧ (ws = [] → b = true) := by
  unfold gNotIn inM
  rw [seqOf_lst hn, Option.bind_some, data_str hx, Option.bind_some, omap_strs ws h]
  exact ⟨_, rfl, fun e => by subst e; simp⟩
theorem sDPutD_ {o k v : XE} {σ : Qm.Env} {c c1 c2 : Cells} {n : Nat} {x : Str} {d : D} {ps : List (Str × D)} (hv : v σ c = some (d, c1)) (ho : o σ c1 = some (.ref n, c1)) (hk : k σ c1 = some (.str x, c2)) (h : c2[n]? = some (.dct ps)) (hl : ps.length < 10000) : sDPut o k v σ c = some (.nx, σ, c2.set n (.dct (dPut ps x d))) := by
  have hl2 : ps.length < LINE := Nat.lt_of_lt_of_le hl (line_ok (Nat.le_refl _))
  unfold sDPut
  rw [hv, Option.bind_some, ho, Option.bind_some, hk, Option.bind_some, dcOf_ h, Option.bind_some]
  show (if ps.length < LINE then some (Fl.nx, σ, c2.set n (.dct (dPut ps x d))) else none) = _
  rw [if_pos hl2]
theorem pick_ {l : Nat} {m : Int} {c : Cells} {σ : Qm.Env} {aC : XA} {xs : List Int} (ha : aC σ c = some (xs.map D.int, c)) (hx : xs.length = 8) (hσ : σ[0]? = some (some (.ref l))) (h : Lf l m c) : ∃ n c', e2 gIx (eLst aC) (eCall F_law_take [] (aCons (eV 0) (aCons (eC (.int 8)) aNil))) σ c = some (.int n, c') ∧ n ∈ xs ∧ Lf l m c' ∧ Kq [l] c c' := by
  obtain ⟨g, c1, e1, a1, b1, p1, k1⟩ := take_ (h.more (zs := [.lst (xs.map D.int)])) (k := 8) (by decide) (by decide)
  have hl := h.lt
  have q1 : c1[c.length]? = some (.lst (xs.map D.int)) := k1.get get_new (by simp; omega)
  obtain ⟨d, ed, hd⟩ := atD_of (xs := xs.map D.int) a1 (by rw [List.length_map, hx]; exact b1)
  obtain ⟨n, hn, rfl⟩ := List.mem_map.mp hd
  refine ⟨n, c1, ?_, hn, p1, Kq.more.trans k1⟩
  have hz : (xs.map D.int).length ≤ LINE := line_ok (by rw [List.length_map, hx]; decide)
  have s1 := seqOf_lst q1
  have v0 : ∀ c, eV 0 σ c = some (.ref l, c) := fun c => by simp [hσ]
  erw [ha, hz, hσ, e1, gIx_, s1, ed]
noncomputable def LoopI : XS := (sSeq (sSet 8 (eCall F_law_word [] (aCons (eV 0) aNil)))
      (sIf (tV (e2 gNotIn (eV 8) (eV 6)))
      (sExpr (eM mAppend (eV 6) (aCons (eV 8) aNil)))
      sNil))
theorem inner_ {l d n0 : Nat} {m g : Int} {c : Cells} {q2 q3 q4 q5 q7 q8 : Option D} (h : Lf l m c) (hn : c[n0]? = some (.lst [])) (hne : l ≠ n0) (g0 : 0 ≤ g) (g1 : g < 12) : ∃ ws j mr c', sFor (iRng1 (aCons (eC (.int (1 + g))) aNil)) (gName 7) LoopI [some (.ref l), some (.ref d), q2, q3, q4, q5, some (.ref n0), q7, q8] c = some (.nx, [some (.ref l), some (.ref d), q2, q3, q4, q5, some (.ref n0), j, mr], c') ∧ c'[n0]? = some (.lst ((ws : List Str).map D.str)) ∧ ws ≠ [] ∧ ws.length ≤ 12 ∧ (∀ w ∈ ws, Wd w) ∧ Lf l m c' ∧ Kq [l, n0] c c' := by
  have hr : iRng1 (aCons (eC (.int (1 + g))) aNil) [some (.ref l), some (.ref d), q2, q3, q4, q5, some (.ref n0), q7, q8] c = some (⟨rng 0 (1 + g).toNat, []⟩, c) := iRng1' (j := 1 + g) rfl (by omega)
  have key := forGo_inv (ks := []) (g := gName 7) (body := LoopI)
    (fun i σ c' => ∃ ws j mr, σ = [some (.ref l), some (.ref d), q2, q3, q4, q5, some (.ref n0), j, mr] ∧ c'[n0]? = some (.lst ((ws : List Str).map D.str)) ∧ (0 < i → ws ≠ []) ∧ ws.length ≤ i ∧ (∀ w ∈ ws, Wd w) ∧ Lf l m c' ∧ Kq [l, n0] c c') (rng 0 (1 + g).toNat) 0 [some (.ref l), some (.ref d), q2, q3, q4, q5, some (.ref n0), q7, q8] c (fun _ _ _ _ => stays_nil) (by
      rintro i dd σ c' hd ⟨ws, j, mr, rfl, hw, he, hl, hW, hp, hk⟩
      obtain ⟨hi, rfl⟩ := rng_at hd
      rw [Nat.zero_add] at he hl ⊢
      obtain ⟨x, c2, e2, wx, p2, k2⟩ := word_ hp
      have hw2 := k2.get hw (by simpa using fun e => hne e.symm)
      obtain ⟨b, e3, hb⟩ := gNotIn_strs wx.ok hw2 (fun w hw => (hW w hw).ok)
      have hk2 : Kq [l, n0] c c2 := hk.trans k2.two
      cases b with
      | false =>
        refine ⟨_, c', [some (.ref l), some (.ref d), q2, q3, q4, q5, some (.ref n0), some (.int (0 + (i : Int))), some (.str x)], c2, rfl, ?_, ⟨ws, _, _, rfl, hw2, fun _ e => ?_, by omega, hW, p2, hk2⟩⟩
        · unfold LoopI
          erw [e2, e3]
        · have := hb e; cases this
      | true =>
        have ap := mAppend_ (y := .str x) hw2 (by rw [List.length_map]; omega)
        have l2 := lstOf_lst hw2
        refine ⟨_, c', [some (.ref l), some (.ref d), q2, q3, q4, q5, some (.ref n0), some (.int (0 + (i : Int))), some (.str x)], c2.set n0 (.lst (ws.map D.str ++ [.str x])), rfl, ?_, ⟨ws ++ [x], _, _, rfl, ?_, fun _ e => by simp at e, by simp; omega, ?_, p2.keep (Kq.set (S := [n0]) (by simp)) (by simpa using hne), hk2.trans (Kq.set (by simp))⟩⟩
        · unfold LoopI
          erw [e2, e3, l2, ap]
        · rw [List.getElem?_set, if_pos rfl, if_pos (get_lt hw2)]; simp
        · intro w hw
          rcases List.mem_append.mp hw with hw | hw
          · exact hW w hw
          · rw [List.mem_singleton.mp hw]; exact wx) ⟨[], q7, q8, rfl, hn, fun h => absurd h (by decide), Nat.le_refl _, (fun w hw => by cases hw), h, Kq.refl _ _⟩
  obtain ⟨σ', c', e', ws, j, mr, rfl, hw, he, hl, hW, hp, hk⟩ := key
  rw [rng_len, Nat.zero_add] at he hl
  exact ⟨ws, j, mr, c', by rw [sFor_ hr]; exact e', hw, he (by omega), by omega, hW, hp, hk⟩
noncomputable def LoopK : XS := (sSeq (sSet 5 (eCall F_law_word [] (aCons (eV 0) aNil)))
      (sSeq (sSet 6 (eLst aNil))
      (sSeq (sFor (iRng1 (aCons (e2 gAdd (eC (.int 1)) (eCall F_law_take [] (aCons (eV 0) (aCons (eV 2) aNil)))) aNil)) (gName 7) LoopI)
      (sSeq (sDPut (eV 1) (eV 5) (eV 6))
      (sSet 2 (eB bMin2 (aCons (eV 2) (aCons (eC (.int 4)) aNil))))))))
theorem sFor_as {a b : XA} {g : XG} {body : XS} {σ : Qm.Env} {c c1 : Cells} {ds : List D} (ha : a σ c = some (ds, c1)) (hb : b σ c1 = some (ds, c1)) : sFor (iRng1 a) g body σ c = sFor (iRng1 b) g body σ c1 := by
  unfold sFor iRng1
  rw [ha, hb]
theorem kinds_ {l : Nat} {m : Int} {c : Cells} (h : Lf l m c) : ∃ ps c', F_law_kinds [.ref l] c = some (.ref c.length, c') ∧ c'[c.length]? = some (.dct ps) ∧ (ps.map Prod.fst).Nodup ∧ ps.length ≤ 6 ∧ (∀ p ∈ ps, Kd c.length c.length c' p) ∧ Kq [l] c c' := by
  have hlc := h.lt
  obtain ⟨m0, c1, e1, i1, p1, k1⟩ := pick_ (c := c ++ [.dct []]) (σ := [some (.ref l), some (.ref c.length), none, none, none, none, none, none, none]) (aC := (aCons (eC (.int 4)) (aCons (eC (.int 4)) (aCons (eC (.int 4)) (aCons (eC (.int 4)) (aCons (eC (.int 4)) (aCons (eC (.int 4)) (aCons (eC (.int 4)) (aCons (eC (.int 12)) aNil))))))))) (xs := [4, 4, 4, 4, 4, 4, 4, 12]) rfl rfl rfl h.more
  obtain ⟨n0, c2, e2, i2, p2, k2⟩ := pick_ (c := c1) (σ := [some (.ref l), some (.ref c.length), some (.int m0), none, none, none, none, none, none]) (aC := (aCons (eC (.int 0)) (aCons (eC (.int 1)) (aCons (eC (.int 2)) (aCons (eC (.int 3)) (aCons (eC (.int 1)) (aCons (eC (.int 2)) (aCons (eC (.int 3)) (aCons (eC (.int 6)) aNil))))))))) (xs := [0, 1, 2, 3, 1, 2, 3, 6]) rfl rfl rfl p1
  have j1 : ∀ n ∈ ([4, 4, 4, 4, 4, 4, 4, 12] : List Int), 1 ≤ n ∧ n ≤ 12 := by decide
  have j2 : ∀ n ∈ ([0, 1, 2, 3, 1, 2, 3, 6] : List Int), 0 ≤ n ∧ n ≤ 6 := by decide
  have j1' := j1 m0 i1
  have j2' := j2 n0 i2
  have s1 : ∃ mo, sIf (tV (Qm.e2 gEq (eV 3) (eC (.int 6)))) (sSet 2 (eC (.int 2))) sNil [some (.ref l), some (.ref c.length), some (.int m0), some (.int n0), none, none, none, none, none] c2 = some (.nx, [some (.ref l), some (.ref c.length), some (.int mo), some (.int n0), none, none, none, none, none], c2) ∧ 1 ≤ mo ∧ mo ≤ 12 := by
    by_cases h6 : n0 = 6
    · subst h6; exact ⟨2, by erw [], by decide, by decide⟩
    · exact ⟨m0, by erw [h6], j1'.1, j1'.2⟩
  obtain ⟨mo, f1, mo0, mo1⟩ := s1
  have s2 : ∃ ma, sIf (tV (Qm.e2 gEq (eV 2) (eC (.int 12)))) (sSet 3 (eB bMin2 (aCons (eV 3) (aCons (eC (.int 1)) aNil)))) sNil [some (.ref l), some (.ref c.length), some (.int mo), some (.int n0), none, none, none, none, none] c2 = some (.nx, [some (.ref l), some (.ref c.length), some (.int mo), some (.int ma), none, none, none, none, none], c2) ∧ 0 ≤ ma ∧ ma ≤ 6 := by
    by_cases h6 : mo = 12
    · subst h6; exact ⟨if 1 < n0 then 1 else n0, by erw [], by split <;> omega, by split <;> omega⟩
    · exact ⟨n0, by erw [h6], j2'.1, j2'.2⟩
  obtain ⟨ma, f2, ma0, ma1⟩ := s2
  have kc2 : Kq [l] c c2 := Kq.more.trans (k1.trans k2)
  have hd2 : c2[c.length]? = some (.dct []) := (k1.trans k2).get get_new (by simp; omega)
  have hr : iRng1 (aCons (eV 3) aNil) [some (.ref l), some (.ref c.length), some (.int mo), some (.int ma), none, none, none, none, none] c2 = some (⟨rng 0 ma.toNat, []⟩, c2) := iRng1' (j := ma) rfl (by omega)
  have key := forGo_inv (ks := []) (g := gName 4) (body := LoopK)
    (fun i σ c' => ∃ ps mo q4 q5 q6 q7 q8, σ = [some (.ref l), some (.ref c.length), some (.int mo), some (.int ma), q4, q5, q6, q7, q8] ∧ 1 ≤ mo ∧ mo ≤ 12 ∧ c'[c.length]? = some (.dct ps) ∧ (ps.map Prod.fst).Nodup ∧ ps.length ≤ i ∧ (∀ p ∈ ps, Kd c.length c.length c' p) ∧ Lf l m c' ∧ Kq [l] c c') (rng 0 ma.toNat) 0 [some (.ref l), some (.ref c.length), some (.int mo), some (.int ma), none, none, none, none, none] c2 (fun _ _ _ _ => stays_nil) (by
      rintro i dd σ c' hd ⟨ps, mo, q4, q5, q6, q7, q8, rfl, u0, u1, hdc, hnd, hln, hK, hp, hk⟩
      obtain ⟨hi, rfl⟩ := rng_at hd
      rw [Nat.zero_add] at hln ⊢
      obtain ⟨x, c3, e3, wx, p3, k3⟩ := word_ hp
      have hdl := get_lt hdc
      have h3l := k3.len
      obtain ⟨g, c4, e4, g0, g1, p4, k4⟩ := take_ (p3.more (zs := [.lst []])) (k := mo) (by omega) (by omega)
      have hl3 := p3.lt
      have q3 : c4[c3.length]? = some (.lst []) := k4.get get_new (by simp; omega)
      obtain ⟨ws, j, mr, c5, f5, hw5, hwe, hwl, hW, p5, k5⟩ := inner_ (d := c.length) (q2 := some (.int mo)) (q3 := some (.int ma)) (q4 := some (.int (0 + (i : Int)))) (q5 := some (.str x)) (q7 := q7) (q8 := q8) p4 q3 (by omega) g0 (by omega)
      have kk : Kq [l, c3.length] c' c5 := (k3.two.trans (Kq.more.trans k4.two)).trans k5
      have hd5 : c5[c.length]? = some (.dct ps) := kk.get hdc (by simp; omega)
      have e6 : sDPut (eV 1) (eV 5) (eV 6) [some (.ref l), some (.ref c.length), some (.int mo), some (.int ma), some (.int (0 + (i : Int))), some (.str x), some (.ref c3.length), j, mr] c5 = _ := sDPutD_ rfl rfl rfl hd5 (by omega)
      have kd : Kq [c.length] c5 (c5.set c.length (.dct (dPut ps x (.ref c3.length)))) := Kq.set (by simp)
      refine ⟨_, c', [some (.ref l), some (.ref c.length), some (.int (if 4 < mo then 4 else mo)), some (.int ma), some (.int (0 + (i : Int))), some (.str x), some (.ref c3.length), j, mr], c5.set c.length (.dct (dPut ps x (.ref c3.length))), rfl, ?_, ⟨dPut ps x (.ref c3.length), _, _, _, _, _, _, rfl, by split <;> omega, by split <;> omega, ?_, dPutD_nd hnd, Nat.le_trans dPutD_len (by omega), ?_, p5.keep kd (by simp; omega), ?_⟩⟩
      · unfold LoopK
        refine sSeq_of (σ1 := [some (.ref l), some (.ref c.length), some (.int mo), some (.int ma), some (.int (0 + (i : Int))), some (.str x), q6, q7, q8]) (c1 := c3) (by erw [e3]) ?_
        refine sSeq_of (σ1 := [some (.ref l), some (.ref c.length), some (.int mo), some (.int ma), some (.int (0 + (i : Int))), some (.str x), some (.ref c3.length), q7, q8]) (c1 := c3 ++ [.lst []]) (by erw [line0]) ?_
        refine sSeq_of (Eq.trans (sFor_as (b := aCons (eC (.int (1 + g))) aNil) (c1 := c4) (ds := [.int (1 + g)]) (by erw [e4]) rfl) f5) ?_
        refine sSeq_of e6 ?_
        erw []
      · rw [List.getElem?_set, if_pos rfl, if_pos (get_lt hd5)]
      · intro p hp'
        rcases dPutD_mem hp' with ⟨h1, h2⟩ | hp'
        · refine ⟨by rw [h1]; exact wx, c3.length, ws, h2, by omega, by omega, kd.get hw5 (by simp; omega), hwe, hwl, hW⟩
        · refine ((hK p hp').keep kk (fun y hy => ?_)).keep kd (fun y hy => ?_)
          · simp at hy
            rcases hy with rfl | rfl
            · exact .inl hlc
            · exact .inr (.inr h3l)
          · simp at hy
            exact .inr (.inl hy)
      · refine (hk.less kk (fun y hy => ?_)).less kd (fun y hy => ?_)
        · simp at hy
          rcases hy with rfl | rfl
          · simp
          · exact .inr (by omega)
        · simp at hy
          exact .inr (by omega)) ⟨[], mo, none, none, none, none, none, rfl, mo0, mo1, hd2, by simp, Nat.le_refl _, (fun p hp => by cases hp), p2, kc2⟩
  obtain ⟨σ', c', e', ps, mo', q4, q5, q6, q7, q8, rfl, u0, u1, hdc, hnd, hln, hK, hp, hk⟩ := key
  rw [rng_len, Nat.zero_add] at hln
  refine ⟨ps, c', ?_, hdc, hnd, by omega, hK, hk⟩
  have f3 : sFor (iRng1 (aCons (eV 3) aNil)) (gName 4) LoopK [some (.ref l), some (.ref c.length), some (.int mo), some (.int ma), none, none, none, none, none] c2 = _ := (sFor_ hr).trans e'
  have run : B_law_kinds [some (.ref l), none, none, none, none, none, none, none, none] c = some (.rt (.ref c.length), [some (.ref l), some (.ref c.length), some (.int mo'), some (.int ma), q4, q5, q6, q7, q8], c') := by
    unfold B_law_kinds
    refine sSeq_of (σ1 := [some (.ref l), some (.ref c.length), none, none, none, none, none, none, none]) (c1 := c ++ [.dct []]) rfl ?_
    refine sSeq_of (σ1 := [some (.ref l), some (.ref c.length), some (.int m0), none, none, none, none, none, none]) (c1 := c1) (by rw [sSet_, e1]; rfl) ?_
    refine sSeq_of (σ1 := [some (.ref l), some (.ref c.length), some (.int m0), some (.int n0), none, none, none, none, none]) (c1 := c2) (by rw [sSet_, e2]; rfl) ?_
    refine sSeq_of f1 ?_
    refine sSeq_of f2 ?_
    refine sSeq_of f3 ?_
    erw []
  erw [F_law_kinds, run]
theorem compG_go {ks : List (Nat × Cell)} {g : XG} {te : XE} {E : Qm.Env → Prop} {c : Cells} (hs : stays ks c) : ∀ (ds vs acc : List D) (zs : List Cell) (τ : Qm.Env), ds.length = vs.length → E τ → (∀ (i : Nat) d v, ds[i]? = some d → vs[i]? = some v → ∀ τ c', E τ → c <+: c' → ∃ τ' ws, g d τ c' = some (τ', c') ∧ te τ' c' = some (v, c' ++ ws) ∧ E τ') → acc.length + ds.length ≤ 9000000 →
    ∃ zs', compGo c.length ks g tYes te ds τ (c ++ .lst acc :: zs) = some (c ++ .lst (acc ++ vs) :: zs')
  | [], vs, acc, zs, τ, hl, _, _, _ => by
    cases vs with
    | nil =>
      have st : stays ks (c ++ .lst acc :: zs) := fun p hp => pre_get ⟨_, rfl⟩ (hs p hp)
      refine ⟨zs, ?_⟩
      unfold compGo
      rw [if_pos st]
      simp
    | cons v vs => simp at hl
  | d :: ds, vs, acc, zs, τ, hl, hE, hv, hn => by
    cases vs with
    | nil => simp at hl
    | cons v vs =>
      have st : stays ks (c ++ .lst acc :: zs) := fun p hp => pre_get ⟨_, rfl⟩ (hs p hp)
      rw [List.length_cons] at hn
      obtain ⟨τ', ws, f1, f2, hE'⟩ := hv 0 d v rfl rfl τ (c ++ .lst acc :: zs) hE ⟨_, rfl⟩
      have f3 : (c ++ .lst acc :: zs ++ ws)[c.length]? = some (.lst acc) := by simp
      have f4 : (c ++ .lst acc :: zs ++ ws).set c.length (.lst (acc ++ [v])) = c ++ .lst (acc ++ [v]) :: (zs ++ ws) := by simp
      obtain ⟨zs', f5⟩ := compG_go hs ds vs (acc ++ [v]) (zs ++ ws) τ' (by simpa using hl) hE' (fun i d' v' h1 h2 => hv (i + 1) d' v' (by simpa using h1) (by simpa using h2)) (by simp only [List.length_append, List.length_cons, List.length_nil]; omega)
      refine ⟨zs', ?_⟩
      unfold compGo
      rw [if_pos st]
      have f6 : tYes τ' (c ++ .lst acc :: zs) = some (true, c ++ .lst acc :: zs) := rfl
      simp only [f1, Option.bind_some, f6, if_true, f2, f3, f4]
      rw [if_pos (show acc.length < LINE by rw [LINE_eq]; omega), f5]
      simp
theorem compG {it : XI} {cap : List (Option Nat)} {g : XG} {te : XE} {σ : Qm.Env} {c : Cells} {ds : List D} {ks : List (Nat × Cell)} (vs : List D) (E : Qm.Env → Prop) (hi : it σ c = some (⟨ds, ks⟩, c)) (hs : stays ks c) (hE : E (capt σ cap)) (hl : ds.length = vs.length) (hv : ∀ (i : Nat) d v, ds[i]? = some d → vs[i]? = some v → ∀ τ c', E τ → c <+: c' → ∃ τ' ws, g d τ c' = some (τ', c') ∧ te τ' c' = some (v, c' ++ ws) ∧ E τ') (hn : ds.length ≤ 9000000) :
    ∃ c', eComp it cap g tYes te σ c = some (.ref c.length, c') ∧ c <+: c' ∧ c'[c.length]? = some (.lst vs) := by
  obtain ⟨zs, e⟩ := compG_go (te := te) (g := g) (E := E) (ks := ks) (c := c) hs ds vs [] [] (capt σ cap) hl hE hv (by simp; omega)
  refine ⟨c ++ .lst vs :: zs, ?_, ⟨_, rfl⟩, by simp⟩
  unfold eComp
  rw [hi, Option.bind_some]
  dsimp only
  rw [e]
  rfl
theorem Kq.pre {S : List Nat} {c c' : Cells} (h : c <+: c') : Kq S c c' := by
  obtain ⟨t, rfl⟩ := h
  exact Kq.more
noncomputable def LoopW : XS := (sSet 2 (e2 gAdd (eV 2) (eComp (iLst (eRIx (eV 1) (eV 3))) [none, some 3] (gName 0) tYes (eTup (aCons (eV 1) (aCons (eV 0) aNil))))))
theorem eRIx_ {o k : XE} {σ : Qm.Env} {c : Cells} {n : Nat} {x : Str} {d : D} {ps : List (Str × D)} (ho : o σ c = some (.ref n, c)) (hk : k σ c = some (.str x, c)) (h : c[n]? = some (.dro ps)) (hd : dAt ps x = some d) : eRIx o k σ c = some (d, c) := by
  unfold eRIx
  simp [ho, hk, drOf, h, asS, hd]
theorem iKeys_dct {a : XE} {σ : Qm.Env} {c c1 : Cells} {n : Nat} {ps : List (Str × D)} (ha : a σ c = some (.ref n, c1)) (h : c1[n]? = some (.dct ps)) : iKeys a σ c = some (⟨ps.map fun q => .str q.1, [(n, .dro ps)]⟩, c1.set n (.dro ps)) := by
  unfold iKeys
  simp [ha, h]
theorem iKeys_dro {a : XE} {σ : Qm.Env} {c c1 : Cells} {n : Nat} {ps : List (Str × D)} (ha : a σ c = some (.ref n, c1)) (h : c1[n]? = some (.dro ps)) : iKeys a σ c = some (⟨ps.map fun q => .str q.1, [(n, .dro ps)]⟩, c1) := by
  unfold iKeys
  simp [ha, h]
theorem iLst_ {a : XE} {σ : Qm.Env} {c c1 : Cells} {n : Nat} {xs : List D} (ha : a σ c = some (.ref n, c1)) (h : c1[n]? = some (.lst xs)) : iLst a σ c = some (⟨xs, [(n, .lst xs)]⟩, c1) := by
  have s := seqOf_lst h
  unfold iLst
  simp [ha, h, s]
theorem words_ {d w : Nat} {lo : Nat} {ps : List (Str × D)} {c : Cells} {r0 : Option D} {rest : List (Option D)} (hd : c[d]? = some (.dct ps)) (hw : c[w]? = some (.lst [])) (hdw : d ≠ w) (hnd : (ps.map Prod.fst).Nodup) (hl : ps.length ≤ 6) (hK : ∀ p ∈ ps, Kd lo d c p) :
    ∃ (w' : Nat) (ws : List (Str × Str)) (nm : Option D) (c' : Cells), sFor (iKeys (eV 1)) (gName 3) LoopW (r0 :: some (.ref d) :: some (.ref w) :: none :: rest) c = some (.nx, r0 :: some (.ref d) :: some (.ref w') :: nm :: rest, c') ∧ c'[d]? = some (.dro ps) ∧ c'[w']? = some (.lst (ws.map pr)) ∧ (∀ p ∈ ws, Wd p.1 ∧ Wd p.2) ∧ ws.length ≤ 72 ∧ (∀ p ∈ ps, Kd lo d c' p) ∧ Kq [d] c c' ∧ w' ≠ d := by
  have hdl := get_lt hd
  have kd : Kq [d] c (c.set d (.dro ps)) := Kq.set (by simp)
  have hd1 : (c.set d (.dro ps))[d]? = some (.dro ps) := by rw [List.getElem?_set, if_pos rfl, if_pos hdl]
  have hi := iKeys_dct (a := eV 1) (σ := r0 :: some (.ref d) :: some (.ref w) :: none :: rest) (c := c) rfl hd
  have hK1 : ∀ p ∈ ps, Kd lo d (c.set d (.dro ps)) p := fun p hp => (hK p hp).keep kd (fun y hy => by simp at hy; exact .inr (.inl hy))
  have key := forGo_inv (ks := [(d, .dro ps)]) (g := gName 3) (body := LoopW)
    (fun i σ c' => ∃ w' ws nm, σ = r0 :: some (.ref d) :: some (.ref w') :: nm :: rest ∧ c'[w']? = some (.lst ((ws : List (Str × Str)).map pr)) ∧ (∀ p ∈ ws, Wd p.1 ∧ Wd p.2) ∧ ws.length ≤ 12 * i ∧ Kq [] (c.set d (.dro ps)) c' ∧ w' ≠ d) (ps.map fun q => .str q.1) 0 (r0 :: some (.ref d) :: some (.ref w) :: none :: rest) (c.set d (.dro ps))
    (by
      rintro i σ c' ⟨w', ws, nm, rfl, _, _, _, hk, _⟩ p hp
      rw [List.mem_singleton.mp hp]
      exact hk.get hd1 (by simp)) (by
      rintro i dd σ c' hdd ⟨w', ws, nm, rfl, hw', hW, hn, hk, hne⟩
      rw [Nat.zero_add] at hn ⊢
      rw [List.getElem?_map] at hdd
      cases hp : ps[i]? with
      | none => rw [hp] at hdd; cases hdd
      | some p =>
        rw [hp] at hdd
        cases hdd
        have hpm := List.mem_of_getElem? hp
        have hil : i < ps.length := (List.getElem?_eq_some_iff.mp hp).1
        obtain ⟨wx, n, wl, h1, h2, h3, h4, h5, h6, h7⟩ := (hK1 p hpm).keep hk (fun y hy => by cases hy)
        have hd' := hk.get hd1 (by simp)
        have hat := dAt_self hnd hpm
        rw [h1] at hat
        have ix : eRIx (eV 1) (eV 3) (r0 :: some (.ref d) :: some (.ref w') :: some (.str p.1) :: rest) c' = some (.ref n, c') := eRIx_ rfl rfl hd' hat
        have il := iLst_ (a := eRIx (eV 1) (eV 3)) ix h4
        obtain ⟨c2, e2, hpre, hc2⟩ := compG (te := eTup (aCons (eV 1) (aCons (eV 0) aNil))) (g := gName 0) (cap := [none, some 3]) (wl.map fun y => pr (p.1, y)) (fun τ => ∃ a, τ = [a, some (.str p.1)]) il (by
            intro q hq
            rw [List.mem_singleton.mp hq]
            exact h4) ⟨none, rfl⟩ (by simp) (by
            rintro i' d' v' g1 g2 τ c3 ⟨a, rfl⟩ _
            rw [List.getElem?_map] at g1 g2
            cases hy : wl[i']? with
            | none => rw [hy] at g1; cases g1
            | some y =>
              rw [hy] at g1 g2
              cases g1; cases g2
              exact ⟨[some (.str y), some (.str p.1)], [], rfl, by erw []; rfl, ⟨_, rfl⟩⟩) (by rw [List.length_map]; omega)
        have hw2 := pre_get hpre hw'
        have ha := gAdd_ref hw2 hc2 (by rw [List.length_map, List.length_map]; omega)
        refine ⟨_, c', r0 :: some (.ref d) :: some (.ref c2.length) :: some (.str p.1) :: rest, c2 ++ [.lst (ws.map pr ++ wl.map fun y => pr (p.1, y))], rfl, ?_, ⟨c2.length, ws ++ wl.map (fun y => (p.1, y)), _, rfl, ?_, ?_, ?_, (hk.trans (Kq.pre hpre)).trans Kq.more, ?_⟩⟩
        · unfold LoopW
          erw [e2, ha]
        · rw [get_new]
          simp [List.map_map, Function.comp_def]
        · intro q hq
          rcases List.mem_append.mp hq with hq | hq
          · exact hW q hq
          · obtain ⟨y, hy, rfl⟩ := List.mem_map.mp hq
            exact ⟨wx, h7 y hy⟩
        · rw [List.length_append, List.length_map]; omega
        · have := get_lt hd'
          have := (Kq.pre (S := []) hpre).len
          omega) ⟨w, [], none, rfl, kd.get hw (by simpa using fun e => hdw e.symm), (fun p hp => by cases hp), Nat.le_refl _, Kq.refl _ _, fun e => hdw e.symm⟩
  obtain ⟨σ', c', e', w', ws, nm, rfl, hw', hW, hn, hk, hne⟩ := key
  rw [List.length_map, Nat.zero_add] at hn
  refine ⟨w', ws, nm, c', (sFor_ hi).trans e', hk.get hd1 (by simp), hw', hW, by omega, fun p hp => (hK1 p hp).keep hk (fun y hy => by cases hy), kd.less hk (fun y hy => by cases hy), hne⟩
def rl (r : D × Int × Int) : D := .tup [r.1, .tup [.int r.2.1, .int r.2.2]]
noncomputable def LoopB2 : XS := (sSeq (sSet 6 (eCall F_law_left [] (aCons (eV 0) (aCons (eV 5) aNil))))
      (sSeq (sSet 7 (eCall F_law_worth [] (aCons (eV 6) aNil)))
      (sSeq (sAsg (eCall F_law_built [] (aCons (eV 6) (aCons (eV 2) (aCons (eC (.int 5)) (aCons (eC (.str "or")) aNil))))) (gTup 2 (gCons (gName 8) (gCons (gName 9) gNil))))
      (sExpr (eM mAppend (eV 4) (aCons (eTup (aCons (eV 9) (aCons (eV 7) aNil))) aNil))))))
theorem bF {l w : Nat} {ws : List (Str × Str)} {c : Cells} (h : Lf l 0 c) (hw : c[w]? = some (.lst (ws.map pr))) (hW : ∀ p ∈ ws, Wd p.1 ∧ Wd p.2) (hne : l ≠ w) (hn : ws.length ≤ 9000) : ∃ s t ws' c2, F_law_built [.ref l, .ref w, .int 5, .str "or"] c = some (.tup [.ref s, t], c2) ∧ Tr 26 t ∧ c2[w]? = some (.lst ((ws' : List (Str × Str)).map pr)) ∧ (∀ p ∈ ws', Wd p.1 ∧ Wd p.2) ∧ ws'.length ≤ ws.length + 26 ∧ Kq [l, w] c c2 := by
  obtain ⟨s, t, m', ws', c2, ss, e2, ht, _, hm', S2, _, _, _, kq⟩ := law_built_ (ws.length : Int) l w 0 ws c ⟨h, hw, hW, hne, by omega, by omega, by decide⟩ (by decide)
  have := S2.len
  exact ⟨s, t, ws', c2, e2, ht.mono (by omega), S2.at_, S2.wd, by omega, kq⟩
theorem book_ {ns : List Int} {w : Nat} {ws : List (Str × Str)} {c : Cells} (h0 : c[0]? = some (.ro (ns.map D.int))) (hn : ns.length ≤ 63) (hw : c[w]? = some (.lst (ws.map pr))) (hW : ∀ p ∈ ws, Wd p.1 ∧ Wd p.2) (hl : ws.length ≤ 72) :
    ∃ bs c', F_law_book [.ref 0, .int 3, .ref w, .int 8] c = some (.ref c.length, c') ∧ c'[c.length]? = some (.lst ((bs : List (D × Int × Int)).map rl)) ∧ (∀ r ∈ bs, Tr 26 r.1) ∧ bs.length ≤ 8 ∧ Kq [w] c c' := by
  have hw0 : w ≠ 0 := fun e => by rw [e, h0] at hw; cases hw
  have hwl := get_lt hw
  have s0 : seqOf (.ref 0) (c ++ [.lst []]) = some (ns.map D.int) := seqOf_ro (get_app h0)
  have hln : ((ns.map D.int).length : Int) = ns.length := by simp
  have hr : iRng2 (aCons (eV 1) (aCons (eB bMin2 (aCons (e2 gAdd (eV 1) (eV 3)) (aCons (eB bLen (aCons (eV 0) aNil)) aNil))) aNil)) [some (.ref 0), some (.int 3), some (.ref w), some (.int 8), some (.ref c.length), none, none, none, none, none] (c ++ [.lst []]) = some (⟨rng 3 ((if ((ns.map D.int).length : Int) < 3 + 8 then ((ns.map D.int).length : Int) else 3 + 8) - 3).toNat, []⟩, c ++ [.lst []]) := iRng2_ (by erw [bLen_, s0]) (by decide) (by rw [hln]; split <;> omega)
  have key := forGo_inv (ks := []) (g := gName 5) (body := LoopB2)
    (fun i σ c' => ∃ bs ws q5 q6 q7 q8 q9, σ = [some (.ref 0), some (.int 3), some (.ref w), some (.int 8), some (.ref c.length), q5, q6, q7, q8, q9] ∧ c'[c.length]? = some (.lst ((bs : List (D × Int × Int)).map rl)) ∧ (∀ r ∈ bs, Tr 26 r.1) ∧ bs.length ≤ i ∧ c'[w]? = some (.lst ((ws : List (Str × Str)).map pr)) ∧ (∀ p ∈ ws, Wd p.1 ∧ Wd p.2) ∧ ws.length ≤ 72 + 26 * i ∧ Kq [w] c c') (rng 3 ((if ((ns.map D.int).length : Int) < 3 + 8 then ((ns.map D.int).length : Int) else 3 + 8) - 3).toNat) 0 [some (.ref 0), some (.int 3), some (.ref w), some (.int 8), some (.ref c.length), none, none, none, none, none] (c ++ [.lst []]) (fun _ _ _ _ => stays_nil) (by
      rintro i dd σ c' hd ⟨bs, ws, q5, q6, q7, q8, q9, rfl, hb, hT, hbl, hw', hW', hwn, hk⟩
      obtain ⟨hi, rfl⟩ := rng_at hd
      rw [Nat.zero_add] at hbl hwn ⊢
      have hi2 : i < 21 := by rw [hln] at hi; split at hi <;> omega
      have h0' := hk.get h0 (by simpa using fun e => hw0 e.symm)
      obtain ⟨a, b, e1⟩ := left_ h0' (k := 3 + (i : Int)) (by omega) (by omega)
      have L1 : Lf c'.length 0 (c' ++ [.lst [.int a, .int b, .int 0]]) := ⟨a, b, get_new⟩
      obtain ⟨x, y, c2, e2, p2, k2⟩ := worth_ L1
      have hbl' := get_lt hb
      have hwl' := get_lt hw'
      have kc2 : Kq [c'.length] c' c2 := Kq.more.trans k2
      have hw2 := kc2.get hw' (by simp; omega)
      obtain ⟨s, t, ws2, c3, e3, ht, hw3, hW3, hwn3, k3⟩ := bF p2 hw2 hW' (by omega) (by omega)
      have hb3 : c3[c.length]? = some (.lst (bs.map rl)) := k3.get (kc2.get hb (by simp; omega)) (by simp; omega)
      have ap := mAppend_ (y := rl (t, x, y)) hb3 (by rw [List.length_map]; omega)
      have l3 := lstOf_lst hb3
      have kb : Kq [c.length] c3 (c3.set c.length (.lst (bs.map rl ++ [rl (t, x, y)]))) := Kq.set (by simp)
      refine ⟨_, c', [some (.ref 0), some (.int 3), some (.ref w), some (.int 8), some (.ref c.length), some (.int (3 + (i : Int))), some (.ref c'.length), some (.tup [.int x, .int y]), some (.ref s), some t], c3.set c.length (.lst (bs.map rl ++ [rl (t, x, y)])), rfl, ?_, ⟨bs ++ [(t, x, y)], ws2, _, _, _, _, _, rfl, ?_, ?_, by simp; omega, kb.get hw3 (by simp; omega), hW3, by omega, ?_⟩⟩
      · unfold LoopB2
        refine sSeq_of (σ1 := [some (.ref 0), some (.int 3), some (.ref w), some (.int 8), some (.ref c.length), some (.int (3 + (i : Int))), some (.ref c'.length), q7, q8, q9]) (c1 := c' ++ [.lst [.int a, .int b, .int 0]]) (by erw [e1]) ?_
        refine sSeq_of (σ1 := [some (.ref 0), some (.int 3), some (.ref w), some (.int 8), some (.ref c.length), some (.int (3 + (i : Int))), some (.ref c'.length), some (.tup [.int x, .int y]), q8, q9]) (c1 := c2) (by erw [e2]) ?_
        refine sSeq_of (σ1 := [some (.ref 0), some (.int 3), some (.ref w), some (.int 8), some (.ref c.length), some (.int (3 + (i : Int))), some (.ref c'.length), some (.tup [.int x, .int y]), some (.ref s), some t]) (c1 := c3) (by erw [e3]) ?_
        have ap' : mAppend (.ref c.length) [.tup [t, .tup [.int x, .int y]]] c3 = _ := ap
        erw [l3, ap']
      · rw [List.getElem?_set, if_pos rfl, if_pos (get_lt hb3)]; simp
      · intro r hr
        rcases List.mem_append.mp hr with hr | hr
        · exact hT r hr
        · rw [List.mem_singleton.mp hr]; exact ht
      · refine ((hk.less kc2 (fun z hz => ?_)).less k3 (fun z hz => ?_)).less kb (fun z hz => ?_)
        · simp at hz; exact .inr (by omega)
        · simp at hz
          rcases hz with rfl | rfl
          · exact .inr (by omega)
          · simp
        · simp at hz; exact .inr (by omega)) ⟨[], ws, none, none, none, none, none, rfl, get_new, (fun r hr => by cases hr), Nat.le_refl _, get_app hw, hW, by omega, Kq.more⟩
  obtain ⟨σ', c', e', bs, ws', q5, q6, q7, q8, q9, rfl, hb, hT, hbl, _, _, _, hk⟩ := key
  rw [rng_len, Nat.zero_add] at hbl
  have hbl2 : bs.length ≤ 8 := by rw [hln] at hbl; split at hbl <;> omega
  refine ⟨bs, c', ?_, hb, hT, hbl2, hk⟩
  have f1 : sFor (iRng2 (aCons (eV 1) (aCons (eB bMin2 (aCons (e2 gAdd (eV 1) (eV 3)) (aCons (eB bLen (aCons (eV 0) aNil)) aNil))) aNil))) (gName 5) LoopB2 [some (.ref 0), some (.int 3), some (.ref w), some (.int 8), some (.ref c.length), none, none, none, none, none] (c ++ [.lst []]) = _ := (sFor_ hr).trans e'
  have run : B_law_book [some (.ref 0), some (.int 3), some (.ref w), some (.int 8), none, none, none, none, none, none] c = some (.rt (.ref c.length), [some (.ref 0), some (.int 3), some (.ref w), some (.int 8), some (.ref c.length), q5, q6, q7, q8, q9], c') := by
    unfold B_law_book
    refine sSeq_of (σ1 := [some (.ref 0), some (.int 3), some (.ref w), some (.int 8), some (.ref c.length), none, none, none, none, none]) (c1 := c ++ [.lst []]) (by erw [line0]) ?_
    refine sSeq_of f1 ?_
    erw []
  erw [F_law_book, run]
def fi (p : Nat → Bool) : Nat → Nat → Option Nat
  | _, 0 => none
  | k, n + 1 => if p k = true then some k else fi p (k + 1) n
theorem fi_lt {p : Nat → Bool} : ∀ {n k i : Nat}, fi p k n = some i → i < k + n
  | 0, _, _, h => by cases h
  | n + 1, k, i, h => by
    unfold fi at h
    split at h
    · cases h; omega
    · have := fi_lt h; omega
def flO (V : Nat → D) : Option Nat → Fl
  | some i => .rt (V i)
  | none => .nx
theorem forGo_first {ks : List (Nat × Cell)} {g : XG} {body : XS} (p : Nat → Bool) (V : Nat → D) (P : Qm.Env → Cells → Prop) : ∀ (ds : List D) (k : Nat) (σ : Qm.Env) (c : Cells), (∀ σ c, P σ c → stays ks c) →
    (∀ i d σ c, ds[i]? = some d → P σ c → ∃ σ1 c1 σ2 c2, g d σ c = some (σ1, c1) ∧ body σ1 c1 = some (if p (k + i) = true then .rt (V (k + i)) else .nx, σ2, c2) ∧ P σ2 c2) → P σ c →
      ∃ σ' c', forGo ks g body ds σ c = some (flO V (fi p k ds.length), σ', c') ∧ P σ' c'
  | [], k, σ, c, hs, _, h => ⟨σ, c, by unfold forGo; rw [if_pos (hs σ c h)]; rfl, h⟩
  | d :: ds, k, σ, c, hs, ht, h => by
    obtain ⟨σ1, c1, σ2, c2, h1, h2, h3⟩ := ht 0 d σ c rfl h
    rw [Nat.add_zero] at h2
    unfold forGo
    rw [if_pos (hs σ c h), h1, Option.bind_some, h2, Option.bind_some, List.length_cons]
    unfold fi
    by_cases hp : p k = true
    · rw [if_pos hp, if_pos hp]
      exact ⟨σ2, c2, rfl, h3⟩
    · rw [if_neg hp, if_neg hp]
      exact forGo_first p V P ds (k + 1) σ2 c2 hs (fun i d' σ c hd hP => by
        have := ht (i + 1) d' σ c (by simpa using hd) hP
        rwa [show k + (i + 1) = k + 1 + i by omega] at this) h3
open Classical in
noncomputable def tv (ps : List (Str × D)) (t : D) : Bool := if h : ∃ b, HOk ps 26 t b ∧ LOk ps 26 t b then Classical.choose h else false
theorem tv_ {ps : List (Str × D)} {t : D} (hv : Dv ps) (h : Tr 26 t) : HOk ps 26 t (tv ps t) ∧ LOk ps 26 t (tv ps t) := by
  have hx := ev_ hv h
  unfold tv
  rw [dif_pos hx]
  exact Classical.choose_spec hx
noncomputable def pvB (ps : List (Str × D)) (bs : List (D × Int × Int)) (k : Nat) : Bool := match bs[k]? with
  | some r => tv ps r.1
  | none => false
theorem pv_at {ps : List (Str × D)} {bs : List (D × Int × Int)} {k : Nat} {r : D × Int × Int} (h : bs[k]? = some r) : pvB ps bs k = tv ps r.1 := by unfold pvB; rw [h]
def rD : Option Nat → D
  | some k => .int k
  | none => .non
theorem hF {ps : List (Str × D)} {n d : Nat} {t : D} {b : Bool} {c : Cells} (h : HOk ps n t b) (hn : n ≤ 60) (hc : c[d]? = some (.dct ps)) : F_holds [t, .ref d] c = some (.bl b, c) := by
  unfold F_holds
  exact h 60 c d hn hc
theorem lF {ps : List (Str × D)} {n d : Nat} {t : D} {b : Bool} {c : Cells} (h : LOk ps n t b) (hn : n ≤ 60) (hc : c[d]? = some (.dct ps)) : ∃ zs, F_law_true [t, .ref d] c = some (.bl b, c ++ zs) := by
  unfold F_law_true
  exact h 60 c d hn hc
theorem map_at {bs : List (D × Int × Int)} {i : Nat} {d : D} (h : (bs.map rl)[i]? = some d) : ∃ r, bs[i]? = some r ∧ d = rl r := by
  rw [List.getElem?_map] at h
  cases q : bs[i]? with
  | none => rw [q] at h; cases h
  | some r => rw [q] at h; cases h; exact ⟨r, rfl, rfl⟩
theorem first_ {ps : List (Str × D)} {bs : List (D × Int × Int)} {b d : Nat} {c : Cells} (hv : Dv ps) (hT : ∀ r ∈ bs, Tr 26 r.1) (hl : bs.length ≤ 20) (hb : c[b]? = some (.lst (bs.map rl))) (hd : c[d]? = some (.dct ps)) :
    F_first_holding [.ref b, .ref d] c = some (rD (fi (pvB ps bs) 0 bs.length), c) := by
  have sb := seqOf_lst hb
  have hr : iRng1 (aCons (eB bLen (aCons (eV 0) aNil)) aNil) [some (.ref b), some (.ref d), none] c = some (⟨rng 0 ((bs.map rl).length : Int).toNat, []⟩, c) := iRng1' (j := ((bs.map rl).length : Int)) (by erw [bLen_, sb]) (by rw [List.length_map]; omega)
  obtain ⟨σ', c', e', q, rfl, hcc⟩ := forGo_first (ks := []) (g := gName 2) (body := sIf (tV (eCall F_holds [] (aCons (e2 gIx (e2 gIx (eV 0) (eV 2)) (eC (.int 0))) (aCons (eV 1) aNil)))) (sRet (eV 2)) sNil) (pvB ps bs) (fun k => .int k)
    (fun σ c' => ∃ q, σ = [some (.ref b), some (.ref d), q] ∧ c' = c) (rng 0 ((bs.map rl).length : Int).toNat) 0 [some (.ref b), some (.ref d), none] c (fun _ _ _ => stays_nil) (by
      rintro i dd σ c' hdd ⟨q, rfl, rfl⟩
      obtain ⟨hi, rfl⟩ := rng_at hdd
      have hi2 : i < bs.length := by rw [List.length_map] at hi; omega
      have hbi : bs[i]? = some bs[i] := List.getElem?_eq_getElem hi2
      have hat : atD (bs.map rl) (0 + (i : Int)) = some (rl bs[i]) := by
        rw [Int.zero_add]
        exact atD_nat (by rw [List.getElem?_map, hbi]; rfl)
      have hf := hF (tv_ hv (hT bs[i] (List.getElem_mem hi2))).1 (by decide) hd
      have h0 : gIx (rl bs[i]) (.int 0) c' = some (bs[i].1, c') := rfl
      refine ⟨_, c', [some (.ref b), some (.ref d), some (.int (0 + (i : Int)))], c', rfl, ?_, ⟨_, rfl, rfl⟩⟩
      rw [Nat.zero_add, pv_at hbi]
      rw [Int.zero_add] at hat ⊢
      have gi : ∀ x y, gIx (.ref b) (.int y) x = (seqOf (.ref b) x).bind fun xs => (atD xs y).bind fun d => some (d, x) := fun _ _ => rfl
      cases htv : tv ps bs[i].1 with
      | true => rw [htv] at hf; erw [gi, sb, hat, h0, hf]
      | false => rw [htv] at hf; erw [gi, sb, hat, h0, hf]) ⟨none, rfl, rfl⟩
  have hlen : (rng 0 ((bs.map rl).length : Int).toNat).length = bs.length := by rw [rng_len, List.length_map]; omega
  rw [hlen, hcc] at e'
  have f1 : sFor (iRng1 (aCons (eB bLen (aCons (eV 0) aNil)) aNil)) (gName 2) (sIf (tV (eCall F_holds [] (aCons (e2 gIx (e2 gIx (eV 0) (eV 2)) (eC (.int 0))) (aCons (eV 1) aNil)))) (sRet (eV 2)) sNil) [some (.ref b), some (.ref d), none] c = _ := (sFor_ hr).trans e'
  rw [F_first_holding, mkF_, if_pos (show [D.ref b, D.ref d].length = 2 from rfl), B_first_holding]
  show (sSeq _ _ [some (.ref b), some (.ref d), none] c).bind fin = _
  rw [sSeq_, f1]
  cases fi (pvB ps bs) 0 bs.length with
  | none => rfl
  | some k => rfl
theorem lfirst_ {ps : List (Str × D)} {bs : List (D × Int × Int)} {b d : Nat} {c : Cells} (hv : Dv ps) (hT : ∀ r ∈ bs, Tr 26 r.1) (hl : bs.length ≤ 20) (hb : c[b]? = some (.lst (bs.map rl))) (hd : c[d]? = some (.dct ps)) :
    ∃ c', F_law_first [.ref b, .ref d] c = some (rD (fi (pvB ps bs) 0 bs.length), c') ∧ c <+: c' := by
  have hi : iEnum (aCons (eV 0) aNil) [some (.ref b), some (.ref d), none, none] c = some (⟨enumD (bs.map rl), [(b, .lst (bs.map rl))]⟩, c) := by
    have lb := lstOf_lst hb
    unfold iEnum
    simp [hb, lb]
  obtain ⟨σ', c', e', ⟨q, r, rfl⟩, hp⟩ := forGo_first (ks := [(b, .lst (bs.map rl))]) (g := gTup 2 (gCons (gName 2) (gCons (gName 3) gNil))) (body := sIf (tV (eCall F_law_true [] (aCons (e2 gIx (eV 3) (eC (.int 0))) (aCons (eV 1) aNil)))) (sRet (eV 2)) sNil) (pvB ps bs) (fun k => .int k)
    (fun σ c' => (∃ q r, σ = [some (.ref b), some (.ref d), q, r]) ∧ c <+: c') (enumD (bs.map rl)) 0 [some (.ref b), some (.ref d), none, none] c (by
      rintro σ c' ⟨_, hp⟩ z hz
      rw [List.mem_singleton.mp hz]
      exact pre_get hp hb) (by
      rintro i dd σ c' hdd ⟨⟨q, r, rfl⟩, hp⟩
      unfold enumD at hdd
      rw [List.getElem?_map, List.getElem?_zipIdx] at hdd
      cases hx : (bs.map rl)[i]? with
      | none => rw [hx] at hdd; cases hdd
      | some x =>
        rw [hx] at hdd
        simp at hdd
        subst hdd
        obtain ⟨r0, hr0, rfl⟩ := map_at hx
        obtain ⟨zs, hf⟩ := lF (c := c') (d := d) (tv_ hv (hT r0 (List.mem_of_getElem? hr0))).2 (by decide) (pre_get hp hd)
        have h0 : gIx (rl r0) (.int 0) c' = some (r0.1, c') := rfl
        refine ⟨[some (.ref b), some (.ref d), some (.int (i : Int)), some (rl r0)], c', [some (.ref b), some (.ref d), some (.int (i : Int)), some (rl r0)], c' ++ zs, rfl, ?_, ⟨⟨_, _, rfl⟩, hp.trans ⟨_, rfl⟩⟩⟩
        rw [Nat.zero_add, pv_at hr0]
        cases htv : tv ps r0.1 with
        | true => rw [htv] at hf; erw [h0, hf]
        | false => rw [htv] at hf; erw [h0, hf]) ⟨⟨none, none, rfl⟩, List.prefix_rfl⟩
  have hlen : (enumD (bs.map rl)).length = bs.length := by simp [enumD]
  rw [hlen] at e'
  have f1 : sFor (iEnum (aCons (eV 0) aNil)) (gTup 2 (gCons (gName 2) (gCons (gName 3) gNil))) (sIf (tV (eCall F_law_true [] (aCons (e2 gIx (eV 3) (eC (.int 0))) (aCons (eV 1) aNil)))) (sRet (eV 2)) sNil) [some (.ref b), some (.ref d), none, none] c = _ := (sFor_ hi).trans e'
  refine ⟨c', ?_, hp⟩
  rw [F_law_first, mkF_, if_pos (show [D.ref b, D.ref d].length = 2 from rfl), B_law_first]
  show (sSeq _ _ [some (.ref b), some (.ref d), none, none] c).bind fin = _
  rw [sSeq_, f1]
  cases fi (pvB ps bs) 0 bs.length with
  | none => rfl
  | some k => rfl
theorem tr_data {c : Cells} : ∀ {n : Nat} {t : D}, Tr n t → ∀ k, n + 1 ≤ k → ∃ dd, data c k t = some dd := by
  intro n t h
  have two : ∀ {k : Nat} {xs : List D} {ds : List PyData}, omap (data c k) xs = some ds → ∃ dd, data c (k + 1) (.tup xs) = some dd := fun {k xs ds} e => by
    have : data c (k + 1) (.tup xs) = (omap (data c k) xs).bind fun ds => some (.tuple ds) := rfl
    rw [this, e]
    exact ⟨_, rfl⟩
  have cons : ∀ {k : Nat} {x : D} {xs : List D} {d : PyData} {ds : List PyData}, data c k x = some d → omap (data c k) xs = some ds → omap (data c k) (x :: xs) = some (d :: ds) := fun {k x xs d ds} h1 h2 => by
    unfold omap
    rw [h1, h2]
    rfl
  have nil : ∀ {k : Nat}, omap (data c k) [] = some [] := rfl
  have st : ∀ {k : Nat} (x : Str), x.cps.toList.all (fun k => decide (k < 1114112)) = true → data c (k + 1) (.str x) = some (.str x) := fun x hx => data_str (ok_of hx)
  induction h with
  | @is n x y wx wy =>
    intro k hk
    obtain ⟨j, rfl⟩ : ∃ j, k = j + 1 + 1 := ⟨k - 2, by omega⟩
    exact two (cons (st "is" (by decide)) (cons (data_str wx.ok) (cons (data_str wy.ok) nil)))
  | @any n =>
    intro k hk
    obtain ⟨j, rfl⟩ : ∃ j, k = j + 1 + 1 := ⟨k - 2, by omega⟩
    exact two (cons (st "any" (by decide)) nil)
  | @not n t _ ih =>
    intro k hk
    obtain ⟨j, rfl⟩ : ∃ j, k = j + 1 + 1 := ⟨k - 2, by omega⟩
    obtain ⟨d1, h1⟩ := ih (j + 1) (by omega)
    exact two (cons (st "not" (by decide)) (cons h1 nil))
  | @and n t u _ _ ih1 ih2 =>
    intro k hk
    obtain ⟨j, rfl⟩ : ∃ j, k = j + 1 + 1 := ⟨k - 2, by omega⟩
    obtain ⟨d1, h1⟩ := ih1 (j + 1) (by omega)
    obtain ⟨d2, h2⟩ := ih2 (j + 1) (by omega)
    exact two (cons (st "and" (by decide)) (cons h1 (cons h2 nil)))
  | @or n t u _ _ ih1 ih2 =>
    intro k hk
    obtain ⟨j, rfl⟩ : ∃ j, k = j + 1 + 1 := ⟨k - 2, by omega⟩
    obtain ⟨d1, h1⟩ := ih1 (j + 1) (by omega)
    obtain ⟨d2, h2⟩ := ih2 (j + 1) (by omega)
    exact two (cons (st "or" (by decide)) (cons h1 (cons h2 nil)))
theorem book_data {c : Cells} : ∀ (bs : List (D × Int × Int)), (∀ r ∈ bs, Tr 26 r.1) → ∃ ds, omap (data c 59) (bs.map rl) = some ds
  | [], _ => ⟨[], rfl⟩
  | r :: bs, h => by
    obtain ⟨ds, ih⟩ := book_data (c := c) bs fun q hq => h q (List.mem_cons_of_mem _ hq)
    obtain ⟨d1, h1⟩ := tr_data (c := c) (h r (List.mem_cons_self ..)) 58 (by decide)
    have h2 : data c 59 (rl r) = some (.tuple [d1, .tuple [.int r.2.1, .int r.2.2]]) := by
      have : data c 59 (rl r) = (omap (data c 58) [r.1, .tup [.int r.2.1, .int r.2.2]]).bind fun ds => some (.tuple ds) := rfl
      rw [this]
      unfold omap omap omap
      rw [h1]
      rfl
    refine ⟨.tuple [d1, .tuple [.int r.2.1, .int r.2.2]] :: ds, ?_⟩
    rw [List.map_cons]
    unfold omap
    rw [h2, ih]
    rfl
theorem gNeW_self {a b : Nat} {c : Cells} {bs : List (D × Int × Int)} (ha : c[a]? = some (.lst (bs.map rl))) (hb : c[b]? = some (.lst (bs.map rl))) (h : ∀ r ∈ bs, Tr 26 r.1) : gNeW (.ref a) (.ref b) c = some (.bl false, c) := by
  obtain ⟨ds, e⟩ := book_data (c := c) bs h
  unfold gNeW eqMW
  rw [data_lst ha e, data_lst hb e]
  simp
theorem Kd.keepW {lo d w : Nat} {c c' : Cells} {p : Str × D} {ws : List (Str × Str)} (h : Kd lo d c p) (k : Kq [w] c c') (hw : c[w]? = some (.lst (ws.map pr))) : Kd lo d c' p := by
  obtain ⟨wx, n, wl, h1, h2, h3, h4, h5⟩ := h
  refine ⟨wx, n, wl, h1, h2, h3, k.get h4 (fun hn => ?_), h5⟩
  have hn' : n = w := by simpa using hn
  rw [hn', hw] at h4
  have h4' : ws.map pr = wl.map D.str := by
    have := Option.some.inj h4
    injection this
  cases wl with
  | nil => exact h5.1 rfl
  | cons a l =>
    cases ws with
    | nil => simp at h4'
    | cons b l' =>
      rw [List.map_cons, List.map_cons] at h4'
      have := (List.cons.inj h4').1
      unfold pr at this
      cases this
structure CL (lo f B : Nat) (qs : List (List (Str × Str))) (ns : List Nat) (c : Cells) : Prop where
  lof : lo ≤ f
  at_ : c[f]? = some (.lst (ns.map D.ref))
  len : ns.length = qs.length
  each : ∀ (i : Nat) n q, ns[i]? = some n → qs[i]? = some q → lo ≤ n ∧ n ≠ f ∧ c[n]? = some (.dct (dm q)) ∧ QOk q ∧ q.length ≤ B
theorem CL.keep {lo f B : Nat} {qs : List (List (Str × Str))} {ns : List Nat} {c c' : Cells} {S : List Nat} (h : CL lo f B qs ns c) (k : Kq S c c') (hs : ∀ x ∈ S, x < lo ∨ c.length ≤ x) : CL lo f B qs ns c' := by
  refine ⟨h.lof, k.get h.at_ (fun hf => ?_), h.len, fun i n q h1 h2 => ?_⟩
  · have := get_lt h.at_
    have := h.lof
    rcases hs f hf with z | z <;> omega
  · obtain ⟨a, b, d, e⟩ := h.each i n q h1 h2
    refine ⟨a, b, k.get d (fun hn => ?_), e⟩
    have := get_lt d
    rcases hs n hn with z | z <;> omega
theorem CL.mono {lo f B B' : Nat} {qs : List (List (Str × Str))} {ns : List Nat} {c : Cells} (h : CL lo f B qs ns c) (hB : B ≤ B') : CL lo f B' qs ns c :=
  ⟨h.lof, h.at_, h.len, fun i n q h1 h2 => let ⟨a, b, d, e, g⟩ := h.each i n q h1 h2; ⟨a, b, d, e, Nat.le_trans g hB⟩⟩
theorem CL.add {lo f B : Nat} {qs : List (List (Str × Str))} {ns : List Nat} {c : Cells} (h : CL lo f B qs ns c) {q : List (Str × Str)} {x y : Str} (hq : QOk q) (hl : q.length < B) (oy : y.cps.all (fun k => decide (k < 1114112)) = true) :
    CL lo f B (qs ++ [dPut q x y]) (ns ++ [c.length]) ((c ++ [Cell.dct (dm (dPut q x y))]).set f (.lst ((ns ++ [c.length]).map D.ref))) ∧ Kq [f] c ((c ++ [Cell.dct (dm (dPut q x y))]).set f (.lst ((ns ++ [c.length]).map D.ref))) := by
  have hf := get_lt h.at_
  have hlf := h.lof
  have kk : Kq [f] c ((c ++ [Cell.dct (dm (dPut q x y))]).set f (.lst ((ns ++ [c.length]).map D.ref))) := Kq.more.trans (Kq.set (by simp))
  refine ⟨⟨h.lof, ?_, by simp [h.len], fun i n q' h1 h2 => ?_⟩, kk⟩
  · rw [List.getElem?_set, if_pos rfl, if_pos (by rw [List.length_append]; omega)]
  · by_cases hi : i < ns.length
    · rw [List.getElem?_append_left hi] at h1
      rw [List.getElem?_append_left (by rw [← h.len]; exact hi)] at h2
      obtain ⟨a, b, d, e⟩ := h.each i n q' h1 h2
      exact ⟨a, b, kk.get d (by simpa using b), e⟩
    · have hi2 : i = ns.length := by
        have := (List.getElem?_eq_some_iff.mp h1).1
        rw [List.length_append] at this
        simp only [List.length_cons, List.length_nil] at this
        omega
      subst hi2
      have e1 : n = c.length := by simpa using h1.symm
      have e2 : q' = dPut q x y := by
        rw [h.len] at h2
        simpa using h2.symm
      subst e1 e2
      refine ⟨by omega, by omega, ?_, dPut_ok hq oy, Nat.le_trans dPut_len hl⟩
      rw [List.getElem?_set, if_neg (by omega)]
      exact get_new
theorem inner_gen {ks : List (Nat × Cell)} {g : XG} {body : XS} {lo f B : Nat} {x : Str} {q : List (Str × Str)} {c : Cells} (E : Qm.Env → Prop) (hq : QOk q) (hql : q.length < B) (hks : ∀ c', Kq [f] c c' → stays ks c') (ms : List Str) (hm : ∀ y ∈ ms, Wd y)
    (hb : ∀ y σ c' qs ns, Wd y → E σ → CL lo f B qs ns c' → Kq [f] c c' → ns.length < 9000000 → ∃ σ1 σ2, g (.str y) σ c' = some (σ1, c') ∧ body σ1 c' = some (.nx, σ2, (c' ++ [Cell.dct (dm (dPut q x y))]).set f (.lst ((ns ++ [c'.length]).map D.ref))) ∧ E σ2)
    {σ : Qm.Env} {qs : List (List (Str × Str))} {ns : List Nat} (hE : E σ) (hc : CL lo f B qs ns c) (hn : qs.length + ms.length ≤ 9000000) :
    ∃ σ' c' ns', forGo ks g body (ms.map D.str) σ c = some (.nx, σ', c') ∧ E σ' ∧ CL lo f B (qs ++ ms.map fun y => dPut q x y) ns' c' ∧ Kq [f] c c' := by
  have key := forGo_inv (ks := ks) (g := g) (body := body) (fun i σ c' => ∃ ns', E σ ∧ CL lo f B (qs ++ (ms.take i).map fun y => dPut q x y) ns' c' ∧ Kq [f] c c') (ms.map D.str) 0 σ c (fun _ _ _ ⟨_, _, _, hk⟩ => hks _ hk) (by
    rintro i d σ c' hd ⟨ns', hE', hC, hk⟩
    rw [Nat.zero_add] at hC ⊢
    rw [List.getElem?_map] at hd
    cases hy : ms[i]? with
    | none => rw [hy] at hd; cases hd
    | some y =>
      rw [hy] at hd
      cases hd
      have hi : i < ms.length := (List.getElem?_eq_some_iff.mp hy).1
      have wy := hm y (List.mem_of_getElem? hy)
      have hl := hC.len
      rw [List.length_append, List.length_map, List.length_take] at hl
      obtain ⟨σ1, σ2, e1, e2, hE2⟩ := hb y σ c' _ ns' wy hE' hC hk (by omega)
      obtain ⟨a1, a2⟩ := hC.add (x := x) hq hql wy.ok
      refine ⟨σ1, c', σ2, _, e1, e2, ⟨ns' ++ [c'.length], hE2, ?_, hk.trans a2⟩⟩
      have ht : ms.take (i + 1) = ms.take i ++ [y] := by rw [List.take_add_one, hy]; rfl
      rw [ht, List.map_append, ← List.append_assoc]
      exact a1) ⟨ns, hE, by simpa using hc, Kq.refl _ _⟩
  obtain ⟨σ', c', e', ns', hE', hC, hk⟩ := key
  rw [List.length_map, Nat.zero_add, List.take_length] at hC
  exact ⟨σ', c', ns', e', hE', hC, hk⟩
def grow (x : Str) (ms : List Str) (qs : List (List (Str × Str))) : List (List (Str × Str)) := qs.flatMap fun q => ms.map fun y => dPut q x y
theorem grow_len {x : Str} {ms : List Str} : ∀ {qs : List (List (Str × Str))}, (grow x ms qs).length = qs.length * ms.length
  | [] => by simp [grow]
  | q :: qs => by
    have ih := grow_len (x := x) (ms := ms) (qs := qs)
    unfold grow at ih ⊢
    rw [List.flatMap_cons, List.length_append, ih, List.length_map, List.length_cons, Nat.succ_mul, Nat.add_comm]
theorem outer_gen {ks : List (Nat × Cell)} {g : XG} {body : XS} {lo lo0 f f0 B B0 : Nat} {x : Str} {c : Cells} (E : Qm.Env → Prop) (hks : ∀ c', Kq [f] c c' → stays ks c') (ms : List Str)
    (hb : ∀ n q σ c' qs ns, c'[n]? = some (.dct (dm q)) → n ≠ f → QOk q → q.length ≤ B0 → E σ → CL lo f B qs ns c' → Kq [f] c c' → qs.length + ms.length ≤ 9000000 → ∃ σ1 σ2 c2 ns2, g (.ref n) σ c' = some (σ1, c') ∧ body σ1 c' = some (.nx, σ2, c2) ∧ E σ2 ∧ CL lo f B (qs ++ ms.map fun y => dPut q x y) ns2 c2 ∧ Kq [f] c' c2)
    {σ : Qm.Env} {qs0 : List (List (Str × Str))} {ns0 : List Nat} (h0 : CL lo0 f0 B0 qs0 ns0 c) (hff : ∀ n ∈ ns0, n ≠ f) (hE : E σ) {ns : List Nat} (hc : CL lo f B [] ns c) (hn : qs0.length * ms.length ≤ 9000000) :
    ∃ σ' c' ns', forGo ks g body (ns0.map D.ref) σ c = some (.nx, σ', c') ∧ E σ' ∧ CL lo f B (grow x ms qs0) ns' c' ∧ Kq [f] c c' := by
  have key := forGo_inv (ks := ks) (g := g) (body := body) (fun i σ c' => ∃ ns', E σ ∧ CL lo f B (grow x ms (qs0.take i)) ns' c' ∧ Kq [f] c c') (ns0.map D.ref) 0 σ c (fun _ _ _ ⟨_, _, _, hk⟩ => hks _ hk) (by
    rintro i d σ c' hd ⟨ns', hE', hC, hk⟩
    rw [Nat.zero_add] at hC ⊢
    rw [List.getElem?_map] at hd
    cases hy : ns0[i]? with
    | none => rw [hy] at hd; cases hd
    | some n =>
      rw [hy] at hd
      cases hd
      have hi : i < ns0.length := (List.getElem?_eq_some_iff.mp hy).1
      have hi2 : i < qs0.length := by rw [← h0.len]; exact hi
      have hq := List.getElem?_eq_getElem hi2
      obtain ⟨a, b, d, e, hB⟩ := h0.each i n qs0[i] hy hq
      have hnf := hff n (List.mem_of_getElem? hy)
      have hlen : (grow x ms (qs0.take i)).length + ms.length ≤ 9000000 := by
        rw [grow_len, List.length_take, ← Nat.succ_mul]
        refine Nat.le_trans (Nat.mul_le_mul_right _ ?_) hn
        omega
      obtain ⟨σ1, σ2, c2, ns2, e1, e2, hE2, hC2, hk2⟩ := hb n qs0[i] σ c' _ ns' (hk.get d (by simpa using hnf)) hnf e hB hE' hC hk hlen
      refine ⟨σ1, c', σ2, c2, e1, e2, ⟨ns2, hE2, ?_, hk.trans hk2⟩⟩
      have ht : qs0.take (i + 1) = qs0.take i ++ [qs0[i]] := by rw [List.take_add_one, hq]; rfl
      rw [ht]
      unfold grow at hC2 ⊢
      rw [List.flatMap_append]
      simpa using hC2) ⟨ns, hE, by simpa [grow] using hc, Kq.refl _ _⟩
  obtain ⟨σ', c', e', ns', hE', hC, hk⟩ := key
  rw [List.length_map, Nat.zero_add, h0.len, List.take_length] at hC
  exact ⟨σ', c', ns', e', hE', hC, hk⟩
theorem mAppendL {a : Nat} {xs : List D} {y : D} {c : Cells} (h : c[a]? = some (.lst xs)) (hl : xs.length < 9000000) : mAppend (.ref a) [y] c = some (.non, c.set a (.lst (xs ++ [y]))) := by
  have : mAppend (.ref a) [y] c = (lstOf (.ref a) c).bind fun l => if l.2.length < LINE then some (.non, c.set l.1 (.lst (l.2 ++ [y]))) else none := rfl
  rw [this, lstOf_lst h]
  dsimp only [Option.bind_some]
  rw [if_pos (by rw [LINE_eq]; omega)]
theorem bDict_ {n : Nat} {ps : List (Str × D)} {c : Cells} (h : c[n]? = some (.dct ps)) : bDict [.ref n] c = some (.ref c.length, c ++ [.dct ps]) := by
  have : bDict [.ref n] c = (dcOf (.ref n) c).bind fun l => some (.ref c.length, c ++ [.dct l.2]) := rfl
  rw [this, dcOf_ h]
  rfl
noncomputable def LoopN : XS := (sSeq (sSet 6 (eB bDict (aCons (eV 4) aNil)))
      (sSeq (sDPut (eV 6) (eV 1) (eV 5))
      (sExpr (eM mAppend (eV 3) (aCons (eV 6) aNil)))))
theorem with_ {lo0 f0 B : Nat} {x : Str} {ms : List Str} {mk : Nat} {c : Cells} {qs0 : List (List (Str × Str))} {ns0 : List Nat} (h0 : CL lo0 f0 B qs0 ns0 c) (hmk : c[mk]? = some (.lst (ms.map D.str))) (hm : ∀ y ∈ ms, Wd y) (hn : qs0.length * ms.length ≤ 9000000) (hB : B < 9000) :
    ∃ c' ns', F_with_name [.ref f0, .str x, .ref mk] c = some (.ref c.length, c') ∧ CL c.length c.length (B + 1) (grow x ms qs0) ns' c' ∧ Kq [] c c' := by
  have hf0 := get_lt h0.at_
  have hmkl := get_lt hmk
  have hns : ∀ n ∈ ns0, n ≠ c.length := fun n hn => by
    obtain ⟨i, hi⟩ := List.mem_iff_getElem?.mp hn
    have hl : i < qs0.length := by rw [← h0.len]; exact (List.getElem?_eq_some_iff.mp hi).1
    obtain ⟨_, _, d, _⟩ := h0.each i n _ hi (List.getElem?_eq_getElem hl)
    have := get_lt d
    omega
  have hi0 := iLst_ (a := eV 0) (σ := [some (.ref f0), some (.str x), some (.ref mk), some (.ref c.length), none, none, none]) (c := c ++ [.lst []]) rfl (get_app h0.at_)
  have C0 : CL c.length c.length (B + 1) [] [] (c ++ [.lst []]) := ⟨Nat.le_refl _, get_new, rfl, fun i n q h1 _ => by simp at h1⟩
  obtain ⟨σ', c', ns', e', ⟨p4, p5, p6, rfl⟩, hC, hk⟩ := outer_gen (ks := [(f0, .lst (ns0.map D.ref))]) (g := gName 4) (body := sFor (iLst (eV 2)) (gName 5) LoopN) (lo := c.length) (f := c.length) (B := B + 1) (x := x) (c := c ++ [.lst []])
    (fun σ => ∃ p4 p5 p6, σ = [some (.ref f0), some (.str x), some (.ref mk), some (.ref c.length), p4, p5, p6]) (by
      intro c' hk p hp
      rw [List.mem_singleton.mp hp]
      exact hk.get (get_app h0.at_) (by simp; omega)) ms (by
      rintro n q σ c' qs ns hnq hnf hq hqB ⟨p4, p5, p6, rfl⟩ hC hk hlen
      have hmk' := hk.get (get_app (zs := [.lst []]) hmk) (by simp; omega)
      have hi2 := iLst_ (a := eV 2) (σ := [some (.ref f0), some (.str x), some (.ref mk), some (.ref c.length), some (.ref n), p5, p6]) (c := c') rfl hmk'
      obtain ⟨σ2, c2, ns2, e2, ⟨r5, r6, rfl⟩, hC2, hk2⟩ := inner_gen (ks := [(mk, .lst (ms.map D.str))]) (g := gName 5) (body := LoopN) (lo := c.length) (f := c.length) (B := B + 1) (x := x) (q := q) (c := c')
        (fun σ => ∃ p5 p6, σ = [some (.ref f0), some (.str x), some (.ref mk), some (.ref c.length), some (.ref n), p5, p6]) hq (by omega) (by
          intro c3 hk3 p hp
          rw [List.mem_singleton.mp hp]
          exact hk3.get hmk' (by simp; omega)) ms hm (by
          rintro y σ c3 qs3 ns3 wy ⟨p5, p6, rfl⟩ hC3 hk3 hl3
          have hn3 := hk3.get hnq (by simpa using hnf)
          have hf3 := get_lt hC3.at_
          have b1 := bDict_ hn3
          have b2 : sDPut (eV 6) (eV 1) (eV 5) [some (.ref f0), some (.str x), some (.ref mk), some (.ref c.length), some (.ref n), some (.str y), some (.ref c3.length)] (c3 ++ [.dct (dm q)]) = _ := sDPut_ rfl rfl rfl get_new (by omega)
          have e1 : (c3 ++ [Cell.dct (dm q)]).set c3.length (.dct (dm (dPut q x y))) = c3 ++ [.dct (dm (dPut q x y))] := by simp
          rw [e1] at b2
          have hat : (c3 ++ [Cell.dct (dm (dPut q x y))])[c.length]? = some (.lst (ns3.map D.ref)) := get_app hC3.at_
          have b3 := mAppendL (y := .ref c3.length) hat (by rw [List.length_map]; exact hl3)
          have l3 := lstOf_lst hat
          refine ⟨_, [some (.ref f0), some (.str x), some (.ref mk), some (.ref c.length), some (.ref n), some (.str y), some (.ref c3.length)], rfl, ?_, ⟨_, _, rfl⟩⟩
          unfold LoopN
          refine sSeq_of (σ1 := [some (.ref f0), some (.str x), some (.ref mk), some (.ref c.length), some (.ref n), some (.str y), some (.ref c3.length)]) (c1 := c3 ++ [.dct (dm q)]) (by erw [b1]) ?_
          refine sSeq_of b2 ?_
          rw [List.map_append]
          erw [l3, b3]) ⟨p5, p6, rfl⟩ hC hlen
      exact ⟨_, _, c2, ns2, rfl, (sFor_ hi2).trans e2, ⟨_, _, _, rfl⟩, hC2, hk2⟩) (h0.keep (Kq.more (S := [])) (fun y hy => by cases hy)) hns ⟨none, none, none, rfl⟩ C0 hn
  refine ⟨c', ns', ?_, hC, (Kq.more (S := [])).less hk (fun y hy => by simp at hy; exact .inr (by omega))⟩
  have f1 : sFor (iLst (eV 0)) (gName 4) (sFor (iLst (eV 2)) (gName 5) LoopN) [some (.ref f0), some (.str x), some (.ref mk), some (.ref c.length), none, none, none] (c ++ [.lst []]) = _ := (sFor_ hi0).trans e'
  have run : B_with_name [some (.ref f0), some (.str x), some (.ref mk), none, none, none, none] c = some (.rt (.ref c.length), [some (.ref f0), some (.str x), some (.ref mk), some (.ref c.length), p4, p5, p6], c') := by
    unfold B_with_name
    refine sSeq_of (σ1 := [some (.ref f0), some (.str x), some (.ref mk), some (.ref c.length), none, none, none]) (c1 := c ++ [.lst []]) (by erw [line0]) ?_
    refine sSeq_of f1 ?_
    erw []
  erw [F_with_name, run]
def Km (lo d : Nat) (c : Cells) (p : Str × D) (q : Str × List Str) : Prop := p.1 = q.1 ∧ Wd p.1 ∧ ∃ n, p.2 = .ref n ∧ lo ≤ n ∧ n ≠ d ∧ c[n]? = some (.lst (q.2.map D.str)) ∧ q.2.length ≤ 12 ∧ ∀ w ∈ q.2, Wd w
structure KL (lo d : Nat) (c : Cells) (ps : List (Str × D)) (kl : List (Str × List Str)) : Prop where
  len : ps.length = kl.length
  each : ∀ (i : Nat) p q, ps[i]? = some p → kl[i]? = some q → Km lo d c p q
theorem KL.of {lo d : Nat} {c : Cells} : ∀ {ps : List (Str × D)}, (∀ p ∈ ps, Kd lo d c p) → ∃ kl, KL lo d c ps kl
  | [], _ => ⟨[], rfl, fun i p q h1 _ => by simp at h1⟩
  | p :: ps, h => by
    obtain ⟨kl, hk⟩ := KL.of (ps := ps) fun q hq => h q (List.mem_cons_of_mem _ hq)
    obtain ⟨wx, n, ws, h1, h2, h3, h4, h5, h6, h7⟩ := h p (List.mem_cons_self ..)
    refine ⟨(p.1, ws) :: kl, by simp [hk.len], fun i p' q' g1 g2 => ?_⟩
    cases i with
    | zero =>
      simp at g1 g2
      subst g1 g2
      exact ⟨rfl, wx, n, h1, h2, h3, h4, h6, h7⟩
    | succ i => exact hk.each i p' q' (by simpa using g1) (by simpa using g2)
theorem KL.keep {lo d : Nat} {c c' : Cells} {ps : List (Str × D)} {kl : List (Str × List Str)} {S : List Nat} (h : KL lo d c ps kl) (k : Kq S c c') (hs : ∀ x ∈ S, x < lo ∨ x = d ∨ c.length ≤ x) : KL lo d c' ps kl := by
  refine ⟨h.len, fun i p q g1 g2 => ?_⟩
  obtain ⟨a, wx, n, h1, h2, h3, h4, h5⟩ := h.each i p q g1 g2
  refine ⟨a, wx, n, h1, h2, h3, k.get h4 (fun hn => ?_), h5⟩
  have := get_lt h4
  rcases hs n hn with z | z | z <;> omega
def chs (kl : List (Str × List Str)) : List (List (Str × Str)) := kl.foldl (fun qs k => grow k.1 k.2 qs) [[]]
theorem chs_more {kl : List (Str × List Str)} {k : Str × List Str} : chs (kl ++ [k]) = grow k.1 k.2 (chs kl) := by unfold chs; rw [List.foldl_append]; rfl
theorem chs_take {kl : List (Str × List Str)} {i : Nat} {k : Str × List Str} (h : kl[i]? = some k) : chs (kl.take (i + 1)) = grow k.1 k.2 (chs (kl.take i)) := by
  rw [List.take_add_one, h]
  exact chs_more
theorem chs_len {kl : List (Str × List Str)} (h : ∀ k ∈ kl, k.2.length ≤ 12) : ∀ i, (chs (kl.take i)).length ≤ 12 ^ i
  | 0 => by simp [chs]
  | i + 1 => by
    have ih := chs_len h i
    cases hk : kl[i]? with
    | none => rw [List.take_add_one, hk, Option.toList_none, List.append_nil]; exact Nat.le_trans ih (Nat.pow_le_pow_right (by decide) (by omega))
    | some k =>
      rw [chs_take hk, grow_len, Nat.pow_succ]
      exact Nat.mul_le_mul ih (h k (List.mem_of_getElem? hk))
theorem KL.small {lo d : Nat} {c : Cells} {ps : List (Str × D)} {kl : List (Str × List Str)} (h : KL lo d c ps kl) : ∀ k ∈ kl, k.2.length ≤ 12 := by
  intro k hk
  obtain ⟨i, hi⟩ := List.mem_iff_getElem?.mp hk
  have hl : i < ps.length := by rw [h.len]; exact (List.getElem?_eq_some_iff.mp hi).1
  obtain ⟨_, _, _, _, _, _, _, h5, _⟩ := h.each i _ k (List.getElem?_eq_getElem hl) hi
  exact h5
theorem CL.low {lo lo' f B : Nat} {qs : List (List (Str × Str))} {ns : List Nat} {c : Cells} (h : CL lo f B qs ns c) (hl : lo' ≤ lo) : CL lo' f B qs ns c :=
  ⟨Nat.le_trans hl h.lof, h.at_, h.len, fun i n q h1 h2 => let ⟨a, b⟩ := h.each i n q h1 h2; ⟨Nat.le_trans hl a, b⟩⟩
theorem iKeys_any {a : XE} {σ : Qm.Env} {c c1 : Cells} {n : Nat} {ps : List (Str × D)} (ha : a σ c = some (.ref n, c1)) (h : c1[n]? = some (.dct ps) ∨ c1[n]? = some (.dro ps)) : ∃ c2, iKeys a σ c = some (⟨ps.map fun q => .str q.1, [(n, .dro ps)]⟩, c2) ∧ c2[n]? = some (.dro ps) ∧ Kq [n] c1 c2 := by
  rcases h with h | h
  · exact ⟨_, iKeys_dct ha h, by rw [List.getElem?_set, if_pos rfl, if_pos (get_lt h)], Kq.set (by simp)⟩
  · exact ⟨_, iKeys_dro ha h, h, Kq.refl _ _⟩
theorem pow6 {i : Nat} (h : i < 6) {n : Nat} (hn : n ≤ 12 ^ i) {m : Nat} (hm : m ≤ 12) : n * m ≤ 9000000 := by
  have h1 : 12 ^ i ≤ 12 ^ 5 := Nat.pow_le_pow_right (by decide) (by omega)
  have h2 : n ≤ 248832 := Nat.le_trans hn h1
  have := Nat.mul_le_mul h2 hm
  omega
theorem begin_ {c : Cells} {d : Nat} (hd : d < c.length) : CL c.length (c.length + 1) 0 (chs []) [c.length] (c ++ [.dct []] ++ [.lst [.ref c.length]]) := by
  refine ⟨by omega, ?_, rfl, fun i n q h1 h2 => ?_⟩
  · have : (c ++ [Cell.dct []]).length = c.length + 1 := by simp
    rw [← this]
    exact get_new
  · cases i with
    | zero =>
      have e1 : c.length = n := by simpa using h1
      have e2 : ([] : List (Str × Str)) = q := by simpa [chs] using h2
      subst e1 e2
      exact ⟨Nat.le_refl _, by omega, get_app get_new, ⟨by simp, by simp⟩, Nat.le_refl _⟩
    | succ i => simp at h1
noncomputable def LoopC : XS := (sSet 1 (eCall F_with_name [] (aCons (eV 1) (aCons (eV 2) (aCons (eRIx (eV 0) (eV 2)) aNil)))))
theorem choices_ {d lo : Nat} {ps : List (Str × D)} {kl : List (Str × List Str)} {c : Cells} (hd : c[d]? = some (.dct ps) ∨ c[d]? = some (.dro ps)) (hnd : (ps.map Prod.fst).Nodup) (hpl : ps.length ≤ 6) (hK : KL lo d c ps kl) :
    ∃ f c' ns, F_choices_of [.ref d] c = some (.ref f, c') ∧ CL c.length f 6 (chs kl) ns c' ∧ c'[d]? = some (.dro ps) ∧ Kq [d] c c' := by
  have hdl : d < c.length := hd.elim get_lt get_lt
  have k1 : Kq [d] c (c ++ [.dct []] ++ [.lst [.ref c.length]]) := Kq.more.trans Kq.more
  obtain ⟨c2, hi, hd2, k2⟩ := iKeys_any (a := eV 0) (σ := [some (.ref d), some (.ref (c.length + 1)), none]) (c := c ++ [.dct []] ++ [.lst [.ref c.length]]) rfl (hd.imp (fun h => get_app (get_app h)) (fun h => get_app (get_app h)))
  have C0 := (begin_ hdl).keep k2 (fun x hx => by simp at hx; exact .inl (by omega))
  have hK2 := (hK.keep k1 (fun x hx => by simp at hx; exact .inr (.inl hx))).keep k2 (fun x hx => by simp at hx; exact .inr (.inl hx))
  have key := forGo_inv (ks := [(d, .dro ps)]) (g := gName 2) (body := LoopC)
    (fun i σ c' => ∃ f ns nm, σ = [some (.ref d), some (.ref f), nm] ∧ CL c.length f i (chs (kl.take i)) ns c' ∧ Kq [] c2 c') (ps.map fun q => .str q.1) 0 [some (.ref d), some (.ref (c.length + 1)), none] c2
    (by
      rintro i σ c' ⟨_, _, _, _, _, hk⟩ p hp
      rw [List.mem_singleton.mp hp]
      exact hk.get hd2 (by simp)) (by
      rintro i dd σ c' hdd ⟨f, ns, nm, rfl, hC, hk⟩
      rw [Nat.zero_add] at hC ⊢
      rw [List.getElem?_map] at hdd
      cases hp : ps[i]? with
      | none => rw [hp] at hdd; cases hdd
      | some p =>
        rw [hp] at hdd
        cases hdd
        have hpm := List.mem_of_getElem? hp
        have hil : i < ps.length := (List.getElem?_eq_some_iff.mp hp).1
        have hkl := List.getElem?_eq_getElem (show i < kl.length by rw [← hK.len]; exact hil)
        obtain ⟨a, wx, n, h1, h2, h3, h4, h5, h6⟩ := (hK2.keep hk (fun y hy => by cases hy)).each i p _ hp hkl
        have hd' := hk.get hd2 (by simp)
        have hat := dAt_self hnd hpm
        rw [h1] at hat
        have ix : eRIx (eV 0) (eV 2) [some (.ref d), some (.ref f), some (.str p.1)] c' = some (.ref n, c') := eRIx_ rfl rfl hd' hat
        obtain ⟨c3, ns3, e3, hC3, hk3⟩ := with_ (x := p.1) hC h4 h6 (pow6 (by omega) (chs_len hK.small i) h5) (by omega)
        refine ⟨_, c', [some (.ref d), some (.ref c'.length), some (.str p.1)], c3, rfl, ?_, ⟨c'.length, ns3, _, rfl, ?_, hk.trans hk3⟩⟩
        · unfold LoopC
          erw [ix, e3]
        · rw [chs_take hkl, ← a]
          have := hk.len
          have l1 := k1.len
          have l2 := k2.len
          exact hC3.low (by omega)) ⟨_, _, _, rfl, by simpa using C0, Kq.refl _ _⟩
  obtain ⟨σ', c', e', f, ns, nm, rfl, hC, hk⟩ := key
  rw [List.length_map, Nat.zero_add, hK.len, List.take_length] at hC
  refine ⟨f, c', ns, ?_, hC.mono (by rw [← hK.len]; exact hpl), hk.get hd2 (by simp), (k1.trans k2).less hk (fun y hy => by cases hy)⟩
  have f1 : sFor (iKeys (eV 0)) (gName 2) LoopC [some (.ref d), some (.ref (c.length + 1)), none] (c ++ [.dct []] ++ [.lst [.ref c.length]]) = _ := (sFor_ hi).trans e'
  have n1 : ∀ σ c, eDNew σ c = some (.ref c.length, c ++ [.dct []]) := fun _ _ => rfl
  have l1 : (c ++ [Cell.dct []]).length = c.length + 1 := by simp
  have run : B_choices_of [some (.ref d), none, none] c = some (.rt (.ref f), [some (.ref d), some (.ref f), nm], c') := by
    unfold B_choices_of
    refine sSeq_of (σ1 := [some (.ref d), some (.ref (c.length + 1)), none]) (c1 := c ++ [.dct []] ++ [.lst [.ref c.length]]) (by erw [n1, l1]) ?_
    refine sSeq_of f1 ?_
    erw []
  erw [F_choices_of, run]
noncomputable def LoopD : XS := (sSeq (sExpr (eM mAppend (eV 3) (aCons (eB bDict (aCons (eV 4) aNil)) aNil)))
      (sDPut (e2 gIx (eV 3) (e1 gNeg (eC (.int 1)))) (eV 2) (eV 5)))
noncomputable def LoopE : XS := (sSeq (sSet 3 (eLst aNil))
      (sSeq (sFor (iLst (eV 1)) (gName 4)
      (sFor (iLst (eRIx (eV 0) (eV 2))) (gName 5) LoopD))
      (sSet 1 (eV 3))))
theorem gIx_last {n : Nat} {xs : List D} {x : D} {c : Cells} (h : c[n]? = some (.lst (xs ++ [x]))) : gIx (.ref n) (.int (-1)) c = some (x, c) := by
  have : gIx (.ref n) (.int (-1)) c = (seqOf (.ref n) c).bind fun xs => (atD xs (-1)).bind fun d => some (d, c) := rfl
  rw [this, seqOf_lst h, Option.bind_some, atD_last]
  rfl
theorem lwith_ {lo0 f0 B d : Nat} {ps : List (Str × D)} {x : Str} {ms : List Str} {mk : Nat} {c : Cells} {qs0 : List (List (Str × Str))} {ns0 : List Nat} {q3 q4 q5 : Option D} (h0 : CL lo0 f0 B qs0 ns0 c) (hd : c[d]? = some (.dro ps)) (hat : dAt ps x = some (.ref mk)) (hmk : c[mk]? = some (.lst (ms.map D.str))) (hm : ∀ y ∈ ms, Wd y) (hn : qs0.length * ms.length ≤ 9000000) (hB : B < 9000) :
    ∃ c' ns' p4 p5, LoopE [some (.ref d), some (.ref f0), some (.str x), q3, q4, q5] c = some (.nx, [some (.ref d), some (.ref c.length), some (.str x), some (.ref c.length), p4, p5], c') ∧ CL c.length c.length (B + 1) (grow x ms qs0) ns' c' ∧ Kq [] c c' := by
  have hf0 := get_lt h0.at_
  have hmkl := get_lt hmk
  have hdl := get_lt hd
  have hns : ∀ n ∈ ns0, n ≠ c.length := fun n hn => by
    obtain ⟨i, hi⟩ := List.mem_iff_getElem?.mp hn
    have hl : i < qs0.length := by rw [← h0.len]; exact (List.getElem?_eq_some_iff.mp hi).1
    obtain ⟨_, _, d, _⟩ := h0.each i n _ hi (List.getElem?_eq_getElem hl)
    have := get_lt d
    omega
  have hi0 := iLst_ (a := eV 1) (σ := [some (.ref d), some (.ref f0), some (.str x), some (.ref c.length), q4, q5]) (c := c ++ [.lst []]) rfl (get_app h0.at_)
  have C0 : CL c.length c.length (B + 1) [] [] (c ++ [.lst []]) := ⟨Nat.le_refl _, get_new, rfl, fun i n q h1 _ => by simp at h1⟩
  obtain ⟨σ', c', ns', e', ⟨p4, p5, rfl⟩, hC, hk⟩ := outer_gen (ks := [(f0, .lst (ns0.map D.ref))]) (g := gName 4) (body := sFor (iLst (eRIx (eV 0) (eV 2))) (gName 5) LoopD) (lo := c.length) (f := c.length) (B := B + 1) (x := x) (c := c ++ [.lst []])
    (fun σ => ∃ p4 p5, σ = [some (.ref d), some (.ref f0), some (.str x), some (.ref c.length), p4, p5]) (by
      intro c' hk p hp
      rw [List.mem_singleton.mp hp]
      exact hk.get (get_app h0.at_) (by simp; omega)) ms (by
      rintro n q σ c' qs ns hnq hnf hq hqB ⟨p4, p5, rfl⟩ hC hk hlen
      have hmk' := hk.get (get_app (zs := [.lst []]) hmk) (by simp; omega)
      have hd' := hk.get (get_app (zs := [.lst []]) hd) (by simp; omega)
      have ix : eRIx (eV 0) (eV 2) [some (.ref d), some (.ref f0), some (.str x), some (.ref c.length), some (.ref n), p5] c' = some (.ref mk, c') := eRIx_ rfl rfl hd' hat
      have hi2 := iLst_ (a := eRIx (eV 0) (eV 2)) (σ := [some (.ref d), some (.ref f0), some (.str x), some (.ref c.length), some (.ref n), p5]) (c := c') ix hmk'
      obtain ⟨σ2, c2, ns2, e2, ⟨r5, rfl⟩, hC2, hk2⟩ := inner_gen (ks := [(mk, .lst (ms.map D.str))]) (g := gName 5) (body := LoopD) (lo := c.length) (f := c.length) (B := B + 1) (x := x) (q := q) (c := c')
        (fun σ => ∃ p5, σ = [some (.ref d), some (.ref f0), some (.str x), some (.ref c.length), some (.ref n), p5]) hq (by omega) (by
          intro c3 hk3 p hp
          rw [List.mem_singleton.mp hp]
          exact hk3.get hmk' (by simp; omega)) ms hm (by
          rintro y σ c3 qs3 ns3 wy ⟨p5, rfl⟩ hC3 hk3 hl3
          have hn3 := hk3.get hnq (by simpa using hnf)
          have hf3 := get_lt hC3.at_
          have b1 := bDict_ hn3
          have hat3 : (c3 ++ [Cell.dct (dm q)])[c.length]? = some (.lst (ns3.map D.ref)) := get_app hC3.at_
          have b3 := mAppendL (y := .ref c3.length) hat3 (by rw [List.length_map]; exact hl3)
          have l3 := lstOf_lst hC3.at_
          have hat4 : ((c3 ++ [Cell.dct (dm q)]).set c.length (.lst (ns3.map D.ref ++ [.ref c3.length])))[c.length]? = some (.lst (ns3.map D.ref ++ [.ref c3.length])) := by
            rw [List.getElem?_set, if_pos rfl, if_pos (by rw [List.length_append]; omega)]
          have g4 := gIx_last hat4
          have hn4 : ((c3 ++ [Cell.dct (dm q)]).set c.length (.lst (ns3.map D.ref ++ [.ref c3.length])))[c3.length]? = some (.dct (dm q)) := by
            rw [List.getElem?_set, if_neg (by omega)]
            exact get_new
          have b2 : sDPut (e2 gIx (eV 3) (e1 gNeg (eC (.int 1)))) (eV 2) (eV 5) [some (.ref d), some (.ref f0), some (.str x), some (.ref c.length), some (.ref n), some (.str y)] ((c3 ++ [Cell.dct (dm q)]).set c.length (.lst (ns3.map D.ref ++ [.ref c3.length]))) = _ := sDPut_ (v := eV 5) rfl (by erw [g4]) rfl hn4 (by omega)
          have e1 : ((c3 ++ [Cell.dct (dm q)]).set c.length (.lst (ns3.map D.ref ++ [.ref c3.length]))).set c3.length (.dct (dm (dPut q x y))) = (c3 ++ [Cell.dct (dm (dPut q x y))]).set c.length (.lst ((ns3 ++ [c3.length]).map D.ref)) := by
            rw [List.set_comm _ _ (by omega)]
            simp
          rw [e1] at b2
          refine ⟨_, [some (.ref d), some (.ref f0), some (.str x), some (.ref c.length), some (.ref n), some (.str y)], rfl, ?_, ⟨_, rfl⟩⟩
          unfold LoopD
          refine sSeq_of (σ1 := [some (.ref d), some (.ref f0), some (.str x), some (.ref c.length), some (.ref n), some (.str y)]) (c1 := (c3 ++ [Cell.dct (dm q)]).set c.length (.lst (ns3.map D.ref ++ [.ref c3.length]))) (by erw [l3, b1, b3]) ?_
          exact b2) ⟨p5, rfl⟩ hC hlen
      exact ⟨_, _, c2, ns2, rfl, (sFor_ hi2).trans e2, ⟨_, _, rfl⟩, hC2, hk2⟩) (h0.keep (Kq.more (S := [])) (fun y hy => by cases hy)) hns ⟨_, _, rfl⟩ C0 hn
  refine ⟨c', ns', p4, p5, ?_, hC, (Kq.more (S := [])).less hk (fun y hy => by simp at hy; exact .inr (by omega))⟩
  have f1 : sFor (iLst (eV 1)) (gName 4) (sFor (iLst (eRIx (eV 0) (eV 2))) (gName 5) LoopD) [some (.ref d), some (.ref f0), some (.str x), some (.ref c.length), q4, q5] (c ++ [.lst []]) = _ := (sFor_ hi0).trans e'
  unfold LoopE
  refine sSeq_of (σ1 := [some (.ref d), some (.ref f0), some (.str x), some (.ref c.length), q4, q5]) (c1 := c ++ [.lst []]) (by erw [line0]) ?_
  refine sSeq_of f1 ?_
  erw []
theorem lchoices_ {d lo : Nat} {ps : List (Str × D)} {kl : List (Str × List Str)} {c : Cells} (hd : c[d]? = some (.dct ps) ∨ c[d]? = some (.dro ps)) (hnd : (ps.map Prod.fst).Nodup) (hpl : ps.length ≤ 6) (hK : KL lo d c ps kl) :
    ∃ f c' ns, F_law_choices [.ref d] c = some (.ref f, c') ∧ CL c.length f 6 (chs kl) ns c' ∧ c'[d]? = some (.dro ps) ∧ Kq [d] c c' := by
  have hdl : d < c.length := hd.elim get_lt get_lt
  have k1 : Kq [d] c (c ++ [.dct []] ++ [.lst [.ref c.length]]) := Kq.more.trans Kq.more
  obtain ⟨c2, hi, hd2, k2⟩ := iKeys_any (a := eV 0) (σ := [some (.ref d), some (.ref (c.length + 1)), none, none, none, none]) (c := c ++ [.dct []] ++ [.lst [.ref c.length]]) rfl (hd.imp (fun h => get_app (get_app h)) (fun h => get_app (get_app h)))
  have C0 := (begin_ hdl).keep k2 (fun x hx => by simp at hx; exact .inl (by omega))
  have hK2 := (hK.keep k1 (fun x hx => by simp at hx; exact .inr (.inl hx))).keep k2 (fun x hx => by simp at hx; exact .inr (.inl hx))
  have key := forGo_inv (ks := [(d, .dro ps)]) (g := gName 2) (body := LoopE)
    (fun i σ c' => ∃ f ns nm p3 p4 p5, σ = [some (.ref d), some (.ref f), nm, p3, p4, p5] ∧ CL c.length f i (chs (kl.take i)) ns c' ∧ Kq [] c2 c') (ps.map fun q => .str q.1) 0 [some (.ref d), some (.ref (c.length + 1)), none, none, none, none] c2
    (by
      rintro i σ c' ⟨_, _, _, _, _, _, _, _, hk⟩ p hp
      rw [List.mem_singleton.mp hp]
      exact hk.get hd2 (by simp)) (by
      rintro i dd σ c' hdd ⟨f, ns, nm, p3, p4, p5, rfl, hC, hk⟩
      rw [Nat.zero_add] at hC ⊢
      rw [List.getElem?_map] at hdd
      cases hp : ps[i]? with
      | none => rw [hp] at hdd; cases hdd
      | some p =>
        rw [hp] at hdd
        cases hdd
        have hpm := List.mem_of_getElem? hp
        have hil : i < ps.length := (List.getElem?_eq_some_iff.mp hp).1
        have hkl := List.getElem?_eq_getElem (show i < kl.length by rw [← hK.len]; exact hil)
        obtain ⟨a, wx, n, h1, h2, h3, h4, h5, h6⟩ := (hK2.keep hk (fun y hy => by cases hy)).each i p _ hp hkl
        have hd' := hk.get hd2 (by simp)
        have hat := dAt_self hnd hpm
        rw [h1] at hat
        obtain ⟨c3, ns3, r4, r5, e3, hC3, hk3⟩ := lwith_ (x := p.1) (q3 := p3) (q4 := p4) (q5 := p5) hC hd' hat h4 h6 (pow6 (by omega) (chs_len hK.small i) h5) (by omega)
        refine ⟨_, c', _, c3, rfl, e3, ⟨c'.length, ns3, _, _, _, _, rfl, ?_, hk.trans hk3⟩⟩
        rw [chs_take hkl, ← a]
        have := hk.len
        have l1 := k1.len
        have l2 := k2.len
        exact hC3.low (by omega)) ⟨_, _, _, _, _, _, rfl, by simpa using C0, Kq.refl _ _⟩
  obtain ⟨σ', c', e', f, ns, nm, p3, p4, p5, rfl, hC, hk⟩ := key
  rw [List.length_map, Nat.zero_add, hK.len, List.take_length] at hC
  refine ⟨f, c', ns, ?_, hC.mono (by rw [← hK.len]; exact hpl), hk.get hd2 (by simp), (k1.trans k2).less hk (fun y hy => by cases hy)⟩
  have f1 : sFor (iKeys (eV 0)) (gName 2) LoopE [some (.ref d), some (.ref (c.length + 1)), none, none, none, none] (c ++ [.dct []] ++ [.lst [.ref c.length]]) = _ := (sFor_ hi).trans e'
  have n1 : ∀ σ c, eDNew σ c = some (.ref c.length, c ++ [.dct []]) := fun _ _ => rfl
  have l1 : (c ++ [Cell.dct []]).length = c.length + 1 := by simp
  have run : B_law_choices [some (.ref d), none, none, none, none, none] c = some (.rt (.ref f), [some (.ref d), some (.ref f), nm, p3, p4, p5], c') := by
    unfold B_law_choices
    refine sSeq_of (σ1 := [some (.ref d), some (.ref (c.length + 1)), none, none, none, none]) (c1 := c ++ [.dct []] ++ [.lst [.ref c.length]]) (by erw [n1, l1]) ?_
    refine sSeq_of f1 ?_
    erw []
  erw [F_law_choices, run]
noncomputable def fq (bs : List (D × Int × Int)) (q : List (Str × Str)) : Option Nat := fi (pvB (dm q) bs) 0 bs.length
def ToldAt (bs : List (D × Int × Int)) (qs : List (List (Str × Str))) (lo : Nat) (c : Cells) (k : Nat) (t : D) : Prop :=
  (t = .non ∧ ∀ q ∈ qs, fq bs q ≠ some k) ∨ ∃ n q, t = .ref n ∧ q ∈ qs ∧ lo ≤ n ∧ c[n]? = some (.dct (dm q)) ∧ QOk q ∧ q.length ≤ 6 ∧ fq bs q = some k
structure Told (bs : List (D × Int × Int)) (qs : List (List (Str × Str))) (lo : Nat) (c : Cells) (ts : List D) : Prop where
  len : ts.length = bs.length
  each : ∀ k t, ts[k]? = some t → ToldAt bs qs lo c k t
noncomputable def LoopF : XS := (sSeq (sSet 4 (eCall F_first_holding [] (aCons (eV 0) (aCons (eV 3) aNil))))
      (sIf (tV (e2 gNotN (eV 4) (eC .non)))
      (sAsg (eV 3) (gPut (eV 2) (eV 4)))
      sNil))
theorem gPut_ {o i : XE} {σ : Qm.Env} {c : Cells} {g k : Nat} {ts : List D} {d : D} (ho : o σ c = some (.ref g, c)) (hi : i σ c = some (.int k, c)) (hg : c[g]? = some (.lst ts)) (hk : k < ts.length) : gPut o i d σ c = some (σ, c.set g (.lst (ts.set k d))) := by
  have e1 : ixD ts.length (k : Int) = some k := by
    unfold ixD
    rw [if_pos (by omega), if_pos (by omega)]
    simp
  unfold gPut
  rw [ho, Option.bind_some, hi, Option.bind_some, lstOf_lst hg, Option.bind_some]
  simp only [asI_, Option.bind_some, e1]
theorem counting_ {b d lo : Nat} {bs : List (D × Int × Int)} {ps : List (Str × D)} {kl : List (Str × List Str)} {c : Cells} (hb : c[b]? = some (.lst (bs.map rl))) (hT : ∀ r ∈ bs, Tr 26 r.1) (hbl : bs.length ≤ 20)
    (hd : c[d]? = some (.dct ps) ∨ c[d]? = some (.dro ps)) (hnd : (ps.map Prod.fst).Nodup) (hpl : ps.length ≤ 6) (hK : KL lo d c ps kl) :
    ∃ c' ts, F_counting [.ref b, .ref d] c = some (.ref c.length, c') ∧ c'[c.length]? = some (.lst ts) ∧ Told bs (chs kl) c.length c' ts ∧ c'[d]? = some (.dro ps) ∧ Kq [d] c c' := by
  have hbn := get_lt hb
  have hdl : d < c.length := hd.elim get_lt get_lt
  have hbd : b ≠ d := fun e => by subst e; rw [hb] at hd; rcases hd with h | h <;> cases h
  have ib := iLst_ (a := eV 0) (σ := [some (.ref b), some (.ref d), none, none, none]) (c := c) rfl hb
  obtain ⟨c1, e1, hp1, hc1⟩ := compG (te := eC .non) (g := gName 0) (cap := [none]) (bs.map fun _ => D.non) (fun τ => ∃ a, τ = [a]) ib (by
      intro q hq
      rw [List.mem_singleton.mp hq]
      exact hb) ⟨none, rfl⟩ (by simp) (by
      rintro i' d' v' g1 g2 τ c3 ⟨a, rfl⟩ _
      rw [List.getElem?_map] at g2
      cases hy : bs[i']? with
      | none => rw [hy] at g2; cases g2
      | some y =>
        rw [hy] at g2
        cases g2
        exact ⟨[some d'], [], rfl, by erw [], ⟨_, rfl⟩⟩) (by rw [List.length_map]; omega)
  have k1 : Kq [] c c1 := Kq.pre hp1
  have hl1 := k1.len
  obtain ⟨f, c2, ns, e2, hC, hd2, k2⟩ := choices_ (c := c1) (hd.imp (fun h => pre_get hp1 h) (fun h => pre_get hp1 h)) hnd hpl (hK.keep k1 (fun y hy => by cases hy))
  have hcl := get_lt hc1
  have ht0 := k2.get hc1 (by simp; omega)
  have hb2 := k2.get (pre_get hp1 hb) (by simpa using hbd)
  have if2 := iLst_ (a := eCall F_choices_of [] (aCons (eV 1) aNil)) (σ := [some (.ref b), some (.ref d), some (.ref c.length), none, none]) (c := c1) (by erw [e2]) hC.at_
  have hfl := hC.lof
  have key := forGo_inv (ks := [(f, .lst (ns.map D.ref))]) (g := gName 3) (body := LoopF)
    (fun i σ c' => ∃ ts q3 q4, σ = [some (.ref b), some (.ref d), some (.ref c.length), q3, q4] ∧ c'[c.length]? = some (.lst ts) ∧ Told bs ((chs kl).take i) c.length c' ts ∧ Kq [c.length] c2 c') (ns.map D.ref) 0 [some (.ref b), some (.ref d), some (.ref c.length), none, none] c2
    (by
      rintro i σ c' ⟨_, _, _, _, _, _, hk⟩ p hp
      rw [List.mem_singleton.mp hp]
      exact hk.get hC.at_ (by simp; omega)) (by
      rintro i dd σ c' hdd ⟨ts, q3, q4, rfl, ht, hTd, hk⟩
      rw [Nat.zero_add] at hTd ⊢
      rw [List.getElem?_map] at hdd
      cases hn : ns[i]? with
      | none => rw [hn] at hdd; cases hdd
      | some n =>
        rw [hn] at hdd
        cases hdd
        have hil : i < (chs kl).length := by rw [← hC.len]; exact (List.getElem?_eq_some_iff.mp hn).1
        have hq := List.getElem?_eq_getElem hil
        generalize (chs kl)[i] = q at hq
        obtain ⟨a1, a2, a3, a4, a5⟩ := hC.each i n q hn hq
        have hn' := hk.get a3 (by simp; omega)
        have hb' := hk.get hb2 (by simp; omega)
        have ef := first_ a4.dv hT hbl hb' hn'
        have tk : (chs kl).take (i + 1) = (chs kl).take i ++ [q] := by rw [List.take_add_one, hq]; rfl
        have hfq : fi (pvB (dm q) bs) 0 bs.length = fq bs q := rfl
        rw [hfq] at ef
        cases hf : fq bs q with
        | none =>
          rw [hf] at ef
          have n1 : gNotN .non .non c' = some (.bl false, c') := rfl
          refine ⟨_, c', [some (.ref b), some (.ref d), some (.ref c.length), some (.ref n), some .non], c', rfl, ?_, ⟨ts, _, _, rfl, ht, ⟨hTd.len, fun k t hkt => ?_⟩, hk⟩⟩
          · unfold LoopF
            erw [ef, rD, n1]
          · rw [tk]
            rcases hTd.each k t hkt with ⟨z1, z2⟩ | ⟨n', q', z1, z2, z3⟩
            · refine .inl ⟨z1, fun q' hq' => ?_⟩
              rcases List.mem_append.mp hq' with hq' | hq'
              · exact z2 q' hq'
              · rw [List.mem_singleton.mp hq', hf]
                exact fun e => by cases e
            · exact .inr ⟨n', q', z1, List.mem_append.mpr (.inl z2), z3⟩
        | some k =>
          rw [hf] at ef
          have hkl : k < bs.length := by have := fi_lt (hfq.trans hf); omega
          have n1 : gNotN (.int k) .non c' = some (.bl true, c') := rfl
          have hp' : gPut (eV 2) (eV 4) (.ref n) [some (.ref b), some (.ref d), some (.ref c.length), some (.ref n), some (.int k)] c' = _ := gPut_ (d := .ref n) rfl rfl ht (by rw [hTd.len]; exact hkl)
          have kk : Kq [c.length] c' (c'.set c.length (.lst (ts.set k (.ref n)))) := Kq.set (by simp)
          refine ⟨_, c', [some (.ref b), some (.ref d), some (.ref c.length), some (.ref n), some (.int k)], c'.set c.length (.lst (ts.set k (.ref n))), rfl, ?_, ⟨ts.set k (.ref n), _, _, rfl, ?_, ⟨by rw [List.length_set]; exact hTd.len, fun k' t hkt => ?_⟩, hk.trans kk⟩⟩
          · unfold LoopF
            erw [ef, rD, n1, hp']
          · rw [List.getElem?_set, if_pos rfl, if_pos (get_lt ht)]
          · rw [tk]
            rw [List.getElem?_set] at hkt
            by_cases hkk : k = k'
            · subst hkk
              rw [if_pos rfl, if_pos (by rw [hTd.len]; exact hkl)] at hkt
              cases hkt
              exact .inr ⟨n, q, rfl, by simp, by omega, kk.get hn' (by simp; omega), a4, a5, hf⟩
            · rw [if_neg hkk] at hkt
              rcases hTd.each k' t hkt with ⟨z1, z2⟩ | ⟨n', q', z1, z2, z3, z4, z5⟩
              · refine .inl ⟨z1, fun q' hq' => ?_⟩
                rcases List.mem_append.mp hq' with hq' | hq'
                · exact z2 q' hq'
                · rw [List.mem_singleton.mp hq', hf]
                  exact fun e => hkk (Option.some.inj e)
              · refine .inr ⟨n', q', z1, List.mem_append.mpr (.inl z2), z3, kk.get z4 ?_, z5⟩
                intro e
                have e' : n' = c.length := by simpa using e
                rw [e', ht] at z4
                cases z4) ⟨_, _, _, rfl, ht0, ⟨by simp, fun k t hkt => by
        rw [List.getElem?_map] at hkt
        cases hy : bs[k]? with
        | none => rw [hy] at hkt; cases hkt
        | some y =>
          rw [hy] at hkt
          cases hkt
          exact .inl ⟨rfl, fun q hq => by simp at hq⟩⟩, Kq.refl _ _⟩
  obtain ⟨σ', c', e', ts, q3, q4, rfl, ht, hTd, hk⟩ := key
  rw [List.length_map, Nat.zero_add, hC.len, List.take_length] at hTd
  refine ⟨c', ts, ?_, ht, hTd, hk.get hd2 (by simp; omega), ((k1.mono (by simp)).trans k2).less hk (fun y hy => by simp at hy; exact .inr (by omega))⟩
  have f1 : sFor (iLst (eCall F_choices_of [] (aCons (eV 1) aNil))) (gName 3) LoopF [some (.ref b), some (.ref d), some (.ref c.length), none, none] c1 = _ := (sFor_ if2).trans e'
  have run : B_counting [some (.ref b), some (.ref d), none, none, none] c = some (.rt (.ref c.length), [some (.ref b), some (.ref d), some (.ref c.length), q3, q4], c') := by
    unfold B_counting
    refine sSeq_of (σ1 := [some (.ref b), some (.ref d), some (.ref c.length), none, none]) (c1 := c1) (by erw [e1]) ?_
    refine sSeq_of f1 ?_
    erw []
  erw [F_counting, run]
theorem data_rD {c : Cells} {k : Nat} {r : Option Nat} : data c (k + 1) (rD r) = some (match r with | some k => .int k | none => .none) := by
  cases r with
  | none => rfl
  | some k => rfl
theorem omap_rD {c : Cells} {k : Nat} : ∀ {rs : List (Option Nat)}, omap (data c (k + 1)) (rs.map rD) = some (rs.map fun r => match r with | some k => PyData.int k | none => .none)
  | [] => rfl
  | r :: rs => by
    have ih := omap_rD (c := c) (k := k) (rs := rs)
    rw [List.map_cons]
    unfold omap
    rw [data_rD, ih]
    rfl
theorem compF_go {ks : List (Nat × Cell)} {g : XG} {tt : XT} {te : XE} {E : Qm.Env → Prop} {c : Cells} (hs : stays ks c) : ∀ (ds : List D) (os : List (Option D)) (acc : List D) (zs : List Cell) (τ : Qm.Env), ds.length = os.length → E τ → (∀ (i : Nat) d o, ds[i]? = some d → os[i]? = some o → ∀ τ c', E τ → c <+: c' → ∃ τ' ws, g d τ c' = some (τ', c') ∧ tt τ' c' = some (o.isSome, c' ++ ws) ∧ E τ' ∧ ∀ v, o = some v → ∃ vs, te τ' (c' ++ ws) = some (v, c' ++ ws ++ vs)) → acc.length + ds.length ≤ 9000000 →
    ∃ zs', compGo c.length ks g tt te ds τ (c ++ .lst acc :: zs) = some (c ++ .lst (acc ++ os.filterMap id) :: zs')
  | [], os, acc, zs, τ, hl, _, _, _ => by
    cases os with
    | nil =>
      have st : stays ks (c ++ .lst acc :: zs) := fun p hp => pre_get ⟨_, rfl⟩ (hs p hp)
      refine ⟨zs, ?_⟩
      unfold compGo
      rw [if_pos st]
      simp
    | cons v vs => simp at hl
  | d :: ds, os, acc, zs, τ, hl, hE, hv, hn => by
    cases os with
    | nil => simp at hl
    | cons o os =>
      have st : stays ks (c ++ .lst acc :: zs) := fun p hp => pre_get ⟨_, rfl⟩ (hs p hp)
      rw [List.length_cons] at hn
      obtain ⟨τ', ws, f1, f2, hE', f3⟩ := hv 0 d o rfl rfl τ (c ++ .lst acc :: zs) hE ⟨_, rfl⟩
      have tl : ∀ (i : Nat) d o, ds[i]? = some d → os[i]? = some o → ∀ τ c', E τ → c <+: c' → ∃ τ' ws, g d τ c' = some (τ', c') ∧ tt τ' c' = some (o.isSome, c' ++ ws) ∧ E τ' ∧ ∀ v, o = some v → ∃ vs, te τ' (c' ++ ws) = some (v, c' ++ ws ++ vs) := fun i d' v' h1 h2 => hv (i + 1) d' v' (by simpa using h1) (by simpa using h2)
      cases o with
      | none =>
        obtain ⟨zs', f5⟩ := compF_go hs ds os acc (zs ++ ws) τ' (by simpa using hl) hE' tl (by omega)
        refine ⟨zs', ?_⟩
        have f6 : c ++ .lst acc :: zs ++ ws = c ++ .lst acc :: (zs ++ ws) := by simp
        unfold compGo
        rw [if_pos st]
        simp only [f1, Option.bind_some, f2, Option.isSome_none, Bool.false_eq_true, if_false, f6, f5]
        simp
      | some v =>
        obtain ⟨vs, f7⟩ := f3 v rfl
        have f3 : (c ++ .lst acc :: zs ++ ws ++ vs)[c.length]? = some (.lst acc) := by simp
        have f4 : (c ++ .lst acc :: zs ++ ws ++ vs).set c.length (.lst (acc ++ [v])) = c ++ .lst (acc ++ [v]) :: (zs ++ ws ++ vs) := by simp
        obtain ⟨zs', f5⟩ := compF_go hs ds os (acc ++ [v]) (zs ++ ws ++ vs) τ' (by simpa using hl) hE' tl (by simp only [List.length_append, List.length_cons, List.length_nil]; omega)
        refine ⟨zs', ?_⟩
        unfold compGo
        rw [if_pos st]
        simp only [f1, Option.bind_some, f2, Option.isSome_some, if_true, f7, f3, f4]
        rw [if_pos (show acc.length < LINE by rw [LINE_eq]; omega), f5]
        simp
theorem compF {it : XI} {cap : List (Option Nat)} {g : XG} {tt : XT} {te : XE} {σ : Qm.Env} {c0 c : Cells} {ds : List D} {ks : List (Nat × Cell)} (os : List (Option D)) (E : Qm.Env → Prop) (hi : it σ c0 = some (⟨ds, ks⟩, c)) (hs : stays ks c) (hE : E (capt σ cap)) (hl : ds.length = os.length) (hv : ∀ (i : Nat) d o, ds[i]? = some d → os[i]? = some o → ∀ τ c', E τ → c <+: c' → ∃ τ' ws, g d τ c' = some (τ', c') ∧ tt τ' c' = some (o.isSome, c' ++ ws) ∧ E τ' ∧ ∀ v, o = some v → ∃ vs, te τ' (c' ++ ws) = some (v, c' ++ ws ++ vs)) (hn : ds.length ≤ 9000000) :
    ∃ c', eComp it cap g tt te σ c0 = some (.ref c.length, c') ∧ c <+: c' ∧ c'[c.length]? = some (.lst (os.filterMap id)) := by
  obtain ⟨zs, e⟩ := compF_go (te := te) (tt := tt) (g := g) (E := E) (ks := ks) (c := c) hs ds os [] [] (capt σ cap) hl hE hv (by simp; omega)
  refine ⟨c ++ .lst (os.filterMap id) :: zs, ?_, ⟨_, rfl⟩, by simp⟩
  unfold eComp
  rw [hi, Option.bind_some]
  dsimp only
  rw [e]
  rfl
theorem Kq.drop {d : Nat} {c c' : Cells} {z : Cell} (k : Kq [d] c c') (h : c[d]? = some z) (h' : c'[d]? = some z) : Kq [] c c' := ⟨k.len, fun i hi _ => by
  by_cases e : i = d
  · rw [e, h, h']
  · exact k.at_ i hi (by simpa using e)⟩
open Classical in
noncomputable def lnO (bs : List (D × Int × Int)) (qs : List (List (Str × Str))) (k : Nat) : Option (D × Int × Int) := if some k ∈ qs.map (fq bs) then bs[k]? else none
noncomputable def ln (bs : List (D × Int × Int)) (qs : List (List (Str × Str))) : List (D × Int × Int) := (List.range bs.length).filterMap (lnO bs qs)
theorem ln_mem {bs : List (D × Int × Int)} {qs : List (List (Str × Str))} {r : D × Int × Int} (h : r ∈ ln bs qs) : r ∈ bs := by
  obtain ⟨k, _, e⟩ := List.mem_filterMap.mp h
  unfold lnO at e
  split at e
  · exact List.mem_of_getElem? e
  · cases e
theorem ln_len {bs : List (D × Int × Int)} {qs : List (List (Str × Str))} : (ln bs qs).length ≤ bs.length := by
  have := List.length_filterMap_le (lnO bs qs) (List.range bs.length)
  rwa [List.length_range] at this
theorem fm_map {α β γ : Type} {f : α → Option β} {g : β → γ} : ∀ {xs : List α}, (xs.map fun x => (f x).map g).filterMap id = (xs.filterMap f).map g
  | [] => rfl
  | x :: xs => by
    have ih := fm_map (f := f) (g := g) (xs := xs)
    rw [List.map_cons, List.filterMap_cons, List.filterMap_cons]
    cases h : f x with
    | none => simp [ih]
    | some y => simp [ih]
theorem leaner_ {b d lo : Nat} {bs : List (D × Int × Int)} {ps : List (Str × D)} {kl : List (Str × List Str)} {c : Cells} (hb : c[b]? = some (.lst (bs.map rl))) (hT : ∀ r ∈ bs, Tr 26 r.1) (hbl : bs.length ≤ 20)
    (hd : c[d]? = some (.dro ps)) (hnd : (ps.map Prod.fst).Nodup) (hpl : ps.length ≤ 6) (hK : KL lo d c ps kl) :
    ∃ l c', F_leaner [.ref b, .ref d] c = some (.ref l, c') ∧ c.length ≤ l ∧ c'[l]? = some (.lst ((ln bs (chs kl)).map rl)) ∧ Kq [] c c' := by
  obtain ⟨c1, ts, e1, ht, hTd, hd1, k1⟩ := counting_ hb hT hbl (.inr hd) hnd hpl hK
  have k0 := k1.drop hd hd1
  have hb1 := k0.get hb (by simp)
  have lb := lstOf_lst hb1
  have lt := lstOf_lst ht
  have hi : iZipL (aCons (eV 0) (aCons (eCall F_counting [] (aCons (eV 0) (aCons (eV 1) aNil))) aNil)) [some (.ref b), some (.ref d)] c = some (⟨zipD (bs.map rl) ts, [(b, .lst (bs.map rl)), (c.length, .lst ts)]⟩, c1) := by
    unfold iZipL
    erw [e1]
    simp [hb1, ht, lb, lt]
  have hzl : (zipD (bs.map rl) ts).length = bs.length := by simp [zipD, hTd.len]
  obtain ⟨c2, e2, hp2, hc2⟩ := compF (te := eV 0) (tt := tV (e2 gNotN (eV 1) (eC .non))) (g := gTup 2 (gCons (gName 0) (gCons (gName 1) gNil))) (cap := [none, none]) ((List.range bs.length).map fun k => (lnO bs (chs kl) k).map rl) (fun τ => ∃ a b, τ = [a, b]) hi (by
      intro p hp
      rcases List.mem_cons.mp hp with rfl | hp
      · exact hb1
      · rw [List.mem_singleton.mp hp]; exact ht) ⟨none, none, rfl⟩ (by rw [hzl]; simp) (by
      rintro i d' o g1 g2 τ c3 ⟨a, b', rfl⟩ hp3
      rw [List.getElem?_map] at g2
      unfold zipD at g1
      rw [List.getElem?_map] at g1
      cases hz : ((bs.map rl).zip ts)[i]? with
      | none => rw [hz] at g1; cases g1
      | some p =>
        rw [hz] at g1
        cases g1
        obtain ⟨h1, h2⟩ := List.getElem?_zip_eq_some.mp hz
        obtain ⟨x, y⟩ := p
        dsimp only at h1 h2 ⊢
        obtain ⟨r, hr, e⟩ := map_at h1
        have hil : i < bs.length := (List.getElem?_eq_some_iff.mp hr).1
        rw [List.getElem?_range hil] at g2
        cases g2
        rcases hTd.each i _ h2 with ⟨z1, z2⟩ | ⟨n, q, z1, z2, z3, z4, z5, z6, z7⟩
        · have hx : lnO bs (chs kl) i = none := by
            unfold lnO
            rw [if_neg]
            intro hm
            obtain ⟨q, hq, e⟩ := List.mem_map.mp hm
            exact z2 q hq e
          have n1 : gNotN .non .non c3 = some (.bl false, c3) := rfl
          subst z1
          refine ⟨[some x, some .non], [], rfl, ?_, ⟨_, _, rfl⟩, fun v hv => ?_⟩
          · dsimp only
            rw [hx]
            erw [n1]
            rfl
          · dsimp only at hv
            rw [hx] at hv
            cases hv
        · have hx : lnO bs (chs kl) i = some r := by
            unfold lnO
            rw [if_pos (List.mem_map.mpr ⟨q, z2, z7⟩), hr]
          have n1 : gNotN (.ref n) .non c3 = some (.bl true, c3) := rfl
          subst z1
          refine ⟨[some x, some (.ref n)], [], rfl, ?_, ⟨_, _, rfl⟩, fun v hv => ?_⟩
          · dsimp only
            rw [hx]
            erw [n1]
            rfl
          · dsimp only at hv
            rw [hx] at hv
            cases hv
            exact ⟨[], by erw [e]⟩) (by rw [hzl]; omega)
  rw [fm_map] at hc2
  have l1 := k0.len
  refine ⟨c1.length, c2, ?_, l1, hc2, k0.trans (Kq.pre hp2)⟩
  rw [F_leaner, mkF_, if_pos (show [D.ref b, D.ref d].length = 2 from rfl), B_leaner]
  show (sRet _ [some (.ref b), some (.ref d)] c).bind fin = _
  rw [sRet_, e2]
  rfl
def pD (v : Int × Int) : D := .tup [.int v.1, .int v.2]
def wv (bs : List (D × Int × Int)) : Option Nat → Int × Int
  | none => (0, 1)
  | some k => match bs[k]? with
    | some r => r.2
    | none => (0, 1)
theorem worthF_ {ps : List (Str × D)} {bs : List (D × Int × Int)} {b d : Nat} {c : Cells} (hv : Dv ps) (hT : ∀ r ∈ bs, Tr 26 r.1) (hl : bs.length ≤ 20) (hb : c[b]? = some (.lst (bs.map rl))) (hd : c[d]? = some (.dct ps)) :
    F_worth [.ref b, .ref d] c = some (pD (wv bs (fi (pvB ps bs) 0 bs.length)), c) := by
  have e1 := first_ hv hT hl hb hd
  have sb := seqOf_lst hb
  have gi : ∀ x y, gIx (.ref b) (.int y) x = (seqOf (.ref b) x).bind fun xs => (atD xs y).bind fun d => some (d, x) := fun _ _ => rfl
  rw [F_worth, mkF_, B_worth]
  cases hf : fi (pvB ps bs) 0 bs.length with
  | none =>
    rw [hf] at e1
    have n1 : gIsN .non .non c = some (.bl true, c) := rfl
    erw [e1, rD, n1]
    rfl
  | some k =>
    rw [hf] at e1
    have hk : k < bs.length := by have := fi_lt hf; omega
    have hbk : bs[k]? = some bs[k] := List.getElem?_eq_getElem hk
    have hat : atD (bs.map rl) (k : Int) = some (rl bs[k]) := atD_nat (by rw [List.getElem?_map, hbk]; rfl)
    have n1 : gIsN (.int k) .non c = some (.bl false, c) := rfl
    have h1 : gIx (rl bs[k]) (.int 1) c = some (.tup [.int bs[k].2.1, .int bs[k].2.2], c) := rfl
    have hw : wv bs (some k) = bs[k].2 := by simp [wv, hbk]
    rw [hw]
    erw [e1, rD, n1, gi, sb, hat, h1]
    rfl
theorem lat_ {ps : List (Str × D)} {bs : List (D × Int × Int)} {b d : Nat} {c : Cells} (hv : Dv ps) (hT : ∀ r ∈ bs, Tr 26 r.1) (hl : bs.length ≤ 20) (hb : c[b]? = some (.lst (bs.map rl))) (hd : c[d]? = some (.dct ps)) :
    ∃ zs, F_law_at [.ref b, .ref d] c = some (pD (wv bs (fi (pvB ps bs) 0 bs.length)), c ++ zs) := by
  obtain ⟨c', e1, zs, rfl⟩ := lfirst_ hv hT hl hb hd
  have sb := seqOf_lst (get_app (zs := zs) hb)
  have gi : ∀ x y, gIx (.ref b) (.int y) x = (seqOf (.ref b) x).bind fun xs => (atD xs y).bind fun d => some (d, x) := fun _ _ => rfl
  refine ⟨zs, ?_⟩
  rw [F_law_at, mkF_, B_law_at]
  cases hf : fi (pvB ps bs) 0 bs.length with
  | none =>
    rw [hf] at e1
    have n1 : gIsN .non .non (c ++ zs) = some (.bl true, c ++ zs) := rfl
    erw [e1, rD, n1]
    rfl
  | some k =>
    rw [hf] at e1
    have hk : k < bs.length := by have := fi_lt hf; omega
    have hbk : bs[k]? = some bs[k] := List.getElem?_eq_getElem hk
    have hat : atD (bs.map rl) (k : Int) = some (rl bs[k]) := atD_nat (by rw [List.getElem?_map, hbk]; rfl)
    have n1 : gIsN (.int k) .non (c ++ zs) = some (.bl false, c ++ zs) := rfl
    have h1 : gIx (rl bs[k]) (.int 1) (c ++ zs) = some (.tup [.int bs[k].2.1, .int bs[k].2.2], c ++ zs) := rfl
    have hw : wv bs (some k) = bs[k].2 := by simp [wv, hbk]
    rw [hw]
    erw [e1, rD, n1, gi, sb, hat, h1]
    rfl
theorem gNe_pD {u v : Int × Int} {c : Cells} : gNe (pD u) (pD v) c = some (.bl (!decide (u = v)), c) := by
  have d1 : ∀ w : Int × Int, data c 6 (pD w) = some (.tuple [.int w.1, .int w.2]) := fun w => rfl
  have : gNe (pD u) (pD v) c = ((data c 6 (pD u)).bind fun d => (data c 6 (pD v)).bind fun e => some (@decide (d = e) (Classical.propDecidable _))).bind fun b => some (.bl (!b), c) := rfl
  rw [this, d1, d1]
  simp only [Option.bind_some]
  by_cases h : u = v
  · subst h
    simp
  · have h2 : ¬ (PyData.tuple [.int u.1, .int u.2] = PyData.tuple [.int v.1, .int v.2]) := by
      intro e
      injection e with e
      injection e with e1 e2
      injection e1 with e1
      injection e2 with e2 _
      injection e2 with e2
      exact h (Prod.ext e1 e2)
    simp [h, h2]
noncomputable def wq (bs : List (D × Int × Int)) (q : List (Str × Str)) : Int × Int := wv bs (fq bs q)
theorem drop_cons {α : Type} {xs t : List α} {k : Nat} {x : α} (h : xs.drop k = x :: t) : xs[k]? = some x ∧ xs.drop (k + 1) = t := by
  have h1 : (xs.drop k)[0]? = some x := by rw [h]; rfl
  rw [List.getElem?_drop, Nat.add_zero] at h1
  refine ⟨h1, ?_⟩
  have h2 : (xs.drop k).drop 1 = t := by rw [h]; rfl
  rwa [List.drop_drop] at h2
theorem wv_from {ps : List (Str × D)} {bs : List (D × Int × Int)} : ∀ (suf : List (D × Int × Int)) (k : Nat), bs.drop k = suf → wv bs (fi (pvB ps bs) k suf.length) = ((suf.find? fun r => tv ps r.1).map (·.2)).getD (0, 1)
  | [], k, _ => rfl
  | r :: t, k, h => by
    obtain ⟨h1, h2⟩ := drop_cons h
    rw [List.length_cons]
    unfold fi
    rw [pv_at h1, List.find?_cons]
    cases hv : tv ps r.1 with
    | true =>
      rw [if_pos rfl]
      simp [wv, h1]
    | false =>
      rw [if_neg (by decide)]
      exact wv_from t (k + 1) h2
theorem ln_from {bs : List (D × Int × Int)} {qs : List (List (Str × Str))} {ps : List (Str × D)} : ∀ (suf : List (D × Int × Int)) (k : Nat), bs.drop k = suf → (∀ k0, fi (pvB ps bs) k suf.length = some k0 → some k0 ∈ qs.map (fq bs)) → (((List.range' k suf.length).filterMap (lnO bs qs)).find? fun r => tv ps r.1) = suf.find? fun r => tv ps r.1
  | [], k, _, _ => rfl
  | r :: t, k, h, hf => by
    obtain ⟨h1, h2⟩ := drop_cons h
    rw [List.length_cons, List.range'_succ, List.filterMap_cons, List.find?_cons]
    have hs : fi (pvB ps bs) k (t.length + 1) = if tv ps r.1 = true then some k else fi (pvB ps bs) (k + 1) t.length := by rw [← pv_at h1]; rfl
    rw [List.length_cons, hs] at hf
    cases hv : tv ps r.1 with
    | true =>
      rw [hv] at hf
      have hm := hf k (by simp)
      have hx : lnO bs qs k = some r := by unfold lnO; rw [if_pos hm, h1]
      rw [hx]
      simp [hv]
    | false =>
      rw [hv] at hf
      have ih := ln_from (qs := qs) (ps := ps) t (k + 1) h2 (fun k0 hk => hf k0 (by simpa using hk))
      by_cases hm : some k ∈ qs.map (fq bs)
      · have hx : lnO bs qs k = some r := by unfold lnO; rw [if_pos hm, h1]
        rw [hx]
        simp [hv, ih]
      · have hx : lnO bs qs k = none := by unfold lnO; rw [if_neg hm]
        rw [hx]
        simp [ih]
theorem wq_ln {bs : List (D × Int × Int)} {qs : List (List (Str × Str))} {q : List (Str × Str)} (h : q ∈ qs) : wq (ln bs qs) q = wq bs q := by
  have e1 := wv_from (ps := dm q) (bs := bs) bs 0 (by simp)
  have e2 := wv_from (ps := dm q) (bs := ln bs qs) (ln bs qs) 0 (by simp)
  have e3 := ln_from (bs := bs) (qs := qs) (ps := dm q) bs 0 (by simp) (fun k0 hk => List.mem_map.mpr ⟨q, h, hk⟩)
  rw [← List.range_eq_range'] at e3
  have e4 : ((List.range bs.length).filterMap (lnO bs qs)) = ln bs qs := rfl
  rw [e4] at e3
  unfold wq fq
  rw [e1, e2, e3]
def PartAt (as bs : List (D × Int × Int)) (qs : List (List (Str × Str))) (lo : Nat) (c : Cells) (t : D) : Prop :=
  (t = .non ∧ ∀ q ∈ qs, wq as q = wq bs q) ∨ ∃ n q, t = .ref n ∧ q ∈ qs ∧ lo ≤ n ∧ c[n]? = some (.dct (dm q)) ∧ QOk q ∧ q.length ≤ 6 ∧ wq as q ≠ wq bs q
theorem fi_none {p : Nat → Bool} : ∀ {n k : Nat}, fi p k n = none → ∀ i, i < n → p (k + i) = false
  | 0, _, _, i, hi => by omega
  | n + 1, k, h, i, hi => by
    unfold fi at h
    split at h
    · cases h
    · rename_i hp
      cases i with
      | zero => simpa using hp
      | succ i =>
        have := fi_none h i (by omega)
        rwa [show k + 1 + i = k + (i + 1) by omega] at this
theorem fi_some {p : Nat → Bool} : ∀ {n k i : Nat}, fi p k n = some i → p i = true ∧ k ≤ i ∧ i < k + n
  | 0, _, _, h => by cases h
  | n + 1, k, i, h => by
    unfold fi at h
    split at h
    · rename_i hp
      cases h
      exact ⟨hp, Nat.le_refl _, by omega⟩
    · obtain ⟨a, b, d⟩ := fi_some h
      exact ⟨a, by omega, by omega⟩
noncomputable def LoopP : XS := (sIf (tV (e2 gNe (eCall F_worth [] (aCons (eV 0) (aCons (eV 3) aNil))) (eCall F_worth [] (aCons (eV 1) (aCons (eV 3) aNil)))))
      (sRet (eV 3))
      sNil)
theorem parted_ {a b d lo : Nat} {as bs : List (D × Int × Int)} {ps : List (Str × D)} {kl : List (Str × List Str)} {c : Cells} (ha : c[a]? = some (.lst (as.map rl))) (hb : c[b]? = some (.lst (bs.map rl))) (hTa : ∀ r ∈ as, Tr 26 r.1) (hT : ∀ r ∈ bs, Tr 26 r.1) (hal : as.length ≤ 20) (hbl : bs.length ≤ 20)
    (hd : c[d]? = some (.dro ps)) (hnd : (ps.map Prod.fst).Nodup) (hpl : ps.length ≤ 6) (hK : KL lo d c ps kl) :
    ∃ t c', F_parted [.ref a, .ref b, .ref d] c = some (t, c') ∧ PartAt as bs (chs kl) c.length c' t ∧ Kq [] c c' := by
  obtain ⟨f, c1, ns, e1, hC, hd1, k1⟩ := choices_ (.inr hd) hnd hpl hK
  have k0 := k1.drop hd hd1
  have ha1 := k0.get ha (by simp)
  have hb1 := k0.get hb (by simp)
  have il := iLst_ (a := eCall F_choices_of [] (aCons (eV 2) aNil)) (σ := [some (.ref a), some (.ref b), some (.ref d), none]) (c := c) (by erw [e1]) hC.at_
  let p : Nat → Bool := fun k => match (chs kl)[k]? with | some q => !decide (wq as q = wq bs q) | none => false
  let V : Nat → D := fun k => match ns[k]? with | some n => .ref n | none => .non
  obtain ⟨σ', c', e', q3, rfl, hcc⟩ := forGo_first (ks := [(f, .lst (ns.map D.ref))]) (g := gName 3) (body := LoopP) p V
    (fun σ c' => ∃ q, σ = [some (.ref a), some (.ref b), some (.ref d), q] ∧ c' = c1) (ns.map D.ref) 0 [some (.ref a), some (.ref b), some (.ref d), none] c1 (by
      rintro σ c' ⟨_, _, rfl⟩ z hz
      rw [List.mem_singleton.mp hz]
      exact hC.at_) (by
      rintro i dd σ c' hdd ⟨q3, rfl, rfl⟩
      rw [List.getElem?_map] at hdd
      cases hn : ns[i]? with
      | none => rw [hn] at hdd; cases hdd
      | some n =>
        rw [hn] at hdd
        cases hdd
        have hil : i < (chs kl).length := by rw [← hC.len]; exact (List.getElem?_eq_some_iff.mp hn).1
        have hq := List.getElem?_eq_getElem hil
        generalize (chs kl)[i] = q at hq
        obtain ⟨a1, a2, a3, a4, a5⟩ := hC.each i n q hn hq
        have w1 := worthF_ a4.dv hTa hal ha1 a3
        have w2 := worthF_ a4.dv hT hbl hb1 a3
        have hwa : wv as (fi (pvB (dm q) as) 0 as.length) = wq as q := rfl
        have hwb : wv bs (fi (pvB (dm q) bs) 0 bs.length) = wq bs q := rfl
        rw [hwa] at w1
        rw [hwb] at w2
        have hp : p (0 + i) = !decide (wq as q = wq bs q) := by simp only [p, Nat.zero_add, hq]
        have hV : V (0 + i) = .ref n := by simp only [V, Nat.zero_add, hn]
        refine ⟨_, c', [some (.ref a), some (.ref b), some (.ref d), some (.ref n)], c', rfl, ?_, ⟨_, rfl, rfl⟩⟩
        rw [hp, hV]
        have gn := gNe_pD (u := wq as q) (v := wq bs q) (c := c')
        unfold LoopP
        by_cases hw : wq as q = wq bs q
        · rw [decide_eq_true hw] at gn ⊢
          erw [w1, w2, gn]
        · rw [decide_eq_false hw] at gn ⊢
          erw [w1, w2, gn]) ⟨none, rfl, rfl⟩
  subst hcc
  have f1 : sFor (iLst (eCall F_choices_of [] (aCons (eV 2) aNil))) (gName 3) LoopP [some (.ref a), some (.ref b), some (.ref d), none] c = _ := (sFor_ il).trans e'
  rw [List.length_map] at f1
  cases hf : fi p 0 ns.length with
  | none =>
    rw [hf] at f1
    refine ⟨.non, c', ?_, .inl ⟨rfl, fun q hq => ?_⟩, k0⟩
    · rw [F_parted, mkF_, if_pos (show [D.ref a, D.ref b, D.ref d].length = 3 from rfl), B_parted]
      show (sSeq _ _ [some (.ref a), some (.ref b), some (.ref d), none] c).bind fin = _
      rw [sSeq_]
      show (Option.bind (sFor (iLst (eCall F_choices_of [] (aCons (eV 2) aNil))) (gName 3) LoopP [some (.ref a), some (.ref b), some (.ref d), none] c) _).bind fin = _
      rw [f1]
      rfl
    · obtain ⟨i, hi⟩ := List.mem_iff_getElem?.mp hq
      have hil : i < ns.length := by rw [hC.len]; exact (List.getElem?_eq_some_iff.mp hi).1
      have := fi_none hf i hil
      simp only [p, Nat.zero_add, hi] at this
      simpa using this
  | some k =>
    rw [hf] at f1
    obtain ⟨g1, _, g3⟩ := fi_some hf
    have hk : k < ns.length := by omega
    have hn := List.getElem?_eq_getElem hk
    have hq := List.getElem?_eq_getElem (show k < (chs kl).length by rw [← hC.len]; exact hk)
    obtain ⟨a1, a2, a3, a4, a5⟩ := hC.each k _ _ hn hq
    have hV : V k = .ref ns[k] := by simp only [V, hn]
    have l0 := k0.len
    refine ⟨.ref ns[k], c', ?_, .inr ⟨_, _, rfl, List.mem_of_getElem? hq, a1, a3, a4, a5, ?_⟩, k0⟩
    · rw [F_parted, mkF_, if_pos (show [D.ref a, D.ref b, D.ref d].length = 3 from rfl), B_parted]
      show (sSeq _ _ [some (.ref a), some (.ref b), some (.ref d), none] c).bind fin = _
      rw [sSeq_]
      show (Option.bind (sFor (iLst (eCall F_choices_of [] (aCons (eV 2) aNil))) (gName 3) LoopP [some (.ref a), some (.ref b), some (.ref d), none] c) _).bind fin = _
      rw [f1]
      show some (V k, c') = _
      rw [hV]
    · simp only [p, hq] at g1
      simpa using g1
structure UL (u : Nat) (us : List (Nat × List (Str × Str))) (c : Cells) : Prop where
  at_ : c[u]? = some (.lst (us.map fun p => D.ref p.1))
  each : ∀ p ∈ us, c[p.1]? = some (.dct (dm p.2)) ∧ QOk p.2
theorem UL.keep {u : Nat} {us : List (Nat × List (Str × Str))} {c c' : Cells} {S : List Nat} (h : UL u us c) (k : Kq S c c') (h1 : u ∉ S) (h2 : ∀ p ∈ us, p.1 ∉ S) : UL u us c' :=
  ⟨k.get h.at_ h1, fun p hp => ⟨k.get (h.each p hp).1 (h2 p hp), (h.each p hp).2⟩⟩
theorem inDs_ {n u : Nat} {c : Cells} {q : List (Str × Str)} {us : List (Nat × List (Str × Str))} (hn : c[n]? = some (.dct (dm q))) (hq : QOk q) (hU : UL u us c) (hm : ∃ p ∈ us, p.2 = q) : inDs (.ref n) (.ref u) c = some true := by
  have each : ∀ (us' : List (Nat × List (Str × Str))), (∀ p ∈ us', c[p.1]? = some (.dct (dm p.2)) ∧ QOk p.2) → ∃ bs : List Bool, omap (fun d => (dcOf d c).bind fun q' => (pdata c q'.2).bind fun b => some (q'.1 == n || eqPs b (q.map fun q => (q.1, PyData.str q.2)))) (us'.map fun p => D.ref p.1) = some bs ∧ ((∃ p ∈ us', p.2 = q) → bs.any id = true) := by
    intro us'
    induction us' with
    | nil =>
      intro _
      exact ⟨[], rfl, fun ⟨p, hp, _⟩ => by cases hp⟩
    | cons x us' ih =>
      intro he
      obtain ⟨bs, e, hb⟩ := ih (fun p hp => he p (List.mem_cons_of_mem _ hp))
      obtain ⟨c1, c2⟩ := he x (List.mem_cons_self ..)
      refine ⟨(x.1 == n || eqPs (x.2.map fun q => (q.1, PyData.str q.2)) (q.map fun q => (q.1, PyData.str q.2))) :: bs, ?_, fun ⟨p, hp, hpq⟩ => ?_⟩
      · rw [List.map_cons]
        unfold omap
        rw [dcOf_ c1]
        simp only [Option.bind_some, pdata_ c2.ok, e]
      · rw [List.any_cons]
        rcases List.mem_cons.mp hp with h | h
        · subst h
          subst hpq
          rw [eqPs_self (by rw [List.map_map]; exact hq.nd)]
          simp
        · rw [hb ⟨p, h, hpq⟩]
          simp
  obtain ⟨bs, e, hb⟩ := each us hU.each
  unfold inDs
  rw [lstOf_lst hU.at_, dcOf_ hn]
  simp only [Option.bind_some, pdata_ hq.ok, e, hb hm]
theorem gInDs_ {n u : Nat} {c : Cells} {q : List (Str × Str)} {us : List (Nat × List (Str × Str))} (hn : c[n]? = some (.dct (dm q))) (hq : QOk q) (hU : UL u us c) (hm : ∃ p ∈ us, p.2 = q) : gInDs (.ref n) (.ref u) c = some (.bl true, c) ∧ gNotInDs (.ref n) (.ref u) c = some (.bl false, c) := by
  have e := inDs_ hn hq hU hm
  unfold gInDs gNotInDs
  rw [e]
  exact ⟨rfl, rfl⟩
theorem gEqW_nil {b n : Nat} {c : Cells} {bs : List (D × Int × Int)} (hb : c[b]? = some (.lst (bs.map rl))) (hn : c[n]? = some (.lst [])) (h : ∀ r ∈ bs, Tr 26 r.1) : gEqW (.ref b) (.ref n) c = some (.bl bs.isEmpty, c) := by
  obtain ⟨ds, e⟩ := book_data (c := c) bs h
  have e2 : omap (data c 59) ([] : List D) = some [] := rfl
  unfold gEqW eqMW
  rw [data_lst hb e, data_lst hn e2]
  simp only [Option.bind_some]
  cases bs with
  | nil =>
    have : ds = [] := by
      have e3 : omap (data c 59) (([] : List (D × Int × Int)).map rl) = some [] := rfl
      rw [e3] at e
      exact (Option.some.inj e).symm
    subst this
    simp
  | cons r bs =>
    have : ds ≠ [] := by
      rintro rfl
      rw [List.map_cons] at e
      unfold omap at e
      cases h1 : data c 59 (rl r) with
      | none => rw [h1] at e; cases e
      | some d1 =>
        rw [h1] at e
        cases h2 : omap (data c 59) (bs.map rl) with
        | none => rw [h2] at e; cases e
        | some d2 => rw [h2] at e; cases e
    simp [this]
theorem gCut_ref {b : Nat} {xs : List D} {c : Cells} {lo hi : Option Int} (h : c[b]? = some (.lst xs)) : gCut (.ref b) lo hi c = some (.ref c.length, c ++ [.lst (Qm.cutD xs lo hi)]) := by
  have : gCut (.ref b) lo hi c = (seqOf (.ref b) c).bind fun xs => some (.ref c.length, c ++ [.lst (Qm.cutD xs lo hi)]) := rfl
  rw [this, seqOf_lst h]
  rfl
theorem cut_map {bs : List (D × Int × Int)} {lo hi : Option Int} : Qm.cutD (bs.map rl) lo hi = (Qm.cutD bs lo hi).map rl := by
  unfold Qm.cutD
  rw [List.length_map, List.map_take, List.map_drop]
theorem cut_mem {bs : List (D × Int × Int)} {lo hi : Option Int} {r : D × Int × Int} (h : r ∈ Qm.cutD bs lo hi) : r ∈ bs := List.mem_of_mem_drop (List.mem_of_mem_take h)
theorem cut_len {bs : List (D × Int × Int)} {lo hi : Option Int} : (Qm.cutD bs lo hi).length ≤ bs.length := by
  unfold Qm.cutD
  rw [List.length_take, List.length_drop]
  omega
theorem oSome_int {a : XE} {σ : Qm.Env} {c c1 : Cells} {i : Int} (h : a σ c = some (.int i, c1)) : oSome a σ c = some (some i, c1) := by unfold oSome; rw [h]; rfl
theorem rl_app {as bs : List (D × Int × Int)} : as.map rl ++ bs.map rl = (as ++ bs).map rl := by rw [List.map_append]
theorem other_ {l b m : Nat} {mm : Int} {bs ms : List (D × Int × Int)} {c : Cells} (h : Lf l mm c) (hb : c[b]? = some (.lst (bs.map rl))) (hm : c[m]? = some (.lst (ms.map rl))) (hlb : l ≠ b) (hlm : l ≠ m) (hT : ∀ r ∈ bs, Tr 26 r.1) (hTm : ∀ r ∈ ms, Tr 26 r.1) (hbl : bs.length ≤ 8) (hml : ms.length ≤ 20) :
    ∃ o os c', F_law_other [.ref l, .ref b, .ref m] c = some (.ref o, c') ∧ c'[o]? = some (.lst ((os : List (D × Int × Int)).map rl)) ∧ (∀ r ∈ os, Tr 26 r.1) ∧ os.length ≤ 20 ∧ Kq [l] c c' ∧ (o = m ∨ c.length ≤ o) := by
  obtain ⟨g, c1, e1, g0, g1, p1, k1⟩ := take_ h (k := 5) (by decide) (by decide)
  have hb1 := k1.get hb (by simpa using hlb.symm)
  have sb1 := seqOf_lst hb1
  have hl1 : ((bs.map rl).length : Int) = (bs.length : Int) := by rw [List.length_map]
  have hmx : (if ((bs.map rl).length : Int) > 1 then ((bs.map rl).length : Int) else 1) = if (bs.length : Int) > 1 then (bs.length : Int) else 1 := by rw [hl1]
  obtain ⟨a, c2, et2, a0, a1, p2, k2⟩ := take_ p1 (k := if (bs.length : Int) > 1 then (bs.length : Int) else 1) (by split <;> omega) (by split <;> omega)
  have k02 := k1.trans k2
  have hb2 := k02.get hb (by simpa using hlb.symm)
  have hm2 := k02.get hm (by simpa using hlm.symm)
  have hll := p2.lt
  have hbll := get_lt hb2
  -- the first two
  have two : ∀ (R : XS) (r : Option (Fl × Qm.Env × Cells)), R [some (.ref l), some (.ref b), some (.ref m), some (.int g), some (.int a)] c2 = r → sSeq (sSet 3 (eCall F_law_take [] (aCons (eV 0) (aCons (eC (.int 5)) aNil)))) (sSeq (sSet 4 (eCall F_law_take [] (aCons (eV 0) (aCons (eB bMax2 (aCons (eC (.int 1)) (aCons (eB bLen (aCons (eV 1) aNil)) aNil))) aNil)))) R) [some (.ref l), some (.ref b), some (.ref m), none, none] c = r := by
    intro R r hr
    refine sSeq_of (σ1 := [some (.ref l), some (.ref b), some (.ref m), some (.int g), none]) (c1 := c1) (by erw [e1]) ?_
    refine sSeq_of (σ1 := [some (.ref l), some (.ref b), some (.ref m), some (.int g), some (.int a)]) (c1 := c2) (by erw [bLen_, sb1, hmx, et2]) hr
  have close : ∀ o os c' σ', B_law_other [some (.ref l), some (.ref b), some (.ref m), none, none] c = some (.rt (.ref o), σ', c') → c'[o]? = some (.lst ((os : List (D × Int × Int)).map rl)) → (∀ r ∈ os, Tr 26 r.1) → os.length ≤ 20 → Kq [l] c c' → (o = m ∨ c.length ≤ o) → ∃ o os c', F_law_other [.ref l, .ref b, .ref m] c = some (.ref o, c') ∧ c'[o]? = some (.lst ((os : List (D × Int × Int)).map rl)) ∧ (∀ r ∈ os, Tr 26 r.1) ∧ os.length ≤ 20 ∧ Kq [l] c c' ∧ (o = m ∨ c.length ≤ o) := by
    intro o os c' σ' run h1 h2 h3 h4 h5
    refine ⟨o, os, c', ?_, h1, h2, h3, h4, h5⟩
    erw [F_law_other, run]
  by_cases w0 : g = 0
  · subst w0
    refine close m ms c2 _ (show _ = some (_, [some (.ref l), some (.ref b), some (.ref m), some (.int 0), some (.int a)], _) from ?_) hm2 hTm hml k02 (.inl rfl)
    unfold B_law_other
    refine two _ _ ?_
    erw []
  have hd0 : decide (g = 0) = false := decide_eq_false w0
  have nE := gEqW_nil (n := c2.length) (get_app (zs := [.lst []]) hb2) get_new hT
  cases hbe : bs with
  | nil =>
    rw [hbe] at nE
    refine close m ms (c2 ++ [.lst []]) _ (show _ = some (_, [some (.ref l), some (.ref b), some (.ref m), some (.int g), some (.int a)], _) from ?_) (get_app hm2) hTm hml (k02.trans Kq.more) (.inl rfl)
    unfold B_law_other
    refine two _ _ ?_
    rw [List.isEmpty_nil] at nE
    erw [hd0, line0, nE]
  | cons r0 bt =>
  have hne : bs.isEmpty = false := by rw [hbe]; rfl
  rw [hne] at nE
  have hpos : 0 < bs.length := by rw [hbe]; simp
  rw [← hbe] at *
  clear hbe
  have hal : a < bs.length := by split at a1 <;> omega
  have hbn := get_app (zs := [.lst []]) hb2
  generalize hc3 : c2 ++ [Cell.lst []] = c3 at *
  have k03 : Kq [l] c c3 := by rw [← hc3]; exact k02.trans Kq.more
  have p3 : Lf l mm c3 := by rw [← hc3]; exact p2.more
  have skip : ∀ (R : XS) (r : Option (Fl × Qm.Env × Cells)), R [some (.ref l), some (.ref b), some (.ref m), some (.int g), some (.int a)] c3 = r → sSeq (sIf (tOr (tV (e2 gEq (eV 3) (eC (.int 0)))) (tV (e2 gEqW (eV 1) (eLst aNil)))) (sRet (eV 2)) sNil) R [some (.ref l), some (.ref b), some (.ref m), some (.int g), some (.int a)] c2 = r := by
    intro R r hr
    refine sSeq_of (σ1 := [some (.ref l), some (.ref b), some (.ref m), some (.int g), some (.int a)]) (c1 := c3) (by erw [hd0, line0, hc3, nE]) hr
  have o4 : ∀ c', oSome (eV 4) [some (.ref l), some (.ref b), some (.ref m), some (.int g), some (.int a)] c' = some (some a, c') := fun c' => oSome_int rfl
  have o5 : ∀ c', oSome (e2 gAdd (eV 4) (eC (.int 1))) [some (.ref l), some (.ref b), some (.ref m), some (.int g), some (.int a)] c' = some (some (a + 1), c') := fun c' => oSome_int rfl
  by_cases w1 : g = 1
  · have d1 : decide (g = 1) = true := decide_eq_true w1
    have hbk : bs[a.toNat]? = some (bs[a.toNat]'(by omega)) := List.getElem?_eq_getElem _
    generalize bs[a.toNat]'(by omega) = r at hbk
    have hat : atD (bs.map rl) a = some (rl r) := by
      have := atD_nat (xs := bs.map rl) (n := a.toNat) (x := rl r) (by rw [List.getElem?_map, hbk]; rfl)
      rwa [Int.toNat_of_nonneg a0] at this
    have s1 := gCut_ref (lo := none) (hi := some a) hbn
    have sb3 := seqOf_lst (get_app (zs := [.lst (Qm.cutD (bs.map rl) none (some a))]) hbn)
    have gi : ∀ x y, gIx (.ref b) (.int y) x = (seqOf (.ref b) x).bind fun xs => (atD xs y).bind fun d => some (d, x) := fun _ _ => rfl
    have h0 : ∀ x, gIx (rl r) (.int 0) x = some (r.1, x) := fun _ => rfl
    obtain ⟨x, y, c5, e5, p5, k5⟩ := worth_ (l := l) (m := mm) (c := c3 ++ [.lst (Qm.cutD (bs.map rl) none (some a))]) p3.more
    have hl3 := p3.lt
    have q1 : c5[c3.length]? = some (.lst (Qm.cutD (bs.map rl) none (some a))) := k5.get get_new (by simp; omega)
    have hb5 := k5.get (get_app (zs := [.lst (Qm.cutD (bs.map rl) none (some a))]) hbn) (by simpa using hlb.symm)
    have q2 : gAdd (.ref c3.length) (.ref c5.length) (c5 ++ [.lst [.tup [r.1, .tup [.int x, .int y]]]]) = _ := gAdd_ref (get_app q1) get_new (by
      rw [cut_map, List.length_map]
      have := cut_len (bs := bs) (lo := none) (hi := some a)
      simp only [List.length_cons, List.length_nil]
      omega)
    have e6 : Qm.cutD (bs.map rl) none (some a) ++ [D.tup [r.1, .tup [.int x, .int y]]] = (Qm.cutD bs none (some a) ++ [(r.1, x, y)]).map rl := by rw [cut_map, List.map_append]; rfl
    rw [e6] at q2
    generalize hc6 : c5 ++ [Cell.lst [D.tup [r.1, .tup [.int x, .int y]]]] = c6 at *
    have hb6 : c6[b]? = some (.lst (bs.map rl)) := by rw [← hc6]; exact get_app hb5
    have s2 := gCut_ref (lo := some (a + 1)) (hi := none) (get_app (zs := [.lst ((Qm.cutD bs none (some a) ++ [(r.1, x, y)]).map rl)]) hb6)
    rw [cut_map] at s2
    generalize hc7 : c6 ++ [Cell.lst ((Qm.cutD bs none (some a) ++ [(r.1, x, y)]).map rl)] = c7 at *
    have hn7 : c7[c6.length]? = some (.lst ((Qm.cutD bs none (some a) ++ [(r.1, x, y)]).map rl)) := by rw [← hc7]; exact get_new
    have cl1 := cut_len (bs := bs) (lo := none) (hi := some a)
    have cl2 := cut_len (bs := bs) (lo := some (a + 1)) (hi := none)
    have q3 : gAdd (.ref c6.length) (.ref c7.length) (c7 ++ [.lst ((Qm.cutD bs (some (a + 1)) none).map rl)]) = _ := gAdd_ref (get_app hn7) get_new (by
      simp only [List.length_map, List.length_append, List.length_cons, List.length_nil]
      omega)
    rw [rl_app] at q3
    have k07 : Kq [l] c c7 := by
      rw [← hc7, ← hc6]
      exact (((k03.trans Kq.more).trans k5).trans Kq.more).trans Kq.more
    refine close (c7 ++ [Cell.lst ((Qm.cutD bs (some (a + 1)) none).map rl)]).length (Qm.cutD bs none (some a) ++ [(r.1, x, y)] ++ Qm.cutD bs (some (a + 1)) none) (c7 ++ [Cell.lst ((Qm.cutD bs (some (a + 1)) none).map rl)] ++ [.lst ((Qm.cutD bs none (some a) ++ [(r.1, x, y)] ++ Qm.cutD bs (some (a + 1)) none).map rl)]) _ (show _ = some (_, [some (.ref l), some (.ref b), some (.ref m), some (.int g), some (.int a)], _) from ?_) get_new (fun z hz => ?_) ?_ ((k07.trans Kq.more).trans Kq.more) (.inr (by have := k07.len; rw [List.length_append]; omega))
    · unfold B_law_other
      refine two _ _ (skip _ _ ?_)
      rw [sSeq_, sIf_]
      erw [d1, o4, s1, gi, sb3, hat, h0, e5, hc6, q2, hc7, o5, s2, q3]
    · rcases List.mem_append.mp hz with hz | hz
      · rcases List.mem_append.mp hz with hz | hz
        · exact hT z (cut_mem hz)
        · rw [List.mem_singleton.mp hz]
          exact hT r (List.mem_of_getElem? hbk)
      · exact hT z (cut_mem hz)
    · simp only [List.length_append, List.length_cons, List.length_nil]
      omega
  have hd1 : decide (g = 1) = false := decide_eq_false w1
  by_cases w2 : g = 2
  · have d2 : decide (g = 2) = true := decide_eq_true w2
    have s1 := gCut_ref (lo := none) (hi := some a) hbn
    rw [cut_map] at s1
    generalize hc4 : c3 ++ [Cell.lst ((Qm.cutD bs none (some a)).map rl)] = c4 at *
    have hb4 : c4[b]? = some (.lst (bs.map rl)) := by rw [← hc4]; exact get_app hbn
    have hn4 : c4[c3.length]? = some (.lst ((Qm.cutD bs none (some a)).map rl)) := by rw [← hc4]; exact get_new
    have s2 := gCut_ref (lo := some (a + 1)) (hi := none) hb4
    rw [cut_map] at s2
    have cl1 := cut_len (bs := bs) (lo := none) (hi := some a)
    have cl2 := cut_len (bs := bs) (lo := some (a + 1)) (hi := none)
    have q3 : gAdd (.ref c3.length) (.ref c4.length) (c4 ++ [.lst ((Qm.cutD bs (some (a + 1)) none).map rl)]) = _ := gAdd_ref (get_app hn4) get_new (by
      simp only [List.length_map]
      omega)
    rw [rl_app] at q3
    have k04 : Kq [l] c c4 := by rw [← hc4]; exact k03.trans Kq.more
    refine close (c4 ++ [Cell.lst ((Qm.cutD bs (some (a + 1)) none).map rl)]).length (Qm.cutD bs none (some a) ++ Qm.cutD bs (some (a + 1)) none) (c4 ++ [Cell.lst ((Qm.cutD bs (some (a + 1)) none).map rl)] ++ [.lst ((Qm.cutD bs none (some a) ++ Qm.cutD bs (some (a + 1)) none).map rl)]) _ (show _ = some (_, [some (.ref l), some (.ref b), some (.ref m), some (.int g), some (.int a)], _) from ?_) get_new (fun z hz => ?_) ?_ ((k04.trans Kq.more).trans Kq.more) (.inr (by have := k04.len; rw [List.length_append]; omega))
    · unfold B_law_other
      refine two _ _ (skip _ _ ?_)
      erw [hd1, d2, o4, s1, o5, s2, q3]
    · rcases List.mem_append.mp hz with hz | hz <;> exact hT z (cut_mem hz)
    · simp only [List.length_append]
      omega
  have hd2 : decide (g = 2) = false := decide_eq_false w2
  by_cases w3 : g = 3
  · have d3 : decide (g = 3) = true := decide_eq_true w3
    have s1 := gCut_ref (lo := some a) (hi := none) hbn
    rw [cut_map] at s1
    generalize hc4 : c3 ++ [Cell.lst ((Qm.cutD bs (some a) none).map rl)] = c4 at *
    have hb4 : c4[b]? = some (.lst (bs.map rl)) := by rw [← hc4]; exact get_app hbn
    have hn4 : c4[c3.length]? = some (.lst ((Qm.cutD bs (some a) none).map rl)) := by rw [← hc4]; exact get_new
    have s2 := gCut_ref (lo := none) (hi := some a) hb4
    rw [cut_map] at s2
    have cl1 := cut_len (bs := bs) (lo := none) (hi := some a)
    have cl2 := cut_len (bs := bs) (lo := some a) (hi := none)
    have q3 : gAdd (.ref c3.length) (.ref c4.length) (c4 ++ [.lst ((Qm.cutD bs none (some a)).map rl)]) = _ := gAdd_ref (get_app hn4) get_new (by
      simp only [List.length_map]
      omega)
    rw [rl_app] at q3
    have k04 : Kq [l] c c4 := by rw [← hc4]; exact k03.trans Kq.more
    refine close (c4 ++ [Cell.lst ((Qm.cutD bs none (some a)).map rl)]).length (Qm.cutD bs (some a) none ++ Qm.cutD bs none (some a)) (c4 ++ [Cell.lst ((Qm.cutD bs none (some a)).map rl)] ++ [.lst ((Qm.cutD bs (some a) none ++ Qm.cutD bs none (some a)).map rl)]) _ (show _ = some (_, [some (.ref l), some (.ref b), some (.ref m), some (.int g), some (.int a)], _) from ?_) get_new (fun z hz => ?_) ?_ ((k04.trans Kq.more).trans Kq.more) (.inr (by have := k04.len; rw [List.length_append]; omega))
    · unfold B_law_other
      refine two _ _ (skip _ _ ?_)
      erw [hd1, hd2, d3, o4, s1, s2, q3]
    · rcases List.mem_append.mp hz with hz | hz <;> exact hT z (cut_mem hz)
    · simp only [List.length_append]
      omega
  have hd3 : decide (g = 3) = false := decide_eq_false w3
  have lb3 := lstOf_lst hbn
  have rv : bListRev [.ref b] c3 = some (.ref c3.length, c3 ++ [.lst (bs.reverse.map rl)]) := by
    unfold bListRev
    dsimp only
    rw [lb3]
    simp only [Option.bind_some]
    rw [if_pos (line_ok (by rw [List.length_map]; omega)), List.map_reverse]
  refine close c3.length bs.reverse (c3 ++ [.lst (bs.reverse.map rl)]) _ (show _ = some (_, [some (.ref l), some (.ref b), some (.ref m), some (.int g), some (.int a)], _) from ?_) get_new (fun z hz => hT z (by simpa using hz)) (by rw [List.length_reverse]; omega) (k03.trans Kq.more) (.inr k03.len)
  unfold B_law_other
  refine two _ _ (skip _ _ ?_)
  erw [hd1, hd2, hd3, rv]
theorem dec_iff {p q : Prop} {i : Decidable p} {j : Decidable q} (h : p ↔ q) : @decide p i = @decide q j := by
  cases i with
  | isTrue x => cases j with
    | isTrue y => rfl
    | isFalse y => exact absurd (h.mp x) y
  | isFalse x => cases j with
    | isTrue y => exact absurd (h.mpr y) x
    | isFalse y => rfl
theorem gIn_firsts {g i : Nat} {c : Cells} {rs : List (Option Nat)} (h : c[g]? = some (.lst (rs.map rD))) : gIn (.int i) (.ref g) c = some (.bl (@decide (some i ∈ rs) (Classical.propDecidable _)), c) := by
  have hx : (PyData.int (i : Int) ∈ rs.map fun r => match r with | some k => PyData.int k | none => .none) ↔ some i ∈ rs := by
    constructor
    · intro hm
      obtain ⟨r, hr, e⟩ := List.mem_map.mp hm
      cases r with
      | none => cases e
      | some k =>
        have : (k : Int) = i := by injection e
        have hk : k = i := by omega
        rwa [hk] at hr
    · intro hm
      exact List.mem_map.mpr ⟨some i, hm, rfl⟩
  unfold gIn inM
  rw [seqOf_lst h]
  simp only [Option.bind_some, data_int, omap_rD]
  refine congrArg (fun b => some (D.bl b, c)) ?_
  exact dec_iff hx
theorem leancomp_ {b g : Nat} {bs : List (D × Int × Int)} {qs : List (List (Str × Str))} {c : Cells} {σ : Qm.Env} (hb : c[b]? = some (.lst (bs.map rl))) (hg : c[g]? = some (.lst (qs.map fun q => rD (fq bs q)))) (h4 : σ[4]? = some (some (.ref b))) (h6 : σ[6]? = some (some (.ref g))) (hbl : bs.length ≤ 8) :
    ∃ c', eComp (iRng1 (aCons (eB bLen (aCons (eV 4) aNil)) aNil)) [none, some 4, some 6] (gName 0) (tV (Qm.e2 gIn (eV 0) (eV 2))) (Qm.e2 gIx (eV 1) (eV 0)) σ c = some (.ref c.length, c') ∧ c <+: c' ∧ c'[c.length]? = some (.lst ((ln bs qs).map rl)) := by
  have sb := seqOf_lst hb
  have hr : iRng1 (aCons (eB bLen (aCons (eV 4) aNil)) aNil) σ c = some (⟨rng 0 ((bs.map rl).length : Int).toNat, []⟩, c) := iRng1' (j := ((bs.map rl).length : Int)) (by erw [bLen_, h4, sb]) (by rw [List.length_map]; omega)
  have hlen : (rng 0 ((bs.map rl).length : Int).toNat).length = bs.length := by rw [rng_len, List.length_map]; omega
  obtain ⟨c', e, hp, hc⟩ := compF (te := Qm.e2 gIx (eV 1) (eV 0)) (tt := tV (Qm.e2 gIn (eV 0) (eV 2))) (g := gName 0) (cap := [none, some 4, some 6]) ((List.range bs.length).map fun k => (lnO bs qs k).map rl) (fun τ => ∃ a, τ = [a, some (.ref b), some (.ref g)]) hr stays_nil ⟨none, by simp [capt, h4, h6]⟩ (by rw [hlen]; simp) (by
      rintro i d' o g1 g2 τ c3 ⟨a, rfl⟩ hp3
      obtain ⟨hi, rfl⟩ := rng_at g1
      have hil : i < bs.length := by rw [List.length_map] at hi; omega
      rw [List.getElem?_map, List.getElem?_range hil] at g2
      cases g2
      rw [Int.zero_add]
      have gin := gIn_firsts (i := i) (c := c3) (g := g) (rs := qs.map (fq bs)) (by rw [pre_get hp3 hg, List.map_map]; rfl)
      have hbk : bs[i]? = some bs[i] := List.getElem?_eq_getElem hil
      by_cases hm : some i ∈ qs.map (fq bs)
      · have hx : lnO bs qs i = some bs[i] := by unfold lnO; rw [if_pos hm, hbk]
        refine ⟨[some (.int i), some (.ref b), some (.ref g)], [], rfl, ?_, ⟨_, rfl⟩, fun v hv => ?_⟩
        · dsimp only
          rw [hx]
          simp only [hm, decide_true] at gin
          erw [gin]
          rfl
        · dsimp only at hv
          rw [hx] at hv
          cases hv
          have hat : atD (bs.map rl) (i : Int) = some (rl bs[i]) := atD_nat (by rw [List.getElem?_map, hbk]; rfl)
          have sb3 := seqOf_lst (pre_get hp3 hb)
          have gi : ∀ x y, gIx (.ref b) (.int y) x = (seqOf (.ref b) x).bind fun xs => (atD xs y).bind fun d => some (d, x) := fun _ _ => rfl
          exact ⟨[], by erw [gi, sb3, hat]⟩
      · have hx : lnO bs qs i = none := by unfold lnO; rw [if_neg hm]
        refine ⟨[some (.int i), some (.ref b), some (.ref g)], [], rfl, ?_, ⟨_, rfl⟩, fun v hv => ?_⟩
        · dsimp only
          rw [hx]
          simp only [hm, decide_false] at gin
          erw [gin]
          rfl
        · dsimp only at hv
          rw [hx] at hv
          cases hv) (by rw [hlen]; omega)
  rw [fm_map] at hc
  exact ⟨c', e, hp, hc⟩
noncomputable def LoopY : XS := (sIf (tV (Qm.e2 gNe (eCall F_worth [] (aCons (eV 8) (aCons (eV 9) aNil))) (eCall F_law_at [] (aCons (eV 4) (aCons (eV 9) aNil)))))
      (sRet (eC (.bl false)))
      sNil)
theorem same_ {b l f lo : Nat} {bs : List (D × Int × Int)} {kl : List (Str × List Str)} {ns : List Nat} {c : Cells} {q0 q1 q2 q3 q6 q7 q9 : Option D} {rest : List (Option D)} (hC : CL lo f 6 (chs kl) ns c) (hb : c[b]? = some (.lst (bs.map rl))) (hl : c[l]? = some (.lst ((ln bs (chs kl)).map rl))) (hT : ∀ r ∈ bs, Tr 26 r.1) (hbl : bs.length ≤ 8) :
    ∃ c' r9, sFor (iLst (eV 5)) (gName 9) LoopY (q0 :: q1 :: q2 :: q3 :: some (.ref b) :: some (.ref f) :: q6 :: q7 :: some (.ref l) :: q9 :: rest) c = some (.nx, (q0 :: q1 :: q2 :: q3 :: some (.ref b) :: some (.ref f) :: q6 :: q7 :: some (.ref l) :: r9 :: rest), c') ∧ c <+: c' := by
  have il := iLst_ (a := eV 5) (σ := (q0 :: q1 :: q2 :: q3 :: some (.ref b) :: some (.ref f) :: q6 :: q7 :: some (.ref l) :: q9 :: rest)) (c := c) rfl hC.at_
  have hTl : ∀ r ∈ ln bs (chs kl), Tr 26 r.1 := fun r hr => hT r (ln_mem hr)
  have hll := ln_len (bs := bs) (qs := chs kl)
  have key := forGo_inv (ks := [(f, .lst (ns.map D.ref))]) (g := gName 9) (body := LoopY)
    (fun _ σ c' => ∃ r9, σ = (q0 :: q1 :: q2 :: q3 :: some (.ref b) :: some (.ref f) :: q6 :: q7 :: some (.ref l) :: r9 :: rest) ∧ c <+: c') (ns.map D.ref) 0 (q0 :: q1 :: q2 :: q3 :: some (.ref b) :: some (.ref f) :: q6 :: q7 :: some (.ref l) :: q9 :: rest) c
    (by
      rintro i σ c' ⟨_, _, hp⟩ z hz
      rw [List.mem_singleton.mp hz]
      exact pre_get hp hC.at_) (by
      rintro i dd σ c' hdd ⟨r9, rfl, hp⟩
      rw [List.getElem?_map] at hdd
      cases hn : ns[i]? with
      | none => rw [hn] at hdd; cases hdd
      | some n =>
        rw [hn] at hdd
        cases hdd
        have hil : i < (chs kl).length := by rw [← hC.len]; exact (List.getElem?_eq_some_iff.mp hn).1
        have hq := List.getElem?_eq_getElem hil
        obtain ⟨a1, a2, a3, a4, a5⟩ := hC.each i n _ hn hq
        have hm := List.mem_of_getElem? hq
        generalize (chs kl)[i] = q at *
        have w1 := worthF_ a4.dv hTl (by omega) (pre_get hp hl) (pre_get hp a3)
        obtain ⟨zs, w2⟩ := lat_ a4.dv hT (by omega) (pre_get hp hb) (pre_get hp a3)
        have hwa : wv (ln bs (chs kl)) (fi (pvB (dm q) (ln bs (chs kl))) 0 (ln bs (chs kl)).length) = wq (ln bs (chs kl)) q := rfl
        have hwb : wv bs (fi (pvB (dm q) bs) 0 bs.length) = wq bs q := rfl
        rw [hwa, wq_ln hm] at w1
        rw [hwb] at w2
        have gn := gNe_pD (u := wq bs q) (v := wq bs q) (c := c' ++ zs)
        rw [decide_eq_true rfl] at gn
        refine ⟨_, c', (q0 :: q1 :: q2 :: q3 :: some (.ref b) :: some (.ref f) :: q6 :: q7 :: some (.ref l) :: some (.ref n) :: rest), c' ++ zs, rfl, ?_, ⟨_, rfl, hp.trans ⟨_, rfl⟩⟩⟩
        unfold LoopY
        erw [w1, w2, gn]) ⟨_, rfl, List.prefix_rfl⟩
  obtain ⟨σ', c', e', r9, rfl, hp⟩ := key
  exact ⟨c', r9, (sFor_ il).trans e', hp⟩
noncomputable def unl (as bs : List (D × Int × Int)) (ns : List Nat) (qs : List (List (Str × Str))) : List (Nat × List (Str × Str)) := (ns.zip qs).filter fun p => !decide (wq as p.2 = wq bs p.2)
theorem fm_filter {α : Type} {P : α → Bool} {g : α → D} : ∀ {xs : List α}, (xs.map fun x => if P x = true then some (g x) else none).filterMap id = (xs.filter P).map g
  | [] => rfl
  | x :: xs => by
    have ih := fm_filter (P := P) (g := g) (xs := xs)
    rw [List.map_cons, List.filterMap_cons, List.filter_cons]
    cases h : P x with
    | true => simp [ih]
    | false => simp [ih]
theorem unlike_ {a b f lo : Nat} {as bs : List (D × Int × Int)} {kl : List (Str × List Str)} {ns : List Nat} {c : Cells} {σ : Qm.Env} (hC : CL lo f 6 (chs kl) ns c) (ha : c[a]? = some (.lst (as.map rl))) (hb : c[b]? = some (.lst (bs.map rl))) (hTa : ∀ r ∈ as, Tr 26 r.1) (hT : ∀ r ∈ bs, Tr 26 r.1) (hal : as.length ≤ 20) (hbl : bs.length ≤ 20)
    (h4 : σ[4]? = some (some (.ref a))) (h5 : σ[5]? = some (some (.ref f))) (h10 : σ[10]? = some (some (.ref b))) (hsm : ns.length ≤ 9000000) :
    ∃ c', eComp (iLst (eV 5)) [none, some 4, some 10] (gName 0) (tV (Qm.e2 gNe (eCall F_law_at [] (aCons (eV 1) (aCons (eV 0) aNil))) (eCall F_law_at [] (aCons (eV 2) (aCons (eV 0) aNil))))) (eV 0) σ c = some (.ref c.length, c') ∧ c <+: c' ∧ UL c.length (unl as bs ns (chs kl)) c' := by
  have il := iLst_ (a := eV 5) (σ := σ) (c := c) (by erw [h5]) hC.at_
  obtain ⟨c', e, hp, hc⟩ := compF (te := eV 0) (tt := tV (Qm.e2 gNe (eCall F_law_at [] (aCons (eV 1) (aCons (eV 0) aNil))) (eCall F_law_at [] (aCons (eV 2) (aCons (eV 0) aNil))))) (g := gName 0) (cap := [none, some 4, some 10])
    ((ns.zip (chs kl)).map fun p => if (!decide (wq as p.2 = wq bs p.2)) = true then some (D.ref p.1) else none) (fun τ => ∃ x, τ = [x, some (.ref a), some (.ref b)]) il (by
      intro q hq
      rw [List.mem_singleton.mp hq]
      exact hC.at_) ⟨none, by simp [capt, h4, h10]⟩ (by simp [hC.len]) (by
      rintro i d' o g1 g2 τ c3 ⟨x, rfl⟩ hp3
      rw [List.getElem?_map] at g1 g2
      cases hz : (ns.zip (chs kl))[i]? with
      | none => rw [hz] at g2; cases g2
      | some p =>
        rw [hz] at g2
        cases g2
        obtain ⟨n, q⟩ := p
        obtain ⟨z1, z2⟩ := List.getElem?_zip_eq_some.mp hz
        dsimp only at z1 z2 ⊢
        rw [z1] at g1
        cases g1
        obtain ⟨a1, a2, a3, a4, a5⟩ := hC.each i n q z1 z2
        obtain ⟨y1, w1⟩ := lat_ a4.dv hTa hal (pre_get hp3 ha) (pre_get hp3 a3)
        obtain ⟨y2, w2⟩ := lat_ (c := c3 ++ y1) a4.dv hT hbl (get_app (pre_get hp3 hb)) (get_app (pre_get hp3 a3))
        have hwa : wv as (fi (pvB (dm q) as) 0 as.length) = wq as q := rfl
        have hwb : wv bs (fi (pvB (dm q) bs) 0 bs.length) = wq bs q := rfl
        rw [hwa] at w1
        rw [hwb] at w2
        have gn := gNe_pD (u := wq as q) (v := wq bs q) (c := c3 ++ y1 ++ y2)
        refine ⟨[some (.ref n), some (.ref a), some (.ref b)], y1 ++ y2, rfl, ?_, ⟨_, rfl⟩, fun v hv => ?_⟩
        · rw [← List.append_assoc]
          by_cases hw : wq as q = wq bs q
          · rw [decide_eq_true hw] at gn ⊢
            erw [w1, w2, gn]
            rfl
          · rw [decide_eq_false hw] at gn ⊢
            erw [w1, w2, gn]
            rfl
        · split at hv
          · cases hv
            exact ⟨[], by erw []⟩
          · cases hv) (by rw [List.length_map]; exact hsm)
  rw [fm_filter] at hc
  refine ⟨c', e, hp, ⟨hc, fun p hpm => ?_⟩⟩
  have hpz : p ∈ ns.zip (chs kl) := (List.mem_filter.mp hpm).1
  obtain ⟨i, hi⟩ := List.mem_iff_getElem?.mp hpz
  obtain ⟨z1, z2⟩ := List.getElem?_zip_eq_some.mp hi
  obtain ⟨a1, a2, a3, a4, a5⟩ := hC.each i _ _ z1 z2
  exact ⟨pre_get hp a3, a4⟩
theorem unl_has {as bs : List (D × Int × Int)} {ns : List Nat} {qs : List (List (Str × Str))} (hl : ns.length = qs.length) {q : List (Str × Str)} (hq : q ∈ qs) (hw : wq as q ≠ wq bs q) : ∃ p ∈ unl as bs ns qs, p.2 = q := by
  obtain ⟨i, hi⟩ := List.mem_iff_getElem?.mp hq
  have hil : i < ns.length := by rw [hl]; exact (List.getElem?_eq_some_iff.mp hi).1
  refine ⟨(ns[i], q), List.mem_filter.mpr ⟨List.mem_iff_getElem?.mpr ⟨i, List.getElem?_zip_eq_some.mpr ⟨List.getElem?_eq_getElem hil, hi⟩⟩, by simp [hw]⟩, rfl⟩
theorem unl_sym {as bs : List (D × Int × Int)} {ns : List Nat} {qs : List (List (Str × Str))} {p : Nat × List (Str × Str)} (h : p ∈ unl as bs ns qs) : p.1 ∈ ns ∧ p.2 ∈ qs ∧ wq as p.2 ≠ wq bs p.2 := by
  obtain ⟨h1, h2⟩ := List.mem_filter.mp h
  have := List.of_mem_zip h1
  exact ⟨this.1, this.2, by simpa using h2⟩
theorem gEqNil_ {a b : Nat} {c : Cells} {xs : List D} (ha : c[a]? = some (.lst xs)) (hb : c[b]? = some (.lst [])) : gEqNil (.ref a) (.ref b) c = some (.bl xs.isEmpty, c) := by
  unfold gEqNil
  rw [lstOf_lst ha, lstOf_lst hb]
  rfl
noncomputable def TailB : XS := (sSeq (sIf (tV (Qm.e2 gEqNil (eV 12) (eLst aNil)))
      (sRet (Qm.e2 gIsN (eV 13) (eC .non)))
      sNil)
      (sSeq (sIf (tV (Qm.e2 gNotInDs (eV 13) (eV 12)))
      (sRet (eC (.bl false)))
      sNil)
      (sSeq (sDPut (eV 13) (eC (.str "zzz")) (eC (.str "z")))
      (sRet (eAnd (Qm.e2 gInDs (eCall F_parted [] (aCons (eV 4) (aCons (eV 10) (aCons (eV 1) aNil)))) (eV 12)) (Qm.e2 gInDs (eCall F_parted [] (aCons (eV 10) (aCons (eV 4) (aCons (eV 1) aNil)))) (eV 12)))))))
theorem tail_ {d b o u lo : Nat} {ps : List (Str × D)} {kl : List (Str × List Str)} {bs os : List (D × Int × Int)} {ns : List Nat} {c c1 : Cells} {t : D} {q0 q2 q3 q5 q6 q7 q8 q9 q11 : Option D} (hnl : ns.length = (chs kl).length)
    (hb : c[b]? = some (.lst (bs.map rl))) (ho : c[o]? = some (.lst (os.map rl))) (hT : ∀ r ∈ bs, Tr 26 r.1) (hTo : ∀ r ∈ os, Tr 26 r.1) (hbl : bs.length ≤ 20) (hol : os.length ≤ 20)
    (hd : c[d]? = some (.dro ps)) (hnd : (ps.map Prod.fst).Nodup) (hpl : ps.length ≤ 6) (hK : KL lo d c ps kl) (hU : UL u (unl bs os ns (chs kl)) c) (k : Kq [] c c1) (hP : PartAt bs os (chs kl) c.length c1 t) :
    ∃ c', TailB [q0, some (.ref d), q2, q3, some (.ref b), q5, q6, q7, q8, q9, some (.ref o), q11, some (.ref u), some t] c1 = some (.rt (.bl true), [q0, some (.ref d), q2, q3, some (.ref b), q5, q6, q7, q8, q9, some (.ref o), q11, some (.ref u), some t], c') := by
  have hU1 := hU.keep k (by simp) (by simp)
  have kn : Kq [] c (c1 ++ [.lst []]) := k.trans Kq.more
  have hU2 := hU.keep kn (by simp) (by simp)
  have gq := gEqNil_ (b := c1.length) hU2.at_ get_new
  have hxe : ((unl bs os ns (chs kl)).map fun p => D.ref p.1).isEmpty = (unl bs os ns (chs kl)).isEmpty := by
    cases unl bs os ns (chs kl) <;> rfl
  rw [hxe] at gq
  rcases hP with ⟨rfl, hP⟩ | ⟨n, q, rfl, hq, hn, hc, hqo, hql, hw⟩
  · have he : unl bs os ns (chs kl) = [] := by
      cases hu : unl bs os ns (chs kl) with
      | nil => rfl
      | cons p r =>
        have := unl_sym (as := bs) (bs := os) (ns := ns) (qs := chs kl) (p := p) (by rw [hu]; exact List.mem_cons_self ..)
        exact absurd (hP p.2 this.2.1) this.2.2
    rw [he, List.isEmpty_nil] at gq
    have n1 : gIsN .non .non (c1 ++ [.lst []]) = some (.bl true, c1 ++ [.lst []]) := rfl
    refine ⟨c1 ++ [.lst []], ?_⟩
    unfold TailB
    erw [line0, gq, n1]
  · have hex := unl_has (as := bs) (bs := os) hnl hq hw
    have he : (unl bs os ns (chs kl)).isEmpty = false := by
      obtain ⟨p, hp, _⟩ := hex
      cases hu : unl bs os ns (chs kl) with
      | nil => rw [hu] at hp; cases hp
      | cons _ _ => rfl
    rw [he] at gq
    have hcn : (c1 ++ [Cell.lst []])[n]? = some (.dct (dm q)) := get_app hc
    obtain ⟨_, g2⟩ := gInDs_ hcn hqo hU2 hex
    have b2 : sDPut (eV 13) (eC (.str "zzz")) (eC (.str "z")) [q0, some (.ref d), q2, q3, some (.ref b), q5, q6, q7, q8, q9, some (.ref o), q11, some (.ref u), some (.ref n)] (c1 ++ [.lst []]) = _ := sDPut_ rfl rfl rfl hcn (by omega)
    generalize hc3 : (c1 ++ [Cell.lst []]).set n (.dct (dm (dPut q "zzz" "z"))) = c3 at *
    have k3 : Kq [] c c3 := by
      rw [← hc3]
      exact kn.less (Kq.set (S := [n]) (by simp)) (fun y hy => by simp at hy; exact .inr (by omega))
    obtain ⟨t4, c4, e4, p4, k4⟩ := parted_ (k3.get hb (by simp)) (k3.get ho (by simp)) hT hTo hbl hol (k3.get hd (by simp)) hnd hpl (hK.keep k3 (fun y hy => by cases hy))
    have k04 := k3.trans k4
    obtain ⟨t5, c5, e5, p5, k5⟩ := parted_ (k04.get ho (by simp)) (k04.get hb (by simp)) hTo hT hol hbl (k04.get hd (by simp)) hnd hpl (hK.keep k04 (fun y hy => by cases hy))
    have k05 := k04.trans k5
    have f4 : gInDs t4 (.ref u) c4 = some (.bl true, c4) := by
      rcases p4 with ⟨_, z⟩ | ⟨n4, q4, rfl, h1, h2, h3, h4, h5, h6⟩
      · exact absurd (z q hq) hw
      · exact (gInDs_ h3 h4 (hU.keep k04 (by simp) (by simp)) (unl_has hnl h1 h6)).1
    have f5 : gInDs t5 (.ref u) c5 = some (.bl true, c5) := by
      rcases p5 with ⟨_, z⟩ | ⟨n4, q4, rfl, h1, h2, h3, h4, h5, h6⟩
      · exact absurd (z q hq).symm hw
      · exact (gInDs_ h3 h4 (hU.keep k05 (by simp) (by simp)) (unl_has hnl h1 (Ne.symm h6))).1
    refine ⟨c5, ?_⟩
    unfold TailB
    refine sSeq_of (σ1 := [q0, some (.ref d), q2, q3, some (.ref b), q5, q6, q7, q8, q9, some (.ref o), q11, some (.ref u), some (.ref n)]) (c1 := c1 ++ [.lst []]) (by erw [line0, gq]) ?_
    refine sSeq_of (σ1 := [q0, some (.ref d), q2, q3, some (.ref b), q5, q6, q7, q8, q9, some (.ref o), q11, some (.ref u), some (.ref n)]) (c1 := c1 ++ [.lst []]) (by erw [g2]) ?_
    refine sSeq_of b2 ?_
    erw [e4, f4, e5, f5]
theorem law_true (ns : List Int) (h : ns.length ≤ 63) : ∃ c, F_law [.ref 0] [.ro (ns.map Qm.D.int)] = some (.bl true, c) := by
  have h00 : ([Cell.ro (ns.map D.int)] : Cells)[0]? = some (.ro (ns.map D.int)) := rfl
  obtain ⟨a1, b1, e1⟩ := left_ h00 (k := 1) (by decide) (by decide)
  generalize hc0 : ([Cell.ro (ns.map D.int)] : Cells) = c0 at *
  have hl0 : c0.length = 1 := by rw [← hc0]; rfl
  obtain ⟨ps, c2, e2, hd2, hnd, hpl, hK, k2⟩ := kinds_ (l := c0.length) (m := 0) (c := c0 ++ [.lst [.int a1, .int b1, .int 0]]) ⟨a1, b1, get_new⟩
  generalize hd : (c0 ++ [Cell.lst [.int a1, .int b1, .int 0]]).length = d at e2 hd2 hK
  have hdn : d = 2 := by rw [← hd, List.length_append, hl0]; rfl
  have h02 : c2[0]? = some (.ro (ns.map D.int)) := k2.get (get_app h00) (by simp; omega)
  have hd2l := get_lt hd2
  obtain ⟨w, ws, nm, c4, e4, hd4, hw4, hW, hwl, hK4, k4, hwd⟩ := words_ (d := d) (w := c2.length) (lo := d) (ps := ps) (c := c2 ++ [.lst []]) (r0 := some (.ref 0)) (rest := [none, none, none, none, none, none, none, none, none, none]) (get_app hd2) get_new (by omega) hnd hpl (fun p hp => (hK p hp).keep (Kq.more (S := [])) (fun y hy => by cases hy))
  have h04 : c4[0]? = some (.ro (ns.map D.int)) := k4.get (get_app h02) (by simp; omega)
  have sw := seqOf_lst hw4
  have bw : bList [.ref w] c4 = some (.ref c4.length, c4 ++ [.lst (ws.map pr)]) := by simp [bList, one, sw]
  have hw5 : (c4 ++ [Cell.lst (ws.map pr)])[c4.length]? = some (.lst (ws.map pr)) := get_new
  have h4l := get_lt hd4
  have h0l := get_lt h04
  obtain ⟨bs, c5, e5, hb5, hT, hbl, k5⟩ := book_ (get_app (zs := [.lst (ws.map pr)]) h04) h hw5 hW hwl
  generalize hb0 : (c4 ++ [Cell.lst (ws.map pr)]).length = b at e5 hb5
  have h05 : c5[0]? = some (.ro (ns.map D.int)) := k5.get (get_app h04) (by simp; omega)
  have hd5 : c5[d]? = some (.dro ps) := k5.get (get_app hd4) (by simp; omega)
  have hK5 : ∀ p ∈ ps, Kd d d c5 p := fun p hp => ((hK4 p hp).keep (Kq.more (S := [])) (fun y hy => by cases hy)).keepW k5 hw5
  obtain ⟨kl, hKL5⟩ := KL.of hK5
  obtain ⟨f, c6, ns6, e6, hC6, hd6, k6⟩ := lchoices_ (.inr hd5) hnd hpl hKL5
  have k56 := k6.drop hd5 hd6
  have hb6 := k56.get hb5 (by simp)
  have h06 := k56.get h05 (by simp)
  have hKL6 : KL d d c6 ps kl := hKL5.keep k56 (fun x hx => by cases hx)
  have hsm : ns6.length ≤ 9000000 := by
    rw [hC6.len]
    have := chs_len hKL6.small kl.length
    rw [List.take_length] at this
    have h6 : kl.length ≤ 6 := by rw [← hKL6.len]; exact hpl
    exact Nat.le_trans this (Nat.le_trans (Nat.pow_le_pow_right (by decide) h6) (by decide))
  have hi6 := iLst_ (a := eV 5) (σ := [some (.ref 0), some (.ref d), some (.ref w), nm, some (.ref b), some (.ref f), none, none, none, none, none, none, none, none]) (c := c6) rfl hC6.at_
  obtain ⟨c7, e7, hp7, hc7⟩ := compG (te := eCall F_law_first [] (aCons (eV 1) (aCons (eV 0) aNil))) (g := gName 0) (cap := [none, some 4]) ((chs kl).map fun q => rD (fq bs q)) (fun τ => ∃ a, τ = [a, some (.ref b)]) hi6 (by
      intro q hq
      rw [List.mem_singleton.mp hq]
      exact hC6.at_) ⟨none, rfl⟩ (by rw [List.length_map, List.length_map]; exact hC6.len) (by
      rintro i d' v' g1 g2 τ c3 ⟨a, rfl⟩ hp3
      rw [List.getElem?_map] at g1 g2
      cases hn : ns6[i]? with
      | none => rw [hn] at g1; cases g1
      | some n =>
        cases hq : (chs kl)[i]? with
        | none => rw [hq] at g2; cases g2
        | some q =>
          rw [hn] at g1
          rw [hq] at g2
          cases g1; cases g2
          obtain ⟨a1, a2, a3, a4, a5⟩ := hC6.each i n q hn hq
          obtain ⟨c4', e4', zs, rfl⟩ := lfirst_ (b := b) (d := n) (c := c3) a4.dv hT (by omega) (pre_get hp3 hb6) (pre_get hp3 a3)
          exact ⟨[some (.ref n), some (.ref b)], zs, rfl, by erw [e4']; rfl, ⟨_, rfl⟩⟩) (by rw [List.length_map]; exact hsm)
  have k7 : Kq [] c6 c7 := Kq.pre hp7
  have hb7 := pre_get hp7 hb6
  have sb7 := seqOf_lst hb7
  have e8 : bList [.ref b] c7 = some (.ref c7.length, c7 ++ [.lst (bs.map rl)]) := by simp [bList, one, sb7]
  generalize hc8 : c7 ++ [Cell.lst (bs.map rl)] = c8 at *
  have k78 : Kq [] c7 c8 := by rw [← hc8]; exact Kq.more
  have k68 := k7.trans k78
  have hb8 := k78.get hb7 (by simp)
  have hd8 := k68.get hd6 (by simp)
  have h08 := k68.get h06 (by simp)
  have hg8 := k78.get hc7 (by simp)
  have hh8 : c8[c7.length]? = some (.lst (bs.map rl)) := by rw [← hc8]; exact get_new
  have hKL8 : KL d d c8 ps kl := hKL6.keep k68 (fun x hx => by cases hx)
  have hC8 := hC6.keep k68 (fun x hx => by cases hx)
  obtain ⟨l, c9, e9, hl9, hle, k89⟩ := leaner_ hh8 hT (by omega) hd8 hnd hpl hKL8
  have hTl : ∀ r ∈ ln bs (chs kl), Tr 26 r.1 := fun r hr => hT r (ln_mem hr)
  have hlnl := ln_len (bs := bs) (qs := chs kl)
  have l9 := get_lt hle
  obtain ⟨c10, e10, hp10, hc10⟩ := leancomp_ (qs := chs kl) (σ := [some (.ref 0), some (.ref d), some (.ref w), nm, some (.ref b), some (.ref f), some (.ref c6.length), some (.ref c7.length), some (.ref l), none, none, none, none, none]) (k89.get hb8 (by simp)) (k89.get hg8 (by simp)) rfl rfl hbl
  have k9A : Kq [] c9 c10 := Kq.pre hp10
  have k8A := k89.trans k9A
  have x1 := gNeW_self (pre_get hp10 hle) hc10 hTl
  have x2 := gNeW_self (k8A.get hh8 (by simp)) (k8A.get hb8 (by simp)) hT
  have hlA := pre_get hp10 hle
  obtain ⟨c11, r9, e11, hp11⟩ := same_ (q0 := some (.ref 0)) (q1 := some (.ref d)) (q2 := some (.ref w)) (q3 := nm) (q6 := some (.ref c6.length)) (q7 := some (.ref c7.length)) (q9 := none) (rest := [none, none, none, none]) (hC8.keep k8A (fun x hx => by cases hx)) (k8A.get hb8 (by simp)) hlA hT hbl
  have kAB : Kq [] c10 c11 := Kq.pre hp11
  have k8B := k8A.trans kAB
  have hlB := pre_get hp11 hlA
  obtain ⟨a12, b12, e12⟩ := left_ (k8B.get h08 (by simp)) (k := 2) (by decide) (by decide)
  have lB := get_lt hlB
  have slB := seqOf_lst (get_app (zs := [.lst [.int a12, .int b12, .int 0]]) hlB)
  have e13 : bList [.ref l] (c11 ++ [.lst [.int a12, .int b12, .int 0]]) = some (.ref (c11 ++ [Cell.lst [.int a12, .int b12, .int 0]]).length, c11 ++ [.lst [.int a12, .int b12, .int 0]] ++ [.lst ((ln bs (chs kl)).map rl)]) := by simp only [bList, one, slB, Option.bind_some]
  generalize hc13 : c11 ++ [Cell.lst [D.int a12, .int b12, .int 0]] ++ [.lst ((ln bs (chs kl)).map rl)] = c13 at *
  have hm13 : c13[(c11 ++ [Cell.lst [D.int a12, .int b12, .int 0]]).length]? = some (.lst ((ln bs (chs kl)).map rl)) := by rw [← hc13]; exact get_new
  have hL13 : Lf c11.length 0 c13 := ⟨a12, b12, by rw [← hc13]; exact get_app get_new⟩
  have kBD : Kq [] c11 c13 := by rw [← hc13]; exact Kq.more.trans Kq.more
  have k8D := k8B.trans kBD
  generalize hmN : (c11 ++ [Cell.lst [D.int a12, .int b12, .int 0]]).length = m at *
  have hmv : m = c11.length + 1 := by rw [← hmN, List.length_append]; rfl
  have hb8l := get_lt hb8
  have l8B := k8B.len
  have lBD := kBD.len
  obtain ⟨o, os, c14, e14, ho14, hTo, hol, k14, hox⟩ := other_ hL13 (k8D.get hb8 (by simp)) hm13 (by omega) (by omega) hT hTl hbl (by omega)
  have k8E : Kq [] c8 c14 := k8D.less k14 (fun y hy => by simp at hy; exact .inr (by omega))
  have hlE : c14[l]? = some (.lst ((ln bs (chs kl)).map rl)) := k14.get (kBD.get hlB (by simp)) (by simp; omega)
  have slE := seqOf_lst hlE
  have e15 : bList [.ref l] c14 = some (.ref c14.length, c14 ++ [.lst ((ln bs (chs kl)).map rl)]) := by simp only [bList, one, slE, Option.bind_some]
  have l14 := k14.len
  have llE := lstOf_lst (get_app (zs := [.lst ((ln bs (chs kl)).map rl)]) hlE)
  have e16 := mAppend_ (y := .tup [.tup [.str "any"], .tup [.int 1, .int 1]]) (get_app (zs := [.lst ((ln bs (chs kl)).map rl)]) hlE) (by rw [List.length_map]; omega)
  generalize hc16 : (c14 ++ [Cell.lst ((ln bs (chs kl)).map rl)]).set l (.lst ((ln bs (chs kl)).map rl ++ [.tup [.tup [.str "any"], .tup [.int 1, .int 1]]])) = c16 at *
  have kEG : Kq [l] c14 c16 := by rw [← hc16]; exact Kq.more.trans (Kq.set (by simp))
  have k8G : Kq [] c8 c16 := k8E.less kEG (fun y hy => by simp at hy; exact .inr (by omega))
  have hk16 : c16[c14.length]? = some (.lst ((ln bs (chs kl)).map rl)) := by
    rw [← hc16, List.getElem?_set, if_neg (by omega)]
    exact get_new
  have ho16 : c16[o]? = some (.lst (os.map rl)) := kEG.get ho14 (by simp; rcases hox with z | z <;> omega)
  obtain ⟨l2, c17, e17, hl17, hle17, k17⟩ := leaner_ (k8G.get hh8 (by simp)) hT (by omega) (k8G.get hd8 (by simp)) hnd hpl (hKL8.keep k8G (fun x hx => by cases hx))
  have k8H := k8G.trans k17
  have x3 := gNeW_self hle17 (k17.get hk16 (by simp)) hTl
  obtain ⟨t18, c18, e18, p18, k18⟩ := parted_ (k8H.get hb8 (by simp)) (k17.get hk16 (by simp)) hT hTl (by omega) (by omega) (k8H.get hd8 (by simp)) hnd hpl (hKL8.keep k8H (fun x hx => by cases hx))
  have ht18 : t18 = .non := by
    rcases p18 with ⟨z, _⟩ | ⟨_, q, _, hq, _, _, _, _, hw⟩
    · exact z
    · exact absurd (wq_ln hq).symm hw
  subst ht18
  have n18 : gNotN .non .non c18 = some (.bl false, c18) := rfl
  have k8I := k8H.trans k18
  have k16I := k17.trans k18
  obtain ⟨c19, e19, hp19, hU19⟩ := unlike_ (a := b) (b := o) (σ := [some (.ref 0), some (.ref d), some (.ref w), nm, some (.ref b), some (.ref f), some (.ref c6.length), some (.ref c7.length), some (.ref l), r9, some (.ref o), some (.ref c14.length), none, none]) (hC8.keep k8I (fun x hx => by cases hx)) (k8I.get hb8 (by simp)) (k16I.get ho16 (by simp)) hT hTo (by omega) hol rfl rfl rfl hsm
  have k8J := k8I.trans (Kq.pre hp19)
  have ho19 := pre_get hp19 (k16I.get ho16 (by simp))
  obtain ⟨t20, c20, e20, p20, k20⟩ := parted_ (k8J.get hb8 (by simp)) ho19 hT hTo (by omega) hol (k8J.get hd8 (by simp)) hnd hpl (hKL8.keep k8J (fun x hx => by cases hx))
  obtain ⟨c21, e21⟩ := tail_ (q0 := some (.ref 0)) (q2 := some (.ref w)) (q3 := nm) (q5 := some (.ref f)) (q6 := some (.ref c6.length)) (q7 := some (.ref c7.length)) (q8 := some (.ref l)) (q9 := r9) (q11 := some (.ref c14.length)) hC8.len (k8J.get hb8 (by simp)) ho19 hT hTo (by omega) hol (k8J.get hd8 (by simp)) hnd hpl (hKL8.keep k8J (fun x hx => by cases hx)) hU19 k20 p20
  refine ⟨c21, ?_⟩
  have run : B_law [some (.ref 0), none, none, none, none, none, none, none, none, none, none, none, none, none] c0 = some (.rt (.bl true), [some (.ref 0), some (.ref d), some (.ref w), nm, some (.ref b), some (.ref f), some (.ref c6.length), some (.ref c7.length), some (.ref l), r9, some (.ref o), some (.ref c14.length), some (.ref c18.length), some t20], c21) := by
    unfold B_law
    refine sSeq_of (σ1 := [some (.ref 0), some (.ref d), none, none, none, none, none, none, none, none, none, none, none, none]) (c1 := c2) (by erw [e1, e2]) ?_
    refine sSeq_of (σ1 := [some (.ref 0), some (.ref d), some (.ref c2.length), none, none, none, none, none, none, none, none, none, none, none]) (c1 := c2 ++ [.lst []]) (by erw [line0]) ?_
    refine sSeq_of e4 ?_
    refine sSeq_of (σ1 := [some (.ref 0), some (.ref d), some (.ref w), nm, some (.ref b), none, none, none, none, none, none, none, none, none]) (c1 := c5) (by erw [bw, e5]) ?_
    refine sSeq_of (σ1 := [some (.ref 0), some (.ref d), some (.ref w), nm, some (.ref b), some (.ref f), none, none, none, none, none, none, none, none]) (c1 := c6) (by erw [e6]) ?_
    refine sSeq_of (σ1 := [some (.ref 0), some (.ref d), some (.ref w), nm, some (.ref b), some (.ref f), some (.ref c6.length), none, none, none, none, none, none, none]) (c1 := c7) (by erw [e7]) ?_
    refine sSeq_of (σ1 := [some (.ref 0), some (.ref d), some (.ref w), nm, some (.ref b), some (.ref f), some (.ref c6.length), some (.ref c7.length), none, none, none, none, none, none]) (c1 := c8) (by erw [e8]) ?_
    refine sSeq_of (σ1 := [some (.ref 0), some (.ref d), some (.ref w), nm, some (.ref b), some (.ref f), some (.ref c6.length), some (.ref c7.length), some (.ref l), none, none, none, none, none]) (c1 := c9) (by erw [e9]) ?_
    refine sSeq_of (σ1 := [some (.ref 0), some (.ref d), some (.ref w), nm, some (.ref b), some (.ref f), some (.ref c6.length), some (.ref c7.length), some (.ref l), none, none, none, none, none]) (c1 := c10) (by erw [e10, x1, x2]) ?_
    refine sSeq_of e11 ?_
    refine sSeq_of (σ1 := [some (.ref 0), some (.ref d), some (.ref w), nm, some (.ref b), some (.ref f), some (.ref c6.length), some (.ref c7.length), some (.ref l), r9, some (.ref o), none, none, none]) (c1 := c14) (by erw [e12, e13, e14]) ?_
    refine sSeq_of (σ1 := [some (.ref 0), some (.ref d), some (.ref w), nm, some (.ref b), some (.ref f), some (.ref c6.length), some (.ref c7.length), some (.ref l), r9, some (.ref o), some (.ref c14.length), none, none]) (c1 := c14 ++ [.lst ((ln bs (chs kl)).map rl)]) (by erw [e15]) ?_
    refine sSeq_of (σ1 := [some (.ref 0), some (.ref d), some (.ref w), nm, some (.ref b), some (.ref f), some (.ref c6.length), some (.ref c7.length), some (.ref l), r9, some (.ref o), some (.ref c14.length), none, none]) (c1 := c16) (by erw [llE, e16]) ?_
    refine sSeq_of (σ1 := [some (.ref 0), some (.ref d), some (.ref w), nm, some (.ref b), some (.ref f), some (.ref c6.length), some (.ref c7.length), some (.ref l), r9, some (.ref o), some (.ref c14.length), none, none]) (c1 := c18) (by erw [e17, x3, e18, n18]) ?_
    refine sSeq_of (σ1 := [some (.ref 0), some (.ref d), some (.ref w), nm, some (.ref b), some (.ref f), some (.ref c6.length), some (.ref c7.length), some (.ref l), r9, some (.ref o), some (.ref c14.length), some (.ref c18.length), none]) (c1 := c19) (by erw [e19]) ?_
    refine sSeq_of (σ1 := [some (.ref 0), some (.ref d), some (.ref w), nm, some (.ref b), some (.ref f), some (.ref c6.length), some (.ref c7.length), some (.ref l), r9, some (.ref o), some (.ref c14.length), some (.ref c18.length), some t20]) (c1 := c20) (by erw [e20]) ?_
    exact e21
  erw [F_law, run]
end Law
set_option maxHeartbeats 4000000
namespace Law
open PySem L2
def top (i : Nat) : Stmt := PySem.Challenge.pw_sheetlay_k50_leaner_and_parted.main.body.getD i (.Pass ⟨0, 0, 0, 0⟩)
structure Adr where
  f_holds : Addr
  d_holds : FuncData
  f_first_holding : Addr
  d_first_holding : FuncData
  f_worth : Addr
  d_worth : FuncData
  f_with_name : Addr
  d_with_name : FuncData
  f_choices_of : Addr
  d_choices_of : FuncData
  f_counting : Addr
  d_counting : FuncData
  f_leaner : Addr
  d_leaner : FuncData
  f_parted : Addr
  d_parted : FuncData
  f_law_cell_at : Addr
  d_law_cell_at : FuncData
  f_law_take : Addr
  d_law_take : FuncData
  f_law_left : Addr
  d_law_left : FuncData
  f_law_word : Addr
  d_law_word : FuncData
  f_law_thing : Addr
  d_law_thing : FuncData
  f_law_built : Addr
  d_law_built : FuncData
  f_law_lowest : Addr
  d_law_lowest : FuncData
  f_law_worth : Addr
  d_law_worth : FuncData
  f_law_true : Addr
  d_law_true : FuncData
  f_law_first : Addr
  d_law_first : FuncData
  f_law_kinds : Addr
  d_law_kinds : FuncData
  f_law_book : Addr
  d_law_book : FuncData
  f_law_choices : Addr
  d_law_choices : FuncData
  f_law_at : Addr
  d_law_at : FuncData
  f_law_other : Addr
  d_law_other : FuncData
  f_law : Addr
  d_law : FuncData
structure Txt (K : PySem.W.Frag) (mg : Str → Option Value) (t : Adr) : Prop where
  F_holds : Fun K "holds" "holds" (top 1) t.f_holds t.d_holds
  m_holds : mg "holds" = some (.ref t.f_holds)
  b_holds : Binds K t.d_holds ["condition", "marks"] []
  F_first_holding : Fun K "first_holding" "first_holding" (top 3) t.f_first_holding t.d_first_holding
  m_first_holding : mg "first_holding" = some (.ref t.f_first_holding)
  b_first_holding : Binds K t.d_first_holding ["book", "marks"] []
  F_worth : Fun K "worth" "worth" (top 4) t.f_worth t.d_worth
  m_worth : mg "worth" = some (.ref t.f_worth)
  b_worth : Binds K t.d_worth ["book", "marks"] []
  F_with_name : Fun K "with_name" "with_name" (top 5) t.f_with_name t.d_with_name
  m_with_name : mg "with_name" = some (.ref t.f_with_name)
  b_with_name : Binds K t.d_with_name ["choices", "name", "marks"] []
  F_choices_of : Fun K "choices_of" "choices_of" (top 6) t.f_choices_of t.d_choices_of
  m_choices_of : mg "choices_of" = some (.ref t.f_choices_of)
  b_choices_of : Binds K t.d_choices_of ["kinds"] []
  F_counting : Fun K "counting" "counting" (top 7) t.f_counting t.d_counting
  m_counting : mg "counting" = some (.ref t.f_counting)
  b_counting : Binds K t.d_counting ["book", "kinds"] []
  F_leaner : Fun K "leaner" "leaner" (top 8) t.f_leaner t.d_leaner
  m_leaner : mg "leaner" = some (.ref t.f_leaner)
  b_leaner : Binds K t.d_leaner ["book", "kinds"] []
  F_parted : Fun K "parted" "parted" (top 9) t.f_parted t.d_parted
  m_parted : mg "parted" = some (.ref t.f_parted)
  b_parted : Binds K t.d_parted ["one", "other", "kinds"] []
  F_law_cell_at : Fun K "_law_cell_at" "_law_cell_at" (top 11) t.f_law_cell_at t.d_law_cell_at
  m_law_cell_at : mg "_law_cell_at" = some (.ref t.f_law_cell_at)
  b_law_cell_at : Binds K t.d_law_cell_at ["_law_script", "_law_k"] []
  F_law_take : Fun K "_law_take" "_law_take" (top 12) t.f_law_take t.d_law_take
  m_law_take : mg "_law_take" = some (.ref t.f_law_take)
  b_law_take : Binds K t.d_law_take ["_law_left_here", "_law_many"] []
  F_law_left : Fun K "_law_left" "_law_left" (top 13) t.f_law_left t.d_law_left
  m_law_left : mg "_law_left" = some (.ref t.f_law_left)
  b_law_left : Binds K t.d_law_left ["_law_script", "_law_k"] []
  F_law_word : Fun K "_law_word" "_law_word" (top 14) t.f_law_word t.d_law_word
  m_law_word : mg "_law_word" = some (.ref t.f_law_word)
  b_law_word : Binds K t.d_law_word ["_law_left_here"] []
  F_law_thing : Fun K "_law_thing" "_law_thing" (top 15) t.f_law_thing t.d_law_thing
  m_law_thing : mg "_law_thing" = some (.ref t.f_law_thing)
  b_law_thing : Binds K t.d_law_thing ["_law_left_here", "_law_words", "_law_room"] []
  F_law_built : Fun K "_law_built" "_law_built" (top 16) t.f_law_built t.d_law_built
  m_law_built : mg "_law_built" = some (.ref t.f_law_built)
  b_law_built : Binds K t.d_law_built ["_law_left_here", "_law_words", "_law_room", "_law_word_here"] []
  F_law_lowest : Fun K "_law_lowest" "_law_lowest" (top 17) t.f_law_lowest t.d_law_lowest
  m_law_lowest : mg "_law_lowest" = some (.ref t.f_law_lowest)
  b_law_lowest : Binds K t.d_law_lowest ["_law_above", "_law_below"] []
  F_law_worth : Fun K "_law_worth" "_law_worth" (top 18) t.f_law_worth t.d_law_worth
  m_law_worth : mg "_law_worth" = some (.ref t.f_law_worth)
  b_law_worth : Binds K t.d_law_worth ["_law_left_here"] []
  F_law_true : Fun K "_law_true" "_law_true" (top 20) t.f_law_true t.d_law_true
  m_law_true : mg "_law_true" = some (.ref t.f_law_true)
  b_law_true : Binds K t.d_law_true ["_law_tree", "_law_marks"] []
  F_law_first : Fun K "_law_first" "_law_first" (top 21) t.f_law_first t.d_law_first
  m_law_first : mg "_law_first" = some (.ref t.f_law_first)
  b_law_first : Binds K t.d_law_first ["_law_book_here", "_law_marks"] []
  F_law_kinds : Fun K "_law_kinds" "_law_kinds" (top 22) t.f_law_kinds t.d_law_kinds
  m_law_kinds : mg "_law_kinds" = some (.ref t.f_law_kinds)
  b_law_kinds : Binds K t.d_law_kinds ["_law_left_here"] []
  F_law_book : Fun K "_law_book" "_law_book" (top 23) t.f_law_book t.d_law_book
  m_law_book : mg "_law_book" = some (.ref t.f_law_book)
  b_law_book : Binds K t.d_law_book ["_law_script", "_law_first_here", "_law_words", "_law_most"] []
  F_law_choices : Fun K "_law_choices" "_law_choices" (top 24) t.f_law_choices t.d_law_choices
  m_law_choices : mg "_law_choices" = some (.ref t.f_law_choices)
  b_law_choices : Binds K t.d_law_choices ["_law_kinds_here"] []
  F_law_at : Fun K "_law_at" "_law_at" (top 25) t.f_law_at t.d_law_at
  m_law_at : mg "_law_at" = some (.ref t.f_law_at)
  b_law_at : Binds K t.d_law_at ["_law_book_here", "_law_marks"] []
  F_law_other : Fun K "_law_other" "_law_other" (top 26) t.f_law_other t.d_law_other
  m_law_other : mg "_law_other" = some (.ref t.f_law_other)
  b_law_other : Binds K t.d_law_other ["_law_left_here", "_law_book_here", "_law_lean"] []
  F_law : Fun K "law" "law" (top 27) t.f_law t.d_law
  m_law : mg "law" = some (.ref t.f_law)
  b_law : Binds K t.d_law ["_law_script"] []
  z_abs : mg "abs" = none
  z_all : mg "all" = none
  z_any : mg "any" = none
  z_dict : mg "dict" = none
  z_enumerate : mg "enumerate" = none
  z_int : mg "int" = none
  z_len : mg "len" = none
  z_list : mg "list" = none
  z_max : mg "max" = none
  z_min : mg "min" = none
  z_range : mg "range" = none
  z_reversed : mg "reversed" = none
  z_zip : mg "zip" = none
section
open L2.Zu
variable {P : Program} {w : World} {K : PySem.W.Frag} {mg : Str → Option Value} {base : Heap} {t : Adr}
theorem sc_holds : FnScope ["condition", "marks", "kind"] ["condition", "marks"] (defScope (top 1)) := ⟨rfl, rfl, rfl, by decide +kernel, rfl, by decide +kernel, by decide +kernel⟩
theorem okR_holds (T : Txt K mg t) : ∀ n, FnOk P w K mg base CX0 (0 + n) t.f_holds t.d_holds ["condition", "marks"] (spD K (R_holds n))
  | 0 => FnOk.none fun _ _ => rfl
  | n + 1 => by
    have I_holds := okR_holds T n
    refine T.F_holds.okQ (k := 0 + n) (n := 2) (m := 3) (B := B_holds (R_holds n)) sc_holds rfl rfl (by decide) rfl fun cdv A outer s H E hr => ?_
    unfold B_holds
    exact (qss_cons (qs_set (i := 2) sc_holds.nd rfl (Or.inl rfl) (qe_item (qe_var 0 (pv 0)) qe_int (fun _ _ => rfl)))
      (qss_cons (qs_if (qt_cmp (op_eqQ hr.units) lk_eq (qe_var 2 (pv 2)) qe_str (nomark _)) (qss_one (qs_ret (qe_cmp (op_eqQ hr.units) lk_eq (qe_dget1 hr.units (qe_var 1 (pv 1)) (qe_item (qe_var 0 (pv 0)) qe_int (fun _ _ => rfl))) (qe_item (qe_var 0 (pv 0)) qe_int (fun _ _ => rfl)) (nomark _)))) qss_nil)
      (qss_cons (qs_if (qt_cmp (op_eqQ hr.units) lk_eq (qe_var 2 (pv 2)) qe_str (nomark _)) (qss_one (qs_ret (qe_not (qe_call [] I_holds (hr.mono (by omega)) (by rfl) T.m_holds T.F_holds.kp T.b_holds .nil (fun _ _ _ => .nil) (qa_cons (qe_item (qe_var 0 (pv 0)) qe_int (fun _ _ => rfl)) (qa_cons (qe_var 1 (pv 1)) qa_nil)))))) qss_nil)
      (qss_cons (qs_if (qt_cmp (op_eqQ hr.units) lk_eq (qe_var 2 (pv 2)) qe_str (nomark _)) (qss_one (qs_ret (qe_and (qe_call [] I_holds (hr.mono (by omega)) (by rfl) T.m_holds T.F_holds.kp T.b_holds .nil (fun _ _ _ => .nil) (qa_cons (qe_item (qe_var 0 (pv 0)) qe_int (fun _ _ => rfl)) (qa_cons (qe_var 1 (pv 1)) qa_nil))) (qe_one (qe_call [] I_holds (hr.mono (by omega)) (by rfl) T.m_holds T.F_holds.kp T.b_holds .nil (fun _ _ _ => .nil) (qa_cons (qe_item (qe_var 0 (pv 0)) qe_int (fun _ _ => rfl)) (qa_cons (qe_var 1 (pv 1)) qa_nil))))))) qss_nil)
      (qss_cons (qs_if (qt_cmp (op_eqQ hr.units) lk_eq (qe_var 2 (pv 2)) qe_str (nomark _)) (qss_one (qs_ret (qe_or (qe_call [] I_holds (hr.mono (by omega)) (by rfl) T.m_holds T.F_holds.kp T.b_holds .nil (fun _ _ _ => .nil) (qa_cons (qe_item (qe_var 0 (pv 0)) qe_int (fun _ _ => rfl)) (qa_cons (qe_var 1 (pv 1)) qa_nil))) (qe_one (qe_call [] I_holds (hr.mono (by omega)) (by rfl) T.m_holds T.F_holds.kp T.b_holds .nil (fun _ _ _ => .nil) (qa_cons (qe_item (qe_var 0 (pv 0)) qe_int (fun _ _ => rfl)) (qa_cons (qe_var 1 (pv 1)) qa_nil))))))) qss_nil)
      (qss_one (qs_ret qe_bl)))))))
theorem ok_holds (T : Txt K mg t) : FnOk P w K mg base CX0 60 t.f_holds t.d_holds ["condition", "marks"] (spD K F_holds) := okR_holds T 60
theorem sc_first_holding : FnScope ["book", "marks", "k"] ["book", "marks"] (defScope (top 3)) := ⟨rfl, rfl, rfl, by decide +kernel, rfl, by decide +kernel, by decide +kernel⟩
theorem ok_first_holding (T : Txt K mg t) : FnOk P w K mg base CX0 61 t.f_first_holding t.d_first_holding ["book", "marks"] (spD K F_first_holding) := by
  refine T.F_first_holding.okQ (n := 2) (m := 3) (B := B_first_holding) sc_first_holding rfl rfl (by decide) rfl fun cdv A outer s H E hr => ?_
  unfold B_first_holding
  exact (qss_cons (qs_for PassesOwn.never rfl (qi_range1 (by rfl) T.z_range (qa_cons (qe_callB call_len_seq lk_len (by rfl) T.z_len bt_len (qa_cons (qe_var 0 (pv 0)) qa_nil)) qa_nil)) (qg_name (i := 2) sc_first_holding.nd rfl (Or.inl rfl)) (qss_one (qs_if (qt_val (qe_call [] (ok_holds T) (hr.mono (by decide)) (by rfl) T.m_holds T.F_holds.kp T.b_holds .nil (fun _ _ _ => .nil) (qa_cons (qe_item (qe_item (qe_var 0 (pv 0)) (qe_var 2 (pv 2)) (fun _ _ => rfl)) qe_int (fun _ _ => rfl)) (qa_cons (qe_var 1 (pv 1)) qa_nil)))) (qss_one (qs_ret (qe_var 2 (pv 2)))) qss_nil)))
      (qss_one (qs_ret qe_non)))
theorem sc_worth : FnScope ["book", "marks", "k"] ["book", "marks"] (defScope (top 4)) := ⟨rfl, rfl, rfl, by decide +kernel, rfl, by decide +kernel, by decide +kernel⟩
theorem ok_worth (T : Txt K mg t) : FnOk P w K mg base CX0 62 t.f_worth t.d_worth ["book", "marks"] (spD K F_worth) := by
  refine T.F_worth.okQ (n := 2) (m := 3) (B := B_worth) sc_worth rfl rfl (by decide) rfl fun cdv A outer s H E hr => ?_
  unfold B_worth
  exact (qss_cons (qs_set (i := 2) sc_worth.nd rfl (Or.inl rfl) (qe_call [] (ok_first_holding T) (hr.mono (by decide)) (by rfl) T.m_first_holding T.F_first_holding.kp T.b_first_holding .nil (fun _ _ _ => .nil) (qa_cons (qe_var 0 (pv 0)) (qa_cons (qe_var 1 (pv 1)) qa_nil))))
      (qss_one (qs_ret (qe_ifExp (qt_cmp op_isN lk_isN (qe_var 2 (pv 2)) qe_non (nomark _)) (qe_tup (qa_cons qe_int (qa_cons qe_int qa_nil))) (qe_item (qe_item (qe_var 0 (pv 0)) (qe_var 2 (pv 2)) (fun _ _ => rfl)) qe_int (fun _ _ => rfl))))))
theorem sc_with_name : FnScope ["choices", "name", "marks", "found", "choice", "mark", "grown"] ["choices", "name", "marks"] (defScope (top 5)) := ⟨rfl, rfl, rfl, by decide +kernel, rfl, by decide +kernel, by decide +kernel⟩
theorem ok_with_name (T : Txt K mg t) : FnOk P w K mg base CX0 1 t.f_with_name t.d_with_name ["choices", "name", "marks"] (spD K F_with_name) := by
  refine T.F_with_name.okQ (n := 3) (m := 7) (B := B_with_name) sc_with_name rfl rfl (by decide) rfl fun cdv A outer s H E hr => ?_
  unfold B_with_name
  exact (qss_cons (qs_set (i := 3) sc_with_name.nd rfl (Or.inl rfl) (qe_lst qa_nil))
      (qss_cons (qs_for PassesOwn.never rfl (qi_list (qe_var 0 (pv 0))) (qg_name (i := 4) sc_with_name.nd rfl (Or.inl rfl)) (qss_one (qs_for PassesOwn.never rfl (qi_list (qe_var 2 (pv 2))) (qg_name (i := 5) sc_with_name.nd rfl (Or.inl rfl)) (qss_cons (qs_set (i := 6) sc_with_name.nd rfl (Or.inl rfl) (qe_callTy call_dictC lk_dictC (by rfl) T.z_dict bt_dict (qa_cons (qe_var 4 (pv 4)) qa_nil)))
      (qss_cons (qs_dput hr.units (qe_var 6 (pv 6)) (qe_var 1 (pv 1)) (qe_var 5 (pv 5)))
      (qss_one (qs_expr (qe_m PySem.F.slot_list_append PySem.F.type_list_append mt_append lk_append (qe_var 3 (pv 3)) (qa_cons (qe_var 6 (pv 6)) qa_nil)))))))))
      (qss_one (qs_ret (qe_var 3 (pv 3))))))
theorem sc_choices_of : FnScope ["kinds", "choices", "name"] ["kinds"] (defScope (top 6)) := ⟨rfl, rfl, rfl, by decide +kernel, rfl, by decide +kernel, by decide +kernel⟩
theorem ok_choices_of (T : Txt K mg t) : FnOk P w K mg base CX0 2 t.f_choices_of t.d_choices_of ["kinds"] (spD K F_choices_of) := by
  refine T.F_choices_of.okQ (n := 1) (m := 3) (B := B_choices_of) sc_choices_of rfl rfl (by decide) rfl fun cdv A outer s H E hr => ?_
  unfold B_choices_of
  exact (qss_cons (qs_set (i := 1) sc_choices_of.nd rfl (Or.inl rfl) (qe_lst (qa_cons qe_dnew qa_nil)))
      (qss_cons (qs_for PassesOwn.never rfl (qi_keys (qe_var 0 (pv 0))) (qg_name (i := 2) sc_choices_of.nd rfl (Or.inl rfl)) (qss_one (qs_set (i := 1) sc_choices_of.nd rfl (Or.inl rfl) (qe_call [] (ok_with_name T) (hr.mono (by decide)) (by rfl) T.m_with_name T.F_with_name.kp T.b_with_name .nil (fun _ _ _ => .nil) (qa_cons (qe_var 1 (pv 1)) (qa_cons (qe_var 2 (pv 2)) (qa_cons (qe_rix hr.units (qe_var 0 (pv 0)) (qe_var 2 (pv 2)) (fun _ _ => rfl)) qa_nil)))))))
      (qss_one (qs_ret (qe_var 1 (pv 1))))))
theorem sc_counting : FnScope ["book", "kinds", "found", "choice", "k"] ["book", "kinds"] (defScope (top 7)) := ⟨rfl, rfl, rfl, by decide +kernel, rfl, by decide +kernel, by decide +kernel⟩
theorem ok_counting (T : Txt K mg t) : FnOk P w K mg base CX0 62 t.f_counting t.d_counting ["book", "kinds"] (spD K F_counting) := by
  refine T.F_counting.okQ (n := 2) (m := 5) (B := B_counting) sc_counting rfl rfl (by decide) rfl fun cdv A outer s H E hr => ?_
  unfold B_counting
  exact (qss_cons (qs_comp (i := 2) (N' := ["rule"]) (cap := [none]) (blk_mk (sc := defScope (top 7)) (NN := ["book", "kinds", "found", "choice", "k"]) rfl rfl rfl (by decide +kernel) (by decide +kernel) (by decide +kernel) (by decide +kernel)) rfl (qi_list (qe_var 0 (pv 0))) (fun _ _ _ _ => (qg_name (i := 0) (show List.Nodup (["rule"] : List Str) by decide +kernel) rfl (Or.inl rfl))) (fun _ _ _ _ => qifs_none) (fun _ _ _ _ => qe_non) sc_counting.nd rfl (Or.inl rfl) (by rfl))
      (qss_cons (qs_for PassesOwn.never rfl (qi_list (qe_call [] (ok_choices_of T) (hr.mono (by decide)) (by rfl) T.m_choices_of T.F_choices_of.kp T.b_choices_of .nil (fun _ _ _ => .nil) (qa_cons (qe_var 1 (pv 1)) qa_nil))) (qg_name (i := 3) sc_counting.nd rfl (Or.inl rfl)) (qss_cons (qs_set (i := 4) sc_counting.nd rfl (Or.inl rfl) (qe_call [] (ok_first_holding T) (hr.mono (by decide)) (by rfl) T.m_first_holding T.F_first_holding.kp T.b_first_holding .nil (fun _ _ _ => .nil) (qa_cons (qe_var 0 (pv 0)) (qa_cons (qe_var 3 (pv 3)) qa_nil))))
      (qss_one (qs_if (qt_cmp op_notN lk_notN (qe_var 4 (pv 4)) qe_non (nomark _)) (qss_one (qs_asg (qe_var 3 (pv 3)) (qg_put (qe_var 2 (pv 2)) (qe_var 4 (pv 4))))) qss_nil))))
      (qss_one (qs_ret (qe_var 2 (pv 2))))))
theorem sc_leaner : FnScope ["book", "kinds"] ["book", "kinds"] (defScope (top 8)) := ⟨rfl, rfl, rfl, by decide +kernel, rfl, by decide +kernel, by decide +kernel⟩
theorem ok_leaner (T : Txt K mg t) : FnOk P w K mg base CX0 63 t.f_leaner t.d_leaner ["book", "kinds"] (spD K F_leaner) := by
  refine T.F_leaner.okQ (n := 2) (m := 2) (B := B_leaner) sc_leaner rfl rfl (by decide) rfl fun cdv A outer s H E hr => ?_
  unfold B_leaner
  exact (qss_one (qs_ret (qe_comp (N' := ["rule", "choice"]) (cap := [none, none]) (blk_mk (sc := defScope (top 8)) (NN := ["book", "kinds"]) rfl rfl rfl (by decide +kernel) (by decide +kernel) (by decide +kernel) (by decide +kernel)) rfl (qi_zipL (by rfl) T.z_zip (qa_cons (qe_var 0 (pv 0)) (qa_cons (qe_call [] (ok_counting T) (hr.mono (by decide)) (by rfl) T.m_counting T.F_counting.kp T.b_counting .nil (fun _ _ _ => .nil) (qa_cons (qe_var 0 (pv 0)) (qa_cons (qe_var 1 (pv 1)) qa_nil))) qa_nil))) (fun _ _ _ _ => (qg_tup rfl (qgs_cons (qg_name (i := 0) (show List.Nodup (["rule", "choice"] : List Str) by decide +kernel) rfl (Or.inl rfl)) (qgs_cons (qg_name (i := 1) (show List.Nodup (["rule", "choice"] : List Str) by decide +kernel) rfl (Or.inl rfl)) qgs_nil)))) (fun _ _ _ _ => (qifs_one (qt_cmp op_notN lk_notN (qe_var 1 (pv 1)) qe_non (nomark _)))) (fun _ _ _ _ => (qe_var 0 (pv 0))))))
theorem sc_parted : FnScope ["one", "other", "kinds", "choice"] ["one", "other", "kinds"] (defScope (top 9)) := ⟨rfl, rfl, rfl, by decide +kernel, rfl, by decide +kernel, by decide +kernel⟩
theorem ok_parted (T : Txt K mg t) : FnOk P w K mg base CX0 63 t.f_parted t.d_parted ["one", "other", "kinds"] (spD K F_parted) := by
  refine T.F_parted.okQ (n := 3) (m := 4) (B := B_parted) sc_parted rfl rfl (by decide) rfl fun cdv A outer s H E hr => ?_
  unfold B_parted
  exact (qss_cons (qs_for PassesOwn.never rfl (qi_list (qe_call [] (ok_choices_of T) (hr.mono (by decide)) (by rfl) T.m_choices_of T.F_choices_of.kp T.b_choices_of .nil (fun _ _ _ => .nil) (qa_cons (qe_var 2 (pv 2)) qa_nil))) (qg_name (i := 3) sc_parted.nd rfl (Or.inl rfl)) (qss_one (qs_if (qt_cmp (op_neQ hr.units) lk_ne (qe_call [] (ok_worth T) (hr.mono (by decide)) (by rfl) T.m_worth T.F_worth.kp T.b_worth .nil (fun _ _ _ => .nil) (qa_cons (qe_var 0 (pv 0)) (qa_cons (qe_var 3 (pv 3)) qa_nil))) (qe_call [] (ok_worth T) (hr.mono (by decide)) (by rfl) T.m_worth T.F_worth.kp T.b_worth .nil (fun _ _ _ => .nil) (qa_cons (qe_var 1 (pv 1)) (qa_cons (qe_var 3 (pv 3)) qa_nil))) (nomark _)) (qss_one (qs_ret (qe_var 3 (pv 3)))) qss_nil)))
      (qss_one (qs_ret qe_non)))
theorem sc_law_cell_at : FnScope ["_law_script", "_law_k"] ["_law_script", "_law_k"] (defScope (top 11)) := ⟨rfl, rfl, rfl, by decide +kernel, rfl, by decide +kernel, by decide +kernel⟩
theorem ok_law_cell_at (T : Txt K mg t) : FnOk P w K mg base CX0 1 t.f_law_cell_at t.d_law_cell_at ["_law_script", "_law_k"] (spD K F_law_cell_at) := by
  refine T.F_law_cell_at.okQ (n := 2) (m := 2) (B := B_law_cell_at) sc_law_cell_at rfl rfl (by decide) rfl fun cdv A outer s H E hr => ?_
  unfold B_law_cell_at
  exact (qss_cons (qs_if (qt_cmp op_lt lk_lt (qe_var 1 (pv 1)) (qe_callB call_len_seq lk_len (by rfl) T.z_len bt_len (qa_cons (qe_var 0 (pv 0)) qa_nil)) (nomark _)) (qss_one (qs_ret (qe_item (qe_var 0 (pv 0)) (qe_var 1 (pv 1)) (fun _ _ => rfl)))) qss_nil)
      (qss_one (qs_ret qe_int)))
theorem sc_law_take : FnScope ["_law_left_here", "_law_many", "_law_at_here", "_law_got"] ["_law_left_here", "_law_many"] (defScope (top 12)) := ⟨rfl, rfl, rfl, by decide +kernel, rfl, by decide +kernel, by decide +kernel⟩
theorem ok_law_take (T : Txt K mg t) : FnOk P w K mg base CX0 1 t.f_law_take t.d_law_take ["_law_left_here", "_law_many"] (spD K F_law_take) := by
  refine T.F_law_take.okQ (n := 2) (m := 4) (B := B_law_take) sc_law_take rfl rfl (by decide) rfl fun cdv A outer s H E hr => ?_
  unfold B_law_take
  exact (qss_cons (qs_set (i := 2) sc_law_take.nd rfl (Or.inl rfl) (qe_callTy call_int1 lk_intB (by rfl) T.z_int bt_int (qa_cons (qe_cmp (op_eqQ hr.units) lk_eq (qe_item (qe_var 0 (pv 0)) qe_int (fun _ _ => rfl)) qe_int (nomark _)) qa_nil)))
      (qss_cons (qs_set (i := 3) sc_law_take.nd rfl (Or.inl rfl) (qe_op op_modN lk_mod (qe_item (qe_var 0 (pv 0)) (qe_var 2 (pv 2)) (fun _ _ => rfl)) (qe_var 1 (pv 1))))
      (qss_cons (qs_asg (qe_op op_fdivB lk_fdiv (qe_item (qe_var 0 (pv 0)) (qe_var 2 (pv 2)) (fun _ _ => rfl)) (qe_var 1 (pv 1))) (qg_put (qe_var 0 (pv 0)) (qe_var 2 (pv 2))))
      (qss_one (qs_ret (qe_var 3 (pv 3)))))))
theorem sc_law_left : FnScope ["_law_script", "_law_k", "_law_cell", "_law_mixed"] ["_law_script", "_law_k"] (defScope (top 13)) := ⟨rfl, rfl, rfl, by decide +kernel, rfl, by decide +kernel, by decide +kernel⟩
theorem ok_law_left (T : Txt K mg t) : FnOk P w K mg base CX0 2 t.f_law_left t.d_law_left ["_law_script", "_law_k"] (spD K F_law_left) := by
  refine T.F_law_left.okQ (n := 2) (m := 4) (B := B_law_left) sc_law_left rfl rfl (by decide) rfl fun cdv A outer s H E hr => ?_
  unfold B_law_left
  exact (qss_cons (qs_set (i := 2) sc_law_left.nd rfl (Or.inl rfl) (qe_callB call_abs lk_abs (by rfl) T.z_abs bt_abs (qa_cons (qe_call [] (ok_law_cell_at T) (hr.mono (by decide)) (by rfl) T.m_law_cell_at T.F_law_cell_at.kp T.b_law_cell_at .nil (fun _ _ _ => .nil) (qa_cons (qe_var 0 (pv 0)) (qa_cons (qe_var 1 (pv 1)) qa_nil))) qa_nil)))
      (qss_cons (qs_set (i := 3) sc_law_left.nd rfl (Or.inl rfl) (qe_op op_fdivB lk_fdiv (qe_op op_powB lk_powB (qe_op op_addQ lk_add qe_int (qe_op op_modN lk_mod (qe_op op_addQ lk_add (qe_op op_addQ lk_add (qe_op op_mulB lk_mul (qe_op op_modN lk_mod (qe_var 2 (pv 2)) qe_int) qe_int) (qe_op op_mulB lk_mul qe_int (qe_var 1 (pv 1)))) qe_int) qe_int)) qe_int) (qe_op op_pow lk_pow qe_int qe_int)))
      (qss_one (qs_ret (qe_lst (qa_cons (qe_op op_mulB lk_mul (qe_var 2 (pv 2)) (qe_callTy call_int1 lk_intB (by rfl) T.z_int bt_int (qa_cons (qe_cmp (op_eqQ hr.units) lk_eq (qe_op op_modN lk_mod (qe_call [] (ok_law_cell_at T) (hr.mono (by decide)) (by rfl) T.m_law_cell_at T.F_law_cell_at.kp T.b_law_cell_at .nil (fun _ _ _ => .nil) (qa_cons (qe_var 0 (pv 0)) (qa_cons qe_int qa_nil))) qe_int) qe_int (nomark _)) qa_nil))) (qa_cons (qe_var 3 (pv 3)) (qa_cons qe_int qa_nil))))))))
theorem sc_law_word : FnScope ["_law_left_here", "_law_letters", "_law_word_here", "_law_k"] ["_law_left_here"] (defScope (top 14)) := ⟨rfl, rfl, rfl, by decide +kernel, rfl, by decide +kernel, by decide +kernel⟩
theorem ok_law_word (T : Txt K mg t) : FnOk P w K mg base CX0 2 t.f_law_word t.d_law_word ["_law_left_here"] (spD K F_law_word) := by
  refine T.F_law_word.okQ (n := 1) (m := 4) (B := B_law_word) sc_law_word rfl rfl (by decide) rfl fun cdv A outer s H E hr => ?_
  unfold B_law_word
  exact (qss_cons (qs_set (i := 1) sc_law_word.nd rfl (Or.inl rfl) qe_str)
      (qss_cons (qs_set (i := 2) sc_law_word.nd rfl (Or.inl rfl) qe_str)
      (qss_cons (qs_for PassesOwn.never rfl (qi_range1 (by rfl) T.z_range (qa_cons (qe_op op_addQ lk_add qe_int (qe_call [] (ok_law_take T) (hr.mono (by decide)) (by rfl) T.m_law_take T.F_law_take.kp T.b_law_take .nil (fun _ _ _ => .nil) (qa_cons (qe_var 0 (pv 0)) (qa_cons qe_int qa_nil)))) qa_nil)) (qg_name (i := 3) sc_law_word.nd rfl (Or.inl rfl)) (qss_one (qs_set (i := 2) sc_law_word.nd rfl (Or.inl rfl) (qe_op op_add_str lk_addS (qe_var 2 (pv 2)) (qe_itemS (qe_var 1 (pv 1)) (qe_call [] (ok_law_take T) (hr.mono (by decide)) (by rfl) T.m_law_take T.F_law_take.kp T.b_law_take .nil (fun _ _ _ => .nil) (qa_cons (qe_var 0 (pv 0)) (qa_cons qe_int qa_nil))) (fun _ _ => rfl))))))
      (qss_cons (qs_if (qt_cmp (op_eqQ hr.units) lk_eq (qe_call [] (ok_law_take T) (hr.mono (by decide)) (by rfl) T.m_law_take T.F_law_take.kp T.b_law_take .nil (fun _ _ _ => .nil) (qa_cons (qe_var 0 (pv 0)) (qa_cons qe_int qa_nil))) qe_int (nomark _)) (qss_one (qs_set (i := 2) sc_law_word.nd rfl (Or.inl rfl) (qe_item (by refine qe_lst ?_; refine qa_str ?_; refine qa_str ?_; refine qa_str ?_; refine qa_str ?_; refine qa_str ?_; refine qa_str ?_; refine qa_str ?_; refine qa_str ?_; refine qa_str ?_; refine qa_str ?_; refine qa_str ?_; refine qa_str ?_; exact qa_nil) (qe_call [] (ok_law_take T) (hr.mono (by decide)) (by rfl) T.m_law_take T.F_law_take.kp T.b_law_take .nil (fun _ _ _ => .nil) (qa_cons (qe_var 0 (pv 0)) (qa_cons qe_int qa_nil))) (fun _ _ => rfl)))) qss_nil)
      (qss_cons (qs_if (qt_cmp (op_inQ hr.units) lk_in (qe_var 2 (pv 2)) (qe_tup (qa_cons qe_str (qa_cons qe_str (qa_cons qe_str (qa_cons qe_str qa_nil))))) (by with_unfolding_all rfl)) (qss_one (qs_set (i := 2) sc_law_word.nd rfl (Or.inl rfl) (qe_op op_add_str lk_addS (qe_var 2 (pv 2)) qe_str))) qss_nil)
      (qss_one (qs_ret (qe_var 2 (pv 2)))))))))
theorem sc_law_thing : FnScope ["_law_left_here", "_law_words", "_law_room", "_law_way", "_law_pair", "_law_some", "_law_tree"] ["_law_left_here", "_law_words", "_law_room"] (defScope (top 15)) := ⟨rfl, rfl, rfl, by decide +kernel, rfl, by decide +kernel, by decide +kernel⟩
theorem sc_law_built : FnScope ["_law_left_here", "_law_words", "_law_room", "_law_word_here", "_law_below", "_law_some", "_law_tree", "_law_k", "_law_more", "_law_other_here"] ["_law_left_here", "_law_words", "_law_room", "_law_word_here"] (defScope (top 16)) := ⟨rfl, rfl, rfl, by decide +kernel, rfl, by decide +kernel, by decide +kernel⟩
theorem okR_law_thing_law_built (T : Txt K mg t) : ∀ n, FnOk P w K mg base CX0 (2 + n) t.f_law_thing t.d_law_thing ["_law_left_here", "_law_words", "_law_room"] (spD K (R_law_thing_law_built n).1) ∧ FnOk P w K mg base CX0 (2 + n) t.f_law_built t.d_law_built ["_law_left_here", "_law_words", "_law_room", "_law_word_here"] (spD K (R_law_thing_law_built n).2)
  | 0 => ⟨FnOk.none fun _ _ => rfl, FnOk.none fun _ _ => rfl⟩
  | n + 1 => by
    obtain ⟨I_law_thing, I_law_built⟩ := okR_law_thing_law_built T n
    refine ⟨?_, ?_⟩
    · refine T.F_law_thing.okQ (k := 2 + n) (n := 3) (m := 7) (B := B_law_thing (R_law_thing_law_built n).1 (R_law_thing_law_built n).2) sc_law_thing rfl rfl (by decide) rfl fun cdv A outer s H E hr => ?_
      unfold B_law_thing
      exact (qss_cons (qs_set (i := 3) sc_law_thing.nd rfl (Or.inl rfl) (qe_call [] (ok_law_take T) (hr.mono (by omega)) (by rfl) T.m_law_take T.F_law_take.kp T.b_law_take .nil (fun _ _ _ => .nil) (qa_cons (qe_var 0 (pv 0)) (qa_cons qe_int qa_nil))))
      (qss_cons (qs_asg (qe_op op_addQ lk_add (qe_item (qe_var 0 (pv 0)) qe_int (fun _ _ => rfl)) qe_int) (qg_put (qe_var 0 (pv 0)) qe_int))
      (qss_cons (qs_if (PW.pt (qw_or (qt_cmp op_lt lk_lt (qe_var 3 (pv 3)) qe_int (nomark _)) (qw_or (qt_cmp op_lt lk_lt (qe_var 2 (pv 2)) qe_int (nomark _)) (qw_or1 (qt_cmp op_gt lk_gt (qe_item (qe_var 0 (pv 0)) qe_int (fun _ _ => rfl)) qe_int (nomark _)))))) (qss_cons (qs_set (i := 4) sc_law_thing.nd rfl (Or.inl rfl) (qe_lst (qa_cons (qe_call [] (ok_law_word T) (hr.mono (by omega)) (by rfl) T.m_law_word T.F_law_word.kp T.b_law_word .nil (fun _ _ _ => .nil) (qa_cons (qe_var 0 (pv 0)) qa_nil)) (qa_cons (qe_call [] (ok_law_word T) (hr.mono (by omega)) (by rfl) T.m_law_word T.F_law_word.kp T.b_law_word .nil (fun _ _ _ => .nil) (qa_cons (qe_var 0 (pv 0)) qa_nil)) qa_nil))))
      (qss_cons (qs_if (PW.pt (qw_and (qt_cmp (op_eqQ hr.units) lk_eq (qe_op op_modN lk_mod (qe_var 3 (pv 3)) qe_int) qe_int (nomark _)) (qw_and1 (qt_cmp (op_neQ hr.units) lk_ne (qe_var 1 (pv 1)) (qe_lst qa_nil) (nomark _))))) (qss_one (qs_set (i := 4) sc_law_thing.nd rfl (Or.inl rfl) (qe_callTy call_list_of lk_list (by rfl) T.z_list bt_list (qa_cons (qe_item (qe_var 1 (pv 1)) (qe_call [] (ok_law_take T) (hr.mono (by omega)) (by rfl) T.m_law_take T.F_law_take.kp T.b_law_take .nil (fun _ _ _ => .nil) (qa_cons (qe_var 0 (pv 0)) (qa_cons (qe_callB call_len_seq lk_len (by rfl) T.z_len bt_len (qa_cons (qe_var 1 (pv 1)) qa_nil)) qa_nil))) (fun _ _ => rfl)) qa_nil)))) qss_nil)
      (qss_cons (qs_expr (qe_m PySem.F.slot_list_append PySem.F.type_list_append mt_append lk_append (qe_var 1 (pv 1)) (qa_cons (qe_tup (qa_cons (qe_item (qe_var 4 (pv 4)) qe_int (fun _ _ => rfl)) (qa_cons (qe_item (qe_var 4 (pv 4)) qe_int (fun _ _ => rfl)) qa_nil))) qa_nil)))
      (qss_one (qs_ret (qe_tup (qa_cons (qe_var 4 (pv 4)) (qa_cons (qe_tup (qa_cons qe_str (qa_cons (qe_item (qe_var 4 (pv 4)) qe_int (fun _ _ => rfl)) (qa_cons (qe_item (qe_var 4 (pv 4)) qe_int (fun _ _ => rfl)) qa_nil)))) qa_nil)))))))) qss_nil)
      (qss_cons (qs_if (qt_cmp (op_eqQ hr.units) lk_eq (qe_var 3 (pv 3)) qe_int (nomark _)) (qss_one (qs_ret (qe_tup (qa_cons (qe_lst (qa_cons qe_str qa_nil)) (qa_cons (qe_tup (qa_cons qe_str qa_nil)) qa_nil))))) qss_nil)
      (qss_cons (qs_if (qt_cmp (op_eqQ hr.units) lk_eq (qe_var 3 (pv 3)) qe_int (nomark _)) (qss_cons (qs_asg (qe_call [] I_law_thing (hr.mono (by omega)) (by rfl) T.m_law_thing T.F_law_thing.kp T.b_law_thing .nil (fun _ _ _ => .nil) (qa_cons (qe_var 0 (pv 0)) (qa_cons (qe_var 1 (pv 1)) (qa_cons (qe_op op_sub lk_sub (qe_var 2 (pv 2)) qe_int) qa_nil)))) (qg_tup rfl (qgs_cons (qg_name (i := 5) sc_law_thing.nd rfl (Or.inl rfl)) (qgs_cons (qg_name (i := 6) sc_law_thing.nd rfl (Or.inl rfl)) qgs_nil))))
      (qss_one (qs_ret (qe_tup (qa_cons (qe_op op_addQ lk_add (qe_lst (qa_cons qe_str qa_nil)) (qe_var 5 (pv 5))) (qa_cons (qe_tup (qa_cons qe_str (qa_cons (qe_var 6 (pv 6)) qa_nil))) qa_nil)))))) qss_nil)
      (qss_cons (qs_asg (qe_call [] I_law_built (hr.mono (by omega)) (by rfl) T.m_law_built T.F_law_built.kp T.b_law_built .nil (fun _ _ _ => .nil) (qa_cons (qe_var 0 (pv 0)) (qa_cons (qe_var 1 (pv 1)) (qa_cons (qe_op op_sub lk_sub (qe_var 2 (pv 2)) qe_int) (qa_cons qe_str qa_nil))))) (qg_tup rfl (qgs_cons (qg_name (i := 5) sc_law_thing.nd rfl (Or.inl rfl)) (qgs_cons (qg_name (i := 6) sc_law_thing.nd rfl (Or.inl rfl)) qgs_nil))))
      (qss_one (qs_ret (qe_tup (qa_cons (qe_op op_addQ lk_add (qe_op op_addQ lk_add (qe_lst (qa_cons qe_str qa_nil)) (qe_var 5 (pv 5))) (qe_lst (qa_cons qe_str qa_nil))) (qa_cons (qe_var 6 (pv 6)) qa_nil)))))))))))
    · refine T.F_law_built.okQ (k := 2 + n) (n := 4) (m := 10) (B := B_law_built (R_law_thing_law_built n).1 (R_law_thing_law_built n).2) sc_law_built rfl rfl (by decide) rfl fun cdv A outer s H E hr => ?_
      unfold B_law_built
      exact (qss_cons (qs_if (qt_cmp (op_eqQ hr.units) lk_eq (qe_var 3 (pv 3)) qe_str (nomark _)) (qss_one (qs_ret (qe_call [] I_law_thing (hr.mono (by omega)) (by rfl) T.m_law_thing T.F_law_thing.kp T.b_law_thing .nil (fun _ _ _ => .nil) (qa_cons (qe_var 0 (pv 0)) (qa_cons (qe_var 1 (pv 1)) (qa_cons (qe_var 2 (pv 2)) qa_nil)))))) qss_nil)
      (qss_cons (qs_set (i := 4) sc_law_built.nd rfl (Or.inl rfl) (qe_dix hr.units (qe_disp2 (by decide)) (qe_var 3 (pv 3)) (fun _ _ => rfl)))
      (qss_cons (qs_asg (qe_call [] I_law_built (hr.mono (by omega)) (by rfl) T.m_law_built T.F_law_built.kp T.b_law_built .nil (fun _ _ _ => .nil) (qa_cons (qe_var 0 (pv 0)) (qa_cons (qe_var 1 (pv 1)) (qa_cons (qe_var 2 (pv 2)) (qa_cons (qe_var 4 (pv 4)) qa_nil))))) (qg_tup rfl (qgs_cons (qg_name (i := 5) sc_law_built.nd rfl (Or.inl rfl)) (qgs_cons (qg_name (i := 6) sc_law_built.nd rfl (Or.inl rfl)) qgs_nil))))
      (qss_cons (qs_for PassesOwn.never rfl (qi_range1 (by rfl) T.z_range (qa_cons (qe_item (by refine qe_lst ?_; refine qa_int ?_; refine qa_int ?_; refine qa_int ?_; refine qa_int ?_; refine qa_int ?_; refine qa_int ?_; refine qa_int ?_; refine qa_int ?_; exact qa_nil) (qe_call [] (ok_law_take T) (hr.mono (by omega)) (by rfl) T.m_law_take T.F_law_take.kp T.b_law_take .nil (fun _ _ _ => .nil) (qa_cons (qe_var 0 (pv 0)) (qa_cons qe_int qa_nil))) (fun _ _ => rfl)) qa_nil)) (qg_name (i := 7) sc_law_built.nd rfl (Or.inl rfl)) (qss_one (qs_if (qt_cmp op_lt lk_lt (qe_item (qe_var 0 (pv 0)) qe_int (fun _ _ => rfl)) qe_int (nomark _)) (qss_cons (qs_asg (qe_call [] I_law_built (hr.mono (by omega)) (by rfl) T.m_law_built T.F_law_built.kp T.b_law_built .nil (fun _ _ _ => .nil) (qa_cons (qe_var 0 (pv 0)) (qa_cons (qe_var 1 (pv 1)) (qa_cons (qe_var 2 (pv 2)) (qa_cons (qe_var 4 (pv 4)) qa_nil))))) (qg_tup rfl (qgs_cons (qg_name (i := 8) sc_law_built.nd rfl (Or.inl rfl)) (qgs_cons (qg_name (i := 9) sc_law_built.nd rfl (Or.inl rfl)) qgs_nil))))
      (qss_cons (qs_set (i := 5) sc_law_built.nd rfl (Or.inl rfl) (qe_op op_addQ lk_add (qe_op op_addQ lk_add (qe_var 5 (pv 5)) (qe_lst (qa_cons (qe_var 3 (pv 3)) qa_nil))) (qe_var 8 (pv 8))))
      (qss_one (qs_set (i := 6) sc_law_built.nd rfl (Or.inl rfl) (qe_tup (qa_cons (qe_var 3 (pv 3)) (qa_cons (qe_var 6 (pv 6)) (qa_cons (qe_var 9 (pv 9)) qa_nil)))))))) qss_nil)))
      (qss_one (qs_ret (qe_tup (qa_cons (qe_var 5 (pv 5)) (qa_cons (qe_var 6 (pv 6)) qa_nil)))))))))
theorem ok_law_built (T : Txt K mg t) : FnOk P w K mg base CX0 62 t.f_law_built t.d_law_built ["_law_left_here", "_law_words", "_law_room", "_law_word_here"] (spD K F_law_built) := (okR_law_thing_law_built T 60).2
theorem sc_law_lowest : FnScope ["_law_above", "_law_below", "_law_one", "_law_other_here"] ["_law_above", "_law_below"] (defScope (top 17)) := ⟨rfl, rfl, rfl, by decide +kernel, rfl, by decide +kernel, by decide +kernel⟩
theorem ok_law_lowest (T : Txt K mg t) : FnOk P w K mg base CX0 1 t.f_law_lowest t.d_law_lowest ["_law_above", "_law_below"] (spD K F_law_lowest) := by
  refine T.F_law_lowest.okQ (n := 2) (m := 4) (B := B_law_lowest) sc_law_lowest rfl rfl (by decide) rfl fun cdv A outer s H E hr => ?_
  unfold B_law_lowest
  exact (qss_cons (qs_set (i := 2) sc_law_lowest.nd rfl (Or.inl rfl) (qe_callB call_abs lk_abs (by rfl) T.z_abs bt_abs (qa_cons (qe_var 0 (pv 0)) qa_nil)))
      (qss_cons (qs_set (i := 3) sc_law_lowest.nd rfl (Or.inl rfl) (qe_var 1 (pv 1)))
      (qss_cons (qs_while PassesOwn.never (qt_cmp (op_neQ hr.units) lk_ne (qe_var 2 (pv 2)) qe_int (nomark _)) (qss_one (qs_par2 (i := 2) (j := 3) rfl sc_law_lowest.nd rfl rfl (by decide) rfl rfl (qa_cons (qe_op op_modN lk_mod (qe_var 3 (pv 3)) (qe_var 2 (pv 2))) (qa_cons (qe_var 2 (pv 2)) qa_nil)) (by rfl))))
      (qss_one (qs_ret (qe_tup (qa_cons (qe_op op_fdivB lk_fdiv (qe_var 0 (pv 0)) (qe_var 3 (pv 3))) (qa_cons (qe_op op_fdivB lk_fdiv (qe_var 1 (pv 1)) (qe_var 3 (pv 3))) qa_nil))))))))
theorem sc_law_worth : FnScope ["_law_left_here", "_law_above", "_law_below"] ["_law_left_here"] (defScope (top 18)) := ⟨rfl, rfl, rfl, by decide +kernel, rfl, by decide +kernel, by decide +kernel⟩
theorem ok_law_worth (T : Txt K mg t) : FnOk P w K mg base CX0 2 t.f_law_worth t.d_law_worth ["_law_left_here"] (spD K F_law_worth) := by
  refine T.F_law_worth.okQ (n := 1) (m := 3) (B := B_law_worth) sc_law_worth rfl rfl (by decide) rfl fun cdv A outer s H E hr => ?_
  unfold B_law_worth
  exact (qss_cons (qs_set (i := 1) sc_law_worth.nd rfl (Or.inl rfl) (qe_op op_sub lk_sub (qe_call [] (ok_law_take T) (hr.mono (by decide)) (by rfl) T.m_law_take T.F_law_take.kp T.b_law_take .nil (fun _ _ _ => .nil) (qa_cons (qe_var 0 (pv 0)) (qa_cons qe_int qa_nil))) qe_int))
      (qss_cons (qs_set (i := 2) sc_law_worth.nd rfl (Or.inl rfl) qe_int)
      (qss_cons (qs_if (qt_cmp (op_eqQ hr.units) lk_eq (qe_call [] (ok_law_take T) (hr.mono (by decide)) (by rfl) T.m_law_take T.F_law_take.kp T.b_law_take .nil (fun _ _ _ => .nil) (qa_cons (qe_var 0 (pv 0)) (qa_cons qe_int qa_nil))) qe_int (nomark _)) (qss_one (qs_set (i := 2) sc_law_worth.nd rfl (Or.inl rfl) (qe_op op_addQ lk_add qe_int (qe_call [] (ok_law_take T) (hr.mono (by decide)) (by rfl) T.m_law_take T.F_law_take.kp T.b_law_take .nil (fun _ _ _ => .nil) (qa_cons (qe_var 0 (pv 0)) (qa_cons qe_int qa_nil)))))) qss_nil)
      (qss_cons (qs_if (qt_cmp (op_eqQ hr.units) lk_eq (qe_call [] (ok_law_take T) (hr.mono (by decide)) (by rfl) T.m_law_take T.F_law_take.kp T.b_law_take .nil (fun _ _ _ => .nil) (qa_cons (qe_var 0 (pv 0)) (qa_cons qe_int qa_nil))) qe_int (nomark _)) (qss_cons (qs_set (i := 1) sc_law_worth.nd rfl (Or.inl rfl) (qe_op op_sub lk_sub (qe_op op_modN lk_mod (qe_var 1 (pv 1)) qe_int) qe_int))
      (qss_one (qs_set (i := 2) sc_law_worth.nd rfl (Or.inl rfl) (qe_op op_addQ lk_add qe_int (qe_op op_modN lk_mod (qe_var 2 (pv 2)) qe_int))))) qss_nil)
      (qss_one (qs_ret (qe_call [] (ok_law_lowest T) (hr.mono (by decide)) (by rfl) T.m_law_lowest T.F_law_lowest.kp T.b_law_lowest .nil (fun _ _ _ => .nil) (qa_cons (qe_var 1 (pv 1)) (qa_cons (qe_var 2 (pv 2)) qa_nil)))))))))
theorem sc_law_true : FnScope ["_law_tree", "_law_marks", "_law_truths"] ["_law_tree", "_law_marks"] (defScope (top 20)) := ⟨rfl, rfl, rfl, by decide +kernel, rfl, by decide +kernel, by decide +kernel⟩
theorem okR_law_true (T : Txt K mg t) : ∀ n, FnOk P w K mg base CX0 (0 + n) t.f_law_true t.d_law_true ["_law_tree", "_law_marks"] (spD K (R_law_true n))
  | 0 => FnOk.none fun _ _ => rfl
  | n + 1 => by
    have I_law_true := okR_law_true T n
    refine T.F_law_true.okQ (k := 0 + n) (n := 2) (m := 3) (B := B_law_true (R_law_true n)) sc_law_true rfl rfl (by decide) rfl fun cdv A outer s H E hr => ?_
    unfold B_law_true
    exact (qss_cons (qs_if (qt_cmp (op_eqQ hr.units) lk_eq (qe_item (qe_var 0 (pv 0)) qe_int (fun _ _ => rfl)) qe_str (nomark _)) (qss_one (qs_ret (qe_cmp (op_eqQ hr.units) lk_eq (qe_dget2 hr.units (qe_var 1 (pv 1)) (qe_item (qe_var 0 (pv 0)) qe_int (fun _ _ => rfl)) qe_str) (qe_item (qe_var 0 (pv 0)) qe_int (fun _ _ => rfl)) (nomark _)))) qss_nil)
      (qss_cons (qs_if (qt_cmp (op_eqQ hr.units) lk_eq (qe_item (qe_var 0 (pv 0)) qe_int (fun _ _ => rfl)) qe_str (nomark _)) (qss_one (qs_ret (qe_not (qe_call [] I_law_true (hr.mono (by omega)) (by rfl) T.m_law_true T.F_law_true.kp T.b_law_true .nil (fun _ _ _ => .nil) (qa_cons (qe_item (qe_var 0 (pv 0)) qe_int (fun _ _ => rfl)) (qa_cons (qe_var 1 (pv 1)) qa_nil)))))) qss_nil)
      (qss_cons (qs_comp (i := 2) (N' := ["_law_below", "_law_marks"]) (cap := [none, some 1]) (blk_mk (sc := defScope (top 20)) (NN := ["_law_tree", "_law_marks", "_law_truths"]) rfl rfl rfl (by decide +kernel) (by decide +kernel) (by decide +kernel) (by decide +kernel)) rfl (qi_tup (qe_slice (qe_var 0 (pv 0)) (qo_some qe_int) qo_none)) (fun _ _ _ _ => (qg_name (i := 0) (show List.Nodup (["_law_below", "_law_marks"] : List Str) by decide +kernel) rfl (Or.inl rfl))) (fun _ _ _ _ => qifs_none) (fun _ _ _ _ => (qe_call [] I_law_true (hr.mono (by omega)) (by rfl) T.m_law_true T.F_law_true.kp T.b_law_true .nil (fun _ _ _ => .nil) (qa_cons (qe_var 0 (pv 0)) (qa_cons (qe_var 1 (pv 1)) qa_nil)))) sc_law_true.nd rfl (Or.inl rfl) (by rfl))
      (qss_one (qs_ret (qe_item (qe_lst (qa_cons (qe_callB (call_allQ rfl) lk_all (by rfl) T.z_all bt_all (qa_cons (qe_var 2 (pv 2)) qa_nil)) (qa_cons (qe_callB (call_anyQ rfl) lk_any (by rfl) T.z_any bt_any (qa_cons (qe_var 2 (pv 2)) qa_nil)) qa_nil))) (qe_callTy call_int1 lk_intB (by rfl) T.z_int bt_int (qa_cons (qe_cmp (op_eqQ hr.units) lk_eq (qe_item (qe_var 0 (pv 0)) qe_int (fun _ _ => rfl)) qe_str (nomark _)) qa_nil)) (fun _ _ => rfl)))))))
theorem ok_law_true (T : Txt K mg t) : FnOk P w K mg base CX0 60 t.f_law_true t.d_law_true ["_law_tree", "_law_marks"] (spD K F_law_true) := okR_law_true T 60
theorem sc_law_first : FnScope ["_law_book_here", "_law_marks", "_law_k", "_law_rule"] ["_law_book_here", "_law_marks"] (defScope (top 21)) := ⟨rfl, rfl, rfl, by decide +kernel, rfl, by decide +kernel, by decide +kernel⟩
theorem ok_law_first (T : Txt K mg t) : FnOk P w K mg base CX0 61 t.f_law_first t.d_law_first ["_law_book_here", "_law_marks"] (spD K F_law_first) := by
  refine T.F_law_first.okQ (n := 2) (m := 4) (B := B_law_first) sc_law_first rfl rfl (by decide) rfl fun cdv A outer s H E hr => ?_
  unfold B_law_first
  exact (qss_cons (qs_for PassesOwn.never rfl (qi_enum (by rfl) T.z_enumerate (qa_cons (qe_var 0 (pv 0)) qa_nil)) (qg_tup rfl (qgs_cons (qg_name (i := 2) sc_law_first.nd rfl (Or.inl rfl)) (qgs_cons (qg_name (i := 3) sc_law_first.nd rfl (Or.inl rfl)) qgs_nil))) (qss_one (qs_if (qt_val (qe_call [] (ok_law_true T) (hr.mono (by decide)) (by rfl) T.m_law_true T.F_law_true.kp T.b_law_true .nil (fun _ _ _ => .nil) (qa_cons (qe_item (qe_var 3 (pv 3)) qe_int (fun _ _ => rfl)) (qa_cons (qe_var 1 (pv 1)) qa_nil)))) (qss_one (qs_ret (qe_var 2 (pv 2)))) qss_nil)))
      (qss_one (qs_ret qe_non)))
theorem sc_law_kinds : FnScope ["_law_left_here", "_law_kinds_here", "_law_most", "_law_many", "_law_k", "_law_name", "_law_marks", "_law_j", "_law_mark"] ["_law_left_here"] (defScope (top 22)) := ⟨rfl, rfl, rfl, by decide +kernel, rfl, by decide +kernel, by decide +kernel⟩
theorem ok_law_kinds (T : Txt K mg t) : FnOk P w K mg base CX0 3 t.f_law_kinds t.d_law_kinds ["_law_left_here"] (spD K F_law_kinds) := by
  refine T.F_law_kinds.okQ (n := 1) (m := 9) (B := B_law_kinds) sc_law_kinds rfl rfl (by decide) rfl fun cdv A outer s H E hr => ?_
  unfold B_law_kinds
  exact (qss_cons (qs_set (i := 1) sc_law_kinds.nd rfl (Or.inl rfl) qe_dnew)
      (qss_cons (qs_set (i := 2) sc_law_kinds.nd rfl (Or.inl rfl) (qe_item (by refine qe_lst ?_; refine qa_int ?_; refine qa_int ?_; refine qa_int ?_; refine qa_int ?_; refine qa_int ?_; refine qa_int ?_; refine qa_int ?_; refine qa_int ?_; exact qa_nil) (qe_call [] (ok_law_take T) (hr.mono (by decide)) (by rfl) T.m_law_take T.F_law_take.kp T.b_law_take .nil (fun _ _ _ => .nil) (qa_cons (qe_var 0 (pv 0)) (qa_cons qe_int qa_nil))) (fun _ _ => rfl)))
      (qss_cons (qs_set (i := 3) sc_law_kinds.nd rfl (Or.inl rfl) (qe_item (by refine qe_lst ?_; refine qa_int ?_; refine qa_int ?_; refine qa_int ?_; refine qa_int ?_; refine qa_int ?_; refine qa_int ?_; refine qa_int ?_; refine qa_int ?_; exact qa_nil) (qe_call [] (ok_law_take T) (hr.mono (by decide)) (by rfl) T.m_law_take T.F_law_take.kp T.b_law_take .nil (fun _ _ _ => .nil) (qa_cons (qe_var 0 (pv 0)) (qa_cons qe_int qa_nil))) (fun _ _ => rfl)))
      (qss_cons (qs_if (qt_cmp (op_eqQ hr.units) lk_eq (qe_var 3 (pv 3)) qe_int (nomark _)) (qss_one (qs_set (i := 2) sc_law_kinds.nd rfl (Or.inl rfl) qe_int)) qss_nil)
      (qss_cons (qs_if (qt_cmp (op_eqQ hr.units) lk_eq (qe_var 2 (pv 2)) qe_int (nomark _)) (qss_one (qs_set (i := 3) sc_law_kinds.nd rfl (Or.inl rfl) (qe_callB (call_min2 rfl) lk_min2 (by rfl) T.z_min bt_min (qa_cons (qe_var 3 (pv 3)) (qa_cons qe_int qa_nil))))) qss_nil)
      (qss_cons (qs_for PassesOwn.never rfl (qi_range1 (by rfl) T.z_range (qa_cons (qe_var 3 (pv 3)) qa_nil)) (qg_name (i := 4) sc_law_kinds.nd rfl (Or.inl rfl)) (qss_cons (qs_set (i := 5) sc_law_kinds.nd rfl (Or.inl rfl) (qe_call [] (ok_law_word T) (hr.mono (by decide)) (by rfl) T.m_law_word T.F_law_word.kp T.b_law_word .nil (fun _ _ _ => .nil) (qa_cons (qe_var 0 (pv 0)) qa_nil)))
      (qss_cons (qs_set (i := 6) sc_law_kinds.nd rfl (Or.inl rfl) (qe_lst qa_nil))
      (qss_cons (qs_for PassesOwn.never rfl (qi_range1 (by rfl) T.z_range (qa_cons (qe_op op_addQ lk_add qe_int (qe_call [] (ok_law_take T) (hr.mono (by decide)) (by rfl) T.m_law_take T.F_law_take.kp T.b_law_take .nil (fun _ _ _ => .nil) (qa_cons (qe_var 0 (pv 0)) (qa_cons (qe_var 2 (pv 2)) qa_nil)))) qa_nil)) (qg_name (i := 7) sc_law_kinds.nd rfl (Or.inl rfl)) (qss_cons (qs_set (i := 8) sc_law_kinds.nd rfl (Or.inl rfl) (qe_call [] (ok_law_word T) (hr.mono (by decide)) (by rfl) T.m_law_word T.F_law_word.kp T.b_law_word .nil (fun _ _ _ => .nil) (qa_cons (qe_var 0 (pv 0)) qa_nil)))
      (qss_one (qs_if (qt_cmp (op_notInQ hr.units) lk_notIn (qe_var 8 (pv 8)) (qe_var 6 (pv 6)) (by with_unfolding_all rfl)) (qss_one (qs_expr (qe_m PySem.F.slot_list_append PySem.F.type_list_append mt_append lk_append (qe_var 6 (pv 6)) (qa_cons (qe_var 8 (pv 8)) qa_nil)))) qss_nil))))
      (qss_cons (qs_dput hr.units (qe_var 1 (pv 1)) (qe_var 5 (pv 5)) (qe_var 6 (pv 6)))
      (qss_one (qs_set (i := 2) sc_law_kinds.nd rfl (Or.inl rfl) (qe_callB (call_min2 rfl) lk_min2 (by rfl) T.z_min bt_min (qa_cons (qe_var 2 (pv 2)) (qa_cons qe_int qa_nil))))))))))
      (qss_one (qs_ret (qe_var 1 (pv 1))))))))))
theorem sc_law_book : FnScope ["_law_script", "_law_first_here", "_law_words", "_law_most", "_law_book_here", "_law_k", "_law_left_here", "_law_pair", "_law_some", "_law_tree"] ["_law_script", "_law_first_here", "_law_words", "_law_most"] (defScope (top 23)) := ⟨rfl, rfl, rfl, by decide +kernel, rfl, by decide +kernel, by decide +kernel⟩
theorem ok_law_book (T : Txt K mg t) : FnOk P w K mg base CX0 63 t.f_law_book t.d_law_book ["_law_script", "_law_first_here", "_law_words", "_law_most"] (spD K F_law_book) := by
  refine T.F_law_book.okQ (n := 4) (m := 10) (B := B_law_book) sc_law_book rfl rfl (by decide) rfl fun cdv A outer s H E hr => ?_
  unfold B_law_book
  exact (qss_cons (qs_set (i := 4) sc_law_book.nd rfl (Or.inl rfl) (qe_lst qa_nil))
      (qss_cons (qs_for PassesOwn.never rfl (qi_range2 (by rfl) T.z_range (qa_cons (qe_var 1 (pv 1)) (qa_cons (qe_callB (call_min2 rfl) lk_min2 (by rfl) T.z_min bt_min (qa_cons (qe_op op_addQ lk_add (qe_var 1 (pv 1)) (qe_var 3 (pv 3))) (qa_cons (qe_callB call_len_seq lk_len (by rfl) T.z_len bt_len (qa_cons (qe_var 0 (pv 0)) qa_nil)) qa_nil))) qa_nil))) (qg_name (i := 5) sc_law_book.nd rfl (Or.inl rfl)) (qss_cons (qs_set (i := 6) sc_law_book.nd rfl (Or.inl rfl) (qe_call [] (ok_law_left T) (hr.mono (by decide)) (by rfl) T.m_law_left T.F_law_left.kp T.b_law_left .nil (fun _ _ _ => .nil) (qa_cons (qe_var 0 (pv 0)) (qa_cons (qe_var 5 (pv 5)) qa_nil))))
      (qss_cons (qs_set (i := 7) sc_law_book.nd rfl (Or.inl rfl) (qe_call [] (ok_law_worth T) (hr.mono (by decide)) (by rfl) T.m_law_worth T.F_law_worth.kp T.b_law_worth .nil (fun _ _ _ => .nil) (qa_cons (qe_var 6 (pv 6)) qa_nil)))
      (qss_cons (qs_asg (qe_call [] (ok_law_built T) (hr.mono (by decide)) (by rfl) T.m_law_built T.F_law_built.kp T.b_law_built .nil (fun _ _ _ => .nil) (qa_cons (qe_var 6 (pv 6)) (qa_cons (qe_var 2 (pv 2)) (qa_cons qe_int (qa_cons qe_str qa_nil))))) (qg_tup rfl (qgs_cons (qg_name (i := 8) sc_law_book.nd rfl (Or.inl rfl)) (qgs_cons (qg_name (i := 9) sc_law_book.nd rfl (Or.inl rfl)) qgs_nil))))
      (qss_one (qs_expr (qe_m PySem.F.slot_list_append PySem.F.type_list_append mt_append lk_append (qe_var 4 (pv 4)) (qa_cons (qe_tup (qa_cons (qe_var 9 (pv 9)) (qa_cons (qe_var 7 (pv 7)) qa_nil))) qa_nil))))))))
      (qss_one (qs_ret (qe_var 4 (pv 4))))))
theorem sc_law_choices : FnScope ["_law_kinds_here", "_law_some", "_law_name", "_law_more", "_law_choice", "_law_mark"] ["_law_kinds_here"] (defScope (top 24)) := ⟨rfl, rfl, rfl, by decide +kernel, rfl, by decide +kernel, by decide +kernel⟩
theorem ok_law_choices (T : Txt K mg t) : FnOk P w K mg base CX0 1 t.f_law_choices t.d_law_choices ["_law_kinds_here"] (spD K F_law_choices) := by
  refine T.F_law_choices.okQ (n := 1) (m := 6) (B := B_law_choices) sc_law_choices rfl rfl (by decide) rfl fun cdv A outer s H E hr => ?_
  unfold B_law_choices
  exact (qss_cons (qs_set (i := 1) sc_law_choices.nd rfl (Or.inl rfl) (qe_lst (qa_cons qe_dnew qa_nil)))
      (qss_cons (qs_for PassesOwn.never rfl (qi_keys (qe_var 0 (pv 0))) (qg_name (i := 2) sc_law_choices.nd rfl (Or.inl rfl)) (qss_cons (qs_set (i := 3) sc_law_choices.nd rfl (Or.inl rfl) (qe_lst qa_nil))
      (qss_cons (qs_for PassesOwn.never rfl (qi_list (qe_var 1 (pv 1))) (qg_name (i := 4) sc_law_choices.nd rfl (Or.inl rfl)) (qss_one (qs_for PassesOwn.never rfl (qi_list (qe_rix hr.units (qe_var 0 (pv 0)) (qe_var 2 (pv 2)) (fun _ _ => rfl))) (qg_name (i := 5) sc_law_choices.nd rfl (Or.inl rfl)) (qss_cons (qs_expr (qe_m PySem.F.slot_list_append PySem.F.type_list_append mt_append lk_append (qe_var 3 (pv 3)) (qa_cons (qe_callTy call_dictC lk_dictC (by rfl) T.z_dict bt_dict (qa_cons (qe_var 4 (pv 4)) qa_nil)) qa_nil)))
      (qss_one (qs_dput hr.units (qe_item (qe_var 3 (pv 3)) (qe_neg qe_int) (fun _ _ => rfl)) (qe_var 2 (pv 2)) (qe_var 5 (pv 5))))))))
      (qss_one (qs_set (i := 1) sc_law_choices.nd rfl (Or.inl rfl) (qe_var 3 (pv 3)))))))
      (qss_one (qs_ret (qe_var 1 (pv 1))))))
theorem sc_law_at : FnScope ["_law_book_here", "_law_marks", "_law_first_here"] ["_law_book_here", "_law_marks"] (defScope (top 25)) := ⟨rfl, rfl, rfl, by decide +kernel, rfl, by decide +kernel, by decide +kernel⟩
theorem ok_law_at (T : Txt K mg t) : FnOk P w K mg base CX0 62 t.f_law_at t.d_law_at ["_law_book_here", "_law_marks"] (spD K F_law_at) := by
  refine T.F_law_at.okQ (n := 2) (m := 3) (B := B_law_at) sc_law_at rfl rfl (by decide) rfl fun cdv A outer s H E hr => ?_
  unfold B_law_at
  exact (qss_cons (qs_set (i := 2) sc_law_at.nd rfl (Or.inl rfl) (qe_call [] (ok_law_first T) (hr.mono (by decide)) (by rfl) T.m_law_first T.F_law_first.kp T.b_law_first .nil (fun _ _ _ => .nil) (qa_cons (qe_var 0 (pv 0)) (qa_cons (qe_var 1 (pv 1)) qa_nil))))
      (qss_cons (qs_if (qt_cmp op_isN lk_isN (qe_var 2 (pv 2)) qe_non (nomark _)) (qss_one (qs_ret (qe_tup (qa_cons qe_int (qa_cons qe_int qa_nil))))) qss_nil)
      (qss_one (qs_ret (qe_item (qe_item (qe_var 0 (pv 0)) (qe_var 2 (pv 2)) (fun _ _ => rfl)) qe_int (fun _ _ => rfl))))))
theorem sc_law_other : FnScope ["_law_left_here", "_law_book_here", "_law_lean", "_law_way", "_law_at_here"] ["_law_left_here", "_law_book_here", "_law_lean"] (defScope (top 26)) := ⟨rfl, rfl, rfl, by decide +kernel, rfl, by decide +kernel, by decide +kernel⟩
theorem ok_law_other (T : Txt K mg t) : FnOk P w K mg base CX0 3 t.f_law_other t.d_law_other ["_law_left_here", "_law_book_here", "_law_lean"] (spD K F_law_other) := by
  refine T.F_law_other.okQ (n := 3) (m := 5) (B := B_law_other) sc_law_other rfl rfl (by decide) rfl fun cdv A outer s H E hr => ?_
  unfold B_law_other
  exact (qss_cons (qs_set (i := 3) sc_law_other.nd rfl (Or.inl rfl) (qe_call [] (ok_law_take T) (hr.mono (by decide)) (by rfl) T.m_law_take T.F_law_take.kp T.b_law_take .nil (fun _ _ _ => .nil) (qa_cons (qe_var 0 (pv 0)) (qa_cons qe_int qa_nil))))
      (qss_cons (qs_set (i := 4) sc_law_other.nd rfl (Or.inl rfl) (qe_call [] (ok_law_take T) (hr.mono (by decide)) (by rfl) T.m_law_take T.F_law_take.kp T.b_law_take .nil (fun _ _ _ => .nil) (qa_cons (qe_var 0 (pv 0)) (qa_cons (qe_callB (call_max2 rfl) lk_max2 (by rfl) T.z_max bt_max (qa_cons qe_int (qa_cons (qe_callB call_len_seq lk_len (by rfl) T.z_len bt_len (qa_cons (qe_var 1 (pv 1)) qa_nil)) qa_nil))) qa_nil))))
      (qss_cons (qs_if (PW.pt (qw_or (qt_cmp (op_eqQ hr.units) lk_eq (qe_var 3 (pv 3)) qe_int (nomark _)) (qw_or1 (qt_cmp (op_eqQ hr.units) lk_eqW (qe_var 1 (pv 1)) (qe_lst qa_nil) (nomark _))))) (qss_one (qs_ret (qe_var 2 (pv 2)))) qss_nil)
      (qss_cons (qs_if (qt_cmp (op_eqQ hr.units) lk_eq (qe_var 3 (pv 3)) qe_int (nomark _)) (qss_one (qs_ret (qe_op op_addQ lk_add (qe_op op_addQ lk_add (qe_slice (qe_var 1 (pv 1)) qo_none (qo_some (qe_var 4 (pv 4)))) (qe_lst (qa_cons (qe_tup (qa_cons (qe_item (qe_item (qe_var 1 (pv 1)) (qe_var 4 (pv 4)) (fun _ _ => rfl)) qe_int (fun _ _ => rfl)) (qa_cons (qe_call [] (ok_law_worth T) (hr.mono (by decide)) (by rfl) T.m_law_worth T.F_law_worth.kp T.b_law_worth .nil (fun _ _ _ => .nil) (qa_cons (qe_var 0 (pv 0)) qa_nil)) qa_nil))) qa_nil))) (qe_slice (qe_var 1 (pv 1)) (qo_some (qe_op op_addQ lk_add (qe_var 4 (pv 4)) qe_int)) qo_none)))) qss_nil)
      (qss_cons (qs_if (qt_cmp (op_eqQ hr.units) lk_eq (qe_var 3 (pv 3)) qe_int (nomark _)) (qss_one (qs_ret (qe_op op_addQ lk_add (qe_slice (qe_var 1 (pv 1)) qo_none (qo_some (qe_var 4 (pv 4)))) (qe_slice (qe_var 1 (pv 1)) (qo_some (qe_op op_addQ lk_add (qe_var 4 (pv 4)) qe_int)) qo_none)))) qss_nil)
      (qss_cons (qs_if (qt_cmp (op_eqQ hr.units) lk_eq (qe_var 3 (pv 3)) qe_int (nomark _)) (qss_one (qs_ret (qe_op op_addQ lk_add (qe_slice (qe_var 1 (pv 1)) (qo_some (qe_var 4 (pv 4))) qo_none) (qe_slice (qe_var 1 (pv 1)) qo_none (qo_some (qe_var 4 (pv 4))))))) qss_nil)
      (qss_one (qs_ret (qe_ListRev (by rfl) T.z_list (by rfl) T.z_reversed (qa_cons (qe_var 1 (pv 1)) qa_nil))))))))))
theorem sc_law : FnScope ["_law_script", "_law_kinds_here", "_law_words", "_law_name", "_law_book_here", "_law_some", "_law_firsts", "_law_handed", "_law_lean", "_law_choice", "_law_other_here", "_law_kept", "_law_unlike", "_law_told"] ["_law_script"] (defScope (top 27)) := ⟨rfl, rfl, rfl, by decide +kernel, rfl, by decide +kernel, by decide +kernel⟩
theorem ok_law (T : Txt K mg t) : FnOk P w K mg base CX0 64 t.f_law t.d_law ["_law_script"] (spD K F_law) := by
  refine T.F_law.okQ (n := 1) (m := 14) (B := B_law) sc_law rfl rfl (by decide) rfl fun cdv A outer s H E hr => ?_
  unfold B_law
  exact (qss_cons (qs_set (i := 1) sc_law.nd rfl (Or.inl rfl) (qe_call [] (ok_law_kinds T) (hr.mono (by decide)) (by rfl) T.m_law_kinds T.F_law_kinds.kp T.b_law_kinds .nil (fun _ _ _ => .nil) (qa_cons (qe_call [] (ok_law_left T) (hr.mono (by decide)) (by rfl) T.m_law_left T.F_law_left.kp T.b_law_left .nil (fun _ _ _ => .nil) (qa_cons (qe_var 0 (pv 0)) (qa_cons qe_int qa_nil))) qa_nil)))
      (qss_cons (qs_set (i := 2) sc_law.nd rfl (Or.inl rfl) (qe_lst qa_nil))
      (qss_cons (qs_for PassesOwn.never rfl (qi_keys (qe_var 1 (pv 1))) (qg_name (i := 3) sc_law.nd rfl (Or.inr rfl)) (qss_one (qs_set (i := 2) sc_law.nd rfl (Or.inl rfl) (qe_op op_addQ lk_add (qe_var 2 (pv 2)) (qe_comp (N' := ["_law_mark", "_law_name"]) (cap := [none, some 3]) (blk_mk (sc := defScope (top 27)) (NN := ["_law_script", "_law_kinds_here", "_law_words", "_law_name", "_law_book_here", "_law_some", "_law_firsts", "_law_handed", "_law_lean", "_law_choice", "_law_other_here", "_law_kept", "_law_unlike", "_law_told"]) rfl rfl rfl (by decide +kernel) (by decide +kernel) (by decide +kernel) (by decide +kernel)) rfl (qi_list (qe_rix hr.units (qe_var 1 (pv 1)) (qe_var 3 (pv 3)) (fun _ _ => rfl))) (fun _ _ _ _ => (qg_name (i := 0) (show List.Nodup (["_law_mark", "_law_name"] : List Str) by decide +kernel) rfl (Or.inl rfl))) (fun _ _ _ _ => qifs_none) (fun _ _ _ _ => (qe_tup (qa_cons (qe_var 1 (pv 1)) (qa_cons (qe_var 0 (pv 0)) qa_nil)))))))))
      (qss_cons (qs_set (i := 4) sc_law.nd rfl (Or.inr rfl) (qe_call [] (ok_law_book T) (hr.mono (by decide)) (by rfl) T.m_law_book T.F_law_book.kp T.b_law_book .nil (fun _ _ _ => .nil) (qa_cons (qe_var 0 (pv 0)) (qa_cons qe_int (qa_cons (qe_callTy call_list_of lk_list (by rfl) T.z_list bt_list (qa_cons (qe_var 2 (pv 2)) qa_nil)) (qa_cons qe_int qa_nil))))))
      (qss_cons (qs_set (i := 5) sc_law.nd rfl (Or.inl rfl) (qe_call [] (ok_law_choices T) (hr.mono (by decide)) (by rfl) T.m_law_choices T.F_law_choices.kp T.b_law_choices .nil (fun _ _ _ => .nil) (qa_cons (qe_var 1 (pv 1)) qa_nil)))
      (qss_cons (qs_set (i := 6) sc_law.nd rfl (Or.inr rfl) (qe_comp (N' := ["_law_choice", "_law_book_here"]) (cap := [none, some 4]) (blk_mk (sc := defScope (top 27)) (NN := ["_law_script", "_law_kinds_here", "_law_words", "_law_name", "_law_book_here", "_law_some", "_law_firsts", "_law_handed", "_law_lean", "_law_choice", "_law_other_here", "_law_kept", "_law_unlike", "_law_told"]) rfl rfl rfl (by decide +kernel) (by decide +kernel) (by decide +kernel) (by decide +kernel)) rfl (qi_list (qe_var 5 (pv 5))) (fun _ _ _ _ => (qg_name (i := 0) (show List.Nodup (["_law_choice", "_law_book_here"] : List Str) by decide +kernel) rfl (Or.inl rfl))) (fun _ _ _ _ => qifs_none) (fun _ _ _ _ => (qe_call [] (ok_law_first T) (hr.mono (by decide)) (by rfl) T.m_law_first T.F_law_first.kp T.b_law_first .nil (fun _ _ _ => .nil) (qa_cons (qe_var 1 (pv 1)) (qa_cons (qe_var 0 (pv 0)) qa_nil))))))
      (qss_cons (qs_set (i := 7) sc_law.nd rfl (Or.inl rfl) (qe_callTy call_list_of lk_list (by rfl) T.z_list bt_list (qa_cons (qe_var 4 (pv 4)) qa_nil)))
      (qss_cons (qs_set (i := 8) sc_law.nd rfl (Or.inl rfl) (qe_call [] (ok_leaner T) (hr.mono (by decide)) (by rfl) T.m_leaner T.F_leaner.kp T.b_leaner .nil (fun _ _ _ => .nil) (qa_cons (qe_var 7 (pv 7)) (qa_cons (qe_var 1 (pv 1)) qa_nil))))
      (qss_cons (qs_if (PW.pt (qw_or (qt_cmp (op_neQ hr.units) lk_neW (qe_var 8 (pv 8)) (qe_comp (N' := ["_law_k", "_law_book_here", "_law_firsts"]) (cap := [none, some 4, some 6]) (blk_mk (sc := defScope (top 27)) (NN := ["_law_script", "_law_kinds_here", "_law_words", "_law_name", "_law_book_here", "_law_some", "_law_firsts", "_law_handed", "_law_lean", "_law_choice", "_law_other_here", "_law_kept", "_law_unlike", "_law_told"]) rfl rfl rfl (by decide +kernel) (by decide +kernel) (by decide +kernel) (by decide +kernel)) rfl (qi_range1 (by rfl) T.z_range (qa_cons (qe_callB call_len_seq lk_len (by rfl) T.z_len bt_len (qa_cons (qe_var 4 (pv 4)) qa_nil)) qa_nil)) (fun _ _ _ _ => (qg_name (i := 0) (show List.Nodup (["_law_k", "_law_book_here", "_law_firsts"] : List Str) by decide +kernel) rfl (Or.inl rfl))) (fun _ _ _ _ => (qifs_one (qt_cmp (op_inQ hr.units) lk_in (qe_var 0 (pv 0)) (qe_var 2 (pv 2)) (by with_unfolding_all rfl)))) (fun _ _ _ _ => (qe_item (qe_var 1 (pv 1)) (qe_var 0 (pv 0)) (fun _ _ => rfl)))) (nomark _)) (qw_or1 (qt_cmp (op_neQ hr.units) lk_neW (qe_var 7 (pv 7)) (qe_var 4 (pv 4)) (nomark _))))) (qss_one (qs_ret qe_bl)) qss_nil)
      (qss_cons (qs_for PassesOwn.never rfl (qi_list (qe_var 5 (pv 5))) (qg_name (i := 9) sc_law.nd rfl (Or.inl rfl)) (qss_one (qs_if (qt_cmp (op_neQ hr.units) lk_ne (qe_call [] (ok_worth T) (hr.mono (by decide)) (by rfl) T.m_worth T.F_worth.kp T.b_worth .nil (fun _ _ _ => .nil) (qa_cons (qe_var 8 (pv 8)) (qa_cons (qe_var 9 (pv 9)) qa_nil))) (qe_call [] (ok_law_at T) (hr.mono (by decide)) (by rfl) T.m_law_at T.F_law_at.kp T.b_law_at .nil (fun _ _ _ => .nil) (qa_cons (qe_var 4 (pv 4)) (qa_cons (qe_var 9 (pv 9)) qa_nil))) (nomark _)) (qss_one (qs_ret qe_bl)) qss_nil)))
      (qss_cons (qs_set (i := 10) sc_law.nd rfl (Or.inr rfl) (qe_call [] (ok_law_other T) (hr.mono (by decide)) (by rfl) T.m_law_other T.F_law_other.kp T.b_law_other .nil (fun _ _ _ => .nil) (qa_cons (qe_call [] (ok_law_left T) (hr.mono (by decide)) (by rfl) T.m_law_left T.F_law_left.kp T.b_law_left .nil (fun _ _ _ => .nil) (qa_cons (qe_var 0 (pv 0)) (qa_cons qe_int qa_nil))) (qa_cons (qe_var 4 (pv 4)) (qa_cons (qe_callTy call_list_of lk_list (by rfl) T.z_list bt_list (qa_cons (qe_var 8 (pv 8)) qa_nil)) qa_nil)))))
      (qss_cons (qs_set (i := 11) sc_law.nd rfl (Or.inl rfl) (qe_callTy call_list_of lk_list (by rfl) T.z_list bt_list (qa_cons (qe_var 8 (pv 8)) qa_nil)))
      (qss_cons (qs_expr (qe_m PySem.F.slot_list_append PySem.F.type_list_append mt_append lk_append (qe_var 8 (pv 8)) (qa_cons (qe_tup (qa_cons (qe_tup (qa_cons qe_str qa_nil)) (qa_cons (qe_tup (qa_cons qe_int (qa_cons qe_int qa_nil))) qa_nil))) qa_nil)))
      (qss_cons (qs_if (PW.pt (qw_or (qt_cmp (op_neQ hr.units) lk_neW (qe_call [] (ok_leaner T) (hr.mono (by decide)) (by rfl) T.m_leaner T.F_leaner.kp T.b_leaner .nil (fun _ _ _ => .nil) (qa_cons (qe_var 7 (pv 7)) (qa_cons (qe_var 1 (pv 1)) qa_nil))) (qe_var 11 (pv 11)) (nomark _)) (qw_or1 (qt_cmp op_notN lk_notN (qe_call [] (ok_parted T) (hr.mono (by decide)) (by rfl) T.m_parted T.F_parted.kp T.b_parted .nil (fun _ _ _ => .nil) (qa_cons (qe_var 4 (pv 4)) (qa_cons (qe_var 11 (pv 11)) (qa_cons (qe_var 1 (pv 1)) qa_nil)))) qe_non (nomark _))))) (qss_one (qs_ret qe_bl)) qss_nil)
      (qss_cons (qs_comp (i := 12) (N' := ["_law_choice", "_law_book_here", "_law_other_here"]) (cap := [none, some 4, some 10]) (blk_mk (sc := defScope (top 27)) (NN := ["_law_script", "_law_kinds_here", "_law_words", "_law_name", "_law_book_here", "_law_some", "_law_firsts", "_law_handed", "_law_lean", "_law_choice", "_law_other_here", "_law_kept", "_law_unlike", "_law_told"]) rfl rfl rfl (by decide +kernel) (by decide +kernel) (by decide +kernel) (by decide +kernel)) rfl (qi_list (qe_var 5 (pv 5))) (fun _ _ _ _ => (qg_name (i := 0) (show List.Nodup (["_law_choice", "_law_book_here", "_law_other_here"] : List Str) by decide +kernel) rfl (Or.inl rfl))) (fun _ _ _ _ => (qifs_one (qt_cmp (op_neQ hr.units) lk_ne (qe_call [] (ok_law_at T) (hr.mono (by decide)) (by rfl) T.m_law_at T.F_law_at.kp T.b_law_at .nil (fun _ _ _ => .nil) (qa_cons (qe_var 1 (pv 1)) (qa_cons (qe_var 0 (pv 0)) qa_nil))) (qe_call [] (ok_law_at T) (hr.mono (by decide)) (by rfl) T.m_law_at T.F_law_at.kp T.b_law_at .nil (fun _ _ _ => .nil) (qa_cons (qe_var 2 (pv 2)) (qa_cons (qe_var 0 (pv 0)) qa_nil))) (nomark _)))) (fun _ _ _ _ => (qe_var 0 (pv 0))) sc_law.nd rfl (Or.inl rfl) (by rfl))
      (qss_cons (qs_set (i := 13) sc_law.nd rfl (Or.inl rfl) (qe_call [] (ok_parted T) (hr.mono (by decide)) (by rfl) T.m_parted T.F_parted.kp T.b_parted .nil (fun _ _ _ => .nil) (qa_cons (qe_var 4 (pv 4)) (qa_cons (qe_var 10 (pv 10)) (qa_cons (qe_var 1 (pv 1)) qa_nil)))))
      (qss_cons (qs_if (qt_cmp (op_eqNil hr.units1) lk_eqNil (qe_var 12 (pv 12)) (qe_lst qa_nil) (nomark _)) (qss_one (qs_ret (qe_cmp op_isN lk_isN (qe_var 13 (pv 13)) qe_non (nomark _)))) qss_nil)
      (qss_cons (qs_if (qt_cmp (op_notInDs hr.units2) lk_notInDs (qe_var 13 (pv 13)) (qe_var 12 (pv 12)) (by with_unfolding_all rfl)) (qss_one (qs_ret qe_bl)) qss_nil)
      (qss_cons (qs_dput hr.units (qe_var 13 (pv 13)) qe_str qe_str)
      (qss_one (qs_ret (qe_and (qe_cmp (op_inDs hr.units2) lk_inDs (qe_call [] (ok_parted T) (hr.mono (by decide)) (by rfl) T.m_parted T.F_parted.kp T.b_parted .nil (fun _ _ _ => .nil) (qa_cons (qe_var 4 (pv 4)) (qa_cons (qe_var 10 (pv 10)) (qa_cons (qe_var 1 (pv 1)) qa_nil)))) (qe_var 12 (pv 12)) (by with_unfolding_all rfl)) (qe_one (qe_cmp (op_inDs hr.units2) lk_inDs (qe_call [] (ok_parted T) (hr.mono (by decide)) (by rfl) T.m_parted T.F_parted.kp T.b_parted .nil (fun _ _ _ => .nil) (qa_cons (qe_var 10 (pv 10)) (qa_cons (qe_var 4 (pv 4)) (qa_cons (qe_var 1 (pv 1)) qa_nil)))) (qe_var 12 (pv 12)) (by with_unfolding_all rfl)))))))))))))))))))))))))
end
theorem txt_mk {K : PySem.W.Frag} {h : Heap} {mg : Str → Option Value} (X : K.In h) (G : h.Ns mainGlobals mg)
    {f0 : Addr} {od0 an0 : Option Addr} {sl0 : Array (Option Value)} {oc0 kV0 dc0 pm0 cd0 ct0 : Value}
    {f1 : Addr} {od1 an1 : Option Addr} {sl1 : Array (Option Value)} {oc1 kV1 dc1 pm1 cd1 ct1 : Value}
    {f2 : Addr} {od2 an2 : Option Addr} {sl2 : Array (Option Value)} {oc2 kV2 dc2 pm2 cd2 ct2 : Value}
    {f3 : Addr} {od3 an3 : Option Addr} {sl3 : Array (Option Value)} {oc3 kV3 dc3 pm3 cd3 ct3 : Value}
    {f4 : Addr} {od4 an4 : Option Addr} {sl4 : Array (Option Value)} {oc4 kV4 dc4 pm4 cd4 ct4 : Value}
    {f5 : Addr} {od5 an5 : Option Addr} {sl5 : Array (Option Value)} {oc5 kV5 dc5 pm5 cd5 ct5 : Value}
    {f6 : Addr} {od6 an6 : Option Addr} {sl6 : Array (Option Value)} {oc6 kV6 dc6 pm6 cd6 ct6 : Value}
    {f7 : Addr} {od7 an7 : Option Addr} {sl7 : Array (Option Value)} {oc7 kV7 dc7 pm7 cd7 ct7 : Value}
    {f8 : Addr} {od8 an8 : Option Addr} {sl8 : Array (Option Value)} {oc8 kV8 dc8 pm8 cd8 ct8 : Value}
    {f9 : Addr} {od9 an9 : Option Addr} {sl9 : Array (Option Value)} {oc9 kV9 dc9 pm9 cd9 ct9 : Value}
    {f10 : Addr} {od10 an10 : Option Addr} {sl10 : Array (Option Value)} {oc10 kV10 dc10 pm10 cd10 ct10 : Value}
    {f11 : Addr} {od11 an11 : Option Addr} {sl11 : Array (Option Value)} {oc11 kV11 dc11 pm11 cd11 ct11 : Value}
    {f12 : Addr} {od12 an12 : Option Addr} {sl12 : Array (Option Value)} {oc12 kV12 dc12 pm12 cd12 ct12 : Value}
    {f13 : Addr} {od13 an13 : Option Addr} {sl13 : Array (Option Value)} {oc13 kV13 dc13 pm13 cd13 ct13 : Value}
    {f14 : Addr} {od14 an14 : Option Addr} {sl14 : Array (Option Value)} {oc14 kV14 dc14 pm14 cd14 ct14 : Value}
    {f15 : Addr} {od15 an15 : Option Addr} {sl15 : Array (Option Value)} {oc15 kV15 dc15 pm15 cd15 ct15 : Value}
    {f16 : Addr} {od16 an16 : Option Addr} {sl16 : Array (Option Value)} {oc16 kV16 dc16 pm16 cd16 ct16 : Value}
    {f17 : Addr} {od17 an17 : Option Addr} {sl17 : Array (Option Value)} {oc17 kV17 dc17 pm17 cd17 ct17 : Value}
    {f18 : Addr} {od18 an18 : Option Addr} {sl18 : Array (Option Value)} {oc18 kV18 dc18 pm18 cd18 ct18 : Value}
    {f19 : Addr} {od19 an19 : Option Addr} {sl19 : Array (Option Value)} {oc19 kV19 dc19 pm19 cd19 ct19 : Value}
    {f20 : Addr} {od20 an20 : Option Addr} {sl20 : Array (Option Value)} {oc20 kV20 dc20 pm20 cd20 ct20 : Value}
    {f21 : Addr} {od21 an21 : Option Addr} {sl21 : Array (Option Value)} {oc21 kV21 dc21 pm21 cd21 ct21 : Value}
    {f22 : Addr} {od22 an22 : Option Addr} {sl22 : Array (Option Value)} {oc22 kV22 dc22 pm22 cd22 ct22 : Value}
    {f23 : Addr} {od23 an23 : Option Addr} {sl23 : Array (Option Value)} {oc23 kV23 dc23 pm23 cd23 ct23 : Value}
    (a0 : PySem.W.nsIn K mainGlobals "holds" = some (some (.ref f0)))
    (l0 : K.lookup f0 = some ⟨oc0, od0, .func (PySem.W.fnOf "holds" "holds" (defArgs (top 1)) (defBody (top 1)) (defScope (top 1)) .none kV0 dc0 pm0 an0 cd0 ct0), sl0⟩)
    (c0 : PySem.W.codeIn K cd0 "holds" = true) (k0 : PySem.W.keepIn K (.ref f0) = true)
    (a1 : PySem.W.nsIn K mainGlobals "first_holding" = some (some (.ref f1)))
    (l1 : K.lookup f1 = some ⟨oc1, od1, .func (PySem.W.fnOf "first_holding" "first_holding" (defArgs (top 3)) (defBody (top 3)) (defScope (top 3)) .none kV1 dc1 pm1 an1 cd1 ct1), sl1⟩)
    (c1 : PySem.W.codeIn K cd1 "first_holding" = true) (k1 : PySem.W.keepIn K (.ref f1) = true)
    (a2 : PySem.W.nsIn K mainGlobals "worth" = some (some (.ref f2)))
    (l2 : K.lookup f2 = some ⟨oc2, od2, .func (PySem.W.fnOf "worth" "worth" (defArgs (top 4)) (defBody (top 4)) (defScope (top 4)) .none kV2 dc2 pm2 an2 cd2 ct2), sl2⟩)
    (c2 : PySem.W.codeIn K cd2 "worth" = true) (k2 : PySem.W.keepIn K (.ref f2) = true)
    (a3 : PySem.W.nsIn K mainGlobals "with_name" = some (some (.ref f3)))
    (l3 : K.lookup f3 = some ⟨oc3, od3, .func (PySem.W.fnOf "with_name" "with_name" (defArgs (top 5)) (defBody (top 5)) (defScope (top 5)) .none kV3 dc3 pm3 an3 cd3 ct3), sl3⟩)
    (c3 : PySem.W.codeIn K cd3 "with_name" = true) (k3 : PySem.W.keepIn K (.ref f3) = true)
    (a4 : PySem.W.nsIn K mainGlobals "choices_of" = some (some (.ref f4)))
    (l4 : K.lookup f4 = some ⟨oc4, od4, .func (PySem.W.fnOf "choices_of" "choices_of" (defArgs (top 6)) (defBody (top 6)) (defScope (top 6)) .none kV4 dc4 pm4 an4 cd4 ct4), sl4⟩)
    (c4 : PySem.W.codeIn K cd4 "choices_of" = true) (k4 : PySem.W.keepIn K (.ref f4) = true)
    (a5 : PySem.W.nsIn K mainGlobals "counting" = some (some (.ref f5)))
    (l5 : K.lookup f5 = some ⟨oc5, od5, .func (PySem.W.fnOf "counting" "counting" (defArgs (top 7)) (defBody (top 7)) (defScope (top 7)) .none kV5 dc5 pm5 an5 cd5 ct5), sl5⟩)
    (c5 : PySem.W.codeIn K cd5 "counting" = true) (k5 : PySem.W.keepIn K (.ref f5) = true)
    (a6 : PySem.W.nsIn K mainGlobals "leaner" = some (some (.ref f6)))
    (l6 : K.lookup f6 = some ⟨oc6, od6, .func (PySem.W.fnOf "leaner" "leaner" (defArgs (top 8)) (defBody (top 8)) (defScope (top 8)) .none kV6 dc6 pm6 an6 cd6 ct6), sl6⟩)
    (c6 : PySem.W.codeIn K cd6 "leaner" = true) (k6 : PySem.W.keepIn K (.ref f6) = true)
    (a7 : PySem.W.nsIn K mainGlobals "parted" = some (some (.ref f7)))
    (l7 : K.lookup f7 = some ⟨oc7, od7, .func (PySem.W.fnOf "parted" "parted" (defArgs (top 9)) (defBody (top 9)) (defScope (top 9)) .none kV7 dc7 pm7 an7 cd7 ct7), sl7⟩)
    (c7 : PySem.W.codeIn K cd7 "parted" = true) (k7 : PySem.W.keepIn K (.ref f7) = true)
    (a8 : PySem.W.nsIn K mainGlobals "_law_cell_at" = some (some (.ref f8)))
    (l8 : K.lookup f8 = some ⟨oc8, od8, .func (PySem.W.fnOf "_law_cell_at" "_law_cell_at" (defArgs (top 11)) (defBody (top 11)) (defScope (top 11)) .none kV8 dc8 pm8 an8 cd8 ct8), sl8⟩)
    (c8 : PySem.W.codeIn K cd8 "_law_cell_at" = true) (k8 : PySem.W.keepIn K (.ref f8) = true)
    (a9 : PySem.W.nsIn K mainGlobals "_law_take" = some (some (.ref f9)))
    (l9 : K.lookup f9 = some ⟨oc9, od9, .func (PySem.W.fnOf "_law_take" "_law_take" (defArgs (top 12)) (defBody (top 12)) (defScope (top 12)) .none kV9 dc9 pm9 an9 cd9 ct9), sl9⟩)
    (c9 : PySem.W.codeIn K cd9 "_law_take" = true) (k9 : PySem.W.keepIn K (.ref f9) = true)
    (a10 : PySem.W.nsIn K mainGlobals "_law_left" = some (some (.ref f10)))
    (l10 : K.lookup f10 = some ⟨oc10, od10, .func (PySem.W.fnOf "_law_left" "_law_left" (defArgs (top 13)) (defBody (top 13)) (defScope (top 13)) .none kV10 dc10 pm10 an10 cd10 ct10), sl10⟩)
    (c10 : PySem.W.codeIn K cd10 "_law_left" = true) (k10 : PySem.W.keepIn K (.ref f10) = true)
    (a11 : PySem.W.nsIn K mainGlobals "_law_word" = some (some (.ref f11)))
    (l11 : K.lookup f11 = some ⟨oc11, od11, .func (PySem.W.fnOf "_law_word" "_law_word" (defArgs (top 14)) (defBody (top 14)) (defScope (top 14)) .none kV11 dc11 pm11 an11 cd11 ct11), sl11⟩)
    (c11 : PySem.W.codeIn K cd11 "_law_word" = true) (k11 : PySem.W.keepIn K (.ref f11) = true)
    (a12 : PySem.W.nsIn K mainGlobals "_law_thing" = some (some (.ref f12)))
    (l12 : K.lookup f12 = some ⟨oc12, od12, .func (PySem.W.fnOf "_law_thing" "_law_thing" (defArgs (top 15)) (defBody (top 15)) (defScope (top 15)) .none kV12 dc12 pm12 an12 cd12 ct12), sl12⟩)
    (c12 : PySem.W.codeIn K cd12 "_law_thing" = true) (k12 : PySem.W.keepIn K (.ref f12) = true)
    (a13 : PySem.W.nsIn K mainGlobals "_law_built" = some (some (.ref f13)))
    (l13 : K.lookup f13 = some ⟨oc13, od13, .func (PySem.W.fnOf "_law_built" "_law_built" (defArgs (top 16)) (defBody (top 16)) (defScope (top 16)) .none kV13 dc13 pm13 an13 cd13 ct13), sl13⟩)
    (c13 : PySem.W.codeIn K cd13 "_law_built" = true) (k13 : PySem.W.keepIn K (.ref f13) = true)
    (a14 : PySem.W.nsIn K mainGlobals "_law_lowest" = some (some (.ref f14)))
    (l14 : K.lookup f14 = some ⟨oc14, od14, .func (PySem.W.fnOf "_law_lowest" "_law_lowest" (defArgs (top 17)) (defBody (top 17)) (defScope (top 17)) .none kV14 dc14 pm14 an14 cd14 ct14), sl14⟩)
    (c14 : PySem.W.codeIn K cd14 "_law_lowest" = true) (k14 : PySem.W.keepIn K (.ref f14) = true)
    (a15 : PySem.W.nsIn K mainGlobals "_law_worth" = some (some (.ref f15)))
    (l15 : K.lookup f15 = some ⟨oc15, od15, .func (PySem.W.fnOf "_law_worth" "_law_worth" (defArgs (top 18)) (defBody (top 18)) (defScope (top 18)) .none kV15 dc15 pm15 an15 cd15 ct15), sl15⟩)
    (c15 : PySem.W.codeIn K cd15 "_law_worth" = true) (k15 : PySem.W.keepIn K (.ref f15) = true)
    (a16 : PySem.W.nsIn K mainGlobals "_law_true" = some (some (.ref f16)))
    (l16 : K.lookup f16 = some ⟨oc16, od16, .func (PySem.W.fnOf "_law_true" "_law_true" (defArgs (top 20)) (defBody (top 20)) (defScope (top 20)) .none kV16 dc16 pm16 an16 cd16 ct16), sl16⟩)
    (c16 : PySem.W.codeIn K cd16 "_law_true" = true) (k16 : PySem.W.keepIn K (.ref f16) = true)
    (a17 : PySem.W.nsIn K mainGlobals "_law_first" = some (some (.ref f17)))
    (l17 : K.lookup f17 = some ⟨oc17, od17, .func (PySem.W.fnOf "_law_first" "_law_first" (defArgs (top 21)) (defBody (top 21)) (defScope (top 21)) .none kV17 dc17 pm17 an17 cd17 ct17), sl17⟩)
    (c17 : PySem.W.codeIn K cd17 "_law_first" = true) (k17 : PySem.W.keepIn K (.ref f17) = true)
    (a18 : PySem.W.nsIn K mainGlobals "_law_kinds" = some (some (.ref f18)))
    (l18 : K.lookup f18 = some ⟨oc18, od18, .func (PySem.W.fnOf "_law_kinds" "_law_kinds" (defArgs (top 22)) (defBody (top 22)) (defScope (top 22)) .none kV18 dc18 pm18 an18 cd18 ct18), sl18⟩)
    (c18 : PySem.W.codeIn K cd18 "_law_kinds" = true) (k18 : PySem.W.keepIn K (.ref f18) = true)
    (a19 : PySem.W.nsIn K mainGlobals "_law_book" = some (some (.ref f19)))
    (l19 : K.lookup f19 = some ⟨oc19, od19, .func (PySem.W.fnOf "_law_book" "_law_book" (defArgs (top 23)) (defBody (top 23)) (defScope (top 23)) .none kV19 dc19 pm19 an19 cd19 ct19), sl19⟩)
    (c19 : PySem.W.codeIn K cd19 "_law_book" = true) (k19 : PySem.W.keepIn K (.ref f19) = true)
    (a20 : PySem.W.nsIn K mainGlobals "_law_choices" = some (some (.ref f20)))
    (l20 : K.lookup f20 = some ⟨oc20, od20, .func (PySem.W.fnOf "_law_choices" "_law_choices" (defArgs (top 24)) (defBody (top 24)) (defScope (top 24)) .none kV20 dc20 pm20 an20 cd20 ct20), sl20⟩)
    (c20 : PySem.W.codeIn K cd20 "_law_choices" = true) (k20 : PySem.W.keepIn K (.ref f20) = true)
    (a21 : PySem.W.nsIn K mainGlobals "_law_at" = some (some (.ref f21)))
    (l21 : K.lookup f21 = some ⟨oc21, od21, .func (PySem.W.fnOf "_law_at" "_law_at" (defArgs (top 25)) (defBody (top 25)) (defScope (top 25)) .none kV21 dc21 pm21 an21 cd21 ct21), sl21⟩)
    (c21 : PySem.W.codeIn K cd21 "_law_at" = true) (k21 : PySem.W.keepIn K (.ref f21) = true)
    (a22 : PySem.W.nsIn K mainGlobals "_law_other" = some (some (.ref f22)))
    (l22 : K.lookup f22 = some ⟨oc22, od22, .func (PySem.W.fnOf "_law_other" "_law_other" (defArgs (top 26)) (defBody (top 26)) (defScope (top 26)) .none kV22 dc22 pm22 an22 cd22 ct22), sl22⟩)
    (c22 : PySem.W.codeIn K cd22 "_law_other" = true) (k22 : PySem.W.keepIn K (.ref f22) = true)
    (a23 : PySem.W.nsIn K mainGlobals "law" = some (some (.ref f23)))
    (l23 : K.lookup f23 = some ⟨oc23, od23, .func (PySem.W.fnOf "law" "law" (defArgs (top 27)) (defBody (top 27)) (defScope (top 27)) .none kV23 dc23 pm23 an23 cd23 ct23), sl23⟩)
    (c23 : PySem.W.codeIn K cd23 "law" = true) (k23 : PySem.W.keepIn K (.ref f23) = true)
    (z_abs : PySem.W.nsIn K mainGlobals "abs" = some none)
    (z_all : PySem.W.nsIn K mainGlobals "all" = some none)
    (z_any : PySem.W.nsIn K mainGlobals "any" = some none)
    (z_dict : PySem.W.nsIn K mainGlobals "dict" = some none)
    (z_enumerate : PySem.W.nsIn K mainGlobals "enumerate" = some none)
    (z_int : PySem.W.nsIn K mainGlobals "int" = some none)
    (z_len : PySem.W.nsIn K mainGlobals "len" = some none)
    (z_list : PySem.W.nsIn K mainGlobals "list" = some none)
    (z_max : PySem.W.nsIn K mainGlobals "max" = some none)
    (z_min : PySem.W.nsIn K mainGlobals "min" = some none)
    (z_range : PySem.W.nsIn K mainGlobals "range" = some none)
    (z_reversed : PySem.W.nsIn K mainGlobals "reversed" = some none)
    (z_zip : PySem.W.nsIn K mainGlobals "zip" = some none)
    : ∃ t, Txt K mg t ∧ (∀ (s : Shared) (v : Value), BindsTo s t.d_law ⟨[v], []⟩ [("_law_script", v)]) := by
  have F0 := fun_mk (st := top 1) l0 c0 k0
  have b0 := F0.binds (ps := ["condition", "marks"]) fun _ _ _ _ _ _ us hl => match us, hl with | [_, _], _ => rfl
  have F1 := fun_mk (st := top 3) l1 c1 k1
  have b1 := F1.binds (ps := ["book", "marks"]) fun _ _ _ _ _ _ us hl => match us, hl with | [_, _], _ => rfl
  have F2 := fun_mk (st := top 4) l2 c2 k2
  have b2 := F2.binds (ps := ["book", "marks"]) fun _ _ _ _ _ _ us hl => match us, hl with | [_, _], _ => rfl
  have F3 := fun_mk (st := top 5) l3 c3 k3
  have b3 := F3.binds (ps := ["choices", "name", "marks"]) fun _ _ _ _ _ _ us hl => match us, hl with | [_, _, _], _ => rfl
  have F4 := fun_mk (st := top 6) l4 c4 k4
  have b4 := F4.binds (ps := ["kinds"]) fun _ _ _ _ _ _ us hl => match us, hl with | [_], _ => rfl
  have F5 := fun_mk (st := top 7) l5 c5 k5
  have b5 := F5.binds (ps := ["book", "kinds"]) fun _ _ _ _ _ _ us hl => match us, hl with | [_, _], _ => rfl
  have F6 := fun_mk (st := top 8) l6 c6 k6
  have b6 := F6.binds (ps := ["book", "kinds"]) fun _ _ _ _ _ _ us hl => match us, hl with | [_, _], _ => rfl
  have F7 := fun_mk (st := top 9) l7 c7 k7
  have b7 := F7.binds (ps := ["one", "other", "kinds"]) fun _ _ _ _ _ _ us hl => match us, hl with | [_, _, _], _ => rfl
  have F8 := fun_mk (st := top 11) l8 c8 k8
  have b8 := F8.binds (ps := ["_law_script", "_law_k"]) fun _ _ _ _ _ _ us hl => match us, hl with | [_, _], _ => rfl
  have F9 := fun_mk (st := top 12) l9 c9 k9
  have b9 := F9.binds (ps := ["_law_left_here", "_law_many"]) fun _ _ _ _ _ _ us hl => match us, hl with | [_, _], _ => rfl
  have F10 := fun_mk (st := top 13) l10 c10 k10
  have b10 := F10.binds (ps := ["_law_script", "_law_k"]) fun _ _ _ _ _ _ us hl => match us, hl with | [_, _], _ => rfl
  have F11 := fun_mk (st := top 14) l11 c11 k11
  have b11 := F11.binds (ps := ["_law_left_here"]) fun _ _ _ _ _ _ us hl => match us, hl with | [_], _ => rfl
  have F12 := fun_mk (st := top 15) l12 c12 k12
  have b12 := F12.binds (ps := ["_law_left_here", "_law_words", "_law_room"]) fun _ _ _ _ _ _ us hl => match us, hl with | [_, _, _], _ => rfl
  have F13 := fun_mk (st := top 16) l13 c13 k13
  have b13 := F13.binds (ps := ["_law_left_here", "_law_words", "_law_room", "_law_word_here"]) fun _ _ _ _ _ _ us hl => match us, hl with | [_, _, _, _], _ => rfl
  have F14 := fun_mk (st := top 17) l14 c14 k14
  have b14 := F14.binds (ps := ["_law_above", "_law_below"]) fun _ _ _ _ _ _ us hl => match us, hl with | [_, _], _ => rfl
  have F15 := fun_mk (st := top 18) l15 c15 k15
  have b15 := F15.binds (ps := ["_law_left_here"]) fun _ _ _ _ _ _ us hl => match us, hl with | [_], _ => rfl
  have F16 := fun_mk (st := top 20) l16 c16 k16
  have b16 := F16.binds (ps := ["_law_tree", "_law_marks"]) fun _ _ _ _ _ _ us hl => match us, hl with | [_, _], _ => rfl
  have F17 := fun_mk (st := top 21) l17 c17 k17
  have b17 := F17.binds (ps := ["_law_book_here", "_law_marks"]) fun _ _ _ _ _ _ us hl => match us, hl with | [_, _], _ => rfl
  have F18 := fun_mk (st := top 22) l18 c18 k18
  have b18 := F18.binds (ps := ["_law_left_here"]) fun _ _ _ _ _ _ us hl => match us, hl with | [_], _ => rfl
  have F19 := fun_mk (st := top 23) l19 c19 k19
  have b19 := F19.binds (ps := ["_law_script", "_law_first_here", "_law_words", "_law_most"]) fun _ _ _ _ _ _ us hl => match us, hl with | [_, _, _, _], _ => rfl
  have F20 := fun_mk (st := top 24) l20 c20 k20
  have b20 := F20.binds (ps := ["_law_kinds_here"]) fun _ _ _ _ _ _ us hl => match us, hl with | [_], _ => rfl
  have F21 := fun_mk (st := top 25) l21 c21 k21
  have b21 := F21.binds (ps := ["_law_book_here", "_law_marks"]) fun _ _ _ _ _ _ us hl => match us, hl with | [_, _], _ => rfl
  have F22 := fun_mk (st := top 26) l22 c22 k22
  have b22 := F22.binds (ps := ["_law_left_here", "_law_book_here", "_law_lean"]) fun _ _ _ _ _ _ us hl => match us, hl with | [_, _, _], _ => rfl
  have F23 := fun_mk (st := top 27) l23 c23 k23
  have b23 := F23.binds (ps := ["_law_script"]) fun _ _ _ _ _ _ us hl => match us, hl with | [_], _ => rfl
  exact ⟨⟨f0, _, f1, _, f2, _, f3, _, f4, _, f5, _, f6, _, f7, _, f8, _, f9, _, f10, _, f11, _, f12, _, f13, _, f14, _, f15, _, f16, _, f17, _, f18, _, f19, _, f20, _, f21, _, f22, _, f23, _⟩, ⟨F0, PySem.W.mg_of X G a0, b0, F1, PySem.W.mg_of X G a1, b1, F2, PySem.W.mg_of X G a2, b2, F3, PySem.W.mg_of X G a3, b3, F4, PySem.W.mg_of X G a4, b4, F5, PySem.W.mg_of X G a5, b5, F6, PySem.W.mg_of X G a6, b6, F7, PySem.W.mg_of X G a7, b7, F8, PySem.W.mg_of X G a8, b8, F9, PySem.W.mg_of X G a9, b9, F10, PySem.W.mg_of X G a10, b10, F11, PySem.W.mg_of X G a11, b11, F12, PySem.W.mg_of X G a12, b12, F13, PySem.W.mg_of X G a13, b13, F14, PySem.W.mg_of X G a14, b14, F15, PySem.W.mg_of X G a15, b15, F16, PySem.W.mg_of X G a16, b16, F17, PySem.W.mg_of X G a17, b17, F18, PySem.W.mg_of X G a18, b18, F19, PySem.W.mg_of X G a19, b19, F20, PySem.W.mg_of X G a20, b20, F21, PySem.W.mg_of X G a21, b21, F22, PySem.W.mg_of X G a22, b22, F23, PySem.W.mg_of X G a23, b23, PySem.W.mg_none_of X G z_abs, PySem.W.mg_none_of X G z_all, PySem.W.mg_none_of X G z_any, PySem.W.mg_none_of X G z_dict, PySem.W.mg_none_of X G z_enumerate, PySem.W.mg_none_of X G z_int, PySem.W.mg_none_of X G z_len, PySem.W.mg_none_of X G z_list, PySem.W.mg_none_of X G z_max, PySem.W.mg_none_of X G z_min, PySem.W.mg_none_of X G z_range, PySem.W.mg_none_of X G z_reversed, PySem.W.mg_none_of X G z_zip⟩, fun s v => .of_eq rfl⟩
theorem walk {l : PySem.W.OpenLaw} {q : Program} {loose : List Str} {XP : (Str → Option Value) → Heap → Prop} {YP : World → Heap → Prop} {d : DefRec} {K : Params → PySem.W.Frag} (hn : l.most = some 63) (hdf : d.params.defaults = [])
    (hY : ∀ (w : World) (h : Heap), YP w h → (K w.params).In h)
    (F : ∀ (w : World) (mg : Str → Option Value) (fa : Addr) (h : Heap), (K w.params).In h → h.Ns mainGlobals mg → mg d.name = some (.ref fa) →
      ∃ fd : FuncData, (∀ (s : Shared) (u : Value), BindsTo s fd ⟨[u], []⟩ [("_law_script", u)]) ∧ ∀ base : Heap, (K w.params).In base → base.Ns mainGlobals mg → FnOk l.prog w (K w.params) mg base CX0 64 fa fd ["_law_script"] (spD (K w.params) F_law)) :
    PySem.W.WalkO q loose XP YP l.row.toRowW d [] (fun f vs => PySem.call f vs) :=
  L2.walk_of (n := 63) (k := 64) (x := "_law_script") (CX := fun _ => CX0) (sp := fun w => spD (K w.params) F_law) hn (by decide) hdf ⟨rfl, by decide, by decide⟩ hY F (fun _ _ a ns hl hO hS => let ⟨_, h⟩ := law_true ns hl; law_sp hO hS h) fun _ _ _ _ _ z => z
end Law
open PySem PySem.W PyProof.Rows
set_option maxRecDepth 100000 in
set_option maxHeartbeats 0 in
theorem PySem.Challenge.cw_sheetlay_k50_leaner_and_parted_holds : PySem.Challenge.rw_sheetlay_k50_leaner_and_parted.Holds := by
  w_on; o_law; k_head; (case hw => w_witness2)
  k_fill
  refine Law.walk (l := PySem.Challenge.rw_sheetlay_k50_leaner_and_parted) rfl rfl (fun w h Y => PySem.W.kIn_of Y) ?F
  case F =>
    intro w mg fa h KX G hmg
    have TT : ∃ t, Law.Txt (L2.KOf KX) mg t ∧ (∀ (s : Shared) (v : Value), BindsTo s t.d_law ⟨[v], []⟩ [("_law_script", v)]) := by
      dsimp only [L2.KOf]
      refine' Law.txt_mk KX G ?a0 ?l0 ?c0 ?k0 ?a1 ?l1 ?c1 ?k1 ?a2 ?l2 ?c2 ?k2 ?a3 ?l3 ?c3 ?k3 ?a4 ?l4 ?c4 ?k4 ?a5 ?l5 ?c5 ?k5 ?a6 ?l6 ?c6 ?k6 ?a7 ?l7 ?c7 ?k7 ?a8 ?l8 ?c8 ?k8 ?a9 ?l9 ?c9 ?k9 ?a10 ?l10 ?c10 ?k10 ?a11 ?l11 ?c11 ?k11 ?a12 ?l12 ?c12 ?k12 ?a13 ?l13 ?c13 ?k13 ?a14 ?l14 ?c14 ?k14 ?a15 ?l15 ?c15 ?k15 ?a16 ?l16 ?c16 ?k16 ?a17 ?l17 ?c17 ?k17 ?a18 ?l18 ?c18 ?k18 ?a19 ?l19 ?c19 ?k19 ?a20 ?l20 ?c20 ?k20 ?a21 ?l21 ?c21 ?k21 ?a22 ?l22 ?c22 ?k22 ?a23 ?l23 ?c23 ?k23 ?z_abs ?z_all ?z_any ?z_dict ?z_enumerate ?z_int ?z_len ?z_list ?z_max ?z_min ?z_range ?z_reversed ?z_zip
      (case a0 => k_is)
      (case l0 => k_is)
      (case c0 => k_is)
      (case k0 => k_is)
      (case a1 => k_is)
      (case l1 => k_is)
      (case c1 => k_is)
      (case k1 => k_is)
      (case a2 => k_is)
      (case l2 => k_is)
      (case c2 => k_is)
      (case k2 => k_is)
      (case a3 => k_is)
      (case l3 => k_is)
      (case c3 => k_is)
      (case k3 => k_is)
      (case a4 => k_is)
      (case l4 => k_is)
      (case c4 => k_is)
      (case k4 => k_is)
      (case a5 => k_is)
      (case l5 => k_is)
      (case c5 => k_is)
      (case k5 => k_is)
      (case a6 => k_is)
      (case l6 => k_is)
      (case c6 => k_is)
      (case k6 => k_is)
      (case a7 => k_is)
      (case l7 => k_is)
      (case c7 => k_is)
      (case k7 => k_is)
      (case a8 => k_is)
      (case l8 => k_is)
      (case c8 => k_is)
      (case k8 => k_is)
      (case a9 => k_is)
      (case l9 => k_is)
      (case c9 => k_is)
      (case k9 => k_is)
      (case a10 => k_is)
      (case l10 => k_is)
      (case c10 => k_is)
      (case k10 => k_is)
      (case a11 => k_is)
      (case l11 => k_is)
      (case c11 => k_is)
      (case k11 => k_is)
      (case a12 => k_is)
      (case l12 => k_is)
      (case c12 => k_is)
      (case k12 => k_is)
      (case a13 => k_is)
      (case l13 => k_is)
      (case c13 => k_is)
      (case k13 => k_is)
      (case a14 => k_is)
      (case l14 => k_is)
      (case c14 => k_is)
      (case k14 => k_is)
      (case a15 => k_is)
      (case l15 => k_is)
      (case c15 => k_is)
      (case k15 => k_is)
      (case a16 => k_is)
      (case l16 => k_is)
      (case c16 => k_is)
      (case k16 => k_is)
      (case a17 => k_is)
      (case l17 => k_is)
      (case c17 => k_is)
      (case k17 => k_is)
      (case a18 => k_is)
      (case l18 => k_is)
      (case c18 => k_is)
      (case k18 => k_is)
      (case a19 => k_is)
      (case l19 => k_is)
      (case c19 => k_is)
      (case k19 => k_is)
      (case a20 => k_is)
      (case l20 => k_is)
      (case c20 => k_is)
      (case k20 => k_is)
      (case a21 => k_is)
      (case l21 => k_is)
      (case c21 => k_is)
      (case k21 => k_is)
      (case a22 => k_is)
      (case l22 => k_is)
      (case c22 => k_is)
      (case k22 => k_is)
      (case a23 => k_is)
      (case l23 => k_is)
      (case c23 => k_is)
      (case k23 => k_is)
      (case z_abs => k_is)
      (case z_all => k_is)
      (case z_any => k_is)
      (case z_dict => k_is)
      (case z_enumerate => k_is)
      (case z_int => k_is)
      (case z_len => k_is)
      (case z_list => k_is)
      (case z_max => k_is)
      (case z_min => k_is)
      (case z_range => k_is)
      (case z_reversed => k_is)
      (case z_zip => k_is)
    obtain ⟨t, T, hb⟩ := TT
    have e0 := hmg.symm.trans T.m_law
    cases e0
    exact ⟨_, hb, fun base _ _ => Law.ok_law T⟩

